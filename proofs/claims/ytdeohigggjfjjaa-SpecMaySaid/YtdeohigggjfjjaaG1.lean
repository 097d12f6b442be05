/- What is proved on the way to the statement, part 1 of 7: contracts of the functions, among other things in memory. -/
import Derived.WalkKit
import Derived.Orders
import Derived.Lib.Hide
import Derived.Deep.MidRow
import Derived.Test.YtdeohigggjfjjaaChecked
import Derived.LoopN
import Derived.LoopIn
import Derived.Tactics
import Derived.Deep.Light
import Derived.Deep.LoopGhost
import Derived.Maps.OwnSet

/- A drawn region in whose course the world is turned: walked once, in the order of the text. S says, of what has been listed so far, what every world on the way keeps. 'Chain': operations that turn the world one behind the other, each hanging on the one ahead of it; all others keep what is said. 'Both': two operations that turn it, in whichever order. -/
namespace Go.Proofs.Ytdeohigggjfjjaa.Ord
open Go
set_option maxRecDepth 100000

section
variable {P : Program} {ops : Array Oper} {Q : Exit → Act → World → Prop} {md : Region.Mode} {S : Array Bool → World → Prop}

/-- What a run comes to: the value v, or a call that comes to v; then T. -/
def LandsIn (P : Program) (T : World → Prop) (v : Value) : Result Next → Prop
  | .ok (.value u) w' => u = v ∧ T w'
  | .ok .skip w' => v = undef ∧ T w'
  | .ok (.enter f args) w' => Calls P f args w' fun e w'' => e = .returned v ∧ T w''
  | _ => False
theorem LandsIn.mono {T T' : World → Prop} {v : Value} {r : Result Next} (h : LandsIn P T v r) (hT : ∀ w, T w → T' w) : LandsIn P T' v r := by
  cases r with
  | ok n w' =>
    cases n <;> simp only [LandsIn] at *
    case value u => exact ⟨h.1, hT _ h.2⟩
    case skip => exact ⟨h.1, hT _ h.2⟩
    case enter f args => exact h.mono fun e w'' he => ⟨he.1, hT _ he.2⟩
  | halt x w' => simp only [LandsIn] at h

/-- In frame a the operation, number i, comes to v from every world that is met when it comes up. -/
def Settles (P : Program) (md : Region.Mode) (ops : Array Oper) (S : Array Bool → World → Prop) (i : Nat) (o : Oper) (v : Value) (a : Act) : Prop :=
  (Region.wanted o (yielded ops a.tmps) = true ∧ ∀ l w, i ∈ Region.ready md ops l → S l w → LandsIn P (S (l.setIfInBounds i true)) v ((execOp a.eval o).run P w)) ∨
  (Region.wanted o (yielded ops a.tmps) = false ∧ v = undef ∧ ∀ l w, i ∈ Region.ready md ops l → S l w → S (l.setIfInBounds i true) w)

theorem Settles.of_same {i : Nat} {o : Oper} {v : Value} {a a' : Act} (h : Settles P md ops S i o v a) (he : execOp a'.eval o = execOp a.eval o)
    (hw : Region.wanted o (yielded ops a'.tmps) = Region.wanted o (yielded ops a.tmps)) : Settles P md ops S i o v a' := by
  unfold Settles at *
  rw [he, hw]
  exact h

theorem Settles.wpOp {i : Nat} {o : Oper} {v : Value} {a : Act} {l : Array Bool} (hi : ops[i]? = some o) (h : Settles P md ops S i o v a) (hr : i ∈ Region.ready md ops l) {K : Act → World → Prop} {w : World} (hS : S l w)
    (hK : ∀ w', S (l.setIfInBounds i true) w' → K (a.put o.dst v) w') : wpOp P ops Q i K a w := by
  unfold Go.wpOp
  simp only [hi]
  rcases h with ⟨hw, hv⟩ | ⟨hw, rfl, hv⟩
  · simp only [hw, if_true]
    have := hv l w hr hS
    refine .inl ?_
    unfold Oper.wp
    generalize (execOp a.eval o).run P w = r at *
    cases r with
    | ok n w' =>
      cases n <;> simp only [LandsIn] at this <;> simp only [Oper.upon]
      case value u => obtain ⟨rfl, h2⟩ := this; exact hK _ h2
      case skip => obtain ⟨rfl, h2⟩ := this; exact hK _ h2
      case enter f args =>
        refine Calls.mono this fun e w'' he => ?_
        obtain ⟨rfl, h2⟩ := he
        exact hK _ h2
    | halt x w' => simp only [LandsIn] at this
  · simp only [hw, Bool.false_eq_true, if_false]
    exact hK _ (hv l w hr hS)

/-- Whatever order is picked: each operation comes to a value that hangs on the frame alone. -/
def Every (P : Program) (md : Region.Mode) (ops : Array Oper) (Q : Exit → Act → World → Prop) (S : Array Bool → World → Prop) : Nat → Array Bool → Act → Prop
  | 0, listed, a => Region.ready md ops listed = [] ∧ ∀ w, S listed w → Q .normal a w
  | fuel + 1, listed, a => (Region.ready md ops listed = [] → ∀ w, S listed w → Q .normal a w) ∧
    ∀ i ∈ Region.ready md ops listed, ∃ o v, ops[i]? = some o ∧ Settles P md ops S i o v a ∧ Every P md ops Q S fuel (listed.setIfInBounds i true) (a.put o.dst v)

theorem Every.sound : ∀ (fuel : Nat) (listed : Array Bool) (a : Act), Every P md ops Q S fuel listed a → ∀ w, S listed w → wpAny P md ops Q fuel listed a w
  | 0, _, _, h, w, hS => ⟨h.1, h.2 w hS⟩
  | fuel + 1, listed, a, h, w, hS => ⟨fun h0 => h.1 h0 w hS, fun i hi => by
      obtain ⟨o, v, ho, hs, hE⟩ := h.2 i hi
      exact hs.wpOp ho hi hS fun w' hS' => Every.sound fuel _ _ hE w' hS'⟩

theorem Every.first {i : Nat} {oi : Oper} {v : Value} (hi : ops[i]? = some oi) (hsel : ∀ (j : Nat) (o : Oper) cs b, ops[j]? = some o → o.op ≠ .select cs b) :
    ∀ (fuel : Nat) (listed : Array Bool) (a : Act),
      (∀ j oj, ops[j]? = some oj → j ≠ i → listed.getD j true = false → (∀ e ∈ oj.after, Region.binds md e = true → e.on ≠ i) → oi.apart ops oj = true) →
      i ∈ Region.ready md ops listed → Settles P md ops S i oi v a →
      Every P md ops Q S fuel (listed.setIfInBounds i true) (a.put oi.dst v) → Every P md ops Q S (fuel + 1) listed a := by
  intro fuel
  induction fuel with
  | zero =>
    intro listed a _ hr hy H
    refine ⟨fun h => (by rw [h] at hr; cases hr), fun j hj => ?_⟩
    by_cases hji : j = i
    · subst hji; exact ⟨oi, v, hi, hy, H⟩
    · have := ready_mono hj hji
      rw [H.1] at this
      cases this
  | succ fuel ih =>
    intro listed a hfree hr hy H
    refine ⟨fun h => (by rw [h] at hr; cases hr), fun j hj => ?_⟩
    by_cases hji : j = i
    · subst hji; exact ⟨oi, v, hi, hy, H⟩
    · obtain ⟨oj, u, hoj, hsj, hE⟩ := H.2 j (ready_mono hj hji)
      obtain ⟨hjun, oj', hoj', hall⟩ := mem_ready.1 hj
      obtain rfl : oj = oj' := Option.some.inj (hoj.symm.trans hoj')
      have hnot : ∀ e ∈ oj.after, Region.binds md e = true → e.on ≠ i := fun e he hb heq => by
        have h1 := hall e he hb
        have h0 := (mem_ready.1 hr).1
        rw [heq] at h1
        rcases Nat.lt_or_ge i listed.size with h' | h'
        · simp [h'] at h0 h1; rw [h0] at h1; cases h1
        · simp [Array.getElem?_eq_none h'] at h1
      have hap := hfree j oj hoj hji hjun hnot
      obtain ⟨p1, p2, p3⟩ := Oper.apart_spec hap
      have hfree' : ∀ k ok, ops[k]? = some ok → k ≠ i → (listed.setIfInBounds j true).getD k true = false →
          (∀ e ∈ ok.after, Region.binds md e = true → e.on ≠ i) → oi.apart ops ok = true := fun k ok hk hki hun hno => by
        refine hfree k ok hk hki ?_ hno
        by_cases hjk : j = k
        · subst hjk; exact hjun
        · rw [getD_set_ne true hjk] at hun; exact hun
      refine ⟨oj, u, hoj, hsj.of_same (execOp_put oj (fun cs b => hsel j oj cs b hoj) a oi.dst v p1).symm (wanted_put oj a oi.dst v p1).symm, ?_⟩
      refine ih (listed.setIfInBounds j true) (a.put oj.dst u) hfree' (ready_mono hr (Ne.symm hji)) (hy.of_same (execOp_put oi (fun cs b => hsel i oi cs b hi) a oj.dst u p3) (wanted_put oi a oj.dst u p3)) ?_
      rw [Array.setIfInBounds_comm _ _ hji, ← Act.put_comm a v u p2]
      exact hE

/-- The operations of the text from k on, in its order. -/
def firstK (n k : Nat) : Array Bool := Array.ofFn (n := n) fun i => decide (i.1 < k)
def textFits (md : Region.Mode) (ops : Array Oper) : Bool :=
  Region.noSelect ops && (List.range ops.size).all fun k => Region.free md ops (firstK ops.size k) k && (Region.ready md ops (firstK ops.size k)).contains k
def InText (P : Program) (md : Region.Mode) (ops : Array Oper) (Q : Exit → Act → World → Prop) (S : Array Bool → World → Prop) (k : Nat) (rest : List Oper) (a : Act) : Prop :=
  k + rest.length = ops.size → ops.toList.drop k = rest → Every P md ops Q S rest.length (firstK ops.size k) a

theorem firstK_succ (n k : Nat) : (firstK n k).setIfInBounds k true = firstK n (k + 1) := by
  apply Array.ext
  · simp [firstK]
  · intro i h1 h2
    by_cases hik : i = k
    · subst hik
      simp [firstK]
    · have e := Array.getElem_setIfInBounds_ne (xs := firstK n k) (i := k) (j := i) (a := true) (by simpa using h1) (by omega)
      rw [e]
      simp only [firstK, Array.getElem_ofFn]
      congr 1
      apply propext
      omega
theorem firstK_get (n k i : Nat) (h : i < n) : (firstK n k).getD i false = decide (i < k) := by simp [firstK, h]

theorem InText.nil {a : Act} {k : Nat} (h : ∀ w, S (firstK ops.size ops.size) w → Q .normal a w) : InText P md ops Q S k [] a := fun hk _ => by
  have hk' : k = ops.size := by simpa using hk
  subst hk'
  refine ⟨?_, h⟩
  unfold Region.ready
  rw [List.filter_eq_nil_iff]
  intro i hi
  have : i < ops.size := by simpa using hi
  simp [firstK, this]

theorem InText.cons {o : Oper} {rest : List Oper} {a : Act} {v : Value} {k : Nat} (hf : textFits md ops = true) (hs : Settles P md ops S k o v a) (h : InText P md ops Q S (k + 1) rest (a.put o.dst v)) : InText P md ops Q S k (o :: rest) a := fun hk hd => by
  unfold textFits at hf
  rw [Bool.and_eq_true, List.all_eq_true] at hf
  have hlt : k < ops.size := by simp at hk; omega
  have hf2 := hf.2 k (by simpa using hlt)
  rw [Bool.and_eq_true] at hf2
  have ho : ops[k]? = some o := by
    have h0 : (ops.toList.drop k)[0]? = some o := by rw [hd]; rfl
    simpa using h0
  have hsel : ∀ (j : Nat) (o : Oper) cs b, ops[j]? = some o → o.op ≠ .select cs b := Region.noSelect_spec hf.1
  refine Every.first ho hsel rest.length (firstK ops.size k) a (Region.free_spec ho hf2.1) (by simpa using hf2.2) hs ?_
  rw [firstK_succ]
  refine h (by simp at hk; omega) ?_
  rw [← List.drop_drop, hd]
  rfl

/-- The start. -/
theorem wp_ord {id : Nat} {a : Act} {w : World} (hm : P.follows .mixedOrders = true) (hf : textFits .any ops = true) (hS : S (firstK ops.size 0) w.drew) (h : textFits .any ops = true → InText P .any ops Q S 0 ops.toList a) : (Code.region id ops true).wp P Q a w :=
  wp_region_any hm (by
    have h0 := h hf (by simp) rfl
    have e : firstK ops.size 0 = Array.replicate ops.size false := by
      apply Array.ext
      · simp [firstK]
      · intro i h1 h2; simp [firstK]
    rw [e] at h0 hS
    simpa using Every.sound _ _ _ h0 _ hS)

/-- Operation k hangs on p at once. -/
def hangs (md : Region.Mode) (ops : Array Oper) (k p : Nat) : Bool :=
  match ops[k]? with
  | some o => o.after.any fun e => Region.binds md e && e.on == p
  | none => false
theorem hangs_listed {l : Array Bool} {k p : Nat} (h : hangs md ops k p = true) (hr : k ∈ Region.ready md ops l) : l.getD p false = true := by
  obtain ⟨_, o, ho, hall⟩ := mem_ready.1 hr
  unfold hangs at h
  rw [ho] at h
  obtain ⟨e, he, h2⟩ := Array.any_eq_true'.1 h
  rw [Bool.and_eq_true] at h2
  have := hall e he h2.1
  rwa [show e.on = p by simpa using h2.2] at this

end

/-! ### One behind the other -/
section
variable {P : Program} {ops : Array Oper} {Q : Exit → Act → World → Prop} {md : Region.Mode} {C : World → Prop} {A : Nat → World → Prop} {ps : List Nat}

/-- What is listed of the operations ps are the first j; then C and A j hold. -/
def Chain (n : Nat) (ps : List Nat) (C : World → Prop) (A : Nat → World → Prop) (l : Array Bool) (w : World) : Prop :=
  l.size = n ∧ C w ∧ ∃ j, j ≤ ps.length ∧ (∀ i p, ps[i]? = some p → p < n ∧ l.getD p false = decide (i < j)) ∧ A j w

theorem chain_start {n : Nat} {w : World} (hlt : ∀ p ∈ ps, p < n) (hC : C w) (hA : A 0 w) : Chain n ps C A (firstK n 0) w := by
  refine ⟨by simp [firstK], hC, 0, Nat.zero_le _, fun i p hp => ?_, hA⟩
  have h := hlt p (List.mem_of_getElem? hp)
  exact ⟨h, by rw [firstK_get _ _ _ h]; simp⟩
theorem chain_end {n : Nat} {w : World} (h : Chain n ps C A (firstK n n) w) : C w ∧ A ps.length w := by
  obtain ⟨_, hC, j, hj, hl, hA⟩ := h
  refine ⟨hC, ?_⟩
  rcases Nat.lt_or_ge j ps.length with hlt | hge
  · exfalso
    have h1 := hl j ps[j] (by simp [hlt])
    rw [firstK_get _ _ _ h1.1] at h1
    simp at h1
    omega
  · rwa [show j = ps.length by omega] at hA

theorem chain_set {n : Nat} {l : Array Bool} {k : Nat} {w w' : World} (hk : k ∉ ps) (h : Chain n ps C A l w) (hC : C w') (hA : ∀ j, A j w → A j w') : Chain n ps C A (l.setIfInBounds k true) w' := by
  obtain ⟨hs, _, j, hj, hl, hA0⟩ := h
  refine ⟨by simpa using hs, hC, j, hj, fun i p hp => ?_, hA j hA0⟩
  have hne : k ≠ p := fun e => hk (e ▸ List.mem_of_getElem? hp)
  rw [Array.getD_eq_getD_getElem?, Array.getElem?_setIfInBounds, if_neg hne, ← Array.getD_eq_getD_getElem?]
  exact hl i p hp

theorem wp_chain (ps : List Nat) (C : World → Prop) (A : Nat → World → Prop) {id : Nat} {a : Act} {w : World} (hm : P.follows .mixedOrders = true) (hf : textFits .any ops = true) (hlt : (ps.all fun p => decide (p < ops.size)) = true) (hC : C w.drew) (hA : A 0 w.drew)
    (h : textFits .any ops = true → InText P .any ops Q (Chain ops.size ps C A) 0 ops.toList a) : (Code.region id ops true).wp P Q a w :=
  wp_ord hm hf (chain_start (fun p hp => by simpa using List.all_eq_true.1 hlt p hp) hC hA) h

/-- A value that hangs on C alone. -/
theorem ch_value {k : Nat} {o : Oper} {rest : List Oper} {a : Act} {v : Value} (hf : textFits md ops = true) (hk : k ∉ ps) (hw : Region.wanted o (yielded ops a.tmps) = true) (hv : ∀ w, C w → (execOp a.eval o).run P w = .ok (.value v) w)
    (h : InText P md ops Q (Chain ops.size ps C A) (k + 1) rest (a.put o.dst v)) : InText P md ops Q (Chain ops.size ps C A) k (o :: rest) a :=
  InText.cons hf (Or.inl ⟨hw, fun l w _ hS => by rw [hv w hS.2.1]; exact ⟨rfl, chain_set hk hS hS.2.1 fun _ h => h⟩⟩) h
theorem ch_off {k : Nat} {o : Oper} {rest : List Oper} {a : Act} (hf : textFits md ops = true) (hk : k ∉ ps) (hw : Region.wanted o (yielded ops a.tmps) = false)
    (h : InText P md ops Q (Chain ops.size ps C A) (k + 1) rest (a.put o.dst undef)) : InText P md ops Q (Chain ops.size ps C A) k (o :: rest) a :=
  InText.cons hf (Or.inr ⟨hw, rfl, fun l w _ hS => chain_set hk hS hS.2.1 fun _ h => h⟩) h
/-- A call that leaves all as it is. -/
theorem ch_call {k : Nat} {o : Oper} {rest : List Oper} {a : Act} {v : Value} {f : FuncId} {args : Array Value} (hf : textFits md ops = true) (hk : k ∉ ps) (hw : Region.wanted o (yielded ops a.tmps) = true)
    (hr : ∀ w, C w → (execOp a.eval o).run P w = .ok (.enter f args) w) (hc : ∀ w, C w → Calls P f args w fun e w' => e = .returned v ∧ C w' ∧ ∀ j, A j w → A j w')
    (h : InText P md ops Q (Chain ops.size ps C A) (k + 1) rest (a.put o.dst v)) : InText P md ops Q (Chain ops.size ps C A) k (o :: rest) a :=
  InText.cons hf (Or.inl ⟨hw, fun l w _ hS => by rw [hr w hS.2.1]; exact (hc w hS.2.1).mono fun e w' he => ⟨he.1, chain_set hk hS he.2.1 he.2.2⟩⟩) h
/-- The j-th that turns the world. -/
theorem ch_turn (j : Nat) {k : Nat} {o : Oper} {rest : List Oper} {a : Act} {v : Value} (hf : textFits md ops = true) (hk : ps[j]? = some k) (hnd : ps.Nodup) (hh : j = 0 ∨ ∃ p, ps[j - 1]? = some p ∧ hangs md ops k p = true) (hw : Region.wanted o (yielded ops a.tmps) = true)
    (hv : ∀ w, C w → A j w → LandsIn P (fun w' => C w' ∧ A (j + 1) w') v ((execOp a.eval o).run P w))
    (h : InText P md ops Q (Chain ops.size ps C A) (k + 1) rest (a.put o.dst v)) : InText P md ops Q (Chain ops.size ps C A) k (o :: rest) a :=
  InText.cons hf (Or.inl ⟨hw, fun l w hr hS => by
    obtain ⟨hs, hC, j', hj', hl, hA⟩ := hS
    have hjl : j < ps.length := (List.getElem?_eq_some_iff.1 hk).1
    have h1 := hl j k hk
    have h2 : l.getD k true = false := (mem_ready.1 hr).1
    have e2 : l.getD k false = false := by
      rw [Array.getD_eq_getD_getElem?] at h2 ⊢
      rcases Nat.lt_or_ge k l.size with hh' | hh'
      · simp [hh'] at h2 ⊢; exact h2
      · simp [Array.getElem?_eq_none hh'] at h2
    have h3 : ¬ j < j' := by rw [h1.2] at e2; simpa using e2
    have h4 : j = j' := by
      rcases hh with rfl | ⟨p, hp, hg⟩
      · omega
      · rcases Nat.eq_zero_or_pos j with rfl | hj
        · omega
        · have h5 := hl (j - 1) p hp
          have h6 := hangs_listed hg hr
          rw [h5.2] at h6
          have : j - 1 < j' := by simpa using h6
          omega
    subst h4
    refine (hv w hC hA).mono fun w' hw' => ⟨by simpa using hs, hw'.1, j + 1, by omega, fun i p hp => ?_, hw'.2⟩
    refine ⟨(hl i p hp).1, ?_⟩
    by_cases hik : p = k
    · subst hik
      have : i = j := (List.getElem?_inj (List.getElem?_eq_some_iff.1 hp).1 hnd).1 (hp.trans hk.symm)
      subst this
      have hp' : p < l.size := by rw [hs]; exact h1.1
      rw [Array.getD_eq_getD_getElem?, Array.getElem?_setIfInBounds, if_pos rfl]
      simp [hp']
    · rw [Array.getD_eq_getD_getElem?, Array.getElem?_setIfInBounds, if_neg (fun e => hik e.symm), ← Array.getD_eq_getD_getElem?, (hl i p hp).2]
      have hne : i ≠ j := fun e => hik (by subst e; exact Option.some.inj (hp.symm.trans hk))
      congr 1
      apply propext
      omega⟩) h
end
end Go.Proofs.Ytdeohigggjfjjaa.Ord

/- A drawn region in whose course the world turns, once more: what is listed is closed under what it hangs on, so that a read which a turning operation hangs on is met before that turn. -/
namespace Go.Proofs.Ytdeohigggjfjjaa.Ord
open Go
set_option maxRecDepth 100000

section
variable {P : Program} {ops : Array Oper} {Q : Exit → Act → World → Prop} {md : Region.Mode} {C : World → Prop} {A : Nat → World → Prop} {ps : List Nat}

def Closed (md : Region.Mode) (ops : Array Oper) (l : Array Bool) : Prop :=
  ∀ i o, ops[i]? = some o → l.getD i false = true → ∀ e ∈ o.after, Region.binds md e = true → l.getD e.on false = true
theorem Closed.set {l : Array Bool} {k : Nat} (h : Closed md ops l) (hr : k ∈ Region.ready md ops l) : Closed md ops (l.setIfInBounds k true) := by
  intro i o ho hl e he hb
  have grow : ∀ j, l.getD j false = true → (l.setIfInBounds k true).getD j false = true := fun j hj => by
    rw [Array.getD_eq_getD_getElem?] at hj ⊢
    rw [Array.getElem?_setIfInBounds]
    split
    · rename_i e; subst e
      split
      · rfl
      · rename_i hn; rw [Array.getElem?_eq_none (by omega)] at hj; simp at hj
    · exact hj
  by_cases hik : i = k
  · subst hik
    obtain ⟨_, o', ho', hall⟩ := mem_ready.1 hr
    obtain rfl : o = o' := Option.some.inj (ho.symm.trans ho')
    exact grow _ (hall e he hb)
  · refine grow _ (h i o ho ?_ e he hb)
    rw [Array.getD_eq_getD_getElem?] at hl ⊢
    rwa [Array.getElem?_setIfInBounds, if_neg (fun e => hik e.symm)] at hl
/-- As Chain, and what is listed is closed. -/
def Chain2 (md : Region.Mode) (ops : Array Oper) (ps : List Nat) (C : World → Prop) (A : Nat → World → Prop) (l : Array Bool) (w : World) : Prop := Closed md ops l ∧ Chain ops.size ps C A l w
theorem Settles.closed {S : Array Bool → World → Prop} {i : Nat} {o : Oper} {v : Value} {a : Act} (h : Settles P md ops S i o v a) : Settles P md ops (fun l w => Closed md ops l ∧ S l w) i o v a := by
  rcases h with ⟨h1, h2⟩ | ⟨h1, h2, h3⟩
  · exact .inl ⟨h1, fun l w hr hS => (h2 l w hr hS.2).mono fun w' hw' => ⟨hS.1.set hr, hw'⟩⟩
  · exact .inr ⟨h1, h2, fun l w hr hS => ⟨hS.1.set hr, h3 l w hr hS.2⟩⟩
theorem chain2_end {w : World} (h : Chain2 md ops ps C A (firstK ops.size ops.size) w) : C w ∧ A ps.length w := chain_end h.2
theorem wp_chain2 (ps : List Nat) (C : World → Prop) (A : Nat → World → Prop) {id : Nat} {a : Act} {w : World} (hm : P.follows .mixedOrders = true) (hf : textFits .any ops = true) (hlt : (ps.all fun p => decide (p < ops.size)) = true) (hC : C w.drew) (hA : A 0 w.drew)
    (h : textFits .any ops = true → InText P .any ops Q (Chain2 .any ops ps C A) 0 ops.toList a) : (Code.region id ops true).wp P Q a w :=
  wp_ord hm hf ⟨fun i o ho hl => (by
    have hi : i < ops.size := (Array.getElem?_eq_some_iff.1 ho).1
    rw [firstK_get _ _ _ hi] at hl
    simp at hl), chain_start (fun p hp => by simpa using List.all_eq_true.1 hlt p hp) hC hA⟩ h

theorem ch2_value {k : Nat} {o : Oper} {rest : List Oper} {a : Act} {v : Value} (hf : textFits md ops = true) (hk : k ∉ ps) (hw : Region.wanted o (yielded ops a.tmps) = true) (hv : ∀ w, C w → (execOp a.eval o).run P w = .ok (.value v) w)
    (h : InText P md ops Q (Chain2 md ops ps C A) (k + 1) rest (a.put o.dst v)) : InText P md ops Q (Chain2 md ops ps C A) k (o :: rest) a :=
  InText.cons hf (Settles.closed (Or.inl ⟨hw, fun l w _ hS => by rw [hv w hS.2.1]; exact ⟨rfl, chain_set hk hS hS.2.1 fun _ h => h⟩⟩)) h
/-- A read which the m-th turn hangs on. -/
theorem ch2_early (m : Nat) {p : Nat} {k : Nat} {o : Oper} {rest : List Oper} {a : Act} {v : Value} (hf : textFits md ops = true) (hk : k ∉ ps) (hp : ps[m]? = some p) (hh : hangs md ops p k = true) (hkn : k < ops.size) (hw : Region.wanted o (yielded ops a.tmps) = true)
    (hv : ∀ w j, j ≤ m → C w → A j w → (execOp a.eval o).run P w = .ok (.value v) w)
    (h : InText P md ops Q (Chain2 md ops ps C A) (k + 1) rest (a.put o.dst v)) : InText P md ops Q (Chain2 md ops ps C A) k (o :: rest) a :=
  InText.cons hf (Or.inl ⟨hw, fun l w hr hS => by
    obtain ⟨hc, hS⟩ := hS
    have hS' := hS
    obtain ⟨hs, hC, j, hj, hl, hA⟩ := hS
    have hjm : j ≤ m := by
      rcases Nat.lt_or_ge m j with hlt | hge
      · exfalso
        have h1 := hl m p hp
        have h2 : l.getD p false = true := by rw [h1.2]; simpa using hlt
        have h0 : l.getD k true = false := (mem_ready.1 hr).1
        unfold hangs at hh
        have hpo : ∃ o', ops[p]? = some o' := ⟨_, Array.getElem?_eq_getElem h1.1⟩
        obtain ⟨o', ho'⟩ := hpo
        rw [ho'] at hh
        obtain ⟨e, he, h3⟩ := Array.any_eq_true'.1 hh
        rw [Bool.and_eq_true] at h3
        have h4 := hc p o' ho' h2 e he h3.1
        rw [show e.on = k by simpa using h3.2] at h4
        rw [Array.getD_eq_getD_getElem?] at h4 h0
        have hkl : k < l.size := by rw [hs]; exact hkn
        simp [hkl] at h4 h0
        rw [h0] at h4
        cases h4
      · exact hge
    rw [hv w j hjm hC hA]
    exact ⟨rfl, hc.set hr, chain_set hk hS' hC fun _ h => h⟩⟩) h
theorem chain_settles (j : Nat) {k : Nat} {o : Oper} {a : Act} {v : Value} (hk : ps[j]? = some k) (hnd : ps.Nodup) (hh : j = 0 ∨ ∃ p, ps[j - 1]? = some p ∧ hangs md ops k p = true) (hw : Region.wanted o (yielded ops a.tmps) = true)
    (hv : ∀ w, C w → A j w → LandsIn P (fun w' => C w' ∧ A (j + 1) w') v ((execOp a.eval o).run P w)) : Settles P md ops (Chain ops.size ps C A) k o v a :=
  Or.inl ⟨hw, fun l w hr hS => by
    obtain ⟨hs, hC, j', hj', hl, hA⟩ := hS
    have hjl : j < ps.length := (List.getElem?_eq_some_iff.1 hk).1
    have h1 := hl j k hk
    have h2 : l.getD k true = false := (mem_ready.1 hr).1
    have e2 : l.getD k false = false := by
      rw [Array.getD_eq_getD_getElem?] at h2 ⊢
      rcases Nat.lt_or_ge k l.size with hh' | hh'
      · simp [hh'] at h2 ⊢; exact h2
      · simp [Array.getElem?_eq_none hh'] at h2
    have h3 : ¬ j < j' := by rw [h1.2] at e2; simpa using e2
    have h4 : j = j' := by
      rcases hh with rfl | ⟨p, hp, hg⟩
      · omega
      · rcases Nat.eq_zero_or_pos j with rfl | hj
        · omega
        · have h5 := hl (j - 1) p hp
          have h6 := hangs_listed hg hr
          rw [h5.2] at h6
          have : j - 1 < j' := by simpa using h6
          omega
    subst h4
    refine (hv w hC hA).mono fun w' hw' => ⟨by simpa using hs, hw'.1, j + 1, by omega, fun i p hp => ?_, hw'.2⟩
    refine ⟨(hl i p hp).1, ?_⟩
    by_cases hik : p = k
    · subst hik
      have : i = j := (List.getElem?_inj (List.getElem?_eq_some_iff.1 hp).1 hnd).1 (hp.trans hk.symm)
      subst this
      have hp' : p < l.size := by rw [hs]; exact h1.1
      rw [Array.getD_eq_getD_getElem?, Array.getElem?_setIfInBounds, if_pos rfl]
      simp [hp']
    · rw [Array.getD_eq_getD_getElem?, Array.getElem?_setIfInBounds, if_neg (fun e => hik e.symm), ← Array.getD_eq_getD_getElem?, (hl i p hp).2]
      have hne : i ≠ j := fun e => hik (by subst e; exact Option.some.inj (hp.symm.trans hk))
      congr 1
      apply propext
      omega⟩
theorem ch2_turn (j : Nat) {k : Nat} {o : Oper} {rest : List Oper} {a : Act} {v : Value} (hf : textFits md ops = true) (hk : ps[j]? = some k) (hnd : ps.Nodup) (hh : j = 0 ∨ ∃ p, ps[j - 1]? = some p ∧ hangs md ops k p = true) (hw : Region.wanted o (yielded ops a.tmps) = true)
    (hv : ∀ w, C w → A j w → LandsIn P (fun w' => C w' ∧ A (j + 1) w') v ((execOp a.eval o).run P w))
    (h : InText P md ops Q (Chain2 md ops ps C A) (k + 1) rest (a.put o.dst v)) : InText P md ops Q (Chain2 md ops ps C A) k (o :: rest) a :=
  InText.cons hf (Settles.closed (chain_settles j hk hnd hh hw hv)) h
/-- A path along which each hangs on the next. -/
def hangsPath (md : Region.Mode) (ops : Array Oper) : List Nat → Bool
  | a :: b :: rest => hangs md ops a b && hangsPath md ops (b :: rest)
  | _ => true
theorem Closed.step {l : Array Bool} (hc : Closed md ops l) {a b : Nat} (h : hangs md ops a b = true) (ha : l.getD a false = true) : l.getD b false = true := by
  unfold hangs at h
  rcases ho : ops[a]? with _ | o
  · rw [ho] at h; cases h
  · rw [ho] at h
    obtain ⟨e, he, h3⟩ := Array.any_eq_true'.1 h
    rw [Bool.and_eq_true] at h3
    have h4 := hc a o ho ha e he h3.1
    rwa [show e.on = b by simpa using h3.2] at h4
theorem Closed.path {l : Array Bool} (hc : Closed md ops l) : ∀ (path : List Nat) (a : Nat), hangsPath md ops (a :: path) = true → l.getD a false = true → ∀ p, (a :: path).getLast? = some p → l.getD p false = true
  | [], a, _, ha, p, hp => by simp at hp; rwa [← hp]
  | b :: rest, a, h, ha, p, hp => by
    simp only [hangsPath, Bool.and_eq_true] at h
    refine Closed.path hc rest b h.2 (hc.step h.1 ha) p ?_
    rwa [List.getLast?_cons_cons] at hp
theorem late {n : Nat} {l : Array Bool} {k b p m : Nat} {path : List Nat} {j : Nat} (hc : Closed md ops l) (hr : k ∈ Region.ready md ops l) (hb : hangs md ops k b = true) (hpath : hangsPath md ops (b :: path) = true) (hlast : (b :: path).getLast? = some p) (hp : ps[m]? = some p)
    (hl : ∀ i p, ps[i]? = some p → p < n ∧ l.getD p false = decide (i < j)) : m < j := by
  have h1 := hc.path path b hpath (hangs_listed hb hr) p hlast
  rw [(hl m p hp).2] at h1
  simpa using h1
/-- A read that hangs, by way of others, on the m-th turn. -/
theorem ch2_late (m : Nat) (b : Nat) (path : List Nat) {p : Nat} {k : Nat} {o : Oper} {rest : List Oper} {a : Act} {v : Value} (hf : textFits md ops = true) (hk : k ∉ ps) (hb : hangs md ops k b = true) (hpath : hangsPath md ops (b :: path) = true) (hlast : (b :: path).getLast? = some p) (hp : ps[m]? = some p)
    (hw : Region.wanted o (yielded ops a.tmps) = true) (hv : ∀ w j, m < j → j ≤ ps.length → C w → A j w → (execOp a.eval o).run P w = .ok (.value v) w)
    (h : InText P md ops Q (Chain2 md ops ps C A) (k + 1) rest (a.put o.dst v)) : InText P md ops Q (Chain2 md ops ps C A) k (o :: rest) a :=
  InText.cons hf (Or.inl ⟨hw, fun l w hr hS => by
    obtain ⟨hc, hS⟩ := hS
    have hS' := hS
    obtain ⟨hs, hC, j, hj, hl, hA⟩ := hS
    rw [hv w j (late hc hr hb hpath hlast hp hl) hj hC hA]
    exact ⟨rfl, hc.set hr, chain_set hk hS' hC fun _ h => h⟩⟩) h
theorem ch2_off {k : Nat} {o : Oper} {rest : List Oper} {a : Act} (hf : textFits md ops = true) (hk : k ∉ ps) (hw : Region.wanted o (yielded ops a.tmps) = false)
    (h : InText P md ops Q (Chain2 md ops ps C A) (k + 1) rest (a.put o.dst undef)) : InText P md ops Q (Chain2 md ops ps C A) k (o :: rest) a :=
  InText.cons hf (Settles.closed (Or.inr ⟨hw, rfl, fun l w _ hS => chain_set hk hS hS.2.1 fun _ h => h⟩)) h
/-- A call that leaves all as it is, and hangs, by way of others, on the m-th turn. -/
theorem ch2_late_call (m : Nat) (b : Nat) (path : List Nat) {p : Nat} {k : Nat} {o : Oper} {rest : List Oper} {a : Act} {v : Value} (hf : textFits md ops = true) (hk : k ∉ ps) (hb : hangs md ops k b = true) (hpath : hangsPath md ops (b :: path) = true) (hlast : (b :: path).getLast? = some p) (hp : ps[m]? = some p)
    (hw : Region.wanted o (yielded ops a.tmps) = true)
    (hv : ∀ w j, m < j → j ≤ ps.length → C w → A j w → LandsIn P (fun w' => C w' ∧ A j w') v ((execOp a.eval o).run P w))
    (h : InText P md ops Q (Chain2 md ops ps C A) (k + 1) rest (a.put o.dst v)) : InText P md ops Q (Chain2 md ops ps C A) k (o :: rest) a :=
  InText.cons hf (Or.inl ⟨hw, fun l w hr hS => by
    obtain ⟨hc, hS⟩ := hS
    obtain ⟨hs, hC, j, hj, hl, hA⟩ := hS
    refine (hv w j (late hc hr hb hpath hlast hp hl) hj hC hA).mono fun w' hw' => ⟨hc.set hr, by simpa using hs, hw'.1, j, hj, fun i p hp => ⟨(hl i p hp).1, ?_⟩, hw'.2⟩
    have hne : k ≠ p := fun e => hk (e ▸ List.mem_of_getElem? hp)
    rw [Array.getD_eq_getD_getElem?, Array.getElem?_setIfInBounds, if_neg hne, ← Array.getD_eq_getD_getElem?]
    exact (hl i p hp).2⟩) h
end
end Go.Proofs.Ytdeohigggjfjjaa.Ord

/- A drawn region some of whose operations come to values that hang on the world (a call that makes a row: its address). 'Chain': these, and all that turn the world, come one behind the other, in a fixed order; C holds throughout, A of the values that they have come to so far. All other operations come to one value each, whatever the order. The region is walked once, in the order of the text. -/
namespace Go.Proofs.Ytdeohigggjfjjaa.Ord3
open Go Go.Proofs.Ytdeohigggjfjjaa.Ord
set_option maxRecDepth 100000

section
variable {P : Program} {ops : Array Oper} {Q : Exit → Act → World → Prop} {md : Region.Mode} {V : Nat → Value → Prop} {S : Array Bool → (Nat → Value) → World → Prop}

/-- What a run comes to: some value v with T v. -/
def Lands (P : Program) (T : Value → World → Prop) : Result Next → Prop
  | .ok (.value u) w' => T u w'
  | .ok .skip w' => T undef w'
  | .ok (.enter f args) w' => Calls P f args w' fun e w'' => ∃ v, e = .returned v ∧ T v w''
  | _ => False
theorem Lands.mono {T T' : Value → World → Prop} {r : Result Next} (h : Lands P T r) (hT : ∀ v w, T v w → T' v w) : Lands P T' r := by
  cases r with
  | ok n w' =>
    cases n <;> simp only [Lands] at *
    case value u => exact hT _ _ h
    case skip => exact hT _ _ h
    case enter f args => exact h.mono fun e w'' ⟨v, he, ht⟩ => ⟨v, he, hT _ _ ht⟩
  | halt x w' => simp only [Lands] at h

def up (f : Nat → Value) (i : Nat) (v : Value) : Nat → Value := fun j => if j = i then v else f j
theorem up_comm (f : Nat → Value) {i j : Nat} (u v : Value) (h : i ≠ j) : up (up f i u) j v = up (up f j v) i u := by
  funext k; unfold up; by_cases h1 : k = j <;> by_cases h2 : k = i <;> simp [h1, h2] <;> omega

/-- In frame a, where what is listed has come to κ, the operation comes to a value of its kind, from every world that is met when it comes up. -/
def Settles (P : Program) (md : Region.Mode) (ops : Array Oper) (V : Nat → Value → Prop) (S : Array Bool → (Nat → Value) → World → Prop) (i : Nat) (o : Oper) (listed : Array Bool) (κ : Nat → Value) (a : Act) : Prop :=
  (Region.wanted o (yielded ops a.tmps) = true ∧ ∀ l ρ w, i ∈ Region.ready md ops l → (∀ j, l.getD j false = true → V j (ρ j)) → (∀ j, listed.getD j false = true → l.getD j false = true → ρ j = κ j) → S l ρ w →
    Lands P (fun v w' => V i v ∧ S (l.setIfInBounds i true) (up ρ i v) w') ((execOp a.eval o).run P w)) ∨
  (Region.wanted o (yielded ops a.tmps) = false ∧ V i undef ∧ ∀ l ρ w, i ∈ Region.ready md ops l → S l ρ w → S (l.setIfInBounds i true) (up ρ i undef) w)

theorem Settles.wpOp {i : Nat} {o : Oper} {a : Act} {l : Array Bool} {κ : Nat → Value} (hi : ops[i]? = some o) (h : Settles P md ops V S i o l κ a) (hr : i ∈ Region.ready md ops l) {K : Act → World → Prop} {w : World} (hV : ∀ j, l.getD j false = true → V j (κ j)) (hS : S l κ w)
    (hK : ∀ v w', V i v → S (l.setIfInBounds i true) (up κ i v) w' → K (a.put o.dst v) w') : wpOp P ops Q i K a w := by
  unfold Go.wpOp
  simp only [hi]
  rcases h with ⟨hw, hv⟩ | ⟨hw, hu, hv⟩
  · simp only [hw, if_true]
    have := hv l κ w hr hV (fun _ _ _ => rfl) hS
    refine .inl ?_
    unfold Oper.wp
    generalize (execOp a.eval o).run P w = r at *
    cases r with
    | ok n w' =>
      cases n <;> simp only [Lands] at this <;> simp only [Oper.upon]
      case value u => exact hK _ _ this.1 this.2
      case skip => exact hK _ _ this.1 this.2
      case enter f args =>
        refine Calls.mono this fun e w'' he => ?_
        obtain ⟨v, rfl, h1, h2⟩ := he
        exact hK _ _ h1 h2
    | halt x w' => simp only [Lands] at this
  · simp only [hw, Bool.false_eq_true, if_false]
    exact hK _ _ hu (hv l κ w hr hS)

def Every (P : Program) (md : Region.Mode) (ops : Array Oper) (Q : Exit → Act → World → Prop) (V : Nat → Value → Prop) (S : Array Bool → (Nat → Value) → World → Prop) : Nat → Array Bool → (Nat → Value) → Act → Prop
  | 0, listed, κ, a => Region.ready md ops listed = [] ∧ ∀ w, S listed κ w → Q .normal a w
  | fuel + 1, listed, κ, a => (Region.ready md ops listed = [] → ∀ w, S listed κ w → Q .normal a w) ∧
    ∀ i ∈ Region.ready md ops listed, ∃ o, ops[i]? = some o ∧ Settles P md ops V S i o listed κ a ∧ ∀ v, V i v → Every P md ops Q V S fuel (listed.setIfInBounds i true) (up κ i v) (a.put o.dst v)

theorem listed_set {l : Array Bool} {i j : Nat} (h : (l.setIfInBounds i true).getD j false = true) : j = i ∨ l.getD j false = true := by
  by_cases e : i = j
  · exact .inl e.symm
  · right
    rw [Array.getD_eq_getD_getElem?, Array.getElem?_setIfInBounds, if_neg e, ← Array.getD_eq_getD_getElem?] at h
    exact h
theorem ready_not {l : Array Bool} {i : Nat} (h : i ∈ Region.ready md ops l) : l.getD i false = false := by
  have h2 : l.getD i true = false := (mem_ready.1 h).1
  rw [Array.getD_eq_getD_getElem?] at h2 ⊢
  rcases Nat.lt_or_ge i l.size with hh' | hh'
  · simp [hh'] at h2 ⊢; exact h2
  · simp [Array.getElem?_eq_none hh'] at h2

theorem Every.sound : ∀ (fuel : Nat) (listed : Array Bool) (κ : Nat → Value) (a : Act), Every P md ops Q V S fuel listed κ a → (∀ j, listed.getD j false = true → V j (κ j)) → ∀ w, S listed κ w → wpAny P md ops Q fuel listed a w
  | 0, _, _, _, h, _, w, hS => ⟨h.1, h.2 w hS⟩
  | fuel + 1, listed, κ, a, h, hV, w, hS => ⟨fun h0 => h.1 h0 w hS, fun i hi => by
      obtain ⟨o, ho, hs, hE⟩ := h.2 i hi
      refine hs.wpOp ho hi hV hS fun v w' hv hS' => Every.sound fuel _ _ _ (hE v hv) (fun j hj => ?_) w' hS'
      unfold up
      split
      · rename_i e; subst e; exact hv
      · rename_i e; exact hV j ((listed_set hj).resolve_left e)⟩

theorem Settles.of_same {i : Nat} {o : Oper} {a a' : Act} {l : Array Bool} {κ : Nat → Value} (h : Settles P md ops V S i o l κ a) (he : execOp a'.eval o = execOp a.eval o)
    (hw : Region.wanted o (yielded ops a'.tmps) = Region.wanted o (yielded ops a.tmps)) : Settles P md ops V S i o l κ a' := by
  unfold Settles at *
  rw [he, hw]
  exact h

theorem Every.first {i : Nat} {oi : Oper} (hi : ops[i]? = some oi) (hsel : ∀ (j : Nat) (o : Oper) cs b, ops[j]? = some o → o.op ≠ .select cs b) (v0 : Value) (hv0 : V i v0) :
    ∀ (fuel : Nat) (listed : Array Bool) (κ : Nat → Value) (a : Act),
      (∀ j oj, ops[j]? = some oj → j ≠ i → listed.getD j true = false → (∀ e ∈ oj.after, Region.binds md e = true → e.on ≠ i) → oi.apart ops oj = true) →
      i ∈ Region.ready md ops listed → Settles P md ops V S i oi listed κ a →
      (∀ v, V i v → Every P md ops Q V S fuel (listed.setIfInBounds i true) (up κ i v) (a.put oi.dst v)) → Every P md ops Q V S (fuel + 1) listed κ a := by
  intro fuel
  induction fuel with
  | zero =>
    intro listed κ a _ hr hy H
    refine ⟨fun h => (by rw [h] at hr; cases hr), fun j hj => ?_⟩
    by_cases hji : j = i
    · subst hji; exact ⟨oi, hi, hy, H⟩
    · have := ready_mono hj hji
      rw [(H v0 hv0).1] at this
      cases this
  | succ fuel ih =>
    intro listed κ a hfree hr hy H
    refine ⟨fun h => (by rw [h] at hr; cases hr), fun j hj => ?_⟩
    by_cases hji : j = i
    · subst hji; exact ⟨oi, hi, hy, H⟩
    · obtain ⟨oj, hoj, hsj0, hE0⟩ := (H v0 hv0).2 j (ready_mono hj hji)
      have HJ : ∀ v, V i v → Settles P md ops V S j oj (listed.setIfInBounds i true) (up κ i v) (a.put oi.dst v) ∧ ∀ u, V j u → Every P md ops Q V S fuel ((listed.setIfInBounds i true).setIfInBounds j true) (up (up κ i v) j u) ((a.put oi.dst v).put oj.dst u) := fun v hv => by
        obtain ⟨oj', hoj', hsj, hE⟩ := (H v hv).2 j (ready_mono hj hji)
        obtain rfl : oj = oj' := Option.some.inj (hoj.symm.trans hoj')
        exact ⟨hsj, hE⟩
      obtain ⟨hjun, oj', hoj', hall⟩ := mem_ready.1 hj
      obtain rfl : oj = oj' := Option.some.inj (hoj.symm.trans hoj')
      have hnot : ∀ e ∈ oj.after, Region.binds md e = true → e.on ≠ i := fun e he hb heq => by
        have h1 := hall e he hb
        rw [heq, Array.getD_eq_getD_getElem?] at h1
        have h0 := ready_not hr
        rw [Array.getD_eq_getD_getElem?] at h0
        rw [h0] at h1
        cases h1
      have hap := hfree j oj hoj hji hjun hnot
      obtain ⟨p1, p2, p3⟩ := Oper.apart_spec hap
      have hfree' : ∀ k ok, ops[k]? = some ok → k ≠ i → (listed.setIfInBounds j true).getD k true = false →
          (∀ e ∈ ok.after, Region.binds md e = true → e.on ≠ i) → oi.apart ops ok = true := fun k ok hk hki hun hno => by
        refine hfree k ok hk hki ?_ hno
        by_cases hjk : j = k
        · subst hjk; exact hjun
        · rw [getD_set_ne true hjk] at hun; exact hun
      have hex : ∀ v, execOp a.eval oj = execOp (a.put oi.dst v).eval oj := fun v => (execOp_put oj (fun cs b => hsel j oj cs b hoj) a oi.dst v p1).symm
      have hwt : ∀ v, Region.wanted oj (yielded ops a.tmps) = Region.wanted oj (yielded ops (a.put oi.dst v).tmps) := fun v => (wanted_put oj a oi.dst v p1).symm
      refine ⟨oj, hoj, ?_, fun u hu => ?_⟩
      · rcases hsj0 with ⟨hw, _⟩ | ⟨hw, hu, hv⟩
        · refine .inl ⟨(hwt v0).trans hw, fun l ρ w hrl hVl hagree hSl => ?_⟩
          have pick : ∃ v, V i v ∧ (l.getD i false = true → ρ i = v) := by
            cases hli : l.getD i false
            · exact ⟨v0, hv0, fun h => by cases h⟩
            · exact ⟨ρ i, hVl i hli, fun _ => rfl⟩
          obtain ⟨v, hv, hρ⟩ := pick
          rcases (HJ v hv).1 with ⟨_, hrun⟩ | ⟨hw', _⟩
          · rw [hex v]
            refine hrun l ρ w hrl hVl (fun j' h1 h2 => ?_) hSl
            unfold up
            split
            · rename_i e; subst e; exact hρ h2
            · rename_i e; exact hagree j' ((listed_set h1).resolve_left e) h2
          · rw [← hwt v, hwt v0, hw] at hw'
            cases hw'
        · exact .inr ⟨(hwt v0).trans hw, hu, hv⟩
      · refine ih (listed.setIfInBounds j true) (up κ j u) (a.put oj.dst u) hfree' (ready_mono hr (Ne.symm hji)) ?_ fun v hv => ?_
        · refine (show Settles P md ops V S i oi (listed.setIfInBounds j true) (up κ j u) a from ?_).of_same (execOp_put oi (fun cs b => hsel i oi cs b hi) a oj.dst u p3) (wanted_put oi a oj.dst u p3)
          rcases hy with ⟨hw, hrun⟩ | hy
          · refine .inl ⟨hw, fun l ρ w hrl hVl hagree hSl => hrun l ρ w hrl hVl (fun j' h1 h2 => ?_) hSl⟩
            have hne : j' ≠ j := fun e => by
              rw [e, ready_not hj] at h1; cases h1
            have h3 : (listed.setIfInBounds j true).getD j' false = true := by
              rw [Array.getD_eq_getD_getElem?, Array.getElem?_setIfInBounds, if_neg (fun e => hne e.symm), ← Array.getD_eq_getD_getElem?]; exact h1
            have := hagree j' h3 h2
            rw [this]; unfold up; rw [if_neg hne]
          · exact .inr hy
        · have := (HJ v hv).2 u hu
          rw [Array.setIfInBounds_comm _ _ hji, ← Act.put_comm a v u p2, up_comm κ u v hji]
          exact this

/-- The operations from the k-th on, in the order of the text. -/
def InText (P : Program) (md : Region.Mode) (ops : Array Oper) (Q : Exit → Act → World → Prop) (V : Nat → Value → Prop) (S : Array Bool → (Nat → Value) → World → Prop) (k : Nat) (rest : List Oper) (κ : Nat → Value) (a : Act) : Prop :=
  k + rest.length = ops.size → ops.toList.drop k = rest → Every P md ops Q V S rest.length (firstK ops.size k) κ a
theorem InText.nil {a : Act} {k : Nat} {κ : Nat → Value} (h : ∀ w, S (firstK ops.size ops.size) κ w → Q .normal a w) : InText P md ops Q V S k [] κ a := fun hk _ => by
  have hk' : k = ops.size := by simpa using hk
  subst hk'
  refine ⟨?_, h⟩
  unfold Region.ready
  rw [List.filter_eq_nil_iff]
  intro i hi
  have : i < ops.size := by simpa using hi
  simp [firstK, this]
theorem InText.cons {o : Oper} {rest : List Oper} {a : Act} {k : Nat} {κ : Nat → Value} (hf : textFits md ops = true) (v0 : Value) (hv0 : V k v0) (hs : Settles P md ops V S k o (firstK ops.size k) κ a) (h : ∀ v, V k v → InText P md ops Q V S (k + 1) rest (up κ k v) (a.put o.dst v)) : InText P md ops Q V S k (o :: rest) κ a := fun hk hd => by
  unfold textFits at hf
  rw [Bool.and_eq_true, List.all_eq_true] at hf
  have hlt : k < ops.size := by simp at hk; omega
  have hf2 := hf.2 k (by simpa using hlt)
  rw [Bool.and_eq_true] at hf2
  have ho : ops[k]? = some o := by
    have h0 : (ops.toList.drop k)[0]? = some o := by rw [hd]; rfl
    simpa using h0
  have hsel : ∀ (j : Nat) (o : Oper) cs b, ops[j]? = some o → o.op ≠ .select cs b := Region.noSelect_spec hf.1
  refine Every.first ho hsel v0 hv0 rest.length (firstK ops.size k) κ a (Region.free_spec ho hf2.1) (by simpa using hf2.2) hs fun v hv => ?_
  rw [firstK_succ]
  refine h v hv (by simp at hk; omega) ?_
  rw [← List.drop_drop, hd]
  rfl
theorem wp_ord {id : Nat} {a : Act} {w : World} (κ : Nat → Value) (hm : P.follows .mixedOrders = true) (hf : textFits .any ops = true) (hS : S (firstK ops.size 0) κ w.drew) (h : textFits .any ops = true → InText P .any ops Q V S 0 ops.toList κ a) : (Code.region id ops true).wp P Q a w :=
  wp_region_any hm (by
    have h0 := h hf (by simp) rfl
    have e : firstK ops.size 0 = Array.replicate ops.size false := by
      apply Array.ext
      · simp [firstK]
      · intro i h1 h2; simp [firstK]
    rw [e] at h0 hS
    simpa using Every.sound _ _ _ _ h0 (fun j hj => by
      rw [Array.getD_eq_getD_getElem?, Array.getElem?_replicate] at hj
      split at hj <;> simp at hj) _ hS)
end

/-! ### one behind the other -/
section
variable {P : Program} {ops : Array Oper} {Q : Exit → Act → World → Prop} {md : Region.Mode} {C : World → Prop} {A : List Value → World → Prop} {ps : List Nat} {vs : List (Value → Prop)}

/-- The kinds of the values. -/
def VS (vs : List (Value → Prop)) (k : Nat) (v : Value) : Prop := ∃ p, vs[k]? = some p ∧ p v
def Chain (md : Region.Mode) (ops : Array Oper) (ps : List Nat) (C : World → Prop) (A : List Value → World → Prop) (l : Array Bool) (ρ : Nat → Value) (w : World) : Prop :=
  Closed md ops l ∧ l.size = ops.size ∧ C w ∧ ∃ j, j ≤ ps.length ∧ (∀ i p, ps[i]? = some p → p < ops.size ∧ l.getD p false = decide (i < j)) ∧ A ((ps.take j).map ρ) w

theorem map_up {ps : List Nat} {ρ : Nat → Value} {k : Nat} {v : Value} (h : k ∉ ps) : ps.map (up ρ k v) = ps.map ρ :=
  List.map_congr_left fun x hx => by
    have hne : x ≠ k := fun e => h (by rw [← e]; exact hx)
    unfold up; rw [if_neg hne]
theorem chain_start {w : World} {ρ : Nat → Value} (hlt : ∀ p ∈ ps, p < ops.size) (hC : C w) (hA : A [] w) : Chain md ops ps C A (firstK ops.size 0) ρ w := by
  refine ⟨fun i o ho hl => ?_, by simp [firstK], hC, 0, Nat.zero_le _, fun i p hp => ?_, by simpa using hA⟩
  · have hi : i < ops.size := (Array.getElem?_eq_some_iff.1 ho).1
    rw [firstK_get _ _ _ hi] at hl
    simp at hl
  · have h := hlt p (List.mem_of_getElem? hp)
    exact ⟨h, by rw [firstK_get _ _ _ h]; simp⟩
theorem chain_end {w : World} {ρ : Nat → Value} (h : Chain md ops ps C A (firstK ops.size ops.size) ρ w) : C w ∧ A (ps.map ρ) w := by
  obtain ⟨_, _, hC, j, hj, hl, hA⟩ := h
  refine ⟨hC, ?_⟩
  rcases Nat.lt_or_ge j ps.length with hlt | hge
  · exfalso
    have h1 := hl j ps[j] (by simp [hlt])
    rw [firstK_get _ _ _ h1.1] at h1
    simp at h1
    omega
  · rwa [List.take_of_length_le hge] at hA
theorem chain_set {l : Array Bool} {ρ : Nat → Value} {k : Nat} {v : Value} {w w' : World} (hk : k ∉ ps) (hr : k ∈ Region.ready md ops l) (h : Chain md ops ps C A l ρ w) (hC : C w') (hA : ∀ vs, A vs w → A vs w') : Chain md ops ps C A (l.setIfInBounds k true) (up ρ k v) w' := by
  obtain ⟨hc, hs, _, j, hj, hl, hA0⟩ := h
  refine ⟨hc.set hr, by simpa using hs, hC, j, hj, fun i p hp => ?_, by rw [map_up (fun e => hk (List.mem_of_mem_take e))]; exact hA _ hA0⟩
  have hne : k ≠ p := fun e => hk (e ▸ List.mem_of_getElem? hp)
  rw [Array.getD_eq_getD_getElem?, Array.getElem?_setIfInBounds, if_neg hne, ← Array.getD_eq_getD_getElem?]
  exact hl i p hp

/-- The text from the k-th operation on, where the first of the chain have come to κs. -/
def In (P : Program) (md : Region.Mode) (ops : Array Oper) (Q : Exit → Act → World → Prop) (vs : List (Value → Prop)) (ps : List Nat) (C : World → Prop) (A : List Value → World → Prop) (k : Nat) (rest : List Oper) (κs : List Value) (a : Act) : Prop :=
  ∀ κ : Nat → Value, (ps.take κs.length).map κ = κs → InText P md ops Q (VS vs) (Chain md ops ps C A) k rest κ a

theorem wp_chain (vs : List (Value → Prop)) (ps : List Nat) (C : World → Prop) (A : List Value → World → Prop) {id : Nat} {a : Act} {w : World} (hm : P.follows .mixedOrders = true) (hf : textFits .any ops = true) (hlt : (ps.all fun p => decide (p < ops.size)) = true) (hC : C w.drew) (hA : A [] w.drew)
    (h : textFits .any ops = true → In P .any ops Q vs ps C A 0 ops.toList [] a) : (Code.region id ops true).wp P Q a w :=
  wp_ord (fun _ => undef) hm hf (chain_start (fun p hp => by simpa using List.all_eq_true.1 hlt p hp) hC hA) fun hT => h hT _ rfl

theorem in_value {k : Nat} {o : Oper} {rest : List Oper} {a : Act} {v : Value} {κs : List Value} (hf : textFits md ops = true) (hk : k ∉ ps) (hvs : vs[k]? = some fun u => u = v) (hw : Region.wanted o (yielded ops a.tmps) = true) (hv : ∀ w, C w → (execOp a.eval o).run P w = .ok (.value v) w)
    (h : In P md ops Q vs ps C A (k + 1) rest κs (a.put o.dst v)) : In P md ops Q vs ps C A k (o :: rest) κs a := fun κ hκ =>
  InText.cons hf v ⟨_, hvs, rfl⟩ (Or.inl ⟨hw, fun l ρ w hr _ _ hS => by rw [hv w hS.2.2.1]; exact ⟨⟨_, hvs, rfl⟩, chain_set hk hr hS hS.2.2.1 fun _ h => h⟩⟩)
    fun u ⟨p, hp, hu⟩ => by
      rw [hvs] at hp
      cases hp
      rw [hu]
      exact h _ (by rw [map_up (fun e => hk (List.mem_of_mem_take e))]; exact hκ)
theorem in_off {k : Nat} {o : Oper} {rest : List Oper} {a : Act} {κs : List Value} (hf : textFits md ops = true) (hk : k ∉ ps) (hvs : vs[k]? = some fun u => u = undef) (hw : Region.wanted o (yielded ops a.tmps) = false)
    (h : In P md ops Q vs ps C A (k + 1) rest κs (a.put o.dst undef)) : In P md ops Q vs ps C A k (o :: rest) κs a := fun κ hκ =>
  InText.cons hf undef ⟨_, hvs, rfl⟩ (Or.inr ⟨hw, ⟨_, hvs, rfl⟩, fun l ρ w hr hS => chain_set hk hr hS hS.2.2.1 fun _ h => h⟩)
    fun u ⟨p, hp, hu⟩ => by
      rw [hvs] at hp
      cases hp
      rw [hu]
      exact h _ (by rw [map_up (fun e => hk (List.mem_of_mem_take e))]; exact hκ)
/-- The next of the chain. -/
theorem in_turn {k : Nat} {o : Oper} {rest : List Oper} {a : Act} {κs : List Value} (p : Value → Prop) (v0 : Value) (hv0 : p v0) (hf : textFits md ops = true) (hk : ps[κs.length]? = some k) (hnd : ps.Nodup) (hris : (ps.take κs.length).all (fun q => decide (q < k)) = true) (hvs : vs[k]? = some p)
    (hh : κs.length = 0 ∨ ∃ q b path, ps[κs.length - 1]? = some q ∧ hangs md ops k b = true ∧ hangsPath md ops (b :: path) = true ∧ (b :: path).getLast? = some q) (hw : Region.wanted o (yielded ops a.tmps) = true)
    (hv : ∀ w, C w → A κs w → Lands P (fun v w' => p v ∧ C w' ∧ A (κs ++ [v]) w') ((execOp a.eval o).run P w))
    (h : ∀ v, p v → In P md ops Q vs ps C A (k + 1) rest (κs ++ [v]) (a.put o.dst v)) : In P md ops Q vs ps C A k (o :: rest) κs a := fun κ hκ => by
  have hjl : κs.length < ps.length := (List.getElem?_eq_some_iff.1 hk).1
  have hjk : ps[κs.length] = k := (List.getElem?_eq_some_iff.1 hk).2
  have hkn : k ∉ ps.take κs.length := fun e => by
    have := List.all_eq_true.1 hris k e
    simp at this
  refine InText.cons hf v0 ⟨p, hvs, hv0⟩ (Or.inl ⟨hw, fun l ρ w hr hVl hagree hS => ?_⟩) fun v ⟨p', hp', hpv⟩ => ?_
  · obtain ⟨hc, hs, hC, j', hj', hl, hA⟩ := hS
    have h1 := hl κs.length k hk
    have e2 : l.getD k false = false := ready_not hr
    have h3 : ¬ κs.length < j' := by rw [h1.2] at e2; simpa using e2
    have h4 : κs.length = j' := by
      rcases hh with h0 | ⟨q, b, path, hq, hg, hpath, hlast⟩
      · omega
      · have := late hc hr hg hpath hlast hq hl
        omega
    subst h4
    have hm : (ps.take κs.length).map ρ = κs := by
      rw [← hκ]
      have hlen : ((ps.take κs.length).map κ).length = κs.length := by rw [hκ]
      rw [hlen]
      refine List.map_congr_left fun q hq => ?_
      obtain ⟨i, hi, he⟩ := List.getElem_of_mem hq
      have hi' : i < κs.length := by simp at hi; omega
      have hiq : ps[i]? = some q := by rw [← he, List.getElem_take]; simp
      have hqk : q < k := by simpa using List.all_eq_true.1 hris q hq
      refine hagree q ?_ ?_
      · rw [firstK_get _ _ _ (by have := h1.1; omega)]; simpa using hqk
      · rw [(hl i q hiq).2]; simpa using hi'
    rw [hm] at hA
    refine (hv w hC hA).mono fun v w' ⟨hp, hC', hA'⟩ => ⟨⟨p, hvs, hp⟩, hc.set hr, by simpa using hs, hC', κs.length + 1, by omega, fun i q hq => ?_, ?_⟩
    · refine ⟨(hl i q hq).1, ?_⟩
      by_cases hik : q = k
      · subst hik
        have : i = κs.length := (List.getElem?_inj (List.getElem?_eq_some_iff.1 hq).1 hnd).1 (hq.trans hk.symm)
        subst this
        have hp' : q < l.size := by rw [hs]; exact h1.1
        rw [Array.getD_eq_getD_getElem?, Array.getElem?_setIfInBounds, if_pos rfl]
        simp [hp']
      · rw [Array.getD_eq_getD_getElem?, Array.getElem?_setIfInBounds, if_neg (fun e => hik e.symm), ← Array.getD_eq_getD_getElem?, (hl i q hq).2]
        have hne : i ≠ κs.length := fun e => hik (by subst e; exact Option.some.inj (hq.symm.trans hk))
        congr 1
        apply propext
        omega
    · rw [List.take_succ_eq_append_getElem hjl, hjk, List.map_append, map_up hkn, hm]
      simpa [up] using hA'
  · rw [hvs] at hp'
    cases hp'
    refine h v hpv _ ?_
    rw [List.length_append, List.length_singleton, List.take_succ_eq_append_getElem hjl, hjk, List.map_append, map_up hkn, hκ]
    simp [up]
/-- The station that is reached, told by what has been come to so far. -/
def Stage (L : List Value → List (World → Prop)) (κs : List Value) (w : World) : Prop := ∃ T, (L κs)[κs.length]? = some T ∧ T w
theorem in_nil {a : Act} {k : Nat} {κs : List Value} (hlen : κs.length = ps.length) (h : ∀ w, C w → A κs w → Q .normal a w) : In P md ops Q vs ps C A k [] κs a := fun κ hκ =>
  InText.nil fun w hS => by
    obtain ⟨hC, hA⟩ := chain_end hS
    rw [hlen, List.take_length] at hκ
    rw [hκ] at hA
    exact h w hC hA
end
end Go.Proofs.Ytdeohigggjfjjaa.Ord3

/- What a call's own blocks hold, carried over calls, allocations and stores; and that nothing that was there before has turned. -/
namespace Go.Proofs.Ytdeohigggjfjjaa
open Go.RowKit
set_option maxRecDepth 100000

/-- A block n that holds vs; one of the call's own (from m on) may be written. -/
def Blk (m : Nat) (w : World) (n : Nat) (vs : List Value) : Prop :=
  n < w.heap.size ∧ (∀ i, w.cell? ⟨n, i, none⟩ = vs[i]?) ∧ (m ≤ n → ∀ i, i < vs.length → w.frozen? ⟨n, i, none⟩ = false)
/-- Since w0 nothing that was there has turned, and the blocks of the list hold what it says. -/
def Fr (w0 : World) (bl : List (Nat × List Value)) (w : World) : Prop := Below w0.heap.size w0 w ∧ ∀ x ∈ bl, Blk w0.heap.size w x.1 x.2

theorem Fr.below {w0 w : World} {bl : List (Nat × List Value)} (h : Fr w0 bl w) : Below w0.heap.size w0 w := h.1
theorem Fr.start (w : World) : Fr w [] w := ⟨Below.refl _ _, fun x hx => by cases hx⟩
theorem Fr.drew {w0 w : World} {bl : List (Nat × List Value)} (h : Fr w0 bl w) : Fr w0 bl w.drew := ⟨h.1.drew, fun x hx => h.2 x hx⟩
theorem Fr.over {w0 w w' : World} {bl : List (Nat × List Value)} (h : Fr w0 bl w) (hb : Below w.heap.size w w') : Fr w0 bl w' := by
  refine ⟨h.1.trans (hb.mono h.1.size), fun x hx => ?_⟩
  obtain ⟨h1, h2, h3⟩ := h.2 x hx
  have hs := hb.size
  refine ⟨by omega, fun i => ?_, fun hm i hi => ?_⟩
  · rw [hb.cell (p := ⟨x.1, i, none⟩) h1]; exact h2 i
  · rw [hb.frozen (p := ⟨x.1, i, none⟩) h1]; exact h3 hm i hi
theorem Fr.more {w0 w : World} {bl : List (Nat × List Value)} (h : Fr w0 bl w) (o : Obj) : Fr w0 bl (w.alloc o) := h.over ((Below.refl _ _).alloc (Nat.le_refl _) o)
theorem Fr.push {w0 w : World} {bl : List (Nat × List Value)} (h : Fr w0 bl w) (n : Nat) (hn : w.heap.size = n) (vs : List Value) (t : TypeId) : Fr w0 ((n, vs) :: bl) (w.alloc (.cells vs.toArray t)) := by
  subst hn
  refine ⟨(h.more _).1, fun x hx => ?_⟩
  rcases List.mem_cons.1 hx with rfl | hx
  · exact ⟨by simp, fun i => by simp, fun _ i _ => by simp⟩
  · exact (h.more _).2 x hx
theorem Fr.rule {w0 w : World} {bl : List (Nat × List Value)} (h : Fr w0 bl w) (k : Nat) {n : Nat} {vs : List Value} (e : bl[k]? = some (n, vs)) : ∀ i, w.cell? ⟨n, i, none⟩ = vs[i]? :=
  (h.2 (n, vs) (List.mem_of_getElem? e)).2.1
theorem Fr.lt {w0 w : World} {bl : List (Nat × List Value)} (h : Fr w0 bl w) (k : Nat) {n : Nat} {vs : List Value} (e : bl[k]? = some (n, vs)) : n < w.heap.size :=
  (h.2 (n, vs) (List.mem_of_getElem? e)).1
theorem Fr.thaw {w0 w : World} {bl : List (Nat × List Value)} (h : Fr w0 bl w) (k : Nat) {n : Nat} {vs : List Value} (e : bl[k]? = some (n, vs)) (hn : w0.heap.size ≤ n) : ∀ i, i < vs.length → w.frozen? ⟨n, i, none⟩ = false :=
  (h.2 (n, vs) (List.mem_of_getElem? e)).2.2 hn
/-- A variable that was there before. -/
theorem Fr.seen {w0 w : World} {bl : List (Nat × List Value)} (h : Fr w0 bl w) {n : Nat} {vs : List Value} (hn : n < w0.heap.size) (hc : ∀ i, w0.cell? ⟨n, i, none⟩ = vs[i]?) : Fr w0 ((n, vs) :: bl) w := by
  refine ⟨h.1, fun x hx => ?_⟩
  rcases List.mem_cons.1 hx with rfl | hx
  · exact ⟨by have := h.1.size; simp; omega, fun i => by rw [h.1.cell (p := ⟨n, i, none⟩) hn]; exact hc i, fun hm => by simp at hm; omega⟩
  · exact h.2 x hx
/-- A store into the block that came last: the others stay. -/
theorem Fr.put {w0 w : World} {n : Nat} {vs : List Value} {bl : List (Nat × List Value)} (h : Fr w0 ((n, vs) :: bl) w) (hn : w0.heap.size ≤ n) (hd : ∀ x ∈ bl, x.1 ≠ n) (i : Nat) (hi : i < vs.length) (u : Value) : Fr w0 ((n, vs.set i u) :: bl) (w.setCell ⟨n, i, none⟩ u) := by
  obtain ⟨hb, hbl⟩ := h
  have h0 := hbl (n, vs) (List.mem_cons_self ..)
  refine ⟨hb.setCell hn u, fun x hx => ?_⟩
  rcases List.mem_cons.1 hx with rfl | hx
  · obtain ⟨k1, k2, k3⟩ := h0
    refine ⟨by simpa [World.setCell] using k1, fun j => ?_, fun hm j hj => ?_⟩
    · by_cases hij : j = i
      · subst hij
        rw [World.cell?_setCell_same' _ _ _ (by rw [k2]; simp [hi])]
        simp [hi]
      · have e : (⟨n, i, none⟩ : Addr) ≠ ⟨n, j, none⟩ := fun e => hij (by cases e; rfl)
        have e2 : (w.setCell ⟨n, i, none⟩ u).cell? ⟨n, j, none⟩ = w.cell? ⟨n, j, none⟩ := World.cell?_setCell_other w _ _ u e
        rw [e2, k2, List.getElem?_set, if_neg (fun e => hij e.symm)]
    · rw [World.frozen?_setCell]
      exact k3 hm j (by simpa using hj)
  · obtain ⟨k1, k2, k3⟩ := hbl x (List.mem_cons_of_mem _ hx)
    have hne : x.1 ≠ n := hd x hx
    have hk : (w.setCell ⟨n, i, none⟩ u).heap[x.1]? = w.heap[x.1]? := Below.heap_setCell _ _ _ _ hne
    exact ⟨by simpa [World.setCell] using k1, fun j => by rw [World.cell?_of_block (w := w) hk]; exact k2 j, fun hm j hj => by rw [World.frozen?_of_block (w := w) hk]; exact k3 hm j hj⟩
theorem Fr.tail {w0 w : World} {x : Nat × List Value} {bl : List (Nat × List Value)} (h : Fr w0 (x :: bl) w) : Fr w0 bl w := ⟨h.1, fun y hy => h.2 y (List.mem_cons_of_mem _ hy)⟩
/-- A block of the frame by itself. -/
theorem Fr.blk {w0 w : World} {bl : List (Nat × List Value)} (h : Fr w0 bl w) (k : Nat) {n : Nat} {vs : List Value} (e : bl[k]? = some (n, vs)) (hn : w0.heap.size ≤ n) : Blk 0 w n vs := ⟨h.lt k e, h.rule k e, fun _ => h.thaw k e hn⟩
theorem Fr.put3 {w0 w : World} {n : Nat} {a b c : Value} {bl : List (Nat × List Value)} (h : Fr w0 ((n, [a, b, c]) :: bl) w) (hn : w0.heap.size ≤ n) (hd : ∀ x ∈ bl, x.1 ≠ n) (u v t : Value) : Fr w0 ((n, [u, v, t]) :: bl) (((w.setCell ⟨n, 0, none⟩ u).setCell ⟨n, 1, none⟩ v).setCell ⟨n, 2, none⟩ t) :=
  ((h.put hn hd 0 (by simp) u).put hn hd 1 (by simp) v).put hn hd 2 (by simp) t
theorem Fr.put5 {w0 w : World} {n : Nat} {a b c d e : Value} {bl : List (Nat × List Value)} (h : Fr w0 ((n, [a, b, c, d, e]) :: bl) w) (hn : w0.heap.size ≤ n) (hd : ∀ x ∈ bl, x.1 ≠ n) (u v t x y : Value) :
    Fr w0 ((n, [u, v, t, x, y]) :: bl) (((((w.setCell ⟨n, 0, none⟩ u).setCell ⟨n, 1, none⟩ v).setCell ⟨n, 2, none⟩ t).setCell ⟨n, 3, none⟩ x).setCell ⟨n, 4, none⟩ y) :=
  ((((h.put hn hd 0 (by simp) u).put hn hd 1 (by simp) v).put hn hd 2 (by simp) t).put hn hd 3 (by simp) x).put hn hd 4 (by simp) y
end Go.Proofs.Ytdeohigggjfjjaa

/- Numbers and answers: general. -/
namespace Go.Proofs.Ytdeohigggjfjjaa
open Go.RowKit
set_option maxRecDepth 100000

theorem ret_bool {x y : Bool} (h : x = y) : Ending.returned (.bool x) = .returned (.bool y) := congrArg (fun z => Ending.returned (.bool z)) h
theorem ret_int {k : IntKind} {x y : Int} (h : x = y) : Ending.returned (.int k x) = .returned (.int k y) := congrArg (fun z => Ending.returned (.int k z)) h
theorem ret_pair {k : IntKind} {x y : Int} {a b : Bool} (h : x = y) (g : a = b) : Ending.returned (.tuple #[.int k x, .bool a]) = .returned (.tuple #[.int k y, .bool b]) := by rw [h, g]
theorem w64 (n : Int) (h : -9223372036854775808 ≤ n ∧ n ≤ 9223372036854775807) : wrap64 n = n := by unfold wrap64; omega
/-- What the program counts is what is asked: nothing goes round. -/
theorem mul_in {a b A B : Int} (ha : 0 ≤ a ∧ a ≤ A) (hb : 0 ≤ b ∧ b ≤ B) : 0 ≤ a * b ∧ a * b ≤ A * B :=
  ⟨Int.mul_nonneg ha.1 hb.1, Int.mul_le_mul ha.2 hb.2 hb.1 (by omega)⟩
theorem wrap_mul {a b A B : Int} (ha : 0 ≤ a ∧ a ≤ A) (hb : 0 ≤ b ∧ b ≤ B) (hAB : A * B ≤ 9223372036854775807) : wrap64 (a * b) = a * b := by
  have := mul_in ha hb
  exact w64 _ (by omega)
theorem wrap_i (n : Int) : IntKind.i64.wrap n = wrap64 n := by rw [IntKind.wrap_i64]; unfold wrap64; omega
/-- int(uint(a) % m). -/
theorem cut_u (a m : Int) (h0 : 0 < m) (h1 : m ≤ 1099511627776) : ∃ r : Int, wrap64 ((IntKind.u64.wrap a).tmod m) = r ∧ 0 ≤ r ∧ r < m := by
  refine ⟨_, rfl, ?_⟩
  have e : 0 ≤ IntKind.u64.wrap a := by rw [IntKind.wrap_u64]; omega
  rw [Int.tmod_eq_emod_of_nonneg e]
  have := Int.emod_nonneg (IntKind.u64.wrap a) (show m ≠ 0 by omega)
  have := Int.emod_lt_of_pos (IntKind.u64.wrap a) h0
  unfold wrap64
  omega
/-- 1 + int(uint(a) % m). -/
theorem cut_u1 (a m : Int) (h0 : 0 < m) (h1 : m ≤ 1099511627776) : ∃ r : Int, wrap64 (1 + wrap64 ((IntKind.u64.wrap a).tmod m)) = r ∧ 1 ≤ r ∧ r ≤ m := by
  obtain ⟨r, hr, r0, r1⟩ := cut_u a m h0 h1
  exact ⟨1 + r, by rw [hr]; exact w64 _ (by omega), by omega, by omega⟩
def In64 (n : Int) : Prop := -9223372036854775808 ≤ n ∧ n ≤ 9223372036854775807
def InU (n : Int) : Prop := 0 ≤ n ∧ n ≤ 18446744073709551615
theorem wf_i {n : Int} : (Lit.int .i64 n).wf = true ↔ In64 n := by simp [Lit.wf, IntKind.min, IntKind.max, IntKind.signed, IntKind.bits, In64]
theorem wf_u {n : Int} : (Lit.int .u64 n).wf = true ↔ InU n := by simp [Lit.wf, IntKind.min, IntKind.max, IntKind.signed, IntKind.bits, InU]
end Go.Proofs.Ytdeohigggjfjjaa

/- A state's cells: sixteen pairs by rising keys, zero behind the last one, and how many. -/
namespace Go.Proofs.Ytdeohigggjfjjaa
open Go.RowKit
set_option maxRecDepth 100000

/-- A pair's cells. -/
def encP (p : Int × Int) : List Value := [.int .u64 p.1, .int .u64 p.2]
def flatP : List (Int × Int) → List Value
  | [] => []
  | p :: l => .int .u64 p.1 :: .int .u64 p.2 :: flatP l
@[simp] theorem flatP_length : ∀ l : List (Int × Int), (flatP l).length = 2 * l.length
  | [] => rfl
  | p :: l => by simp only [flatP, List.length_cons, flatP_length l]; omega
theorem flatP_append : ∀ a b : List (Int × Int), flatP (a ++ b) = flatP a ++ flatP b
  | [], b => rfl
  | p :: a, b => by simp [flatP, flatP_append a b]
theorem flatP_get : ∀ (l : List (Int × Int)) (i : Nat), i < l.length → (flatP l)[2 * i]? = some (.int .u64 (l.getD i (0, 0)).1) ∧ (flatP l)[2 * i + 1]? = some (.int .u64 (l.getD i (0, 0)).2)
  | [], i, h => by simp at h
  | p :: l, 0, _ => by simp [flatP]
  | p :: l, i + 1, h => by
    have := flatP_get l i (by simpa using h)
    rw [show 2 * (i + 1) = 2 * i + 1 + 1 by omega, show 2 * i + 1 + 1 + 1 = (2 * i + 1) + 1 + 1 by omega]
    simpa [flatP] using this
def zeros (n : Nat) : List Value := List.replicate n (.int .u64 0)
/-- A state's cells. -/
def encS (l : List (Int × Int)) : List Value := flatP l ++ zeros (32 - 2 * l.length) ++ [.int .i64 l.length]
theorem encS_length {l : List (Int × Int)} (h : l.length ≤ 16) : (encS l).length = 33 := by simp [encS, zeros]; omega
theorem encS_n {l : List (Int × Int)} (h : l.length ≤ 16) : (encS l)[32]? = some (.int .i64 l.length) := by
  unfold encS
  rw [List.getElem?_append_right (by simp [zeros]; omega)]
  simp [zeros, show 32 - (2 * l.length + (32 - 2 * l.length)) = 0 by omega]
theorem encS_key {l : List (Int × Int)} {i : Nat} (h : i < l.length) : (encS l)[i * 2]? = some (.int .u64 (l.getD i (0, 0)).1) ∧ (encS l)[i * 2 + 1]? = some (.int .u64 (l.getD i (0, 0)).2) := by
  unfold encS
  rw [Nat.mul_comm i 2]
  rw [List.append_assoc, List.getElem?_append_left (by simp; omega), List.getElem?_append_left (by simp; omega)]
  exact flatP_get l i h
theorem encS_one (l : List (Int × Int)) : ∀ v ∈ encS l, v.oneCell' = true := by
  intro v hv
  unfold encS at hv
  simp only [List.mem_append, List.mem_singleton, zeros, List.mem_replicate] at hv
  rcases hv with (hv | hv) | hv
  · have h : ∀ (l : List (Int × Int)), ∀ v ∈ flatP l, v.oneCell' = true := by
      intro l
      induction l with
      | nil => intro v hv; cases hv
      | cons p l ih =>
        intro v hv
        simp only [flatP, List.mem_cons] at hv
        rcases hv with rfl | rfl | hv
        · rfl
        · rfl
        · exact ih v hv
    exact h l v hv
  · rw [hv.2]; rfl
  · rw [hv]; rfl
/-- How many keys come ahead of k; whether k is there. -/
def cnt (l : List (Int × Int)) (k : Int) : Nat := l.countP fun p => decide (p.1 < k)
def hasK (l : List (Int × Int)) (k : Int) : Bool := decide (cnt l k < l.length) && decide ((l.getD (cnt l k) (0, 0)).1 = k)
theorem cnt_le (l : List (Int × Int)) (k : Int) : cnt l k ≤ l.length := List.countP_le_length
/-- Keys rise; all are numbers of 64 bits; 16 at most. -/
structure SOk (l : List (Int × Int)) : Prop where
  up : l.Pairwise fun a b => a.1 < b.1
  le : l.length ≤ 16
  u : ∀ p ∈ l, InU p.1 ∧ InU p.2
theorem cnt_of {l : List (Int × Int)} {k : Int} {i : Nat} (hi : i ≤ l.length) (h1 : ∀ j, j < i → (l.getD j (0, 0)).1 < k) (h2 : ∀ j, i ≤ j → j < l.length → k ≤ (l.getD j (0, 0)).1) : cnt l k = i := by
  induction l generalizing i with
  | nil => simp at hi; simp [cnt, hi]
  | cons p l ih =>
    cases i with
    | zero =>
      unfold cnt
      rw [List.countP_eq_zero]
      intro x hx
      obtain ⟨j, hj, rfl⟩ := List.getElem_of_mem hx
      have := h2 j (Nat.zero_le _) hj
      rw [List.getD_eq_getElem?_getD, List.getElem?_eq_getElem hj] at this
      simp at this ⊢
      omega
    | succ i =>
      have hp := h1 0 (by omega)
      simp at hp
      unfold cnt
      rw [List.countP_cons_of_pos (by simpa using hp)]
      have := ih (i := i) (by simpa using hi) (fun j hj => by simpa using h1 (j + 1) (by omega)) (fun j h3 h4 => by simpa using h2 (j + 1) (by omega) (by simpa using h4))
      unfold cnt at this
      rw [this]
theorem up_lt {l : List (Int × Int)} (h : l.Pairwise fun a b => a.1 < b.1) {i j : Nat} (hij : i < j) (hj : j < l.length) : (l.getD i (0, 0)).1 < (l.getD j (0, 0)).1 := by
  have := List.pairwise_iff_getElem.1 h i j (by omega) hj hij
  simpa [List.getD_eq_getElem?_getD, List.getElem?_eq_getElem hj, List.getElem?_eq_getElem (show i < l.length by omega)] using this
end Go.Proofs.Ytdeohigggjfjjaa

/- A drawn region whose operations each come to one value, whatever the order: walked once, in the order of the text. S says what every world on the way keeps (cells that are read, what has not turned); loads, arithmetic and calls (of functions that may make memory) go by it. -/
namespace Go.Proofs.Ytdeohigggjfjjaa
open Go
set_option maxRecDepth 100000

section
variable {P : Program} {ops : Array Oper} {Q : Exit → Act → World → Prop} {md : Region.Mode} {S : World → Prop}

/-- What a run comes to: the value v, or a call that comes to v; S is kept. -/
def LandsIn (P : Program) (S : World → Prop) (v : Value) : Result Next → Prop
  | .ok (.value u) w' => u = v ∧ S w'
  | .ok .skip w' => v = undef ∧ S w'
  | .ok (.enter f args) w' => Calls P f args w' fun e w'' => e = .returned v ∧ S w''
  | _ => False

/-- In frame a the operation comes to v from every world that meets S. -/
def Settles (P : Program) (ops : Array Oper) (S : World → Prop) (o : Oper) (v : Value) (a : Act) : Prop :=
  (Region.wanted o (yielded ops a.tmps) = true ∧ ∀ w, S w → LandsIn P S v ((execOp a.eval o).run P w)) ∨ (Region.wanted o (yielded ops a.tmps) = false ∧ v = undef)

theorem Settles.of_same {o : Oper} {v : Value} {a a' : Act} (h : Settles P ops S o v a) (he : execOp a'.eval o = execOp a.eval o)
    (hw : Region.wanted o (yielded ops a'.tmps) = Region.wanted o (yielded ops a.tmps)) : Settles P ops S o v a' := by
  unfold Settles at *
  rw [he, hw]
  exact h

theorem Settles.wpOp {i : Nat} {o : Oper} {v : Value} {a : Act} (hi : ops[i]? = some o) (h : Settles P ops S o v a) {K : Act → World → Prop} {w : World} (hS : S w)
    (hK : ∀ w', S w' → K (a.put o.dst v) w') : wpOp P ops Q i K a w := by
  unfold Go.wpOp
  simp only [hi]
  rcases h with ⟨hw, hv⟩ | ⟨hw, rfl⟩
  · simp only [hw, if_true]
    have := hv w hS
    refine .inl ?_
    unfold Oper.wp
    generalize (execOp a.eval o).run P w = r at *
    cases r with
    | ok n w' =>
      cases n <;> simp only [LandsIn] at this <;> simp only [Oper.upon]
      case value u => obtain ⟨rfl, h2⟩ := this; exact hK _ h2
      case skip => obtain ⟨rfl, h2⟩ := this; exact hK _ h2
      case enter f args =>
        refine Calls.mono this fun e w'' he => ?_
        obtain ⟨rfl, h2⟩ := he
        exact hK _ h2
    | halt x w' => simp only [LandsIn] at this
  · simp only [hw, Bool.false_eq_true, if_false]
    exact hK _ hS

/-- Whatever order is picked: each operation comes to a value that hangs on the frame alone. -/
def Every (P : Program) (md : Region.Mode) (ops : Array Oper) (Q : Exit → Act → World → Prop) (S : World → Prop) : Nat → Array Bool → Act → Prop
  | 0, listed, a => Region.ready md ops listed = [] ∧ ∀ w, S w → Q .normal a w
  | fuel + 1, listed, a => (Region.ready md ops listed = [] → ∀ w, S w → Q .normal a w) ∧
    ∀ i ∈ Region.ready md ops listed, ∃ o v, ops[i]? = some o ∧ Settles P ops S o v a ∧ Every P md ops Q S fuel (listed.setIfInBounds i true) (a.put o.dst v)

theorem Every.sound : ∀ (fuel : Nat) (listed : Array Bool) (a : Act), Every P md ops Q S fuel listed a → ∀ w, S w → wpAny P md ops Q fuel listed a w
  | 0, _, _, h, w, hS => ⟨h.1, h.2 w hS⟩
  | fuel + 1, listed, a, h, w, hS => ⟨fun h0 => h.1 h0 w hS, fun i hi => by
      obtain ⟨o, v, ho, hs, hE⟩ := h.2 i hi
      exact hs.wpOp ho hS fun w' hS' => Every.sound fuel _ _ hE w' hS'⟩

theorem Every.first {i : Nat} {oi : Oper} {v : Value} (hi : ops[i]? = some oi) (hsel : ∀ (j : Nat) (o : Oper) cs b, ops[j]? = some o → o.op ≠ .select cs b) :
    ∀ (fuel : Nat) (listed : Array Bool) (a : Act),
      (∀ j oj, ops[j]? = some oj → j ≠ i → listed.getD j true = false → (∀ e ∈ oj.after, Region.binds md e = true → e.on ≠ i) → oi.apart ops oj = true) →
      i ∈ Region.ready md ops listed → Settles P ops S oi v a →
      Every P md ops Q S fuel (listed.setIfInBounds i true) (a.put oi.dst v) → Every P md ops Q S (fuel + 1) listed a := by
  intro fuel
  induction fuel with
  | zero =>
    intro listed a _ hr hy H
    refine ⟨fun h => (by rw [h] at hr; cases hr), fun j hj => ?_⟩
    by_cases hji : j = i
    · subst hji; exact ⟨oi, v, hi, hy, H⟩
    · have := ready_mono hj hji
      rw [H.1] at this
      cases this
  | succ fuel ih =>
    intro listed a hfree hr hy H
    refine ⟨fun h => (by rw [h] at hr; cases hr), fun j hj => ?_⟩
    by_cases hji : j = i
    · subst hji; exact ⟨oi, v, hi, hy, H⟩
    · obtain ⟨oj, u, hoj, hsj, hE⟩ := H.2 j (ready_mono hj hji)
      obtain ⟨hjun, oj', hoj', hall⟩ := mem_ready.1 hj
      obtain rfl : oj = oj' := Option.some.inj (hoj.symm.trans hoj')
      have hnot : ∀ e ∈ oj.after, Region.binds md e = true → e.on ≠ i := fun e he hb heq => by
        have h1 := hall e he hb
        have h0 := (mem_ready.1 hr).1
        rw [heq] at h1
        rcases Nat.lt_or_ge i listed.size with h' | h'
        · simp [h'] at h0 h1; rw [h0] at h1; cases h1
        · simp [Array.getElem?_eq_none h'] at h1
      have hap := hfree j oj hoj hji hjun hnot
      obtain ⟨p1, p2, p3⟩ := Oper.apart_spec hap
      have hfree' : ∀ k ok, ops[k]? = some ok → k ≠ i → (listed.setIfInBounds j true).getD k true = false →
          (∀ e ∈ ok.after, Region.binds md e = true → e.on ≠ i) → oi.apart ops ok = true := fun k ok hk hki hun hno => by
        refine hfree k ok hk hki ?_ hno
        by_cases hjk : j = k
        · subst hjk; exact hjun
        · rw [getD_set_ne true hjk] at hun; exact hun
      refine ⟨oj, u, hoj, hsj.of_same (execOp_put oj (fun cs b => hsel j oj cs b hoj) a oi.dst v p1).symm (wanted_put oj a oi.dst v p1).symm, ?_⟩
      refine ih (listed.setIfInBounds j true) (a.put oj.dst u) hfree' (ready_mono hr (Ne.symm hji)) (hy.of_same (execOp_put oi (fun cs b => hsel i oi cs b hi) a oj.dst u p3) (wanted_put oi a oj.dst u p3)) ?_
      rw [Array.setIfInBounds_comm _ _ hji, ← Act.put_comm a v u p2]
      exact hE

/-- The operations of the text from k on, in its order. -/
def firstK (n k : Nat) : Array Bool := Array.ofFn (n := n) fun i => decide (i.1 < k)
def textFits (md : Region.Mode) (ops : Array Oper) : Bool :=
  Region.noSelect ops && (List.range ops.size).all fun k => Region.free md ops (firstK ops.size k) k && (Region.ready md ops (firstK ops.size k)).contains k
def InText (P : Program) (md : Region.Mode) (ops : Array Oper) (Q : Exit → Act → World → Prop) (S : World → Prop) (rest : List Oper) (a : Act) : Prop :=
  ∀ k, k + rest.length = ops.size → ops.toList.drop k = rest → Every P md ops Q S rest.length (firstK ops.size k) a

theorem firstK_succ (n k : Nat) : (firstK n k).setIfInBounds k true = firstK n (k + 1) := by
  apply Array.ext
  · simp [firstK]
  · intro i h1 h2
    by_cases hik : i = k
    · subst hik
      simp [firstK]
    · have e := Array.getElem_setIfInBounds_ne (xs := firstK n k) (i := k) (j := i) (a := true) (by simpa using h1) (by omega)
      rw [e]
      simp only [firstK, Array.getElem_ofFn]
      congr 1
      apply propext
      omega

theorem InText.nil {a : Act} (h : ∀ w, S w → Q .normal a w) : InText P md ops Q S [] a := fun k hk _ => by
  refine ⟨?_, h⟩
  have hk' : k = ops.size := by simpa using hk
  subst hk'
  unfold Region.ready
  rw [List.filter_eq_nil_iff]
  intro i hi
  have : i < ops.size := by simpa using hi
  simp [firstK, this]

theorem InText.cons {o : Oper} {rest : List Oper} {a : Act} {v : Value} (hf : textFits md ops = true) (hs : Settles P ops S o v a) (h : InText P md ops Q S rest (a.put o.dst v)) : InText P md ops Q S (o :: rest) a := fun k hk hd => by
  unfold textFits at hf
  rw [Bool.and_eq_true, List.all_eq_true] at hf
  have hlt : k < ops.size := by simp at hk; omega
  have hf2 := hf.2 k (by simpa using hlt)
  rw [Bool.and_eq_true] at hf2
  have ho : ops[k]? = some o := by
    have h0 : (ops.toList.drop k)[0]? = some o := by rw [hd]; rfl
    simpa using h0
  have hsel : ∀ (j : Nat) (o : Oper) cs b, ops[j]? = some o → o.op ≠ .select cs b := Region.noSelect_spec hf.1
  refine Every.first ho hsel rest.length (firstK ops.size k) a (Region.free_spec ho hf2.1) (by simpa using hf2.2) hs ?_
  rw [firstK_succ]
  refine h (k + 1) (by simp at hk; omega) ?_
  rw [← List.drop_drop, hd]
  rfl

/-- The start. -/
theorem wp_text {id : Nat} {a : Act} {w : World} (hm : P.follows .mixedOrders = true) (hf : textFits .any ops = true) (hS : S w.drew) (h : textFits .any ops = true → InText P .any ops Q S ops.toList a) : (Code.region id ops true).wp P Q a w :=
  wp_region_any hm (by
    have h0 := h hf 0 (by simp) rfl
    have e : firstK ops.size 0 = Array.replicate ops.size false := by
      apply Array.ext
      · simp [firstK]
      · intro i h1 h2; simp [firstK]
    rw [e] at h0
    simpa using Every.sound _ _ _ h0 _ hS)

/-- One step each: a value (arithmetic, a load, a move). -/
theorem text_value {o : Oper} {rest : List Oper} {a : Act} {v : Value} (hf : textFits md ops = true) (hw : Region.wanted o (yielded ops a.tmps) = true) (hv : ∀ w, S w → (execOp a.eval o).run P w = .ok (.value v) w)
    (h : InText P md ops Q S rest (a.put o.dst v)) : InText P md ops Q S (o :: rest) a :=
  InText.cons hf (Or.inl ⟨hw, fun w hS => by rw [hv w hS]; exact ⟨rfl, hS⟩⟩) h
/-- .. an operation that is not wanted .. -/
theorem text_off {o : Oper} {rest : List Oper} {a : Act} (hf : textFits md ops = true) (hw : Region.wanted o (yielded ops a.tmps) = false) (h : InText P md ops Q S rest (a.put o.dst undef)) : InText P md ops Q S (o :: rest) a :=
  InText.cons hf (Or.inr ⟨hw, rfl⟩) h
/-- .. a call. -/
theorem text_call {o : Oper} {rest : List Oper} {a : Act} {v : Value} {f : FuncId} {args : Array Value} (hf : textFits md ops = true) (hw : Region.wanted o (yielded ops a.tmps) = true) (hr : ∀ w, S w → (execOp a.eval o).run P w = .ok (.enter f args) w)
    (hc : ∀ w, S w → Calls P f args w fun e w' => e = .returned v ∧ S w') (h : InText P md ops Q S rest (a.put o.dst v)) : InText P md ops Q S (o :: rest) a :=
  InText.cons hf (Or.inl ⟨hw, fun w hS => by rw [hr w hS]; exact hc w hS⟩) h
end
end Go.Proofs.Ytdeohigggjfjjaa

/- Where a key is among a state's pairs. -/
namespace Go.Proofs.Ytdeohigggjfjjaa
open Go.RowKit
set_option maxRecDepth 100000

theorem cmp_u (a b : Int) (w : World) : Calls Try.prog 29 #[.int .u64 a, .int .u64 b] w fun e w' => e = .returned (.int .i64 (if a < b then -1 else if b < a then 1 else 0)) ∧ w' = w := by
  have hn : ∀ (x : Int) (w' : World), Calls Try.prog 35 #[.int .u64 x] w' fun e w'' => e = .returned (.bool false) ∧ w'' = w' := by
    intro x w'
    go_enter Try.func35, Try.ntmps35
    go_wp2
    go_ret
    exact ⟨ret_bool (by simp), rfl⟩
  have hH : Hid (∀ (x : Int) (w' : World), Calls Try.prog 35 #[.int .u64 x] w' fun e w'' => e = .returned (.bool false) ∧ w'' = w') := Lib.hid hn
  clear hn
  go_enter Try.func29, Try.ntmps29
  go_wp2_with (with_reducible refine (hH.out _ _).mono ?_; rintro e w1 ⟨rfl, rfl⟩)
  all_goals
    go_ret
    (try go_light)
    (try simp only [bne_iff_ne, ne_eq, bne_eq_false_iff_eq, beq_iff_eq, beq_eq_false_iff_ne, Bool.or_eq_true, Bool.and_eq_true, decide_eq_true_eq, decide_eq_false_iff_not, Bool.or_eq_false_iff, Bool.not_eq_true', Bool.not_eq_false'] at *)
    refine ⟨ret_int ?_, by first | rfl | trivial⟩
    first | rfl | (rw [if_pos (by omega)]; done) | (rw [if_neg (by omega), if_pos (by omega)]; done) | (rw [if_neg (by omega), if_neg (by omega)])

theorem cmpf_u (a v k : Int) (w : World) : Calls Try.prog 32 #[.agg #[.int .u64 a, .int .u64 v], .int .u64 k] w fun e w' => e = .returned (.int .i64 (if a < k then -1 else if k < a then 1 else 0)) ∧ Below w.heap.size w w' := by
  have hF := (Fr.start w).push w.heap.size rfl [.int .u64 a, .int .u64 v] 26
  have r := hF.rule 0 rfl
  have c1 := Lib.hid (cmp_u a k)
  generalize (if a < k then (-1 : Int) else if k < a then 1 else 0) = z at *
  go_enter Try.func32, Try.ntmps32
  go_wp2_with (with_reducible refine (c1.out _).mono ?_; rintro e w1 ⟨rfl, rfl⟩)
  go_ret
  exact ⟨rfl, hF.below⟩

/-- slices.BinarySearchFunc over a state's pairs. -/
theorem search_u (l : List (Int × Int)) (N : Nat) (k : Int) (w : World) (hl : l.Pairwise fun a b => a.1 < b.1) (hn : l.length ≤ 16) (hN : N < w.heap.size) (hc : ∀ i, w.cell? ⟨N, i, none⟩ = (encS l)[i]?) (cap : Nat) :
    Calls Try.prog 31 #[.slice (some ⟨N, 0, none⟩) l.length cap, .int .u64 k, .func (.func 32) #[] #[]] w fun e w' => e = .returned (.tuple #[.int .i64 (cnt l k), .bool (hasK l k)]) ∧ Below w.heap.size w w' := by
  have hF : Fr w [(N, encS l)] w := (Fr.start w).seen hN hc
  have HC := Lib.hid (cmpf_u)
  have HL := Lib.hid hl
  clear hl hc
  generalize hcn : cnt l k = c at *
  have HCN := Lib.hid hcn
  clear hcn
  have HK : Hid (hasK l k = (decide (c < l.length) && decide ((l.getD c (0, 0)).1 = k))) := Lib.hid (by unfold hasK; rw [HCN.out])
  generalize hasK l k = b at *
  generalize hnn : l.length = n at *
  have HN := Lib.hid hnn
  clear hnn
  go_enter Try.func31, Try.ntmps31
  go_wp2_with fail
  have key : ∀ (lo hi : Nat), lo ≤ hi → hi ≤ n → (∀ t, t < lo → (l.getD t (0, 0)).1 < k) → (∀ t, hi ≤ t → t < n → k ≤ (l.getD t (0, 0)).1) → lo = hi → c = lo := fun lo hi h1 h2 h3 h4 h5 => by
    rw [← HCN.out]
    exact cnt_of (by rw [HN.out]; omega) h3 (fun j h6 h7 => h4 j (by omega) (by rw [← HN.out]; exact h7))
  have KEY := Lib.hid key
  clear key
  go_loopg [9, 10] n (fun kx s9 s10 wr => ∃ lo hi : Nat, s9 = .int .i64 lo ∧ s10 = .int .i64 hi ∧ lo ≤ hi ∧ hi ≤ n ∧ hi - lo ≤ kx ∧ Hid (Fr w [(N, encS l)] wr) ∧
    Hid ((∀ t, t < lo → (l.getD t (0, 0)).1 < k) ∧ (∀ t, hi ≤ t → t < n → k ≤ (l.getD t (0, 0)).1)))
  case atStart => exact ⟨0, n, rfl, rfl, Nat.zero_le _, Nat.le_refl _, by omega, Lib.hid hF, Lib.hid ⟨fun t ht => absurd ht (Nat.not_lt_zero _), fun t h1 h2 => by omega⟩⟩
  case round =>
    clear hF
    obtain ⟨lo, hi, rfl, rfl, hlh, hin, hg, S1, I⟩ := hrel
    by_cases hlt : lo < hi
    · have hm : (lo + hi) / 2 < l.length := by rw [HN.out]; omega
      have cm1 := (S1.out.rule 0 rfl ((lo + hi) / 2 * 2)).trans (encS_key hm).1
      have cm2 := (S1.out.rule 0 rfl ((lo + hi) / 2 * 2 + 1)).trans (encS_key hm).2
      have hy : ∃ y, l.getD ((lo + hi) / 2) (0, 0) = y := ⟨_, rfl⟩
      obtain ⟨⟨y1, y2⟩, hy⟩ := hy
      rw [hy] at cm1 cm2
      have Y := Lib.hid hy
      clear hy
      have h5 := HC.out y1 y2 k
      clear hm
      by_cases hyx : y1 < k
      · rw [if_pos hyx] at h5
        have H5 := Lib.hid h5
        clear h5
        go_wp2_with (with_reducible refine (H5.out _).mono ?_; rintro e w1 ⟨rfl, hb⟩)
        go_roundg (hi - ((lo + hi) / 2 + 1))
        case measure => omega
        case rel =>
          have I2 : Hid ((∀ t, t < (lo + hi) / 2 + 1 → (l.getD t (0, 0)).1 < k) ∧ (∀ t, hi ≤ t → t < n → k ≤ (l.getD t (0, 0)).1)) := Lib.hid ⟨fun t ht => by
            by_cases e : t = (lo + hi) / 2
            · rw [e, Y.out]; exact hyx
            · have := up_lt HL.out (i := t) (j := (lo + hi) / 2) (by omega) (by rw [HN.out]; omega)
              rw [Y.out] at this
              simp only at this
              omega, I.out.2⟩
          exact ⟨(lo + hi) / 2 + 1, hi, by rw [show ((lo : Int) + (hi : Int)) / 2 + 1 = (((lo + hi) / 2 + 1 : Nat) : Int) by omega], rfl, by omega, hin, Nat.le_refl _, Lib.hid (S1.out.over hb), I2⟩
      · have H5 : Hid (∀ w', Calls Try.prog 32 #[.agg #[.int .u64 y1, .int .u64 y2], .int .u64 k] w' fun e w'' => ∃ z : Int, 0 ≤ z ∧ e = .returned (.int .i64 z) ∧ Below w'.heap.size w' w'') := Lib.hid fun w' => (h5 w').mono fun e w'' h => by
          rw [if_neg hyx] at h
          exact ⟨_, by split <;> omega, h⟩
        clear h5
        go_wp2_with (with_reducible refine (H5.out _).mono ?_; rintro e w1 ⟨z, hz, rfl, hb⟩)
        go_roundg ((lo + hi) / 2 - lo)
        case measure => omega
        case rel =>
          have I2 : Hid ((∀ t, t < lo → (l.getD t (0, 0)).1 < k) ∧ (∀ t, (lo + hi) / 2 ≤ t → t < n → k ≤ (l.getD t (0, 0)).1)) := Lib.hid ⟨I.out.1, fun t ht htn => by
            by_cases e : t = (lo + hi) / 2
            · rw [e, Y.out]; simp only; omega
            · have := up_lt HL.out (i := (lo + hi) / 2) (j := t) (by omega) (by rw [HN.out]; omega)
              rw [Y.out] at this
              simp only at this
              omega⟩
          exact ⟨lo, (lo + hi) / 2, rfl, by rw [show ((lo : Int) + (hi : Int)) / 2 = (((lo + hi) / 2 : Nat) : Int) by omega], by omega, by omega, Nat.le_refl _, Lib.hid (S1.out.over hb), I2⟩
    · obtain rfl : hi = lo := by omega
      have ecnt : c = hi := KEY.out hi hi (Nat.le_refl _) hin I.out.1 I.out.2 rfl
      subst ecnt
      by_cases hn : c < n
      · have hm : c < l.length := by rw [HN.out]; exact hn
        have cm1 := (S1.out.rule 0 rfl (c * 2)).trans (encS_key hm).1
        have cm2 := (S1.out.rule 0 rfl (c * 2 + 1)).trans (encS_key hm).2
        have hy : ∃ y, l.getD c (0, 0) = y := ⟨_, rfl⟩
        obtain ⟨⟨y1, y2⟩, hy⟩ := hy
        rw [hy] at cm1 cm2
        have Y := Lib.hid hy
        clear hy hm
        have h5 := HC.out y1 y2 k
        have H5 : Hid (∀ w', Calls Try.prog 32 #[.agg #[.int .u64 y1, .int .u64 y2], .int .u64 k] w' fun e w'' => ∃ z : Int, (z = 0 ↔ y1 = k) ∧ e = .returned (.int .i64 z) ∧ Below w'.heap.size w' w'') := Lib.hid fun w' => (h5 w').mono fun e w'' h => ⟨_, by split <;> (try split) <;> omega, h⟩
        clear h5
        go_wp2_with (with_reducible refine (H5.out _).mono ?_; rintro e w1 ⟨z, hz, rfl, hb⟩)
        all_goals
          go_ret2
          refine ⟨?_, (S1.out.over hb).below⟩
          rw [HK.out, Y.out]
          (try go_light)
          (try simp only [bne_iff_ne, ne_eq, bne_eq_false_iff_eq, beq_iff_eq, beq_eq_false_iff_ne, Bool.or_eq_true, Bool.and_eq_true, decide_eq_true_eq, decide_eq_false_iff_not, Bool.or_eq_false_iff, Bool.not_eq_true', Bool.not_eq_false'] at *)
          simp_all
          (try (rw [Bool.eq_iff_iff]; simp [hz]))
      · go_wp2_with fail
        go_ret2
        refine ⟨?_, S1.out.below⟩
        rw [HK.out]
        simp [hn]
end Go.Proofs.Ytdeohigggjfjjaa

/- What a call may turn among the blocks that were there; things kept apart. -/
namespace Go.Proofs.Ytdeohigggjfjjaa
open Go.RowKit
set_option maxRecDepth 100000

/-- Of the blocks that were there those of T alone may have turned. -/
structure Turn (T : Nat → Prop) (w w' : World) : Prop where
  os : w'.os = w.os
  tape : w'.tape = w.tape
  output : w'.output = w.output
  size : w.heap.size ≤ w'.heap.size
  block : ∀ k, k < w.heap.size → ¬ T k → w'.heap[k]? = w.heap[k]?

section
variable {T T' : Nat → Prop} {a b c w w' : World}
theorem Turn.refl (T : Nat → Prop) (w : World) : Turn T w w := ⟨rfl, rfl, rfl, Nat.le_refl _, fun _ _ _ => rfl⟩
theorem Turn.then (h : Turn T a b) (k : Turn T' b c) (hT : ∀ k, k < a.heap.size → T' k → T k) : Turn T a c :=
  ⟨k.os.trans h.os, k.tape.trans h.tape, k.output.trans h.output, Nat.le_trans h.size k.size, fun i hi hn => (k.block i (Nat.lt_of_lt_of_le hi h.size) (fun e => hn (hT i hi e))).trans (h.block i hi hn)⟩
theorem Turn.mono (h : Turn T a b) (hT : ∀ k, k < a.heap.size → T k → T' k) : Turn T' a b := ⟨h.os, h.tape, h.output, h.size, fun k hk hn => h.block k hk fun e => hn (hT k hk e)⟩
theorem Turn.of_below (h : Below a.heap.size a b) : Turn T a b := ⟨h.os, h.tape, h.output, h.size, fun k hk _ => h.block k hk⟩
theorem Turn.to_below (h : Turn (fun _ => False) a b) : Below a.heap.size a b := ⟨h.os, h.tape, h.output, h.size, fun k hk => h.block k hk fun e => e⟩
theorem Turn.drew (h : Turn T a b) : Turn T a b.drew := ⟨h.os, h.tape, h.output, h.size, h.block⟩
theorem Turn.alloc (h : Turn T a b) (o : Obj) : Turn T a (b.alloc o) := h.then (T' := fun _ => False) (Turn.of_below ((Below.refl _ b).alloc (Nat.le_refl _) o)) fun _ _ e => e.elim
theorem Turn.setCell (h : Turn T a b) {p : Addr} (hp : p.block < a.heap.size → T p.block) (u : Value) : Turn T a (b.setCell p u) :=
  h.then (T' := fun k => k = p.block) ⟨rfl, rfl, rfl, by simp [World.setCell], fun k _ hn => Below.heap_setCell _ _ _ _ hn⟩ fun k hk e => by subst e; exact hp hk
theorem Turn.grown (h : Turn T a b) {row : Option Nat} (hg : b.grownBy c row) (hr : ∀ k, k < a.heap.size → row = some k → T k) : Turn T a c :=
  h.then (T' := fun k => row = some k) ⟨hg.os, hg.tape, hg.output, hg.size, fun k hk hn => hg.block k hk (fun e => hn e.symm)⟩ hr
theorem Turn.turned (h : Turn T a b) {m : Nat} (hg : b.mapTurned c m) (hm : m < a.heap.size → T m) : Turn T a c := h.grown hg.grown fun k hk e => by cases e; exact hm hk
theorem Turn.below {n : Nat} (h : Below n a b) (k : Turn T b c) (hn : n ≤ b.heap.size) (hT : ∀ k, T k → n ≤ k) : Below n a c :=
  h.trans ⟨k.os, k.tape, k.output, k.size, fun i hi => k.block i (by omega) fun e => by have := hT i e; omega⟩
end

/-- Two things share no block. -/
def Off (F G : Nat → Prop) : Prop := ∀ k, F k → ¬ G k
theorem Off.symm {F G : Nat → Prop} (h : Off F G) : Off G F := fun k hg hf => h k hf hg
/-- A step that turns F alone, behind which F' stands for it: what was F's, or is new. -/
structure Step (F F' : Nat → Prop) (w w' : World) : Prop where
  turn : Turn F w w'
  from' : ∀ k, F' k → F k ∨ w.heap.size ≤ k
theorem Step.off {F F' G : Nat → Prop} {w w' : World} (h : Step F F' w w') (hG : ∀ k, G k → k < w.heap.size) (hd : Off F G) : Off F' G := fun k hf hg => by
  rcases h.from' k hf with h1 | h1
  · exact hd k h1 hg
  · have := hG k hg; omega
theorem Step.refl (F : Nat → Prop) (w : World) : Step F F w w := ⟨Turn.refl _ _, fun _ h => Or.inl h⟩
theorem Step.trans {F F' F'' : Nat → Prop} {a b c : World} (h : Step F F' a b) (k : Step F' F'' b c) : Step F F'' a c :=
  ⟨h.turn.then k.turn fun i hi e => (h.from' i e).resolve_right (by omega), fun i e => by
    rcases k.from' i e with h1 | h1
    · exact h.from' i h1
    · exact Or.inr (Nat.le_trans h.turn.size h1)⟩
theorem Step.base {F F' : Nat → Prop} {w w' : World} {n : Nat} (h : Step F F' w w') (hn : n ≤ w.heap.size) (hF : ∀ k, F k → n ≤ k) : ∀ k, F' k → n ≤ k := fun k hk => by
  rcases h.from' k hk with h1 | h1
  · exact hF k h1
  · omega

theorem Blk.kept {m n : Nat} {vs : List Value} {w w' : World} (h : Blk m w n vs) (hs : w.heap.size ≤ w'.heap.size) (hb : w'.heap[n]? = w.heap[n]?) : Blk m w' n vs :=
  ⟨Nat.lt_of_lt_of_le h.1 hs, fun i => by rw [World.cell?_of_block (w := w) hb]; exact h.2.1 i, fun hm i hi => by rw [World.frozen?_of_block (w := w) hb]; exact h.2.2 hm i hi⟩
theorem Blk.set {m n i : Nat} {vs : List Value} {w : World} (h : Blk m w n vs) (hi : i < vs.length) (u : Value) : Blk m (w.setCell ⟨n, i, none⟩ u) n (vs.set i u) := by
  refine ⟨by simpa [World.setCell] using h.1, fun j => ?_, fun hm j hj => ?_⟩
  · by_cases hij : j = i
    · subst hij
      rw [World.cell?_setCell_same' _ _ _ (by rw [h.2.1]; simp [hi])]
      simp [hi]
    · have e : (⟨n, i, none⟩ : Addr) ≠ ⟨n, j, none⟩ := fun e => hij (by cases e; rfl)
      have e2 : (w.setCell ⟨n, i, none⟩ u).cell? ⟨n, j, none⟩ = w.cell? ⟨n, j, none⟩ := World.cell?_setCell_other w _ _ u e
      rw [e2, h.2.1, List.getElem?_set, if_neg (fun e => hij e.symm)]
  · rw [World.frozen?_setCell]
    exact h.2.2 hm j (by simpa using hj)
theorem Blk.new (m : Nat) (w : World) (vs : List Value) (t : TypeId) : Blk m (w.alloc (.cells vs.toArray t)) w.heap.size vs := ⟨by simp, fun i => by simp, fun _ i _ => by simp⟩
theorem Blk.more {m n : Nat} {vs : List Value} {w : World} (h : Blk m w n vs) (o : Obj) : Blk m (w.alloc o) n vs := h.kept (by simp) (Below.heap_alloc _ _ _ h.1)
theorem Blk.drew {m n : Nat} {vs : List Value} {w : World} (h : Blk m w n vs) : Blk m w.drew n vs := h
theorem Blk.at {m n n' : Nat} {vs : List Value} {w : World} (h : Blk m w n vs) (e : n = n') : Blk m w n' vs := e ▸ h
theorem Blk.rule {m n : Nat} {vs : List Value} {w : World} (h : Blk m w n vs) : ∀ i, w.cell? ⟨n, i, none⟩ = vs[i]? := h.2.1
theorem Blk.thaw {n : Nat} {vs : List Value} {w : World} (h : Blk 0 w n vs) : ∀ i, i < vs.length → w.frozen? ⟨n, i, none⟩ = false := h.2.2 (Nat.zero_le _)

theorem Fr.turn {w0 w w' : World} {bl : List (Nat × List Value)} {T : Nat → Prop} (h : Fr w0 bl w) (ht : Turn T w w') (hT : ∀ k, T k → w0.heap.size ≤ k) (hbl : ∀ x ∈ bl, ¬ T x.1) : Fr w0 bl w' :=
  ⟨Turn.below h.1 ht h.1.size hT, fun x hx => (h.2 x hx).kept ht.size (ht.block _ (h.2 x hx).1 (hbl x hx))⟩
end Go.Proofs.Ytdeohigggjfjjaa

/- Things that a call has made, kept apart: a list of them, each with its blocks and what it is good for. -/
namespace Go.Proofs.Ytdeohigggjfjjaa
open Go.RowKit
set_option maxRecDepth 100000

/-- A thing: its blocks, and what is said of it, which hangs on them alone. -/
structure Item where
  F : Nat → Prop
  says : World → Prop
  loc : ∀ w1 w2, says w1 → (∀ k, F k → w2.heap[k]? = w1.heap[k]?) → w1.heap.size ≤ w2.heap.size → says w2
/-- Since w0 nothing that was there has turned; each thing of the list is what it is; no two share a block. -/
def Env (w0 : World) (L : List Item) (w : World) : Prop :=
  Below w0.heap.size w0 w ∧ L.Pairwise (fun a b => Off a.F b.F) ∧ ∀ a ∈ L, a.says w ∧ ∀ k, a.F k → w0.heap.size ≤ k ∧ k < w.heap.size

section
variable {w0 w w' : World} {L : List Item}
theorem Env.start (w : World) : Env w [] w := ⟨Below.refl _ _, List.Pairwise.nil, by simp⟩
theorem Env.below (h : Env w0 L w) : Below w0.heap.size w0 w := h.1
theorem Env.over (h : Env w0 L w) (hb : Below w.heap.size w w') : Env w0 L w' := by
  refine ⟨h.1.trans (hb.mono h.1.size), h.2.1, fun a ha => ?_⟩
  obtain ⟨h1, h2⟩ := h.2.2 a ha
  exact ⟨a.loc w w' h1 (fun k hk => hb.block k (h2 k hk).2) hb.size, fun k hk => ⟨(h2 k hk).1, Nat.lt_of_lt_of_le (h2 k hk).2 hb.size⟩⟩
theorem Env.more (h : Env w0 L w) (o : Obj) : Env w0 L (w.alloc o) := h.over ((Below.refl _ _).alloc (Nat.le_refl _) o)
theorem Env.drew (h : Env w0 L w) : Env w0 L w.drew := h.over (Below.refl _ w).drew
theorem Env.add (h : Env w0 L w) (a : Item) (hb : Below w.heap.size w w') (ha : a.says w') (hF : ∀ k, a.F k → w.heap.size ≤ k ∧ k < w'.heap.size) : Env w0 (a :: L) w' := by
  have h' := h.over hb
  refine ⟨h'.1, List.pairwise_cons.2 ⟨fun b hb' k hk hk' => ?_, h'.2.1⟩, fun b hb' => ?_⟩
  · have := ((h.2.2 b hb').2 k hk').2
    have := (hF k hk).1
    omega
  · rcases List.mem_cons.1 hb' with rfl | hb'
    · exact ⟨ha, fun k hk => ⟨Nat.le_trans h.1.size (hF k hk).1, (hF k hk).2⟩⟩
    · exact h'.2.2 b hb'
theorem Env.get (h : Env w0 L w) (i : Nat) {a : Item} (hi : L[i]? = some a) : a.says w := (h.2.2 a (List.mem_of_getElem? hi)).1
theorem Env.lt (h : Env w0 L w) (i : Nat) {a : Item} (hi : L[i]? = some a) : ∀ k, a.F k → k < w.heap.size := fun k hk => ((h.2.2 a (List.mem_of_getElem? hi)).2 k hk).2
theorem Env.off (h : Env w0 L w) {i j : Nat} {a b : Item} (hi : L[i]? = some a) (hj : L[j]? = some b) (hij : i ≠ j) : Off a.F b.F := by
  obtain ⟨hi1, hi2⟩ := List.getElem?_eq_some_iff.1 hi
  obtain ⟨hj1, hj2⟩ := List.getElem?_eq_some_iff.1 hj
  have hp := List.pairwise_iff_getElem.1 h.2.1
  rcases Nat.lt_or_gt_of_ne hij with hlt | hlt
  · have := hp i j hi1 hj1 hlt; rw [hi2, hj2] at this; exact this
  · have := hp j i hj1 hi1 hlt; rw [hi2, hj2] at this; exact this.symm
/-- One of them turns. -/
theorem Env.step (h : Env w0 L w) (i : Nat) {a : Item} (b : Item) (hi : L[i]? = some a) (hs : Step a.F b.F w w') (hb : b.says w') (hlt : ∀ k, b.F k → k < w'.heap.size) : Env w0 (L.set i b) w' := by
  have hil : i < L.length := (List.getElem?_eq_some_iff.1 hi).1
  have hai : L[i] = a := (List.getElem?_eq_some_iff.1 hi).2
  have ha := h.2.2 a (List.mem_of_getElem? hi)
  have hB : Below w0.heap.size w0 w' := Turn.below h.1 hs.turn h.1.size fun k hk => (ha.2 k hk).1
  refine ⟨hB, List.pairwise_iff_getElem.2 fun m n hm hn hmn => ?_, fun x hx => ?_⟩
  · rw [List.length_set] at hm hn
    rw [List.getElem_set, List.getElem_set]
    have hof : ∀ j (hj : j < L.length), j ≠ i → Off b.F L[j].F := fun j hj hne => hs.off (h.lt j (by simp)) (h.off hi (j := j) (b := L[j]) (by simp) (fun e => hne e.symm))
    split
    · rename_i e
      split
      · omega
      · rename_i e'; exact hof n hn (fun e2 => e' e2.symm)
    · split
      · rename_i e e'; exact (hof m hm (fun e2 => e e2.symm)).symm
      · exact List.pairwise_iff_getElem.1 h.2.1 m n hm hn hmn
  · obtain ⟨j, hj, rfl⟩ := List.getElem_of_mem hx
    rw [List.length_set] at hj
    rw [List.getElem_set]
    split
    · refine ⟨hb, fun k hk => ⟨?_, hlt k hk⟩⟩
      exact hs.base h.1.size (fun k hk => (ha.2 k hk).1) k hk
    · rename_i e
      obtain ⟨h1, h2⟩ := h.2.2 L[j] (List.getElem_mem hj)
      refine ⟨(L[j]).loc w w' h1 (fun k hk => hs.turn.block k (h2 k hk).2 fun hk' => ?_) hs.turn.size, fun k hk => ⟨(h2 k hk).1, Nat.lt_of_lt_of_le (h2 k hk).2 hs.turn.size⟩⟩
      exact h.off hi (j := j) (b := L[j]) (by simp [hj]) e k hk' hk
theorem Env.sub {L' : List Item} (h : Env w0 L w) (hs : L'.Sublist L) : Env w0 L' w := ⟨h.1, h.2.1.sublist hs, fun a ha => h.2.2 a (hs.subset ha)⟩

theorem Env.perm {L' : List Item} (h : Env w0 L w) (hp : L.Perm L') : Env w0 L' w := ⟨h.1, (hp.pairwise_iff (fun h => Off.symm h)).1 h.2.1, fun a ha => h.2.2 a (hp.mem_iff.2 ha)⟩

/-- A block of cells. -/
def boxI (B : Nat) (vs : List Value) : Item where
  F := fun k => k = B
  says := fun w => Blk 0 w B vs
  loc := fun w1 w2 h hk hs => h.kept hs (hk B rfl)
theorem Env.box (h : Env w0 L w) (n : Nat) (hn : w.heap.size = n) (vs : List Value) (t : TypeId) : Env w0 (boxI n vs :: L) (w.alloc (.cells vs.toArray t)) := by
  subst hn
  exact h.add (boxI w.heap.size vs) ((Below.refl _ _).alloc (Nat.le_refl _) _) (Blk.new 0 w vs t) fun k hk => by subst hk; simp
theorem Env.rule (h : Env w0 L w) (i : Nat) {B : Nat} {vs : List Value} (hi : L[i]? = some (boxI B vs)) : ∀ j, w.cell? ⟨B, j, none⟩ = vs[j]? := Blk.rule (h.get i hi)
theorem Env.thaw (h : Env w0 L w) (i : Nat) {B : Nat} {vs : List Value} (hi : L[i]? = some (boxI B vs)) : ∀ j, j < vs.length → w.frozen? ⟨B, j, none⟩ = false := Blk.thaw (h.get i hi)
theorem Env.boxLt (h : Env w0 L w) (i : Nat) {B : Nat} {vs : List Value} (hi : L[i]? = some (boxI B vs)) : B < w.heap.size := h.lt i hi B rfl
theorem Env.put (h : Env w0 L w) (i : Nat) {B : Nat} {vs : List Value} (hi : L[i]? = some (boxI B vs)) {j : Nat} (hj : j < vs.length) (v : Value) : Env w0 (L.set i (boxI B (vs.set j v))) (w.setCell ⟨B, j, none⟩ v) :=
  h.step i (boxI B (vs.set j v)) hi ⟨(Turn.refl (fun k => k = B) w).setCell (p := ⟨B, j, none⟩) (fun _ => rfl) v, fun k hk => .inl hk⟩ ((show Blk 0 w B vs from h.get i hi).set hj v) fun k hk => by
    have := h.lt i hi k hk
    simpa using this
end
/-- How far it is: of the row the j-th holds. -/
def Stage (Ps : List (World → Prop)) (j : Nat) (w : World) : Prop := ∃ P, Ps[j]? = some P ∧ P w
end Go.Proofs.Ytdeohigggjfjjaa
