/- What is proved on the way to the statement, part 1 of 2: contracts of the functions, among other things in memory. -/
import Derived.WalkKit
import Derived.Orders
import Derived.Lib.Hide
import Derived.Maps.OwnSet
import Derived.Test.YtjiohencpopbeaaChecked
import Derived.Deep.AppendLies
import Derived.Maps.AppendAt
import Derived.OneCell
import Derived.Laws.OwnMore
import Derived.Deep.Light
import Derived.Lib.SmallJoins
import Derived.Deep.Slices

/- A drawn region in whose course the world is turned: walked once, in the order of the text. S says, of what has been listed so far, what every world on the way keeps. 'Chain': operations that turn the world one behind the other, each hanging on the one ahead of it; all others keep what is said. 'Both': two operations that turn it, in whichever order. -/
namespace Go.Proofs.Ytjiohencpopbeaa.Ord
open Go
set_option maxRecDepth 100000

section
variable {P : Program} {ops : Array Oper} {Q : Exit → Act → World → Prop} {md : Region.Mode} {S : Array Bool → World → Prop}

/-- What a run comes to: the value v, or a call that comes to v; then T. -/
def LandsIn (P : Program) (T : World → Prop) (v : Value) : Result Next → Prop
  | .ok (.value u) w' => u = v ∧ T w'
  | .ok .skip w' => v = undef ∧ T w'
  | .ok (.enter f args) w' => Calls P f args w' fun e w'' => e = .returned v ∧ T w''
  | _ => False
theorem LandsIn.mono {T T' : World → Prop} {v : Value} {r : Result Next} (h : LandsIn P T v r) (hT : ∀ w, T w → T' w) : LandsIn P T' v r := by
  cases r with
  | ok n w' =>
    cases n <;> simp only [LandsIn] at *
    case value u => exact ⟨h.1, hT _ h.2⟩
    case skip => exact ⟨h.1, hT _ h.2⟩
    case enter f args => exact h.mono fun e w'' he => ⟨he.1, hT _ he.2⟩
  | halt x w' => simp only [LandsIn] at h

/-- In frame a the operation, number i, comes to v from every world that is met when it comes up. -/
def Settles (P : Program) (md : Region.Mode) (ops : Array Oper) (S : Array Bool → World → Prop) (i : Nat) (o : Oper) (v : Value) (a : Act) : Prop :=
  (Region.wanted o (yielded ops a.tmps) = true ∧ ∀ l w, i ∈ Region.ready md ops l → S l w → LandsIn P (S (l.setIfInBounds i true)) v ((execOp a.eval o).run P w)) ∨
  (Region.wanted o (yielded ops a.tmps) = false ∧ v = undef ∧ ∀ l w, i ∈ Region.ready md ops l → S l w → S (l.setIfInBounds i true) w)

theorem Settles.of_same {i : Nat} {o : Oper} {v : Value} {a a' : Act} (h : Settles P md ops S i o v a) (he : execOp a'.eval o = execOp a.eval o)
    (hw : Region.wanted o (yielded ops a'.tmps) = Region.wanted o (yielded ops a.tmps)) : Settles P md ops S i o v a' := by
  unfold Settles at *
  rw [he, hw]
  exact h

theorem Settles.wpOp {i : Nat} {o : Oper} {v : Value} {a : Act} {l : Array Bool} (hi : ops[i]? = some o) (h : Settles P md ops S i o v a) (hr : i ∈ Region.ready md ops l) {K : Act → World → Prop} {w : World} (hS : S l w)
    (hK : ∀ w', S (l.setIfInBounds i true) w' → K (a.put o.dst v) w') : wpOp P ops Q i K a w := by
  unfold Go.wpOp
  simp only [hi]
  rcases h with ⟨hw, hv⟩ | ⟨hw, rfl, hv⟩
  · simp only [hw, if_true]
    have := hv l w hr hS
    refine .inl ?_
    unfold Oper.wp
    generalize (execOp a.eval o).run P w = r at *
    cases r with
    | ok n w' =>
      cases n <;> simp only [LandsIn] at this <;> simp only [Oper.upon]
      case value u => obtain ⟨rfl, h2⟩ := this; exact hK _ h2
      case skip => obtain ⟨rfl, h2⟩ := this; exact hK _ h2
      case enter f args =>
        refine Calls.mono this fun e w'' he => ?_
        obtain ⟨rfl, h2⟩ := he
        exact hK _ h2
    | halt x w' => simp only [LandsIn] at this
  · simp only [hw, Bool.false_eq_true, if_false]
    exact hK _ (hv l w hr hS)

/-- Whatever order is picked: each operation comes to a value that hangs on the frame alone. -/
def Every (P : Program) (md : Region.Mode) (ops : Array Oper) (Q : Exit → Act → World → Prop) (S : Array Bool → World → Prop) : Nat → Array Bool → Act → Prop
  | 0, listed, a => Region.ready md ops listed = [] ∧ ∀ w, S listed w → Q .normal a w
  | fuel + 1, listed, a => (Region.ready md ops listed = [] → ∀ w, S listed w → Q .normal a w) ∧
    ∀ i ∈ Region.ready md ops listed, ∃ o v, ops[i]? = some o ∧ Settles P md ops S i o v a ∧ Every P md ops Q S fuel (listed.setIfInBounds i true) (a.put o.dst v)

theorem Every.sound : ∀ (fuel : Nat) (listed : Array Bool) (a : Act), Every P md ops Q S fuel listed a → ∀ w, S listed w → wpAny P md ops Q fuel listed a w
  | 0, _, _, h, w, hS => ⟨h.1, h.2 w hS⟩
  | fuel + 1, listed, a, h, w, hS => ⟨fun h0 => h.1 h0 w hS, fun i hi => by
      obtain ⟨o, v, ho, hs, hE⟩ := h.2 i hi
      exact hs.wpOp ho hi hS fun w' hS' => Every.sound fuel _ _ hE w' hS'⟩

theorem Every.first {i : Nat} {oi : Oper} {v : Value} (hi : ops[i]? = some oi) (hsel : ∀ (j : Nat) (o : Oper) cs b, ops[j]? = some o → o.op ≠ .select cs b) :
    ∀ (fuel : Nat) (listed : Array Bool) (a : Act),
      (∀ j oj, ops[j]? = some oj → j ≠ i → listed.getD j true = false → (∀ e ∈ oj.after, Region.binds md e = true → e.on ≠ i) → oi.apart ops oj = true) →
      i ∈ Region.ready md ops listed → Settles P md ops S i oi v a →
      Every P md ops Q S fuel (listed.setIfInBounds i true) (a.put oi.dst v) → Every P md ops Q S (fuel + 1) listed a := by
  intro fuel
  induction fuel with
  | zero =>
    intro listed a _ hr hy H
    refine ⟨fun h => (by rw [h] at hr; cases hr), fun j hj => ?_⟩
    by_cases hji : j = i
    · subst hji; exact ⟨oi, v, hi, hy, H⟩
    · have := ready_mono hj hji
      rw [H.1] at this
      cases this
  | succ fuel ih =>
    intro listed a hfree hr hy H
    refine ⟨fun h => (by rw [h] at hr; cases hr), fun j hj => ?_⟩
    by_cases hji : j = i
    · subst hji; exact ⟨oi, v, hi, hy, H⟩
    · obtain ⟨oj, u, hoj, hsj, hE⟩ := H.2 j (ready_mono hj hji)
      obtain ⟨hjun, oj', hoj', hall⟩ := mem_ready.1 hj
      obtain rfl : oj = oj' := Option.some.inj (hoj.symm.trans hoj')
      have hnot : ∀ e ∈ oj.after, Region.binds md e = true → e.on ≠ i := fun e he hb heq => by
        have h1 := hall e he hb
        have h0 := (mem_ready.1 hr).1
        rw [heq] at h1
        rcases Nat.lt_or_ge i listed.size with h' | h'
        · simp [h'] at h0 h1; rw [h0] at h1; cases h1
        · simp [Array.getElem?_eq_none h'] at h1
      have hap := hfree j oj hoj hji hjun hnot
      obtain ⟨p1, p2, p3⟩ := Oper.apart_spec hap
      have hfree' : ∀ k ok, ops[k]? = some ok → k ≠ i → (listed.setIfInBounds j true).getD k true = false →
          (∀ e ∈ ok.after, Region.binds md e = true → e.on ≠ i) → oi.apart ops ok = true := fun k ok hk hki hun hno => by
        refine hfree k ok hk hki ?_ hno
        by_cases hjk : j = k
        · subst hjk; exact hjun
        · rw [getD_set_ne true hjk] at hun; exact hun
      refine ⟨oj, u, hoj, hsj.of_same (execOp_put oj (fun cs b => hsel j oj cs b hoj) a oi.dst v p1).symm (wanted_put oj a oi.dst v p1).symm, ?_⟩
      refine ih (listed.setIfInBounds j true) (a.put oj.dst u) hfree' (ready_mono hr (Ne.symm hji)) (hy.of_same (execOp_put oi (fun cs b => hsel i oi cs b hi) a oj.dst u p3) (wanted_put oi a oj.dst u p3)) ?_
      rw [Array.setIfInBounds_comm _ _ hji, ← Act.put_comm a v u p2]
      exact hE

/-- The operations of the text from k on, in its order. -/
def firstK (n k : Nat) : Array Bool := Array.ofFn (n := n) fun i => decide (i.1 < k)
def textFits (md : Region.Mode) (ops : Array Oper) : Bool :=
  Region.noSelect ops && (List.range ops.size).all fun k => Region.free md ops (firstK ops.size k) k && (Region.ready md ops (firstK ops.size k)).contains k
def InText (P : Program) (md : Region.Mode) (ops : Array Oper) (Q : Exit → Act → World → Prop) (S : Array Bool → World → Prop) (k : Nat) (rest : List Oper) (a : Act) : Prop :=
  k + rest.length = ops.size → ops.toList.drop k = rest → Every P md ops Q S rest.length (firstK ops.size k) a

theorem firstK_succ (n k : Nat) : (firstK n k).setIfInBounds k true = firstK n (k + 1) := by
  apply Array.ext
  · simp [firstK]
  · intro i h1 h2
    by_cases hik : i = k
    · subst hik
      simp [firstK]
    · have e := Array.getElem_setIfInBounds_ne (xs := firstK n k) (i := k) (j := i) (a := true) (by simpa using h1) (by omega)
      rw [e]
      simp only [firstK, Array.getElem_ofFn]
      congr 1
      apply propext
      omega
theorem firstK_get (n k i : Nat) (h : i < n) : (firstK n k).getD i false = decide (i < k) := by simp [firstK, h]

theorem InText.nil {a : Act} {k : Nat} (h : ∀ w, S (firstK ops.size ops.size) w → Q .normal a w) : InText P md ops Q S k [] a := fun hk _ => by
  have hk' : k = ops.size := by simpa using hk
  subst hk'
  refine ⟨?_, h⟩
  unfold Region.ready
  rw [List.filter_eq_nil_iff]
  intro i hi
  have : i < ops.size := by simpa using hi
  simp [firstK, this]

theorem InText.cons {o : Oper} {rest : List Oper} {a : Act} {v : Value} {k : Nat} (hf : textFits md ops = true) (hs : Settles P md ops S k o v a) (h : InText P md ops Q S (k + 1) rest (a.put o.dst v)) : InText P md ops Q S k (o :: rest) a := fun hk hd => by
  unfold textFits at hf
  rw [Bool.and_eq_true, List.all_eq_true] at hf
  have hlt : k < ops.size := by simp at hk; omega
  have hf2 := hf.2 k (by simpa using hlt)
  rw [Bool.and_eq_true] at hf2
  have ho : ops[k]? = some o := by
    have h0 : (ops.toList.drop k)[0]? = some o := by rw [hd]; rfl
    simpa using h0
  have hsel : ∀ (j : Nat) (o : Oper) cs b, ops[j]? = some o → o.op ≠ .select cs b := Region.noSelect_spec hf.1
  refine Every.first ho hsel rest.length (firstK ops.size k) a (Region.free_spec ho hf2.1) (by simpa using hf2.2) hs ?_
  rw [firstK_succ]
  refine h (by simp at hk; omega) ?_
  rw [← List.drop_drop, hd]
  rfl

/-- The start. -/
theorem wp_ord {id : Nat} {a : Act} {w : World} (hm : P.follows .mixedOrders = true) (hf : textFits .any ops = true) (hS : S (firstK ops.size 0) w.drew) (h : textFits .any ops = true → InText P .any ops Q S 0 ops.toList a) : (Code.region id ops true).wp P Q a w :=
  wp_region_any hm (by
    have h0 := h hf (by simp) rfl
    have e : firstK ops.size 0 = Array.replicate ops.size false := by
      apply Array.ext
      · simp [firstK]
      · intro i h1 h2; simp [firstK]
    rw [e] at h0 hS
    simpa using Every.sound _ _ _ h0 _ hS)

/-- Operation k hangs on p at once. -/
def hangs (md : Region.Mode) (ops : Array Oper) (k p : Nat) : Bool :=
  match ops[k]? with
  | some o => o.after.any fun e => Region.binds md e && e.on == p
  | none => false
theorem hangs_listed {l : Array Bool} {k p : Nat} (h : hangs md ops k p = true) (hr : k ∈ Region.ready md ops l) : l.getD p false = true := by
  obtain ⟨_, o, ho, hall⟩ := mem_ready.1 hr
  unfold hangs at h
  rw [ho] at h
  obtain ⟨e, he, h2⟩ := Array.any_eq_true'.1 h
  rw [Bool.and_eq_true] at h2
  have := hall e he h2.1
  rwa [show e.on = p by simpa using h2.2] at this

end

/-! ### One behind the other -/
section
variable {P : Program} {ops : Array Oper} {Q : Exit → Act → World → Prop} {md : Region.Mode} {C : World → Prop} {A : Nat → World → Prop} {ps : List Nat}

/-- What is listed of the operations ps are the first j; then C and A j hold. -/
def Chain (n : Nat) (ps : List Nat) (C : World → Prop) (A : Nat → World → Prop) (l : Array Bool) (w : World) : Prop :=
  l.size = n ∧ C w ∧ ∃ j, j ≤ ps.length ∧ (∀ i p, ps[i]? = some p → p < n ∧ l.getD p false = decide (i < j)) ∧ A j w

theorem chain_start {n : Nat} {w : World} (hlt : ∀ p ∈ ps, p < n) (hC : C w) (hA : A 0 w) : Chain n ps C A (firstK n 0) w := by
  refine ⟨by simp [firstK], hC, 0, Nat.zero_le _, fun i p hp => ?_, hA⟩
  have h := hlt p (List.mem_of_getElem? hp)
  exact ⟨h, by rw [firstK_get _ _ _ h]; simp⟩
theorem chain_end {n : Nat} {w : World} (h : Chain n ps C A (firstK n n) w) : C w ∧ A ps.length w := by
  obtain ⟨_, hC, j, hj, hl, hA⟩ := h
  refine ⟨hC, ?_⟩
  rcases Nat.lt_or_ge j ps.length with hlt | hge
  · exfalso
    have h1 := hl j ps[j] (by simp [hlt])
    rw [firstK_get _ _ _ h1.1] at h1
    simp at h1
    omega
  · rwa [show j = ps.length by omega] at hA

theorem chain_set {n : Nat} {l : Array Bool} {k : Nat} {w w' : World} (hk : k ∉ ps) (h : Chain n ps C A l w) (hC : C w') (hA : ∀ j, A j w → A j w') : Chain n ps C A (l.setIfInBounds k true) w' := by
  obtain ⟨hs, _, j, hj, hl, hA0⟩ := h
  refine ⟨by simpa using hs, hC, j, hj, fun i p hp => ?_, hA j hA0⟩
  have hne : k ≠ p := fun e => hk (e ▸ List.mem_of_getElem? hp)
  rw [Array.getD_eq_getD_getElem?, Array.getElem?_setIfInBounds, if_neg hne, ← Array.getD_eq_getD_getElem?]
  exact hl i p hp

theorem wp_chain (ps : List Nat) (C : World → Prop) (A : Nat → World → Prop) {id : Nat} {a : Act} {w : World} (hm : P.follows .mixedOrders = true) (hf : textFits .any ops = true) (hlt : (ps.all fun p => decide (p < ops.size)) = true) (hC : C w.drew) (hA : A 0 w.drew)
    (h : textFits .any ops = true → InText P .any ops Q (Chain ops.size ps C A) 0 ops.toList a) : (Code.region id ops true).wp P Q a w :=
  wp_ord hm hf (chain_start (fun p hp => by simpa using List.all_eq_true.1 hlt p hp) hC hA) h

/-- A value that hangs on C alone. -/
theorem ch_value {k : Nat} {o : Oper} {rest : List Oper} {a : Act} {v : Value} (hf : textFits md ops = true) (hk : k ∉ ps) (hw : Region.wanted o (yielded ops a.tmps) = true) (hv : ∀ w, C w → (execOp a.eval o).run P w = .ok (.value v) w)
    (h : InText P md ops Q (Chain ops.size ps C A) (k + 1) rest (a.put o.dst v)) : InText P md ops Q (Chain ops.size ps C A) k (o :: rest) a :=
  InText.cons hf (Or.inl ⟨hw, fun l w _ hS => by rw [hv w hS.2.1]; exact ⟨rfl, chain_set hk hS hS.2.1 fun _ h => h⟩⟩) h
theorem ch_off {k : Nat} {o : Oper} {rest : List Oper} {a : Act} (hf : textFits md ops = true) (hk : k ∉ ps) (hw : Region.wanted o (yielded ops a.tmps) = false)
    (h : InText P md ops Q (Chain ops.size ps C A) (k + 1) rest (a.put o.dst undef)) : InText P md ops Q (Chain ops.size ps C A) k (o :: rest) a :=
  InText.cons hf (Or.inr ⟨hw, rfl, fun l w _ hS => chain_set hk hS hS.2.1 fun _ h => h⟩) h
/-- A call that leaves all as it is. -/
theorem ch_call {k : Nat} {o : Oper} {rest : List Oper} {a : Act} {v : Value} {f : FuncId} {args : Array Value} (hf : textFits md ops = true) (hk : k ∉ ps) (hw : Region.wanted o (yielded ops a.tmps) = true)
    (hr : ∀ w, C w → (execOp a.eval o).run P w = .ok (.enter f args) w) (hc : ∀ w, C w → Calls P f args w fun e w' => e = .returned v ∧ C w' ∧ ∀ j, A j w → A j w')
    (h : InText P md ops Q (Chain ops.size ps C A) (k + 1) rest (a.put o.dst v)) : InText P md ops Q (Chain ops.size ps C A) k (o :: rest) a :=
  InText.cons hf (Or.inl ⟨hw, fun l w _ hS => by rw [hr w hS.2.1]; exact (hc w hS.2.1).mono fun e w' he => ⟨he.1, chain_set hk hS he.2.1 he.2.2⟩⟩) h
/-- The j-th that turns the world. -/
theorem ch_turn (j : Nat) {k : Nat} {o : Oper} {rest : List Oper} {a : Act} {v : Value} (hf : textFits md ops = true) (hk : ps[j]? = some k) (hnd : ps.Nodup) (hh : j = 0 ∨ ∃ p, ps[j - 1]? = some p ∧ hangs md ops k p = true) (hw : Region.wanted o (yielded ops a.tmps) = true)
    (hv : ∀ w, C w → A j w → LandsIn P (fun w' => C w' ∧ A (j + 1) w') v ((execOp a.eval o).run P w))
    (h : InText P md ops Q (Chain ops.size ps C A) (k + 1) rest (a.put o.dst v)) : InText P md ops Q (Chain ops.size ps C A) k (o :: rest) a :=
  InText.cons hf (Or.inl ⟨hw, fun l w hr hS => by
    obtain ⟨hs, hC, j', hj', hl, hA⟩ := hS
    have hjl : j < ps.length := (List.getElem?_eq_some_iff.1 hk).1
    have h1 := hl j k hk
    have h2 : l.getD k true = false := (mem_ready.1 hr).1
    have e2 : l.getD k false = false := by
      rw [Array.getD_eq_getD_getElem?] at h2 ⊢
      rcases Nat.lt_or_ge k l.size with hh' | hh'
      · simp [hh'] at h2 ⊢; exact h2
      · simp [Array.getElem?_eq_none hh'] at h2
    have h3 : ¬ j < j' := by rw [h1.2] at e2; simpa using e2
    have h4 : j = j' := by
      rcases hh with rfl | ⟨p, hp, hg⟩
      · omega
      · rcases Nat.eq_zero_or_pos j with rfl | hj
        · omega
        · have h5 := hl (j - 1) p hp
          have h6 := hangs_listed hg hr
          rw [h5.2] at h6
          have : j - 1 < j' := by simpa using h6
          omega
    subst h4
    refine (hv w hC hA).mono fun w' hw' => ⟨by simpa using hs, hw'.1, j + 1, by omega, fun i p hp => ?_, hw'.2⟩
    refine ⟨(hl i p hp).1, ?_⟩
    by_cases hik : p = k
    · subst hik
      have : i = j := (List.getElem?_inj (List.getElem?_eq_some_iff.1 hp).1 hnd).1 (hp.trans hk.symm)
      subst this
      have hp' : p < l.size := by rw [hs]; exact h1.1
      rw [Array.getD_eq_getD_getElem?, Array.getElem?_setIfInBounds, if_pos rfl]
      simp [hp']
    · rw [Array.getD_eq_getD_getElem?, Array.getElem?_setIfInBounds, if_neg (fun e => hik e.symm), ← Array.getD_eq_getD_getElem?, (hl i p hp).2]
      have hne : i ≠ j := fun e => hik (by subst e; exact Option.some.inj (hp.symm.trans hk))
      congr 1
      apply propext
      omega⟩) h
end
end Go.Proofs.Ytjiohencpopbeaa.Ord

/- A drawn region in whose course the world turns, once more: what is listed is closed under what it hangs on, so that a read which a turning operation hangs on is met before that turn. -/
namespace Go.Proofs.Ytjiohencpopbeaa.Ord
open Go
set_option maxRecDepth 100000

section
variable {P : Program} {ops : Array Oper} {Q : Exit → Act → World → Prop} {md : Region.Mode} {C : World → Prop} {A : Nat → World → Prop} {ps : List Nat}

def Closed (md : Region.Mode) (ops : Array Oper) (l : Array Bool) : Prop :=
  ∀ i o, ops[i]? = some o → l.getD i false = true → ∀ e ∈ o.after, Region.binds md e = true → l.getD e.on false = true
theorem Closed.set {l : Array Bool} {k : Nat} (h : Closed md ops l) (hr : k ∈ Region.ready md ops l) : Closed md ops (l.setIfInBounds k true) := by
  intro i o ho hl e he hb
  have grow : ∀ j, l.getD j false = true → (l.setIfInBounds k true).getD j false = true := fun j hj => by
    rw [Array.getD_eq_getD_getElem?] at hj ⊢
    rw [Array.getElem?_setIfInBounds]
    split
    · rename_i e; subst e
      split
      · rfl
      · rename_i hn; rw [Array.getElem?_eq_none (by omega)] at hj; simp at hj
    · exact hj
  by_cases hik : i = k
  · subst hik
    obtain ⟨_, o', ho', hall⟩ := mem_ready.1 hr
    obtain rfl : o = o' := Option.some.inj (ho.symm.trans ho')
    exact grow _ (hall e he hb)
  · refine grow _ (h i o ho ?_ e he hb)
    rw [Array.getD_eq_getD_getElem?] at hl ⊢
    rwa [Array.getElem?_setIfInBounds, if_neg (fun e => hik e.symm)] at hl
/-- As Chain, and what is listed is closed. -/
def Chain2 (md : Region.Mode) (ops : Array Oper) (ps : List Nat) (C : World → Prop) (A : Nat → World → Prop) (l : Array Bool) (w : World) : Prop := Closed md ops l ∧ Chain ops.size ps C A l w
theorem Settles.closed {S : Array Bool → World → Prop} {i : Nat} {o : Oper} {v : Value} {a : Act} (h : Settles P md ops S i o v a) : Settles P md ops (fun l w => Closed md ops l ∧ S l w) i o v a := by
  rcases h with ⟨h1, h2⟩ | ⟨h1, h2, h3⟩
  · exact .inl ⟨h1, fun l w hr hS => (h2 l w hr hS.2).mono fun w' hw' => ⟨hS.1.set hr, hw'⟩⟩
  · exact .inr ⟨h1, h2, fun l w hr hS => ⟨hS.1.set hr, h3 l w hr hS.2⟩⟩
theorem chain2_end {w : World} (h : Chain2 md ops ps C A (firstK ops.size ops.size) w) : C w ∧ A ps.length w := chain_end h.2
theorem wp_chain2 (ps : List Nat) (C : World → Prop) (A : Nat → World → Prop) {id : Nat} {a : Act} {w : World} (hm : P.follows .mixedOrders = true) (hf : textFits .any ops = true) (hlt : (ps.all fun p => decide (p < ops.size)) = true) (hC : C w.drew) (hA : A 0 w.drew)
    (h : textFits .any ops = true → InText P .any ops Q (Chain2 .any ops ps C A) 0 ops.toList a) : (Code.region id ops true).wp P Q a w :=
  wp_ord hm hf ⟨fun i o ho hl => (by
    have hi : i < ops.size := (Array.getElem?_eq_some_iff.1 ho).1
    rw [firstK_get _ _ _ hi] at hl
    simp at hl), chain_start (fun p hp => by simpa using List.all_eq_true.1 hlt p hp) hC hA⟩ h

theorem ch2_value {k : Nat} {o : Oper} {rest : List Oper} {a : Act} {v : Value} (hf : textFits md ops = true) (hk : k ∉ ps) (hw : Region.wanted o (yielded ops a.tmps) = true) (hv : ∀ w, C w → (execOp a.eval o).run P w = .ok (.value v) w)
    (h : InText P md ops Q (Chain2 md ops ps C A) (k + 1) rest (a.put o.dst v)) : InText P md ops Q (Chain2 md ops ps C A) k (o :: rest) a :=
  InText.cons hf (Settles.closed (Or.inl ⟨hw, fun l w _ hS => by rw [hv w hS.2.1]; exact ⟨rfl, chain_set hk hS hS.2.1 fun _ h => h⟩⟩)) h
/-- A read which the m-th turn hangs on. -/
theorem ch2_early (m : Nat) {p : Nat} {k : Nat} {o : Oper} {rest : List Oper} {a : Act} {v : Value} (hf : textFits md ops = true) (hk : k ∉ ps) (hp : ps[m]? = some p) (hh : hangs md ops p k = true) (hkn : k < ops.size) (hw : Region.wanted o (yielded ops a.tmps) = true)
    (hv : ∀ w j, j ≤ m → C w → A j w → (execOp a.eval o).run P w = .ok (.value v) w)
    (h : InText P md ops Q (Chain2 md ops ps C A) (k + 1) rest (a.put o.dst v)) : InText P md ops Q (Chain2 md ops ps C A) k (o :: rest) a :=
  InText.cons hf (Or.inl ⟨hw, fun l w hr hS => by
    obtain ⟨hc, hS⟩ := hS
    have hS' := hS
    obtain ⟨hs, hC, j, hj, hl, hA⟩ := hS
    have hjm : j ≤ m := by
      rcases Nat.lt_or_ge m j with hlt | hge
      · exfalso
        have h1 := hl m p hp
        have h2 : l.getD p false = true := by rw [h1.2]; simpa using hlt
        have h0 : l.getD k true = false := (mem_ready.1 hr).1
        unfold hangs at hh
        have hpo : ∃ o', ops[p]? = some o' := ⟨_, Array.getElem?_eq_getElem h1.1⟩
        obtain ⟨o', ho'⟩ := hpo
        rw [ho'] at hh
        obtain ⟨e, he, h3⟩ := Array.any_eq_true'.1 hh
        rw [Bool.and_eq_true] at h3
        have h4 := hc p o' ho' h2 e he h3.1
        rw [show e.on = k by simpa using h3.2] at h4
        rw [Array.getD_eq_getD_getElem?] at h4 h0
        have hkl : k < l.size := by rw [hs]; exact hkn
        simp [hkl] at h4 h0
        rw [h0] at h4
        cases h4
      · exact hge
    rw [hv w j hjm hC hA]
    exact ⟨rfl, hc.set hr, chain_set hk hS' hC fun _ h => h⟩⟩) h
theorem chain_settles (j : Nat) {k : Nat} {o : Oper} {a : Act} {v : Value} (hk : ps[j]? = some k) (hnd : ps.Nodup) (hh : j = 0 ∨ ∃ p, ps[j - 1]? = some p ∧ hangs md ops k p = true) (hw : Region.wanted o (yielded ops a.tmps) = true)
    (hv : ∀ w, C w → A j w → LandsIn P (fun w' => C w' ∧ A (j + 1) w') v ((execOp a.eval o).run P w)) : Settles P md ops (Chain ops.size ps C A) k o v a :=
  Or.inl ⟨hw, fun l w hr hS => by
    obtain ⟨hs, hC, j', hj', hl, hA⟩ := hS
    have hjl : j < ps.length := (List.getElem?_eq_some_iff.1 hk).1
    have h1 := hl j k hk
    have h2 : l.getD k true = false := (mem_ready.1 hr).1
    have e2 : l.getD k false = false := by
      rw [Array.getD_eq_getD_getElem?] at h2 ⊢
      rcases Nat.lt_or_ge k l.size with hh' | hh'
      · simp [hh'] at h2 ⊢; exact h2
      · simp [Array.getElem?_eq_none hh'] at h2
    have h3 : ¬ j < j' := by rw [h1.2] at e2; simpa using e2
    have h4 : j = j' := by
      rcases hh with rfl | ⟨p, hp, hg⟩
      · omega
      · rcases Nat.eq_zero_or_pos j with rfl | hj
        · omega
        · have h5 := hl (j - 1) p hp
          have h6 := hangs_listed hg hr
          rw [h5.2] at h6
          have : j - 1 < j' := by simpa using h6
          omega
    subst h4
    refine (hv w hC hA).mono fun w' hw' => ⟨by simpa using hs, hw'.1, j + 1, by omega, fun i p hp => ?_, hw'.2⟩
    refine ⟨(hl i p hp).1, ?_⟩
    by_cases hik : p = k
    · subst hik
      have : i = j := (List.getElem?_inj (List.getElem?_eq_some_iff.1 hp).1 hnd).1 (hp.trans hk.symm)
      subst this
      have hp' : p < l.size := by rw [hs]; exact h1.1
      rw [Array.getD_eq_getD_getElem?, Array.getElem?_setIfInBounds, if_pos rfl]
      simp [hp']
    · rw [Array.getD_eq_getD_getElem?, Array.getElem?_setIfInBounds, if_neg (fun e => hik e.symm), ← Array.getD_eq_getD_getElem?, (hl i p hp).2]
      have hne : i ≠ j := fun e => hik (by subst e; exact Option.some.inj (hp.symm.trans hk))
      congr 1
      apply propext
      omega⟩
theorem ch2_turn (j : Nat) {k : Nat} {o : Oper} {rest : List Oper} {a : Act} {v : Value} (hf : textFits md ops = true) (hk : ps[j]? = some k) (hnd : ps.Nodup) (hh : j = 0 ∨ ∃ p, ps[j - 1]? = some p ∧ hangs md ops k p = true) (hw : Region.wanted o (yielded ops a.tmps) = true)
    (hv : ∀ w, C w → A j w → LandsIn P (fun w' => C w' ∧ A (j + 1) w') v ((execOp a.eval o).run P w))
    (h : InText P md ops Q (Chain2 md ops ps C A) (k + 1) rest (a.put o.dst v)) : InText P md ops Q (Chain2 md ops ps C A) k (o :: rest) a :=
  InText.cons hf (Settles.closed (chain_settles j hk hnd hh hw hv)) h
/-- A path along which each hangs on the next. -/
def hangsPath (md : Region.Mode) (ops : Array Oper) : List Nat → Bool
  | a :: b :: rest => hangs md ops a b && hangsPath md ops (b :: rest)
  | _ => true
theorem Closed.step {l : Array Bool} (hc : Closed md ops l) {a b : Nat} (h : hangs md ops a b = true) (ha : l.getD a false = true) : l.getD b false = true := by
  unfold hangs at h
  rcases ho : ops[a]? with _ | o
  · rw [ho] at h; cases h
  · rw [ho] at h
    obtain ⟨e, he, h3⟩ := Array.any_eq_true'.1 h
    rw [Bool.and_eq_true] at h3
    have h4 := hc a o ho ha e he h3.1
    rwa [show e.on = b by simpa using h3.2] at h4
theorem Closed.path {l : Array Bool} (hc : Closed md ops l) : ∀ (path : List Nat) (a : Nat), hangsPath md ops (a :: path) = true → l.getD a false = true → ∀ p, (a :: path).getLast? = some p → l.getD p false = true
  | [], a, _, ha, p, hp => by simp at hp; rwa [← hp]
  | b :: rest, a, h, ha, p, hp => by
    simp only [hangsPath, Bool.and_eq_true] at h
    refine Closed.path hc rest b h.2 (hc.step h.1 ha) p ?_
    rwa [List.getLast?_cons_cons] at hp
theorem late {n : Nat} {l : Array Bool} {k b p m : Nat} {path : List Nat} {j : Nat} (hc : Closed md ops l) (hr : k ∈ Region.ready md ops l) (hb : hangs md ops k b = true) (hpath : hangsPath md ops (b :: path) = true) (hlast : (b :: path).getLast? = some p) (hp : ps[m]? = some p)
    (hl : ∀ i p, ps[i]? = some p → p < n ∧ l.getD p false = decide (i < j)) : m < j := by
  have h1 := hc.path path b hpath (hangs_listed hb hr) p hlast
  rw [(hl m p hp).2] at h1
  simpa using h1
/-- A read that hangs, by way of others, on the m-th turn. -/
theorem ch2_late (m : Nat) (b : Nat) (path : List Nat) {p : Nat} {k : Nat} {o : Oper} {rest : List Oper} {a : Act} {v : Value} (hf : textFits md ops = true) (hk : k ∉ ps) (hb : hangs md ops k b = true) (hpath : hangsPath md ops (b :: path) = true) (hlast : (b :: path).getLast? = some p) (hp : ps[m]? = some p)
    (hw : Region.wanted o (yielded ops a.tmps) = true) (hv : ∀ w j, m < j → j ≤ ps.length → C w → A j w → (execOp a.eval o).run P w = .ok (.value v) w)
    (h : InText P md ops Q (Chain2 md ops ps C A) (k + 1) rest (a.put o.dst v)) : InText P md ops Q (Chain2 md ops ps C A) k (o :: rest) a :=
  InText.cons hf (Or.inl ⟨hw, fun l w hr hS => by
    obtain ⟨hc, hS⟩ := hS
    have hS' := hS
    obtain ⟨hs, hC, j, hj, hl, hA⟩ := hS
    rw [hv w j (late hc hr hb hpath hlast hp hl) hj hC hA]
    exact ⟨rfl, hc.set hr, chain_set hk hS' hC fun _ h => h⟩⟩) h
theorem ch2_off {k : Nat} {o : Oper} {rest : List Oper} {a : Act} (hf : textFits md ops = true) (hk : k ∉ ps) (hw : Region.wanted o (yielded ops a.tmps) = false)
    (h : InText P md ops Q (Chain2 md ops ps C A) (k + 1) rest (a.put o.dst undef)) : InText P md ops Q (Chain2 md ops ps C A) k (o :: rest) a :=
  InText.cons hf (Settles.closed (Or.inr ⟨hw, rfl, fun l w _ hS => chain_set hk hS hS.2.1 fun _ h => h⟩)) h
/-- A call that leaves all as it is, and hangs, by way of others, on the m-th turn. -/
theorem ch2_late_call (m : Nat) (b : Nat) (path : List Nat) {p : Nat} {k : Nat} {o : Oper} {rest : List Oper} {a : Act} {v : Value} (hf : textFits md ops = true) (hk : k ∉ ps) (hb : hangs md ops k b = true) (hpath : hangsPath md ops (b :: path) = true) (hlast : (b :: path).getLast? = some p) (hp : ps[m]? = some p)
    (hw : Region.wanted o (yielded ops a.tmps) = true)
    (hv : ∀ w j, m < j → j ≤ ps.length → C w → A j w → LandsIn P (fun w' => C w' ∧ A j w') v ((execOp a.eval o).run P w))
    (h : InText P md ops Q (Chain2 md ops ps C A) (k + 1) rest (a.put o.dst v)) : InText P md ops Q (Chain2 md ops ps C A) k (o :: rest) a :=
  InText.cons hf (Or.inl ⟨hw, fun l w hr hS => by
    obtain ⟨hc, hS⟩ := hS
    obtain ⟨hs, hC, j, hj, hl, hA⟩ := hS
    refine (hv w j (late hc hr hb hpath hlast hp hl) hj hC hA).mono fun w' hw' => ⟨hc.set hr, by simpa using hs, hw'.1, j, hj, fun i p hp => ⟨(hl i p hp).1, ?_⟩, hw'.2⟩
    have hne : k ≠ p := fun e => hk (e ▸ List.mem_of_getElem? hp)
    rw [Array.getD_eq_getD_getElem?, Array.getElem?_setIfInBounds, if_neg hne, ← Array.getD_eq_getD_getElem?]
    exact (hl i p hp).2⟩) h
end
end Go.Proofs.Ytjiohencpopbeaa.Ord

/- What a call's own blocks hold, carried over calls, allocations and stores; and that nothing that was there before has turned. -/
namespace Go.Proofs.Ytjiohencpopbeaa
open Go.RowKit
set_option maxRecDepth 100000

/-- A block n that holds vs; one of the call's own (from m on) may be written. -/
def Blk (m : Nat) (w : World) (n : Nat) (vs : List Value) : Prop :=
  n < w.heap.size ∧ (∀ i, w.cell? ⟨n, i, none⟩ = vs[i]?) ∧ (m ≤ n → ∀ i, i < vs.length → w.frozen? ⟨n, i, none⟩ = false)
/-- Since w0 nothing that was there has turned, and the blocks of the list hold what it says. -/
def Fr (w0 : World) (bl : List (Nat × List Value)) (w : World) : Prop := Below w0.heap.size w0 w ∧ ∀ x ∈ bl, Blk w0.heap.size w x.1 x.2

theorem Fr.below {w0 w : World} {bl : List (Nat × List Value)} (h : Fr w0 bl w) : Below w0.heap.size w0 w := h.1
theorem Fr.start (w : World) : Fr w [] w := ⟨Below.refl _ _, fun x hx => by cases hx⟩
theorem Fr.drew {w0 w : World} {bl : List (Nat × List Value)} (h : Fr w0 bl w) : Fr w0 bl w.drew := ⟨h.1.drew, fun x hx => h.2 x hx⟩
theorem Fr.over {w0 w w' : World} {bl : List (Nat × List Value)} (h : Fr w0 bl w) (hb : Below w.heap.size w w') : Fr w0 bl w' := by
  refine ⟨h.1.trans (hb.mono h.1.size), fun x hx => ?_⟩
  obtain ⟨h1, h2, h3⟩ := h.2 x hx
  have hs := hb.size
  refine ⟨by omega, fun i => ?_, fun hm i hi => ?_⟩
  · rw [hb.cell (p := ⟨x.1, i, none⟩) h1]; exact h2 i
  · rw [hb.frozen (p := ⟨x.1, i, none⟩) h1]; exact h3 hm i hi
theorem Fr.more {w0 w : World} {bl : List (Nat × List Value)} (h : Fr w0 bl w) (o : Obj) : Fr w0 bl (w.alloc o) := h.over ((Below.refl _ _).alloc (Nat.le_refl _) o)
theorem Fr.push {w0 w : World} {bl : List (Nat × List Value)} (h : Fr w0 bl w) (n : Nat) (hn : w.heap.size = n) (vs : List Value) (t : TypeId) : Fr w0 ((n, vs) :: bl) (w.alloc (.cells vs.toArray t)) := by
  subst hn
  refine ⟨(h.more _).1, fun x hx => ?_⟩
  rcases List.mem_cons.1 hx with rfl | hx
  · exact ⟨by simp, fun i => by simp, fun _ i _ => by simp⟩
  · exact (h.more _).2 x hx
theorem Fr.rule {w0 w : World} {bl : List (Nat × List Value)} (h : Fr w0 bl w) (k : Nat) {n : Nat} {vs : List Value} (e : bl[k]? = some (n, vs)) : ∀ i, w.cell? ⟨n, i, none⟩ = vs[i]? :=
  (h.2 (n, vs) (List.mem_of_getElem? e)).2.1
theorem Fr.lt {w0 w : World} {bl : List (Nat × List Value)} (h : Fr w0 bl w) (k : Nat) {n : Nat} {vs : List Value} (e : bl[k]? = some (n, vs)) : n < w.heap.size :=
  (h.2 (n, vs) (List.mem_of_getElem? e)).1
theorem Fr.thaw {w0 w : World} {bl : List (Nat × List Value)} (h : Fr w0 bl w) (k : Nat) {n : Nat} {vs : List Value} (e : bl[k]? = some (n, vs)) (hn : w0.heap.size ≤ n) : ∀ i, i < vs.length → w.frozen? ⟨n, i, none⟩ = false :=
  (h.2 (n, vs) (List.mem_of_getElem? e)).2.2 hn
/-- A variable that was there before. -/
theorem Fr.seen {w0 w : World} {bl : List (Nat × List Value)} (h : Fr w0 bl w) {n : Nat} {vs : List Value} (hn : n < w0.heap.size) (hc : ∀ i, w0.cell? ⟨n, i, none⟩ = vs[i]?) : Fr w0 ((n, vs) :: bl) w := by
  refine ⟨h.1, fun x hx => ?_⟩
  rcases List.mem_cons.1 hx with rfl | hx
  · exact ⟨by have := h.1.size; simp; omega, fun i => by rw [h.1.cell (p := ⟨n, i, none⟩) hn]; exact hc i, fun hm => by simp at hm; omega⟩
  · exact h.2 x hx
end Go.Proofs.Ytjiohencpopbeaa

/- What a call may turn among the blocks that were there; things kept apart. -/
namespace Go.Proofs.Ytjiohencpopbeaa
open Go.RowKit
set_option maxRecDepth 100000

/-- Of the blocks that were there those of T alone may have turned. -/
structure Turn (T : Nat → Prop) (w w' : World) : Prop where
  os : w'.os = w.os
  tape : w'.tape = w.tape
  output : w'.output = w.output
  size : w.heap.size ≤ w'.heap.size
  block : ∀ k, k < w.heap.size → ¬ T k → w'.heap[k]? = w.heap[k]?

section
variable {T T' : Nat → Prop} {a b c w w' : World}
theorem Turn.refl (T : Nat → Prop) (w : World) : Turn T w w := ⟨rfl, rfl, rfl, Nat.le_refl _, fun _ _ _ => rfl⟩
theorem Turn.then (h : Turn T a b) (k : Turn T' b c) (hT : ∀ k, k < a.heap.size → T' k → T k) : Turn T a c :=
  ⟨k.os.trans h.os, k.tape.trans h.tape, k.output.trans h.output, Nat.le_trans h.size k.size, fun i hi hn => (k.block i (Nat.lt_of_lt_of_le hi h.size) (fun e => hn (hT i hi e))).trans (h.block i hi hn)⟩
theorem Turn.mono (h : Turn T a b) (hT : ∀ k, k < a.heap.size → T k → T' k) : Turn T' a b := ⟨h.os, h.tape, h.output, h.size, fun k hk hn => h.block k hk fun e => hn (hT k hk e)⟩
theorem Turn.of_below (h : Below a.heap.size a b) : Turn T a b := ⟨h.os, h.tape, h.output, h.size, fun k hk _ => h.block k hk⟩
theorem Turn.to_below (h : Turn (fun _ => False) a b) : Below a.heap.size a b := ⟨h.os, h.tape, h.output, h.size, fun k hk => h.block k hk fun e => e⟩
theorem Turn.drew (h : Turn T a b) : Turn T a b.drew := ⟨h.os, h.tape, h.output, h.size, h.block⟩
theorem Turn.alloc (h : Turn T a b) (o : Obj) : Turn T a (b.alloc o) := h.then (T' := fun _ => False) (Turn.of_below ((Below.refl _ b).alloc (Nat.le_refl _) o)) fun _ _ e => e.elim
theorem Turn.setCell (h : Turn T a b) {p : Addr} (hp : p.block < a.heap.size → T p.block) (u : Value) : Turn T a (b.setCell p u) :=
  h.then (T' := fun k => k = p.block) ⟨rfl, rfl, rfl, by simp [World.setCell], fun k _ hn => Below.heap_setCell _ _ _ _ hn⟩ fun k hk e => by subst e; exact hp hk
theorem Turn.grown (h : Turn T a b) {row : Option Nat} (hg : b.grownBy c row) (hr : ∀ k, k < a.heap.size → row = some k → T k) : Turn T a c :=
  h.then (T' := fun k => row = some k) ⟨hg.os, hg.tape, hg.output, hg.size, fun k hk hn => hg.block k hk (fun e => hn e.symm)⟩ hr
theorem Turn.turned (h : Turn T a b) {m : Nat} (hg : b.mapTurned c m) (hm : m < a.heap.size → T m) : Turn T a c := h.grown hg.grown fun k hk e => by cases e; exact hm hk
theorem Turn.below {n : Nat} (h : Below n a b) (k : Turn T b c) (hn : n ≤ b.heap.size) (hT : ∀ k, T k → n ≤ k) : Below n a c :=
  h.trans ⟨k.os, k.tape, k.output, k.size, fun i hi => k.block i (by omega) fun e => by have := hT i e; omega⟩
end

/-- Two things share no block. -/
def Off (F G : Nat → Prop) : Prop := ∀ k, F k → ¬ G k
theorem Off.symm {F G : Nat → Prop} (h : Off F G) : Off G F := fun k hg hf => h k hf hg
/-- A step that turns F alone, behind which F' stands for it: what was F's, or is new. -/
structure Step (F F' : Nat → Prop) (w w' : World) : Prop where
  turn : Turn F w w'
  from' : ∀ k, F' k → F k ∨ w.heap.size ≤ k
theorem Step.off {F F' G : Nat → Prop} {w w' : World} (h : Step F F' w w') (hG : ∀ k, G k → k < w.heap.size) (hd : Off F G) : Off F' G := fun k hf hg => by
  rcases h.from' k hf with h1 | h1
  · exact hd k h1 hg
  · have := hG k hg; omega
theorem Step.refl (F : Nat → Prop) (w : World) : Step F F w w := ⟨Turn.refl _ _, fun _ h => Or.inl h⟩
theorem Step.trans {F F' F'' : Nat → Prop} {a b c : World} (h : Step F F' a b) (k : Step F' F'' b c) : Step F F'' a c :=
  ⟨h.turn.then k.turn fun i hi e => (h.from' i e).resolve_right (by omega), fun i e => by
    rcases k.from' i e with h1 | h1
    · exact h.from' i h1
    · exact Or.inr (Nat.le_trans h.turn.size h1)⟩
theorem Step.base {F F' : Nat → Prop} {w w' : World} {n : Nat} (h : Step F F' w w') (hn : n ≤ w.heap.size) (hF : ∀ k, F k → n ≤ k) : ∀ k, F' k → n ≤ k := fun k hk => by
  rcases h.from' k hk with h1 | h1
  · exact hF k h1
  · omega

theorem Blk.kept {m n : Nat} {vs : List Value} {w w' : World} (h : Blk m w n vs) (hs : w.heap.size ≤ w'.heap.size) (hb : w'.heap[n]? = w.heap[n]?) : Blk m w' n vs :=
  ⟨Nat.lt_of_lt_of_le h.1 hs, fun i => by rw [World.cell?_of_block (w := w) hb]; exact h.2.1 i, fun hm i hi => by rw [World.frozen?_of_block (w := w) hb]; exact h.2.2 hm i hi⟩
theorem Blk.set {m n i : Nat} {vs : List Value} {w : World} (h : Blk m w n vs) (hi : i < vs.length) (u : Value) : Blk m (w.setCell ⟨n, i, none⟩ u) n (vs.set i u) := by
  refine ⟨by simpa [World.setCell] using h.1, fun j => ?_, fun hm j hj => ?_⟩
  · by_cases hij : j = i
    · subst hij
      rw [World.cell?_setCell_same' _ _ _ (by rw [h.2.1]; simp [hi])]
      simp [hi]
    · have e : (⟨n, i, none⟩ : Addr) ≠ ⟨n, j, none⟩ := fun e => hij (by cases e; rfl)
      have e2 : (w.setCell ⟨n, i, none⟩ u).cell? ⟨n, j, none⟩ = w.cell? ⟨n, j, none⟩ := World.cell?_setCell_other w _ _ u e
      rw [e2, h.2.1, List.getElem?_set, if_neg (fun e => hij e.symm)]
  · rw [World.frozen?_setCell]
    exact h.2.2 hm j (by simpa using hj)
theorem Blk.new (m : Nat) (w : World) (vs : List Value) (t : TypeId) : Blk m (w.alloc (.cells vs.toArray t)) w.heap.size vs := ⟨by simp, fun i => by simp, fun _ i _ => by simp⟩
theorem Blk.more {m n : Nat} {vs : List Value} {w : World} (h : Blk m w n vs) (o : Obj) : Blk m (w.alloc o) n vs := h.kept (by simp) (Below.heap_alloc _ _ _ h.1)
theorem Blk.drew {m n : Nat} {vs : List Value} {w : World} (h : Blk m w n vs) : Blk m w.drew n vs := h
theorem Blk.at {m n n' : Nat} {vs : List Value} {w : World} (h : Blk m w n vs) (e : n = n') : Blk m w n' vs := e ▸ h
theorem Blk.rule {m n : Nat} {vs : List Value} {w : World} (h : Blk m w n vs) : ∀ i, w.cell? ⟨n, i, none⟩ = vs[i]? := h.2.1
theorem Blk.thaw {n : Nat} {vs : List Value} {w : World} (h : Blk 0 w n vs) : ∀ i, i < vs.length → w.frozen? ⟨n, i, none⟩ = false := h.2.2 (Nat.zero_le _)

theorem Fr.turn {w0 w w' : World} {bl : List (Nat × List Value)} {T : Nat → Prop} (h : Fr w0 bl w) (ht : Turn T w w') (hT : ∀ k, T k → w0.heap.size ≤ k) (hbl : ∀ x ∈ bl, ¬ T x.1) : Fr w0 bl w' :=
  ⟨Turn.below h.1 ht h.1.size hT, fun x hx => (h.2 x hx).kept ht.size (ht.block _ (h.2 x hx).1 (hbl x hx))⟩
end Go.Proofs.Ytjiohencpopbeaa

/- Things that a call has made, kept apart: a list of them, each with its blocks and what it is good for. -/
namespace Go.Proofs.Ytjiohencpopbeaa
open Go.RowKit
set_option maxRecDepth 100000

/-- A thing: its blocks, and what is said of it, which hangs on them alone. -/
structure Item where
  F : Nat → Prop
  says : World → Prop
  loc : ∀ w1 w2, says w1 → (∀ k, F k → w2.heap[k]? = w1.heap[k]?) → w1.heap.size ≤ w2.heap.size → says w2
/-- Since w0 nothing that was there has turned; each thing of the list is what it is; no two share a block. -/
def Env (w0 : World) (L : List Item) (w : World) : Prop :=
  Below w0.heap.size w0 w ∧ L.Pairwise (fun a b => Off a.F b.F) ∧ ∀ a ∈ L, a.says w ∧ ∀ k, a.F k → w0.heap.size ≤ k ∧ k < w.heap.size

section
variable {w0 w w' : World} {L : List Item}
theorem Env.start (w : World) : Env w [] w := ⟨Below.refl _ _, List.Pairwise.nil, by simp⟩
theorem Env.below (h : Env w0 L w) : Below w0.heap.size w0 w := h.1
theorem Env.over (h : Env w0 L w) (hb : Below w.heap.size w w') : Env w0 L w' := by
  refine ⟨h.1.trans (hb.mono h.1.size), h.2.1, fun a ha => ?_⟩
  obtain ⟨h1, h2⟩ := h.2.2 a ha
  exact ⟨a.loc w w' h1 (fun k hk => hb.block k (h2 k hk).2) hb.size, fun k hk => ⟨(h2 k hk).1, Nat.lt_of_lt_of_le (h2 k hk).2 hb.size⟩⟩
theorem Env.more (h : Env w0 L w) (o : Obj) : Env w0 L (w.alloc o) := h.over ((Below.refl _ _).alloc (Nat.le_refl _) o)
theorem Env.drew (h : Env w0 L w) : Env w0 L w.drew := h.over (Below.refl _ w).drew
theorem Env.add (h : Env w0 L w) (a : Item) (hb : Below w.heap.size w w') (ha : a.says w') (hF : ∀ k, a.F k → w.heap.size ≤ k ∧ k < w'.heap.size) : Env w0 (a :: L) w' := by
  have h' := h.over hb
  refine ⟨h'.1, List.pairwise_cons.2 ⟨fun b hb' k hk hk' => ?_, h'.2.1⟩, fun b hb' => ?_⟩
  · have := ((h.2.2 b hb').2 k hk').2
    have := (hF k hk).1
    omega
  · rcases List.mem_cons.1 hb' with rfl | hb'
    · exact ⟨ha, fun k hk => ⟨Nat.le_trans h.1.size (hF k hk).1, (hF k hk).2⟩⟩
    · exact h'.2.2 b hb'
theorem Env.get (h : Env w0 L w) (i : Nat) {a : Item} (hi : L[i]? = some a) : a.says w := (h.2.2 a (List.mem_of_getElem? hi)).1
theorem Env.lt (h : Env w0 L w) (i : Nat) {a : Item} (hi : L[i]? = some a) : ∀ k, a.F k → k < w.heap.size := fun k hk => ((h.2.2 a (List.mem_of_getElem? hi)).2 k hk).2
theorem Env.off (h : Env w0 L w) {i j : Nat} {a b : Item} (hi : L[i]? = some a) (hj : L[j]? = some b) (hij : i ≠ j) : Off a.F b.F := by
  obtain ⟨hi1, hi2⟩ := List.getElem?_eq_some_iff.1 hi
  obtain ⟨hj1, hj2⟩ := List.getElem?_eq_some_iff.1 hj
  have hp := List.pairwise_iff_getElem.1 h.2.1
  rcases Nat.lt_or_gt_of_ne hij with hlt | hlt
  · have := hp i j hi1 hj1 hlt; rw [hi2, hj2] at this; exact this
  · have := hp j i hj1 hi1 hlt; rw [hi2, hj2] at this; exact this.symm
/-- One of them turns. -/
theorem Env.step (h : Env w0 L w) (i : Nat) {a : Item} (b : Item) (hi : L[i]? = some a) (hs : Step a.F b.F w w') (hb : b.says w') (hlt : ∀ k, b.F k → k < w'.heap.size) : Env w0 (L.set i b) w' := by
  have hil : i < L.length := (List.getElem?_eq_some_iff.1 hi).1
  have hai : L[i] = a := (List.getElem?_eq_some_iff.1 hi).2
  have ha := h.2.2 a (List.mem_of_getElem? hi)
  have hB : Below w0.heap.size w0 w' := Turn.below h.1 hs.turn h.1.size fun k hk => (ha.2 k hk).1
  refine ⟨hB, List.pairwise_iff_getElem.2 fun m n hm hn hmn => ?_, fun x hx => ?_⟩
  · rw [List.length_set] at hm hn
    rw [List.getElem_set, List.getElem_set]
    have hof : ∀ j (hj : j < L.length), j ≠ i → Off b.F L[j].F := fun j hj hne => hs.off (h.lt j (by simp)) (h.off hi (j := j) (b := L[j]) (by simp) (fun e => hne e.symm))
    split
    · rename_i e
      split
      · omega
      · rename_i e'; exact hof n hn (fun e2 => e' e2.symm)
    · split
      · rename_i e e'; exact (hof m hm (fun e2 => e e2.symm)).symm
      · exact List.pairwise_iff_getElem.1 h.2.1 m n hm hn hmn
  · obtain ⟨j, hj, rfl⟩ := List.getElem_of_mem hx
    rw [List.length_set] at hj
    rw [List.getElem_set]
    split
    · refine ⟨hb, fun k hk => ⟨?_, hlt k hk⟩⟩
      exact hs.base h.1.size (fun k hk => (ha.2 k hk).1) k hk
    · rename_i e
      obtain ⟨h1, h2⟩ := h.2.2 L[j] (List.getElem_mem hj)
      refine ⟨(L[j]).loc w w' h1 (fun k hk => hs.turn.block k (h2 k hk).2 fun hk' => ?_) hs.turn.size, fun k hk => ⟨(h2 k hk).1, Nat.lt_of_lt_of_le (h2 k hk).2 hs.turn.size⟩⟩
      exact h.off hi (j := j) (b := L[j]) (by simp [hj]) e k hk' hk
theorem Env.sub {L' : List Item} (h : Env w0 L w) (hs : L'.Sublist L) : Env w0 L' w := ⟨h.1, h.2.1.sublist hs, fun a ha => h.2.2 a (hs.subset ha)⟩

/-- A block of cells. -/
def boxI (B : Nat) (vs : List Value) : Item where
  F := fun k => k = B
  says := fun w => Blk 0 w B vs
  loc := fun w1 w2 h hk hs => h.kept hs (hk B rfl)
theorem Env.box (h : Env w0 L w) (n : Nat) (hn : w.heap.size = n) (vs : List Value) (t : TypeId) : Env w0 (boxI n vs :: L) (w.alloc (.cells vs.toArray t)) := by
  subst hn
  exact h.add (boxI w.heap.size vs) ((Below.refl _ _).alloc (Nat.le_refl _) _) (Blk.new 0 w vs t) fun k hk => by subst hk; simp
theorem Env.rule (h : Env w0 L w) (i : Nat) {B : Nat} {vs : List Value} (hi : L[i]? = some (boxI B vs)) : ∀ j, w.cell? ⟨B, j, none⟩ = vs[j]? := Blk.rule (h.get i hi)
theorem Env.thaw (h : Env w0 L w) (i : Nat) {B : Nat} {vs : List Value} (hi : L[i]? = some (boxI B vs)) : ∀ j, j < vs.length → w.frozen? ⟨B, j, none⟩ = false := Blk.thaw (h.get i hi)
theorem Env.boxLt (h : Env w0 L w) (i : Nat) {B : Nat} {vs : List Value} (hi : L[i]? = some (boxI B vs)) : B < w.heap.size := h.lt i hi B rfl
theorem Env.put (h : Env w0 L w) (i : Nat) {B : Nat} {vs : List Value} (hi : L[i]? = some (boxI B vs)) {j : Nat} (hj : j < vs.length) (v : Value) : Env w0 (L.set i (boxI B (vs.set j v))) (w.setCell ⟨B, j, none⟩ v) :=
  h.step i (boxI B (vs.set j v)) hi ⟨(Turn.refl (fun k => k = B) w).setCell (p := ⟨B, j, none⟩) (fun _ => rfl) v, fun k hk => .inl hk⟩ ((show Blk 0 w B vs from h.get i hi).set hj v) fun k hk => by
    have := h.lt i hi k hk
    simpa using this
end
/-- How far it is: of the row the j-th holds. -/
def Stage (Ps : List (World → Prop)) (j : Nat) (w : World) : Prop := ∃ P, Ps[j]? = some P ∧ P w
end Go.Proofs.Ytjiohencpopbeaa

/- Rows of the call's own, of whatever: kept while others turn; appended to; as things among others. General. -/
namespace Go.Proofs.Ytjiohencpopbeaa
open Go.RowKit
set_option maxRecDepth 100000

theorem ownsRow_lt {w : World} {b : Nat} {v : Value} {e : TypeId} {n s : Nat} {xs : List Value} (h : w.ownsRow b e s v n xs) : ∀ k, v.ownBlock = some k → k < w.heap.size := fun k hk => (h.lt k hk).2
theorem ownsRow_kept {w w' : World} {b : Nat} {v : Value} {e : TypeId} {n s : Nat} {xs : List Value} (h : w.ownsRow b e s v n xs) (hk : ∀ k, v.ownBlock = some k → w'.heap[k]? = w.heap[k]?) : w'.ownsRow b e s v n xs := by
  refine ⟨h.1, ?_⟩
  rcases h.2 with hn | ⟨g, cap, cur, rfl, hb, hg, rest⟩
  · exact .inl hn
  · exact .inr ⟨g, cap, cur, rfl, hb, (hk g rfl).trans hg, rest⟩
theorem run_call_append {P : Program} {o : Oper} {f : Operand → Value} (s x : Operand) (t : TypeId) (ho : o.op = .call { callee := .builtin .append, args := #[s, x], argTypes := #[t, t] }) {vs vx r : Value} {w w' : World} (hs : f s = vs) (hx : f x = vx)
    (hr : (Builtin.append_ #[t, t] o.type #[vs, vx]).run P w = .ok r w') : (execOp f o).run P w = .ok (.value r) w' := by
  unfold execOp
  simp only [ho, resolve, invoke, builtin, Sem.run_bind, Sem.run_pure, Result.andThen_ok, List.map_toArray, List.map_cons, List.map_nil, hs, hx, hr]
theorem append_lands {P : Program} {o : Oper} {f : Operand → Value} {T : World → Prop} {s x : Operand} {t : TypeId} {vs vx r : Value} {w w' : World} (ho : o.op = .call { callee := .builtin .append, args := #[s, x], argTypes := #[t, t] }) (hr : (Builtin.append_ #[t, t] o.type #[vs, vx]).run P w = .ok r w') (hs : f s = vs) (hx : f x = vx) (hT : T w') : Ord.LandsIn P T r ((execOp f o).run P w) := by
  rw [run_call_append s x t ho hs hx hr]
  exact ⟨rfl, hT⟩
theorem Step.of_below {w w' : World} (F : Nat → Prop) (hb : Below w.heap.size w w') : Step F F w w' := ⟨Turn.of_below hb, fun _ h => .inl h⟩
/-- A row appended to a row of ours: what is appended is nothing, or cells behind an address. -/
theorem run_append_rows {P : Program} (t ty : TypeId) (base : Nat) (e : TypeId) (i : TypeInfo) (z : Value) (size bytes : Nat) (ht : P.underlying t = some (.slice e)) (hi : P.info? e = some i) (hz : i.zero = some z)
    (hsize : i.size = size) (hby : i.bytes = bytes) (hzs : z.cells.size = size) (hsz : 0 < size) (w : World)
    (v : Value) (n : Nat) (xs : List Value) (hown : w.ownsRow base e size v n xs) (A : Option Addr) (m c : Nat) (news : List Value) (hl : news.length = m * size)
    (hnews : (A = none ∧ m = 0) ∨ ∃ ad, A = some ad ∧ ∀ j u, news[j]? = some u → w.cell? (ad.add j) = some u) (h1 : ∀ u ∈ news, u.oneCell' = true)
    (h63 : n + m ≤ maxLen) (hbytes : (n + m) * bytes ≤ 140737488355328) (hbase : base ≤ w.heap.size) :
    ∃ v' w', (Builtin.append_ #[t, t] ty #[v, .slice A m c]).run P w = .ok v' w' ∧ w'.ownsRow base e size v' (n + m) (xs ++ news) ∧ w.grownBy w' v.ownBlock ∧ (v'.ownBlock = v.ownBlock ∨ v'.ownBlock = some w.heap.size) := by
  rcases hnews with ⟨rfl, rfl⟩ | ⟨ad, rfl, hn⟩
  · have h0 : news = [] := List.eq_nil_of_length_eq_zero (by simpa using hl)
    subst h0
    refine ⟨v, w, ?_, by simpa using hown, ⟨rfl, rfl, rfl, Nat.le_refl _, fun _ _ _ => rfl⟩, .inl rfl⟩
    rcases hown.2 with ⟨rfl, rfl⟩ | ⟨g, cap, cur, rfl, hb, hg, hnc, hcm, hcs, htk⟩
    · simp [Builtin.append_, run_underlying ht, sizeOf, typeInfo, hi, Builtin.lenOf, Builtin.firstCells]
    · simp [Builtin.append_, run_underlying ht, sizeOf, typeInfo, hi, Builtin.lenOf, Builtin.firstCells, hnc, storeCells]
  · obtain ⟨v', w', hr, h2, h3, _, h5⟩ := run_append_own_at (P := P) w base t ty e i z size bytes ht hi hz hsize hby hzs hsz v n xs hown ad m c news hl hn h1 h63 hbytes hbase
    exact ⟨v', w', hr, h2, h3, h5⟩
theorem wpList_append_run {P : Program} {ops : Array Oper} {rest : List Oper} {o : Oper} {a : Act} {w : World} {Q : Exit → Act → World → Prop} (hgd : o.guard = none) (s x : Operand) (t : TypeId) (ho : o.op = .call { callee := .builtin .append, args := #[s, x], argTypes := #[t, t] })
    {vs vx r : Value} {w' : World} (hr : (Builtin.append_ #[t, t] o.type #[vs, vx]).run P w = .ok r w') (hs : a.eval s = vs) (hx : a.eval x = vx) (h : wpList P ops Q rest (a.put o.dst r) w') : wpList P ops Q (o :: rest) a w :=
  wpList_plain hgd fun K hK => by
    unfold Oper.wp
    rw [run_call_append s x t ho hs hx hr]
    exact hK _ _ h
theorem ownsRow_base {w : World} {b b' : Nat} {e : TypeId} {s n : Nat} {v : Value} {xs : List Value} (h : w.ownsRow b e s v n xs) (hb : b' ≤ b) : w.ownsRow b' e s v n xs :=
  ⟨h.1, h.2.imp id fun ⟨g, cap, cur, h1, h2, h3⟩ => ⟨g, cap, cur, h1, Nat.le_trans hb h2, h3⟩⟩
theorem ownsRow_slice {w : World} {b : Nat} {e : TypeId} {s n : Nat} {v : Value} {xs : List Value} (h : w.ownsRow b e s v n xs) : ∃ A c, v = .slice A n c := by
  rcases h.2 with ⟨rfl, rfl⟩ | ⟨g, cap, cur, rfl, _⟩
  · exact ⟨_, _, rfl⟩
  · exact ⟨_, _, rfl⟩
theorem cells_new (w : World) (vs : List Value) (t : TypeId) : ∀ j u, vs[j]? = some u → (w.alloc (.cells vs.toArray t)).cell? ((⟨w.heap.size, 0, none⟩ : Addr).add j) = some u := fun j u h => by
  have e : (⟨w.heap.size, 0, none⟩ : Addr).add j = ⟨w.heap.size, j, none⟩ := by unfold Addr.add; split <;> simp_all
  rw [e, (Blk.new 0 w vs t).rule j]
  exact h

/-! ### as things -/
/-- A row: the slice v owns the cells xs. -/
def rowI (v : Value) (e : TypeId) (s n : Nat) (xs : List Value) : Item where
  F := fun k => v.ownBlock = some k
  says := fun w => w.ownsRow 0 e s v n xs
  loc := fun w1 w2 h hk _ => ownsRow_kept h hk
end Go.Proofs.Ytjiohencpopbeaa

/- A struct by value whose fields are numbers and bools, of however many fields: opened. -/
namespace Go.Proofs.Ytjiohencpopbeaa
open Go.RowKit Go.WideShapes Go.ChangeShapes Go.ChangeAt Go.Deep
set_option maxRecDepth 100000

inductive Sca | num (k : IntKind) | boo
/-- A field's type is of that form; a value is. -/
def Sca.fits (P : Program) (t : TypeId) : Sca → Prop
  | .num k => P.underlying t = some (.int k)
  | .boo => P.underlying t = some .bool
def Sca.ok (v : Value) : Sca → Prop
  | .num k => ∃ n, v = .int k n ∧ (Lit.int k n).wf = true
  | .boo => ∃ b, v = .bool b
def FitAll (P : Program) : List Field → List Sca → Prop
  | [], [] => True
  | f :: fs, s :: ss => s.fits P f.type ∧ FitAll P fs ss
  | _, _ => False
theorem FitAll.length {P : Program} : ∀ {fs : List Field} {ss : List Sca}, FitAll P fs ss → fs.length = ss.length
  | [], [], _ => rfl
  | _ :: _, _ :: _, h => by simp [FitAll.length h.2]
theorem FitAll.get {P : Program} : ∀ {fs : List Field} {ss : List Sca}, FitAll P fs ss → ∀ {i : Nat} {s : Sca}, ss[i]? = some s → ∃ f, fs[i]? = some f ∧ s.fits P f.type := by
  intro fs
  induction fs with
  | nil =>
    intro ss h i s e
    cases ss with
    | nil => simp at e
    | cons x ss => exact absurd h (by simp [FitAll])
  | cons f fs ih =>
    intro ss h i s e
    cases ss with
    | nil => exact absurd h (by simp [FitAll])
    | cons x ss =>
      cases i with
      | zero =>
        simp at e
        subst e
        exact ⟨f, rfl, h.1⟩
      | succ i =>
        obtain ⟨f', hf, hs⟩ := ih h.2 (i := i) (by simpa using e)
        exact ⟨f', by simpa using hf, hs⟩

section
variable {H : Type} {enc : TypeId × Value → H} {P : Program} {w : World} {base : Nat} {spare : Nat → Bool} {held : Bool}
theorem open_flat {r : Reach} {b0 : Nat} {t : TypeId} {fs : Array Field} {ss : List Sca} {v : Value} {d : DataW H} {p : List MemPlace} (hs : P.underlying t = some (.struct fs)) (hone : oneCellFields P fs = true) (hC : P.cellsOf t = ss.length) (hfit : FitAll P fs.toList ss)
    (hv : Value.okWide P w r b0 t v) (h : DataW.Trod enc P w base spare held t v d p) :
    ∃ cs : Array Value, v = .agg cs ∧ cs.size = ss.length ∧ ∀ (i : Nat) (s : Sca), ss[i]? = some s → ∃ x, cs[i]? = some x ∧ s.ok x := by
  obtain ⟨cs, rfl, hsz⟩ := okWide_struct hs hv
  obtain ⟨fuel, hf⟩ := h
  obtain ⟨xs, n, -, -, hl, hlen, hall⟩ := DataW.trod_struct hs hf
  refine ⟨cs, rfl, hsz.trans hC, fun i s e => ?_⟩
  obtain ⟨f, hfi, hfs⟩ := hfit.get e
  have hfi' : fs[i]? = some f := by simpa using hfi
  obtain ⟨o, k⟩ := hone_of hone i f hfi'
  have hi : i < cs.size := by
    have : i < ss.length := by
      rcases Nat.lt_or_ge i ss.length with hh | hh
      · exact hh
      · rw [List.getElem?_eq_none hh] at e; cases e
    omega
  have hx : xs[i]? ≠ none := by
    have := (Array.getElem?_eq_some_iff.1 hfi').1
    rw [List.getElem?_eq_getElem (by omega)]
    simp
  have ht := hall i f hfi'
  have hcell : ((Value.agg cs).cells.toList.drop f.offset).take (P.cellsOf f.type) = [cs[i]] := by
    rw [o, k]
    show (cs.toList.drop i).take 1 = _
    have hi' : i < cs.toList.length := by simpa using hi
    rw [List.drop_eq_getElem_cons hi']
    simp
  rw [hcell] at ht
  obtain ⟨y, hy⟩ := Option.ne_none_iff_exists'.1 hx
  rw [hy] at ht
  refine ⟨cs[i], by simp [hi], ?_⟩
  cases s with
  | num k =>
    obtain ⟨n, e1, -, wf⟩ := DataW.trod_int hfs ht
    exact ⟨n, by simpa using e1, wf⟩
  | boo =>
    obtain ⟨b, e1, -⟩ := DataW.trod_bool hfs ht
    exact ⟨b, by simpa using e1⟩
end
theorem list_of {α : Type} {cs : Array α} {n : Nat} (h : cs.size = n) : ∃ l : List α, cs = l.toArray ∧ l.length = n := ⟨cs.toList, rfl, by simpa using h⟩
theorem list2 {α : Type} {l : List α} (h : l.length = 2) : ∃ a b, l = [a, b] := by
  match l, h with
  | [a, b], _ => exact ⟨a, b, rfl⟩
theorem list3 {α : Type} {l : List α} (h : l.length = 3) : ∃ a b c, l = [a, b, c] := by
  match l, h with
  | [a, b, c], _ => exact ⟨a, b, c, rfl⟩
theorem list4 {α : Type} {l : List α} (h : l.length = 4) : ∃ a b c d, l = [a, b, c, d] := by
  match l, h with
  | [a, b, c, d], _ => exact ⟨a, b, c, d, rfl⟩
theorem list5 {α : Type} {l : List α} (h : l.length = 5) : ∃ a b c d e, l = [a, b, c, d, e] := by
  match l, h with
  | [a, b, c, d, e], _ => exact ⟨a, b, c, d, e, rfl⟩
theorem list6 {α : Type} {l : List α} (h : l.length = 6) : ∃ a b c d e f, l = [a, b, c, d, e, f] := by
  match l, h with
  | [a, b, c, d, e, f], _ => exact ⟨a, b, c, d, e, f, rfl⟩
end Go.Proofs.Ytjiohencpopbeaa

/- Whatever comes to numbers and bools, structs in structs too: what its cells hold; a slice of such that came in. -/
namespace Go.Proofs.Ytjiohencpopbeaa
open Go.RowKit Go.WideShapes Go.ChangeShapes Go.ChangeAt Go.Deep
set_option maxRecDepth 100000

/-- The cells of the fields from offset o on. -/
def flatF (P : Program) (g : TypeId → Option (List Sca)) : List Field → Nat → Option (List Sca)
  | [], _ => some []
  | f :: fs, o => if f.offset = o then (g f.type).bind fun ss => if P.cellsOf f.type = ss.length then (flatF P g fs (o + ss.length)).map fun r => ss ++ r else none else none
/-- The cells of a type, if all are numbers and bools. -/
def flatT (P : Program) : Nat → TypeId → Option (List Sca)
  | 0, _ => none
  | d + 1, t =>
    match P.underlying t with
    | some .bool => some [.boo]
    | some (.int k) => some [.num k]
    | some (.struct fs) => (flatF P (flatT P d) fs.toList 0).bind fun ss => if P.cellsOf t = ss.length then some ss else none
    | _ => none

/-- Each cell is of its kind. -/
def CellsOk (cs : List Value) (ss : List Sca) : Prop := ∀ (i : Nat) (s : Sca), ss[i]? = some s → ∃ v, cs[i]? = some v ∧ s.ok v

section
variable {H : Type} {enc : TypeId × Value → H} {P : Program} {w : World} {base : Nat} {spare : Nat → Bool} {held : Bool}

theorem open_fields {g : TypeId → Option (List Sca)} {n : Nat} (hg : ∀ {t ss} {cs : List Value} {x : DataW H × List MemPlace}, g t = some ss → DataW.trod enc P w base spare held n t cs = some x → CellsOk cs ss) (cs : List Value) :
    ∀ (fs : List Field) (o : Nat) (ss : List Sca), flatF P g fs o = some ss → (∀ f ∈ fs, ∃ y, DataW.trod enc P w base spare held n f.type ((cs.drop f.offset).take (P.cellsOf f.type)) = some y) → CellsOk (cs.drop o) ss
  | [], o, ss, h, _ => by
    simp [flatF] at h
    subst h
    intro i s e
    simp at e
  | f :: fs, o, ss, h, hf => by
    unfold flatF at h
    split at h
    · rename_i ho
      cases h1 : g f.type with
      | none => rw [h1] at h; cases h
      | some s1 =>
        rw [h1] at h
        simp only [Option.bind_some] at h
        split at h
        · rename_i hc
          cases h2 : flatF P g fs (o + s1.length) with
          | none => rw [h2] at h; cases h
          | some s2 =>
            rw [h2] at h
            obtain rfl : s1 ++ s2 = ss := by simpa using h
            obtain ⟨y, hy⟩ := hf f (by simp)
            rw [ho, hc] at hy
            have hk := hg h1 hy
            have hr := open_fields hg cs fs (o + s1.length) s2 h2 fun f' hf' => hf f' (by simp [hf'])
            intro i s e
            by_cases hi : i < s1.length
            · rw [List.getElem?_append_left hi] at e
              obtain ⟨v, hv, hs⟩ := hk i s e
              rw [List.getElem?_take_of_lt hi] at hv
              exact ⟨v, hv, hs⟩
            · rw [List.getElem?_append_right (by omega)] at e
              obtain ⟨v, hv, hs⟩ := hr _ s e
              refine ⟨v, ?_, hs⟩
              rw [List.getElem?_drop] at hv ⊢
              rw [← hv]
              congr 1
              omega
        · cases h
    · cases h

theorem open_cells : ∀ (d : Nat) {t : TypeId} {ss : List Sca} {fuel : Nat} {cs : List Value} {x : DataW H × List MemPlace}, flatT P d t = some ss → DataW.trod enc P w base spare held fuel t cs = some x → CellsOk cs ss
  | 0, _, _, _, _, _, h, _ => by simp [flatT] at h
  | d + 1, t, ss, fuel, cs, x, h, hx => by
    unfold flatT at h
    split at h
    · rename_i hu
      obtain ⟨b, rfl, _⟩ := DataW.trod_bool hu hx
      obtain rfl : [Sca.boo] = ss := by simpa using h
      intro i s e
      cases i with
      | zero => simp at e; subst e; exact ⟨_, rfl, b, rfl⟩
      | succ i => simp at e
    · rename_i k hu
      obtain ⟨n, rfl, _, hw⟩ := DataW.trod_int hu hx
      obtain rfl : [Sca.num k] = ss := by simpa using h
      intro i s e
      cases i with
      | zero => simp at e; subst e; exact ⟨_, rfl, n, rfl, hw⟩
      | succ i => simp at e
    · rename_i fs hu
      cases h1 : flatF P (flatT P d) fs.toList 0 with
      | none => rw [h1] at h; cases h
      | some s1 =>
        rw [h1] at h
        simp only [Option.bind_some] at h
        split at h
        · obtain rfl : s1 = ss := by simpa using h
          obtain ⟨xs, n, _, _, _, hl, hall⟩ := DataW.trod_struct hu hx
          have := open_fields (n := n) (fun {t ss cs x} h1 h2 => open_cells d h1 h2) cs fs.toList 0 s1 h1 fun f hf => by
            obtain ⟨i, hi, he⟩ := List.getElem_of_mem hf
            have hi' : i < fs.size := by simpa using hi
            have := hall i f (by simp [hi']; simpa using he)
            rw [this]
            exact ⟨xs[i]'(by omega), by simp [hl, hi']⟩
          simpa using this
        · cases h
    · cases h

/-- A slice that came in: each cell of each element. -/
theorem open_deep_row {t e : TypeId} {ss : List Sca} {d : Nat} {A : Option Addr} {len cap : Nat} {dt : DataW H} {p : List MemPlace} (ht : P.underlying t = some (.slice e)) (hss : flatT P d e = some ss) (ce : P.cellsOf e = ss.length) (h0 : 0 < ss.length)
    (h : DataW.Trod enc P w 0 (fun _ => true) true t (.slice A len cap) dt p) (hlt : ∀ x ∈ p, x.block < w.heap.size) :
    len ≤ maxLen ∧ (len = 0 ∨ ∃ b off, A = some ⟨b, off, none⟩ ∧ b < w.heap.size ∧ ∀ i, i < len → ∀ (j : Nat) (s : Sca), ss[j]? = some s → ∃ v, w.cell? ⟨b, off + i * ss.length + j, none⟩ = some v ∧ s.ok v) := by
  obtain ⟨fuel, hf⟩ := h
  rcases open_slice ht hf with ⟨hcs, hx⟩ | ⟨a, len', cap', m, n, D, Pl, hcs, _, hl, hm, hmm, hx, hall⟩
  · simp [Value.cells] at hcs
    obtain ⟨rfl, rfl, rfl⟩ := hcs
    exact ⟨Nat.zero_le _, .inl rfl⟩
  · simp [Value.cells] at hcs
    obtain ⟨rfl, rfl, rfl⟩ := hcs
    simp only [Prod.mk.injEq] at hx
    obtain ⟨rfl, rfl⟩ := hx
    simp only [if_true] at hmm
    subst hmm
    refine ⟨by omega, ?_⟩
    by_cases hz : len = 0
    · exact .inl hz
    · right
      have each : ∀ i, i < m → ∀ (j : Nat) (s : Sca), ss[j]? = some s → ∃ v, w.cell? (a.add (i * ss.length + j)) = some v ∧ s.ok v := fun i hi j s hs => by
        obtain ⟨cs', h1, h2⟩ := hall i hi
        obtain ⟨_, hlen, hcell⟩ := World.cells?_some h1
        obtain ⟨v, hv, hok⟩ := open_cells d hss h2 j s hs
        have hj : j < ss.length := (List.getElem?_eq_some_iff.1 hs).1
        have := hcell j (by omega)
        rw [add_add, ce, hv] at this
        exact ⟨v, this, hok⟩
      obtain ⟨b, off, spot⟩ := a
      have hspot : spot = none := by
        obtain ⟨v, hv, _⟩ := each 0 (by omega) 0 (ss[0]) (by simp [h0])
        simpa [Addr.add] using World.cell?_spot hv
      subst hspot
      refine ⟨b, off, rfl, hlt (.cell b off) (List.mem_append_left _ (MemPlace.mem_row.2 ⟨0, by rw [ce]; exact Nat.mul_pos (by omega) h0, by simp⟩)), fun i hi j s hs => ?_⟩
      obtain ⟨v, hv, hok⟩ := each i (by omega) j s hs
      rw [add_plain] at hv
      exact ⟨v, by rw [Nat.add_assoc]; exact hv, hok⟩
/-- A struct by value, structs in it too. -/
theorem open_deep {r : Reach} {b0 : Nat} {t : TypeId} {fs : Array Field} {ss : List Sca} {d : Nat} {v : Value} {dt : DataW H} {p : List MemPlace} (hs : P.underlying t = some (.struct fs)) (hss : flatT P d t = some ss) (hC : P.cellsOf t = ss.length)
    (hv : Value.okWide P w r b0 t v) (h : DataW.Trod enc P w base spare held t v dt p) :
    ∃ cs : Array Value, v = .agg cs ∧ cs.size = ss.length ∧ ∀ (i : Nat) (s : Sca), ss[i]? = some s → ∃ x, cs[i]? = some x ∧ s.ok x := by
  obtain ⟨cs, rfl, hsz⟩ := okWide_struct hs hv
  obtain ⟨fuel, hf⟩ := h
  refine ⟨cs, rfl, hsz.trans hC, fun i s e => ?_⟩
  obtain ⟨x, hx, hk⟩ := open_cells d hss hf i s e
  exact ⟨x, by simpa [Value.cells] using hx, hk⟩
end
end Go.Proofs.Ytjiohencpopbeaa

/- Numbers and answers: general. -/
namespace Go.Proofs.Ytjiohencpopbeaa
open Go.RowKit
set_option maxRecDepth 100000

theorem ret_bool {x y : Bool} (h : x = y) : Ending.returned (.bool x) = .returned (.bool y) := congrArg (fun z => Ending.returned (.bool z)) h
theorem ret_int {k : IntKind} {x y : Int} (h : x = y) : Ending.returned (.int k x) = .returned (.int k y) := congrArg (fun z => Ending.returned (.int k z)) h
theorem ret_pair {k : IntKind} {x y : Int} {a b : Bool} (h : x = y) (g : a = b) : Ending.returned (.tuple #[.int k x, .bool a]) = .returned (.tuple #[.int k y, .bool b]) := by rw [h, g]
theorem w64 (n : Int) (h : -9223372036854775808 ≤ n ∧ n ≤ 9223372036854775807) : wrap64 n = n := by unfold wrap64; omega
/-- What the program counts is what is asked: nothing goes round. -/
theorem mul_in {a b A B : Int} (ha : 0 ≤ a ∧ a ≤ A) (hb : 0 ≤ b ∧ b ≤ B) : 0 ≤ a * b ∧ a * b ≤ A * B :=
  ⟨Int.mul_nonneg ha.1 hb.1, Int.mul_le_mul ha.2 hb.2 hb.1 (by omega)⟩
theorem wrap_mul {a b A B : Int} (ha : 0 ≤ a ∧ a ≤ A) (hb : 0 ≤ b ∧ b ≤ B) (hAB : A * B ≤ 9223372036854775807) : wrap64 (a * b) = a * b := by
  have := mul_in ha hb
  exact w64 _ (by omega)
theorem wrap_i (n : Int) : IntKind.i64.wrap n = wrap64 n := by rw [IntKind.wrap_i64]; unfold wrap64; omega
/-- int(uint(a) % m). -/
theorem cut_u (a m : Int) (h0 : 0 < m) (h1 : m ≤ 1099511627776) : ∃ r : Int, wrap64 ((IntKind.u64.wrap a).tmod m) = r ∧ 0 ≤ r ∧ r < m := by
  refine ⟨_, rfl, ?_⟩
  have e : 0 ≤ IntKind.u64.wrap a := by rw [IntKind.wrap_u64]; omega
  rw [Int.tmod_eq_emod_of_nonneg e]
  have := Int.emod_nonneg (IntKind.u64.wrap a) (show m ≠ 0 by omega)
  have := Int.emod_lt_of_pos (IntKind.u64.wrap a) h0
  unfold wrap64
  omega
/-- 1 + int(uint(a) % m). -/
theorem cut_u1 (a m : Int) (h0 : 0 < m) (h1 : m ≤ 1099511627776) : ∃ r : Int, wrap64 (1 + wrap64 ((IntKind.u64.wrap a).tmod m)) = r ∧ 1 ≤ r ∧ r ≤ m := by
  obtain ⟨r, hr, r0, r1⟩ := cut_u a m h0 h1
  exact ⟨1 + r, by rw [hr]; exact w64 _ (by omega), by omega, by omega⟩
def In64 (n : Int) : Prop := -9223372036854775808 ≤ n ∧ n ≤ 9223372036854775807
def InU (n : Int) : Prop := 0 ≤ n ∧ n ≤ 18446744073709551615
theorem wf_i {n : Int} : (Lit.int .i64 n).wf = true ↔ In64 n := by simp [Lit.wf, IntKind.min, IntKind.max, IntKind.signed, IntKind.bits, In64]
theorem wf_u {n : Int} : (Lit.int .u64 n).wf = true ↔ InU n := by simp [Lit.wf, IntKind.min, IntKind.max, IntKind.signed, IntKind.bits, InU]
end Go.Proofs.Ytjiohencpopbeaa

/- Rows that came in: of whatever structs of numbers and bools; each element's cells. General. -/
namespace Go.Proofs.Ytjiohencpopbeaa
open Go.RowKit Go.Maps Go.Deep
set_option maxRecDepth 100000

/-- From o on the block b holds vs. -/
def CellsAt (w : World) (b o : Nat) (vs : List Value) : Prop := ∀ (j : Nat) (v : Value), vs[j]? = some v → w.cell? ⟨b, o + j, none⟩ = some v
theorem CellsAt.below {w w' : World} {b o : Nat} {vs : List Value} (h : CellsAt w b o vs) (hb : Below w.heap.size w w') (hl : b < w.heap.size) : CellsAt w' b o vs := fun j v e => by
  rw [hb.cell (p := ⟨b, o + j, none⟩) hl]; exact h j v e
/-- A row of things of m cells. -/
def RowX {α : Type} [Inhabited α] (enc : α → List Value) (m : Nat) (w : World) (A : Option Addr) (xs : List α) : Prop :=
  xs = [] ∨ ∃ b off, A = some ⟨b, off, none⟩ ∧ b < w.heap.size ∧ ∀ i, i < xs.length → CellsAt w b (off + i * m) (enc (xs.getD i default))
theorem RowX.below {α : Type} [Inhabited α] {enc : α → List Value} {m : Nat} {w w' : World} {A : Option Addr} {xs : List α} (h : RowX enc m w A xs) (hb : Below w.heap.size w w') : RowX enc m w' A xs := by
  rcases h with h | ⟨b, off, rfl, hl, hc⟩
  · exact .inl h
  · exact .inr ⟨b, off, rfl, Nat.lt_of_lt_of_le hl hb.size, fun i hi => (hc i hi).below hb hl⟩
theorem open_rowX {α : Type} [Inhabited α] {enc : α → List Value} {Ok : α → Prop} {P : Program} {H : Type} {en : TypeId × Value → H} {W : World} {t e : TypeId} {ss : List Sca} {dd : Nat} {A : Option Addr} {len cap : Nat} {d : DataW H} {p : List MemPlace}
    (ht : P.underlying t = some (.slice e)) (hss : flatT P dd e = some ss) (ce : P.cellsOf e = ss.length) (h0 : 0 < ss.length)
    (hdec : ∀ (w : World) (b o : Nat), (∀ (j : Nat) (s : Sca), ss[j]? = some s → ∃ v, w.cell? ⟨b, o + j, none⟩ = some v ∧ s.ok v) → ∃ r : α, CellsAt w b o (enc r) ∧ Ok r)
    (h : DataW.Trod en P W 0 (fun _ => true) true t (.slice A len cap) d p) (hlt : ∀ x ∈ p, x.block < W.heap.size) :
    ∃ xs : List α, xs.length = len ∧ len ≤ maxLen ∧ (∀ r ∈ xs, Ok r) ∧ RowX enc ss.length W A xs := by
  obtain ⟨hm, hz | ⟨b, off, rfl, hb, hall⟩⟩ := open_deep_row ht hss ce h0 h hlt
  · exact ⟨[], hz.symm, hm, by simp, .inl rfl⟩
  · have each : ∀ i, i < len → ∃ r : α, CellsAt W b (off + i * ss.length) (enc r) ∧ Ok r := fun i hi => hdec W b _ (hall i hi)
    obtain ⟨f, hf⟩ := choose_lt each
    refine ⟨(List.range len).map f, by simp, hm, fun r hr => ?_, ?_⟩
    · obtain ⟨i, hi, rfl⟩ := List.mem_map.1 hr
      exact (hf i (by simpa using hi)).2
    · refine .inr ⟨b, off, rfl, hb, fun i hi => ?_⟩
      have hi' : i < len := by simpa using hi
      have e : ((List.range len).map f).getD i default = f i := by simp [hi']
      rw [e]
      exact (hf i hi').1
end Go.Proofs.Ytjiohencpopbeaa

/- Structs of three ints: what their cells hold; rows of them that a call reads, its own, blocks of them, new ones. General. -/
namespace Go.Proofs.Ytjiohencpopbeaa
open Go.RowKit Go.Maps Go.Deep
set_option maxRecDepth 100000

abbrev Trip := Int × Int × Int
def enc3 (x : Trip) : List Value := [.int .i64 x.1, .int .i64 x.2.1, .int .i64 x.2.2]
def tv (x : Trip) : Value := .agg #[.int .i64 x.1, .int .i64 x.2.1, .int .i64 x.2.2]
def t0 : Trip := (0, 0, 0)
theorem t0_default : (default : Trip) = t0 := rfl
def flat3 (l : List Trip) : List Value := l.flatMap enc3
theorem flat3_length (l : List Trip) : (flat3 l).length = l.length * 3 := by
  induction l with
  | nil => rfl
  | cons x l ih => simp [flat3, enc3] at *; omega
theorem flat3_append (l m : List Trip) : flat3 (l ++ m) = flat3 l ++ flat3 m := by simp [flat3]
theorem flat3_get (l : List Trip) : ∀ (j c : Nat), j < l.length → c < 3 → (flat3 l)[j * 3 + c]? = (enc3 (l.getD j t0))[c]? := by
  induction l with
  | nil => intro j c h; simp at h
  | cons x l ih =>
    intro j c hj hc
    have e : flat3 (x :: l) = enc3 x ++ flat3 l := by simp [flat3]
    cases j with
    | zero => rw [e, List.getElem?_append_left (by simp [enc3]; omega)]; simp
    | succ j =>
      rw [e, List.getElem?_append_right (by simp [enc3]; omega)]
      have := ih j c (by simpa using hj) hc
      have e2 : (j + 1) * 3 + c - (enc3 x).length = j * 3 + c := by simp [enc3]; omega
      rw [e2, this]
      simp
theorem flat3_set (x : Trip) : ∀ (l : List Trip) (k : Nat), k < l.length → flat3 (l.set k x) = (((flat3 l).set (k * 3) (.int .i64 x.1)).set (k * 3 + 1) (.int .i64 x.2.1)).set (k * 3 + 2) (.int .i64 x.2.2)
  | [], k, h => by simp at h
  | y :: l, k, h => by
    have e : ∀ (z : Trip) (m : List Trip), flat3 (z :: m) = .int .i64 z.1 :: .int .i64 z.2.1 :: .int .i64 z.2.2 :: flat3 m := fun z m => by simp [flat3, enc3]
    cases k with
    | zero => simp [e]
    | succ k =>
      have ih := flat3_set x l k (by simpa using h)
      rw [List.set_cons_succ, e, e, ih]
      rw [show (k + 1) * 3 = k * 3 + 3 by omega]
      simp
theorem flat3_zero (n : Nat) : flat3 (List.replicate n t0) = List.replicate (n * 3) (.int .i64 0) := by
  induction n with
  | zero => rfl
  | succ n ih =>
    have e : flat3 (List.replicate (n + 1) t0) = enc3 t0 ++ flat3 (List.replicate n t0) := by simp [flat3, List.replicate_succ]
    rw [e, ih, show (n + 1) * 3 = n * 3 + 3 by omega]
    simp [enc3, t0, List.replicate_succ]

/-! ### rows that are read -/
theorem at3 {w : World} {b o : Nat} {x y z : Int} (h : CellsAt w b o (enc3 (x, y, z))) : w.cell? ⟨b, o, none⟩ = some (.int .i64 x) ∧ w.cell? ⟨b, o + 1, none⟩ = some (.int .i64 y) ∧ w.cell? ⟨b, o + 2, none⟩ = some (.int .i64 z) :=
  ⟨h 0 _ rfl, h 1 _ rfl, h 2 _ rfl⟩
/-- A row of such, wherever it lies. -/
abbrev Row3 (w : World) (A : Option Addr) (xs : List Trip) : Prop := RowX enc3 3 w A xs
/-- Its block. -/
def In3 (A : Option Addr) (k : Nat) : Prop := ∃ off, A = some ⟨k, off, none⟩
theorem CellsAt.kept {w w' : World} {b o : Nat} {vs : List Value} (h : CellsAt w b o vs) (hb : w'.heap[b]? = w.heap[b]?) : CellsAt w' b o vs := fun j v e => by
  rw [World.cell?_of_block (w := w) hb]; exact h j v e
theorem Row3.kept {w w' : World} {A : Option Addr} {xs : List Trip} (h : Row3 w A xs) (hk : ∀ k, In3 A k → w'.heap[k]? = w.heap[k]?) (hs : w.heap.size ≤ w'.heap.size) : Row3 w' A xs := by
  rcases h with h | ⟨b, off, rfl, hl, hc⟩
  · exact .inl h
  · exact .inr ⟨b, off, rfl, Nat.lt_of_lt_of_le hl hs, fun i hi => (hc i hi).kept (hk b ⟨off, rfl⟩)⟩
theorem Blk.row3 {w : World} {g : Nat} {l : List Trip} (h : Blk 0 w g (flat3 l)) : Row3 w (some ⟨g, 0, none⟩) l := by
  refine .inr ⟨g, 0, rfl, h.1, fun i hi j v e => ?_⟩
  have hj : j < 3 := by have := (List.getElem?_eq_some_iff.1 e).1; simpa [enc3] using this
  rw [Nat.zero_add, h.rule, flat3_get l i j hi hj, ← t0_default]
  exact e
theorem owns_row3 {w : World} {b : Nat} {e : TypeId} {A : Option Addr} {cap : Nat} {l : List Trip} (h : w.ownsRow b e 3 (.slice A l.length cap) l.length (flat3 l)) : Row3 w A l := by
  rcases h.2 with ⟨_, h0⟩ | ⟨g, cap', cur, hv, _, hg, hn, hc, hcs, htk⟩
  · exact .inl (List.eq_nil_of_length_eq_zero h0)
  · simp only [Value.slice.injEq] at hv
    obtain ⟨rfl, -, rfl⟩ := hv
    refine .inr ⟨g, 0, rfl, (Array.getElem?_eq_some_iff.1 hg).1, fun i hi j v e => ?_⟩
    have hj : j < 3 := by have := (List.getElem?_eq_some_iff.1 e).1; simpa [enc3] using this
    have h1 := flat3_get l i j hi hj
    rw [← t0_default, e, ← htk, List.getElem?_take_of_lt (by omega)] at h1
    rw [Nat.zero_add]
    simp only [World.cell?, hg]
    simpa using h1
theorem Row3.nil {w : World} : Row3 w none [] := .inl rfl
theorem Row3.news {w : World} {ad : Addr} {xs : List Trip} (h : Row3 w (some ad) xs) : ∀ j u, (flat3 xs)[j]? = some u → w.cell? (ad.add j) = some u := by
  intro j u hu
  rcases h with rfl | ⟨b, off, he, hl, hc⟩
  · simp [flat3] at hu
  · cases he
    have hj : j < xs.length * 3 := by rw [← flat3_length]; exact (List.getElem?_eq_some_iff.1 hu).1
    have e : (⟨b, off, none⟩ : Addr).add j = ⟨b, off + j, none⟩ := by unfold Addr.add; split <;> simp_all
    have e2 : j / 3 * 3 + j % 3 = j := by omega
    have h1 := hc (j / 3) (by omega) (j % 3) u (by rw [t0_default, ← flat3_get xs (j / 3) (j % 3) (by omega) (Nat.mod_lt _ (by omega)), e2, hu])
    rw [e]
    rwa [Nat.add_assoc, e2] at h1
theorem flat3_one (l : List Trip) : ∀ u ∈ flat3 l, u.oneCell' = true := fun x hx => by
  obtain ⟨o, _, ho⟩ := List.mem_flatMap.1 hx
  simp [enc3] at ho
  rcases ho with rfl | rfl | rfl <;> rfl

/-! ### a block of them: one written; a new one -/
theorem Blk.set3 {m n k : Nat} {l : List Trip} {w : World} (h : Blk m w n (flat3 l)) (hk : k < l.length) (x : Trip) :
    Blk m (((w.setCell ⟨n, k * 3, none⟩ (.int .i64 x.1)).setCell ⟨n, k * 3 + 1, none⟩ (.int .i64 x.2.1)).setCell ⟨n, k * 3 + 2, none⟩ (.int .i64 x.2.2)) n (flat3 (l.set k x)) := by
  rw [flat3_set x l k hk]
  have hl := flat3_length l
  exact ((h.set (by omega) _).set (by simp; omega) _).set (by simp; omega) _
theorem made3 (n : Nat) : madeCells (tv t0).cells (n * 3) = (flat3 (List.replicate n t0)).toArray := by
  rw [flat3_zero]
  apply Array.ext
  · simp [size_madeCells]
  · intro i h1 h2
    have : i % 3 = 0 ∨ i % 3 = 1 ∨ i % 3 = 2 := by omega
    simp only [madeCells, Array.getElem_map, Array.getElem_range, tv, t0, Value.cells, List.getElem_toArray, List.getElem_replicate]
    rcases this with h | h | h <;> simp [h]
theorem run_make3 {P : Program} (t e : TypeId) (ht : P.underlying t = some (.slice e)) (hinfo : (P.info? e).map (fun i => (i.zero, i.size, i.bytes)) = some (some (tv t0), 3, 24))
    (kl kc : IntKind) (n : Nat) (hn : n ≤ 1099511627776) (w : World) :
    (Instr.makeSlice t (.int kl (n : Int)) (.int kc (n : Int))).run P w = .ok (.slice (some ⟨w.heap.size, 0, none⟩) n n) (w.alloc (.cells (flat3 (List.replicate n t0)).toArray e)) := by
  obtain ⟨i, hi, hzz⟩ := Option.map_eq_some_iff.1 hinfo
  simp only [Prod.mk.injEq] at hzz
  obtain ⟨hz, hs, hb⟩ := hzz
  have hr := run_make (P := P) w t e i (tv t0) ht hi hz kl kc n n (by omega) (Int.le_refl _) (by rw [hb]; omega) (by omega)
  simp only [Int.toNat_natCast, hs, made3] at hr
  exact hr
theorem wpList_make3 {P : Program} (w : World) {ops : Array Oper} {rest : List Oper} {o : Oper} {a : Act} {Q : Exit → Act → World → Prop}
    (hg : o.guard = none) (l c : Operand) (t : TypeId) (hop : o.op = Op.makeSlice t l c)
    (e : TypeId) (ht : P.underlying t = some (.slice e)) (hinfo : (P.info? e).map (fun i => (i.zero, i.size, i.bytes)) = some (some (tv t0), 3, 24))
    (kl kc : IntKind) (N M : Int) (n : Nat) (hl : a.eval l = .int kl N) (hc : a.eval c = .int kc M) (hN : N = (n : Int)) (hM : M = (n : Int)) (hn : n ≤ 1099511627776)
    (hK : wpList P ops Q rest (a.put o.dst (.slice (some ⟨w.heap.size, 0, none⟩) n n)) (w.alloc (.cells (flat3 (List.replicate n t0)).toArray e))) :
    wpList P ops Q (o :: rest) a w := by
  refine wpList_plain hg fun K hK' => ?_
  subst hN
  subst hM
  have hrun := run_make3 (P := P) t e ht hinfo kl kc n hn w
  unfold Oper.wp
  simp [execOp, hop, hl, hc, hrun, Result.andThen]
  exact hK' _ _ hK

/-! ### among others -/
section
variable {w0 w w' : World} {L : List Item}
/-- A row of its own, appended to. -/
def row3I (v : Value) (e : TypeId) (l : List Trip) : Item := rowI v e 3 l.length (flat3 l)
theorem Env.row3 (h : Env w0 L w) (i : Nat) {v : Value} {e : TypeId} {l : List Trip} (hi : L[i]? = some (row3I v e l)) : w.ownsRow 0 e 3 v l.length (flat3 l) := h.get i hi
theorem Env.cells3 (h : Env w0 L w) (i : Nat) {A : Option Addr} {n cap : Nat} {e : TypeId} {l : List Trip} (hn : n = l.length) (hi : L[i]? = some (row3I (.slice A n cap) e l)) : Row3 w A l := by subst hn; exact owns_row3 (h.row3 i hi)
theorem Env.addRow3 (h : Env w0 L w) {v : Value} {e : TypeId} {l : List Trip} (ho : w'.ownsRow w.heap.size e 3 v l.length (flat3 l)) (hb : Below w.heap.size w w') : Env w0 (row3I v e l :: L) w' :=
  h.add (row3I v e l) hb (ownsRow_base ho (Nat.zero_le _)) fun k hk => ho.lt k hk
theorem Env.addEmpty3 (h : Env w0 L w) (n : Nat) (hn : w.heap.size = n) (e : TypeId) : Env w0 (row3I (.slice (some ⟨n, 0, none⟩) 0 0) e [] :: L) (w.alloc (.cells #[] e)) := by
  subst hn
  exact h.addRow3 (v := .slice (some ⟨w.heap.size, 0, none⟩) 0 0) (l := []) ⟨rfl, .inr ⟨w.heap.size, 0, #[], rfl, Nat.le_refl _, heap_alloc_new w _, Nat.le_refl _, Nat.zero_le _, rfl, rfl⟩⟩ ((Below.refl _ _).alloc (Nat.le_refl _) _)
/-- A row appended to a row of its own. -/
theorem Env.append3 {P : Program} (h : Env w0 L w) (i : Nat) {v : Value} {e : TypeId} {l xs : List Trip} (hi : L[i]? = some (row3I v e l)) (t ty : TypeId) (ht : P.underlying t = some (.slice e)) (hinfo : (P.info? e).map (fun i => (i.zero, i.size, i.bytes)) = some (some (tv t0), 3, 24))
    {A : Option Addr} (c : Nat) (hx : Row3 w A xs) (hz : l.length + xs.length ≤ 1048576) :
    ∃ A' c' w', (Builtin.append_ #[t, t] ty #[v, .slice A xs.length c]).run P w = .ok (.slice A' (l.length + xs.length) c') w' ∧ Env w0 (L.set i (row3I (.slice A' (l.length + xs.length) c') e (l ++ xs))) w' ∧ Step (fun k => v.ownBlock = some k) (fun k => (Value.slice A' (l.length + xs.length) c').ownBlock = some k) w w' := by
  obtain ⟨i0, hi0, hzz⟩ := Option.map_eq_some_iff.1 hinfo
  simp only [Prod.mk.injEq] at hzz
  obtain ⟨hz0, hs, hb⟩ := hzz
  have hown := h.row3 i hi
  obtain ⟨v', w', hrun, ho, hg, hv⟩ := run_append_rows (P := P) t ty 0 e i0 (tv t0) 3 24 ht hi0 hz0 hs hb rfl (by decide) w v l.length (flat3 l) hown A xs.length c (flat3 xs) (flat3_length xs)
    (by
      cases A with
      | none =>
        left
        rcases hx with rfl | ⟨b, off, he, _⟩
        · exact ⟨rfl, rfl⟩
        · cases he
      | some ad => exact .inr ⟨ad, rfl, Row3.news hx⟩) (flat3_one xs) (by simp [maxLen]; omega) (by omega) (Nat.zero_le _)
  obtain ⟨A', c', rfl⟩ := ownsRow_slice ho
  have hst : Step (fun k => v.ownBlock = some k) (fun k => (Value.slice A' (l.length + xs.length) c').ownBlock = some k) w w' := ⟨(Turn.refl _ w).grown hg fun k _ e => e, fun k hk => by
    rcases hv with e | e
    · exact .inl (by rw [← e]; exact hk)
    · right
      rw [e] at hk
      cases hk
      exact Nat.le_refl _⟩
  refine ⟨A', c', w', hrun, h.step i (row3I _ e (l ++ xs)) hi hst ?_ ?_, hst⟩
  · show w'.ownsRow 0 e 3 _ (l ++ xs).length (flat3 (l ++ xs))
    rw [List.length_append, flat3_append]
    exact ho
  · exact ownsRow_lt ho
/-- A row that this call neither made nor turns. -/
theorem Env.seen3 (h : Env w0 L w) {A : Option Addr} {xs : List Trip} (hr : Row3 w0 A xs) : Row3 w A xs := RowX.below hr h.below
end
end Go.Proofs.Ytjiohencpopbeaa

/- Queues, in mathematics: a ring's places, the room for so many. -/
namespace Go.Proofs.Ytjiohencpopbeaa

/-- A ring of N places, in which l stands from the g-th count on. -/
def Ring (r : List Trip) (N g : Nat) (l : List Trip) : Prop := r.length = N ∧ l.length ≤ N ∧ ∀ i, i < l.length → r.getD ((g + i) % N) t0 = l.getD i t0
theorem mod_apart {N a i j : Nat} (h : i < j) (hj : j < N) : (a + i) % N ≠ (a + j) % N := fun e => by
  have h1 : ((a + i) + (j - i)) % N = (a + i) % N := by rw [show a + i + (j - i) = a + j by omega, e]
  have h2 : ((a + i) % N + (j - i)) % N = (a + i) % N := by rw [Nat.mod_add_mod]; exact h1
  have h3 := Nat.mod_lt (a + i) (show 0 < N by omega)
  by_cases h4 : (a + i) % N + (j - i) < N
  · rw [Nat.mod_eq_of_lt h4] at h2; omega
  · rw [Nat.mod_eq_sub_mod (by omega), Nat.mod_eq_of_lt (by omega)] at h2; omega
theorem Ring.start (N g : Nat) : Ring (List.replicate N t0) N g [] := ⟨by simp, by simp, fun i h => by simp at h⟩
theorem Ring.push {r l : List Trip} {N g : Nat} (h : Ring r N g l) (hl : l.length < N) (x : Trip) : Ring (r.set ((g + l.length) % N) x) N g (l ++ [x]) := by
  obtain ⟨h1, h2, h3⟩ := h
  have hp : (g + l.length) % N < N := Nat.mod_lt _ (by omega)
  refine ⟨by simpa using h1, by simp; omega, fun i hi => ?_⟩
  simp at hi
  have hpi : (g + i) % N < N := Nat.mod_lt _ (by omega)
  by_cases e : i = l.length
  · subst e
    simp [h1, hp]
  · have hne : (g + l.length) % N ≠ (g + i) % N := fun e' => mod_apart (N := N) (a := g) (show i < l.length by omega) hl e'.symm
    have := h3 i (by omega)
    simp only [List.getD_eq_getElem?_getD, List.getElem?_set, if_neg hne] at this ⊢
    rw [this, List.getElem?_append_left (by omega)]
theorem Ring.pop {r l : List Trip} {N g : Nat} {x : Trip} (h : Ring r N g (x :: l)) : r.getD (g % N) t0 = x ∧ Ring r N (g + 1) l := by
  obtain ⟨h1, h2, h3⟩ := h
  refine ⟨by simpa using h3 0 (by simp), h1, by simp at h2; omega, fun i hi => ?_⟩
  have := h3 (i + 1) (by simp; omega)
  rw [show g + 1 + i = g + (i + 1) by omega, this]
  simp
theorem Ring.at {r l : List Trip} {N g : Nat} (h : Ring r N g l) (i : Nat) (hi : i < l.length) : r.getD ((g + i) % N) t0 = l.getD i t0 := h.2.2 i hi

/-- From 2 ^ k on, the room for n. -/
def Rm (k n k' : Nat) : Prop := k ≤ k' ∧ n ≤ 2 ^ k' ∧ (k' = k ∨ 2 ^ k' < 2 * n)
theorem pow_up {a b : Nat} (h : a < b) : 2 * 2 ^ a ≤ 2 ^ b := by
  have := Nat.pow_le_pow_right (n := 2) (by omega) (show a + 1 ≤ b by omega)
  rw [Nat.pow_succ] at this; omega
theorem Rm.unique {k n a b : Nat} (h : Rm k n a) (h' : Rm k n b) : a = b := by
  obtain ⟨h1, h2, h3⟩ := h
  obtain ⟨g1, g2, g3⟩ := h'
  rcases Nat.lt_trichotomy a b with h | h | h
  · have := pow_up h; omega
  · exact h
  · have := pow_up h; omega
theorem Rm.trans {k n m a b : Nat} (h : Rm k n a) (h' : Rm a m b) (hn : n ≤ m) : Rm k m b := by
  obtain ⟨h1, h2, h3⟩ := h
  obtain ⟨g1, g2, g3⟩ := h'
  refine ⟨by omega, g2, ?_⟩
  rcases g3 with rfl | g3
  · rcases h3 with rfl | h3
    · exact .inl rfl
    · right; omega
  · exact .inr g3
theorem Rm.same {k n : Nat} (h : n ≤ 2 ^ k) : Rm k n k := ⟨Nat.le_refl _, h, .inl rfl⟩
theorem Rm.le {k n k' : Nat} (h : Rm k n k') (hk : k ≤ 20) (hn : n ≤ 1048576) : k' ≤ 20 := by
  obtain ⟨h1, h2, h3⟩ := h
  rcases h3 with rfl | h3
  · exact hk
  · apply Classical.byContradiction
    intro hc
    have := Nat.pow_le_pow_right (n := 2) (by omega) (show 21 ≤ k' by omega)
    simp at this
    omega
theorem pow_small {k : Nat} (h : k ≤ 20) : 2 ^ k ≤ 1048576 := Nat.pow_le_pow_right (n := 2) (by omega) h
theorem pow_four {k : Nat} (h : 2 ≤ k) : 4 ≤ 2 ^ k := Nat.pow_le_pow_right (n := 2) (by omega) h
theorem pow_inj {a b : Nat} (h : 2 ^ a = 2 ^ b) : a = b := by
  rcases Nat.lt_trichotomy a b with h' | h' | h'
  · have := pow_up h'; have := Nat.one_le_two_pow (n := a); omega
  · exact h'
  · have := pow_up h'; have := Nat.one_le_two_pow (n := b); omega
/-- Counts go round at 2 ^ 64: their places stay. -/
theorem mod_round {k : Nat} (hk : k ≤ 64) (a : Nat) : a % 18446744073709551616 % 2 ^ k = a % 2 ^ k :=
  Nat.mod_mod_of_dvd a (by have := Nat.pow_dvd_pow 2 hk; simpa using this)
theorem and_mask {k : Nat} (hk : k ≤ 20) (c : Nat) (hc : c < 18446744073709551616) : bits .and .u64 (c : Int) (((2 ^ k : Nat) : Int) - 1) = ((c % 2 ^ k : Nat) : Int) := by
  have h1 := Nat.one_le_two_pow (n := k)
  have h2 := pow_small hk
  rw [show ((2 ^ k : Nat) : Int) - 1 = ((2 ^ k - 1 : Nat) : Int) by omega, u64_and_nat _ _ hc (by omega), Nat.and_two_pow_sub_one_eq_mod]

/-- The place of the first entry of that slot; -1: there is none. -/
def findI : List Trip → Int → Int
  | [], _ => -1
  | x :: l, s => if x.1 = s then 0 else if findI l s < 0 then -1 else findI l s + 1
theorem findI_skip {l : List Trip} {s : Int} {k : Nat} (hk : k < l.length) (h : (l.getD k t0).1 ≠ s) (hf : findI l s = if findI (l.drop k) s < 0 then -1 else findI (l.drop k) s + k) : findI l s = if findI (l.drop (k + 1)) s < 0 then -1 else findI (l.drop (k + 1)) s + (k + 1 : Nat) := by
  rw [hf, List.drop_eq_getElem_cons hk]
  have e : l[k].1 ≠ s := by simpa [hk] using h
  simp only [findI, if_neg e]
  split <;> split <;> simp_all <;> omega
theorem findI_hit {l : List Trip} {s : Int} {k : Nat} (hk : k < l.length) (h : (l.getD k t0).1 = s) (hf : findI l s = if findI (l.drop k) s < 0 then -1 else findI (l.drop k) s + k) : findI l s = k := by
  rw [hf, List.drop_eq_getElem_cons hk]
  have e : l[k].1 = s := by simpa [hk] using h
  simp [findI, e]
theorem findI_none {l : List Trip} {s : Int} (hf : findI l s = if findI (l.drop l.length) s < 0 then -1 else findI (l.drop l.length) s + l.length) : findI l s = -1 := by
  rw [hf, List.drop_length]; rfl
theorem findI_start (l : List Trip) (s : Int) : findI l s = if findI (l.drop 0) s < 0 then -1 else findI (l.drop 0) s + (0 : Nat) := by
  have : ∀ l : List Trip, -1 ≤ findI l s := fun l => by
    induction l with
    | nil => simp [findI]
    | cons x l ih => simp only [findI]; split; omega; split <;> omega
  have := this l
  simp only [List.drop_zero]
  split <;> omega
end Go.Proofs.Ytjiohencpopbeaa

/- Queues: what they are in memory; the contracts of at, Len, Room. -/
namespace Go.Proofs.Ytjiohencpopbeaa
open Go.RowKit Go.Maps
set_option maxRecDepth 100000

/-- A count, as it is kept. -/
def cnt (c : Nat) : Int := ((c % 18446744073709551616 : Nat) : Int)
/-- The cells of a queue: the ring in block R, of N places; g were popped, n stand. -/
def qv (R N g n : Nat) : List Value := [.slice (some ⟨R, 0, none⟩) N N, .int .u64 (cnt g), .int .u64 (cnt (g + n))]
/-- Block q is a queue of l, with room for 2 ^ k; F are the blocks that it is made of. -/
def IsQ (w : World) (q : Nat) (F : Nat → Prop) (l : List Trip) (k : Nat) : Prop :=
  ∃ R g r, Blk 0 w q (qv R (2 ^ k) g l.length) ∧ Blk 0 w R (flat3 r) ∧ Ring r (2 ^ k) g l ∧ 2 ≤ k ∧ k ≤ 20 ∧ q ≠ R ∧ ∀ j, F j ↔ (j = q ∨ j = R)

theorem IsQ.lt {w : World} {q k : Nat} {F : Nat → Prop} {l : List Trip} (h : IsQ w q F l k) : ∀ j, F j → j < w.heap.size := by
  obtain ⟨R, g, r, h1, h2, _, _, _, _, hF⟩ := h
  intro j hj
  rcases (hF j).1 hj with rfl | rfl
  · exact h1.1
  · exact h2.1
theorem IsQ.kept {w w' : World} {q k : Nat} {F : Nat → Prop} {l : List Trip} (h : IsQ w q F l k) (hk : ∀ j, F j → w'.heap[j]? = w.heap[j]?) (hs : w.heap.size ≤ w'.heap.size) : IsQ w' q F l k := by
  obtain ⟨R, g, r, h1, h2, h3, h4, h5, h6, hF⟩ := h
  exact ⟨R, g, r, h1.kept hs (hk q ((hF q).2 (.inl rfl))), h2.kept hs (hk R ((hF R).2 (.inr rfl))), h3, h4, h5, h6, hF⟩
theorem IsQ.below {w w' : World} {q k : Nat} {F : Nat → Prop} {l : List Trip} (h : IsQ w q F l k) (hb : Below w.heap.size w w') : IsQ w' q F l k :=
  h.kept (fun j hj => hb.block j (h.lt j hj)) hb.size
theorem IsQ.len {w : World} {q k : Nat} {F : Nat → Prop} {l : List Trip} (h : IsQ w q F l k) : l.length ≤ 2 ^ k ∧ l.length ≤ 1048576 ∧ 2 ≤ k ∧ k ≤ 20 := by
  obtain ⟨R, g, r, h1, h2, h3, h4, h5, h6, hF⟩ := h
  have := pow_small h5
  exact ⟨h3.2.1, by have := h3.2.1; omega, h4, h5⟩

theorem at_any (R k c : Nat) (w : World) (hk : k ≤ 20) :
    Calls Try.prog 21 #[.slice (some ⟨R, 0, none⟩) (2 ^ k) (2 ^ k), .int .u64 (cnt c)] w fun e w' => e = .returned (.pointer (some ⟨R, (c % 2 ^ k) * 3, none⟩)) ∧ w = w' := by
  have hm := and_mask hk (c % 18446744073709551616) (Nat.mod_lt _ (by omega))
  rw [mod_round (by omega)] at hm
  unfold cnt
  have h1 := Nat.one_le_two_pow (n := k)
  have h2 := pow_small hk
  have hlt : c % 2 ^ k < 2 ^ k := Nat.mod_lt _ (by omega)
  generalize 2 ^ k = N at *
  have hw1 : wrap64 ((N : Int) - 1) = (N : Int) - 1 := w64 _ (by omega)
  have hw2 : IntKind.u64.wrap ((N : Int) - 1) = (N : Int) - 1 := by rw [IntKind.wrap_u64]; omega
  generalize c % N = p at *
  generalize ((c % 18446744073709551616 : Nat) : Int) = c' at *
  go_enter Try.func21, Try.ntmps21
  go_wp2_with fail
  go_ret
  exact ⟨rfl, rfl⟩

theorem round_len (g n : Nat) (hn : n ≤ 1048576) : wrap64 (IntKind.u64.wrap ((cnt (g + n)) - (cnt g))) = n := by
  unfold cnt; rw [IntKind.wrap_u64]; unfold wrap64; omega
theorem len_any {w : World} {q k : Nat} {F : Nat → Prop} {l : List Trip} (hQ : IsQ w q F l k) :
    Calls Try.prog 16 #[.pointer (some ⟨q, 0, none⟩)] w fun e w' => e = .returned (.int .i64 l.length) ∧ Below w.heap.size w w' := by
  obtain ⟨hl1, hl2, hk2, hk⟩ := hQ.len
  obtain ⟨R, g, r, hq, hr, hring, _, _, hne, hF⟩ := hQ
  have hn := round_len g l.length hl2
  clear hr hring hF
  unfold qv at hq
  generalize (cnt g) = G at *
  generalize (cnt (g + l.length)) = C at *
  generalize 2 ^ k = N at *
  have hE : Below w.heap.size w w := Below.refl _ _
  go_enter Try.func16, Try.ntmps16
  go_wp2_with fail
  refine Ord.wp_chain [] (fun w' => Blk 0 w' q [.slice (some ⟨R, 0, none⟩) N N, .int .u64 G, .int .u64 C]) (fun _ w' => Below w.heap.size w w') (by kernel_rfl) (by kernel_rfl) (by kernel_rfl) hq.drew hE.drew (fun hT => ?_)
  have hT9 := Lib.hid hT
  clear hT
  repeat (first
    | (refine Ord.ch_value (v := ?_) hT9.out (by decide) (by rfl) ?_ ?_; rotate_left; (focus (intro w5 hS; have r := Blk.rule hS; go_simp <;> with_reducible rfl)); (try simp only [Act.put, List.setIfInBounds_toArray, List.set_cons_zero, List.set_cons_succ]))
    | (refine Ord.ch_off hT9.out (by decide) (by rfl) ?_; (try simp only [Act.put, List.setIfInBounds_toArray, List.set_cons_zero, List.set_cons_succ])))
  refine Ord.InText.nil fun w5 hS => ?_
  clear hT9
  obtain ⟨hq5, hE5⟩ := Ord.chain_end hS
  clear hS
  go_wp2
  go_ret
  exact ⟨ret_int ((wrap_i _).trans hn), hE5⟩
theorem lenNil_any (w : World) : Calls Try.prog 16 #[.pointer none] w fun e w' => e = .returned (.int .i64 0) ∧ Below w.heap.size w w' := by
  go_enter Try.func16, Try.ntmps16
  go_wp2
  go_ret
  exact ⟨rfl, Below.refl _ _⟩
theorem room_any {w : World} {q k : Nat} {F : Nat → Prop} {l : List Trip} (hQ : IsQ w q F l k) :
    Calls Try.prog 17 #[.pointer (some ⟨q, 0, none⟩)] w fun e w' => e = .returned (.int .i64 ((2 ^ k : Nat) : Int)) ∧ Below w.heap.size w w' := by
  obtain ⟨R, g, r, hq, hr, hring, _, _, hne, hF⟩ := hQ
  have r := hq.rule
  unfold qv at r
  generalize 2 ^ k = N at *
  go_enter Try.func17, Try.ntmps17
  go_wp2
  go_ret
  exact ⟨rfl, Below.refl _ _⟩
theorem roomNil_any (w : World) : Calls Try.prog 17 #[.pointer none] w fun e w' => e = .returned (.int .i64 0) ∧ Below w.heap.size w w' := by
  go_enter Try.func17, Try.ntmps17
  go_wp2
  go_ret
  exact ⟨rfl, Below.refl _ _⟩
end Go.Proofs.Ytjiohencpopbeaa
