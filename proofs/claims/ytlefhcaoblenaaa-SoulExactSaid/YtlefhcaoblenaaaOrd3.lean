/- A drawn region some of whose operations come to values that hang on the world (a call that makes a row: its address). 'Chain': these, and all that turn the world, come one behind the other, in a fixed order; C holds throughout, A of the values that they have come to so far. All other operations come to one value each, whatever the order. The region is walked once, in the order of the text. -/
import Derived.Test.YtlefhcaoblenaaaOrdB
namespace Go.Proofs.Ytlefhcaoblenaaa.Ord3
open Go Go.Proofs.Ytlefhcaoblenaaa.Ord

section
variable {P : Program} {ops : Array Oper} {Q : Exit → Act → World → Prop} {md : Region.Mode} {V : Nat → Value → Prop} {S : Array Bool → (Nat → Value) → World → Prop}

/-- What a run comes to: some value v with T v. -/
def Lands (P : Program) (T : Value → World → Prop) : Result Next → Prop
  | .ok (.value u) w' => T u w'
  | .ok .skip w' => T undef w'
  | .ok (.enter f args) w' => Calls P f args w' fun e w'' => ∃ v, e = .returned v ∧ T v w''
  | _ => False
theorem Lands.mono {T T' : Value → World → Prop} {r : Result Next} (h : Lands P T r) (hT : ∀ v w, T v w → T' v w) : Lands P T' r := by
  cases r with
  | ok n w' =>
    cases n <;> simp only [Lands] at *
    case value u => exact hT _ _ h
    case skip => exact hT _ _ h
    case enter f args => exact h.mono fun e w'' ⟨v, he, ht⟩ => ⟨v, he, hT _ _ ht⟩
  | halt x w' => simp only [Lands] at h

def up (f : Nat → Value) (i : Nat) (v : Value) : Nat → Value := fun j => if j = i then v else f j
theorem up_comm (f : Nat → Value) {i j : Nat} (u v : Value) (h : i ≠ j) : up (up f i u) j v = up (up f j v) i u := by
  funext k; unfold up; by_cases h1 : k = j <;> by_cases h2 : k = i <;> simp [h1, h2] <;> omega

/-- In frame a, where what is listed has come to κ, the operation comes to a value of its kind, from every world that is met when it comes up. -/
def Settles (P : Program) (md : Region.Mode) (ops : Array Oper) (V : Nat → Value → Prop) (S : Array Bool → (Nat → Value) → World → Prop) (i : Nat) (o : Oper) (listed : Array Bool) (κ : Nat → Value) (a : Act) : Prop :=
  (Region.wanted o (yielded ops a.tmps) = true ∧ ∀ l ρ w, i ∈ Region.ready md ops l → (∀ j, l.getD j false = true → V j (ρ j)) → (∀ j, listed.getD j false = true → l.getD j false = true → ρ j = κ j) → S l ρ w →
    Lands P (fun v w' => V i v ∧ S (l.setIfInBounds i true) (up ρ i v) w') ((execOp a.eval o).run P w)) ∨
  (Region.wanted o (yielded ops a.tmps) = false ∧ V i undef ∧ ∀ l ρ w, i ∈ Region.ready md ops l → S l ρ w → S (l.setIfInBounds i true) (up ρ i undef) w)

theorem Settles.wpOp {i : Nat} {o : Oper} {a : Act} {l : Array Bool} {κ : Nat → Value} (hi : ops[i]? = some o) (h : Settles P md ops V S i o l κ a) (hr : i ∈ Region.ready md ops l) {K : Act → World → Prop} {w : World} (hV : ∀ j, l.getD j false = true → V j (κ j)) (hS : S l κ w)
    (hK : ∀ v w', V i v → S (l.setIfInBounds i true) (up κ i v) w' → K (a.put o.dst v) w') : wpOp P ops Q i K a w := by
  unfold Go.wpOp
  simp only [hi]
  rcases h with ⟨hw, hv⟩ | ⟨hw, hu, hv⟩
  · simp only [hw, if_true]
    have := hv l κ w hr hV (fun _ _ _ => rfl) hS
    refine .inl ?_
    unfold Oper.wp
    generalize (execOp a.eval o).run P w = r at *
    cases r with
    | ok n w' =>
      cases n <;> simp only [Lands] at this <;> simp only [Oper.upon]
      case value u => exact hK _ _ this.1 this.2
      case skip => exact hK _ _ this.1 this.2
      case enter f args =>
        refine Calls.mono this fun e w'' he => ?_
        obtain ⟨v, rfl, h1, h2⟩ := he
        exact hK _ _ h1 h2
    | halt x w' => simp only [Lands] at this
  · simp only [hw, Bool.false_eq_true, if_false]
    exact hK _ _ hu (hv l κ w hr hS)

def Every (P : Program) (md : Region.Mode) (ops : Array Oper) (Q : Exit → Act → World → Prop) (V : Nat → Value → Prop) (S : Array Bool → (Nat → Value) → World → Prop) : Nat → Array Bool → (Nat → Value) → Act → Prop
  | 0, listed, κ, a => Region.ready md ops listed = [] ∧ ∀ w, S listed κ w → Q .normal a w
  | fuel + 1, listed, κ, a => (Region.ready md ops listed = [] → ∀ w, S listed κ w → Q .normal a w) ∧
    ∀ i ∈ Region.ready md ops listed, ∃ o, ops[i]? = some o ∧ Settles P md ops V S i o listed κ a ∧ ∀ v, V i v → Every P md ops Q V S fuel (listed.setIfInBounds i true) (up κ i v) (a.put o.dst v)

theorem listed_set {l : Array Bool} {i j : Nat} (h : (l.setIfInBounds i true).getD j false = true) : j = i ∨ l.getD j false = true := by
  by_cases e : i = j
  · exact .inl e.symm
  · right
    rw [Array.getD_eq_getD_getElem?, Array.getElem?_setIfInBounds, if_neg e, ← Array.getD_eq_getD_getElem?] at h
    exact h
theorem ready_not {l : Array Bool} {i : Nat} (h : i ∈ Region.ready md ops l) : l.getD i false = false := by
  have h2 : l.getD i true = false := (mem_ready.1 h).1
  rw [Array.getD_eq_getD_getElem?] at h2 ⊢
  rcases Nat.lt_or_ge i l.size with hh' | hh'
  · simp [hh'] at h2 ⊢; exact h2
  · simp [Array.getElem?_eq_none hh'] at h2

theorem Every.sound : ∀ (fuel : Nat) (listed : Array Bool) (κ : Nat → Value) (a : Act), Every P md ops Q V S fuel listed κ a → (∀ j, listed.getD j false = true → V j (κ j)) → ∀ w, S listed κ w → wpAny P md ops Q fuel listed a w
  | 0, _, _, _, h, _, w, hS => ⟨h.1, h.2 w hS⟩
  | fuel + 1, listed, κ, a, h, hV, w, hS => ⟨fun h0 => h.1 h0 w hS, fun i hi => by
      obtain ⟨o, ho, hs, hE⟩ := h.2 i hi
      refine hs.wpOp ho hi hV hS fun v w' hv hS' => Every.sound fuel _ _ _ (hE v hv) (fun j hj => ?_) w' hS'
      unfold up
      split
      · rename_i e; subst e; exact hv
      · rename_i e; exact hV j ((listed_set hj).resolve_left e)⟩

theorem Settles.of_same {i : Nat} {o : Oper} {a a' : Act} {l : Array Bool} {κ : Nat → Value} (h : Settles P md ops V S i o l κ a) (he : execOp a'.eval o = execOp a.eval o)
    (hw : Region.wanted o (yielded ops a'.tmps) = Region.wanted o (yielded ops a.tmps)) : Settles P md ops V S i o l κ a' := by
  unfold Settles at *
  rw [he, hw]
  exact h

theorem Every.first {i : Nat} {oi : Oper} (hi : ops[i]? = some oi) (hsel : ∀ (j : Nat) (o : Oper) cs b, ops[j]? = some o → o.op ≠ .select cs b) (v0 : Value) (hv0 : V i v0) :
    ∀ (fuel : Nat) (listed : Array Bool) (κ : Nat → Value) (a : Act),
      (∀ j oj, ops[j]? = some oj → j ≠ i → listed.getD j true = false → (∀ e ∈ oj.after, Region.binds md e = true → e.on ≠ i) → oi.apart ops oj = true) →
      i ∈ Region.ready md ops listed → Settles P md ops V S i oi listed κ a →
      (∀ v, V i v → Every P md ops Q V S fuel (listed.setIfInBounds i true) (up κ i v) (a.put oi.dst v)) → Every P md ops Q V S (fuel + 1) listed κ a := by
  intro fuel
  induction fuel with
  | zero =>
    intro listed κ a _ hr hy H
    refine ⟨fun h => (by rw [h] at hr; cases hr), fun j hj => ?_⟩
    by_cases hji : j = i
    · subst hji; exact ⟨oi, hi, hy, H⟩
    · have := ready_mono hj hji
      rw [(H v0 hv0).1] at this
      cases this
  | succ fuel ih =>
    intro listed κ a hfree hr hy H
    refine ⟨fun h => (by rw [h] at hr; cases hr), fun j hj => ?_⟩
    by_cases hji : j = i
    · subst hji; exact ⟨oi, hi, hy, H⟩
    · obtain ⟨oj, hoj, hsj0, hE0⟩ := (H v0 hv0).2 j (ready_mono hj hji)
      have HJ : ∀ v, V i v → Settles P md ops V S j oj (listed.setIfInBounds i true) (up κ i v) (a.put oi.dst v) ∧ ∀ u, V j u → Every P md ops Q V S fuel ((listed.setIfInBounds i true).setIfInBounds j true) (up (up κ i v) j u) ((a.put oi.dst v).put oj.dst u) := fun v hv => by
        obtain ⟨oj', hoj', hsj, hE⟩ := (H v hv).2 j (ready_mono hj hji)
        obtain rfl : oj = oj' := Option.some.inj (hoj.symm.trans hoj')
        exact ⟨hsj, hE⟩
      obtain ⟨hjun, oj', hoj', hall⟩ := mem_ready.1 hj
      obtain rfl : oj = oj' := Option.some.inj (hoj.symm.trans hoj')
      have hnot : ∀ e ∈ oj.after, Region.binds md e = true → e.on ≠ i := fun e he hb heq => by
        have h1 := hall e he hb
        rw [heq, Array.getD_eq_getD_getElem?] at h1
        have h0 := ready_not hr
        rw [Array.getD_eq_getD_getElem?] at h0
        rw [h0] at h1
        cases h1
      have hap := hfree j oj hoj hji hjun hnot
      obtain ⟨p1, p2, p3⟩ := Oper.apart_spec hap
      have hfree' : ∀ k ok, ops[k]? = some ok → k ≠ i → (listed.setIfInBounds j true).getD k true = false →
          (∀ e ∈ ok.after, Region.binds md e = true → e.on ≠ i) → oi.apart ops ok = true := fun k ok hk hki hun hno => by
        refine hfree k ok hk hki ?_ hno
        by_cases hjk : j = k
        · subst hjk; exact hjun
        · rw [getD_set_ne true hjk] at hun; exact hun
      have hex : ∀ v, execOp a.eval oj = execOp (a.put oi.dst v).eval oj := fun v => (execOp_put oj (fun cs b => hsel j oj cs b hoj) a oi.dst v p1).symm
      have hwt : ∀ v, Region.wanted oj (yielded ops a.tmps) = Region.wanted oj (yielded ops (a.put oi.dst v).tmps) := fun v => (wanted_put oj a oi.dst v p1).symm
      refine ⟨oj, hoj, ?_, fun u hu => ?_⟩
      · rcases hsj0 with ⟨hw, _⟩ | ⟨hw, hu, hv⟩
        · refine .inl ⟨(hwt v0).trans hw, fun l ρ w hrl hVl hagree hSl => ?_⟩
          have pick : ∃ v, V i v ∧ (l.getD i false = true → ρ i = v) := by
            cases hli : l.getD i false
            · exact ⟨v0, hv0, fun h => by cases h⟩
            · exact ⟨ρ i, hVl i hli, fun _ => rfl⟩
          obtain ⟨v, hv, hρ⟩ := pick
          rcases (HJ v hv).1 with ⟨_, hrun⟩ | ⟨hw', _⟩
          · rw [hex v]
            refine hrun l ρ w hrl hVl (fun j' h1 h2 => ?_) hSl
            unfold up
            split
            · rename_i e; subst e; exact hρ h2
            · rename_i e; exact hagree j' ((listed_set h1).resolve_left e) h2
          · rw [← hwt v, hwt v0, hw] at hw'
            cases hw'
        · exact .inr ⟨(hwt v0).trans hw, hu, hv⟩
      · refine ih (listed.setIfInBounds j true) (up κ j u) (a.put oj.dst u) hfree' (ready_mono hr (Ne.symm hji)) ?_ fun v hv => ?_
        · refine (show Settles P md ops V S i oi (listed.setIfInBounds j true) (up κ j u) a from ?_).of_same (execOp_put oi (fun cs b => hsel i oi cs b hi) a oj.dst u p3) (wanted_put oi a oj.dst u p3)
          rcases hy with ⟨hw, hrun⟩ | hy
          · refine .inl ⟨hw, fun l ρ w hrl hVl hagree hSl => hrun l ρ w hrl hVl (fun j' h1 h2 => ?_) hSl⟩
            have hne : j' ≠ j := fun e => by
              rw [e, ready_not hj] at h1; cases h1
            have h3 : (listed.setIfInBounds j true).getD j' false = true := by
              rw [Array.getD_eq_getD_getElem?, Array.getElem?_setIfInBounds, if_neg (fun e => hne e.symm), ← Array.getD_eq_getD_getElem?]; exact h1
            have := hagree j' h3 h2
            rw [this]; unfold up; rw [if_neg hne]
          · exact .inr hy
        · have := (HJ v hv).2 u hu
          rw [Array.setIfInBounds_comm _ _ hji, ← Act.put_comm a v u p2, up_comm κ u v hji]
          exact this

/-- The operations from the k-th on, in the order of the text. -/
def InText (P : Program) (md : Region.Mode) (ops : Array Oper) (Q : Exit → Act → World → Prop) (V : Nat → Value → Prop) (S : Array Bool → (Nat → Value) → World → Prop) (k : Nat) (rest : List Oper) (κ : Nat → Value) (a : Act) : Prop :=
  k + rest.length = ops.size → ops.toList.drop k = rest → Every P md ops Q V S rest.length (firstK ops.size k) κ a
theorem InText.nil {a : Act} {k : Nat} {κ : Nat → Value} (h : ∀ w, S (firstK ops.size ops.size) κ w → Q .normal a w) : InText P md ops Q V S k [] κ a := fun hk _ => by
  have hk' : k = ops.size := by simpa using hk
  subst hk'
  refine ⟨?_, h⟩
  unfold Region.ready
  rw [List.filter_eq_nil_iff]
  intro i hi
  have : i < ops.size := by simpa using hi
  simp [firstK, this]
theorem InText.cons {o : Oper} {rest : List Oper} {a : Act} {k : Nat} {κ : Nat → Value} (hf : textFits md ops = true) (v0 : Value) (hv0 : V k v0) (hs : Settles P md ops V S k o (firstK ops.size k) κ a) (h : ∀ v, V k v → InText P md ops Q V S (k + 1) rest (up κ k v) (a.put o.dst v)) : InText P md ops Q V S k (o :: rest) κ a := fun hk hd => by
  unfold textFits at hf
  rw [Bool.and_eq_true, List.all_eq_true] at hf
  have hlt : k < ops.size := by simp at hk; omega
  have hf2 := hf.2 k (by simpa using hlt)
  rw [Bool.and_eq_true] at hf2
  have ho : ops[k]? = some o := by
    have h0 : (ops.toList.drop k)[0]? = some o := by rw [hd]; rfl
    simpa using h0
  have hsel : ∀ (j : Nat) (o : Oper) cs b, ops[j]? = some o → o.op ≠ .select cs b := Region.noSelect_spec hf.1
  refine Every.first ho hsel v0 hv0 rest.length (firstK ops.size k) κ a (Region.free_spec ho hf2.1) (by simpa using hf2.2) hs fun v hv => ?_
  rw [firstK_succ]
  refine h v hv (by simp at hk; omega) ?_
  rw [← List.drop_drop, hd]
  rfl
theorem wp_ord {id : Nat} {a : Act} {w : World} (κ : Nat → Value) (hm : P.follows .mixedOrders = true) (hf : textFits .any ops = true) (hS : S (firstK ops.size 0) κ w.drew) (h : textFits .any ops = true → InText P .any ops Q V S 0 ops.toList κ a) : (Code.region id ops true).wp P Q a w :=
  wp_region_any hm (by
    have h0 := h hf (by simp) rfl
    have e : firstK ops.size 0 = Array.replicate ops.size false := by
      apply Array.ext
      · simp [firstK]
      · intro i h1 h2; simp [firstK]
    rw [e] at h0 hS
    simpa using Every.sound _ _ _ _ h0 (fun j hj => by
      rw [Array.getD_eq_getD_getElem?, Array.getElem?_replicate] at hj
      split at hj <;> simp at hj) _ hS)
end

/-! ### one behind the other -/
section
variable {P : Program} {ops : Array Oper} {Q : Exit → Act → World → Prop} {md : Region.Mode} {C : World → Prop} {A : List Value → World → Prop} {ps : List Nat} {vs : List (Value → Prop)}

/-- The kinds of the values. -/
def VS (vs : List (Value → Prop)) (k : Nat) (v : Value) : Prop := ∃ p, vs[k]? = some p ∧ p v
def Chain (md : Region.Mode) (ops : Array Oper) (ps : List Nat) (C : World → Prop) (A : List Value → World → Prop) (l : Array Bool) (ρ : Nat → Value) (w : World) : Prop :=
  Closed md ops l ∧ l.size = ops.size ∧ C w ∧ ∃ j, j ≤ ps.length ∧ (∀ i p, ps[i]? = some p → p < ops.size ∧ l.getD p false = decide (i < j)) ∧ A ((ps.take j).map ρ) w

theorem map_up {ps : List Nat} {ρ : Nat → Value} {k : Nat} {v : Value} (h : k ∉ ps) : ps.map (up ρ k v) = ps.map ρ :=
  List.map_congr_left fun x hx => by
    have hne : x ≠ k := fun e => h (by rw [← e]; exact hx)
    unfold up; rw [if_neg hne]
theorem chain_start {w : World} {ρ : Nat → Value} (hlt : ∀ p ∈ ps, p < ops.size) (hC : C w) (hA : A [] w) : Chain md ops ps C A (firstK ops.size 0) ρ w := by
  refine ⟨fun i o ho hl => ?_, by simp [firstK], hC, 0, Nat.zero_le _, fun i p hp => ?_, by simpa using hA⟩
  · have hi : i < ops.size := (Array.getElem?_eq_some_iff.1 ho).1
    rw [firstK_get _ _ _ hi] at hl
    simp at hl
  · have h := hlt p (List.mem_of_getElem? hp)
    exact ⟨h, by rw [firstK_get _ _ _ h]; simp⟩
theorem chain_end {w : World} {ρ : Nat → Value} (h : Chain md ops ps C A (firstK ops.size ops.size) ρ w) : C w ∧ A (ps.map ρ) w := by
  obtain ⟨_, _, hC, j, hj, hl, hA⟩ := h
  refine ⟨hC, ?_⟩
  rcases Nat.lt_or_ge j ps.length with hlt | hge
  · exfalso
    have h1 := hl j ps[j] (by simp [hlt])
    rw [firstK_get _ _ _ h1.1] at h1
    simp at h1
    omega
  · rwa [List.take_of_length_le hge] at hA
theorem chain_set {l : Array Bool} {ρ : Nat → Value} {k : Nat} {v : Value} {w w' : World} (hk : k ∉ ps) (hr : k ∈ Region.ready md ops l) (h : Chain md ops ps C A l ρ w) (hC : C w') (hA : ∀ vs, A vs w → A vs w') : Chain md ops ps C A (l.setIfInBounds k true) (up ρ k v) w' := by
  obtain ⟨hc, hs, _, j, hj, hl, hA0⟩ := h
  refine ⟨hc.set hr, by simpa using hs, hC, j, hj, fun i p hp => ?_, by rw [map_up (fun e => hk (List.mem_of_mem_take e))]; exact hA _ hA0⟩
  have hne : k ≠ p := fun e => hk (e ▸ List.mem_of_getElem? hp)
  rw [Array.getD_eq_getD_getElem?, Array.getElem?_setIfInBounds, if_neg hne, ← Array.getD_eq_getD_getElem?]
  exact hl i p hp

/-- The text from the k-th operation on, where the first of the chain have come to κs. -/
def In (P : Program) (md : Region.Mode) (ops : Array Oper) (Q : Exit → Act → World → Prop) (vs : List (Value → Prop)) (ps : List Nat) (C : World → Prop) (A : List Value → World → Prop) (k : Nat) (rest : List Oper) (κs : List Value) (a : Act) : Prop :=
  ∀ κ : Nat → Value, (ps.take κs.length).map κ = κs → InText P md ops Q (VS vs) (Chain md ops ps C A) k rest κ a

theorem wp_chain (vs : List (Value → Prop)) (ps : List Nat) (C : World → Prop) (A : List Value → World → Prop) {id : Nat} {a : Act} {w : World} (hm : P.follows .mixedOrders = true) (hf : textFits .any ops = true) (hlt : (ps.all fun p => decide (p < ops.size)) = true) (hC : C w.drew) (hA : A [] w.drew)
    (h : textFits .any ops = true → In P .any ops Q vs ps C A 0 ops.toList [] a) : (Code.region id ops true).wp P Q a w :=
  wp_ord (fun _ => undef) hm hf (chain_start (fun p hp => by simpa using List.all_eq_true.1 hlt p hp) hC hA) fun hT => h hT _ rfl

theorem in_value {k : Nat} {o : Oper} {rest : List Oper} {a : Act} {v : Value} {κs : List Value} (hf : textFits md ops = true) (hk : k ∉ ps) (hvs : vs[k]? = some fun u => u = v) (hw : Region.wanted o (yielded ops a.tmps) = true) (hv : ∀ w, C w → (execOp a.eval o).run P w = .ok (.value v) w)
    (h : In P md ops Q vs ps C A (k + 1) rest κs (a.put o.dst v)) : In P md ops Q vs ps C A k (o :: rest) κs a := fun κ hκ =>
  InText.cons hf v ⟨_, hvs, rfl⟩ (Or.inl ⟨hw, fun l ρ w hr _ _ hS => by rw [hv w hS.2.2.1]; exact ⟨⟨_, hvs, rfl⟩, chain_set hk hr hS hS.2.2.1 fun _ h => h⟩⟩)
    fun u ⟨p, hp, hu⟩ => by
      rw [hvs] at hp
      cases hp
      rw [hu]
      exact h _ (by rw [map_up (fun e => hk (List.mem_of_mem_take e))]; exact hκ)
theorem in_off {k : Nat} {o : Oper} {rest : List Oper} {a : Act} {κs : List Value} (hf : textFits md ops = true) (hk : k ∉ ps) (hvs : vs[k]? = some fun u => u = undef) (hw : Region.wanted o (yielded ops a.tmps) = false)
    (h : In P md ops Q vs ps C A (k + 1) rest κs (a.put o.dst undef)) : In P md ops Q vs ps C A k (o :: rest) κs a := fun κ hκ =>
  InText.cons hf undef ⟨_, hvs, rfl⟩ (Or.inr ⟨hw, ⟨_, hvs, rfl⟩, fun l ρ w hr hS => chain_set hk hr hS hS.2.2.1 fun _ h => h⟩)
    fun u ⟨p, hp, hu⟩ => by
      rw [hvs] at hp
      cases hp
      rw [hu]
      exact h _ (by rw [map_up (fun e => hk (List.mem_of_mem_take e))]; exact hκ)
/-- The next of the chain. -/
theorem in_turn {k : Nat} {o : Oper} {rest : List Oper} {a : Act} {κs : List Value} (p : Value → Prop) (v0 : Value) (hv0 : p v0) (hf : textFits md ops = true) (hk : ps[κs.length]? = some k) (hnd : ps.Nodup) (hris : (ps.take κs.length).all (fun q => decide (q < k)) = true) (hvs : vs[k]? = some p)
    (hh : κs.length = 0 ∨ ∃ q b path, ps[κs.length - 1]? = some q ∧ hangs md ops k b = true ∧ hangsPath md ops (b :: path) = true ∧ (b :: path).getLast? = some q) (hw : Region.wanted o (yielded ops a.tmps) = true)
    (hv : ∀ w, C w → A κs w → Lands P (fun v w' => p v ∧ C w' ∧ A (κs ++ [v]) w') ((execOp a.eval o).run P w))
    (h : ∀ v, p v → In P md ops Q vs ps C A (k + 1) rest (κs ++ [v]) (a.put o.dst v)) : In P md ops Q vs ps C A k (o :: rest) κs a := fun κ hκ => by
  have hjl : κs.length < ps.length := (List.getElem?_eq_some_iff.1 hk).1
  have hjk : ps[κs.length] = k := (List.getElem?_eq_some_iff.1 hk).2
  have hkn : k ∉ ps.take κs.length := fun e => by
    have := List.all_eq_true.1 hris k e
    simp at this
  refine InText.cons hf v0 ⟨p, hvs, hv0⟩ (Or.inl ⟨hw, fun l ρ w hr hVl hagree hS => ?_⟩) fun v ⟨p', hp', hpv⟩ => ?_
  · obtain ⟨hc, hs, hC, j', hj', hl, hA⟩ := hS
    have h1 := hl κs.length k hk
    have e2 : l.getD k false = false := ready_not hr
    have h3 : ¬ κs.length < j' := by rw [h1.2] at e2; simpa using e2
    have h4 : κs.length = j' := by
      rcases hh with h0 | ⟨q, b, path, hq, hg, hpath, hlast⟩
      · omega
      · have := late hc hr hg hpath hlast hq hl
        omega
    subst h4
    have hm : (ps.take κs.length).map ρ = κs := by
      rw [← hκ]
      have hlen : ((ps.take κs.length).map κ).length = κs.length := by rw [hκ]
      rw [hlen]
      refine List.map_congr_left fun q hq => ?_
      obtain ⟨i, hi, he⟩ := List.getElem_of_mem hq
      have hi' : i < κs.length := by simp at hi; omega
      have hiq : ps[i]? = some q := by rw [← he, List.getElem_take]; simp
      have hqk : q < k := by simpa using List.all_eq_true.1 hris q hq
      refine hagree q ?_ ?_
      · rw [firstK_get _ _ _ (by have := h1.1; omega)]; simpa using hqk
      · rw [(hl i q hiq).2]; simpa using hi'
    rw [hm] at hA
    refine (hv w hC hA).mono fun v w' ⟨hp, hC', hA'⟩ => ⟨⟨p, hvs, hp⟩, hc.set hr, by simpa using hs, hC', κs.length + 1, by omega, fun i q hq => ?_, ?_⟩
    · refine ⟨(hl i q hq).1, ?_⟩
      by_cases hik : q = k
      · subst hik
        have : i = κs.length := (List.getElem?_inj (List.getElem?_eq_some_iff.1 hq).1 hnd).1 (hq.trans hk.symm)
        subst this
        have hp' : q < l.size := by rw [hs]; exact h1.1
        rw [Array.getD_eq_getD_getElem?, Array.getElem?_setIfInBounds, if_pos rfl]
        simp [hp']
      · rw [Array.getD_eq_getD_getElem?, Array.getElem?_setIfInBounds, if_neg (fun e => hik e.symm), ← Array.getD_eq_getD_getElem?, (hl i q hq).2]
        have hne : i ≠ κs.length := fun e => hik (by subst e; exact Option.some.inj (hq.symm.trans hk))
        congr 1
        apply propext
        omega
    · rw [List.take_succ_eq_append_getElem hjl, hjk, List.map_append, map_up hkn, hm]
      simpa [up] using hA'
  · rw [hvs] at hp'
    cases hp'
    refine h v hpv _ ?_
    rw [List.length_append, List.length_singleton, List.take_succ_eq_append_getElem hjl, hjk, List.map_append, map_up hkn, hκ]
    simp [up]
/-- The station that is reached, told by what has been come to so far. -/
def Stage (L : List Value → List (World → Prop)) (κs : List Value) (w : World) : Prop := ∃ T, (L κs)[κs.length]? = some T ∧ T w
theorem in_nil {a : Act} {k : Nat} {κs : List Value} (hlen : κs.length = ps.length) (h : ∀ w, C w → A κs w → Q .normal a w) : In P md ops Q vs ps C A k [] κs a := fun κ hκ =>
  InText.nil fun w hS => by
    obtain ⟨hC, hA⟩ := chain_end hS
    rw [hlen, List.take_length] at hκ
    rw [hκ] at hA
    exact h w hC hA
end
end Go.Proofs.Ytlefhcaoblenaaa.Ord3
