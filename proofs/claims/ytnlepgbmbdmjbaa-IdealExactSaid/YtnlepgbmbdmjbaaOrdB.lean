/- A drawn region in whose course the world turns, once more: what is listed is closed under what it hangs on, so that a read which a turning operation hangs on is met before that turn. -/
import Derived.Test.YtnlepgbmbdmjbaaOrd
namespace Go.Proofs.Ytnlepgbmbdmjbaa.Ord
open Go
set_option maxRecDepth 100000

section
variable {P : Program} {ops : Array Oper} {Q : Exit → Act → World → Prop} {md : Region.Mode} {C : World → Prop} {A : Nat → World → Prop} {ps : List Nat}

def Closed (md : Region.Mode) (ops : Array Oper) (l : Array Bool) : Prop :=
  ∀ i o, ops[i]? = some o → l.getD i false = true → ∀ e ∈ o.after, Region.binds md e = true → l.getD e.on false = true
theorem Closed.set {l : Array Bool} {k : Nat} (h : Closed md ops l) (hr : k ∈ Region.ready md ops l) : Closed md ops (l.setIfInBounds k true) := by
  intro i o ho hl e he hb
  have grow : ∀ j, l.getD j false = true → (l.setIfInBounds k true).getD j false = true := fun j hj => by
    rw [Array.getD_eq_getD_getElem?] at hj ⊢
    rw [Array.getElem?_setIfInBounds]
    split
    · rename_i e; subst e
      split
      · rfl
      · rename_i hn; rw [Array.getElem?_eq_none (by omega)] at hj; simp at hj
    · exact hj
  by_cases hik : i = k
  · subst hik
    obtain ⟨_, o', ho', hall⟩ := mem_ready.1 hr
    obtain rfl : o = o' := Option.some.inj (ho.symm.trans ho')
    exact grow _ (hall e he hb)
  · refine grow _ (h i o ho ?_ e he hb)
    rw [Array.getD_eq_getD_getElem?] at hl ⊢
    rwa [Array.getElem?_setIfInBounds, if_neg (fun e => hik e.symm)] at hl
/-- As Chain, and what is listed is closed. -/
def Chain2 (md : Region.Mode) (ops : Array Oper) (ps : List Nat) (C : World → Prop) (A : Nat → World → Prop) (l : Array Bool) (w : World) : Prop := Closed md ops l ∧ Chain ops.size ps C A l w
theorem Settles.closed {S : Array Bool → World → Prop} {i : Nat} {o : Oper} {v : Value} {a : Act} (h : Settles P md ops S i o v a) : Settles P md ops (fun l w => Closed md ops l ∧ S l w) i o v a := by
  rcases h with ⟨h1, h2⟩ | ⟨h1, h2, h3⟩
  · exact .inl ⟨h1, fun l w hr hS => (h2 l w hr hS.2).mono fun w' hw' => ⟨hS.1.set hr, hw'⟩⟩
  · exact .inr ⟨h1, h2, fun l w hr hS => ⟨hS.1.set hr, h3 l w hr hS.2⟩⟩
theorem chain2_end {w : World} (h : Chain2 md ops ps C A (firstK ops.size ops.size) w) : C w ∧ A ps.length w := chain_end h.2
theorem wp_chain2 (ps : List Nat) (C : World → Prop) (A : Nat → World → Prop) {id : Nat} {a : Act} {w : World} (hm : P.follows .mixedOrders = true) (hf : textFits .any ops = true) (hlt : (ps.all fun p => decide (p < ops.size)) = true) (hC : C w.drew) (hA : A 0 w.drew)
    (h : textFits .any ops = true → InText P .any ops Q (Chain2 .any ops ps C A) 0 ops.toList a) : (Code.region id ops true).wp P Q a w :=
  wp_ord hm hf ⟨fun i o ho hl => (by
    have hi : i < ops.size := (Array.getElem?_eq_some_iff.1 ho).1
    rw [firstK_get _ _ _ hi] at hl
    simp at hl), chain_start (fun p hp => by simpa using List.all_eq_true.1 hlt p hp) hC hA⟩ h

theorem ch2_value {k : Nat} {o : Oper} {rest : List Oper} {a : Act} {v : Value} (hf : textFits md ops = true) (hk : k ∉ ps) (hw : Region.wanted o (yielded ops a.tmps) = true) (hv : ∀ w, C w → (execOp a.eval o).run P w = .ok (.value v) w)
    (h : InText P md ops Q (Chain2 md ops ps C A) (k + 1) rest (a.put o.dst v)) : InText P md ops Q (Chain2 md ops ps C A) k (o :: rest) a :=
  InText.cons hf (Settles.closed (Or.inl ⟨hw, fun l w _ hS => by rw [hv w hS.2.1]; exact ⟨rfl, chain_set hk hS hS.2.1 fun _ h => h⟩⟩)) h
/-- A read which the m-th turn hangs on. -/
theorem ch2_early (m : Nat) {p : Nat} {k : Nat} {o : Oper} {rest : List Oper} {a : Act} {v : Value} (hf : textFits md ops = true) (hk : k ∉ ps) (hp : ps[m]? = some p) (hh : hangs md ops p k = true) (hkn : k < ops.size) (hw : Region.wanted o (yielded ops a.tmps) = true)
    (hv : ∀ w j, j ≤ m → C w → A j w → (execOp a.eval o).run P w = .ok (.value v) w)
    (h : InText P md ops Q (Chain2 md ops ps C A) (k + 1) rest (a.put o.dst v)) : InText P md ops Q (Chain2 md ops ps C A) k (o :: rest) a :=
  InText.cons hf (Or.inl ⟨hw, fun l w hr hS => by
    obtain ⟨hc, hS⟩ := hS
    have hS' := hS
    obtain ⟨hs, hC, j, hj, hl, hA⟩ := hS
    have hjm : j ≤ m := by
      rcases Nat.lt_or_ge m j with hlt | hge
      · exfalso
        have h1 := hl m p hp
        have h2 : l.getD p false = true := by rw [h1.2]; simpa using hlt
        have h0 : l.getD k true = false := (mem_ready.1 hr).1
        unfold hangs at hh
        have hpo : ∃ o', ops[p]? = some o' := ⟨_, Array.getElem?_eq_getElem h1.1⟩
        obtain ⟨o', ho'⟩ := hpo
        rw [ho'] at hh
        obtain ⟨e, he, h3⟩ := Array.any_eq_true'.1 hh
        rw [Bool.and_eq_true] at h3
        have h4 := hc p o' ho' h2 e he h3.1
        rw [show e.on = k by simpa using h3.2] at h4
        rw [Array.getD_eq_getD_getElem?] at h4 h0
        have hkl : k < l.size := by rw [hs]; exact hkn
        simp [hkl] at h4 h0
        rw [h0] at h4
        cases h4
      · exact hge
    rw [hv w j hjm hC hA]
    exact ⟨rfl, hc.set hr, chain_set hk hS' hC fun _ h => h⟩⟩) h
theorem chain_settles (j : Nat) {k : Nat} {o : Oper} {a : Act} {v : Value} (hk : ps[j]? = some k) (hnd : ps.Nodup) (hh : j = 0 ∨ ∃ p, ps[j - 1]? = some p ∧ hangs md ops k p = true) (hw : Region.wanted o (yielded ops a.tmps) = true)
    (hv : ∀ w, C w → A j w → LandsIn P (fun w' => C w' ∧ A (j + 1) w') v ((execOp a.eval o).run P w)) : Settles P md ops (Chain ops.size ps C A) k o v a :=
  Or.inl ⟨hw, fun l w hr hS => by
    obtain ⟨hs, hC, j', hj', hl, hA⟩ := hS
    have hjl : j < ps.length := (List.getElem?_eq_some_iff.1 hk).1
    have h1 := hl j k hk
    have h2 : l.getD k true = false := (mem_ready.1 hr).1
    have e2 : l.getD k false = false := by
      rw [Array.getD_eq_getD_getElem?] at h2 ⊢
      rcases Nat.lt_or_ge k l.size with hh' | hh'
      · simp [hh'] at h2 ⊢; exact h2
      · simp [Array.getElem?_eq_none hh'] at h2
    have h3 : ¬ j < j' := by rw [h1.2] at e2; simpa using e2
    have h4 : j = j' := by
      rcases hh with rfl | ⟨p, hp, hg⟩
      · omega
      · rcases Nat.eq_zero_or_pos j with rfl | hj
        · omega
        · have h5 := hl (j - 1) p hp
          have h6 := hangs_listed hg hr
          rw [h5.2] at h6
          have : j - 1 < j' := by simpa using h6
          omega
    subst h4
    refine (hv w hC hA).mono fun w' hw' => ⟨by simpa using hs, hw'.1, j + 1, by omega, fun i p hp => ?_, hw'.2⟩
    refine ⟨(hl i p hp).1, ?_⟩
    by_cases hik : p = k
    · subst hik
      have : i = j := (List.getElem?_inj (List.getElem?_eq_some_iff.1 hp).1 hnd).1 (hp.trans hk.symm)
      subst this
      have hp' : p < l.size := by rw [hs]; exact h1.1
      rw [Array.getD_eq_getD_getElem?, Array.getElem?_setIfInBounds, if_pos rfl]
      simp [hp']
    · rw [Array.getD_eq_getD_getElem?, Array.getElem?_setIfInBounds, if_neg (fun e => hik e.symm), ← Array.getD_eq_getD_getElem?, (hl i p hp).2]
      have hne : i ≠ j := fun e => hik (by subst e; exact Option.some.inj (hp.symm.trans hk))
      congr 1
      apply propext
      omega⟩
theorem ch2_turn (j : Nat) {k : Nat} {o : Oper} {rest : List Oper} {a : Act} {v : Value} (hf : textFits md ops = true) (hk : ps[j]? = some k) (hnd : ps.Nodup) (hh : j = 0 ∨ ∃ p, ps[j - 1]? = some p ∧ hangs md ops k p = true) (hw : Region.wanted o (yielded ops a.tmps) = true)
    (hv : ∀ w, C w → A j w → LandsIn P (fun w' => C w' ∧ A (j + 1) w') v ((execOp a.eval o).run P w))
    (h : InText P md ops Q (Chain2 md ops ps C A) (k + 1) rest (a.put o.dst v)) : InText P md ops Q (Chain2 md ops ps C A) k (o :: rest) a :=
  InText.cons hf (Settles.closed (chain_settles j hk hnd hh hw hv)) h
/-- A path along which each hangs on the next. -/
def hangsPath (md : Region.Mode) (ops : Array Oper) : List Nat → Bool
  | a :: b :: rest => hangs md ops a b && hangsPath md ops (b :: rest)
  | _ => true
theorem Closed.step {l : Array Bool} (hc : Closed md ops l) {a b : Nat} (h : hangs md ops a b = true) (ha : l.getD a false = true) : l.getD b false = true := by
  unfold hangs at h
  rcases ho : ops[a]? with _ | o
  · rw [ho] at h; cases h
  · rw [ho] at h
    obtain ⟨e, he, h3⟩ := Array.any_eq_true'.1 h
    rw [Bool.and_eq_true] at h3
    have h4 := hc a o ho ha e he h3.1
    rwa [show e.on = b by simpa using h3.2] at h4
theorem Closed.path {l : Array Bool} (hc : Closed md ops l) : ∀ (path : List Nat) (a : Nat), hangsPath md ops (a :: path) = true → l.getD a false = true → ∀ p, (a :: path).getLast? = some p → l.getD p false = true
  | [], a, _, ha, p, hp => by simp at hp; rwa [← hp]
  | b :: rest, a, h, ha, p, hp => by
    simp only [hangsPath, Bool.and_eq_true] at h
    refine Closed.path hc rest b h.2 (hc.step h.1 ha) p ?_
    rwa [List.getLast?_cons_cons] at hp
theorem late {n : Nat} {l : Array Bool} {k b p m : Nat} {path : List Nat} {j : Nat} (hc : Closed md ops l) (hr : k ∈ Region.ready md ops l) (hb : hangs md ops k b = true) (hpath : hangsPath md ops (b :: path) = true) (hlast : (b :: path).getLast? = some p) (hp : ps[m]? = some p)
    (hl : ∀ i p, ps[i]? = some p → p < n ∧ l.getD p false = decide (i < j)) : m < j := by
  have h1 := hc.path path b hpath (hangs_listed hb hr) p hlast
  rw [(hl m p hp).2] at h1
  simpa using h1
/-- A read that hangs, by way of others, on the m-th turn. -/
theorem ch2_late (m : Nat) (b : Nat) (path : List Nat) {p : Nat} {k : Nat} {o : Oper} {rest : List Oper} {a : Act} {v : Value} (hf : textFits md ops = true) (hk : k ∉ ps) (hb : hangs md ops k b = true) (hpath : hangsPath md ops (b :: path) = true) (hlast : (b :: path).getLast? = some p) (hp : ps[m]? = some p)
    (hw : Region.wanted o (yielded ops a.tmps) = true) (hv : ∀ w j, m < j → j ≤ ps.length → C w → A j w → (execOp a.eval o).run P w = .ok (.value v) w)
    (h : InText P md ops Q (Chain2 md ops ps C A) (k + 1) rest (a.put o.dst v)) : InText P md ops Q (Chain2 md ops ps C A) k (o :: rest) a :=
  InText.cons hf (Or.inl ⟨hw, fun l w hr hS => by
    obtain ⟨hc, hS⟩ := hS
    have hS' := hS
    obtain ⟨hs, hC, j, hj, hl, hA⟩ := hS
    rw [hv w j (late hc hr hb hpath hlast hp hl) hj hC hA]
    exact ⟨rfl, hc.set hr, chain_set hk hS' hC fun _ h => h⟩⟩) h
theorem ch2_off {k : Nat} {o : Oper} {rest : List Oper} {a : Act} (hf : textFits md ops = true) (hk : k ∉ ps) (hw : Region.wanted o (yielded ops a.tmps) = false)
    (h : InText P md ops Q (Chain2 md ops ps C A) (k + 1) rest (a.put o.dst undef)) : InText P md ops Q (Chain2 md ops ps C A) k (o :: rest) a :=
  InText.cons hf (Settles.closed (Or.inr ⟨hw, rfl, fun l w _ hS => chain_set hk hS hS.2.1 fun _ h => h⟩)) h
/-- A call that leaves all as it is, and hangs, by way of others, on the m-th turn. -/
theorem ch2_late_call (m : Nat) (b : Nat) (path : List Nat) {p : Nat} {k : Nat} {o : Oper} {rest : List Oper} {a : Act} {v : Value} (hf : textFits md ops = true) (hk : k ∉ ps) (hb : hangs md ops k b = true) (hpath : hangsPath md ops (b :: path) = true) (hlast : (b :: path).getLast? = some p) (hp : ps[m]? = some p)
    (hw : Region.wanted o (yielded ops a.tmps) = true)
    (hv : ∀ w j, m < j → j ≤ ps.length → C w → A j w → LandsIn P (fun w' => C w' ∧ A j w') v ((execOp a.eval o).run P w))
    (h : InText P md ops Q (Chain2 md ops ps C A) (k + 1) rest (a.put o.dst v)) : InText P md ops Q (Chain2 md ops ps C A) k (o :: rest) a :=
  InText.cons hf (Or.inl ⟨hw, fun l w hr hS => by
    obtain ⟨hc, hS⟩ := hS
    obtain ⟨hs, hC, j, hj, hl, hA⟩ := hS
    refine (hv w j (late hc hr hb hpath hlast hp hl) hj hC hA).mono fun w' hw' => ⟨hc.set hr, by simpa using hs, hw'.1, j, hj, fun i p hp => ⟨(hl i p hp).1, ?_⟩, hw'.2⟩
    have hne : k ≠ p := fun e => hk (e ▸ List.mem_of_getElem? hp)
    rw [Array.getD_eq_getD_getElem?, Array.getElem?_setIfInBounds, if_neg hne, ← Array.getD_eq_getD_getElem?]
    exact (hl i p hp).2⟩) h
end
end Go.Proofs.Ytnlepgbmbdmjbaa.Ord
