/- Of any row of pairs that a state can be of, and any two ops of unlike keys: where neither is refused, they may be done in either order: the answers, and the state then, are the same. -/
import Derived.Test.YtdeohigggjfjjaaE3
import Derived.Test.YtdeohigggjfjjaaChecked
import Derived.WalkKit
import Derived.ProofKit
import Derived.OpenShut
import Derived.Deep.SlicePairs
import Derived.Test.YtdeohigggjfjjaaRows

/- Rows of pairs that came in. -/
namespace Go.Proofs.Ytdeohigggjfjjaa
open Go.RowKit Go.Maps Go.Deep
set_option maxRecDepth 100000

def OkP (p : Int × Int) : Prop := InU p.1 ∧ InU p.2
theorem flatPair : flatT Try.prog 6 26 = some [.num .u64, .num .u64] := by kernel_rfl
theorem cellsPair : Try.prog.cellsOf 26 = 2 := by kernel_rfl
theorem open_Pairs {H : Type} {en : TypeId × Value → H} {W : World} {A : Option Addr} {len cap : Nat} {d : DataW H} {p : List MemPlace}
    (h : DataW.Trod en Try.prog W 0 (fun _ => true) true 46 (.slice A len cap) d p) (hlt : ∀ x ∈ p, x.block < W.heap.size) :
    ∃ xs : List (Int × Int), xs.length = len ∧ len ≤ maxLen ∧ (∀ r ∈ xs, OkP r) ∧ RowX encP 2 W A xs := by
  refine open_rowX (show Try.prog.underlying 46 = some (.slice 26) by kernel_rfl) flatPair cellsPair (by simp) (fun w b o hall => ?_) h hlt
  obtain ⟨_, c0, x0, rfl, w0⟩ := hall 0 _ rfl
  obtain ⟨_, c1, x1, rfl, w1⟩ := hall 1 _ rfl
  refine ⟨⟨x0, x1⟩, fun j v e => ?_, wf_u.1 w0, wf_u.1 w1⟩
  match j with
  | 0 => simp [encP] at e; subst e; exact c0
  | 1 => simp [encP] at e; subst e; exact c1
  | j + 2 => simp [encP] at e
end Go.Proofs.Ytdeohigggjfjjaa

/- States by their members: with a pair, without one; ops of unlike keys. -/
namespace Go.Proofs.Ytdeohigggjfjjaa
open Go.RowKit
set_option maxRecDepth 100000

abbrev Up (l : List (Int × Int)) : Prop := l.Pairwise fun a b => a.1 < b.1
theorem cut_of {l : List (Int × Int)} (h : Up l) (k : Int) : ∃ a b, l = a ++ b ∧ (∀ p ∈ a, p.1 < k) ∧ (∀ p ∈ b, k ≤ p.1) ∧ cnt l k = a.length := by
  induction l with
  | nil => exact ⟨[], [], rfl, by simp, by simp, rfl⟩
  | cons p l ih =>
    by_cases hp : p.1 < k
    · obtain ⟨a, b, e, h1, h2, h3⟩ := ih (List.pairwise_cons.1 h).2
      refine ⟨p :: a, b, by rw [e]; rfl, fun q hq => ?_, h2, ?_⟩
      · rcases List.mem_cons.1 hq with rfl | hq
        · exact hp
        · exact h1 q hq
      · unfold cnt at *
        rw [List.countP_cons_of_pos (by simpa using hp), h3]
        rfl
    · refine ⟨[], p :: l, rfl, by simp, fun q hq => ?_, ?_⟩
      · rcases List.mem_cons.1 hq with rfl | hq
        · omega
        · have := (List.pairwise_cons.1 h).1 q hq; omega
      · unfold cnt
        rw [List.countP_eq_zero.2]
        · rfl
        · intro q hq
          simp only [decide_eq_true_eq]
          rcases List.mem_cons.1 hq with rfl | hq
          · exact hp
          · have := (List.pairwise_cons.1 h).1 q hq; omega
theorem form {l : List (Int × Int)} (h : Up l) (k : Int) :
    (∃ a v b, l = a ++ (k, v) :: b ∧ (∀ p ∈ a, p.1 < k) ∧ (∀ p ∈ b, k < p.1) ∧ hasK l k = true ∧ getK l k = v ∧ (∀ x, insK l k x = a ++ (k, x) :: b) ∧ delK l k = a ++ b) ∨
    (∃ a b, l = a ++ b ∧ (∀ p ∈ a, p.1 < k) ∧ (∀ p ∈ b, k < p.1) ∧ hasK l k = false ∧ getK l k = 0 ∧ (∀ x, insK l k x = a ++ (k, x) :: b) ∧ delK l k = l) := by
  obtain ⟨a, b, e, h1, h2, h3⟩ := cut_of h k
  have ht : l.take (cnt l k) = a := by rw [h3, e]; simp
  have hd : l.drop (cnt l k) = b := by rw [h3, e]; simp
  have no : (hasK l k = false) → (∀ p ∈ b, k < p.1) → ∃ a b, l = a ++ b ∧ (∀ p ∈ a, p.1 < k) ∧ (∀ p ∈ b, k < p.1) ∧ hasK l k = false ∧ getK l k = 0 ∧ (∀ x, insK l k x = a ++ (k, x) :: b) ∧ delK l k = l := fun hh hb =>
    ⟨a, b, e, h1, hb, hh, by unfold getK; rw [hh]; rfl, fun x => by unfold insK; rw [hh, ht, hd]; rfl, by unfold delK; rw [hh]; rfl⟩
  cases b with
  | nil =>
    refine .inr (no ?_ (by simp))
    unfold hasK
    rw [h3, e]
    simp
  | cons q b =>
    have hg : l.getD (cnt l k) (0, 0) = q := by rw [h3, e]; simp [List.getD_eq_getElem?_getD]
    have hl : cnt l k < l.length := by rw [h3, e]; simp
    by_cases hq : q.1 = k
    · have hh : hasK l k = true := by unfold hasK; rw [hg]; simp [hl, hq]
      obtain ⟨q1, q2⟩ := q
      simp only at hq
      subst hq
      refine .inl ⟨a, q2, b, e, h1, fun p hp => ?_, hh, by unfold getK; rw [hh, if_pos rfl, hg], fun x => ?_, ?_⟩
      · rw [e] at h
        exact (List.pairwise_cons.1 (List.pairwise_append.1 h).2.1).1 p hp
      · unfold insK; rw [hh, if_pos rfl, h3]; conv => lhs; rw [e]
        simp
      · unfold delK; rw [hh, if_pos rfl, h3, e]; simp
    · have hh : hasK l k = false := by unfold hasK; rw [hg]; simp [hq]
      refine .inr (no hh fun p hp => ?_)
      have := h2 q (List.mem_cons_self ..)
      rcases List.mem_cons.1 hp with rfl | hp
      · omega
      · rw [e] at h
        have := (List.pairwise_cons.1 (List.pairwise_append.1 h).2.1).1 p hp
        omega
theorem up_join {a b : List (Int × Int)} {k : Int} (ha : Up a) (hb : Up b) (h1 : ∀ p ∈ a, p.1 < k) (h2 : ∀ p ∈ b, k < p.1) (x : Int) : Up (a ++ (k, x) :: b) :=
  List.pairwise_append.2 ⟨ha, List.pairwise_cons.2 ⟨fun p hp => h2 p hp, hb⟩, fun p hp q hq => by
    have := h1 p hp
    rcases List.mem_cons.1 hq with rfl | hq
    · exact this
    · have := h2 q hq; omega⟩
theorem ins_up {l : List (Int × Int)} (h : Up l) (k x : Int) : Up (insK l k x) := by
  rcases form h k with ⟨a, v, b, e, h1, h2, -, -, h3, -⟩ | ⟨a, b, e, h1, h2, -, -, h3, -⟩
  · rw [e] at h
    rw [h3]
    have := List.pairwise_append.1 h
    exact up_join this.1 (List.pairwise_cons.1 this.2.1).2 h1 h2 x
  · rw [e] at h
    rw [h3]
    have := List.pairwise_append.1 h
    exact up_join this.1 this.2.1 h1 h2 x
theorem del_up {l : List (Int × Int)} (h : Up l) (k : Int) : Up (delK l k) := by
  rcases form h k with ⟨a, v, b, e, h1, h2, -, -, -, h3⟩ | ⟨a, b, e, h1, h2, -, -, -, h3⟩
  · rw [e] at h
    rw [h3]
    have := List.pairwise_append.1 h
    exact List.pairwise_append.2 ⟨this.1, (List.pairwise_cons.1 this.2.1).2, fun p hp q hq => by have := h1 p hp; have := h2 q hq; omega⟩
  · rw [h3]; exact h
theorem mem_ins {l : List (Int × Int)} (h : Up l) (k x : Int) (p : Int × Int) : p ∈ insK l k x ↔ p = (k, x) ∨ (p ∈ l ∧ p.1 ≠ k) := by
  rcases form h k with ⟨a, v, b, e, h1, h2, -, -, h3, -⟩ | ⟨a, b, e, h1, h2, -, -, h3, -⟩
  all_goals
    have q1 : p ∈ a → p.1 ≠ k := fun hp => by have := h1 p hp; omega
    have q2 : p ∈ b → p.1 ≠ k := fun hp => by have := h2 p hp; omega
    rw [h3, e]
    simp only [List.mem_append, List.mem_cons]
    constructor
    · rintro (hp | hp | hp)
      · exact .inr ⟨.inl hp, q1 hp⟩
      · exact .inl hp
      · first | exact .inr ⟨.inr (.inr hp), q2 hp⟩ | exact .inr ⟨.inr hp, q2 hp⟩
    · rintro (hp | ⟨hp, hk⟩)
      · exact .inr (.inl hp)
      · first
          | (rcases hp with hp | hp | hp
             · exact .inl hp
             · rw [hp] at hk; exact absurd rfl hk
             · exact .inr (.inr hp))
          | (rcases hp with hp | hp
             · exact .inl hp
             · exact .inr (.inr hp))
theorem mem_del {l : List (Int × Int)} (h : Up l) (k : Int) (p : Int × Int) : p ∈ delK l k ↔ p ∈ l ∧ p.1 ≠ k := by
  rcases form h k with ⟨a, v, b, e, h1, h2, -, -, -, h3⟩ | ⟨a, b, e, h1, h2, -, -, -, h3⟩
  · have q1 : p ∈ a → p.1 ≠ k := fun hp => by have := h1 p hp; omega
    have q2 : p ∈ b → p.1 ≠ k := fun hp => by have := h2 p hp; omega
    rw [h3, e]
    simp only [List.mem_append, List.mem_cons]
    constructor
    · rintro (hp | hp)
      · exact ⟨.inl hp, q1 hp⟩
      · exact ⟨.inr (.inr hp), q2 hp⟩
    · rintro ⟨hp | hp | hp, hk⟩
      · exact .inl hp
      · rw [hp] at hk; exact absurd rfl hk
      · exact .inr hp
  · have q1 : p ∈ l → p.1 ≠ k := fun hp => by
      rw [e] at hp
      rcases List.mem_append.1 hp with hp | hp
      · have := h1 p hp; omega
      · have := h2 p hp; omega
    rw [h3]
    exact ⟨fun hp => ⟨hp, q1 hp⟩, fun hp => hp.1⟩
theorem has_iff {l : List (Int × Int)} (h : Up l) (k : Int) : hasK l k = true ↔ ∃ v, (k, v) ∈ l := by
  rcases form h k with ⟨a, v, b, e, h1, h2, h3, -⟩ | ⟨a, b, e, h1, h2, h3, -⟩
  · exact ⟨fun _ => ⟨v, by rw [e]; simp⟩, fun _ => h3⟩
  · rw [h3]
    refine ⟨fun h => absurd h (by decide), fun ⟨v, hv⟩ => ?_⟩
    rw [e] at hv
    rcases List.mem_append.1 hv with hv | hv
    · have := h1 _ hv; simp at this
    · have := h2 _ hv; simp at this
theorem val_uniq {l : List (Int × Int)} (h : Up l) {k x y : Int} (hx : (k, x) ∈ l) (hy : (k, y) ∈ l) : x = y := by
  obtain ⟨i, hi, ei⟩ := List.getElem_of_mem hx
  obtain ⟨j, hj, ej⟩ := List.getElem_of_mem hy
  have hp := List.pairwise_iff_getElem.1 h
  rcases Nat.lt_trichotomy i j with hij | hij | hij
  · have := hp i j hi hj hij; rw [ei, ej] at this; simp at this
  · subst hij; rw [ei] at ej; simpa using ej
  · have := hp j i hj hi hij; rw [ei, ej] at this; simp at this
theorem get_mem {l : List (Int × Int)} (h : Up l) {k : Int} (hh : hasK l k = true) : (k, getK l k) ∈ l := by
  rcases form h k with ⟨a, v, b, e, -, -, -, h4, -⟩ | ⟨a, b, e, h1, h2, h3, -⟩
  · rw [h4, e]; simp
  · rw [h3] at hh; cases hh
theorem get_no {l : List (Int × Int)} {k : Int} (hh : hasK l k = false) : getK l k = 0 := by unfold getK; rw [hh]; rfl
theorem up_ext {a b : List (Int × Int)} (ha : Up a) (hb : Up b) (h : ∀ p, p ∈ a ↔ p ∈ b) : a = b := by
  have nd : ∀ {l : List (Int × Int)}, Up l → l.Nodup := fun {l} hl => hl.imp fun h e => by rw [e] at h; omega
  refine List.Perm.eq_of_pairwise (le := fun x y => x.1 ≤ y.1) (fun x y hx hy h1 h2 => ?_) (ha.imp fun h => by omega) (hb.imp fun h => by omega) ((List.perm_ext_iff_of_nodup (nd ha) (nd hb)).2 h)
  have : x.1 = y.1 := by omega
  exact Prod.ext this (val_uniq ha (k := x.1) (by simpa using hx) (by rw [this]; simpa using (h y).2 hy))
/-- What an op does to a state: nothing; without the key; with it. -/
def updK (l : List (Int × Int)) (k : Int) : Option (Option Int) → List (Int × Int)
  | none => l
  | some none => delK l k
  | some (some x) => insK l k x
theorem upd_up {l : List (Int × Int)} (h : Up l) (k : Int) (u : Option (Option Int)) : Up (updK l k u) := by
  rcases u with _ | _ | x
  · exact h
  · exact del_up h k
  · exact ins_up h k x
theorem mem_upd {l : List (Int × Int)} (h : Up l) (k : Int) (u : Option (Option Int)) (p : Int × Int) : p ∈ updK l k u ↔ (match u with | none => p ∈ l | some none => p ∈ l ∧ p.1 ≠ k | some (some x) => p = (k, x) ∨ (p ∈ l ∧ p.1 ≠ k)) := by
  rcases u with _ | _ | x
  · exact Iff.rfl
  · exact mem_del h k p
  · exact mem_ins h k x p
theorem upd_other {l : List (Int × Int)} (h : Up l) {k k' : Int} (hk : k ≠ k') (u : Option (Option Int)) : hasK (updK l k' u) k = hasK l k ∧ getK (updK l k' u) k = getK l k := by
  have hm : ∀ v, (k, v) ∈ updK l k' u ↔ (k, v) ∈ l := fun v => by
    rw [mem_upd h]
    rcases u with _ | _ | x
    · exact Iff.rfl
    · simp [hk]
    · simp [hk]
  have e : hasK (updK l k' u) k = hasK l k := by
    rw [Bool.eq_iff_iff, has_iff (upd_up h k' u), has_iff h]
    exact ⟨fun ⟨v, hv⟩ => ⟨v, (hm v).1 hv⟩, fun ⟨v, hv⟩ => ⟨v, (hm v).2 hv⟩⟩
  refine ⟨e, ?_⟩
  cases hh : hasK l k with
  | false => rw [get_no hh, get_no (e.trans hh)]
  | true => exact val_uniq h ((hm _).1 (get_mem (upd_up h k' u) (e.trans hh))) (get_mem h hh)
theorem upd_comm {l : List (Int × Int)} (h : Up l) {k k' : Int} (hk : k ≠ k') (u u' : Option (Option Int)) : updK (updK l k u) k' u' = updK (updK l k' u') k u := by
  refine up_ext (upd_up (upd_up h k u) k' u') (upd_up (upd_up h k' u') k u) fun p => ?_
  rw [mem_upd (upd_up h k u), mem_upd (upd_up h k' u')]
  have e1 := mem_upd h k u p
  have e2 := mem_upd h k' u' p
  rcases u with _ | _ | x <;> rcases u' with _ | _ | y <;> simp only [e1, e2] <;> (try grind)
theorem upd_len {l : List (Int × Int)} (h : Up l) (k : Int) (u : Option (Option Int)) : (updK l k u).length ≤ l.length + 1 := by
  rcases form h k with ⟨a, v, b, e, -, -, -, -, h3, h4⟩ | ⟨a, b, e, -, -, -, -, h3, h4⟩ <;> rcases u with _ | _ | x <;> simp only [updK, h3, h4] <;> rw [e] <;> simp <;> omega
def effU (kd : Int) (has : Bool) (v : Int) : Option (Option Int) :=
  if kd = 1 then (if has then none else some (some 0)) else if kd = 4 then some (some v) else if kd = 5 then (if has then none else some (some v)) else if kd = 2 ∨ kd = 6 then some none else none
def effD (kd : Int) (has : Bool) : Bool := if kd = 1 ∨ kd = 5 then !has else if kd = 8 then true else has
def effV (kd : Int) (g : Int) : Int := if kd = 4 ∨ kd = 5 ∨ kd = 6 ∨ kd = 7 then g else 0
theorem doK_form {l : List (Int × Int)} {kd k v : Int} (hn : l.length < 16) (he : (doK l kd k v).e = 0) : (1 ≤ kd ∧ kd ≤ 8) ∧ doK l kd k v = ⟨updK l k (effU kd (hasK l k) v), effD kd (hasK l k), effV kd (getK l k), 0⟩ := by
  have hw : ∀ x, withK l k x = (insK l k x, 0) := fun x => by unfold withK; simp [hn]
  have hb : ∀ x d a, bringK l k x d a = ⟨insK l k x, d, a, 0⟩ := fun x d a => by unfold bringK; rw [hw]; rfl
  have hg : hasK l k = false → getK l k = 0 := get_no
  by_cases h8 : 1 ≤ kd ∧ kd ≤ 8
  · refine ⟨h8, ?_⟩
    obtain ⟨h1, h2⟩ := h8
    have : kd = 1 ∨ kd = 2 ∨ kd = 3 ∨ kd = 4 ∨ kd = 5 ∨ kd = 6 ∨ kd = 7 ∨ kd = 8 := by omega
    rcases this with rfl | rfl | rfl | rfl | rfl | rfl | rfl | rfl <;> unfold doK effU effD effV <;> simp only [hb] <;> cases hh : hasK l k <;> simp [updK, hg, hh]
  · exfalso
    unfold doK at he
    rw [if_neg (by omega), if_neg (by omega), if_neg (by omega), if_neg (by omega), if_neg (by omega), if_neg (by omega), if_neg (by omega), if_neg (by omega)] at he
    simp at he
theorem doK_ok {l : List (Int × Int)} {kd k v : Int} (hn : l.length < 16) (h8 : 1 ≤ kd ∧ kd ≤ 8) : (doK l kd k v).e = 0 := by
  have hw : ∀ x, withK l k x = (insK l k x, 0) := fun x => by unfold withK; simp [hn]
  have hb : ∀ x d a, bringK l k x d a = ⟨insK l k x, d, a, 0⟩ := fun x d a => by unfold bringK; rw [hw]; rfl
  have : kd = 1 ∨ kd = 2 ∨ kd = 3 ∨ kd = 4 ∨ kd = 5 ∨ kd = 6 ∨ kd = 7 ∨ kd = 8 := by omega
  rcases this with rfl | rfl | rfl | rfl | rfl | rfl | rfl | rfl <;> unfold doK <;> simp only [hb] <;> cases hasK l k <;> simp
/-- OPS OF UNLIKE KEYS MAY BE DONE IN EITHER ORDER. -/
theorem apart {l : List (Int × Int)} (h : Up l) (hn : l.length ≤ 14) {kd k v kd' k' v' : Int} (hk : k ≠ k') (h1 : (doK l kd k v).e = 0) (h2 : (doK l kd' k' v').e = 0) :
    let a := doK l kd k v; let b := doK l kd' k' v'; let c := doK a.l kd' k' v'; let d := doK b.l kd k v
    c.e = 0 ∧ d.e = 0 ∧ c.l = d.l ∧ a.d = d.d ∧ a.v = d.v ∧ b.d = c.d ∧ b.v = c.v ∧ Up c.l ∧ c.l.length ≤ 16 := by
  obtain ⟨r1, e1⟩ := doK_form (by omega) h1
  obtain ⟨r2, e2⟩ := doK_form (by omega) h2
  have l1 := upd_len h k (effU kd (hasK l k) v)
  have l2 := upd_len h k' (effU kd' (hasK l k') v')
  have u1 := upd_up h k (effU kd (hasK l k) v)
  have u2 := upd_up h k' (effU kd' (hasK l k') v')
  have o1 := upd_other h (k := k) (k' := k') hk (effU kd' (hasK l k') v')
  have o2 := upd_other h (k := k') (k' := k) (Ne.symm hk) (effU kd (hasK l k) v)
  intro a b c d
  have ea : a.l = updK l k (effU kd (hasK l k) v) := by show (doK l kd k v).l = _; rw [e1]
  have eb : b.l = updK l k' (effU kd' (hasK l k') v') := by show (doK l kd' k' v').l = _; rw [e2]
  have hc := doK_ok (l := a.l) (k := k') (v := v') (by rw [ea]; omega) r2
  have hd := doK_ok (l := b.l) (k := k) (v := v) (by rw [eb]; omega) r1
  obtain ⟨-, e3⟩ := doK_form (by rw [ea]; omega) hc
  obtain ⟨-, e4⟩ := doK_form (by rw [eb]; omega) hd
  have ec : c.l = updK (updK l k (effU kd (hasK l k) v)) k' (effU kd' (hasK l k') v') := by show (doK a.l kd' k' v').l = _; rw [e3]; simp only; rw [ea, o2.1]
  have ed : d.l = updK (updK l k' (effU kd' (hasK l k') v')) k (effU kd (hasK l k) v) := by show (doK b.l kd k v).l = _; rw [e4]; simp only; rw [eb, o1.1]
  refine ⟨hc, hd, by rw [ec, ed]; exact upd_comm h hk _ _, ?_, ?_, ?_, ?_, by rw [ec]; exact upd_up u1 _ _, ?_⟩
  · show (doK l kd k v).d = (doK b.l kd k v).d
    rw [e1, e4]; simp only; rw [eb, o1.1]
  · show (doK l kd k v).v = (doK b.l kd k v).v
    rw [e1, e4]; simp only; rw [eb, o1.2]
  · show (doK l kd' k' v').d = (doK a.l kd' k' v').d
    rw [e2, e3]; simp only; rw [ea, o2.1]
  · show (doK l kd' k' v').v = (doK a.l kd' k' v').v
    rw [e2, e3]; simp only; rw [ea, o2.2]
  · have := upd_len u1 k' (effU kd' (hasK l k') v')
    rw [ec]; omega
end Go.Proofs.Ytdeohigggjfjjaa

/- What closes every law's row: it answers true, and below the old heap nothing has turned: so each argument reads as it did, whatever its type. -/
namespace Go.Proofs.Ytdeohigggjfjjaa
open Go.RowKit Go.WideShapes Go.ChangeShapes Go.ChangeAt
set_option maxRecDepth 100000

section
variable {H : Type} {enc : TypeId × Value → H} {P : Program}
/-- The arguments' places lie below the heap's end: each reads behind the call as it did. -/
theorem args_stay (hl : laidOutB P = true) {W W' : World} (hb : Below W.heap.size W W') : ∀ (ts : List TypeId) (_ : (ts.all fun t => P.readableRec t && decide (t < P.types.size)) = true) (vs : List Value) (ds : List (DataW H)) (ps : List MemPlace),
    DataW.TrodAll enc P W 0 (fun _ => true) true ts vs ds ps → (∀ x ∈ ps, x.block < W.heap.size) → DataW.TrodAll enc P W' 0 (fun b => decide (b < W.heap.size)) true ts vs ds ps := by
  intro ts
  induction ts with
  | nil =>
    intro _ vs ds ps h _
    obtain ⟨rfl, rfl, rfl⟩ := trodAll_nil h
    exact trodAll_mk0
  | cons t ts ih =>
    intro hts vs ds ps h hlt
    rw [List.all_cons, Bool.and_eq_true, Bool.and_eq_true] at hts
    obtain ⟨v, vs', d, ds', p, q, rfl, rfl, rfl, h0, r0⟩ := trodAll_cons h
    exact trodAll_cons_mk (Below.trod hl hts.1.1 (of_decide_eq_true hts.1.2) h0 hb fun x hx => hlt x (List.mem_append_left _ hx))
      (ih hts.2 _ _ _ r0 fun x hx => hlt x (List.mem_append_right _ hx))

/-- The post of a law that answered true. -/
theorem law_post {f : Func} {s : ChangeSpec} {W W' : World} {args : Array Value} {ds : List (DataW H)} {before : List MemPlace} {tb : TypeId}
    (hl : laidOutB P = true) (hts : (f.params.toList.all fun t => P.readableRec t && decide (t < P.types.size)) = true) (hres : f.resultTypes = #[tb]) (htb : P.underlying tb = some .bool)
    (hv : s.vars = []) (hfn : s.fn H (ds ++ []) = { results := [.lit (.bool true)], args := ds })
    (hW : DataW.Whole enc P f.params.toList s.vars false W args.toList ds [] before) (hb : Below W.heap.size W W') :
    s.post enc P f false true false false W args (.bool true) W' := by
  have hlt : ∀ p ∈ before, p.block < W.heap.size := fun p hp => hW.lt p hp
  have hW2 := hW
  obtain ⟨p, q, hA, hV, rfl, hz, hn⟩ := hW2
  have hq : q = [] := by rw [hv] at hV; exact (trodVars_none hV).2
  subst hq
  refine ⟨ds, [], _, [], p, [], hW, ?_, ?_, ?_, World.keptBut_mono (fun x hx => ⟨hx, Or.inr (Or.inl (by simpa using hx))⟩) (hb.frame (· ∈ p ++ [])), fun h => by cases h⟩
  · rw [hfn, hres]
    exact trodAll_mk1 (shut_bool htb _)
  · rw [hfn]
    exact args_stay hl hb _ hts _ _ _ hA fun x hx => hlt x (by simpa using hx)
  · rw [hfn, hv]
    exact rfl
end

theorem u64_in {n : Int} (h : (Lit.int .u64 n).wf = true) : 0 ≤ n ∧ n ≤ 18446744073709551615 := by
  simpa [Lit.wf, IntKind.min, IntKind.max, IntKind.signed, IntKind.bits] using h
theorem i64_in {n : Int} (h : (Lit.int .i64 n).wf = true) : -9223372036854775808 ≤ n ∧ n ≤ 9223372036854775807 := by
  simpa [Lit.wf, IntKind.min, IntKind.max, IntKind.signed, IntKind.bits] using h
end Go.Proofs.Ytdeohigggjfjjaa

/- Slices that come in, opened once: of numbers; of structs of two numbers. -/
namespace Go.Proofs.Ytdeohigggjfjjaa
open Go.RowKit Go.WideShapes Go.ChangeShapes Go.ChangeAt Go.Deep
set_option maxRecDepth 100000

section
variable {H : Type} {enc : TypeId × Value → H} {P : Program} {W : World}

theorem open_num_row {t e : TypeId} {k : IntKind} {A : Option Addr} {len cap : Nat} {d : DataW H} {p : List MemPlace} (ht : P.underlying t = some (.slice e)) (he : P.underlying e = some (.int k)) (hc : P.cellsOf e = 1)
    (h : DataW.Trod enc P W 0 (fun _ => true) true t (.slice A len cap) d p) (hlt : ∀ x ∈ p, x.block < W.heap.size) :
    ∃ zs : List Int, zs.length = len ∧ len ≤ maxLen ∧ (∀ n ∈ zs, (Lit.int k n).wf = true) ∧ (zs = [] ∨ ∃ b off, A = some ⟨b, off, none⟩ ∧ b < W.heap.size ∧ ∀ i, i < zs.length → W.cell? ⟨b, off + i, none⟩ = some (.int k (zs.getD i 0))) := by
  obtain ⟨fuel, hf⟩ := h
  rcases open_ints ht he hc hf with ⟨hcs, hx⟩ | ⟨a, len', cap', zs, hcs, _, hl, hm, hz, hx, hcell, hwz⟩
  · simp [Value.cells] at hcs
    obtain ⟨rfl, rfl, rfl⟩ := hcs
    exact ⟨[], rfl, Nat.zero_le _, by simp, Or.inl rfl⟩
  · simp [Value.cells] at hcs
    obtain ⟨rfl, rfl, rfl⟩ := hcs
    simp only [Prod.mk.injEq] at hx
    obtain ⟨rfl, rfl⟩ := hx
    simp only [if_true] at hz
    refine ⟨zs.take len, by simp; omega, by omega, fun n hn => hwz n (List.mem_of_mem_take hn), ?_⟩
    by_cases h0 : len = 0
    · left; subst h0; simp
    · right
      obtain ⟨b, off, spot⟩ := a
      have hspot : spot = none := by simpa [Addr.add] using World.cell?_spot (hcell 0 (by omega))
      subst hspot
      refine ⟨b, off, rfl, hlt (.cell b off) (MemPlace.mem_row.2 ⟨0, by omega, by simp⟩), fun i hi => ?_⟩
      have hi' : i < len := by simp at hi; omega
      have := hcell i (by omega)
      rw [add_plain] at this
      rw [this]
      simp [hi']

def numOf' : Value → Int | .int _ n => n | _ => 0

theorem open_pair_row {t e : TypeId} {k : IntKind} {f0 f1 : Field} {A : Option Addr} {len cap : Nat} {d : DataW H} {p : List MemPlace} (ht : P.underlying t = some (.slice e)) (he : P.underlying e = some (.struct #[f0, f1]))
    (ce : P.cellsOf e = 2) (o0 : f0.offset = 0) (o1 : f1.offset = 1) (c0 : P.cellsOf f0.type = 1) (c1 : P.cellsOf f1.type = 1) (u0 : P.underlying f0.type = some (.int k)) (u1 : P.underlying f1.type = some (.int k))
    (h : DataW.Trod enc P W 0 (fun _ => true) true t (.slice A len cap) d p) (hlt : ∀ x ∈ p, x.block < W.heap.size) :
    ∃ fs : List (Int × Int), fs.length = len ∧ len ≤ maxLen ∧ (∀ q ∈ fs, (Lit.int k q.1).wf = true ∧ (Lit.int k q.2).wf = true) ∧
      (fs = [] ∨ ∃ b off, A = some ⟨b, off, none⟩ ∧ b < W.heap.size ∧ ∀ i, i < fs.length → W.cell? ⟨b, off + i * 2, none⟩ = some (.int k (fs.getD i (0, 0)).1) ∧ W.cell? ⟨b, off + i * 2 + 1, none⟩ = some (.int k (fs.getD i (0, 0)).2)) := by
  obtain ⟨fuel, hf⟩ := h
  rcases open_slice_pairs ht he ce o0 o1 c0 c1 hf with ⟨hcs, hx⟩ | ⟨a, len', cap', m, n, V0, V1, D0, D1, P0, P1, hcs, _, hl, hm, hmm, hx, hall⟩
  · simp [Value.cells] at hcs
    obtain ⟨rfl, rfl, rfl⟩ := hcs
    exact ⟨[], rfl, Nat.zero_le _, by simp, Or.inl rfl⟩
  · simp [Value.cells] at hcs
    obtain ⟨rfl, rfl, rfl⟩ := hcs
    simp only [Prod.mk.injEq] at hx
    obtain ⟨rfl, rfl⟩ := hx
    simp only [if_true] at hmm
    subst hmm
    have each : ∀ i, i < m → (∃ x, V0 i = .int k x ∧ (Lit.int k x).wf = true) ∧ ∃ x, V1 i = .int k x ∧ (Lit.int k x).wf = true := fun i hi => by
      obtain ⟨_, _, h3, h4⟩ := hall i hi
      obtain ⟨x, e0, _, w0⟩ := DataW.trod_int u0 h3
      obtain ⟨y, e1, _, w1⟩ := DataW.trod_int u1 h4
      simp at e0 e1
      exact ⟨⟨x, e0, w0⟩, ⟨y, e1, w1⟩⟩
    refine ⟨(List.range len).map fun i => (numOf' (V0 i), numOf' (V1 i)), by simp, by omega, ?_, ?_⟩
    · intro q hq
      obtain ⟨i, hi, rfl⟩ := List.mem_map.1 hq
      have hi' := List.mem_range.1 hi
      obtain ⟨⟨x, e0, w0⟩, ⟨y, e1, w1⟩⟩ := each i (by omega)
      rw [e0, e1]
      exact ⟨w0, w1⟩
    · by_cases h0 : len = 0
      · left; subst h0; simp
      · right
        obtain ⟨b, off, spot⟩ := a
        have hspot : spot = none := by simpa [Addr.add] using World.cell?_spot (hall 0 (by omega)).1
        subst hspot
        refine ⟨b, off, rfl, hlt (.cell b off) (List.mem_append_left _ (MemPlace.mem_row.2 ⟨0, by omega, by simp⟩)), fun i hi => ?_⟩
        have hi' : i < len := by simpa using hi
        obtain ⟨h1, h2, _, _⟩ := hall i (by omega)
        obtain ⟨⟨x, e0, _⟩, ⟨y, e1, _⟩⟩ := each i (by omega)
        rw [add_plain] at h1 h2
        rw [Nat.add_assoc, h1, h2, e0, e1]
        simp [hi', e0, e1, numOf']
end
end Go.Proofs.Ytdeohigggjfjjaa

namespace Go.Proofs.Ytdeohigggjfjjaa
open Go.RowKit Go.Maps Go.WideShapes Go.ChangeShapes Go.ChangeAt Go.Deep
set_option maxRecDepth 100000

theorem with_up {l : List (Int × Int)} (h : Up l) (k x : Int) : Up (withK l k x).1 := by
  unfold withK
  split
  · exact ins_up h k x
  · exact .nil
theorem bring_up {l : List (Int × Int)} (h : Up l) (k x : Int) (d : Bool) (v : Int) : Up (bringK l k x d v).l := by
  unfold bringK
  split
  · exact with_up h k x
  · exact .nil
theorem do_up {l : List (Int × Int)} (h : Up l) (kd k v : Int) : Up (doK l kd k v).l := by
  have h1 := bring_up h k 0 true 0
  have h2 := bring_up h k v (hasK l k) (getK l k)
  have h3 := bring_up h k v true 0
  have h4 := del_up h k
  unfold doK
  repeat' split
  all_goals first | assumption | exact .nil
theorem ins_u {l : List (Int × Int)} (h : Up l) (hu : ∀ p ∈ l, OkP p) {k x : Int} (hk : InU k) (hx : InU x) : ∀ p ∈ insK l k x, OkP p := fun p hp => by
  rcases (mem_ins h k x p).1 hp with rfl | ⟨hp, -⟩
  · exact ⟨hk, hx⟩
  · exact hu p hp
theorem with_u {l : List (Int × Int)} (h : Up l) (hu : ∀ p ∈ l, OkP p) {k x : Int} (hk : InU k) (hx : InU x) : ∀ p ∈ (withK l k x).1, OkP p := by
  unfold withK
  split
  · exact ins_u h hu hk hx
  · simp
theorem bring_u {l : List (Int × Int)} (h : Up l) (hu : ∀ p ∈ l, OkP p) {k x : Int} (hk : InU k) (hx : InU x) (d : Bool) (v : Int) : ∀ p ∈ (bringK l k x d v).l, OkP p := by
  unfold bringK
  split
  · exact with_u h hu hk hx
  · simp
theorem do_u {l : List (Int × Int)} (h : Up l) (hu : ∀ p ∈ l, OkP p) {kd k v : Int} (hk : InU k) (hv : InU v) : ∀ p ∈ (doK l kd k v).l, OkP p := by
  have h0 : InU 0 := by unfold InU; omega
  have h1 := bring_u h hu hk h0 true 0
  have h2 := bring_u h hu hk hv (hasK l k) (getK l k)
  have h3 := bring_u h hu hk hv true 0
  have h4 : ∀ p ∈ delK l k, OkP p := fun p hp => hu p ((mem_del h k p).1 hp).1
  unfold doK
  repeat' split
  all_goals first | assumption | simp
/-- What Do answers, by name. -/
theorem do_n {l : List (Int × Int)} (h : Up l) (hn : l.length ≤ 16) (hu : ∀ p ∈ l, OkP p) {kd k v : Int} (lv : Int) (hk : InU k) (hv : InU v) : ∃ L D V E, doK l kd k v = ⟨L, D, V, E⟩ ∧ Up L ∧ L.length ≤ 16 ∧ (∀ p ∈ L, OkP p) ∧
    ∀ w', Calls Try.prog 9 #[.agg (encS l).toArray, .agg #[.int .i64 kd, .int .u64 k, .int .u64 v, .int .i64 lv]] w' fun e w'' => e = .returned (.tuple #[.agg (encS L).toArray, .agg (encA 0 D V).toArray, .int .i64 E]) ∧ Below w'.heap.size w' w'' :=
  ⟨_, _, _, _, rfl, do_up h kd k v, doK_le l kd k v hn, do_u h hu hk hv, fun w' => do_s l h hn kd k v lv w'⟩

namespace specApart
set_option maxHeartbeats 8000000 in
theorem walk (l : List (Int × Int)) (A : Option Addr) (cap : Nat) (kd k v lv kd' k' v' lv' : Int) (w : World) (hz : l.length * 16 ≤ 140737488351232) (hu : ∀ r ∈ l, OkP r) (hr : RowX encP 2 w A l) (hk : InU k) (hv : InU v) (hk' : InU k') (hv' : InU v') :
    Calls Try.prog 6 #[.slice A l.length cap, .agg #[.int .i64 kd, .int .u64 k, .int .u64 v, .int .i64 lv], .agg #[.int .i64 kd', .int .u64 k', .int .u64 v', .int .i64 lv']] w fun e w' => e = .returned (.bool true) ∧ Below w.heap.size w w' := by
  have hF := ((Fr.start w).push w.heap.size rfl [.int .i64 kd, .int .u64 k, .int .u64 v, .int .i64 lv] 39).push (w.heap.size + 1) (by simp) [.int .i64 kd', .int .u64 k', .int .u64 v', .int .i64 lv'] 39
  have HZ := Lib.hid hz
  have HR := Lib.hid hr
  clear hz hr
  go_enter Try.func6, Try.ntmps6
  go_wp2_with fail
  refine (awake21 _).mono ?_
  rintro o w1 ⟨rfl, hb⟩
  replace hF := hF.over hb
  clear hb
  go_wp2_with fail
  refine (new_s HZ.out (HR.out.below hF.below)).mono ?_
  rintro o w2 ⟨S, er, rfl, hN, hb⟩
  replace hF := hF.over hb
  clear hb
  rename_i aK
  refine aK _ _ ?_
  clear aK
  have hS16 : S.length ≤ 16 := by
    rcases hN with ⟨-, rfl, -⟩ | ⟨-, -, rfl, -⟩ | ⟨-, h16, -, hp, -⟩
    · simp
    · simp
    · rw [hp.length_eq]; exact h16
  refine Go.Great.wpList_readTo rfl (some 23) rfl _ rfl ?_
  (try simp only [Act.put, Act.eval, List.setIfInBounds_toArray, List.set_cons_zero, List.set_cons_succ])
  refine Go.Great.wpList_readTo rfl (some 26) rfl (.agg (encS S).toArray) (by go_simp) ?_
  (try simp only [Act.put, Act.eval, List.setIfInBounds_toArray, List.set_cons_zero, List.set_cons_succ])
  refine Go.Great.wpList_readTo rfl (some 27) rfl (.int .i64 er) (by go_simp) ?_
  (try simp only [Act.put, Act.eval, List.setIfInBounds_toArray, List.set_cons_zero, List.set_cons_succ])
  refine Go.Great.wpList_allocTo rfl (some 7) rfl (.pointer (some ⟨w2.heap.size, 0, none⟩)) (.cells (encS []).toArray 29) (by kernel_rfl) ?_
  have hz4 := hF.lt 0 rfl
  have hz5 := hF.lt 1 rfl
  have hz6 : w.heap.size ≤ w2.heap.size := hF.below.size
  replace hF := hF.push w2.heap.size rfl (encS []) 29
  generalize World.alloc w2 _ = w3 at *
  generalize w2.heap.size = Z7 at *
  (try simp only [Act.put, Act.eval, List.setIfInBounds_toArray, List.set_cons_zero, List.set_cons_succ])
  refine wpList_store_mid rfl 29 _ _ rfl Z7 0 (encS S).toArray rfl rfl (hF.there 0 rfl (by omega) (by rw [encS_length (by simp), List.size_toArray, encS_length hS16])) (size33a hS16) (one33 _) ?_
  replace hF := hF.whole (us := encS S) (by omega) (by simp <;> omega) (by rw [encS_length (by simp), encS_length hS16])
  generalize World.setCells w3 _ _ _ = w7 at *
  by_cases her : er = 0
  · subst her
    have hN' : S.Perm l ∧ Up S ∧ l.length ≤ 16 := by
      rcases hN with ⟨-, -, h⟩ | ⟨-, -, -, h⟩ | ⟨-, h16, -, hp, hup⟩
      · cases h
      · cases h
      · exact ⟨hp, hup, h16⟩
    obtain ⟨hp, hup, h16⟩ := hN'
    have hln := hp.length_eq
    have huS : ∀ p ∈ S, OkP p := fun p hp' => hu p (hp.mem_iff.1 hp')
    clear hN hu
    by_cases h14 : l.length ≤ 14
    · have b14 : ¬ ((14 : Int) < (l.length : Int)) := by omega
      by_cases hkk : k = k'
      · subst hkk
        have rr8 := hF.rule 2 rfl
        have rr9 := hF.rule 1 rfl
        go_wp2_with fail
        go_ret
        exact ⟨rfl, hF.below⟩
      · have bkk : (k == k') = false := by simpa using hkk
        have rr10 := hF.rule 2 rfl
        have rr11 := hF.rule 1 rfl
        obtain ⟨La, Da, Va, Ea, hA, upA, leA, uA, CA⟩ := do_n hup hS16 huS (kd := kd) lv hk hv
        obtain ⟨Lb, Db, Vb, Eb, hB, upB, leB, uB, CB⟩ := do_n hup hS16 huS (kd := kd') lv' hk' hv'
        obtain ⟨Lc, Dc, Vc, Ec, hC, upC, leC, uC, CC⟩ := do_n upA leA uA (kd := kd') lv' hk' hv'
        obtain ⟨Ld, Dd, Vd, Ed, hD, upD, leD, uD, CD⟩ := do_n upB leB uB (kd := kd) lv hk hv
        have QA := Lib.hid CA
        have QB := Lib.hid CB
        have QC := Lib.hid CC
        have QD := Lib.hid CD
        clear CA CB CC CD
        have AP : Hid (Ea = 0 → Eb = 0 → Ec = 0 ∧ Ed = 0 ∧ Lc = Ld ∧ Da = Dd ∧ Va = Vd ∧ Db = Dc ∧ Vb = Vc) := Lib.hid fun h1 h2 => by
          have := apart hup (by omega) (kd := kd) (k := k) (v := v) (kd' := kd') (k' := k') (v' := v') hkk (by rw [hA]; exact h1) (by rw [hB]; exact h2)
          simp only [hA, hB, hC, hD] at this
          exact ⟨this.1, this.2.1, this.2.2.1, this.2.2.2.1, this.2.2.2.2.1, this.2.2.2.2.2.1, this.2.2.2.2.2.2.1⟩
        have SC : SOk Lc := ⟨upC, leC, uC⟩
        have SD : SOk Ld := ⟨upD, leD, uD⟩
        clear hA hB hC hD upA upB upC upD uA uB uC uD huS hup hp HZ HR hk hv hk' hv'
        go_upto_region 6 with fail
        apply wp_region_lit
        refine wpList_load_mid rfl 29 _ rfl Z7 0 rfl (encS S) _ (hF.range 0 rfl) und29 rfl (size33 hS16) ?_
        go_wp2_with fail
        refine (QA.out _).mono ?_
        rintro o w12 ⟨rfl, hb⟩
        replace hF := hF.over hb
        clear hb
        clear rr10 rr11
        rename_i aK
        refine aK _ _ ?_
        clear aK
        refine Go.Great.wpList_readTo rfl (some 42) rfl _ rfl ?_
        (try simp only [Act.put, Act.eval, List.setIfInBounds_toArray, List.set_cons_zero, List.set_cons_succ])
        refine Go.Great.wpList_readTo rfl (some 46) rfl (.agg (encS La).toArray) (by go_simp) ?_
        (try simp only [Act.put, Act.eval, List.setIfInBounds_toArray, List.set_cons_zero, List.set_cons_succ])
        refine Go.Great.wpList_readTo rfl (some 47) rfl (.agg (encA 0 Da Va).toArray) (by go_simp) ?_
        (try simp only [Act.put, Act.eval, List.setIfInBounds_toArray, List.set_cons_zero, List.set_cons_succ])
        refine Go.Great.wpList_readTo rfl (some 48) rfl (.int .i64 Ea) (by go_simp) ?_
        (try simp only [Act.put, Act.eval, List.setIfInBounds_toArray, List.set_cons_zero, List.set_cons_succ])
        refine Go.Great.wpList_allocTo rfl (some 9) rfl (.pointer (some ⟨w12.heap.size, 0, none⟩)) (.cells (encS []).toArray 29) (by kernel_rfl) ?_
        have hz15 := hF.lt 0 rfl
        have hz16 := hF.lt 1 rfl
        have hz17 := hF.lt 2 rfl
        have hz18 : w.heap.size ≤ w12.heap.size := hF.below.size
        have hq19 : (w12.alloc (.cells (encS []).toArray 29)).heap.size = w12.heap.size + 1 := by simp
        replace hF := hF.push w12.heap.size rfl (encS []) 29
        generalize World.alloc w12 _ = w13 at *
        generalize w12.heap.size = Z9 at *
        refine Go.Great.wpList_allocTo rfl (some 10) rfl (.pointer (some ⟨Z9 + 1, 0, none⟩)) (.cells (encA 0 false 0).toArray 35) (by rw [← hq19]; kernel_rfl) ?_
        replace hF := hF.push (Z9 + 1) hq19 (encA 0 false 0) 35
        generalize World.alloc w13 _ = w14 at *
        clear hq19
        (try simp only [Act.put, Act.eval, List.setIfInBounds_toArray, List.set_cons_zero, List.set_cons_succ])
        replace hF := hF.sub (bl' := [(Z9, encS []), ((Z9 + 1), encA 0 false 0), (Z7, encS S), ((w.heap.size + 1), [.int .i64 kd', .int .u64 k', .int .u64 v', .int .i64 lv']), (w.heap.size, [.int .i64 kd, .int .u64 k, .int .u64 v, .int .i64 lv])]) (by simp)
        refine wpList_store_mid rfl 29 _ _ rfl Z9 0 (encS La).toArray rfl rfl (hF.there 0 rfl (by omega) (by rw [encS_length (by simp), List.size_toArray, encS_length leA])) (size33a leA) (one33 _) ?_
        replace hF := hF.whole (us := encS La) (by omega) (by simp <;> omega) (by rw [encS_length (by simp), encS_length leA])
        generalize World.setCells w14 _ _ _ = w20 at *
        replace hF := hF.sub (bl' := [((Z9 + 1), encA 0 false 0), (Z9, encS La), (Z7, encS S), ((w.heap.size + 1), [.int .i64 kd', .int .u64 k', .int .u64 v', .int .i64 lv']), (w.heap.size, [.int .i64 kd, .int .u64 k, .int .u64 v, .int .i64 lv])]) (by simp)
        refine wpList_store_mid rfl 35 _ _ rfl (Z9 + 1) 0 (encA 0 Da Va).toArray rfl rfl (hF.there 0 rfl (by omega) rfl) size35 (all_oneCell_toArray (encA_one _ _ _)) ?_
        replace hF := hF.whole (us := encA 0 Da Va) (by omega) (by simp <;> omega) rfl
        generalize World.setCells w20 _ _ _ = w21 at *
        go_upto_region 7 with fail
        apply wp_region_lit
        have rr22 := hF.rule 3 rfl
        refine wpList_load_mid rfl 29 _ rfl Z7 0 rfl (encS S) _ (hF.range 2 rfl) und29 rfl (size33 hS16) ?_
        go_wp2_with fail
        refine (QB.out _).mono ?_
        rintro o w23 ⟨rfl, hb⟩
        replace hF := hF.over hb
        clear hb
        clear rr22
        rename_i aK
        refine aK _ _ ?_
        clear aK
        refine Go.Great.wpList_readTo rfl (some 49) rfl _ rfl ?_
        (try simp only [Act.put, Act.eval, List.setIfInBounds_toArray, List.set_cons_zero, List.set_cons_succ])
        refine Go.Great.wpList_readTo rfl (some 53) rfl (.agg (encS Lb).toArray) (by go_simp) ?_
        (try simp only [Act.put, Act.eval, List.setIfInBounds_toArray, List.set_cons_zero, List.set_cons_succ])
        refine Go.Great.wpList_readTo rfl (some 54) rfl (.agg (encA 0 Db Vb).toArray) (by go_simp) ?_
        (try simp only [Act.put, Act.eval, List.setIfInBounds_toArray, List.set_cons_zero, List.set_cons_succ])
        refine Go.Great.wpList_readTo rfl (some 55) rfl (.int .i64 Eb) (by go_simp) ?_
        (try simp only [Act.put, Act.eval, List.setIfInBounds_toArray, List.set_cons_zero, List.set_cons_succ])
        refine Go.Great.wpList_allocTo rfl (some 12) rfl (.pointer (some ⟨w23.heap.size, 0, none⟩)) (.cells (encS []).toArray 29) (by kernel_rfl) ?_
        have hz26 := hF.lt 0 rfl
        have hz27 := hF.lt 1 rfl
        have hz28 := hF.lt 2 rfl
        have hz29 := hF.lt 3 rfl
        have hz30 := hF.lt 4 rfl
        have hz31 : w.heap.size ≤ w23.heap.size := hF.below.size
        have hq32 : (w23.alloc (.cells (encS []).toArray 29)).heap.size = w23.heap.size + 1 := by simp
        replace hF := hF.push w23.heap.size rfl (encS []) 29
        generalize World.alloc w23 _ = w24 at *
        generalize w23.heap.size = Z12 at *
        refine Go.Great.wpList_allocTo rfl (some 13) rfl (.pointer (some ⟨Z12 + 1, 0, none⟩)) (.cells (encA 0 false 0).toArray 35) (by rw [← hq32]; kernel_rfl) ?_
        replace hF := hF.push (Z12 + 1) hq32 (encA 0 false 0) 35
        generalize World.alloc w24 _ = w25 at *
        clear hq32
        (try simp only [Act.put, Act.eval, List.setIfInBounds_toArray, List.set_cons_zero, List.set_cons_succ])
        replace hF := hF.sub (bl' := [(Z12, encS []), ((Z12 + 1), encA 0 false 0), ((Z9 + 1), encA 0 Da Va), (Z9, encS La), (Z7, encS S), ((w.heap.size + 1), [.int .i64 kd', .int .u64 k', .int .u64 v', .int .i64 lv']), (w.heap.size, [.int .i64 kd, .int .u64 k, .int .u64 v, .int .i64 lv])]) (by simp)
        refine wpList_store_mid rfl 29 _ _ rfl Z12 0 (encS Lb).toArray rfl rfl (hF.there 0 rfl (by omega) (by rw [encS_length (by simp), List.size_toArray, encS_length leB])) (size33a leB) (one33 _) ?_
        replace hF := hF.whole (us := encS Lb) (by omega) (by simp <;> omega) (by rw [encS_length (by simp), encS_length leB])
        generalize World.setCells w25 _ _ _ = w33 at *
        replace hF := hF.sub (bl' := [((Z12 + 1), encA 0 false 0), (Z12, encS Lb), ((Z9 + 1), encA 0 Da Va), (Z9, encS La), (Z7, encS S), ((w.heap.size + 1), [.int .i64 kd', .int .u64 k', .int .u64 v', .int .i64 lv']), (w.heap.size, [.int .i64 kd, .int .u64 k, .int .u64 v, .int .i64 lv])]) (by simp)
        refine wpList_store_mid rfl 35 _ _ rfl (Z12 + 1) 0 (encA 0 Db Vb).toArray rfl rfl (hF.there 0 rfl (by omega) rfl) size35 (all_oneCell_toArray (encA_one _ _ _)) ?_
        replace hF := hF.whole (us := encA 0 Db Vb) (by omega) (by simp <;> omega) rfl
        generalize World.setCells w33 _ _ _ = w34 at *
        by_cases h1 : Ea = 0
        · by_cases h2 : Eb = 0
          · obtain ⟨rfl, rfl, rfl, rfl, rfl, rfl, rfl⟩ := AP.out h1 h2
            subst h1 h2
            go_upto_region 10 with fail
            apply wp_region_lit
            have rr35 := hF.rule 5 rfl
            refine wpList_load_mid rfl 29 _ rfl Z9 0 rfl (encS La) _ (hF.range 3 rfl) und29 rfl (size33 leA) ?_
            go_wp2_with fail
            refine (QC.out _).mono ?_
            rintro o w36 ⟨rfl, hb⟩
            replace hF := hF.over hb
            clear hb
            clear rr35
            rename_i aK
            refine aK _ _ ?_
            clear aK
            refine Go.Great.wpList_readTo rfl (some 62) rfl _ rfl ?_
            (try simp only [Act.put, Act.eval, List.setIfInBounds_toArray, List.set_cons_zero, List.set_cons_succ])
            refine Go.Great.wpList_readTo rfl (some 66) rfl (.agg (encS Lc).toArray) (by go_simp) ?_
            (try simp only [Act.put, Act.eval, List.setIfInBounds_toArray, List.set_cons_zero, List.set_cons_succ])
            refine Go.Great.wpList_readTo rfl (some 67) rfl (.agg (encA 0 Db Vb).toArray) (by go_simp) ?_
            (try simp only [Act.put, Act.eval, List.setIfInBounds_toArray, List.set_cons_zero, List.set_cons_succ])
            refine Go.Great.wpList_readTo rfl (some 68) rfl (.int .i64 0) (by go_simp) ?_
            (try simp only [Act.put, Act.eval, List.setIfInBounds_toArray, List.set_cons_zero, List.set_cons_succ])
            refine Go.Great.wpList_allocTo rfl (some 15) rfl (.pointer (some ⟨w36.heap.size, 0, none⟩)) (.cells (encS []).toArray 29) (by kernel_rfl) ?_
            have hz39 := hF.lt 0 rfl
            have hz40 := hF.lt 1 rfl
            have hz41 := hF.lt 2 rfl
            have hz42 := hF.lt 3 rfl
            have hz43 := hF.lt 4 rfl
            have hz44 := hF.lt 5 rfl
            have hz45 := hF.lt 6 rfl
            have hz46 : w.heap.size ≤ w36.heap.size := hF.below.size
            have hq47 : (w36.alloc (.cells (encS []).toArray 29)).heap.size = w36.heap.size + 1 := by simp
            replace hF := hF.push w36.heap.size rfl (encS []) 29
            generalize World.alloc w36 _ = w37 at *
            generalize w36.heap.size = Z15 at *
            refine Go.Great.wpList_allocTo rfl (some 16) rfl (.pointer (some ⟨Z15 + 1, 0, none⟩)) (.cells (encA 0 false 0).toArray 35) (by rw [← hq47]; kernel_rfl) ?_
            replace hF := hF.push (Z15 + 1) hq47 (encA 0 false 0) 35
            generalize World.alloc w37 _ = w38 at *
            clear hq47
            (try simp only [Act.put, Act.eval, List.setIfInBounds_toArray, List.set_cons_zero, List.set_cons_succ])
            replace hF := hF.sub (bl' := [(Z15, encS []), ((Z15 + 1), encA 0 false 0), ((Z12 + 1), encA 0 Db Vb), (Z12, encS Lb), ((Z9 + 1), encA 0 Da Va), (Z9, encS La), (Z7, encS S), ((w.heap.size + 1), [.int .i64 kd', .int .u64 k', .int .u64 v', .int .i64 lv']), (w.heap.size, [.int .i64 kd, .int .u64 k, .int .u64 v, .int .i64 lv])]) (by simp)
            refine wpList_store_mid rfl 29 _ _ rfl Z15 0 (encS Lc).toArray rfl rfl (hF.there 0 rfl (by omega) (by rw [encS_length (by simp), List.size_toArray, encS_length leC])) (size33a leC) (one33 _) ?_
            replace hF := hF.whole (us := encS Lc) (by omega) (by simp <;> omega) (by rw [encS_length (by simp), encS_length leC])
            generalize World.setCells w38 _ _ _ = w48 at *
            replace hF := hF.sub (bl' := [((Z15 + 1), encA 0 false 0), (Z15, encS Lc), ((Z12 + 1), encA 0 Db Vb), (Z12, encS Lb), ((Z9 + 1), encA 0 Da Va), (Z9, encS La), (Z7, encS S), ((w.heap.size + 1), [.int .i64 kd', .int .u64 k', .int .u64 v', .int .i64 lv']), (w.heap.size, [.int .i64 kd, .int .u64 k, .int .u64 v, .int .i64 lv])]) (by simp)
            refine wpList_store_mid rfl 35 _ _ rfl (Z15 + 1) 0 (encA 0 Db Vb).toArray rfl rfl (hF.there 0 rfl (by omega) rfl) size35 (all_oneCell_toArray (encA_one _ _ _)) ?_
            replace hF := hF.whole (us := encA 0 Db Vb) (by omega) (by simp <;> omega) rfl
            generalize World.setCells w48 _ _ _ = w49 at *
            go_upto_region 11 with fail
            apply wp_region_lit
            have rr50 := hF.rule 8 rfl
            refine wpList_load_mid rfl 29 _ rfl Z12 0 rfl (encS Lb) _ (hF.range 3 rfl) und29 rfl (size33 leB) ?_
            go_wp2_with fail
            refine (QD.out _).mono ?_
            rintro o w51 ⟨rfl, hb⟩
            replace hF := hF.over hb
            clear hb
            clear rr50
            rename_i aK
            refine aK _ _ ?_
            clear aK
            refine Go.Great.wpList_readTo rfl (some 69) rfl _ rfl ?_
            (try simp only [Act.put, Act.eval, List.setIfInBounds_toArray, List.set_cons_zero, List.set_cons_succ])
            refine Go.Great.wpList_readTo rfl (some 73) rfl (.agg (encS Lc).toArray) (by go_simp) ?_
            (try simp only [Act.put, Act.eval, List.setIfInBounds_toArray, List.set_cons_zero, List.set_cons_succ])
            refine Go.Great.wpList_readTo rfl (some 74) rfl (.agg (encA 0 Da Va).toArray) (by go_simp) ?_
            (try simp only [Act.put, Act.eval, List.setIfInBounds_toArray, List.set_cons_zero, List.set_cons_succ])
            refine Go.Great.wpList_readTo rfl (some 75) rfl (.int .i64 0) (by go_simp) ?_
            (try simp only [Act.put, Act.eval, List.setIfInBounds_toArray, List.set_cons_zero, List.set_cons_succ])
            refine Go.Great.wpList_allocTo rfl (some 18) rfl (.pointer (some ⟨w51.heap.size, 0, none⟩)) (.cells (encS []).toArray 29) (by kernel_rfl) ?_
            have hz54 := hF.lt 0 rfl
            have hz55 := hF.lt 1 rfl
            have hz56 := hF.lt 2 rfl
            have hz57 := hF.lt 3 rfl
            have hz58 := hF.lt 4 rfl
            have hz59 := hF.lt 5 rfl
            have hz60 := hF.lt 6 rfl
            have hz61 := hF.lt 7 rfl
            have hz62 := hF.lt 8 rfl
            have hz63 : w.heap.size ≤ w51.heap.size := hF.below.size
            have hq64 : (w51.alloc (.cells (encS []).toArray 29)).heap.size = w51.heap.size + 1 := by simp
            replace hF := hF.push w51.heap.size rfl (encS []) 29
            generalize World.alloc w51 _ = w52 at *
            generalize w51.heap.size = Z18 at *
            refine Go.Great.wpList_allocTo rfl (some 19) rfl (.pointer (some ⟨Z18 + 1, 0, none⟩)) (.cells (encA 0 false 0).toArray 35) (by rw [← hq64]; kernel_rfl) ?_
            replace hF := hF.push (Z18 + 1) hq64 (encA 0 false 0) 35
            generalize World.alloc w52 _ = w53 at *
            clear hq64
            (try simp only [Act.put, Act.eval, List.setIfInBounds_toArray, List.set_cons_zero, List.set_cons_succ])
            replace hF := hF.sub (bl' := [(Z18, encS []), ((Z18 + 1), encA 0 false 0), ((Z15 + 1), encA 0 Db Vb), (Z15, encS Lc), ((Z12 + 1), encA 0 Db Vb), (Z12, encS Lb), ((Z9 + 1), encA 0 Da Va), (Z9, encS La), (Z7, encS S), ((w.heap.size + 1), [.int .i64 kd', .int .u64 k', .int .u64 v', .int .i64 lv']), (w.heap.size, [.int .i64 kd, .int .u64 k, .int .u64 v, .int .i64 lv])]) (by simp)
            refine wpList_store_mid rfl 29 _ _ rfl Z18 0 (encS Lc).toArray rfl rfl (hF.there 0 rfl (by omega) (by rw [encS_length (by simp), List.size_toArray, encS_length leC])) (size33a leC) (one33 _) ?_
            replace hF := hF.whole (us := encS Lc) (by omega) (by simp <;> omega) (by rw [encS_length (by simp), encS_length leC])
            generalize World.setCells w53 _ _ _ = w65 at *
            replace hF := hF.sub (bl' := [((Z18 + 1), encA 0 false 0), (Z18, encS Lc), ((Z15 + 1), encA 0 Db Vb), (Z15, encS Lc), ((Z12 + 1), encA 0 Db Vb), (Z12, encS Lb), ((Z9 + 1), encA 0 Da Va), (Z9, encS La), (Z7, encS S), ((w.heap.size + 1), [.int .i64 kd', .int .u64 k', .int .u64 v', .int .i64 lv']), (w.heap.size, [.int .i64 kd, .int .u64 k, .int .u64 v, .int .i64 lv])]) (by simp)
            refine wpList_store_mid rfl 35 _ _ rfl (Z18 + 1) 0 (encA 0 Da Va).toArray rfl rfl (hF.there 0 rfl (by omega) rfl) size35 (all_oneCell_toArray (encA_one _ _ _)) ?_
            replace hF := hF.whole (us := encA 0 Da Va) (by omega) (by simp <;> omega) rfl
            generalize World.setCells w65 _ _ _ = w66 at *
            go_upto_region 12 with fail
            apply wp_region_lit
            refine wpList_on ?_ (by rfl) ?_ ?_
            rotate_left
            focus (go_simp <;> with_reducible rfl)
            (try simp only [Act.put, Act.eval, List.setIfInBounds_toArray, List.set_cons_zero, List.set_cons_succ])
            refine wpList_on ?_ (by rfl) ?_ ?_
            rotate_left
            focus (go_simp <;> with_reducible rfl)
            (try simp only [Act.put, Act.eval, List.setIfInBounds_toArray, List.set_cons_zero, List.set_cons_succ])
            refine wpList_on ?_ (by rfl) ?_ ?_
            rotate_left
            focus (go_simp <;> with_reducible rfl)
            (try simp only [Act.put, Act.eval, List.setIfInBounds_toArray, List.set_cons_zero, List.set_cons_succ])
            refine wpList_on ?_ (by rfl) ?_ ?_
            rotate_left
            focus (go_simp <;> with_reducible rfl)
            (try simp only [Act.put, Act.eval, List.setIfInBounds_toArray, List.set_cons_zero, List.set_cons_succ])
            refine wpList_on ?_ (by rfl) ?_ ?_
            rotate_left
            focus (go_simp <;> with_reducible rfl)
            (try simp only [Act.put, Act.eval, List.setIfInBounds_toArray, List.set_cons_zero, List.set_cons_succ])
            refine wpList_on ?_ (by rfl) ?_ ?_
            rotate_left
            focus (go_simp <;> with_reducible rfl)
            (try simp only [Act.put, Act.eval, List.setIfInBounds_toArray, List.set_cons_zero, List.set_cons_succ])
            refine wpList_on ?_ (by rfl) ?_ ?_
            rotate_left
            focus (go_simp <;> with_reducible rfl)
            (try simp only [Act.put, Act.eval, List.setIfInBounds_toArray, List.set_cons_zero, List.set_cons_succ])
            refine wpList_on (.agg (encS Lc).toArray) (by rfl) (exec_load _ 29 _ rfl Z15 rfl (encS Lc) _ (hF.range 3 rfl) und29 rfl (size33 leC)) ?_
            (try simp only [Act.put, Act.eval, List.setIfInBounds_toArray, List.set_cons_zero, List.set_cons_succ])
            refine wpList_on (.agg (encS Lc).toArray) (by rfl) (exec_load _ 29 _ rfl Z18 rfl (encS Lc) _ (hF.range 1 rfl) und29 rfl (size33 leC)) ?_
            (try simp only [Act.put, Act.eval, List.setIfInBounds_toArray, List.set_cons_zero, List.set_cons_succ])
            refine wpList_on (.bool (decide (Lc = Lc))) (by rfl) (exec_eql _ _ _ rfl (a := Lc) (b := Lc) SC SC rfl rfl) ?_
            (try simp only [Act.put, Act.eval, List.setIfInBounds_toArray, List.set_cons_zero, List.set_cons_succ])
            refine wpList_on ?_ (by rfl) ?_ ?_
            rotate_left
            focus (go_simp <;> with_reducible rfl)
            (try simp only [Act.put, Act.eval, List.setIfInBounds_toArray, List.set_cons_zero, List.set_cons_succ])
            refine wpList_on ?_ (by rfl) ?_ ?_
            rotate_left
            focus (go_simp <;> with_reducible rfl)
            (try simp only [Act.put, Act.eval, List.setIfInBounds_toArray, List.set_cons_zero, List.set_cons_succ])
            refine wpList_on (.agg #[.int .i64 0, .bool Da, .int .u64 Va]) (by rfl) (exec_load _ 35 _ rfl (Z9 + 1) rfl (encA 0 Da Va) _ (hF.range 6 rfl) und35 rfl size35) ?_
            (try simp only [Act.put, Act.eval, List.setIfInBounds_toArray, List.set_cons_zero, List.set_cons_succ])
            refine wpList_on (.agg #[.int .i64 0, .bool Da, .int .u64 Va]) (by rfl) (exec_load _ 35 _ rfl (Z18 + 1) rfl (encA 0 Da Va) _ (hF.range 0 rfl) und35 rfl size35) ?_
            (try simp only [Act.put, Act.eval, List.setIfInBounds_toArray, List.set_cons_zero, List.set_cons_succ])
            refine wpList_on ?_ (by rfl) ?_ ?_
            rotate_left
            focus (go_simp <;> with_reducible rfl)
            (try simp only [Act.put, Act.eval, List.setIfInBounds_toArray, List.set_cons_zero, List.set_cons_succ])
            refine wpList_on ?_ (by rfl) ?_ ?_
            rotate_left
            focus (go_simp <;> with_reducible rfl)
            (try simp only [Act.put, Act.eval, List.setIfInBounds_toArray, List.set_cons_zero, List.set_cons_succ])
            refine wpList_on ?_ (by rfl) ?_ ?_
            rotate_left
            focus (go_simp <;> with_reducible rfl)
            (try simp only [Act.put, Act.eval, List.setIfInBounds_toArray, List.set_cons_zero, List.set_cons_succ])
            refine wpList_on (.agg #[.int .i64 0, .bool Db, .int .u64 Vb]) (by rfl) (exec_load _ 35 _ rfl (Z12 + 1) rfl (encA 0 Db Vb) _ (hF.range 4 rfl) und35 rfl size35) ?_
            (try simp only [Act.put, Act.eval, List.setIfInBounds_toArray, List.set_cons_zero, List.set_cons_succ])
            refine wpList_on (.agg #[.int .i64 0, .bool Db, .int .u64 Vb]) (by rfl) (exec_load _ 35 _ rfl (Z15 + 1) rfl (encA 0 Db Vb) _ (hF.range 2 rfl) und35 rfl size35) ?_
            (try simp only [Act.put, Act.eval, List.setIfInBounds_toArray, List.set_cons_zero, List.set_cons_succ])
            refine wpList_on ?_ (by rfl) ?_ ?_
            rotate_left
            focus (go_simp <;> with_reducible rfl)
            (try simp only [Act.put, Act.eval, List.setIfInBounds_toArray, List.set_cons_zero, List.set_cons_succ])
            refine wpList_on ?_ (by rfl) ?_ ?_
            rotate_left
            focus (go_simp <;> with_reducible rfl)
            (try simp only [Act.put, Act.eval, List.setIfInBounds_toArray, List.set_cons_zero, List.set_cons_succ])
            refine wpList_on ?_ (by rfl) ?_ ?_
            rotate_left
            focus (go_simp <;> with_reducible rfl)
            (try simp only [Act.put, Act.eval, List.setIfInBounds_toArray, List.set_cons_zero, List.set_cons_succ])
            apply wpList_nil
            go_wp2_with fail
            go_ret
            exact ⟨rfl, hF.below⟩
          · have h2' : (Eb == 0) = false := by simpa using h2
            go_wp2_with fail
            go_ret
            exact ⟨rfl, hF.below⟩
        · have h1' : (Ea == 0) = false := by simpa using h1
          go_wp2_with fail
          go_ret
          exact ⟨rfl, hF.below⟩
    · have b14 : (14 : Int) < (l.length : Int) := by omega
      go_wp2_with fail
      go_ret
      exact ⟨rfl, hF.below⟩
  · have her' : (er == 0) = false := by simpa using her
    go_wp2_with fail
    go_ret
    exact ⟨rfl, hF.below⟩

theorem own : ownKnob Try.prog.godebug = none := by kernel_rfl
theorem laidOut : laidOutB Try.prog = true := by kernel_rfl

set_option maxRecDepth 100000 in
theorem lifted (os : Os) (started : os.Started) (H : Type) (enc : TypeId × Value → H) :
    ReturnsInHanded {} Try.checked os 6 .any (Rows.specApartSpec.pre6 enc Try.prog Try.f6 Rows.specApartRow.domain false) (Rows.specApartSpec.post enc Try.prog Try.f6 false true false false) := by
  refine returnsInHanded_of_change_sized (C := Try.checked) own started (by kernel_rfl) Try.func6
    (ChangeSpec.witness6 (enc := enc) (C := Try.checked) false ⟨#[], #[.slice none 0 0, .agg #[.int .i64 0, .int .u64 0, .int .u64 0, .int .i64 0], .agg #[.int .i64 0, .int .u64 0, .int .u64 0, .int .i64 0]], []⟩ 8 (by kernel_rfl) (by kernel_rfl) (by kernel_rfl) (by kernel_rfl)) ?_
  intro W base args ds gs before hval0 hW hcnd hsz0 _
  have hval : ∀ (j : Nat) t v, Try.f6.params[j]? = some t → args[j]? = some v → Value.okWide Try.prog W .any base t v := hval0
  have hW' := hW
  obtain ⟨p, q, hA0, hV, rfl, hfz, hnd⟩ := hW
  have hA : DataW.TrodAll enc Try.prog W 0 (fun _ => true) true Try.f6.params.toList args.toList ds p := hA0
  have hsz : (DataW.weightsEach Try.prog (Try.f6.params.toList ++ Rows.specApartSpec.plain.varTypes Try.prog) (ds ++ gs)).all (· ≤ reachBytes) = true := hsz0
  clear hsz0
  rw [Try.params6] at hA hval hsz
  obtain ⟨v0, vs0, d0, ds0, p0, q0, hargs, rfl, rfl, g0, r0⟩ := trodAll_cons hA
  obtain ⟨v1, vs1, d1, ds1, p1, q1, rfl, rfl, rfl, g1, r1⟩ := trodAll_cons r0
  obtain ⟨v2, vs2, d2, ds2, p2, q2, rfl, rfl, rfl, g2, r2⟩ := trodAll_cons r1
  obtain ⟨rfl, rfl, rfl⟩ := trodAll_nil r2
  obtain rfl : args = #[v0, v1, v2] := by cases args; simp_all
  obtain ⟨rfl, rfl⟩ := trodVars_none hV
  obtain ⟨cs1, rfl, z1, H1⟩ := open_flat (ss := [.num .i64, .num .u64, .num .u64, .num .i64]) Try.underlying39 (by kernel_rfl) (by kernel_rfl) ⟨Try.underlying3, Try.underlying23, Try.underlying23, Try.underlying3, trivial⟩ (hval 1 39 v1 rfl rfl) g1
  obtain ⟨l1, rfl, z1⟩ := list_of z1
  obtain ⟨x1_0, x1_1, x1_2, x1_3, rfl⟩ := list4 z1
  obtain ⟨_, e, a1_0, rfl, w1_0⟩ := H1 0 _ rfl
  obtain rfl : x1_0 = .int .i64 a1_0 := by simpa using e
  clear e
  have h1_0 := i64_in w1_0
  obtain ⟨_, e, a1_1, rfl, w1_1⟩ := H1 1 _ rfl
  obtain rfl : x1_1 = .int .u64 a1_1 := by simpa using e
  clear e
  have h1_1 := u64_in w1_1
  obtain ⟨_, e, a1_2, rfl, w1_2⟩ := H1 2 _ rfl
  obtain rfl : x1_2 = .int .u64 a1_2 := by simpa using e
  clear e
  have h1_2 := u64_in w1_2
  obtain ⟨_, e, a1_3, rfl, w1_3⟩ := H1 3 _ rfl
  obtain rfl : x1_3 = .int .i64 a1_3 := by simpa using e
  clear e
  have h1_3 := i64_in w1_3
  clear H1
  obtain ⟨cs2, rfl, z2, H2⟩ := open_flat (ss := [.num .i64, .num .u64, .num .u64, .num .i64]) Try.underlying39 (by kernel_rfl) (by kernel_rfl) ⟨Try.underlying3, Try.underlying23, Try.underlying23, Try.underlying3, trivial⟩ (hval 2 39 v2 rfl rfl) g2
  obtain ⟨l2, rfl, z2⟩ := list_of z2
  obtain ⟨x2_0, x2_1, x2_2, x2_3, rfl⟩ := list4 z2
  obtain ⟨_, e, a2_0, rfl, w2_0⟩ := H2 0 _ rfl
  obtain rfl : x2_0 = .int .i64 a2_0 := by simpa using e
  clear e
  have h2_0 := i64_in w2_0
  obtain ⟨_, e, a2_1, rfl, w2_1⟩ := H2 1 _ rfl
  obtain rfl : x2_1 = .int .u64 a2_1 := by simpa using e
  clear e
  have h2_1 := u64_in w2_1
  obtain ⟨_, e, a2_2, rfl, w2_2⟩ := H2 2 _ rfl
  obtain rfl : x2_2 = .int .u64 a2_2 := by simpa using e
  clear e
  have h2_2 := u64_in w2_2
  obtain ⟨_, e, a2_3, rfl, w2_3⟩ := H2 3 _ rfl
  obtain rfl : x2_3 = .int .i64 a2_3 := by simpa using e
  clear e
  have h2_3 := i64_in w2_3
  clear H2
  obtain ⟨A0, n0, cap0, rfl⟩ := okWide_slice Try.underlying46 (hval 0 46 v0 rfl rfl)
  have s0 := row_size (by' := 16) Try.underlying46 (by kernel_rfl) g0 hsz (j := 0) rfl rfl
  obtain ⟨zs0, rfl, h0, w0, row0⟩ := open_Pairs g0 (fun x hx => hW'.lt x (by simp [hx]))
  unfold maxLen at h0
  clear hA0 hval0
  refine (walk zs0 A0 cap0 a1_0 a1_1 a1_2 a1_3 a2_0 a2_1 a2_2 a2_3 W s0 w0 row0 h1_1 h1_2 h2_1 h2_2).mono fun e W' ⟨he, hg⟩ => ?_
  subst he
  exact ⟨_, rfl, law_post laidOut (by kernel_rfl) (by kernel_rfl) Try.underlying4 rfl rfl hW' hg⟩

theorem over : Rows.specApartRow.holds Try.pinned (OpenSpec.ofChange Rows.specApartSpec) :=
  OpenClaim.holds_of_wide 6 Try.f6 rfl rfl rfl rfl rfl rfl rfl ⟨rfl, rfl, rfl, rfl, rfl⟩ rfl rfl rfl rfl rfl (by kernel_rfl) Try.func6 (by kernel_rfl)
    (of_decide_eq_true (by kernel_rfl)) (by unfold Func.isWrapper; first | (rw [if_pos (by decide +kernel)]; kernel_rfl) | (rw [if_neg (by decide +kernel)]; exact ⟨rfl, rfl⟩))
    (fun os started H enc _ => lifted os started H enc)

/-- THE STATEMENT. -/
theorem proved : Rows.SpecApartSaid := over
#print axioms proved
end Go.Proofs.Ytdeohigggjfjjaa.specApart
