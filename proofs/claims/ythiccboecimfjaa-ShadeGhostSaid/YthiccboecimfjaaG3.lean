/- What is proved on the way to the statement, part 3 of 5: contracts of the functions, among other things in memory. -/
import Derived.Test.YthiccboecimfjaaG2
import Derived.WalkKit
import Derived.Orders
import Derived.Lib.SliceRun
import Derived.Deep.CutRange
import Derived.Shelf.SlMaps.Clone
import Derived.Ground.SlmcProg
import Derived.Test.YthiccboecimfjaaProg
import Derived.Maps.RangeWalk
import Derived.LoopTactic
import Derived.OwnWalkIn
import Derived.TacticsInMore
import Derived.LoopNIn
import Derived.LoopIn
import Derived.Maps.AppendAt
import Derived.ProofKit
import Derived.OpenShut
import Derived.Deep.SlicePairs

/- A drawn region whose operations each come to one value, whatever the order: walked once, in the order of the text. S says what every world on the way keeps (cells that are read, what has not turned); loads, arithmetic and calls (of functions that may make memory) go by it. -/
namespace Go.Proofs.Ythiccboecimfjaa
open Go
set_option maxRecDepth 100000

section
variable {P : Program} {ops : Array Oper} {Q : Exit → Act → World → Prop} {md : Region.Mode} {S : World → Prop}

/-- What a run comes to: the value v, or a call that comes to v; S is kept. -/
def LandsIn (P : Program) (S : World → Prop) (v : Value) : Result Next → Prop
  | .ok (.value u) w' => u = v ∧ S w'
  | .ok .skip w' => v = undef ∧ S w'
  | .ok (.enter f args) w' => Calls P f args w' fun e w'' => e = .returned v ∧ S w''
  | _ => False

/-- In frame a the operation comes to v from every world that meets S. -/
def Settles (P : Program) (ops : Array Oper) (S : World → Prop) (o : Oper) (v : Value) (a : Act) : Prop :=
  (Region.wanted o (yielded ops a.tmps) = true ∧ ∀ w, S w → LandsIn P S v ((execOp a.eval o).run P w)) ∨ (Region.wanted o (yielded ops a.tmps) = false ∧ v = undef)

theorem Settles.of_same {o : Oper} {v : Value} {a a' : Act} (h : Settles P ops S o v a) (he : execOp a'.eval o = execOp a.eval o)
    (hw : Region.wanted o (yielded ops a'.tmps) = Region.wanted o (yielded ops a.tmps)) : Settles P ops S o v a' := by
  unfold Settles at *
  rw [he, hw]
  exact h

theorem Settles.wpOp {i : Nat} {o : Oper} {v : Value} {a : Act} (hi : ops[i]? = some o) (h : Settles P ops S o v a) {K : Act → World → Prop} {w : World} (hS : S w)
    (hK : ∀ w', S w' → K (a.put o.dst v) w') : wpOp P ops Q i K a w := by
  unfold Go.wpOp
  simp only [hi]
  rcases h with ⟨hw, hv⟩ | ⟨hw, rfl⟩
  · simp only [hw, if_true]
    have := hv w hS
    refine .inl ?_
    unfold Oper.wp
    generalize (execOp a.eval o).run P w = r at *
    cases r with
    | ok n w' =>
      cases n <;> simp only [LandsIn] at this <;> simp only [Oper.upon]
      case value u => obtain ⟨rfl, h2⟩ := this; exact hK _ h2
      case skip => obtain ⟨rfl, h2⟩ := this; exact hK _ h2
      case enter f args =>
        refine Calls.mono this fun e w'' he => ?_
        obtain ⟨rfl, h2⟩ := he
        exact hK _ h2
    | halt x w' => simp only [LandsIn] at this
  · simp only [hw, Bool.false_eq_true, if_false]
    exact hK _ hS

/-- Whatever order is picked: each operation comes to a value that hangs on the frame alone. -/
def Every (P : Program) (md : Region.Mode) (ops : Array Oper) (Q : Exit → Act → World → Prop) (S : World → Prop) : Nat → Array Bool → Act → Prop
  | 0, listed, a => Region.ready md ops listed = [] ∧ ∀ w, S w → Q .normal a w
  | fuel + 1, listed, a => (Region.ready md ops listed = [] → ∀ w, S w → Q .normal a w) ∧
    ∀ i ∈ Region.ready md ops listed, ∃ o v, ops[i]? = some o ∧ Settles P ops S o v a ∧ Every P md ops Q S fuel (listed.setIfInBounds i true) (a.put o.dst v)

theorem Every.sound : ∀ (fuel : Nat) (listed : Array Bool) (a : Act), Every P md ops Q S fuel listed a → ∀ w, S w → wpAny P md ops Q fuel listed a w
  | 0, _, _, h, w, hS => ⟨h.1, h.2 w hS⟩
  | fuel + 1, listed, a, h, w, hS => ⟨fun h0 => h.1 h0 w hS, fun i hi => by
      obtain ⟨o, v, ho, hs, hE⟩ := h.2 i hi
      exact hs.wpOp ho hS fun w' hS' => Every.sound fuel _ _ hE w' hS'⟩

theorem Every.first {i : Nat} {oi : Oper} {v : Value} (hi : ops[i]? = some oi) (hsel : ∀ (j : Nat) (o : Oper) cs b, ops[j]? = some o → o.op ≠ .select cs b) :
    ∀ (fuel : Nat) (listed : Array Bool) (a : Act),
      (∀ j oj, ops[j]? = some oj → j ≠ i → listed.getD j true = false → (∀ e ∈ oj.after, Region.binds md e = true → e.on ≠ i) → oi.apart ops oj = true) →
      i ∈ Region.ready md ops listed → Settles P ops S oi v a →
      Every P md ops Q S fuel (listed.setIfInBounds i true) (a.put oi.dst v) → Every P md ops Q S (fuel + 1) listed a := by
  intro fuel
  induction fuel with
  | zero =>
    intro listed a _ hr hy H
    refine ⟨fun h => (by rw [h] at hr; cases hr), fun j hj => ?_⟩
    by_cases hji : j = i
    · subst hji; exact ⟨oi, v, hi, hy, H⟩
    · have := ready_mono hj hji
      rw [H.1] at this
      cases this
  | succ fuel ih =>
    intro listed a hfree hr hy H
    refine ⟨fun h => (by rw [h] at hr; cases hr), fun j hj => ?_⟩
    by_cases hji : j = i
    · subst hji; exact ⟨oi, v, hi, hy, H⟩
    · obtain ⟨oj, u, hoj, hsj, hE⟩ := H.2 j (ready_mono hj hji)
      obtain ⟨hjun, oj', hoj', hall⟩ := mem_ready.1 hj
      obtain rfl : oj = oj' := Option.some.inj (hoj.symm.trans hoj')
      have hnot : ∀ e ∈ oj.after, Region.binds md e = true → e.on ≠ i := fun e he hb heq => by
        have h1 := hall e he hb
        have h0 := (mem_ready.1 hr).1
        rw [heq] at h1
        rcases Nat.lt_or_ge i listed.size with h' | h'
        · simp [h'] at h0 h1; rw [h0] at h1; cases h1
        · simp [Array.getElem?_eq_none h'] at h1
      have hap := hfree j oj hoj hji hjun hnot
      obtain ⟨p1, p2, p3⟩ := Oper.apart_spec hap
      have hfree' : ∀ k ok, ops[k]? = some ok → k ≠ i → (listed.setIfInBounds j true).getD k true = false →
          (∀ e ∈ ok.after, Region.binds md e = true → e.on ≠ i) → oi.apart ops ok = true := fun k ok hk hki hun hno => by
        refine hfree k ok hk hki ?_ hno
        by_cases hjk : j = k
        · subst hjk; exact hjun
        · rw [getD_set_ne true hjk] at hun; exact hun
      refine ⟨oj, u, hoj, hsj.of_same (execOp_put oj (fun cs b => hsel j oj cs b hoj) a oi.dst v p1).symm (wanted_put oj a oi.dst v p1).symm, ?_⟩
      refine ih (listed.setIfInBounds j true) (a.put oj.dst u) hfree' (ready_mono hr (Ne.symm hji)) (hy.of_same (execOp_put oi (fun cs b => hsel i oi cs b hi) a oj.dst u p3) (wanted_put oi a oj.dst u p3)) ?_
      rw [Array.setIfInBounds_comm _ _ hji, ← Act.put_comm a v u p2]
      exact hE

/-- The operations of the text from k on, in its order. -/
def firstK (n k : Nat) : Array Bool := Array.ofFn (n := n) fun i => decide (i.1 < k)
def textFits (md : Region.Mode) (ops : Array Oper) : Bool :=
  Region.noSelect ops && (List.range ops.size).all fun k => Region.free md ops (firstK ops.size k) k && (Region.ready md ops (firstK ops.size k)).contains k
def InText (P : Program) (md : Region.Mode) (ops : Array Oper) (Q : Exit → Act → World → Prop) (S : World → Prop) (rest : List Oper) (a : Act) : Prop :=
  ∀ k, k + rest.length = ops.size → ops.toList.drop k = rest → Every P md ops Q S rest.length (firstK ops.size k) a

theorem firstK_succ (n k : Nat) : (firstK n k).setIfInBounds k true = firstK n (k + 1) := by
  apply Array.ext
  · simp [firstK]
  · intro i h1 h2
    by_cases hik : i = k
    · subst hik
      simp [firstK]
    · have e := Array.getElem_setIfInBounds_ne (xs := firstK n k) (i := k) (j := i) (a := true) (by simpa using h1) (by omega)
      rw [e]
      simp only [firstK, Array.getElem_ofFn]
      congr 1
      apply propext
      omega

theorem InText.nil {a : Act} (h : ∀ w, S w → Q .normal a w) : InText P md ops Q S [] a := fun k hk _ => by
  refine ⟨?_, h⟩
  have hk' : k = ops.size := by simpa using hk
  subst hk'
  unfold Region.ready
  rw [List.filter_eq_nil_iff]
  intro i hi
  have : i < ops.size := by simpa using hi
  simp [firstK, this]

theorem InText.cons {o : Oper} {rest : List Oper} {a : Act} {v : Value} (hf : textFits md ops = true) (hs : Settles P ops S o v a) (h : InText P md ops Q S rest (a.put o.dst v)) : InText P md ops Q S (o :: rest) a := fun k hk hd => by
  unfold textFits at hf
  rw [Bool.and_eq_true, List.all_eq_true] at hf
  have hlt : k < ops.size := by simp at hk; omega
  have hf2 := hf.2 k (by simpa using hlt)
  rw [Bool.and_eq_true] at hf2
  have ho : ops[k]? = some o := by
    have h0 : (ops.toList.drop k)[0]? = some o := by rw [hd]; rfl
    simpa using h0
  have hsel : ∀ (j : Nat) (o : Oper) cs b, ops[j]? = some o → o.op ≠ .select cs b := Region.noSelect_spec hf.1
  refine Every.first ho hsel rest.length (firstK ops.size k) a (Region.free_spec ho hf2.1) (by simpa using hf2.2) hs ?_
  rw [firstK_succ]
  refine h (k + 1) (by simp at hk; omega) ?_
  rw [← List.drop_drop, hd]
  rfl

/-- The start. -/
theorem wp_text {id : Nat} {a : Act} {w : World} (hm : P.follows .mixedOrders = true) (hf : textFits .any ops = true) (hS : S w.drew) (h : textFits .any ops = true → InText P .any ops Q S ops.toList a) : (Code.region id ops true).wp P Q a w :=
  wp_region_any hm (by
    have h0 := h hf 0 (by simp) rfl
    have e : firstK ops.size 0 = Array.replicate ops.size false := by
      apply Array.ext
      · simp [firstK]
      · intro i h1 h2; simp [firstK]
    rw [e] at h0
    simpa using Every.sound _ _ _ h0 _ hS)

/-- One step each: a value (arithmetic, a load, a move). -/
theorem text_value {o : Oper} {rest : List Oper} {a : Act} {v : Value} (hf : textFits md ops = true) (hw : Region.wanted o (yielded ops a.tmps) = true) (hv : ∀ w, S w → (execOp a.eval o).run P w = .ok (.value v) w)
    (h : InText P md ops Q S rest (a.put o.dst v)) : InText P md ops Q S (o :: rest) a :=
  InText.cons hf (Or.inl ⟨hw, fun w hS => by rw [hv w hS]; exact ⟨rfl, hS⟩⟩) h
/-- .. an operation that is not wanted .. -/
theorem text_off {o : Oper} {rest : List Oper} {a : Act} (hf : textFits md ops = true) (hw : Region.wanted o (yielded ops a.tmps) = false) (h : InText P md ops Q S rest (a.put o.dst undef)) : InText P md ops Q S (o :: rest) a :=
  InText.cons hf (Or.inr ⟨hw, rfl⟩) h
/-- .. a call. -/
theorem text_call {o : Oper} {rest : List Oper} {a : Act} {v : Value} {f : FuncId} {args : Array Value} (hf : textFits md ops = true) (hw : Region.wanted o (yielded ops a.tmps) = true) (hr : ∀ w, S w → (execOp a.eval o).run P w = .ok (.enter f args) w)
    (hc : ∀ w, S w → Calls P f args w fun e w' => e = .returned v ∧ S w') (h : InText P md ops Q S rest (a.put o.dst v)) : InText P md ops Q S (o :: rest) a :=
  InText.cons hf (Or.inl ⟨hw, fun w hS => by rw [hr w hS]; exact hc w hS⟩) h
end
end Go.Proofs.Ythiccboecimfjaa

/- Contracts of layer 6: who a slot is; of nothing. -/
namespace Go.Proofs.Ythiccboecimfjaa
open Go.RowKit Go.Maps
set_option maxRecDepth 100000

theorem IsS.over {w w' : World} {s : Nat} {F : Nat → Prop} {l : List Int} (h : IsS w s F l) (hb : Below w.heap.size w w') : IsS w' s F l := h.loc (fun k hk => hb.block k (h.lt k hk)) hb.size
/-- What stands in the block, and what a look-up is told. -/
theorem IsS.look {w : World} {s : Nat} {F : Nat → Prop} {l : List Int} (h : IsS w s F l) {x : Int} (hx : In64 x) (hl : l.length ≤ 1000000) :
    ∃ A0 c0 mp A cap, (∀ i, w.cell? ⟨s, i, none⟩ = [Value.slice A0 l.length c0, Value.map mp][i]?) ∧ s < w.heap.size ∧ Cells1 w A0 l ∧ (Instr.lookup 99 (.map mp) (.int .i64 x) false).run Try.prog w = .ok (.slice A (ids l x).length cap) w ∧
      w.ownsRow 0 3 1 (.slice A (ids l x).length cap) (ids l x).length (ints (ids l x)) := by
  obtain ⟨v, mp, G, hb, ho, hm, _⟩ := h
  obtain ⟨A0, c0, rfl⟩ := ownsRow_slice ho
  rcases hm with ⟨rfl, rfl, _⟩ | ⟨b, rfl, hL⟩
  · refine ⟨A0, c0, none, none, 0, hb.rule, hb.1, cells1 ho, ?_, World.ownsRow_nil _ _ _ _⟩
    have := Maps.look_nil (w := w) false keyedI Try.underlying99 (zeroInts w) (keyI hx)
    simpa [ids_nil] using this
  · obtain ⟨A, cap, h1, h2, _⟩ := hL.look hx hl
    exact ⟨A0, c0, some b, A, cap, hb.rule, hb.1, cells1 ho, h1 w rfl, ownsRow_base h2 (Nat.zero_le _)⟩

section
variable {w : World}
set_option maxHeartbeats 800000 in
theorem now_nil (x : Int) : Calls Try.prog 59 #[.pointer none, .int .i64 x] w fun e w' => e = .returned (.int .i64 0) ∧ w' = w := by
  go_enter Try.func59, Try.ntmps59
  go_wp2
  go_ret
  exact ⟨rfl, rfl⟩
end

section
variable {s : Nat} {F : Nat → Prop} {l : List Int} {w : World}
set_option maxHeartbeats 800000 in
theorem now_any (x : Int) (hx : In64 x) (hl : l.length ≤ 1000000) (hS : IsS w s F l) :
    Calls Try.prog 59 #[.pointer (some ⟨s, 0, none⟩), .int .i64 x] w fun e w' => e = .returned (.int .i64 (nowL l x)) ∧ w' = w := by
  obtain ⟨A0, c0, mp, A, cap, r, hsl, _, hlook, hrow⟩ := hS.look hx hl
  have hc := cells1 hrow
  have hidl := ids_length_le l x
  have hnow : nowL l x = (ids l x).getLastD 0 := rfl
  rw [hnow]
  clear hnow hrow
  generalize ids l x = m at *
  rcases hc with rfl | ⟨g, rfl, hg, hc⟩
  · go_enter Try.func59, Try.ntmps59
    go_wp2
    go_ret
    exact ⟨rfl, rfl⟩
  · by_cases h0 : m.length = 0
    · have hm : m = [] := List.eq_nil_of_length_eq_zero h0
      subst hm
      go_enter Try.func59, Try.ntmps59
      go_wp2
      go_ret
      exact ⟨rfl, rfl⟩
    · have hlast := hc (m.length - 1) (by omega)
      have e1 : m.getLastD 0 = m.getD (m.length - 1) 0 := by
        rcases m with _ | ⟨a, m⟩
        · simp at h0
        · rw [List.getLastD_cons]
          simp [List.getD, List.getLastD_eq_getLast?, List.getLast?_eq_getElem?]
          cases m <;> simp
      rw [e1]
      generalize m.getD (m.length - 1) 0 = z at *
      have hb : ((m.length : Int) == 0) = false := by rw [beq_eq_false_iff_ne]; omega
      have hw : wrap64 ((m.length : Int) - 1) = ((m.length - 1 : Nat) : Int) := by rw [w64 _ (by omega)]; omega
      have hin : (0 : Int) ≤ ((m.length - 1 : Nat) : Int) ∧ ((m.length - 1 : Nat) : Int) < m.length := by omega
      clear hc
      go_enter Try.func59, Try.ntmps59
      go_wp2
      go_ret
      exact ⟨rfl, rfl⟩

end
end Go.Proofs.Ythiccboecimfjaa

/- The plain world, watched: what it is in memory; its small functions; whether a reference is stale. -/
namespace Go.Proofs.Ythiccboecimfjaa
open Go.RowKit Go.Maps
set_option maxRecDepth 100000

/-- A ghost's cells. -/
def gv (p : Nat) (mp : Option Nat) (s : Nat) (st fa : Int) : List Value := [.pointer (some ⟨p, 0, none⟩), .map mp, .pointer (some ⟨s, 0, none⟩), .int .i64 st, .int .i64 fa]
/-- Whether a reference is stale. -/
def stB (l : List Int) (x y d : Int) : Bool := decide (x = 5) && decide (nowL l y ≠ d)
/-- How many faults there are behind a word that is written. -/
def faS (l : List Int) (x y d : Int) (b : Bool) (fa : Int) : Int := if (b || stB l x y d) = true then wrap64 (fa + 1) else fa

section
variable {w0 w : World} {L : List Item} {g p s c n m : Nat} {mp : Option Nat} {S F : Nat → Prop} {h f : Plc → Int} {l : List Int} {q : Cnt} {st fa : Int}
theorem watched_any {w : World} (hb : Blk 0 w g (gv p mp s st fa)) :
    Calls Try.prog 47 #[.pointer (some ⟨g, 0, none⟩)] w fun e w' => e = .returned (.pointer (some ⟨p, 0, none⟩)) ∧ w' = w := by
  have r := hb.rule
  unfold gv at r
  go_enter Try.func47, Try.ntmps47
  go_wp2
  go_ret
  exact ⟨rfl, rfl⟩
theorem souls_any {w : World} (hb : Blk 0 w g (gv p mp s st fa)) :
    Calls Try.prog 49 #[.pointer (some ⟨g, 0, none⟩)] w fun e w' => e = .returned (.pointer (some ⟨s, 0, none⟩)) ∧ w' = w := by
  have r := hb.rule
  unfold gv at r
  go_enter Try.func49, Try.ntmps49
  go_wp2
  go_ret
  exact ⟨rfl, rfl⟩
theorem stale_any {w : World} (hb : Blk 0 w g (gv p mp s st fa)) :
    Calls Try.prog 25 #[.pointer (some ⟨g, 0, none⟩)] w fun e w' => e = .returned (.int .i64 st) ∧ w' = w := by
  have r := hb.rule
  unfold gv at r
  go_enter Try.func25, Try.ntmps25
  go_wp2
  go_ret
  exact ⟨rfl, rfl⟩
theorem faults_any {w : World} (hb : Blk 0 w g (gv p mp s st fa)) :
    Calls Try.prog 24 #[.pointer (some ⟨g, 0, none⟩)] w fun e w' => e = .returned (.int .i64 fa) ∧ w' = w := by
  have r := hb.rule
  unfold gv at r
  go_enter Try.func24, Try.ntmps24
  go_wp2
  go_ret
  exact ⟨rfl, rfl⟩
theorem Env.gblk (hE : Env w0 L w) (i : Nat) (hi : L[i]? = some (boxI g (gv p mp s st fa))) : Blk 0 w g (gv p mp s st fa) := hE.get i hi

set_option maxHeartbeats 1600000 in
theorem isStale_any (x y z d : Int) (hy : In64 y) (hl : l.length ≤ 1000000) (i j : Nat) (hE : Env w0 L w) (hg : L[i]? = some (boxI g (gv p mp s st fa))) (hs : L[j]? = some (soulI s S l)) :
    Calls Try.prog 42 #[.pointer (some ⟨g, 0, none⟩), .agg #[.int .i64 x, .int .i64 y, .int .i64 z, .int .i64 d]] w fun e w' => e = .returned (.bool (stB l x y d)) ∧ Below w.heap.size w w' := by
  have hb := (Below.refl w.heap.size w).alloc (Nat.le_refl _) (.cells #[.int .i64 x, .int .i64 y, .int .i64 z, .int .i64 d] 46)
  replace hE := hE.box w.heap.size rfl [.int .i64 x, .int .i64 y, .int .i64 z, .int .i64 d] 46
  have HY := Lib.hid hy
  clear hy
  go_enter Try.func42, Try.ntmps42
  go_wp2_with fail
  obtain ⟨X, hXw⟩ : ∃ X, X = w.heap.size := ⟨_, rfl⟩
  rw [← hXw] at hE ⊢
  have HXW := Lib.hid hXw
  clear hXw
  have hg1 : (boxI X [.int .i64 x, .int .i64 y, .int .i64 z, .int .i64 d] :: L)[i + 1]? = some (boxI g (gv p mp s st fa)) := hg
  have hs1 : (boxI X [.int .i64 x, .int .i64 y, .int .i64 z, .int .i64 d] :: L)[j + 1]? = some (soulI s S l) := hs
  by_cases h5 : x = 5
  · have e1 : stB l x y d = (nowL l y != d) := by simp [stB, h5, bne, decide_not]; rfl
    have E1 := Lib.hid e1
    clear e1
    subst h5
    refine Ord.wp_chain [] (fun w' => Env w0 (boxI X [.int .i64 5, .int .i64 y, .int .i64 z, .int .i64 d] :: L) w' ∧ Below w.heap.size w w') (fun _ _ => True) (by kernel_rfl) (by kernel_rfl) (by kernel_rfl) ⟨hE.drew, hb.drew⟩ trivial (fun hT => ?_)
    have hT9 := Lib.hid hT
    clear hT
    repeat (first
      | (refine Ord.ch_value (v := ?_) hT9.out (by decide) (by rfl) ?_ ?_; rotate_left; (focus (intro w5 hS; have r := hS.1.rule 0 rfl; have r1 := hS.1.rule (i + 1) hg1; unfold gv at r1; go_simp <;> with_reducible rfl)); (try simp only [Act.put, List.setIfInBounds_toArray, List.set_cons_zero, List.set_cons_succ]))
      | (refine Ord.ch_off hT9.out (by decide) (by rfl) ?_; (try simp only [Act.put, List.setIfInBounds_toArray, List.set_cons_zero, List.set_cons_succ]))
      | (refine Ord.ch_call (v := ?_) (f := ?_) (args := ?_) hT9.out (by decide) (by rfl) ?_ ?_ ?_; rotate_left 3; (focus (intro w5 hS; have r := hS.1.rule 0 rfl; have r1 := hS.1.rule (i + 1) hg1; unfold gv at r1; go_simp; constructor <;> with_reducible rfl)); (focus (intro w5 hS; (first | (with_reducible refine (now_any y HY.out hl (hS.1.soul (j + 1) hs1)).mono ?_; rintro e w6 ⟨rfl, rfl⟩; constructor; with_reducible rfl; exact ⟨hS, fun _ h => h⟩)))); (try simp only [Act.put, List.setIfInBounds_toArray, List.set_cons_zero, List.set_cons_succ])))
    refine Ord.InText.nil fun w5 hS => ?_
    clear hT9
    obtain ⟨hC9, hA9⟩ := Ord.chain_end hS
    clear hS
    go_wp2
    go_ret
    exact ⟨ret_bool E1.out.symm, hC9.2⟩
  · have e1 : stB l x y d = false := by simp [stB, h5]
    have E1 := Lib.hid e1
    clear e1
    have h5' : (x == 5) = false := by simpa using h5
    refine Ord.wp_chain [] (fun w' => Env w0 (boxI X [.int .i64 x, .int .i64 y, .int .i64 z, .int .i64 d] :: L) w' ∧ Below w.heap.size w w') (fun _ _ => True) (by kernel_rfl) (by kernel_rfl) (by kernel_rfl) ⟨hE.drew, hb.drew⟩ trivial (fun hT => ?_)
    have hT9 := Lib.hid hT
    clear hT
    repeat (first
      | (refine Ord.ch_value (v := ?_) hT9.out (by decide) (by rfl) ?_ ?_; rotate_left; (focus (intro w5 hS; have r := hS.1.rule 0 rfl; have r1 := hS.1.rule (i + 1) hg1; unfold gv at r1; go_simp <;> with_reducible rfl)); (try simp only [Act.put, List.setIfInBounds_toArray, List.set_cons_zero, List.set_cons_succ]))
      | (refine Ord.ch_off hT9.out (by decide) (by rfl) ?_; (try simp only [Act.put, List.setIfInBounds_toArray, List.set_cons_zero, List.set_cons_succ]))
      | (refine Ord.ch_call (v := ?_) (f := ?_) (args := ?_) hT9.out (by decide) (by rfl) ?_ ?_ ?_; rotate_left 3; (focus (intro w5 hS; have r := hS.1.rule 0 rfl; have r1 := hS.1.rule (i + 1) hg1; unfold gv at r1; go_simp; constructor <;> with_reducible rfl)); (focus (intro w5 hS; (first | fail))); (try simp only [Act.put, List.setIfInBounds_toArray, List.set_cons_zero, List.set_cons_succ])))
    refine Ord.InText.nil fun w5 hS => ?_
    clear hT9
    obtain ⟨hC9, hA9⟩ := Ord.chain_end hS
    clear hS
    go_wp2
    go_ret
    exact ⟨ret_bool E1.out.symm, hC9.2⟩
end
end Go.Proofs.Ythiccboecimfjaa

/- The plain world, watched: what is written. -/
namespace Go.Proofs.Ythiccboecimfjaa
open Go.RowKit Go.Maps
set_option maxRecDepth 100000

section
variable {w0 w : World} {L : List Item} {g p s c n m : Nat} {mp : Option Nat} {S F : Nat → Prop} {h f : Plc → Int} {l : List Int} {q : Cnt} {st fa : Int}
set_option maxHeartbeats 3200000 in
theorem written_g (x y z d v0 e : Int) (b sb : Bool) (hx : Wf (x, y, z)) (he : In64 e) (hm : m < maxLen) (hl : l.length ≤ 1000000) (i : Nat) (hE : Env w0 L w) (hg : L[i]? = some (boxI g (gv p mp s st fa))) (hh : L[i + 1]? = some (leadsI mp h m)) (hs : L[i + 2]? = some (soulI s S l)) :
    Calls Try.prog 45 #[.pointer (some ⟨g, 0, none⟩), .agg #[.int .i64 x, .int .i64 y, .int .i64 z, .int .i64 d], .agg #[.int .u64 v0, .int .i64 e, .bool b], .bool sb] w fun e' w' => e' = .returned (.tuple #[]) ∧ ∃ mp', Env w0 ((L.set i (boxI g (gv p mp' s st (faS l x y d sb fa)))).set (i + 1) (leadsI mp' (upd h (x, y, z) e) (m + 1))) w' := by
  replace hE := (hE.box w.heap.size rfl [.int .i64 x, .int .i64 y, .int .i64 z, .int .i64 d] 46).box (w.heap.size + 1) (by simp) [.int .u64 v0, .int .i64 e, .bool b] 42
  have HX := Lib.hid hx
  have HE := Lib.hid he
  clear hx he
  generalize hfa : faS l x y d sb fa = fz
  unfold faS at hfa
  have HFZ := Lib.hid hfa
  clear hfa
  go_enter Try.func45, Try.ntmps45
  go_upto_region 1 with fail
  generalize (w.alloc _).alloc _ = w1 at *
  generalize w.heap.size + 1 = Y at *
  generalize w.heap.size = X at *
  have hXg : ¬ X = g := hE.off (i := 1) (j := i + 2) rfl hg (by omega) X rfl
  have hYg : ¬ Y = g := hE.off (i := 0) (j := i + 2) rfl hg (by omega) Y rfl
  have hgX : ¬ g = X := fun e => hXg e.symm
  have hgY : ¬ g = Y := fun e => hYg e.symm
  have z4 := fun (v : World) (hE : Env w0 (boxI Y [.int .u64 v0, .int .i64 e, .bool b] :: boxI X [.int .i64 x, .int .i64 y, .int .i64 z, .int .i64 d] :: L) v) => hE.thaw (i + 2) hg 4 (by simp [gv])
  have hT : ∀ (v : World), Env w0 (boxI Y [.int .u64 v0, .int .i64 e, .bool b] :: boxI X [.int .i64 x, .int .i64 y, .int .i64 z, .int .i64 d] :: L) v → Env w0 (boxI Y [.int .u64 v0, .int .i64 e, .bool b] :: boxI X [.int .i64 x, .int .i64 y, .int .i64 z, .int .i64 d] :: L.set i (boxI g (gv p mp s st (wrap64 (fa + 1))))) (v.setCell ⟨g, 4, none⟩ (.int .i64 (wrap64 (fa + 1)))) := fun v hE => hE.put (i + 2) hg (j := 4) (by simp [gv]) (.int .i64 (wrap64 (fa + 1)))
  have hT0 : ∀ (v : World), Env w0 (boxI Y [.int .u64 v0, .int .i64 e, .bool b] :: boxI X [.int .i64 x, .int .i64 y, .int .i64 z, .int .i64 d] :: L) v → Env w0 (boxI Y [.int .u64 v0, .int .i64 e, .bool b] :: boxI X [.int .i64 x, .int .i64 y, .int .i64 z, .int .i64 d] :: L.set i (boxI g (gv p mp s st fa))) v := fun v hE => by rw [setSelf hg]; exact hE
  have HT := Lib.hid hT
  have HT0 := Lib.hid hT0
  clear hT hT0
  cases sb
  case' true =>
    have r2 := hE.rule (i + 2) hg
    have z2 := z4 _ hE
    have hfa := HFZ.out
    clear HFZ
    unfold gv at r2
    go_upto_region 3 with fail
    have ez : wrap64 (fa + 1) = fz := by simpa using hfa
    replace hE := HT.out _ hE
    clear r2 z2 hfa
    generalize World.setCell _ _ _ = w3 at *
    rw [ez] at hE
    clear ez
  case' false =>
    have r0 := hE.rule 1 rfl
    go_wp2_with fail
    refine (isStale_any x y z d HX.out.2.1 hl (i + 2) (i + 4) hE hg hs).mono ?_
    rintro e1 w2 ⟨rfl, hb⟩
    replace hE := hE.over hb
    have hfa := HFZ.out
    rw [Bool.false_or] at hfa
    clear r0 hb HFZ
    generalize stB l x y d = t at *
    have r2 := hE.rule (i + 2) hg
    have z2 := z4 _ hE
    unfold gv at r2
    cases t
    case' false =>
      go_upto_region 3 with fail
      have ez : fa = fz := by simpa using hfa
      replace hE := HT0.out _ hE
      clear r2 z2 hfa
      rw [ez] at hE
      clear ez
      generalize w2 = w3 at *
    case' true =>
      go_upto_region 3 with fail
      have ez : wrap64 (fa + 1) = fz := by simpa using hfa
      replace hE := HT.out _ hE
      clear r2 z2 hfa
      generalize World.setCell _ _ _ = w3 at *
      rw [ez] at hE
      clear ez
  all_goals
    have hg1 : (L.set i (boxI g (gv p mp s st fz)))[i]? = some (boxI g (gv p mp s st fz)) := wself hg
    have hh1 : (L.set i (boxI g (gv p mp s st fz)))[i + 1]? = some (leadsI mp h m) := wset (j := i) (by omega) hh
    clear z4 HT HT0
    by_cases he0 : e = 0
    · subst he0
      have r0 := hE.rule 0 rfl
      go_wp2_with fail
      clear r0
      refine Ord.wp_chain [6] (fun w' => Blk 0 w' X [.int .i64 x, .int .i64 y, .int .i64 z, .int .i64 d] ∧ Blk 0 w' Y [.int .u64 v0, .int .i64 0, .bool b] ∧ Blk 0 w' g (gv p mp s st fz)) (Stage [Env w0 (boxI Y [.int .u64 v0, .int .i64 0, .bool b] :: boxI X [.int .i64 x, .int .i64 y, .int .i64 z, .int .i64 d] :: (L.set i (boxI g (gv p mp s st fz)))), Env w0 (boxI Y [.int .u64 v0, .int .i64 0, .bool b] :: boxI X [.int .i64 x, .int .i64 y, .int .i64 z, .int .i64 d] :: ((L.set i (boxI g (gv p mp s st fz)))).set (i + 1) (leadsI (mp) (upd h (x, y, z) 0) (m + 1)))]) (by kernel_rfl) (by kernel_rfl) (by kernel_rfl) ⟨hE.drew.get 1 rfl, hE.drew.get 0 rfl, hE.drew.get (i + 2) hg1⟩ ⟨_, rfl, hE.drew⟩ (fun hT => ?_)
      have hT9 := Lib.hid hT
      clear hT
      repeat (first
        | (refine Ord.ch_value (v := ?_) hT9.out (by decide) (by rfl) ?_ ?_; rotate_left; (focus (intro w5 hS; have r0 := hS.1.rule; have r1 := hS.2.1.rule; have r2 := hS.2.2.rule; unfold gv at r2; go_simp <;> with_reducible rfl)); (try simp only [Act.put, List.setIfInBounds_toArray, List.set_cons_zero, List.set_cons_succ]))
        | (refine Ord.ch_off hT9.out (by decide) (by rfl) ?_; (try simp only [Act.put, List.setIfInBounds_toArray, List.set_cons_zero, List.set_cons_succ])))
      refine Ord.ch_turn (v := .tuple #[]) 0 hT9.out rfl (by decide) (Or.inl rfl) (by rfl) ?_ ?_
      · rintro w5 hC5 ⟨P5, hP5, hA5⟩
        cases hP5
        obtain ⟨w6, hrun, hM6, ht⟩ := (hA5.leads (i + 3) hh1).drop HX.out 0
        simp only [pv] at hrun
        simp [execOp, resolve, invoke, builtin, Act.eval, hrun, Result.andThen]
        have hE6 := hA5.turnL (i + 3) hh1 (hM6.mono (Nat.le_succ _)) ht
        exact ⟨rfl, ⟨hE6.get 1 rfl, hE6.get 0 rfl, hE6.get (i + 2) (wset (j := i + 1) (by omega) hg1)⟩, _, rfl, hE6⟩
      (try simp only [Act.put, List.setIfInBounds_toArray, List.set_cons_zero, List.set_cons_succ])
      refine Ord.InText.nil fun w5 hS => ?_
      clear hT9
      obtain ⟨hC9, hA9⟩ := Ord.chain_end hS
      clear hS
      obtain ⟨P9, hP9, hA9⟩ := hA9
      cases hP9
      clear hC9 hE
      go_wp2
      (first | go_end0 | refine bodyPost_ret (results_none rfl _ _ _) rfl ?_)
      exact ⟨rfl, mp, hA9.sub (.cons _ (.cons _ (List.Sublist.refl _)))⟩
    · have heb : (e == 0) = false := by simpa using he0
      have hq := fun w => run_eql_map_nil_sl (P := Try.prog) w 81 _ _ mp Try.underlying81
      have r0 := hE.rule 0 rfl
      have r2 := hE.rule (i + 2) hg1
      have z1 := hE.thaw (i + 2) hg1 1 (by simp [gv])
      unfold gv at r2
      rcases mp with _ | mb
      · have hmm := @run_makeMap Try.prog
        simp only [Option.isNone_none] at hq
        have hgl := hE.boxLt (i + 2) hg1
        have r2o := fun o => cell_more hgl r2 o
        go_wp2_with fail
        replace hE := (hE.put (i + 2) hg1 (j := 1) (by simp [gv]) (.map (some w3.heap.size))).mapMade (i + 3) (wset (L := L.set i (boxI g (gv p none s st fz))) (j := i) (by omega) hh1) w3.heap.size (by simp [World.setCell])
        obtain ⟨mb, hmb⟩ : ∃ mb, w3.heap.size = mb := ⟨_, rfl⟩
        rw [hmb] at hE ⊢
        clear r0 r2 z1 hq heb hmm hgl r2o hmb
        change Env w0 (boxI Y [.int .u64 v0, .int .i64 e, .bool b] :: boxI X [.int .i64 x, .int .i64 y, .int .i64 z, .int .i64 d] :: ((L.set i (boxI g (gv p none s st fz))).set i (boxI g (gv p (some mb) s st fz))).set (i + 1) (leadsI (some mb) h m)) _ at hE
        rw [List.set_set] at hE
        have hg2 : ((L.set i (boxI g (gv p (some mb) s st fz))).set (i + 1) (leadsI (some mb) h m))[i]? = some (boxI g (gv p (some mb) s st fz)) := wset (j := i + 1) (by omega) (wself hg)
        have hh2 : ((L.set i (boxI g (gv p (some mb) s st fz))).set (i + 1) (leadsI (some mb) h m))[i + 1]? = some (leadsI (some mb) h m) := wself (wset (j := i) (a := leadsI none h m) (by omega) hh)
        generalize World.alloc _ _ = w4 at *
        refine Ord.wp_chain [8] (fun w' => Blk 0 w' X [.int .i64 x, .int .i64 y, .int .i64 z, .int .i64 d] ∧ Blk 0 w' Y [.int .u64 v0, .int .i64 e, .bool b] ∧ Blk 0 w' g (gv p (some mb) s st fz)) (Stage [Env w0 (boxI Y [.int .u64 v0, .int .i64 e, .bool b] :: boxI X [.int .i64 x, .int .i64 y, .int .i64 z, .int .i64 d] :: ((L.set i (boxI g (gv p (some mb) s st fz))).set (i + 1) (leadsI (some mb) h m))), Env w0 (boxI Y [.int .u64 v0, .int .i64 e, .bool b] :: boxI X [.int .i64 x, .int .i64 y, .int .i64 z, .int .i64 d] :: ((L.set i (boxI g (gv p (some mb) s st fz)))).set (i + 1) (leadsI ((some mb)) (upd h (x, y, z) e) (m + 1)))]) (by kernel_rfl) (by kernel_rfl) (by kernel_rfl) ⟨hE.drew.get 1 rfl, hE.drew.get 0 rfl, hE.drew.get (i + 2) hg2⟩ ⟨_, rfl, hE.drew⟩ (fun hT => ?_)
        have hT9 := Lib.hid hT
        clear hT
        repeat (first
          | (refine Ord.ch_value (v := ?_) hT9.out (by decide) (by rfl) ?_ ?_; rotate_left; (focus (intro w5 hS; have r0 := hS.1.rule; have r1 := hS.2.1.rule; have r2 := hS.2.2.rule; unfold gv at r2; go_simp <;> with_reducible rfl)); (try simp only [Act.put, List.setIfInBounds_toArray, List.set_cons_zero, List.set_cons_succ]))
          | (refine Ord.ch_off hT9.out (by decide) (by rfl) ?_; (try simp only [Act.put, List.setIfInBounds_toArray, List.set_cons_zero, List.set_cons_succ])))
        refine Ord.ch_turn (v := undef) 0 hT9.out rfl (by decide) (Or.inl rfl) (by rfl) ?_ ?_
        · rintro w5 hC5 ⟨P5, hP5, hA5⟩
          cases hP5
          obtain ⟨w6, hrun, hM6, ht⟩ := (hA5.leads (i + 3) hh2).store hm HX.out HE.out he0
          simp only [pv] at hrun
          simp [execOp, Act.eval, hrun, Result.andThen]
          have hE6 := hA5.turnL (i + 3) hh2 hM6 (ht.mono fun k _ e => by rw [e])
          change Env w0 (boxI Y [.int .u64 v0, .int .i64 e, .bool b] :: boxI X [.int .i64 x, .int .i64 y, .int .i64 z, .int .i64 d] :: ((L.set i (boxI g (gv p (some mb) s st fz))).set (i + 1) (leadsI (some mb) h m)).set (i + 1) (leadsI (some mb) (upd h (x, y, z) e) (m + 1))) _ at hE6
          rw [List.set_set] at hE6
          exact ⟨rfl, ⟨hE6.get 1 rfl, hE6.get 0 rfl, hE6.get (i + 2) (wset (j := i + 1) (by omega) (wself hg))⟩, _, rfl, hE6⟩
        (try simp only [Act.put, List.setIfInBounds_toArray, List.set_cons_zero, List.set_cons_succ])
        refine Ord.InText.nil fun w5 hS => ?_
        clear hT9
        obtain ⟨hC9, hA9⟩ := Ord.chain_end hS
        clear hS
        obtain ⟨P9, hP9, hA9⟩ := hA9
        cases hP9
        clear hC9 hE
        go_wp2
        (first | go_end0 | refine bodyPost_ret (results_none rfl _ _ _) rfl ?_)
        exact ⟨rfl, (some mb), hA9.sub (.cons _ (.cons _ (List.Sublist.refl _)))⟩
      · simp only [Option.isNone_some] at hq
        go_wp2_with fail
        clear r0 r2 z1 hq heb
        refine Ord.wp_chain [8] (fun w' => Blk 0 w' X [.int .i64 x, .int .i64 y, .int .i64 z, .int .i64 d] ∧ Blk 0 w' Y [.int .u64 v0, .int .i64 e, .bool b] ∧ Blk 0 w' g (gv p (some mb) s st fz)) (Stage [Env w0 (boxI Y [.int .u64 v0, .int .i64 e, .bool b] :: boxI X [.int .i64 x, .int .i64 y, .int .i64 z, .int .i64 d] :: (L.set i (boxI g (gv p (some mb) s st fz)))), Env w0 (boxI Y [.int .u64 v0, .int .i64 e, .bool b] :: boxI X [.int .i64 x, .int .i64 y, .int .i64 z, .int .i64 d] :: ((L.set i (boxI g (gv p (some mb) s st fz)))).set (i + 1) (leadsI ((some mb)) (upd h (x, y, z) e) (m + 1)))]) (by kernel_rfl) (by kernel_rfl) (by kernel_rfl) ⟨hE.drew.get 1 rfl, hE.drew.get 0 rfl, hE.drew.get (i + 2) hg1⟩ ⟨_, rfl, hE.drew⟩ (fun hT => ?_)
        have hT9 := Lib.hid hT
        clear hT
        repeat (first
          | (refine Ord.ch_value (v := ?_) hT9.out (by decide) (by rfl) ?_ ?_; rotate_left; (focus (intro w5 hS; have r0 := hS.1.rule; have r1 := hS.2.1.rule; have r2 := hS.2.2.rule; unfold gv at r2; go_simp <;> with_reducible rfl)); (try simp only [Act.put, List.setIfInBounds_toArray, List.set_cons_zero, List.set_cons_succ]))
          | (refine Ord.ch_off hT9.out (by decide) (by rfl) ?_; (try simp only [Act.put, List.setIfInBounds_toArray, List.set_cons_zero, List.set_cons_succ])))
        refine Ord.ch_turn (v := undef) 0 hT9.out rfl (by decide) (Or.inl rfl) (by rfl) ?_ ?_
        · rintro w5 hC5 ⟨P5, hP5, hA5⟩
          cases hP5
          obtain ⟨w6, hrun, hM6, ht⟩ := (hA5.leads (i + 3) hh1).store hm HX.out HE.out he0
          simp only [pv] at hrun
          simp [execOp, Act.eval, hrun, Result.andThen]
          have hE6 := hA5.turnL (i + 3) hh1 hM6 (ht.mono fun k _ e => by rw [e])
          exact ⟨rfl, ⟨hE6.get 1 rfl, hE6.get 0 rfl, hE6.get (i + 2) (wset (j := i + 1) (by omega) hg1)⟩, _, rfl, hE6⟩
        (try simp only [Act.put, List.setIfInBounds_toArray, List.set_cons_zero, List.set_cons_succ])
        refine Ord.InText.nil fun w5 hS => ?_
        clear hT9
        obtain ⟨hC9, hA9⟩ := Ord.chain_end hS
        clear hS
        obtain ⟨P9, hP9, hA9⟩ := hA9
        cases hP9
        clear hC9 hE
        go_wp2
        (first | go_end0 | refine bodyPost_ret (results_none rfl _ _ _) rfl ?_)
        exact ⟨rfl, (some mb), hA9.sub (.cons _ (.cons _ (List.Sublist.refl _)))⟩
end
end Go.Proofs.Ythiccboecimfjaa

/- The plain world, watched: contracts of its accesses. -/
namespace Go.Proofs.Ythiccboecimfjaa
open Go.RowKit Go.Maps
set_option maxRecDepth 100000

section
variable {w0 w : World} {L : List Item} {g p s c n m : Nat} {mp : Option Nat} {S F : Nat → Prop} {h f : Plc → Int} {l : List Int} {q : Cnt} {st fa : Int}
theorem new_g (hE : Env w0 L w) : Calls Try.prog 18 #[] w fun e w' => ∃ g p s c, e = .returned (.pointer (some ⟨g, 0, none⟩)) ∧ Env w0 (boxI g (gv p none s 0 0) :: leadsI none (fun _ => 0) 0 :: soulI s (fun k => k = s) [] :: wbox p c :: cellI c (fun k => k = c) (fun _ => 0) ⟨0, 0, 0, 0, 0⟩ 0 :: L) w' ∧ Below w.heap.size w w' := by
  go_enter Try.func18, Try.ntmps18
  go_wp2_with fail
  refine (new_w hE).mono ?_
  rintro e w1 ⟨p, c, rfl, hE, hb⟩
  go_wp2_with fail
  refine (newS_any w1).mono ?_
  rintro e w2 ⟨rfl, hC, hb2⟩
  replace hE := (hE.madeS hC (Nat.le_refl _) hb2).newL
  have hB := hb.trans (hb2.mono hb.size)
  clear hC hb hb2
  generalize w1.heap.size = s at *
  replace hE := hE.box w2.heap.size rfl (gv p none s 0 0) 83
  go_wp2
  go_ret
  exact ⟨_, _, _, _, rfl, hE, hB.alloc hB.size _⟩

set_option maxHeartbeats 1600000 in
theorem born_g (x : Int) (hx : In64 x) (hl : l.length ≤ 100000) (i : Nat) (hE : Env w0 L w) (hg : L[i]? = some (boxI g (gv p mp s st fa))) (hs : L[i + 2]? = some (soulI s S l)) :
    Calls Try.prog 23 #[.pointer (some ⟨g, 0, none⟩), .int .i64 x] w fun e w' => e = .returned (.int .i64 (bornV l x)) ∧ ∃ S', Env w0 (L.set (i + 2) (soulI s S' (bornL l x))) w' := by
  go_enter Try.func23, Try.ntmps23
  go_wp2_with fail
  refine (souls_any (hE.gblk i hg)).mono ?_
  rintro e w1 ⟨rfl, rfl⟩
  go_wp2_with fail
  refine (bornX_any x hx hl (hE.soul (i + 2) hs)).mono ?_
  rintro e w2 ⟨rfl, S', hC, ht⟩
  replace hE := hE.turnS (i + 2) hs hC ht
  go_wp2
  go_ret
  exact ⟨rfl, S', hE⟩

set_option maxHeartbeats 1600000 in
theorem store_g (x y z d v e : Int) (b : Bool) (hx : Wf (x, y, z)) (hv : InU v) (he : In64 e) (hn : n < maxLen) (hm : m < maxLen) (hl : l.length ≤ 1000000) (i : Nat) (hE : Env w0 L w) (hg : L[i]? = some (boxI g (gv p mp s st fa))) (hh : L[i + 1]? = some (leadsI mp h m)) (hs : L[i + 2]? = some (soulI s S l)) (hw : L[i + 3]? = some (wbox p c)) (hc : L[i + 4]? = some (cellI c F f q n)) :
    Calls Try.prog 20 #[.pointer (some ⟨g, 0, none⟩), .agg #[.int .i64 x, .int .i64 y, .int .i64 z, .int .i64 d], .agg #[.int .u64 v, .int .i64 e, .bool b]] w fun e' w' => e' = .returned (.tuple #[]) ∧ ∃ mp' F', Env w0 (((L.set (i + 4) (cellI c F' (upd f (x, y, z) v) { q with s := wrap64 (q.s + 1) } (n + 1))).set i (boxI g (gv p mp' s st (faS l x y d b fa)))).set (i + 1) (leadsI mp' (upd h (x, y, z) e) (m + 1))) w' := by
  replace hE := ((hE.box w.heap.size rfl [.int .i64 x, .int .i64 y, .int .i64 z, .int .i64 d] 46).box (w.heap.size + 1) (by simp) [.int .u64 v, .int .i64 e, .bool b] 42)
  have HX := Lib.hid hx
  have HE := Lib.hid he
  have HV := Lib.hid hv
  clear hx he hv
  go_enter Try.func20, Try.ntmps20
  go_wp2_with fail
  generalize (w.alloc _).alloc _ = w1 at *
  generalize w.heap.size + 1 = Y at *
  generalize w.heap.size = X at *
  refine Ord.wp_chain [6] (fun w' => Blk 0 w' X [.int .i64 x, .int .i64 y, .int .i64 z, .int .i64 d] ∧ Blk 0 w' Y [.int .u64 v, .int .i64 e, .bool b] ∧ Blk 0 w' g (gv p mp s st fa)) (Stage [Env w0 (boxI Y [.int .u64 v, .int .i64 e, .bool b] :: boxI X [.int .i64 x, .int .i64 y, .int .i64 z, .int .i64 d] :: L), fun w' => ∃ F', Env w0 (boxI Y [.int .u64 v, .int .i64 e, .bool b] :: boxI X [.int .i64 x, .int .i64 y, .int .i64 z, .int .i64 d] :: L.set (i + 4) (cellI c F' (upd f (x, y, z) v) { q with s := wrap64 (q.s + 1) } (n + 1))) w']) (by kernel_rfl) (by kernel_rfl) (by kernel_rfl) ⟨hE.drew.get 1 rfl, hE.drew.get 0 rfl, hE.drew.get (i + 2) hg⟩ ⟨_, rfl, hE.drew⟩ (fun hT => ?_)
  have hT9 := Lib.hid hT
  clear hT
  repeat (first
    | (refine Ord.ch_value (v := ?_) hT9.out (by decide) (by rfl) ?_ ?_; rotate_left; (focus (intro w5 hS; have r0 := hS.1.rule; have r1 := hS.2.1.rule; have r2 := hS.2.2.rule; unfold gv at r2; go_simp <;> with_reducible rfl)); (try simp only [Act.put, List.setIfInBounds_toArray, List.set_cons_zero, List.set_cons_succ]))
    | (refine Ord.ch_off hT9.out (by decide) (by rfl) ?_; (try simp only [Act.put, List.setIfInBounds_toArray, List.set_cons_zero, List.set_cons_succ])))
  refine Ord.ch_turn (v := .tuple #[]) 0 hT9.out rfl (by decide) (Or.inl rfl) (by rfl) ?_ ?_
  · rintro w5 hC5 ⟨P5, hP5, hA5⟩
    cases hP5
    skip
    go_simp
    simp only [Ord.LandsIn]
    refine (store_w x y z d v e b HX.out HV.out hn (i + 5) (i + 6) (by omega) hA5 hw hc).mono ?_
    rintro e6 w6 ⟨rfl, F6, hE6⟩; exact ⟨rfl, ⟨hE6.get 1 rfl, hE6.get 0 rfl, hE6.get (i + 2) (wset (j := i + 4) (by omega) hg)⟩, _, rfl, F6, hE6⟩
  (try simp only [Act.put, List.setIfInBounds_toArray, List.set_cons_zero, List.set_cons_succ])
  repeat (first
    | (refine Ord.ch_value (v := ?_) hT9.out (by decide) (by rfl) ?_ ?_; rotate_left; (focus (intro w5 hS; skip; go_simp <;> with_reducible rfl)); (try simp only [Act.put, List.setIfInBounds_toArray, List.set_cons_zero, List.set_cons_succ]))
    | (refine Ord.ch_off hT9.out (by decide) (by rfl) ?_; (try simp only [Act.put, List.setIfInBounds_toArray, List.set_cons_zero, List.set_cons_succ])))
  refine Ord.InText.nil fun w5 hS => ?_
  clear hT9
  obtain ⟨hC9, hA9⟩ := Ord.chain_end hS
  clear hS
  obtain ⟨P9, hP9, hA9⟩ := hA9
  cases hP9
  obtain ⟨F9, hA9⟩ := hA9
  clear hC9 hE
  have hg1 := wset (j := i + 4) (b := cellI c F9 (upd f (x, y, z) v) { q with s := wrap64 (q.s + 1) } (n + 1)) (by omega) hg
  have hh1 := wset (j := i + 4) (b := cellI c F9 (upd f (x, y, z) v) { q with s := wrap64 (q.s + 1) } (n + 1)) (by omega) hh
  have hs1 := wset (j := i + 4) (b := cellI c F9 (upd f (x, y, z) v) { q with s := wrap64 (q.s + 1) } (n + 1)) (by omega) hs
  have r0 := hA9.rule 0 rfl
  have r1 := hA9.rule 1 rfl
  go_wp2_with fail
  refine (written_g x y z d v e b b HX.out HE.out hm hl (i + 2) hA9 hg1 hh1 hs1).mono ?_
  rintro e6 w6 ⟨rfl, mp6, hE6⟩
  clear r0 r1 hA9
  go_wp2
  (first | go_end0 | refine bodyPost_ret (results_none rfl _ _ _) rfl ?_)
  exact ⟨rfl, mp6, F9, hE6.sub (.cons _ (.cons _ (List.Sublist.refl _)))⟩

set_option maxHeartbeats 1600000 in
theorem add_g (x y z d v : Int) (hx : Wf (x, y, z)) (hn : n < maxLen) (i : Nat) (hE : Env w0 L w) (hg : L[i]? = some (boxI g (gv p mp s st fa))) (hw : L[i + 3]? = some (wbox p c)) (hc : L[i + 4]? = some (cellI c F f q n)) :
    Calls Try.prog 22 #[.pointer (some ⟨g, 0, none⟩), .agg #[.int .i64 x, .int .i64 y, .int .i64 z, .int .i64 d], .int .u64 v] w fun e w' => e = .returned (.int .u64 (f (x, y, z))) ∧ ∃ F', Env w0 (L.set (i + 4) (cellI c F' (upd f (x, y, z) (IntKind.u64.wrap (f (x, y, z) + v))) { q with a := wrap64 (q.a + 1) } (n + 1))) w' := by
  replace hE := (hE.box w.heap.size rfl [.int .i64 x, .int .i64 y, .int .i64 z, .int .i64 d] 46)
  have HX := Lib.hid hx
  clear hx
  go_enter Try.func22, Try.ntmps22
  go_wp2_with fail
  generalize w.heap.size = X at *
  refine Ord.wp_chain [4] (fun w' => Blk 0 w' X [.int .i64 x, .int .i64 y, .int .i64 z, .int .i64 d] ∧ Blk 0 w' g (gv p mp s st fa)) (Stage [Env w0 (boxI X [.int .i64 x, .int .i64 y, .int .i64 z, .int .i64 d] :: L), fun w' => ∃ F', Env w0 (boxI X [.int .i64 x, .int .i64 y, .int .i64 z, .int .i64 d] :: L.set (i + 4) (cellI c F' (upd f (x, y, z) (IntKind.u64.wrap (f (x, y, z) + v))) { q with a := wrap64 (q.a + 1) } (n + 1))) w']) (by kernel_rfl) (by kernel_rfl) (by kernel_rfl) ⟨hE.drew.get 0 rfl, hE.drew.get (i + 1) hg⟩ ⟨_, rfl, hE.drew⟩ (fun hT => ?_)
  have hT9 := Lib.hid hT
  clear hT
  repeat (first
    | (refine Ord.ch_value (v := ?_) hT9.out (by decide) (by rfl) ?_ ?_; rotate_left; (focus (intro w5 hS; have r0 := hS.1.rule; go_simp <;> with_reducible rfl)); (try simp only [Act.put, List.setIfInBounds_toArray, List.set_cons_zero, List.set_cons_succ]))
    | (refine Ord.ch_off hT9.out (by decide) (by rfl) ?_; (try simp only [Act.put, List.setIfInBounds_toArray, List.set_cons_zero, List.set_cons_succ]))
    | (refine Ord.ch_call (v := ?_) (f := ?_) (args := ?_) hT9.out (by decide) (by rfl) ?_ ?_ ?_; rotate_left 3; (focus (intro w5 hS; have r0 := hS.1.rule; go_simp; constructor <;> with_reducible rfl)); (focus (intro w5 hS; (first | (with_reducible refine (watched_any hS.2).mono ?_; rintro e w6 ⟨rfl, rfl⟩; constructor; with_reducible rfl; exact ⟨hS, fun _ h => h⟩)))); (try simp only [Act.put, List.setIfInBounds_toArray, List.set_cons_zero, List.set_cons_succ])))
  refine Ord.ch_turn (v := .int .u64 (f (x, y, z))) 0 hT9.out rfl (by decide) (Or.inl rfl) (by rfl) ?_ ?_
  · rintro w5 hC5 ⟨P5, hP5, hA5⟩
    cases hP5
    skip
    go_simp
    simp only [Ord.LandsIn]
    refine (add_w x y z d v HX.out hn (i + 4) (i + 5) (by omega) hA5 hw hc).mono ?_
    rintro e6 w6 ⟨rfl, F6, hE6⟩; exact ⟨rfl, ⟨hE6.get 0 rfl, hE6.get (i + 1) (wset (j := i + 4) (by omega) hg)⟩, _, rfl, F6, hE6⟩
  (try simp only [Act.put, List.setIfInBounds_toArray, List.set_cons_zero, List.set_cons_succ])
  repeat (first
    | (refine Ord.ch_value (v := ?_) hT9.out (by decide) (by rfl) ?_ ?_; rotate_left; (focus (intro w5 hS; skip; go_simp <;> with_reducible rfl)); (try simp only [Act.put, List.setIfInBounds_toArray, List.set_cons_zero, List.set_cons_succ]))
    | (refine Ord.ch_off hT9.out (by decide) (by rfl) ?_; (try simp only [Act.put, List.setIfInBounds_toArray, List.set_cons_zero, List.set_cons_succ])))
  refine Ord.InText.nil fun w5 hS => ?_
  clear hT9
  obtain ⟨hC9, hA9⟩ := Ord.chain_end hS
  clear hS
  obtain ⟨P9, hP9, hA9⟩ := hA9
  cases hP9
  obtain ⟨F9, hA9⟩ := hA9
  clear hC9
  go_wp2
  go_ret
  exact ⟨rfl, F9, hA9.sub (.cons _ (List.Sublist.refl _))⟩

set_option maxHeartbeats 1600000 in
theorem peek_g (x y z : Int) (hx : Wf (x, y, z)) (i : Nat) (hE : Env w0 L w) (hg : L[i]? = some (boxI g (gv p mp s st fa))) (hw : L[i + 3]? = some (wbox p c)) (hc : L[i + 4]? = some (cellI c F f q n)) :
    Calls Try.prog 39 #[.pointer (some ⟨g, 0, none⟩), .agg #[.int .i64 x, .int .i64 y, .int .i64 z]] w fun e w' => e = .returned (.int .u64 (f (x, y, z))) ∧ Below w.heap.size w w' := by
  have hb := (Below.refl w.heap.size w).alloc (Nat.le_refl _) (.cells #[.int .i64 x, .int .i64 y, .int .i64 z] 44)
  replace hE := hE.box w.heap.size rfl [.int .i64 x, .int .i64 y, .int .i64 z] 44
  have HX := Lib.hid hx
  clear hx
  go_enter Try.func39, Try.ntmps39
  go_wp2_with fail
  obtain ⟨X, hXw⟩ : ∃ X, X = w.heap.size := ⟨_, rfl⟩
  rw [← hXw] at hE ⊢
  have HXW := Lib.hid hXw
  clear hXw
  have hg1 : (boxI X [.int .i64 x, .int .i64 y, .int .i64 z] :: L)[i + 1]? = some (boxI g (gv p mp s st fa)) := hg
  have hw1 : (boxI X [.int .i64 x, .int .i64 y, .int .i64 z] :: L)[i + 4]? = some (wbox p c) := hw
  have hc1 : (boxI X [.int .i64 x, .int .i64 y, .int .i64 z] :: L)[i + 5]? = some (cellI c F f q n) := hc
  refine Ord.wp_chain [] (fun w' => Env w0 (boxI X [.int .i64 x, .int .i64 y, .int .i64 z] :: L) w' ∧ Below w.heap.size w w') (fun _ _ => True) (by kernel_rfl) (by kernel_rfl) (by kernel_rfl) ⟨hE.drew, hb.drew⟩ trivial (fun hT => ?_)
  have hT9 := Lib.hid hT
  clear hT
  repeat (first
    | (refine Ord.ch_value (v := ?_) hT9.out (by decide) (by rfl) ?_ ?_; rotate_left; (focus (intro w5 hS; have r := hS.1.rule 0 rfl; go_simp <;> with_reducible rfl)); (try simp only [Act.put, List.setIfInBounds_toArray, List.set_cons_zero, List.set_cons_succ]))
    | (refine Ord.ch_off hT9.out (by decide) (by rfl) ?_; (try simp only [Act.put, List.setIfInBounds_toArray, List.set_cons_zero, List.set_cons_succ]))
    | (refine Ord.ch_call (v := ?_) (f := ?_) (args := ?_) hT9.out (by decide) (by rfl) ?_ ?_ ?_; rotate_left 3; (focus (intro w5 hS; have r := hS.1.rule 0 rfl; go_simp; constructor <;> with_reducible rfl)); (focus (intro w5 hS; (first | (with_reducible refine (watched_any (hS.1.gblk (i + 1) hg1)).mono ?_; rintro e w6 ⟨rfl, rfl⟩; constructor; with_reducible rfl; exact ⟨hS, fun _ h => h⟩) | (with_reducible refine (peek_w x y z HX.out (i + 4) (i + 5) hS.1 hw1 hc1).mono ?_; rintro e w6 ⟨rfl, hb6⟩; constructor; with_reducible rfl; exact ⟨⟨hS.1.over hb6, hS.2.trans (hb6.mono hS.2.size)⟩, fun _ h => h⟩)))); (try simp only [Act.put, List.setIfInBounds_toArray, List.set_cons_zero, List.set_cons_succ])))
  refine Ord.InText.nil fun w5 hS => ?_
  clear hT9
  obtain ⟨hC9, hA9⟩ := Ord.chain_end hS
  clear hS
  go_wp2
  go_ret
  exact ⟨rfl, hC9.2⟩

set_option maxHeartbeats 1600000 in
theorem count_g (i : Nat) (hE : Env w0 L w) (hg : L[i]? = some (boxI g (gv p mp s st fa))) (hw : L[i + 3]? = some (wbox p c)) (hc : L[i + 4]? = some (cellI c F f q n)) :
    Calls Try.prog 28 #[.pointer (some ⟨g, 0, none⟩)] w fun e w' => e = .returned (.agg #[.int .i64 q.l, .int .i64 q.s, .int .i64 q.w, .int .i64 q.f, .int .i64 q.a]) ∧ Below w.heap.size w w' := by
  have hb := (Below.refl w.heap.size w).alloc (Nat.le_refl _) (.cells #[.int .i64 0, .int .i64 0, .int .i64 0, .int .i64 0, .int .i64 0] 58)
  replace hE := hE.box w.heap.size rfl [.int .i64 0, .int .i64 0, .int .i64 0, .int .i64 0, .int .i64 0] 58
  go_enter Try.func28, Try.ntmps28
  go_wp2_with fail
  refine (watched_any (hE.gblk (i + 1) hg)).mono ?_
  rintro e w1 ⟨rfl, rfl⟩
  go_wp2_with fail
  refine (count_w (i + 4) (i + 5) hE hw hc).mono ?_
  rintro e w2 ⟨rfl, hb2⟩
  have hE2 := hE.over hb2
  have f5 := hE2.thaw 0 rfl
  have f0 := f5 0 (by simp)
  have f1 := f5 1 (by simp)
  have f2 := f5 2 (by simp)
  have f3 := f5 3 (by simp)
  have f4 := f5 4 (by simp)
  have r := hE2.rule 0 rfl
  have hB := hb.trans (hb2.mono hb.size)
  clear f5
  go_wp2
  have hP := hE2.put5 0 rfl (.int .i64 q.l) (.int .i64 q.s) (.int .i64 q.w) (.int .i64 q.f) (.int .i64 q.a)
  have q9 := hP.rule 0 rfl
  refine bodyPost_ret (v := .agg #[.int .i64 q.l, .int .i64 q.s, .int .i64 q.w, .int .i64 q.f, .int .i64 q.a]) (by simp [results, Try.results28, go_sem, q9]) rfl ⟨rfl, ?_⟩
  exact ((((hB.setCell (Nat.le_refl _) _).setCell (Nat.le_refl _) _).setCell (Nat.le_refl _) _).setCell (Nat.le_refl _) _).setCell (Nat.le_refl _) _
end
end Go.Proofs.Ythiccboecimfjaa

/- Places whose words aren't 0. -/
namespace Go.Proofs.Ythiccboecimfjaa

theorem pv_inj {x y : Plc} (h : pv x = pv y) : x = y := by
  obtain ⟨a, b, c⟩ := x
  obtain ⟨a', b', c'⟩ := y
  simp [pv] at h
  simp [h]
/-- ss are the places whose words aren't 0, each once. -/
def OpsF (f : Plc → Int) (ss : List Plc) : Prop := ss.Nodup ∧ ∀ x, x ∈ ss ↔ f x ≠ 0
end Go.Proofs.Ythiccboecimfjaa

/-
  DERIVED: THE SHELF's CONTRACTS AT THIS DUMP, IN PLAIN WORDS (tools/lay-plain.mjs out of 'YthiccboecimfjaaShelfC.lean', which tools/lay-shelf.mjs wrote): THE SAME DECLARATIONS UNDER THE SAME NAMES: 'import', 'namespace', 'open', 'def', 'theorem' AND NOTHING ELSE: no command of the shelf's: FOR A HAND-IN. Each laying: the table of numbers ('.._ren') and one theorem, a field a fact of the dump's own or the kernel's comparison; each contract: ONE APPLICATION.
-/
namespace Go.Proofs
open Go.Shelf
def Try.cloneWords_ren : Go.Shelf.Ren := ⟨fun | 5 => 71 | 7 => 73 | n => n, fun | 23 => 87 | 25 => 44 | 3 => 40 | 4 => 4 | 20 => 20 | n => n, fun | n => n⟩
theorem Try.cloneWords : Go.Proofs.SlLaysW.n5 Try.prog Try.cloneWords_ren := {
  mixed := by kernel_rfl
  f5 := ⟨Try.f71.name, by decide, Try.func71.trans (congrArg some (by kernel_rfl))⟩
  f7 := Try.func73.trans (congrArg some (by kernel_rfl))
  t4 := Try.underlying4
  a4 := Try.isAgg4
  z4 := Try.sizeOf4
  v4 := Try.zeroValue4
  t20 := Try.underlying20
  a20 := Try.isAgg20
  z20 := Try.sizeOf20
  v20 := Try.zeroValue20
  t23 := Try.underlying87
  a23 := Try.isAgg87
  z23 := Try.sizeOf87
  v23 := Try.zeroValue87 }
end Go.Proofs

/- Shared cells: a copy; whether two have the same words. -/
namespace Go.Proofs.Ythiccboecimfjaa
open Go.RowKit Go.Maps Go.Shelf
set_option maxRecDepth 100000

/-! ### copies -/
theorem clone_any {mp : Option Nat} {f : Plc → Int} {n : Nat} {w : World} (hM : MapIs w mp f n) :
    Calls Try.prog 71 #[.map mp] w fun e w' => ∃ mp', e = .returned (.map mp') ∧ MapIs w' mp' f n ∧ (∀ b, mp' = some b → w.heap.size ≤ b) ∧ Below w.heap.size w w' := by
  rcases hM with ⟨rfl, rfl⟩ | ⟨b, D, rfl, ho, hr⟩
  · refine Calls.mono (show Calls Try.prog 71 #[.map none] w _ from AnyW.maps_Clone_nil Try.cloneWords w) ?_
    rintro e w' ⟨rfl, rfl⟩
    exact ⟨none, rfl, .inl ⟨rfl, rfl⟩, fun b e => by (cases e), Below.refl _ _⟩
  · refine Calls.mono (show Calls Try.prog 71 #[.map (some b)] w _ from AnyW.maps_Clone_owns Try.cloneWords _ _ b n D w ho) ?_
    rintro e w' ⟨rfl, h1, _, h3⟩
    exact ⟨_, rfl, .inr ⟨_, D, rfl, h1, hr⟩, fun b e => by (cases e; exact Nat.le_refl _), h3⟩

set_option maxHeartbeats 800000 in
theorem copy_any {c n : Nat} {F : Nat → Prop} {f : Plc → Int} {q : Cnt} {w : World} (hC : IsC w c F f q n) :
    Calls Try.prog 65 #[.pointer (some ⟨c, 0, none⟩)] w fun e w' => ∃ c' F', e = .returned (.pointer (some ⟨c', 0, none⟩)) ∧ IsC w' c' F' f ⟨0, 0, 0, 0, 0⟩ n ∧ (∀ k, F' k → w.heap.size ≤ k) ∧ Below w.heap.size w w' := by
  obtain ⟨mp, hb, hm, hF⟩ := hC
  have r := hb.rule
  unfold cv at r
  have hc := clone_any hm
  clear hm
  go_enter Try.func65, Try.ntmps65
  go_wp2_with fail
  refine hc.mono ?_
  rintro e w1 ⟨mp', rfl, hM, hnew, hB⟩
  clear hc r
  go_wp2
  go_ret
  have hs := hB.size
  refine ⟨w1.heap.size, fun k => k = w1.heap.size ∨ mp' = some k, rfl, ⟨mp', Blk.new 0 w1 (cv mp' ⟨0, 0, 0, 0, 0⟩) 89, hM.more _, fun k => Iff.rfl⟩, fun k hk => ?_, hB.alloc hs _⟩
  rcases hk with rfl | e
  · exact hs
  · exact hnew k e

/-! ### how many words there are -/
theorem has_key {w : World} {b n : Nat} {D : DataW Unit} (h : w.ownsMap Try.prog 44 (plainElem (H := Unit) Try.prog 40) b n D) : ∃ es, D = .map es ∧ es.Pairwise (fun p q => p.1 ≠ q.1) ∧ ∀ p ∈ es, ∃ x, Wf x ∧ p.1 = kl x := by
  obtain ⟨es, clock, hb, Ft, hs, rfl⟩ := h
  refine ⟨_, rfl, ((WideShapes.sorted_perm _).pairwise_iff (fun {_ _} hne => Ne.symm hne)).2 (Maps.fit_apart keyPlace Ft), fun p hp => ?_⟩
  obtain ⟨x, hx, rfl⟩ := List.mem_map.1 (mem_sorted.1 hp)
  obtain ⟨y, hy⟩ := Ft.reads x hx
  rw [WideElems.rg_of hy]
  obtain ⟨z, hz, _, he⟩ := key_inv (WideElems.rd_key hy)
  exact ⟨z, hz, he⟩
theorem list_keys : ∀ (es : List (Lit × DataW Unit)), (∀ p ∈ es, ∃ x, Wf x ∧ p.1 = kl x) → ∃ ss : List Plc, ss.map kl = es.map (·.1) ∧ ∀ x ∈ ss, Wf x
  | [], _ => ⟨[], rfl, by simp⟩
  | p :: es, h => by
    obtain ⟨ss, h1, h2⟩ := list_keys es fun q hq => h q (by simp [hq])
    obtain ⟨x, hx, he⟩ := h p (by simp)
    exact ⟨x :: ss, by simp [h1, he], fun y hy => by
      rcases List.mem_cons.1 hy with rfl | hy
      · exact hx
      · exact h2 y hy⟩
/-- The number of entries. -/
def msz (mp : Option Nat) (w : World) (N : Nat) : Prop := ∀ ty, (Builtin.len_ #[87] ty #[.map mp]).run Try.prog w = .ok (.int .i64 (N : Nat)) w
theorem MapIs.count {w : World} {mp : Option Nat} {f : Plc → Int} {n : Nat} (h : MapIs w mp f n) : ∃ ss, OpsF f ss ∧ msz mp w ss.length := by
  rcases h with ⟨rfl, rfl⟩ | ⟨b, D, rfl, ho, hr⟩
  · exact ⟨[], ⟨List.nodup_nil, by simp⟩, fun ty => Maps.len_nil Try.underlying87 ty⟩
  · obtain ⟨es, rfl, hp, hk⟩ := has_key ho
    obtain ⟨ss, h1, h2⟩ := list_keys es hk
    have hlen : ss.length = es.length := by have := congrArg List.length h1; simpa using this
    refine ⟨ss, ⟨?_, fun x => ?_⟩, fun ty => ?_⟩
    · have hn : (ss.map kl).Pairwise (· ≠ ·) := by rw [h1, List.pairwise_map]; exact hp
      rw [List.pairwise_map] at hn
      exact hn.imp fun hne e => hne (by rw [e])
    · by_cases hw : Wf x
      · have h3 := hr.has' x hw
        rw [Maps.has_eq] at h3
        have h4 : (x ∈ ss) ↔ (es.any fun p => p.1.sameKey (kl x)) = true := by
          rw [List.any_eq_true]
          constructor
          · intro hx
            have : kl x ∈ es.map (·.1) := by rw [← h1]; exact List.mem_map.2 ⟨x, hx, rfl⟩
            obtain ⟨p, hp1, hp2⟩ := List.mem_map.1 this
            exact ⟨p, hp1, by rw [hp2]; exact WideAt.sameKey_self (kl_key x)⟩
          · rintro ⟨p, hp1, hp2⟩
            have : kl x ∈ ss.map kl := by rw [h1]; exact List.mem_map.2 ⟨p, hp1, WideAt.sameKey_eq hp2⟩
            obtain ⟨y, hy, he⟩ := List.mem_map.1 this
            rwa [← kl_inj (h2 y hy) hw he]
        rw [h4, h3]; simp
      · constructor
        · intro hx; exact absurd (h2 x hx) hw
        · intro hx; exact absurd (hr.words.out x hw) hx
    · rw [hlen]
      have := ho.len Try.underlying87 ty
      rwa [Maps.size_eq] at this

theorem all_in : ∀ (l m : List Plc), m.Nodup → (∀ x ∈ l, x ∈ m) → l.Nodup → m.length ≤ l.length → ∀ x ∈ m, x ∈ l
  | [], m, _, _, _, h, x, hx => by
    have : m = [] := List.eq_nil_of_length_eq_zero (by simpa using h)
    subst this
    cases hx
  | a :: l, m, hm, hs, hl, h, x, hx => by
    by_cases e : x = a
    · subst e; simp
    · have ham : a ∈ m := hs a (by simp)
      obtain ⟨h1, h2⟩ := List.nodup_cons.1 hl
      have := all_in l (m.erase a) (hm.erase a) (fun y hy => by
        have hya : y ≠ a := fun e => h1 (e ▸ hy)
        exact (List.mem_erase_of_ne hya).2 (hs y (by simp [hy]))) h2 (by rw [List.length_erase_of_mem ham]; simp at h; omega) x ((List.mem_erase_of_ne e).2 hx)
      simp [this]
theorem same_len {f : Plc → Int} {ss tt : List Plc} (h : OpsF f ss) (k : OpsF f tt) : ss.length = tt.length :=
  ((List.perm_ext_iff_of_nodup h.1 k.1).2 fun x => (h.2 x).trans (k.2 x).symm).length_eq
theorem same_of {f g : Plc → Int} {ss tt : List Plc} (h : OpsF f ss) (k : OpsF g tt) (hl : ss.length = tt.length) (hfg : ∀ x, f x ≠ 0 → g x = f x) : f = g := by
  have hsub : ∀ x ∈ ss, x ∈ tt := fun x hx => (k.2 x).2 (by have h1 := (h.2 x).1 hx; rw [hfg x h1]; exact h1)
  have hall := all_in ss tt k.1 hsub h.1 (by omega)
  funext x
  by_cases e : f x = 0
  · rw [e]
    by_cases e2 : g x = 0
    · exact e2.symm
    · exact absurd e ((h.2 x).1 (hall x ((k.2 x).2 e2)))
  · exact (hfg x e).symm
theorem MapIs.look2 {w : World} {mp : Option Nat} {f : Plc → Int} {n : Nat} (h : MapIs w mp f n) {x : Plc} (hx : Wf x) : (Instr.lookup 87 (.map mp) (pv x) true).run Try.prog w = .ok (.tuple #[.int .u64 (f x), .bool (decide (f x ≠ 0))]) w := by
  rcases h with ⟨rfl, rfl⟩ | ⟨b, D, rfl, ho, hr⟩
  · have := Maps.look_nil (w := w) true keyPlace Try.underlying87 (zeroWord w) (key_mk x hx)
    simpa using this
  · obtain ⟨v, ps, hrun, hv⟩ := ho.look_ok keyPlace Try.underlying87 (zeroWord w) (zd := wd 0) (zp := []) (plainElem_int Try.underlying40 (by decide)) (key_mk x hx)
    rw [hr.at' x hx] at hv
    obtain ⟨a, rfl, ha, _⟩ := plainElem_int_inv Try.underlying40 hv
    have : f x = a := by
      have := congrArg Prod.fst ha
      simpa [wd] using this
    rw [hrun, hr.has' x hx, this]
end Go.Proofs.Ythiccboecimfjaa

/- Whether two shared cells have the same words. -/
namespace Go.Proofs.Ythiccboecimfjaa
open Go.RowKit Go.Maps Go.Shelf
set_option maxRecDepth 100000

/-- What has come of the first map has been found in the second. -/
def GoodP (D : DataW Unit) (f g : Plc → Int) (left : Lit → Bool) : Prop := ∀ x, Wf x → Maps.has D (kl x) = true → left (kl x) = false → g x = f x

open Classical in
noncomputable def sameB (f g : Plc → Int) : Bool := decide (f = g)
theorem sameB_yes {f g : Plc → Int} (h : f = g) : sameB f g = true := by simp [sameB, h]
theorem sameB_no {f g : Plc → Int} (h : f ≠ g) : sameB f g = false := by simp [sameB, h]

set_option maxRecDepth 100000 in
set_option maxHeartbeats 3200000 in
theorem equal_some {b : Nat} {D : DataW Unit} {mp2 : Option Nat} {f g : Plc → Int} {n1 n2 : Nat} {w : World} (h1 : w.ownsMap Try.prog 44 (plainElem (H := Unit) Try.prog 40) b n1 D) (hr : ReadsF D f) (hM2 : MapIs w mp2 g n2) :
    Calls Try.prog 51 #[.map (some b), .map mp2] w fun e w' => e = .returned (.bool (sameB f g)) ∧ w.grownBy w' none := by
  obtain ⟨ss, hs1, l1⟩ := MapIs.count (w := w) (mp := some b) (f := f) (n := n1) (.inr ⟨b, D, rfl, h1, hr⟩)
  obtain ⟨tt, hs2, l2⟩ := hM2.count
  unfold msz at l1 l2
  have HS1 := Lib.hid hs1
  have HS2 := Lib.hid hs2
  clear hs1 hs2
  generalize hres : sameB f g = res
  have RES := Lib.hid hres
  clear hres
  by_cases hsz : ss.length = tt.length
  · rw [← hsz] at l2
    go_enter Try.func51, Try.ntmps51
    go_wp2_with (first
      | (at_range; refine wpList_range_own _ rfl _ 87 rfl 44 40 keyPlace Try.underlying87 _ b n1 _ rfl h1 ?_; intro w0 hrg0 hg0 hs0)
      | go_in)
    go_frame
    go_loopw [6] (fun _ wr => ∃ (left : Lit → Bool) (cnt : Nat), wr.ranges Try.prog 44 (plainElem (H := Unit) Try.prog 40) b w.heap.size n1 D left cnt ∧ MapIs wr mp2 g n2 ∧ w.grownBy wr none ∧ GoodP D f g left)
      (fun _ wr => wr.rangeLeft b w.heap.size)
    case atStart => exact ⟨_, _, hrg0, hM2.kept fun b' e => hg0.block b' (hM2.lt b' e) (by simp), hg0, fun x _ h2 h3 => by rw [h2] at h3; cases h3⟩
    case round =>
      obtain ⟨left, cnt, hrg, hM, hgw, hG⟩ := hrel
      clear l1 l2
      go_wp2_with (first
        | (at_next; refine wpList_next_ranges _ rfl _ rfl 44 keyPlace (plainElem (H := Unit) Try.prog 40) (fun x : Plc => Value.agg #[.int .i64 x.1, .int .i64 x.2.1, .int .i64 x.2.2]) (Value.int .u64) (fun key kl hk => by obtain ⟨x, _, hx, _⟩ := key_inv hk; exact ⟨x, hx⟩) (fun v y hv => by obtain ⟨c, rfl, _⟩ := plainElem_int_inv Try.underlying40 hv; exact ⟨c, rfl⟩) b w.heap.size n1 _ _ _ rfl hrg ?_ ?_)
        | go_in)
      · intro _ hl0
        go_wp2
        go_ret
        refine ⟨ret_bool ?_, hgw⟩
        rw [← RES.out]
        refine (sameB_yes (same_of HS1.out HS2.out hsz fun x hx => ?_)).symm
        have hw : Wf x := by
          refine Classical.byContradiction fun hw => hx (hr.words.out x hw)
        exact hG x hw (by rw [hr.has' x hw]; simpa using hx) (hl0 _)
      · intro xa xb xc c kx yd yp w2 cnt2 hkey hlk hv hat hrg2 hlt hg2 hs2 hen
        obtain ⟨x, hx', ex, rfl⟩ := key_inv hkey
        obtain ⟨ya, yb, yc⟩ := x
        have ex' := pv_inj (x := (xa, xb, xc)) ex
        obtain ⟨rfl, rfl, rfl⟩ : xa = ya ∧ xb = yb ∧ xc = yc := by simpa using ex'
        clear ex ex'
        have hfx : f (xa, xb, xc) = c := by
          obtain ⟨c', ec, hyd, _⟩ := plainElem_int_inv Try.underlying40 hv
          obtain rfl : c = c' := by simpa using ec
          have e1 := hr.at' _ hx'
          rw [hat] at e1
          have e2 := congrArg Prod.fst hyd
          simp only at e2
          rw [e2] at e1
          simp [wd] at e1
          exact e1.symm
        have hf0 : c ≠ 0 := by
          have h3 := hr.has' _ hx'
          rw [has_true_of_atKey hat, hfx] at h3
          simpa using h3.symm
        have hM2' : MapIs (w2.alloc (.cells #[.int .i64 xa, .int .i64 xb, .int .i64 xc] 44)) mp2 g n2 := (hM.kept fun b' e => hg2.block b' (hM.lt b' e) (fun e2 => by cases e2; have := hM2.lt _ e; omega)).more _
        have hl := hM2'.look2 hx'
        simp only [pv] at hl
        have hgw2 : w.grownBy (w2.alloc (.cells #[.int .i64 xa, .int .i64 xb, .int .i64 xc] 44)) none := (hgw.andThen hg2 (fun j e => by cases e; exact .inl (Nat.le_refl _))).andThen (World.grownBy_alloc w2 _ none) (fun j e => by cases e)
        have hrg2' := hrg2.alloc (.cells #[.int .i64 xa, .int .i64 xb, .int .i64 xc] 44)
        have hcnt := Lib.hid hrg.left_eq
        have HLT := Lib.hid hlt
        have HG := Lib.hid hG
        have HAT := Lib.hid hat
        clear hs2 hlt hG hat hrg hrg0 hg0 hv hkey hlk
        by_cases hgx : g (xa, xb, xc) = c
        · rw [hgx] at hl
          have hcb : (decide (c ≠ 0)) = true := by simpa using hf0
          rw [hcb] at hl
          clear hcb hf0
          go_wp2
          go_roundw
          case rel =>
            refine ⟨_, cnt2, hrg2', hM2', hgw2, fun y hy h2 h3 => ?_⟩
            by_cases e : y = (xa, xb, xc)
            · rw [e, hgx, hfx]
            · refine HG.out y hy h2 ?_
              have hne : kl y ≠ kl (xa, xb, xc) := fun e' => e (kl_inj hy hx' e')
              simpa [sameKey_ne hne] using h3
          case measure => rw [hrg2'.left_eq, hcnt.out]; exact HLT.out
        · have hbad : sameB f g = false := sameB_no fun e => hgx (by rw [← e]; exact hfx)
          by_cases hg0' : g (xa, xb, xc) = 0
          · rw [hg0'] at hl
            have hcb : (decide ((0 : Int) ≠ 0)) = false := by simp
            rw [hcb] at hl
            clear hcb
            go_wp2
            go_ret
            exact ⟨ret_bool (by rw [← RES.out, hbad]), hgw2⟩
          · generalize g (xa, xb, xc) = v at *
            have hcb : (decide (v ≠ 0)) = true := by simpa using hg0'
            rw [hcb] at hl
            have hcv : (c != v) = true := by simp; exact fun e => hgx e.symm
            clear hcb hg0' hf0
            go_wp2
            go_ret
            exact ⟨ret_bool (by rw [← RES.out, hbad]), hgw2⟩
  · have hne : ¬ ((ss.length : Int) = tt.length) := fun e => hsz (by exact_mod_cast e)
    go_enter Try.func51, Try.ntmps51
    go_wp2
    go_ret
    refine ⟨ret_bool ?_, World.grownBy.refl _ _⟩
    rw [← RES.out]
    exact (sameB_no fun e => hsz (same_len HS1.out (by rw [e]; exact HS2.out))).symm

set_option maxRecDepth 100000 in
set_option maxHeartbeats 1600000 in
theorem equal_none {mp2 : Option Nat} {g : Plc → Int} {n2 : Nat} {w : World} (hM2 : MapIs w mp2 g n2) :
    Calls Try.prog 51 #[.map none, .map mp2] w fun e w' => e = .returned (.bool (sameB (fun _ => 0) g)) ∧ w.grownBy w' none := by
  obtain ⟨tt, hs2, l2⟩ := hM2.count
  have hnil : OpsF (fun _ => 0) [] := ⟨List.nodup_nil, by simp⟩
  have l1 : ∀ ty, (Builtin.len_ #[87] ty #[.map none]).run Try.prog w = .ok (.int .i64 0) w := fun ty => Maps.len_nil Try.underlying87 ty
  unfold msz at l2
  have hrg := run_range_nilMap (P := Try.prog) w 87 _ _ Try.underlying87
  have hnx : ∀ ty, (Instr.next (.pointer (some ⟨w.heap.size, 0, none⟩)) false ty).run Try.prog (w.alloc (.mapIter none 0 #[] 0)) = _ := fun ty => run_next_nilMap _ ty 0 0 #[]
  have HS2 := Lib.hid hs2
  clear hs2 hM2
  by_cases hsz : tt.length = 0
  · rw [hsz] at l2
    have htt : tt = [] := List.eq_nil_of_length_eq_zero hsz
    go_enter Try.func51, Try.ntmps51
    go_wp2
    refine wp_loop_rounds 1 ?_
    rw [rounds_succ]
    go_wp2
    go_ret
    refine ⟨ret_bool (sameB_yes (same_of hnil HS2.out (by simp [hsz]) fun x hx => absurd rfl hx)).symm, World.grownBy_alloc w _ none⟩
  · have hne : ¬ ((0 : Int) = tt.length) := by omega
    go_enter Try.func51, Try.ntmps51
    go_wp2
    go_ret
    refine ⟨ret_bool (sameB_no fun e => hsz ?_).symm, World.grownBy.refl _ _⟩
    exact (same_len hnil (by rw [e]; exact HS2.out)).symm

theorem equal_any {mp1 mp2 : Option Nat} {f g : Plc → Int} {n1 n2 : Nat} {w : World} (hM1 : MapIs w mp1 f n1) (hM2 : MapIs w mp2 g n2) :
    Calls Try.prog 51 #[.map mp1, .map mp2] w fun e w' => e = .returned (.bool (sameB f g)) ∧ Below w.heap.size w w' := by
  have hb : ∀ {w' : World}, w.grownBy w' none → Below w.heap.size w w' := fun hg => (Below.refl _ w).grown hg (Nat.le_refl _) fun k e => by cases e
  rcases hM1 with ⟨rfl, rfl⟩ | ⟨b, D, rfl, ho, hr⟩
  · exact (equal_none hM2).mono fun e w' h => ⟨h.1, hb h.2⟩
  · exact (equal_some ho hr hM2).mono fun e w' h => ⟨h.1, hb h.2⟩

set_option maxHeartbeats 1600000 in
theorem same_any {c1 c2 n1 n2 : Nat} {F1 F2 : Nat → Prop} {f g : Plc → Int} {q1 q2 : Cnt} {w : World} (hC1 : IsC w c1 F1 f q1 n1) (hC2 : IsC w c2 F2 g q2 n2) :
    Calls Try.prog 26 #[.pointer (some ⟨c1, 0, none⟩), .pointer (some ⟨c2, 0, none⟩)] w fun e w' => e = .returned (.bool (sameB f g)) ∧ Below w.heap.size w w' := by
  obtain ⟨mp1, hb1, hm1, hF1⟩ := hC1
  obtain ⟨mp2, hb2, hm2, hF2⟩ := hC2
  have hk : Hid (∀ w', MapIs w' mp1 f n1 → MapIs w' mp2 g n2 → Calls Try.prog 51 #[.map mp1, .map mp2] w' fun e w'' => e = .returned (.bool (sameB f g)) ∧ Below w'.heap.size w' w'') := Lib.hid fun w' h1 h2 => equal_any h1 h2
  generalize sameB f g = z at *
  go_enter Try.func26, Try.ntmps26
  go_wp2_with fail
  refine Ord.wp_chain [] (fun w' => (Below w.heap.size w w' ∧ Blk 0 w' c1 (cv mp1 q1) ∧ Blk 0 w' c2 (cv mp2 q2)) ∧ MapIs w' mp1 f n1 ∧ MapIs w' mp2 g n2) (fun _ _ => True) (by kernel_rfl) (by kernel_rfl) (by kernel_rfl) ⟨⟨(Below.refl _ _).drew, hb1.drew, hb2.drew⟩, hm1.drew, hm2.drew⟩ trivial (fun hT => ?_)
  have hT9 := Lib.hid hT
  clear hT
  repeat (first
    | (refine Ord.ch_value (v := ?_) hT9.out (by decide) (by rfl) ?_ ?_; rotate_left; (focus (intro w5 hS; have r := hS.1.2.1.rule; have r2 := hS.1.2.2.rule; unfold cv at r r2; go_simp <;> with_reducible rfl)); (try simp only [Act.put, List.setIfInBounds_toArray, List.set_cons_zero, List.set_cons_succ]))
    | (refine Ord.ch_off hT9.out (by decide) (by rfl) ?_; (try simp only [Act.put, List.setIfInBounds_toArray, List.set_cons_zero, List.set_cons_succ])))
  refine Ord.ch_call (v := .bool z) (f := 51) (args := #[.map mp1, .map mp2]) hT9.out (by decide) (by rfl) ?_ ?_ ?_
  · intro w5 hS
    go_simp
  · intro w5 hS
    refine (hk.out _ hS.2.1 hS.2.2).mono ?_
    rintro e w6 ⟨rfl, hb6⟩
    exact ⟨rfl, ⟨⟨hS.1.1.trans (hb6.mono hS.1.1.size), hS.1.2.1.kept hb6.size (hb6.block _ hS.1.2.1.1), hS.1.2.2.kept hb6.size (hb6.block _ hS.1.2.2.1)⟩, hS.2.1.kept fun b e => hb6.block b (hS.2.1.lt b e), hS.2.2.kept fun b e => hb6.block b (hS.2.2.lt b e)⟩, fun _ h => h⟩
  (try simp only [Act.put, List.setIfInBounds_toArray, List.set_cons_zero, List.set_cons_succ])
  repeat (first
    | (refine Ord.ch_value (v := ?_) hT9.out (by decide) (by rfl) ?_ ?_; rotate_left; (focus (intro w5 hS; skip; go_simp <;> with_reducible rfl)); (try simp only [Act.put, List.setIfInBounds_toArray, List.set_cons_zero, List.set_cons_succ]))
    | (refine Ord.ch_off hT9.out (by decide) (by rfl) ?_; (try simp only [Act.put, List.setIfInBounds_toArray, List.set_cons_zero, List.set_cons_succ])))
  refine Ord.InText.nil fun w5 hS => ?_
  clear hT9
  obtain ⟨hC9, hA9⟩ := Ord.chain_end hS
  clear hS
  go_wp2
  go_ret
  exact ⟨rfl, hC9.1.1⟩

set_option maxHeartbeats 400000 in
theorem same_nil (p : Option Addr) (w : World) : Calls Try.prog 26 #[.pointer p, .pointer none] w fun e w' => e = .returned (.bool p.isNone) ∧ w' = w := by
  cases p
  all_goals
    go_enter Try.func26, Try.ntmps26
    go_wp2
    go_ret
    exact ⟨rfl, rfl⟩
end Go.Proofs.Ythiccboecimfjaa

/- The plain world: a copy of its cells. -/
namespace Go.Proofs.Ythiccboecimfjaa
open Go.RowKit Go.Maps
set_option maxRecDepth 100000

theorem cells_w {w0 w : World} {L : List Item} {p c n : Nat} {F : Nat → Prop} {f : Plc → Int} {q : Cnt} (i j : Nat) (hE : Env w0 L w) (hi : L[i]? = some (wbox p c)) (hj : L[j]? = some (cellI c F f q n)) :
    Calls Try.prog 52 #[.pointer (some ⟨p, 0, none⟩)] w fun e w' => ∃ c' F', e = .returned (.pointer (some ⟨c', 0, none⟩)) ∧ Env w0 (cellI c' F' f ⟨0, 0, 0, 0, 0⟩ n :: L) w' := by
  go_enter Try.func52, Try.ntmps52
  go_wp2_with fail
  refine (kept_any (hE.wblk i hi)).mono ?_
  rintro e w1 ⟨rfl, rfl⟩
  go_wp2_with fail
  refine (copy_any (hE.cell j hj)).mono ?_
  rintro e w2 ⟨c', F', rfl, hC, hF, hb⟩
  go_wp2
  go_ret
  exact ⟨c', F', rfl, hE.made2 hC hF hb⟩
end Go.Proofs.Ythiccboecimfjaa

/- The plain world, watched: what is loaded, and swapped; a copy of its cells. -/
namespace Go.Proofs.Ythiccboecimfjaa
open Go.RowKit Go.Maps
set_option maxRecDepth 100000

/-- The fields of a value. -/
theorem valWord (v : World) (a b : Int) (d : Bool) : (Instr.field 42 (.agg #[.int .u64 a, .int .i64 b, .bool d]) 0).run Try.prog v = .ok (.int .u64 a) v := by kernel_rfl
theorem valStale (v : World) (a b : Int) (d : Bool) : (Instr.field 42 (.agg #[.int .u64 a, .int .i64 b, .bool d]) 2).run Try.prog v = .ok (.bool d) v := by kernel_rfl

section
variable {w0 w : World} {L : List Item} {g p s c n m : Nat} {mp : Option Nat} {S F : Nat → Prop} {h f : Plc → Int} {l : List Int} {q : Cnt} {st fa : Int}
theorem cells_g (i : Nat) (hE : Env w0 L w) (hg : L[i]? = some (boxI g (gv p mp s st fa))) (hw : L[i + 3]? = some (wbox p c)) (hc : L[i + 4]? = some (cellI c F f q n)) :
    Calls Try.prog 27 #[.pointer (some ⟨g, 0, none⟩)] w fun e w' => ∃ c' F', e = .returned (.pointer (some ⟨c', 0, none⟩)) ∧ Env w0 (cellI c' F' f ⟨0, 0, 0, 0, 0⟩ n :: L) w' := by
  go_enter Try.func27, Try.ntmps27
  go_wp2_with fail
  refine (watched_any (hE.gblk i hg)).mono ?_
  rintro e w1 ⟨rfl, rfl⟩
  go_wp2_with fail
  refine (cells_w (i + 3) (i + 4) hE hw hc).mono ?_
  rintro e w2 ⟨c', F', rfl, hE2⟩
  go_wp2
  go_ret
  exact ⟨c', F', rfl, hE2⟩

set_option maxHeartbeats 1600000 in
theorem load_g (x y z d : Int) (hx : Wf (x, y, z)) (hl : l.length ≤ 1000000) (i : Nat) (hE : Env w0 L w) (hg : L[i]? = some (boxI g (gv p mp s st fa))) (hh : L[i + 1]? = some (leadsI mp h m)) (hs : L[i + 2]? = some (soulI s S l)) (hw : L[i + 3]? = some (wbox p c)) (hc : L[i + 4]? = some (cellI c F f q n)) :
    Calls Try.prog 19 #[.pointer (some ⟨g, 0, none⟩), .agg #[.int .i64 x, .int .i64 y, .int .i64 z, .int .i64 d]] w fun e w' => e = .returned (.agg #[.int .u64 (f (x, y, z)), .int .i64 (h (x, y, z)), .bool (stB l x y d)]) ∧ Env w0 ((L.set i (boxI g (gv p mp s (if stB l x y d = true then wrap64 (st + 1) else st) fa))).set (i + 4) (cellI c F f { q with l := wrap64 (q.l + 1) } n)) w' := by
  replace hE := (hE.box w.heap.size rfl [.int .i64 x, .int .i64 y, .int .i64 z, .int .i64 d] 46).box (w.heap.size + 1) (by simp) [.int .u64 0, .int .i64 0, .bool false] 42
  have HX := Lib.hid hx
  clear hx
  generalize hst : stB l x y d = t
  generalize hsz : (if t = true then wrap64 (st + 1) else st) = sz
  have HST := Lib.hid hst
  have HSZ := Lib.hid hsz
  clear hst hsz
  go_enter Try.func19, Try.ntmps19
  go_upto_region 3 with fail
  generalize (w.alloc _).alloc _ = w1 at *
  generalize w.heap.size + 1 = Y at *
  generalize w.heap.size = X at *
  have r0 := hE.rule 1 rfl
  go_wp2_with fail
  refine (isStale_any x y z d HX.out.2.1 hl (i + 2) (i + 4) hE hg hs).mono ?_
  rintro e1 w2 ⟨rfl, hb⟩
  rw [HST.out]
  replace hE := hE.over hb
  clear r0 hb
  have r2 := hE.rule (i + 2) hg
  have z2 := hE.thaw (i + 2) hg 3 (by simp [gv])
  have hP := hE.put (i + 2) hg (j := 3) (by simp [gv]) (.int .i64 (wrap64 (st + 1)))
  have HP : Hid (Env w0 (boxI Y [.int .u64 0, .int .i64 0, .bool false] :: boxI X [.int .i64 x, .int .i64 y, .int .i64 z, .int .i64 d] :: L.set i (boxI g (gv p mp s (wrap64 (st + 1)) fa))) (w2.setCell ⟨g, 3, none⟩ (.int .i64 (wrap64 (st + 1))))) := Lib.hid hP
  have HP0 : Hid (Env w0 (boxI Y [.int .u64 0, .int .i64 0, .bool false] :: boxI X [.int .i64 x, .int .i64 y, .int .i64 z, .int .i64 d] :: L.set i (boxI g (gv p mp s st fa))) w2) := Lib.hid (by rw [setSelf hg]; exact hE)
  clear hP hE
  unfold gv at r2
  clear HST
  cases t
  case' false =>
    go_upto_region 6 with fail
    have hE := HP0.out
    have ez : st = sz := by simpa using HSZ.out
    clear r2 z2 HP HP0
    rw [ez] at hE
    clear ez
    generalize w2 = w3 at *
  case' true =>
    go_upto_region 6 with fail
    have hE := HP.out
    have ez : wrap64 (st + 1) = sz := by simpa using HSZ.out
    clear r2 z2 HP HP0
    generalize World.setCell _ _ _ = w3 at *
    rw [ez] at hE
    clear ez
  case false =>
    have hg1 : (L.set i (boxI g (gv p mp s sz fa)))[i]? = some (boxI g (gv p mp s sz fa)) := wself hg
    have hh1 : (L.set i (boxI g (gv p mp s sz fa)))[i + 1]? = some (leadsI mp h m) := wset (j := i) (by omega) hh
    have hw1 : (L.set i (boxI g (gv p mp s sz fa)))[i + 3]? = some (wbox p c) := wset (j := i) (by omega) hw
    have hc1 : (L.set i (boxI g (gv p mp s sz fa)))[i + 4]? = some (cellI c F f q n) := wset (j := i) (by omega) hc
    have hg2 : ((L.set i (boxI g (gv p mp s sz fa))).set (i + 4) (cellI c F f { q with l := wrap64 (q.l + 1) } n))[i]? = some (boxI g (gv p mp s sz fa)) := wset (j := i + 4) (by omega) hg1
    have hh2 : ((L.set i (boxI g (gv p mp s sz fa))).set (i + 4) (cellI c F f { q with l := wrap64 (q.l + 1) } n))[i + 1]? = some (leadsI mp h m) := wset (j := i + 4) (by omega) hh1
    clear HSZ
    generalize hL1 : L.set i (boxI g (gv p mp s sz fa)) = L1 at *
    have HL1 := Lib.hid hL1
    clear hL1
    refine Ord.wp_chain [5, 16] (fun w' => Blk 0 w' X [.int .i64 x, .int .i64 y, .int .i64 z, .int .i64 d] ∧ Blk 0 w' g (gv p mp s sz fa) ∧ LeadsIs w' mp h m) (Stage [Env w0 (boxI Y [.int .u64 0, .int .i64 0, .bool false] :: boxI X [.int .i64 x, .int .i64 y, .int .i64 z, .int .i64 d] :: L1), Env w0 (boxI Y [.int .u64 0, .int .i64 0, .bool false] :: boxI X [.int .i64 x, .int .i64 y, .int .i64 z, .int .i64 d] :: L1.set (i + 4) (cellI c F f { q with l := wrap64 (q.l + 1) } n)), Env w0 (boxI Y [.int .u64 (f (x, y, z)), .int .i64 (h (x, y, z)), .bool false] :: boxI X [.int .i64 x, .int .i64 y, .int .i64 z, .int .i64 d] :: L1.set (i + 4) (cellI c F f { q with l := wrap64 (q.l + 1) } n))]) (by kernel_rfl) (by kernel_rfl) (by kernel_rfl) ⟨hE.drew.get 1 rfl, hE.drew.get (i + 2) hg1, hE.drew.get (i + 3) hh1⟩ ⟨_, rfl, hE.drew⟩ (fun hT => ?_)
    have hT9 := Lib.hid hT
    clear hT
    repeat (first
      | (refine Ord.ch_value (v := ?_) hT9.out (by decide) (by rfl) ?_ ?_; rotate_left; (focus (intro w5 hS; have r0 := hS.1.rule; have r2 := hS.2.1.rule; unfold gv at r2; have hl := hS.2.2.look HX.out; simp only [pv] at hl; go_simp <;> with_reducible rfl)); (try simp only [Act.put, List.setIfInBounds_toArray, List.set_cons_zero, List.set_cons_succ]))
      | (refine Ord.ch_off hT9.out (by decide) (by rfl) ?_; (try simp only [Act.put, List.setIfInBounds_toArray, List.set_cons_zero, List.set_cons_succ])))
    refine Ord.ch_turn (v := .agg #[.int .u64 (f (x, y, z)), .int .i64 0, .bool false]) 0 hT9.out rfl (by decide) (Or.inl rfl) (by rfl) ?_ ?_
    · rintro w5 hC5 ⟨P5, hP5, hA5⟩
      cases hP5
      skip
      go_simp
      simp only [Ord.LandsIn]
      refine (load_w x y z d HX.out (i + 5) (i + 6) (by omega) hA5 hw1 hc1).mono ?_
      rintro e6 w6 ⟨rfl, hE6⟩; exact ⟨rfl, ⟨hE6.get 1 rfl, hE6.get (i + 2) hg2, hE6.get (i + 3) hh2⟩, _, rfl, hE6⟩
    (try simp only [Act.put, List.setIfInBounds_toArray, List.set_cons_zero, List.set_cons_succ])
    repeat (first
      | (refine Ord.ch_value (v := ?_) hT9.out (by decide) (by rfl) ?_ ?_; rotate_left; (focus (intro w5 hS; have r0 := hS.1.rule; have r2 := hS.2.1.rule; unfold gv at r2; have hl := hS.2.2.look HX.out; simp only [pv] at hl; have hf := valWord; go_simp <;> with_reducible rfl)); (try simp only [Act.put, List.setIfInBounds_toArray, List.set_cons_zero, List.set_cons_succ]))
      | (refine Ord.ch_off hT9.out (by decide) (by rfl) ?_; (try simp only [Act.put, List.setIfInBounds_toArray, List.set_cons_zero, List.set_cons_succ])))
    refine Ord.ch_turn (v := undef) 1 hT9.out rfl (by decide) (Or.inr ⟨_, rfl, by kernel_rfl⟩) (by rfl) ?_ ?_
    · rintro w5 hC5 ⟨P5, hP5, hA5⟩
      cases hP5
      have r := hA5.rule 0 rfl
      have ff := hA5.thaw 0 rfl
      have f0 := ff 0 (by simp)
      have f1 := ff 1 (by simp)
      have f2 := ff 2 (by simp)
      clear ff
      go_simp
      have hE6 := hA5.put3 0 rfl (.int .u64 (f (x, y, z))) (.int .i64 (h (x, y, z))) (.bool false)
      exact ⟨rfl, ⟨hE6.get 1 rfl, hE6.get (i + 2) hg2, hE6.get (i + 3) hh2⟩, _, rfl, hE6⟩
    (try simp only [Act.put, List.setIfInBounds_toArray, List.set_cons_zero, List.set_cons_succ])
    repeat (first
      | (refine Ord.ch_value (v := ?_) hT9.out (by decide) (by rfl) ?_ ?_; rotate_left; (focus (intro w5 hS; skip; go_simp <;> with_reducible rfl)); (try simp only [Act.put, List.setIfInBounds_toArray, List.set_cons_zero, List.set_cons_succ]))
      | (refine Ord.ch_off hT9.out (by decide) (by rfl) ?_; (try simp only [Act.put, List.setIfInBounds_toArray, List.set_cons_zero, List.set_cons_succ])))
    refine Ord.InText.nil fun w5 hS => ?_
    clear hT9
    obtain ⟨hC9, hA9⟩ := Ord.chain_end hS
    clear hS
    obtain ⟨P9, hP9, hA9⟩ := hA9
    cases hP9
    have q9 := hA9.rule 0 rfl
    go_wp2
    exact bodyPost_ret (v := .agg #[.int .u64 (f (x, y, z)), .int .i64 (h (x, y, z)), .bool false]) (by simp [results, Try.results19, go_sem, q9]) rfl ⟨rfl, by rw [HL1.out]; exact hA9.sub (.cons _ (.cons _ (List.Sublist.refl _)))⟩
  case true =>
    have hg1 : (L.set i (boxI g (gv p mp s sz fa)))[i]? = some (boxI g (gv p mp s sz fa)) := wself hg
    have hh1 : (L.set i (boxI g (gv p mp s sz fa)))[i + 1]? = some (leadsI mp h m) := wset (j := i) (by omega) hh
    have hw1 : (L.set i (boxI g (gv p mp s sz fa)))[i + 3]? = some (wbox p c) := wset (j := i) (by omega) hw
    have hc1 : (L.set i (boxI g (gv p mp s sz fa)))[i + 4]? = some (cellI c F f q n) := wset (j := i) (by omega) hc
    have hg2 : ((L.set i (boxI g (gv p mp s sz fa))).set (i + 4) (cellI c F f { q with l := wrap64 (q.l + 1) } n))[i]? = some (boxI g (gv p mp s sz fa)) := wset (j := i + 4) (by omega) hg1
    have hh2 : ((L.set i (boxI g (gv p mp s sz fa))).set (i + 4) (cellI c F f { q with l := wrap64 (q.l + 1) } n))[i + 1]? = some (leadsI mp h m) := wset (j := i + 4) (by omega) hh1
    clear HSZ
    generalize hL1 : L.set i (boxI g (gv p mp s sz fa)) = L1 at *
    have HL1 := Lib.hid hL1
    clear hL1
    refine Ord.wp_chain [5, 16] (fun w' => Blk 0 w' X [.int .i64 x, .int .i64 y, .int .i64 z, .int .i64 d] ∧ Blk 0 w' g (gv p mp s sz fa) ∧ LeadsIs w' mp h m) (Stage [Env w0 (boxI Y [.int .u64 0, .int .i64 0, .bool false] :: boxI X [.int .i64 x, .int .i64 y, .int .i64 z, .int .i64 d] :: L1), Env w0 (boxI Y [.int .u64 0, .int .i64 0, .bool false] :: boxI X [.int .i64 x, .int .i64 y, .int .i64 z, .int .i64 d] :: L1.set (i + 4) (cellI c F f { q with l := wrap64 (q.l + 1) } n)), Env w0 (boxI Y [.int .u64 (f (x, y, z)), .int .i64 (h (x, y, z)), .bool true] :: boxI X [.int .i64 x, .int .i64 y, .int .i64 z, .int .i64 d] :: L1.set (i + 4) (cellI c F f { q with l := wrap64 (q.l + 1) } n))]) (by kernel_rfl) (by kernel_rfl) (by kernel_rfl) ⟨hE.drew.get 1 rfl, hE.drew.get (i + 2) hg1, hE.drew.get (i + 3) hh1⟩ ⟨_, rfl, hE.drew⟩ (fun hT => ?_)
    have hT9 := Lib.hid hT
    clear hT
    repeat (first
      | (refine Ord.ch_value (v := ?_) hT9.out (by decide) (by rfl) ?_ ?_; rotate_left; (focus (intro w5 hS; have r0 := hS.1.rule; have r2 := hS.2.1.rule; unfold gv at r2; have hl := hS.2.2.look HX.out; simp only [pv] at hl; go_simp <;> with_reducible rfl)); (try simp only [Act.put, List.setIfInBounds_toArray, List.set_cons_zero, List.set_cons_succ]))
      | (refine Ord.ch_off hT9.out (by decide) (by rfl) ?_; (try simp only [Act.put, List.setIfInBounds_toArray, List.set_cons_zero, List.set_cons_succ])))
    refine Ord.ch_turn (v := .agg #[.int .u64 (f (x, y, z)), .int .i64 0, .bool false]) 0 hT9.out rfl (by decide) (Or.inl rfl) (by rfl) ?_ ?_
    · rintro w5 hC5 ⟨P5, hP5, hA5⟩
      cases hP5
      skip
      go_simp
      simp only [Ord.LandsIn]
      refine (load_w x y z d HX.out (i + 5) (i + 6) (by omega) hA5 hw1 hc1).mono ?_
      rintro e6 w6 ⟨rfl, hE6⟩; exact ⟨rfl, ⟨hE6.get 1 rfl, hE6.get (i + 2) hg2, hE6.get (i + 3) hh2⟩, _, rfl, hE6⟩
    (try simp only [Act.put, List.setIfInBounds_toArray, List.set_cons_zero, List.set_cons_succ])
    repeat (first
      | (refine Ord.ch_value (v := ?_) hT9.out (by decide) (by rfl) ?_ ?_; rotate_left; (focus (intro w5 hS; have r0 := hS.1.rule; have r2 := hS.2.1.rule; unfold gv at r2; have hl := hS.2.2.look HX.out; simp only [pv] at hl; have hf := valWord; go_simp <;> with_reducible rfl)); (try simp only [Act.put, List.setIfInBounds_toArray, List.set_cons_zero, List.set_cons_succ]))
      | (refine Ord.ch_off hT9.out (by decide) (by rfl) ?_; (try simp only [Act.put, List.setIfInBounds_toArray, List.set_cons_zero, List.set_cons_succ])))
    refine Ord.ch_turn (v := undef) 1 hT9.out rfl (by decide) (Or.inr ⟨_, rfl, by kernel_rfl⟩) (by rfl) ?_ ?_
    · rintro w5 hC5 ⟨P5, hP5, hA5⟩
      cases hP5
      have r := hA5.rule 0 rfl
      have ff := hA5.thaw 0 rfl
      have f0 := ff 0 (by simp)
      have f1 := ff 1 (by simp)
      have f2 := ff 2 (by simp)
      clear ff
      go_simp
      have hE6 := hA5.put3 0 rfl (.int .u64 (f (x, y, z))) (.int .i64 (h (x, y, z))) (.bool true)
      exact ⟨rfl, ⟨hE6.get 1 rfl, hE6.get (i + 2) hg2, hE6.get (i + 3) hh2⟩, _, rfl, hE6⟩
    (try simp only [Act.put, List.setIfInBounds_toArray, List.set_cons_zero, List.set_cons_succ])
    repeat (first
      | (refine Ord.ch_value (v := ?_) hT9.out (by decide) (by rfl) ?_ ?_; rotate_left; (focus (intro w5 hS; skip; go_simp <;> with_reducible rfl)); (try simp only [Act.put, List.setIfInBounds_toArray, List.set_cons_zero, List.set_cons_succ]))
      | (refine Ord.ch_off hT9.out (by decide) (by rfl) ?_; (try simp only [Act.put, List.setIfInBounds_toArray, List.set_cons_zero, List.set_cons_succ])))
    refine Ord.InText.nil fun w5 hS => ?_
    clear hT9
    obtain ⟨hC9, hA9⟩ := Ord.chain_end hS
    clear hS
    obtain ⟨P9, hP9, hA9⟩ := hA9
    cases hP9
    have q9 := hA9.rule 0 rfl
    go_wp2
    exact bodyPost_ret (v := .agg #[.int .u64 (f (x, y, z)), .int .i64 (h (x, y, z)), .bool true]) (by simp [results, Try.results19, go_sem, q9]) rfl ⟨rfl, by rw [HL1.out]; exact hA9.sub (.cons _ (.cons _ (List.Sublist.refl _)))⟩
set_option maxHeartbeats 3200000 in
theorem swap_g (x y z d o oe v e : Int) (ob b : Bool) (hx : Wf (x, y, z)) (hv : InU v) (he : In64 e) (hn : n < maxLen) (hm : m < maxLen) (hl : l.length ≤ 1000000) (i : Nat) (hE : Env w0 L w) (hg : L[i]? = some (boxI g (gv p mp s st fa))) (hh : L[i + 1]? = some (leadsI mp h m)) (hs : L[i + 2]? = some (soulI s S l)) (hw : L[i + 3]? = some (wbox p c)) (hc : L[i + 4]? = some (cellI c F f q n)) :
    Calls Try.prog 21 #[.pointer (some ⟨g, 0, none⟩), .agg #[.int .i64 x, .int .i64 y, .int .i64 z, .int .i64 d], .agg #[.int .u64 o, .int .i64 oe, .bool ob], .agg #[.int .u64 v, .int .i64 e, .bool b]] w fun e' w' => e' = .returned (.bool (decide (f (x, y, z) = o))) ∧ ∃ mp' F', Env w0 (((L.set (i + 4) (cellI c F' (swf f (x, y, z) o v) (swq q (decide (f (x, y, z) = o))) (n + 1))).set i (boxI g (gv p mp' s st (if f (x, y, z) = o then faS l x y d (ob || b) fa else fa)))).set (i + 1) (leadsI mp' (if f (x, y, z) = o then upd h (x, y, z) e else h) (m + 1))) w' := by
  replace hE := (((hE.box w.heap.size rfl [.int .i64 x, .int .i64 y, .int .i64 z, .int .i64 d] 46).box (w.heap.size + 1) (by simp) [.int .u64 o, .int .i64 oe, .bool ob] 42).box (w.heap.size + 1 + 1) (by simp) [.int .u64 v, .int .i64 e, .bool b] 42)
  have HX := Lib.hid hx
  have HE := Lib.hid he
  have HV := Lib.hid hv
  clear hx he hv
  generalize hdo : decide (f (x, y, z) = o) = D
  generalize hfz : (if f (x, y, z) = o then faS l x y d (ob || b) fa else fa) = fz
  generalize hhz : (if f (x, y, z) = o then upd h (x, y, z) e else h) = hz
  have HDO := Lib.hid hdo
  have HFZ := Lib.hid hfz
  have HHZ := Lib.hid hhz
  clear hdo hfz hhz
  go_enter Try.func21, Try.ntmps21
  go_wp2_with fail
  generalize ((w.alloc _).alloc _).alloc _ = w1 at *
  generalize w.heap.size + 1 + 1 = Z at *
  generalize w.heap.size + 1 = Y at *
  generalize w.heap.size = X at *
  refine Ord.wp_chain [10] (fun w' => Blk 0 w' X [.int .i64 x, .int .i64 y, .int .i64 z, .int .i64 d] ∧ Blk 0 w' Y [.int .u64 o, .int .i64 oe, .bool ob] ∧ Blk 0 w' Z [.int .u64 v, .int .i64 e, .bool b] ∧ Blk 0 w' g (gv p mp s st fa)) (Stage [Env w0 (boxI Z [.int .u64 v, .int .i64 e, .bool b] :: boxI Y [.int .u64 o, .int .i64 oe, .bool ob] :: boxI X [.int .i64 x, .int .i64 y, .int .i64 z, .int .i64 d] :: L), fun w' => ∃ F', Env w0 (boxI Z [.int .u64 v, .int .i64 e, .bool b] :: boxI Y [.int .u64 o, .int .i64 oe, .bool ob] :: boxI X [.int .i64 x, .int .i64 y, .int .i64 z, .int .i64 d] :: L.set (i + 4) (cellI c F' (swf f (x, y, z) o v) (swq q D) (n + 1))) w']) (by kernel_rfl) (by kernel_rfl) (by kernel_rfl) ⟨hE.drew.get 2 rfl, hE.drew.get 1 rfl, hE.drew.get 0 rfl, hE.drew.get (i + 3) hg⟩ ⟨_, rfl, hE.drew⟩ (fun hT => ?_)
  have hT9 := Lib.hid hT
  clear hT
  repeat (first
    | (refine Ord.ch_value (v := ?_) hT9.out (by decide) (by rfl) ?_ ?_; rotate_left; (focus (intro w5 hS; have r0 := hS.1.rule; have r1 := hS.2.1.rule; have r3 := hS.2.2.1.rule; have r2 := hS.2.2.2.rule; unfold gv at r2; go_simp <;> with_reducible rfl)); (try simp only [Act.put, List.setIfInBounds_toArray, List.set_cons_zero, List.set_cons_succ]))
    | (refine Ord.ch_off hT9.out (by decide) (by rfl) ?_; (try simp only [Act.put, List.setIfInBounds_toArray, List.set_cons_zero, List.set_cons_succ])))
  refine Ord.ch_turn (v := .bool D) 0 hT9.out rfl (by decide) (Or.inl rfl) (by rfl) ?_ ?_
  · rintro w5 hC5 ⟨P5, hP5, hA5⟩
    cases hP5
    skip
    go_simp
    simp only [Ord.LandsIn]
    refine (swap_w x y z d o oe v e ob b HX.out HV.out hn (i + 6) (i + 7) (by omega) hA5 hw hc).mono ?_
    rintro e6 w6 ⟨rfl, F6, hE6⟩; rw [HDO.out] at hE6 ⊢; exact ⟨rfl, ⟨hE6.get 2 rfl, hE6.get 1 rfl, hE6.get 0 rfl, hE6.get (i + 3) (wset (j := i + 4) (by omega) hg)⟩, _, rfl, F6, hE6⟩
  (try simp only [Act.put, List.setIfInBounds_toArray, List.set_cons_zero, List.set_cons_succ])
  repeat (first
    | (refine Ord.ch_value (v := ?_) hT9.out (by decide) (by rfl) ?_ ?_; rotate_left; (focus (intro w5 hS; skip; go_simp <;> with_reducible rfl)); (try simp only [Act.put, List.setIfInBounds_toArray, List.set_cons_zero, List.set_cons_succ]))
    | (refine Ord.ch_off hT9.out (by decide) (by rfl) ?_; (try simp only [Act.put, List.setIfInBounds_toArray, List.set_cons_zero, List.set_cons_succ])))
  refine Ord.InText.nil fun w5 hS => ?_
  clear hT9
  obtain ⟨hC9, hA9⟩ := Ord.chain_end hS
  clear hS
  obtain ⟨P9, hP9, hA9⟩ := hA9
  cases hP9
  obtain ⟨F9, hA9⟩ := hA9
  clear hC9 hE
  have hg1 := wset (j := i + 4) (b := cellI c F9 (swf f (x, y, z) o v) (swq q D) (n + 1)) (by omega) hg
  have hh1 := wset (j := i + 4) (b := cellI c F9 (swf f (x, y, z) o v) (swq q D) (n + 1)) (by omega) hh
  have hs1 := wset (j := i + 4) (b := cellI c F9 (swf f (x, y, z) o v) (swq q D) (n + 1)) (by omega) hs
  generalize hL1 : L.set (i + 4) (cellI c F9 (swf f (x, y, z) o v) (swq q D) (n + 1)) = L1 at *
  have HL1 := Lib.hid hL1
  clear hL1
  cases D
  · have hno : ¬ f (x, y, z) = o := of_decide_eq_false HDO.out
    have e1 : fa = fz := by have := HFZ.out; rwa [if_neg hno] at this
    have e2 : h = hz := by have := HHZ.out; rwa [if_neg hno] at this
    subst e1 e2
    go_wp2_with fail
    go_ret
    refine ⟨rfl, mp, F9, ?_⟩
    have hE6 := hA9.sub (.cons _ (.cons _ (.cons _ (List.Sublist.refl _))))
    have hE7 := hE6.turnL (i + 1) hh1 ((hE6.leads (i + 1) hh1).mono (Nat.le_succ m)) (Turn.refl _ _)
    rw [HL1.out, setSelf hg1]
    exact hE7
  · have hyes : f (x, y, z) = o := of_decide_eq_true HDO.out
    have e1 : faS l x y d (ob || b) fa = fz := by have := HFZ.out; rwa [if_pos hyes] at this
    have e2 : upd h (x, y, z) e = hz := by have := HHZ.out; rwa [if_pos hyes] at this
    have E1 := Lib.hid e1
    have E2 := Lib.hid e2
    clear e1 e2
    have r0 := hA9.rule 0 rfl
    have r1 := hA9.rule 1 rfl
    have r3 := hA9.rule 2 rfl
    have cW := fun sb => written_g x y z d v e b sb HX.out HE.out hm hl (i + 3) hA9 hg1 hh1 hs1
    have CW := Lib.hid cW
    clear cW
    cases ob
    all_goals
      go_wp2_with fail
      refine (CW.out _).mono ?_
      rintro e6 w6 ⟨rfl, mp6, hE6⟩
      clear r0 r1 r3 hA9 CW
      go_wp2
      go_ret
      refine ⟨rfl, mp6, F9, ?_⟩
      have hE7 := hE6.sub (.cons _ (.cons _ (.cons _ (List.Sublist.refl _))))
      have e3 := E1.out
      rw [E2.out] at hE7
      rw [HL1.out, ← e3]
      exact hE7
end
end Go.Proofs.Ythiccboecimfjaa

/- Slices that come in, opened once: of numbers; of structs of two numbers. -/
namespace Go.Proofs.Ythiccboecimfjaa
open Go.RowKit Go.WideShapes Go.ChangeShapes Go.ChangeAt Go.Deep
set_option maxRecDepth 100000

section
variable {H : Type} {enc : TypeId × Value → H} {P : Program} {W : World}

theorem open_num_row {t e : TypeId} {k : IntKind} {A : Option Addr} {len cap : Nat} {d : DataW H} {p : List MemPlace} (ht : P.underlying t = some (.slice e)) (he : P.underlying e = some (.int k)) (hc : P.cellsOf e = 1)
    (h : DataW.Trod enc P W 0 (fun _ => true) true t (.slice A len cap) d p) (hlt : ∀ x ∈ p, x.block < W.heap.size) :
    ∃ zs : List Int, zs.length = len ∧ len ≤ maxLen ∧ (∀ n ∈ zs, (Lit.int k n).wf = true) ∧ (zs = [] ∨ ∃ b off, A = some ⟨b, off, none⟩ ∧ b < W.heap.size ∧ ∀ i, i < zs.length → W.cell? ⟨b, off + i, none⟩ = some (.int k (zs.getD i 0))) := by
  obtain ⟨fuel, hf⟩ := h
  rcases open_ints ht he hc hf with ⟨hcs, hx⟩ | ⟨a, len', cap', zs, hcs, _, hl, hm, hz, hx, hcell, hwz⟩
  · simp [Value.cells] at hcs
    obtain ⟨rfl, rfl, rfl⟩ := hcs
    exact ⟨[], rfl, Nat.zero_le _, by simp, Or.inl rfl⟩
  · simp [Value.cells] at hcs
    obtain ⟨rfl, rfl, rfl⟩ := hcs
    simp only [Prod.mk.injEq] at hx
    obtain ⟨rfl, rfl⟩ := hx
    simp only [if_true] at hz
    refine ⟨zs.take len, by simp; omega, by omega, fun n hn => hwz n (List.mem_of_mem_take hn), ?_⟩
    by_cases h0 : len = 0
    · left; subst h0; simp
    · right
      obtain ⟨b, off, spot⟩ := a
      have hspot : spot = none := by simpa [Addr.add] using World.cell?_spot (hcell 0 (by omega))
      subst hspot
      refine ⟨b, off, rfl, hlt (.cell b off) (MemPlace.mem_row.2 ⟨0, by omega, by simp⟩), fun i hi => ?_⟩
      have hi' : i < len := by simp at hi; omega
      have := hcell i (by omega)
      rw [add_plain] at this
      rw [this]
      simp [hi']

def numOf' : Value → Int | .int _ n => n | _ => 0

theorem open_pair_row {t e : TypeId} {k : IntKind} {f0 f1 : Field} {A : Option Addr} {len cap : Nat} {d : DataW H} {p : List MemPlace} (ht : P.underlying t = some (.slice e)) (he : P.underlying e = some (.struct #[f0, f1]))
    (ce : P.cellsOf e = 2) (o0 : f0.offset = 0) (o1 : f1.offset = 1) (c0 : P.cellsOf f0.type = 1) (c1 : P.cellsOf f1.type = 1) (u0 : P.underlying f0.type = some (.int k)) (u1 : P.underlying f1.type = some (.int k))
    (h : DataW.Trod enc P W 0 (fun _ => true) true t (.slice A len cap) d p) (hlt : ∀ x ∈ p, x.block < W.heap.size) :
    ∃ fs : List (Int × Int), fs.length = len ∧ len ≤ maxLen ∧ (∀ q ∈ fs, (Lit.int k q.1).wf = true ∧ (Lit.int k q.2).wf = true) ∧
      (fs = [] ∨ ∃ b off, A = some ⟨b, off, none⟩ ∧ b < W.heap.size ∧ ∀ i, i < fs.length → W.cell? ⟨b, off + i * 2, none⟩ = some (.int k (fs.getD i (0, 0)).1) ∧ W.cell? ⟨b, off + i * 2 + 1, none⟩ = some (.int k (fs.getD i (0, 0)).2)) := by
  obtain ⟨fuel, hf⟩ := h
  rcases open_slice_pairs ht he ce o0 o1 c0 c1 hf with ⟨hcs, hx⟩ | ⟨a, len', cap', m, n, V0, V1, D0, D1, P0, P1, hcs, _, hl, hm, hmm, hx, hall⟩
  · simp [Value.cells] at hcs
    obtain ⟨rfl, rfl, rfl⟩ := hcs
    exact ⟨[], rfl, Nat.zero_le _, by simp, Or.inl rfl⟩
  · simp [Value.cells] at hcs
    obtain ⟨rfl, rfl, rfl⟩ := hcs
    simp only [Prod.mk.injEq] at hx
    obtain ⟨rfl, rfl⟩ := hx
    simp only [if_true] at hmm
    subst hmm
    have each : ∀ i, i < m → (∃ x, V0 i = .int k x ∧ (Lit.int k x).wf = true) ∧ ∃ x, V1 i = .int k x ∧ (Lit.int k x).wf = true := fun i hi => by
      obtain ⟨_, _, h3, h4⟩ := hall i hi
      obtain ⟨x, e0, _, w0⟩ := DataW.trod_int u0 h3
      obtain ⟨y, e1, _, w1⟩ := DataW.trod_int u1 h4
      simp at e0 e1
      exact ⟨⟨x, e0, w0⟩, ⟨y, e1, w1⟩⟩
    refine ⟨(List.range len).map fun i => (numOf' (V0 i), numOf' (V1 i)), by simp, by omega, ?_, ?_⟩
    · intro q hq
      obtain ⟨i, hi, rfl⟩ := List.mem_map.1 hq
      have hi' := List.mem_range.1 hi
      obtain ⟨⟨x, e0, w0⟩, ⟨y, e1, w1⟩⟩ := each i (by omega)
      rw [e0, e1]
      exact ⟨w0, w1⟩
    · by_cases h0 : len = 0
      · left; subst h0; simp
      · right
        obtain ⟨b, off, spot⟩ := a
        have hspot : spot = none := by simpa [Addr.add] using World.cell?_spot (hall 0 (by omega)).1
        subst hspot
        refine ⟨b, off, rfl, hlt (.cell b off) (List.mem_append_left _ (MemPlace.mem_row.2 ⟨0, by omega, by simp⟩)), fun i hi => ?_⟩
        have hi' : i < len := by simpa using hi
        obtain ⟨h1, h2, _, _⟩ := hall i (by omega)
        obtain ⟨⟨x, e0, _⟩, ⟨y, e1, _⟩⟩ := each i (by omega)
        rw [add_plain] at h1 h2
        rw [Nat.add_assoc, h1, h2, e0, e1]
        simp [hi', e0, e1, numOf']
end
end Go.Proofs.Ythiccboecimfjaa
