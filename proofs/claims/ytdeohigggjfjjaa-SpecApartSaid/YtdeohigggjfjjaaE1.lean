/- What is proved on the way to the statement, part 1 of 4: contracts of the functions, among other things in memory. -/
import Derived.WalkKit
import Derived.Lib.Hide
import Derived.Deep.MidRow
import Derived.Orders
import Derived.Test.YtdeohigggjfjjaaChecked
import Derived.LoopN
import Derived.LoopIn
import Derived.Tactics
import Derived.Deep.Light
import Derived.Deep.LoopGhost
import Derived.Maps.OwnSet
import Derived.Great.Walk
import Derived.Great.BuildSlice
import Derived.Laws.ResultCell

/- What a call's own blocks hold, carried over calls, allocations and stores; and that nothing that was there before has turned. -/
namespace Go.Proofs.Ytdeohigggjfjjaa
open Go.RowKit
set_option maxRecDepth 100000

/-- A block n that holds vs; one of the call's own (from m on) may be written. -/
def Blk (m : Nat) (w : World) (n : Nat) (vs : List Value) : Prop :=
  n < w.heap.size ∧ (∀ i, w.cell? ⟨n, i, none⟩ = vs[i]?) ∧ (m ≤ n → ∀ i, i < vs.length → w.frozen? ⟨n, i, none⟩ = false)
/-- Since w0 nothing that was there has turned, and the blocks of the list hold what it says. -/
def Fr (w0 : World) (bl : List (Nat × List Value)) (w : World) : Prop := Below w0.heap.size w0 w ∧ ∀ x ∈ bl, Blk w0.heap.size w x.1 x.2

theorem Fr.below {w0 w : World} {bl : List (Nat × List Value)} (h : Fr w0 bl w) : Below w0.heap.size w0 w := h.1
theorem Fr.start (w : World) : Fr w [] w := ⟨Below.refl _ _, fun x hx => by cases hx⟩
theorem Fr.drew {w0 w : World} {bl : List (Nat × List Value)} (h : Fr w0 bl w) : Fr w0 bl w.drew := ⟨h.1.drew, fun x hx => h.2 x hx⟩
theorem Fr.over {w0 w w' : World} {bl : List (Nat × List Value)} (h : Fr w0 bl w) (hb : Below w.heap.size w w') : Fr w0 bl w' := by
  refine ⟨h.1.trans (hb.mono h.1.size), fun x hx => ?_⟩
  obtain ⟨h1, h2, h3⟩ := h.2 x hx
  have hs := hb.size
  refine ⟨by omega, fun i => ?_, fun hm i hi => ?_⟩
  · rw [hb.cell (p := ⟨x.1, i, none⟩) h1]; exact h2 i
  · rw [hb.frozen (p := ⟨x.1, i, none⟩) h1]; exact h3 hm i hi
theorem Fr.more {w0 w : World} {bl : List (Nat × List Value)} (h : Fr w0 bl w) (o : Obj) : Fr w0 bl (w.alloc o) := h.over ((Below.refl _ _).alloc (Nat.le_refl _) o)
theorem Fr.push {w0 w : World} {bl : List (Nat × List Value)} (h : Fr w0 bl w) (n : Nat) (hn : w.heap.size = n) (vs : List Value) (t : TypeId) : Fr w0 ((n, vs) :: bl) (w.alloc (.cells vs.toArray t)) := by
  subst hn
  refine ⟨(h.more _).1, fun x hx => ?_⟩
  rcases List.mem_cons.1 hx with rfl | hx
  · exact ⟨by simp, fun i => by simp, fun _ i _ => by simp⟩
  · exact (h.more _).2 x hx
theorem Fr.rule {w0 w : World} {bl : List (Nat × List Value)} (h : Fr w0 bl w) (k : Nat) {n : Nat} {vs : List Value} (e : bl[k]? = some (n, vs)) : ∀ i, w.cell? ⟨n, i, none⟩ = vs[i]? :=
  (h.2 (n, vs) (List.mem_of_getElem? e)).2.1
theorem Fr.lt {w0 w : World} {bl : List (Nat × List Value)} (h : Fr w0 bl w) (k : Nat) {n : Nat} {vs : List Value} (e : bl[k]? = some (n, vs)) : n < w.heap.size :=
  (h.2 (n, vs) (List.mem_of_getElem? e)).1
theorem Fr.thaw {w0 w : World} {bl : List (Nat × List Value)} (h : Fr w0 bl w) (k : Nat) {n : Nat} {vs : List Value} (e : bl[k]? = some (n, vs)) (hn : w0.heap.size ≤ n) : ∀ i, i < vs.length → w.frozen? ⟨n, i, none⟩ = false :=
  (h.2 (n, vs) (List.mem_of_getElem? e)).2.2 hn
/-- A variable that was there before. -/
theorem Fr.seen {w0 w : World} {bl : List (Nat × List Value)} (h : Fr w0 bl w) {n : Nat} {vs : List Value} (hn : n < w0.heap.size) (hc : ∀ i, w0.cell? ⟨n, i, none⟩ = vs[i]?) : Fr w0 ((n, vs) :: bl) w := by
  refine ⟨h.1, fun x hx => ?_⟩
  rcases List.mem_cons.1 hx with rfl | hx
  · exact ⟨by have := h.1.size; simp; omega, fun i => by rw [h.1.cell (p := ⟨n, i, none⟩) hn]; exact hc i, fun hm => by simp at hm; omega⟩
  · exact h.2 x hx
/-- A store into the block that came last: the others stay. -/
theorem Fr.put {w0 w : World} {n : Nat} {vs : List Value} {bl : List (Nat × List Value)} (h : Fr w0 ((n, vs) :: bl) w) (hn : w0.heap.size ≤ n) (hd : ∀ x ∈ bl, x.1 ≠ n) (i : Nat) (hi : i < vs.length) (u : Value) : Fr w0 ((n, vs.set i u) :: bl) (w.setCell ⟨n, i, none⟩ u) := by
  obtain ⟨hb, hbl⟩ := h
  have h0 := hbl (n, vs) (List.mem_cons_self ..)
  refine ⟨hb.setCell hn u, fun x hx => ?_⟩
  rcases List.mem_cons.1 hx with rfl | hx
  · obtain ⟨k1, k2, k3⟩ := h0
    refine ⟨by simpa [World.setCell] using k1, fun j => ?_, fun hm j hj => ?_⟩
    · by_cases hij : j = i
      · subst hij
        rw [World.cell?_setCell_same' _ _ _ (by rw [k2]; simp [hi])]
        simp [hi]
      · have e : (⟨n, i, none⟩ : Addr) ≠ ⟨n, j, none⟩ := fun e => hij (by cases e; rfl)
        have e2 : (w.setCell ⟨n, i, none⟩ u).cell? ⟨n, j, none⟩ = w.cell? ⟨n, j, none⟩ := World.cell?_setCell_other w _ _ u e
        rw [e2, k2, List.getElem?_set, if_neg (fun e => hij e.symm)]
    · rw [World.frozen?_setCell]
      exact k3 hm j (by simpa using hj)
  · obtain ⟨k1, k2, k3⟩ := hbl x (List.mem_cons_of_mem _ hx)
    have hne : x.1 ≠ n := hd x hx
    have hk : (w.setCell ⟨n, i, none⟩ u).heap[x.1]? = w.heap[x.1]? := Below.heap_setCell _ _ _ _ hne
    exact ⟨by simpa [World.setCell] using k1, fun j => by rw [World.cell?_of_block (w := w) hk]; exact k2 j, fun hm j hj => by rw [World.frozen?_of_block (w := w) hk]; exact k3 hm j hj⟩
theorem Fr.tail {w0 w : World} {x : Nat × List Value} {bl : List (Nat × List Value)} (h : Fr w0 (x :: bl) w) : Fr w0 bl w := ⟨h.1, fun y hy => h.2 y (List.mem_cons_of_mem _ hy)⟩
/-- A block of the frame by itself. -/
theorem Fr.blk {w0 w : World} {bl : List (Nat × List Value)} (h : Fr w0 bl w) (k : Nat) {n : Nat} {vs : List Value} (e : bl[k]? = some (n, vs)) (hn : w0.heap.size ≤ n) : Blk 0 w n vs := ⟨h.lt k e, h.rule k e, fun _ => h.thaw k e hn⟩
theorem Fr.put3 {w0 w : World} {n : Nat} {a b c : Value} {bl : List (Nat × List Value)} (h : Fr w0 ((n, [a, b, c]) :: bl) w) (hn : w0.heap.size ≤ n) (hd : ∀ x ∈ bl, x.1 ≠ n) (u v t : Value) : Fr w0 ((n, [u, v, t]) :: bl) (((w.setCell ⟨n, 0, none⟩ u).setCell ⟨n, 1, none⟩ v).setCell ⟨n, 2, none⟩ t) :=
  ((h.put hn hd 0 (by simp) u).put hn hd 1 (by simp) v).put hn hd 2 (by simp) t
theorem Fr.put5 {w0 w : World} {n : Nat} {a b c d e : Value} {bl : List (Nat × List Value)} (h : Fr w0 ((n, [a, b, c, d, e]) :: bl) w) (hn : w0.heap.size ≤ n) (hd : ∀ x ∈ bl, x.1 ≠ n) (u v t x y : Value) :
    Fr w0 ((n, [u, v, t, x, y]) :: bl) (((((w.setCell ⟨n, 0, none⟩ u).setCell ⟨n, 1, none⟩ v).setCell ⟨n, 2, none⟩ t).setCell ⟨n, 3, none⟩ x).setCell ⟨n, 4, none⟩ y) :=
  ((((h.put hn hd 0 (by simp) u).put hn hd 1 (by simp) v).put hn hd 2 (by simp) t).put hn hd 3 (by simp) x).put hn hd 4 (by simp) y
end Go.Proofs.Ytdeohigggjfjjaa

/- Numbers and answers: general. -/
namespace Go.Proofs.Ytdeohigggjfjjaa
open Go.RowKit
set_option maxRecDepth 100000

theorem ret_bool {x y : Bool} (h : x = y) : Ending.returned (.bool x) = .returned (.bool y) := congrArg (fun z => Ending.returned (.bool z)) h
theorem ret_int {k : IntKind} {x y : Int} (h : x = y) : Ending.returned (.int k x) = .returned (.int k y) := congrArg (fun z => Ending.returned (.int k z)) h
theorem ret_pair {k : IntKind} {x y : Int} {a b : Bool} (h : x = y) (g : a = b) : Ending.returned (.tuple #[.int k x, .bool a]) = .returned (.tuple #[.int k y, .bool b]) := by rw [h, g]
theorem w64 (n : Int) (h : -9223372036854775808 ≤ n ∧ n ≤ 9223372036854775807) : wrap64 n = n := by unfold wrap64; omega
/-- What the program counts is what is asked: nothing goes round. -/
theorem mul_in {a b A B : Int} (ha : 0 ≤ a ∧ a ≤ A) (hb : 0 ≤ b ∧ b ≤ B) : 0 ≤ a * b ∧ a * b ≤ A * B :=
  ⟨Int.mul_nonneg ha.1 hb.1, Int.mul_le_mul ha.2 hb.2 hb.1 (by omega)⟩
theorem wrap_mul {a b A B : Int} (ha : 0 ≤ a ∧ a ≤ A) (hb : 0 ≤ b ∧ b ≤ B) (hAB : A * B ≤ 9223372036854775807) : wrap64 (a * b) = a * b := by
  have := mul_in ha hb
  exact w64 _ (by omega)
theorem wrap_i (n : Int) : IntKind.i64.wrap n = wrap64 n := by rw [IntKind.wrap_i64]; unfold wrap64; omega
/-- int(uint(a) % m). -/
theorem cut_u (a m : Int) (h0 : 0 < m) (h1 : m ≤ 1099511627776) : ∃ r : Int, wrap64 ((IntKind.u64.wrap a).tmod m) = r ∧ 0 ≤ r ∧ r < m := by
  refine ⟨_, rfl, ?_⟩
  have e : 0 ≤ IntKind.u64.wrap a := by rw [IntKind.wrap_u64]; omega
  rw [Int.tmod_eq_emod_of_nonneg e]
  have := Int.emod_nonneg (IntKind.u64.wrap a) (show m ≠ 0 by omega)
  have := Int.emod_lt_of_pos (IntKind.u64.wrap a) h0
  unfold wrap64
  omega
/-- 1 + int(uint(a) % m). -/
theorem cut_u1 (a m : Int) (h0 : 0 < m) (h1 : m ≤ 1099511627776) : ∃ r : Int, wrap64 (1 + wrap64 ((IntKind.u64.wrap a).tmod m)) = r ∧ 1 ≤ r ∧ r ≤ m := by
  obtain ⟨r, hr, r0, r1⟩ := cut_u a m h0 h1
  exact ⟨1 + r, by rw [hr]; exact w64 _ (by omega), by omega, by omega⟩
def In64 (n : Int) : Prop := -9223372036854775808 ≤ n ∧ n ≤ 9223372036854775807
def InU (n : Int) : Prop := 0 ≤ n ∧ n ≤ 18446744073709551615
theorem wf_i {n : Int} : (Lit.int .i64 n).wf = true ↔ In64 n := by simp [Lit.wf, IntKind.min, IntKind.max, IntKind.signed, IntKind.bits, In64]
theorem wf_u {n : Int} : (Lit.int .u64 n).wf = true ↔ InU n := by simp [Lit.wf, IntKind.min, IntKind.max, IntKind.signed, IntKind.bits, InU]
end Go.Proofs.Ytdeohigggjfjjaa

/- A state's cells: sixteen pairs by rising keys, zero behind the last one, and how many. -/
namespace Go.Proofs.Ytdeohigggjfjjaa
open Go.RowKit
set_option maxRecDepth 100000

/-- A pair's cells. -/
def encP (p : Int × Int) : List Value := [.int .u64 p.1, .int .u64 p.2]
def flatP : List (Int × Int) → List Value
  | [] => []
  | p :: l => .int .u64 p.1 :: .int .u64 p.2 :: flatP l
@[simp] theorem flatP_length : ∀ l : List (Int × Int), (flatP l).length = 2 * l.length
  | [] => rfl
  | p :: l => by simp only [flatP, List.length_cons, flatP_length l]; omega
theorem flatP_append : ∀ a b : List (Int × Int), flatP (a ++ b) = flatP a ++ flatP b
  | [], b => rfl
  | p :: a, b => by simp [flatP, flatP_append a b]
theorem flatP_get : ∀ (l : List (Int × Int)) (i : Nat), i < l.length → (flatP l)[2 * i]? = some (.int .u64 (l.getD i (0, 0)).1) ∧ (flatP l)[2 * i + 1]? = some (.int .u64 (l.getD i (0, 0)).2)
  | [], i, h => by simp at h
  | p :: l, 0, _ => by simp [flatP]
  | p :: l, i + 1, h => by
    have := flatP_get l i (by simpa using h)
    rw [show 2 * (i + 1) = 2 * i + 1 + 1 by omega, show 2 * i + 1 + 1 + 1 = (2 * i + 1) + 1 + 1 by omega]
    simpa [flatP] using this
def zeros (n : Nat) : List Value := List.replicate n (.int .u64 0)
/-- A state's cells. -/
def encS (l : List (Int × Int)) : List Value := flatP l ++ zeros (32 - 2 * l.length) ++ [.int .i64 l.length]
theorem encS_length {l : List (Int × Int)} (h : l.length ≤ 16) : (encS l).length = 33 := by simp [encS, zeros]; omega
theorem encS_n {l : List (Int × Int)} (h : l.length ≤ 16) : (encS l)[32]? = some (.int .i64 l.length) := by
  unfold encS
  rw [List.getElem?_append_right (by simp [zeros]; omega)]
  simp [zeros, show 32 - (2 * l.length + (32 - 2 * l.length)) = 0 by omega]
theorem encS_key {l : List (Int × Int)} {i : Nat} (h : i < l.length) : (encS l)[i * 2]? = some (.int .u64 (l.getD i (0, 0)).1) ∧ (encS l)[i * 2 + 1]? = some (.int .u64 (l.getD i (0, 0)).2) := by
  unfold encS
  rw [Nat.mul_comm i 2]
  rw [List.append_assoc, List.getElem?_append_left (by simp; omega), List.getElem?_append_left (by simp; omega)]
  exact flatP_get l i h
theorem encS_one (l : List (Int × Int)) : ∀ v ∈ encS l, v.oneCell' = true := by
  intro v hv
  unfold encS at hv
  simp only [List.mem_append, List.mem_singleton, zeros, List.mem_replicate] at hv
  rcases hv with (hv | hv) | hv
  · have h : ∀ (l : List (Int × Int)), ∀ v ∈ flatP l, v.oneCell' = true := by
      intro l
      induction l with
      | nil => intro v hv; cases hv
      | cons p l ih =>
        intro v hv
        simp only [flatP, List.mem_cons] at hv
        rcases hv with rfl | rfl | hv
        · rfl
        · rfl
        · exact ih v hv
    exact h l v hv
  · rw [hv.2]; rfl
  · rw [hv]; rfl
/-- How many keys come ahead of k; whether k is there. -/
def cnt (l : List (Int × Int)) (k : Int) : Nat := l.countP fun p => decide (p.1 < k)
def hasK (l : List (Int × Int)) (k : Int) : Bool := decide (cnt l k < l.length) && decide ((l.getD (cnt l k) (0, 0)).1 = k)
theorem cnt_le (l : List (Int × Int)) (k : Int) : cnt l k ≤ l.length := List.countP_le_length
/-- Keys rise; all are numbers of 64 bits; 16 at most. -/
structure SOk (l : List (Int × Int)) : Prop where
  up : l.Pairwise fun a b => a.1 < b.1
  le : l.length ≤ 16
  u : ∀ p ∈ l, InU p.1 ∧ InU p.2
theorem cnt_of {l : List (Int × Int)} {k : Int} {i : Nat} (hi : i ≤ l.length) (h1 : ∀ j, j < i → (l.getD j (0, 0)).1 < k) (h2 : ∀ j, i ≤ j → j < l.length → k ≤ (l.getD j (0, 0)).1) : cnt l k = i := by
  induction l generalizing i with
  | nil => simp at hi; simp [cnt, hi]
  | cons p l ih =>
    cases i with
    | zero =>
      unfold cnt
      rw [List.countP_eq_zero]
      intro x hx
      obtain ⟨j, hj, rfl⟩ := List.getElem_of_mem hx
      have := h2 j (Nat.zero_le _) hj
      rw [List.getD_eq_getElem?_getD, List.getElem?_eq_getElem hj] at this
      simp at this ⊢
      omega
    | succ i =>
      have hp := h1 0 (by omega)
      simp at hp
      unfold cnt
      rw [List.countP_cons_of_pos (by simpa using hp)]
      have := ih (i := i) (by simpa using hi) (fun j hj => by simpa using h1 (j + 1) (by omega)) (fun j h3 h4 => by simpa using h2 (j + 1) (by omega) (by simpa using h4))
      unfold cnt at this
      rw [this]
theorem up_lt {l : List (Int × Int)} (h : l.Pairwise fun a b => a.1 < b.1) {i j : Nat} (hij : i < j) (hj : j < l.length) : (l.getD i (0, 0)).1 < (l.getD j (0, 0)).1 := by
  have := List.pairwise_iff_getElem.1 h i j (by omega) hj hij
  simpa [List.getD_eq_getElem?_getD, List.getElem?_eq_getElem hj, List.getElem?_eq_getElem (show i < l.length by omega)] using this
end Go.Proofs.Ytdeohigggjfjjaa

/- A drawn region whose operations each come to one value, whatever the order: walked once, in the order of the text. S says what every world on the way keeps (cells that are read, what has not turned); loads, arithmetic and calls (of functions that may make memory) go by it. -/
namespace Go.Proofs.Ytdeohigggjfjjaa
open Go
set_option maxRecDepth 100000

section
variable {P : Program} {ops : Array Oper} {Q : Exit → Act → World → Prop} {md : Region.Mode} {S : World → Prop}

/-- What a run comes to: the value v, or a call that comes to v; S is kept. -/
def LandsIn (P : Program) (S : World → Prop) (v : Value) : Result Next → Prop
  | .ok (.value u) w' => u = v ∧ S w'
  | .ok .skip w' => v = undef ∧ S w'
  | .ok (.enter f args) w' => Calls P f args w' fun e w'' => e = .returned v ∧ S w''
  | _ => False

/-- In frame a the operation comes to v from every world that meets S. -/
def Settles (P : Program) (ops : Array Oper) (S : World → Prop) (o : Oper) (v : Value) (a : Act) : Prop :=
  (Region.wanted o (yielded ops a.tmps) = true ∧ ∀ w, S w → LandsIn P S v ((execOp a.eval o).run P w)) ∨ (Region.wanted o (yielded ops a.tmps) = false ∧ v = undef)

theorem Settles.of_same {o : Oper} {v : Value} {a a' : Act} (h : Settles P ops S o v a) (he : execOp a'.eval o = execOp a.eval o)
    (hw : Region.wanted o (yielded ops a'.tmps) = Region.wanted o (yielded ops a.tmps)) : Settles P ops S o v a' := by
  unfold Settles at *
  rw [he, hw]
  exact h

theorem Settles.wpOp {i : Nat} {o : Oper} {v : Value} {a : Act} (hi : ops[i]? = some o) (h : Settles P ops S o v a) {K : Act → World → Prop} {w : World} (hS : S w)
    (hK : ∀ w', S w' → K (a.put o.dst v) w') : wpOp P ops Q i K a w := by
  unfold Go.wpOp
  simp only [hi]
  rcases h with ⟨hw, hv⟩ | ⟨hw, rfl⟩
  · simp only [hw, if_true]
    have := hv w hS
    refine .inl ?_
    unfold Oper.wp
    generalize (execOp a.eval o).run P w = r at *
    cases r with
    | ok n w' =>
      cases n <;> simp only [LandsIn] at this <;> simp only [Oper.upon]
      case value u => obtain ⟨rfl, h2⟩ := this; exact hK _ h2
      case skip => obtain ⟨rfl, h2⟩ := this; exact hK _ h2
      case enter f args =>
        refine Calls.mono this fun e w'' he => ?_
        obtain ⟨rfl, h2⟩ := he
        exact hK _ h2
    | halt x w' => simp only [LandsIn] at this
  · simp only [hw, Bool.false_eq_true, if_false]
    exact hK _ hS

/-- Whatever order is picked: each operation comes to a value that hangs on the frame alone. -/
def Every (P : Program) (md : Region.Mode) (ops : Array Oper) (Q : Exit → Act → World → Prop) (S : World → Prop) : Nat → Array Bool → Act → Prop
  | 0, listed, a => Region.ready md ops listed = [] ∧ ∀ w, S w → Q .normal a w
  | fuel + 1, listed, a => (Region.ready md ops listed = [] → ∀ w, S w → Q .normal a w) ∧
    ∀ i ∈ Region.ready md ops listed, ∃ o v, ops[i]? = some o ∧ Settles P ops S o v a ∧ Every P md ops Q S fuel (listed.setIfInBounds i true) (a.put o.dst v)

theorem Every.sound : ∀ (fuel : Nat) (listed : Array Bool) (a : Act), Every P md ops Q S fuel listed a → ∀ w, S w → wpAny P md ops Q fuel listed a w
  | 0, _, _, h, w, hS => ⟨h.1, h.2 w hS⟩
  | fuel + 1, listed, a, h, w, hS => ⟨fun h0 => h.1 h0 w hS, fun i hi => by
      obtain ⟨o, v, ho, hs, hE⟩ := h.2 i hi
      exact hs.wpOp ho hS fun w' hS' => Every.sound fuel _ _ hE w' hS'⟩

theorem Every.first {i : Nat} {oi : Oper} {v : Value} (hi : ops[i]? = some oi) (hsel : ∀ (j : Nat) (o : Oper) cs b, ops[j]? = some o → o.op ≠ .select cs b) :
    ∀ (fuel : Nat) (listed : Array Bool) (a : Act),
      (∀ j oj, ops[j]? = some oj → j ≠ i → listed.getD j true = false → (∀ e ∈ oj.after, Region.binds md e = true → e.on ≠ i) → oi.apart ops oj = true) →
      i ∈ Region.ready md ops listed → Settles P ops S oi v a →
      Every P md ops Q S fuel (listed.setIfInBounds i true) (a.put oi.dst v) → Every P md ops Q S (fuel + 1) listed a := by
  intro fuel
  induction fuel with
  | zero =>
    intro listed a _ hr hy H
    refine ⟨fun h => (by rw [h] at hr; cases hr), fun j hj => ?_⟩
    by_cases hji : j = i
    · subst hji; exact ⟨oi, v, hi, hy, H⟩
    · have := ready_mono hj hji
      rw [H.1] at this
      cases this
  | succ fuel ih =>
    intro listed a hfree hr hy H
    refine ⟨fun h => (by rw [h] at hr; cases hr), fun j hj => ?_⟩
    by_cases hji : j = i
    · subst hji; exact ⟨oi, v, hi, hy, H⟩
    · obtain ⟨oj, u, hoj, hsj, hE⟩ := H.2 j (ready_mono hj hji)
      obtain ⟨hjun, oj', hoj', hall⟩ := mem_ready.1 hj
      obtain rfl : oj = oj' := Option.some.inj (hoj.symm.trans hoj')
      have hnot : ∀ e ∈ oj.after, Region.binds md e = true → e.on ≠ i := fun e he hb heq => by
        have h1 := hall e he hb
        have h0 := (mem_ready.1 hr).1
        rw [heq] at h1
        rcases Nat.lt_or_ge i listed.size with h' | h'
        · simp [h'] at h0 h1; rw [h0] at h1; cases h1
        · simp [Array.getElem?_eq_none h'] at h1
      have hap := hfree j oj hoj hji hjun hnot
      obtain ⟨p1, p2, p3⟩ := Oper.apart_spec hap
      have hfree' : ∀ k ok, ops[k]? = some ok → k ≠ i → (listed.setIfInBounds j true).getD k true = false →
          (∀ e ∈ ok.after, Region.binds md e = true → e.on ≠ i) → oi.apart ops ok = true := fun k ok hk hki hun hno => by
        refine hfree k ok hk hki ?_ hno
        by_cases hjk : j = k
        · subst hjk; exact hjun
        · rw [getD_set_ne true hjk] at hun; exact hun
      refine ⟨oj, u, hoj, hsj.of_same (execOp_put oj (fun cs b => hsel j oj cs b hoj) a oi.dst v p1).symm (wanted_put oj a oi.dst v p1).symm, ?_⟩
      refine ih (listed.setIfInBounds j true) (a.put oj.dst u) hfree' (ready_mono hr (Ne.symm hji)) (hy.of_same (execOp_put oi (fun cs b => hsel i oi cs b hi) a oj.dst u p3) (wanted_put oi a oj.dst u p3)) ?_
      rw [Array.setIfInBounds_comm _ _ hji, ← Act.put_comm a v u p2]
      exact hE

/-- The operations of the text from k on, in its order. -/
def firstK (n k : Nat) : Array Bool := Array.ofFn (n := n) fun i => decide (i.1 < k)
def textFits (md : Region.Mode) (ops : Array Oper) : Bool :=
  Region.noSelect ops && (List.range ops.size).all fun k => Region.free md ops (firstK ops.size k) k && (Region.ready md ops (firstK ops.size k)).contains k
def InText (P : Program) (md : Region.Mode) (ops : Array Oper) (Q : Exit → Act → World → Prop) (S : World → Prop) (rest : List Oper) (a : Act) : Prop :=
  ∀ k, k + rest.length = ops.size → ops.toList.drop k = rest → Every P md ops Q S rest.length (firstK ops.size k) a

theorem firstK_succ (n k : Nat) : (firstK n k).setIfInBounds k true = firstK n (k + 1) := by
  apply Array.ext
  · simp [firstK]
  · intro i h1 h2
    by_cases hik : i = k
    · subst hik
      simp [firstK]
    · have e := Array.getElem_setIfInBounds_ne (xs := firstK n k) (i := k) (j := i) (a := true) (by simpa using h1) (by omega)
      rw [e]
      simp only [firstK, Array.getElem_ofFn]
      congr 1
      apply propext
      omega

theorem InText.nil {a : Act} (h : ∀ w, S w → Q .normal a w) : InText P md ops Q S [] a := fun k hk _ => by
  refine ⟨?_, h⟩
  have hk' : k = ops.size := by simpa using hk
  subst hk'
  unfold Region.ready
  rw [List.filter_eq_nil_iff]
  intro i hi
  have : i < ops.size := by simpa using hi
  simp [firstK, this]

theorem InText.cons {o : Oper} {rest : List Oper} {a : Act} {v : Value} (hf : textFits md ops = true) (hs : Settles P ops S o v a) (h : InText P md ops Q S rest (a.put o.dst v)) : InText P md ops Q S (o :: rest) a := fun k hk hd => by
  unfold textFits at hf
  rw [Bool.and_eq_true, List.all_eq_true] at hf
  have hlt : k < ops.size := by simp at hk; omega
  have hf2 := hf.2 k (by simpa using hlt)
  rw [Bool.and_eq_true] at hf2
  have ho : ops[k]? = some o := by
    have h0 : (ops.toList.drop k)[0]? = some o := by rw [hd]; rfl
    simpa using h0
  have hsel : ∀ (j : Nat) (o : Oper) cs b, ops[j]? = some o → o.op ≠ .select cs b := Region.noSelect_spec hf.1
  refine Every.first ho hsel rest.length (firstK ops.size k) a (Region.free_spec ho hf2.1) (by simpa using hf2.2) hs ?_
  rw [firstK_succ]
  refine h (k + 1) (by simp at hk; omega) ?_
  rw [← List.drop_drop, hd]
  rfl

/-- The start. -/
theorem wp_text {id : Nat} {a : Act} {w : World} (hm : P.follows .mixedOrders = true) (hf : textFits .any ops = true) (hS : S w.drew) (h : textFits .any ops = true → InText P .any ops Q S ops.toList a) : (Code.region id ops true).wp P Q a w :=
  wp_region_any hm (by
    have h0 := h hf 0 (by simp) rfl
    have e : firstK ops.size 0 = Array.replicate ops.size false := by
      apply Array.ext
      · simp [firstK]
      · intro i h1 h2; simp [firstK]
    rw [e] at h0
    simpa using Every.sound _ _ _ h0 _ hS)

/-- One step each: a value (arithmetic, a load, a move). -/
theorem text_value {o : Oper} {rest : List Oper} {a : Act} {v : Value} (hf : textFits md ops = true) (hw : Region.wanted o (yielded ops a.tmps) = true) (hv : ∀ w, S w → (execOp a.eval o).run P w = .ok (.value v) w)
    (h : InText P md ops Q S rest (a.put o.dst v)) : InText P md ops Q S (o :: rest) a :=
  InText.cons hf (Or.inl ⟨hw, fun w hS => by rw [hv w hS]; exact ⟨rfl, hS⟩⟩) h
/-- .. an operation that is not wanted .. -/
theorem text_off {o : Oper} {rest : List Oper} {a : Act} (hf : textFits md ops = true) (hw : Region.wanted o (yielded ops a.tmps) = false) (h : InText P md ops Q S rest (a.put o.dst undef)) : InText P md ops Q S (o :: rest) a :=
  InText.cons hf (Or.inr ⟨hw, rfl⟩) h
/-- .. a call. -/
theorem text_call {o : Oper} {rest : List Oper} {a : Act} {v : Value} {f : FuncId} {args : Array Value} (hf : textFits md ops = true) (hw : Region.wanted o (yielded ops a.tmps) = true) (hr : ∀ w, S w → (execOp a.eval o).run P w = .ok (.enter f args) w)
    (hc : ∀ w, S w → Calls P f args w fun e w' => e = .returned v ∧ S w') (h : InText P md ops Q S rest (a.put o.dst v)) : InText P md ops Q S (o :: rest) a :=
  InText.cons hf (Or.inl ⟨hw, fun w hS => by rw [hr w hS]; exact hc w hS⟩) h
end
end Go.Proofs.Ytdeohigggjfjjaa

/- Where a key is among a state's pairs. -/
namespace Go.Proofs.Ytdeohigggjfjjaa
open Go.RowKit
set_option maxRecDepth 100000

theorem cmp_u (a b : Int) (w : World) : Calls Try.prog 29 #[.int .u64 a, .int .u64 b] w fun e w' => e = .returned (.int .i64 (if a < b then -1 else if b < a then 1 else 0)) ∧ w' = w := by
  have hn : ∀ (x : Int) (w' : World), Calls Try.prog 35 #[.int .u64 x] w' fun e w'' => e = .returned (.bool false) ∧ w'' = w' := by
    intro x w'
    go_enter Try.func35, Try.ntmps35
    go_wp2
    go_ret
    exact ⟨ret_bool (by simp), rfl⟩
  have hH : Hid (∀ (x : Int) (w' : World), Calls Try.prog 35 #[.int .u64 x] w' fun e w'' => e = .returned (.bool false) ∧ w'' = w') := Lib.hid hn
  clear hn
  go_enter Try.func29, Try.ntmps29
  go_wp2_with (with_reducible refine (hH.out _ _).mono ?_; rintro e w1 ⟨rfl, rfl⟩)
  all_goals
    go_ret
    (try go_light)
    (try simp only [bne_iff_ne, ne_eq, bne_eq_false_iff_eq, beq_iff_eq, beq_eq_false_iff_ne, Bool.or_eq_true, Bool.and_eq_true, decide_eq_true_eq, decide_eq_false_iff_not, Bool.or_eq_false_iff, Bool.not_eq_true', Bool.not_eq_false'] at *)
    refine ⟨ret_int ?_, by first | rfl | trivial⟩
    first | rfl | (rw [if_pos (by omega)]; done) | (rw [if_neg (by omega), if_pos (by omega)]; done) | (rw [if_neg (by omega), if_neg (by omega)])

theorem cmpf_u (a v k : Int) (w : World) : Calls Try.prog 32 #[.agg #[.int .u64 a, .int .u64 v], .int .u64 k] w fun e w' => e = .returned (.int .i64 (if a < k then -1 else if k < a then 1 else 0)) ∧ Below w.heap.size w w' := by
  have hF := (Fr.start w).push w.heap.size rfl [.int .u64 a, .int .u64 v] 26
  have r := hF.rule 0 rfl
  have c1 := Lib.hid (cmp_u a k)
  generalize (if a < k then (-1 : Int) else if k < a then 1 else 0) = z at *
  go_enter Try.func32, Try.ntmps32
  go_wp2_with (with_reducible refine (c1.out _).mono ?_; rintro e w1 ⟨rfl, rfl⟩)
  go_ret
  exact ⟨rfl, hF.below⟩

/-- slices.BinarySearchFunc over a state's pairs. -/
theorem search_u (l : List (Int × Int)) (N : Nat) (k : Int) (w : World) (hl : l.Pairwise fun a b => a.1 < b.1) (hn : l.length ≤ 16) (hN : N < w.heap.size) (hc : ∀ i, w.cell? ⟨N, i, none⟩ = (encS l)[i]?) (cap : Nat) :
    Calls Try.prog 31 #[.slice (some ⟨N, 0, none⟩) l.length cap, .int .u64 k, .func (.func 32) #[] #[]] w fun e w' => e = .returned (.tuple #[.int .i64 (cnt l k), .bool (hasK l k)]) ∧ Below w.heap.size w w' := by
  have hF : Fr w [(N, encS l)] w := (Fr.start w).seen hN hc
  have HC := Lib.hid (cmpf_u)
  have HL := Lib.hid hl
  clear hl hc
  generalize hcn : cnt l k = c at *
  have HCN := Lib.hid hcn
  clear hcn
  have HK : Hid (hasK l k = (decide (c < l.length) && decide ((l.getD c (0, 0)).1 = k))) := Lib.hid (by unfold hasK; rw [HCN.out])
  generalize hasK l k = b at *
  generalize hnn : l.length = n at *
  have HN := Lib.hid hnn
  clear hnn
  go_enter Try.func31, Try.ntmps31
  go_wp2_with fail
  have key : ∀ (lo hi : Nat), lo ≤ hi → hi ≤ n → (∀ t, t < lo → (l.getD t (0, 0)).1 < k) → (∀ t, hi ≤ t → t < n → k ≤ (l.getD t (0, 0)).1) → lo = hi → c = lo := fun lo hi h1 h2 h3 h4 h5 => by
    rw [← HCN.out]
    exact cnt_of (by rw [HN.out]; omega) h3 (fun j h6 h7 => h4 j (by omega) (by rw [← HN.out]; exact h7))
  have KEY := Lib.hid key
  clear key
  go_loopg [9, 10] n (fun kx s9 s10 wr => ∃ lo hi : Nat, s9 = .int .i64 lo ∧ s10 = .int .i64 hi ∧ lo ≤ hi ∧ hi ≤ n ∧ hi - lo ≤ kx ∧ Hid (Fr w [(N, encS l)] wr) ∧
    Hid ((∀ t, t < lo → (l.getD t (0, 0)).1 < k) ∧ (∀ t, hi ≤ t → t < n → k ≤ (l.getD t (0, 0)).1)))
  case atStart => exact ⟨0, n, rfl, rfl, Nat.zero_le _, Nat.le_refl _, by omega, Lib.hid hF, Lib.hid ⟨fun t ht => absurd ht (Nat.not_lt_zero _), fun t h1 h2 => by omega⟩⟩
  case round =>
    clear hF
    obtain ⟨lo, hi, rfl, rfl, hlh, hin, hg, S1, I⟩ := hrel
    by_cases hlt : lo < hi
    · have hm : (lo + hi) / 2 < l.length := by rw [HN.out]; omega
      have cm1 := (S1.out.rule 0 rfl ((lo + hi) / 2 * 2)).trans (encS_key hm).1
      have cm2 := (S1.out.rule 0 rfl ((lo + hi) / 2 * 2 + 1)).trans (encS_key hm).2
      have hy : ∃ y, l.getD ((lo + hi) / 2) (0, 0) = y := ⟨_, rfl⟩
      obtain ⟨⟨y1, y2⟩, hy⟩ := hy
      rw [hy] at cm1 cm2
      have Y := Lib.hid hy
      clear hy
      have h5 := HC.out y1 y2 k
      clear hm
      by_cases hyx : y1 < k
      · rw [if_pos hyx] at h5
        have H5 := Lib.hid h5
        clear h5
        go_wp2_with (with_reducible refine (H5.out _).mono ?_; rintro e w1 ⟨rfl, hb⟩)
        go_roundg (hi - ((lo + hi) / 2 + 1))
        case measure => omega
        case rel =>
          have I2 : Hid ((∀ t, t < (lo + hi) / 2 + 1 → (l.getD t (0, 0)).1 < k) ∧ (∀ t, hi ≤ t → t < n → k ≤ (l.getD t (0, 0)).1)) := Lib.hid ⟨fun t ht => by
            by_cases e : t = (lo + hi) / 2
            · rw [e, Y.out]; exact hyx
            · have := up_lt HL.out (i := t) (j := (lo + hi) / 2) (by omega) (by rw [HN.out]; omega)
              rw [Y.out] at this
              simp only at this
              omega, I.out.2⟩
          exact ⟨(lo + hi) / 2 + 1, hi, by rw [show ((lo : Int) + (hi : Int)) / 2 + 1 = (((lo + hi) / 2 + 1 : Nat) : Int) by omega], rfl, by omega, hin, Nat.le_refl _, Lib.hid (S1.out.over hb), I2⟩
      · have H5 : Hid (∀ w', Calls Try.prog 32 #[.agg #[.int .u64 y1, .int .u64 y2], .int .u64 k] w' fun e w'' => ∃ z : Int, 0 ≤ z ∧ e = .returned (.int .i64 z) ∧ Below w'.heap.size w' w'') := Lib.hid fun w' => (h5 w').mono fun e w'' h => by
          rw [if_neg hyx] at h
          exact ⟨_, by split <;> omega, h⟩
        clear h5
        go_wp2_with (with_reducible refine (H5.out _).mono ?_; rintro e w1 ⟨z, hz, rfl, hb⟩)
        go_roundg ((lo + hi) / 2 - lo)
        case measure => omega
        case rel =>
          have I2 : Hid ((∀ t, t < lo → (l.getD t (0, 0)).1 < k) ∧ (∀ t, (lo + hi) / 2 ≤ t → t < n → k ≤ (l.getD t (0, 0)).1)) := Lib.hid ⟨I.out.1, fun t ht htn => by
            by_cases e : t = (lo + hi) / 2
            · rw [e, Y.out]; simp only; omega
            · have := up_lt HL.out (i := (lo + hi) / 2) (j := t) (by omega) (by rw [HN.out]; omega)
              rw [Y.out] at this
              simp only at this
              omega⟩
          exact ⟨lo, (lo + hi) / 2, rfl, by rw [show ((lo : Int) + (hi : Int)) / 2 = (((lo + hi) / 2 : Nat) : Int) by omega], by omega, by omega, Nat.le_refl _, Lib.hid (S1.out.over hb), I2⟩
    · obtain rfl : hi = lo := by omega
      have ecnt : c = hi := KEY.out hi hi (Nat.le_refl _) hin I.out.1 I.out.2 rfl
      subst ecnt
      by_cases hn : c < n
      · have hm : c < l.length := by rw [HN.out]; exact hn
        have cm1 := (S1.out.rule 0 rfl (c * 2)).trans (encS_key hm).1
        have cm2 := (S1.out.rule 0 rfl (c * 2 + 1)).trans (encS_key hm).2
        have hy : ∃ y, l.getD c (0, 0) = y := ⟨_, rfl⟩
        obtain ⟨⟨y1, y2⟩, hy⟩ := hy
        rw [hy] at cm1 cm2
        have Y := Lib.hid hy
        clear hy hm
        have h5 := HC.out y1 y2 k
        have H5 : Hid (∀ w', Calls Try.prog 32 #[.agg #[.int .u64 y1, .int .u64 y2], .int .u64 k] w' fun e w'' => ∃ z : Int, (z = 0 ↔ y1 = k) ∧ e = .returned (.int .i64 z) ∧ Below w'.heap.size w' w'') := Lib.hid fun w' => (h5 w').mono fun e w'' h => ⟨_, by split <;> (try split) <;> omega, h⟩
        clear h5
        go_wp2_with (with_reducible refine (H5.out _).mono ?_; rintro e w1 ⟨z, hz, rfl, hb⟩)
        all_goals
          go_ret2
          refine ⟨?_, (S1.out.over hb).below⟩
          rw [HK.out, Y.out]
          (try go_light)
          (try simp only [bne_iff_ne, ne_eq, bne_eq_false_iff_eq, beq_iff_eq, beq_eq_false_iff_ne, Bool.or_eq_true, Bool.and_eq_true, decide_eq_true_eq, decide_eq_false_iff_not, Bool.or_eq_false_iff, Bool.not_eq_true', Bool.not_eq_false'] at *)
          simp_all
          (try (rw [Bool.eq_iff_iff]; simp [hz]))
      · go_wp2_with fail
        go_ret2
        refine ⟨?_, S1.out.below⟩
        rw [HK.out]
        simp [hn]
end Go.Proofs.Ytdeohigggjfjjaa

/- Where a key is. -/
namespace Go.Proofs.Ytdeohigggjfjjaa
open Go.RowKit
set_option maxRecDepth 100000

theorem und27 : Try.prog.underlying 27 = some (.array (Try.prog.arrayLen 27) (Try.prog.elem 27)) := by kernel_rfl
theorem len27 : Try.prog.arrayLen 27 = 16 := by kernel_rfl
theorem size27 (w : World) : (sizeOf (Try.prog.elem 27)).run Try.prog w = .ok 2 w := by kernel_rfl
theorem slice_h (N n : Nat) (h : n ≤ 16) (w : World) : (Instr.sliceAt 27 (.pointer (some ⟨N, 0, none⟩)) none (some (.int .i64 n)) none).run Try.prog w = .ok (.slice (some ⟨N, 0, none⟩) n 16) w := by
  rw [run_sliceAt_array_h w _ _ und27 .i64 n (by omega) (by rw [len27]; omega), size27]
  simp [slicedAt, len27, Result.andThen, Addr.add]
theorem slice_l (N n : Nat) (h : n < 16) (w : World) : (Instr.sliceAt 27 (.pointer (some ⟨N, 0, none⟩)) (some (.int .i64 n)) none none).run Try.prog w = .ok (.slice (some ⟨N, n * 2, none⟩) (16 - n) (16 - n)) w := by
  rw [run_sliceAt_array_l w _ _ und27 .i64 n (by omega) (by rw [len27]; omega), size27]
  simp [slicedAt, len27, Result.andThen, Addr.add, show ¬ (16 = n) by omega]
  try exact fun h => h.symm
theorem slice_l' (N n : Nat) (h : n ≤ 16) (w : World) : (Instr.sliceAt 27 (.pointer (some ⟨N, 0, none⟩)) (some (.int .i64 n)) none none).run Try.prog w = .ok (.slice (some ⟨N, if n = 16 then 0 else n * 2, none⟩) (16 - n) (16 - n)) w := by
  by_cases e : n = 16
  · subst e
    rw [run_sliceAt_array_l w _ _ und27 .i64 (16 : Nat) (by omega) (by rw [len27]; omega), size27]
    simp [slicedAt, len27, Result.andThen, Addr.add]
  · rw [if_neg e]; exact slice_l N n (by omega) w
theorem slice_lh (N i n : Nat) (hi : i ≤ n) (hn : n ≤ 16) (h : i < 16) (w : World) : (Instr.sliceAt 27 (.pointer (some ⟨N, 0, none⟩)) (some (.int .i64 i)) (some (.int .i64 n)) none).run Try.prog w = .ok (.slice (some ⟨N, i * 2, none⟩) (n - i) (16 - i)) w := by
  rw [run_sliceAt_array_lh w _ _ und27 .i64 .i64 i n (by omega) (by omega) (by rw [len27]; omega), size27]
  simp [slicedAt, len27, Result.andThen, Addr.add, show ¬ (16 = i) by omega]
  try exact fun h => h.symm

/-- find: where a key is, or where it would be; and whether it is there. -/
theorem find_u (l : List (Int × Int)) (N : Nat) (k : Int) (w : World) (hl : l.Pairwise fun a b => a.1 < b.1) (hn : l.length ≤ 16) (hN : N < w.heap.size) (hc : ∀ i, w.cell? ⟨N, i, none⟩ = (encS l)[i]?) :
    Calls Try.prog 22 #[.pointer (some ⟨N, 0, none⟩), .int .u64 k] w fun e w' => e = .returned (.tuple #[.int .i64 (cnt l k), .bool (hasK l k)]) ∧ Below w.heap.size w w' := by
  have hF : Fr w [(N, encS l)] w := (Fr.start w).seen hN hc
  have C1 : Hid (∀ w', Fr w [(N, encS l)] w' → Calls Try.prog 31 #[.slice (some ⟨N, 0, none⟩) l.length 16, .int .u64 k, .func (.func 32) #[] #[]] w' fun e w'' => e = .returned (.tuple #[.int .i64 (cnt l k), .bool (hasK l k)]) ∧ Below w'.heap.size w' w'') := Lib.hid fun w' h => search_u l N k w' hl hn (h.lt 0 rfl) (h.rule 0 rfl) 16
  have HN := Lib.hid (encS_n hn)
  have SL := Lib.hid (slice_h N l.length hn)
  clear hl hc
  generalize cnt l k = c at *
  generalize hasK l k = b at *
  generalize encS l = X at *
  generalize l.length = n at *
  go_enter Try.func22, Try.ntmps22
  go_wp2_with fail
  refine wp_text (S := (Fr w [(N, X)])) (by kernel_rfl) (by kernel_rfl) ?hS (fun hT => ?_)
  case hS => exact Fr.drew hF
  have hT9 := Lib.hid hT
  clear hT hF
  repeat (first
    | (refine text_value (v := ?_) hT9.out (by rfl) ?_ ?_; rotate_left; (focus (intro w5 hS; have r := (hS.rule 0 rfl 32).trans HN.out; have sl := SL.out; go_simp <;> with_reducible rfl)); (try simp only [Act.put, List.setIfInBounds_toArray, List.set_cons_zero, List.set_cons_succ]))
    | (refine text_off hT9.out (by rfl) ?_; (try simp only [Act.put, List.setIfInBounds_toArray, List.set_cons_zero, List.set_cons_succ]))
    | (refine text_call (v := ?_) (f := ?_) (args := ?_) hT9.out (by rfl) ?_ ?_ ?_; rotate_left 3; (focus (intro w5 hS; have r := (hS.rule 0 rfl 32).trans HN.out; have sl := SL.out; go_simp; constructor <;> with_reducible rfl)); (focus (intro w5 hS; (first | (with_reducible refine (C1.out _ hS).mono ?_; rintro e w6 ⟨rfl, hb5⟩; constructor; with_reducible rfl; exact hS.over hb5)))); (try simp only [Act.put, List.setIfInBounds_toArray, List.set_cons_zero, List.set_cons_succ])))
  refine InText.nil fun w5 hF => ?_
  clear hT9
  go_wp2_with fail
  go_ret2
  exact ⟨rfl, hF.below⟩
end Go.Proofs.Ytdeohigggjfjjaa

/- What a state holds, and how many pairs. -/
namespace Go.Proofs.Ytdeohigggjfjjaa
open Go.RowKit
set_option maxRecDepth 100000

theorem hasK_lt {l : List (Int × Int)} {k : Int} (h : hasK l k = true) : cnt l k < l.length := by
  unfold hasK at h
  simp only [Bool.and_eq_true, decide_eq_true_eq] at h
  exact h.1
/-- Its value, or 0. -/
def getK (l : List (Int × Int)) (k : Int) : Int := if hasK l k then (l.getD (cnt l k) (0, 0)).2 else 0

theorem len_s (l : List (Int × Int)) (hn : l.length ≤ 16) (w : World) : Calls Try.prog 25 #[.agg (encS l).toArray] w fun e w' => e = .returned (.int .i64 l.length) ∧ Below w.heap.size w w' := by
  have hF := (Fr.start w).push w.heap.size rfl (encS l) 29
  have r := (hF.rule 0 rfl 32).trans (encS_n hn)
  clear hn
  generalize encS l = X at *
  generalize l.length = n at *
  go_enter Try.func25, Try.ntmps25
  go_wp2_with fail
  go_ret
  exact ⟨rfl, hF.below⟩

theorem get_s (l : List (Int × Int)) (hl : l.Pairwise fun a b => a.1 < b.1) (hn : l.length ≤ 16) (k : Int) (w : World) : Calls Try.prog 11 #[.agg (encS l).toArray, .int .u64 k] w fun e w' => e = .returned (.tuple #[.int .u64 (getK l k), .bool (hasK l k)]) ∧ Below w.heap.size w w' := by
  have hF := (Fr.start w).push w.heap.size rfl (encS l) 29
  have C1 : Hid (∀ w', Fr w [(w.heap.size, encS l)] w' → Calls Try.prog 22 #[.pointer (some ⟨w.heap.size, 0, none⟩), .int .u64 k] w' fun e w'' => e = .returned (.tuple #[.int .i64 (cnt l k), .bool (hasK l k)]) ∧ Below w'.heap.size w' w'') := Lib.hid fun w' h => find_u l w.heap.size k w' hl hn (h.lt 0 rfl) (h.rule 0 rfl)
  have K : Hid (hasK l k = true → (encS l)[cnt l k * 2 + 1]? = some (.int .u64 (getK l k)) ∧ cnt l k < 16) := Lib.hid fun h => ⟨by have := (encS_key (hasK_lt h)).2; rw [this]; unfold getK; rw [if_pos h], by have := hasK_lt h; omega⟩
  have K0 : Hid (hasK l k = false → getK l k = 0) := Lib.hid fun h => by unfold getK; rw [h]; rfl
  clear hl hn
  generalize cnt l k = c at *
  generalize hasK l k = b at *
  generalize getK l k = g at *
  generalize encS l = X at *
  go_enter Try.func11, Try.ntmps11
  go_wp2_with fail
  refine (C1.out _ hF).mono ?_
  rintro e w1 ⟨rfl, hb⟩
  replace hF := hF.over hb
  clear hb
  cases b with
  | false =>
    have k0 := K0.out rfl
    subst k0
    go_wp2_with fail
    go_ret2
    exact ⟨rfl, hF.below⟩
  | true =>
    obtain ⟨k1, k2⟩ := K.out rfl
    have r := (hF.rule 0 rfl (c * 2 + 1)).trans k1
    clear k1
    go_wp2_with fail
    go_ret2
    exact ⟨rfl, hF.below⟩
end Go.Proofs.Ytdeohigggjfjjaa

/- Copying pairs within a state's cells; parts of a block written anew. -/
namespace Go.Proofs.Ytdeohigggjfjjaa
open Go.RowKit
set_option maxRecDepth 100000

theorem run_copy2 {P : Program} (w : World) (dT sT ty elem : TypeId) (b o dLen dCap : Nat) (a : Addr) (sLen sCap : Nat) (cs : List Value)
    (hu : P.underlying dT = some (.slice elem)) (hs : (P.info? elem).map (·.size) = some 2) (hn : cs.length = Nat.min sLen dLen * 2)
    (hsrc : ∀ j v, cs[j]? = some v → w.cell? (a.add j) = some v) (hc : ∀ j, j < cs.length → (w.cell? ⟨b, o + j, none⟩).isSome = true) (hf : ∀ j, j < cs.length → w.frozen? ⟨b, o + j, none⟩ = false) (h1 : ∀ v ∈ cs, v.oneCell' = true) :
    (Builtin.copy_ #[dT, sT] ty #[.slice (some ⟨b, o, none⟩) dLen dCap, .slice (some a) sLen sCap]).run P w = .ok (goInt (Nat.min sLen dLen)) (w.setCells b o cs) := by
  have hl := run_loadCells_list (P := P) w a cs hsrc
  have hst := run_storeCells_cells (P := P) b o cs 0 w (by simpa using hc) (by simpa using hf) h1
  cases hq : P.info? elem with
  | none => simp [hq] at hs
  | some i =>
    have hi : i.size = 2 := by simpa [hq] using hs
    simp [Builtin.copy_, run_underlying hu, Builtin.lenOf, Builtin.firstCells, sizeOf, typeInfo, hq, hi, ← hn, hl, hst]

theorem Fr.sub {w0 w : World} {bl bl' : List (Nat × List Value)} (h : Fr w0 bl w) (hs : ∀ x ∈ bl', x ∈ bl) : Fr w0 bl' w := ⟨h.1, fun x hx => h.2 x (hs x hx)⟩
theorem set_mid {α : Type} (A B C : List α) (u v : α) : (A ++ u :: B ++ C).set A.length v = A ++ [v] ++ (B ++ C) := by
  simp [List.set_append]
theorem Fr.puts {w0 : World} {n : Nat} {bl : List (Nat × List Value)} (hn : w0.heap.size ≤ n) (hd : ∀ x ∈ bl, x.1 ≠ n) (C : List Value) : ∀ (us B A : List Value) (w : World), Fr w0 ((n, A ++ B ++ C) :: bl) w → B.length = us.length → Fr w0 ((n, A ++ us ++ C) :: bl) (w.setCells n A.length us)
  | [], [], A, w, h, _ => h
  | u :: us, b :: B, A, w, h, e => by
    have h1 := h.put hn hd A.length (by simp) u
    rw [set_mid] at h1
    have h2 := Fr.puts hn hd C us B (A ++ [u]) (w.setCell ⟨n, A.length, none⟩ u) (by simpa using h1) (by simpa using e)
    rw [World.setCells]
    simpa using h2

theorem zeros_add (a b : Nat) : zeros (a + b) = zeros a ++ zeros b := by simp [zeros]
theorem zeros_length (a : Nat) : (zeros a).length = a := by simp [zeros]
theorem two_of {α : Type} {l : List α} (h : 2 ≤ l.length) : ∃ x y t, l = x :: y :: t := by
  match l, h with
  | x :: y :: t, _ => exact ⟨x, y, t, rfl⟩
/-- A state with room, seen from where a pair goes in. -/
theorem encS_in {l : List (Int × Int)} {i : Nat} (hi : i ≤ l.length) (hn : l.length < 16) : ∃ x y T, encS l = (flatP (l.take i) ++ [x, y]) ++ T ++ (zeros (30 - 2 * l.length) ++ [.int .i64 l.length]) ∧ T.length = 2 * (l.length - i) := by
  have e1 : encS l = flatP (l.take i) ++ (flatP (l.drop i) ++ zeros 2) ++ (zeros (30 - 2 * l.length) ++ [.int .i64 l.length]) := by
    unfold encS
    rw [show 32 - 2 * l.length = 2 + (30 - 2 * l.length) by omega, zeros_add]
    conv => lhs; rw [← List.take_append_drop i l]
    rw [flatP_append]
    simp
  obtain ⟨x, y, t, h⟩ := two_of (l := flatP (l.drop i) ++ zeros 2) (by simp [zeros])
  refine ⟨x, y, t, ?_, ?_⟩
  · rw [e1, h]; simp
  · have := congrArg List.length h
    simp [zeros] at this
    omega
/-- .. from where one goes out. -/
theorem encS_out {l : List (Int × Int)} {i : Nat} (hi : i < l.length) (hn : l.length ≤ 16) : ∃ B p q, encS l = flatP (l.take i) ++ B ++ ([p, q] ++ zeros (32 - 2 * l.length) ++ [.int .i64 l.length]) ∧ B.length = 2 * (l.length - i - 1) := by
  have e1 : encS l = flatP (l.take i) ++ flatP (l.drop i) ++ (zeros (32 - 2 * l.length) ++ [.int .i64 l.length]) := by
    unfold encS
    conv => lhs; rw [← List.take_append_drop i l]
    rw [flatP_append]
    simp
  have hl : (flatP (l.drop i)).length = 2 * (l.length - i - 1) + 2 := by simp; omega
  have h2 : ((flatP (l.drop i)).drop (2 * (l.length - i - 1))).length = 2 := by rw [List.length_drop, hl]; omega
  obtain ⟨p, q, t, h⟩ := two_of (l := (flatP (l.drop i)).drop (2 * (l.length - i - 1))) (by omega)
  have ht : t = [] := by rw [h] at h2; simpa using h2
  subst ht
  refine ⟨(flatP (l.drop i)).take (2 * (l.length - i - 1)), p, q, ?_, ?_⟩
  · rw [e1]
    conv => lhs; rw [← List.take_append_drop (2 * (l.length - i - 1)) (flatP (l.drop i)), h]
    simp
  · rw [List.length_take, hl]; omega
theorem encS_drop {l : List (Int × Int)} {i : Nat} (hi : i ≤ l.length) {j : Nat} {v : Value} (h : (flatP (l.drop i))[j]? = some v) : (encS l)[i * 2 + j]? = some v := by
  have hj : j < (flatP (l.drop i)).length := (List.getElem?_eq_some_iff.1 h).1
  have e1 : encS l = flatP (l.take i) ++ (flatP (l.drop i) ++ (zeros (32 - 2 * l.length) ++ [.int .i64 l.length])) := by
    unfold encS
    conv => lhs; rw [← List.take_append_drop i l]
    rw [flatP_append]
    simp
  have e2 : (flatP (l.take i)).length = i * 2 := by simp; omega
  rw [e1, List.getElem?_append_right (by omega), e2, show i * 2 + j - i * 2 = j by omega, List.getElem?_append_left hj, h]
theorem flatP_one (l : List (Int × Int)) : ∀ v ∈ flatP l, v.oneCell' = true := fun v hv => encS_one l v (by unfold encS; simp [hv])
theorem last32 (P : List Value) (z : Nat) (v : Value) (h : P.length + z = 32) : (P ++ (zeros z ++ [v]))[32]? = some v := by
  rw [List.getElem?_append_right (by omega), List.getElem?_append_right (by rw [zeros_length]; omega), zeros_length, show 32 - P.length - z = 0 by omega]
  rfl
theorem set_two {α : Type} (A R : List α) (x y u v : α) (i : Nat) (h : A.length = i) : ((A ++ x :: y :: R).set i u).set (i + 1) v = A ++ u :: v :: R := by
  subst h
  simp [List.set_append]
/-- What a state with room comes to, with a pair between. -/
theorem encS_ins {l : List (Int × Int)} {i : Nat} (hi : i ≤ l.length) (hn : l.length < 16) (x y : Value) (k v : Int) :
    (((flatP (l.take i) ++ [x, y] ++ flatP (l.drop i) ++ zeros (30 - 2 * l.length)) ++ [Value.int .i64 ((l.length : Int) + 1)]).set (i * 2) (.int .u64 k)).set (i * 2 + 1) (.int .u64 v) = encS (l.take i ++ (k, v) :: l.drop i) := by
  have e := set_two (flatP (l.take i)) (flatP (l.drop i) ++ zeros (30 - 2 * l.length) ++ [.int .i64 ((l.length : Int) + 1)]) x y (.int .u64 k) (.int .u64 v) (i * 2) (by simp; omega)
  have e2 : (l.take i ++ (k, v) :: l.drop i).length = l.length + 1 := by simp; omega
  unfold encS
  rw [e2, flatP_append, show 32 - 2 * (l.length + 1) = 30 - 2 * l.length by omega]
  simpa [flatP] using e
/-- With a pair more, or another value; without one. -/
def insK (l : List (Int × Int)) (k v : Int) : List (Int × Int) := if hasK l k then l.set (cnt l k) (k, v) else l.take (cnt l k) ++ (k, v) :: l.drop (cnt l k)
def delK (l : List (Int × Int)) (k : Int) : List (Int × Int) := if hasK l k then l.take (cnt l k) ++ l.drop (cnt l k + 1) else l
theorem encS_set {l : List (Int × Int)} {i : Nat} (hi : i < l.length) (k v : Int) : ((encS l).set (i * 2) (.int .u64 k)).set (i * 2 + 1) (.int .u64 v) = encS (l.set i (k, v)) := by
  have h : ∀ (l : List (Int × Int)) (i : Nat), i < l.length → ∀ Z : List Value, ((flatP l ++ Z).set (i * 2) (.int .u64 k)).set (i * 2 + 1) (.int .u64 v) = flatP (l.set i (k, v)) ++ Z := by
    intro l
    induction l with
    | nil => intro i h; simp at h
    | cons p l ih =>
      intro i hi Z
      cases i with
      | zero => simp [flatP]
      | succ i =>
        have := ih i (by simpa using hi) Z
        rw [show (i + 1) * 2 = i * 2 + 1 + 1 by omega, show i * 2 + 1 + 1 + 1 = (i * 2 + 1) + 1 + 1 by omega]
        simp only [flatP, List.cons_append, List.set_cons_succ, this]
  have := h l i hi (zeros (32 - 2 * l.length) ++ [.int .i64 l.length])
  unfold encS
  rw [List.append_assoc, this]
  simp
end Go.Proofs.Ytdeohigggjfjjaa

/- What a call may turn among the blocks that were there; things kept apart. -/
namespace Go.Proofs.Ytdeohigggjfjjaa
open Go.RowKit
set_option maxRecDepth 100000

/-- Of the blocks that were there those of T alone may have turned. -/
structure Turn (T : Nat → Prop) (w w' : World) : Prop where
  os : w'.os = w.os
  tape : w'.tape = w.tape
  output : w'.output = w.output
  size : w.heap.size ≤ w'.heap.size
  block : ∀ k, k < w.heap.size → ¬ T k → w'.heap[k]? = w.heap[k]?

section
variable {T T' : Nat → Prop} {a b c w w' : World}
theorem Turn.refl (T : Nat → Prop) (w : World) : Turn T w w := ⟨rfl, rfl, rfl, Nat.le_refl _, fun _ _ _ => rfl⟩
theorem Turn.then (h : Turn T a b) (k : Turn T' b c) (hT : ∀ k, k < a.heap.size → T' k → T k) : Turn T a c :=
  ⟨k.os.trans h.os, k.tape.trans h.tape, k.output.trans h.output, Nat.le_trans h.size k.size, fun i hi hn => (k.block i (Nat.lt_of_lt_of_le hi h.size) (fun e => hn (hT i hi e))).trans (h.block i hi hn)⟩
theorem Turn.mono (h : Turn T a b) (hT : ∀ k, k < a.heap.size → T k → T' k) : Turn T' a b := ⟨h.os, h.tape, h.output, h.size, fun k hk hn => h.block k hk fun e => hn (hT k hk e)⟩
theorem Turn.of_below (h : Below a.heap.size a b) : Turn T a b := ⟨h.os, h.tape, h.output, h.size, fun k hk _ => h.block k hk⟩
theorem Turn.to_below (h : Turn (fun _ => False) a b) : Below a.heap.size a b := ⟨h.os, h.tape, h.output, h.size, fun k hk => h.block k hk fun e => e⟩
theorem Turn.drew (h : Turn T a b) : Turn T a b.drew := ⟨h.os, h.tape, h.output, h.size, h.block⟩
theorem Turn.alloc (h : Turn T a b) (o : Obj) : Turn T a (b.alloc o) := h.then (T' := fun _ => False) (Turn.of_below ((Below.refl _ b).alloc (Nat.le_refl _) o)) fun _ _ e => e.elim
theorem Turn.setCell (h : Turn T a b) {p : Addr} (hp : p.block < a.heap.size → T p.block) (u : Value) : Turn T a (b.setCell p u) :=
  h.then (T' := fun k => k = p.block) ⟨rfl, rfl, rfl, by simp [World.setCell], fun k _ hn => Below.heap_setCell _ _ _ _ hn⟩ fun k hk e => by subst e; exact hp hk
theorem Turn.grown (h : Turn T a b) {row : Option Nat} (hg : b.grownBy c row) (hr : ∀ k, k < a.heap.size → row = some k → T k) : Turn T a c :=
  h.then (T' := fun k => row = some k) ⟨hg.os, hg.tape, hg.output, hg.size, fun k hk hn => hg.block k hk (fun e => hn e.symm)⟩ hr
theorem Turn.turned (h : Turn T a b) {m : Nat} (hg : b.mapTurned c m) (hm : m < a.heap.size → T m) : Turn T a c := h.grown hg.grown fun k hk e => by cases e; exact hm hk
theorem Turn.below {n : Nat} (h : Below n a b) (k : Turn T b c) (hn : n ≤ b.heap.size) (hT : ∀ k, T k → n ≤ k) : Below n a c :=
  h.trans ⟨k.os, k.tape, k.output, k.size, fun i hi => k.block i (by omega) fun e => by have := hT i e; omega⟩
end

/-- Two things share no block. -/
def Off (F G : Nat → Prop) : Prop := ∀ k, F k → ¬ G k
theorem Off.symm {F G : Nat → Prop} (h : Off F G) : Off G F := fun k hg hf => h k hf hg
/-- A step that turns F alone, behind which F' stands for it: what was F's, or is new. -/
structure Step (F F' : Nat → Prop) (w w' : World) : Prop where
  turn : Turn F w w'
  from' : ∀ k, F' k → F k ∨ w.heap.size ≤ k
theorem Step.off {F F' G : Nat → Prop} {w w' : World} (h : Step F F' w w') (hG : ∀ k, G k → k < w.heap.size) (hd : Off F G) : Off F' G := fun k hf hg => by
  rcases h.from' k hf with h1 | h1
  · exact hd k h1 hg
  · have := hG k hg; omega
theorem Step.refl (F : Nat → Prop) (w : World) : Step F F w w := ⟨Turn.refl _ _, fun _ h => Or.inl h⟩
theorem Step.trans {F F' F'' : Nat → Prop} {a b c : World} (h : Step F F' a b) (k : Step F' F'' b c) : Step F F'' a c :=
  ⟨h.turn.then k.turn fun i hi e => (h.from' i e).resolve_right (by omega), fun i e => by
    rcases k.from' i e with h1 | h1
    · exact h.from' i h1
    · exact Or.inr (Nat.le_trans h.turn.size h1)⟩
theorem Step.base {F F' : Nat → Prop} {w w' : World} {n : Nat} (h : Step F F' w w') (hn : n ≤ w.heap.size) (hF : ∀ k, F k → n ≤ k) : ∀ k, F' k → n ≤ k := fun k hk => by
  rcases h.from' k hk with h1 | h1
  · exact hF k h1
  · omega

theorem Blk.kept {m n : Nat} {vs : List Value} {w w' : World} (h : Blk m w n vs) (hs : w.heap.size ≤ w'.heap.size) (hb : w'.heap[n]? = w.heap[n]?) : Blk m w' n vs :=
  ⟨Nat.lt_of_lt_of_le h.1 hs, fun i => by rw [World.cell?_of_block (w := w) hb]; exact h.2.1 i, fun hm i hi => by rw [World.frozen?_of_block (w := w) hb]; exact h.2.2 hm i hi⟩
theorem Blk.set {m n i : Nat} {vs : List Value} {w : World} (h : Blk m w n vs) (hi : i < vs.length) (u : Value) : Blk m (w.setCell ⟨n, i, none⟩ u) n (vs.set i u) := by
  refine ⟨by simpa [World.setCell] using h.1, fun j => ?_, fun hm j hj => ?_⟩
  · by_cases hij : j = i
    · subst hij
      rw [World.cell?_setCell_same' _ _ _ (by rw [h.2.1]; simp [hi])]
      simp [hi]
    · have e : (⟨n, i, none⟩ : Addr) ≠ ⟨n, j, none⟩ := fun e => hij (by cases e; rfl)
      have e2 : (w.setCell ⟨n, i, none⟩ u).cell? ⟨n, j, none⟩ = w.cell? ⟨n, j, none⟩ := World.cell?_setCell_other w _ _ u e
      rw [e2, h.2.1, List.getElem?_set, if_neg (fun e => hij e.symm)]
  · rw [World.frozen?_setCell]
    exact h.2.2 hm j (by simpa using hj)
theorem Blk.new (m : Nat) (w : World) (vs : List Value) (t : TypeId) : Blk m (w.alloc (.cells vs.toArray t)) w.heap.size vs := ⟨by simp, fun i => by simp, fun _ i _ => by simp⟩
theorem Blk.more {m n : Nat} {vs : List Value} {w : World} (h : Blk m w n vs) (o : Obj) : Blk m (w.alloc o) n vs := h.kept (by simp) (Below.heap_alloc _ _ _ h.1)
theorem Blk.drew {m n : Nat} {vs : List Value} {w : World} (h : Blk m w n vs) : Blk m w.drew n vs := h
theorem Blk.at {m n n' : Nat} {vs : List Value} {w : World} (h : Blk m w n vs) (e : n = n') : Blk m w n' vs := e ▸ h
theorem Blk.rule {m n : Nat} {vs : List Value} {w : World} (h : Blk m w n vs) : ∀ i, w.cell? ⟨n, i, none⟩ = vs[i]? := h.2.1
theorem Blk.thaw {n : Nat} {vs : List Value} {w : World} (h : Blk 0 w n vs) : ∀ i, i < vs.length → w.frozen? ⟨n, i, none⟩ = false := h.2.2 (Nat.zero_le _)

theorem Fr.turn {w0 w w' : World} {bl : List (Nat × List Value)} {T : Nat → Prop} (h : Fr w0 bl w) (ht : Turn T w w') (hT : ∀ k, T k → w0.heap.size ≤ k) (hbl : ∀ x ∈ bl, ¬ T x.1) : Fr w0 bl w' :=
  ⟨Turn.below h.1 ht h.1.size hT, fun x hx => (h.2 x hx).kept ht.size (ht.block _ (h.2 x hx).1 (hbl x hx))⟩
end Go.Proofs.Ytdeohigggjfjjaa

/- Large structs by value: read, written and handed back whole. -/
namespace Go.Proofs.Ytdeohigggjfjjaa
open Go.RowKit
set_option maxRecDepth 100000

theorem res_ct {P : Program} {fn : Func} {p u : Tmp} {ty : TypeId} (h : fn.results = #[.cell p ty, .tmp u]) (tmps : Array Value) (w : World) (b : Nat) (hp : tmps.getD p undef = .pointer (some ⟨b, 0, none⟩)) (cs : List Value) (d : TypeDesc) (hc : w.rangeAt b 0 cs)
    (hu : P.underlying ty = some d) (hd : d.isRow = true) (hi : (P.info? ty).map (·.size) = some cs.length) : (results fn tmps).run P w = .ok (.tuple #[.agg cs.toArray, tmps.getD u undef]) w := by
  rw [results_cell_tmp h, hp]
  simp [asAddr, Result.andThen, run_loadVar_mid w b 0 ty cs d hc hu hd hi]
theorem res_c {P : Program} {fn : Func} {p : Tmp} {ty : TypeId} (h : fn.results = #[.cell p ty]) (tmps : Array Value) (w : World) (b : Nat) (hp : tmps.getD p undef = .pointer (some ⟨b, 0, none⟩)) (cs : List Value) (d : TypeDesc) (hc : w.rangeAt b 0 cs)
    (hu : P.underlying ty = some d) (hd : d.isRow = true) (hi : (P.info? ty).map (·.size) = some cs.length) : (results fn tmps).run P w = .ok (.agg cs.toArray) w := by
  have hp' := hp
  simp only [Array.getD_eq_getD_getElem?] at hp'
  simp only [results, h]
  simp [Sem.run_bind, Result.andThen, hp', asAddr, run_loadVar_mid w b 0 ty cs d hc hu hd hi]
theorem res_cct {P : Program} {fn : Func} {p q u : Tmp} {ty ty' : TypeId} (h : fn.results = #[.cell p ty, .cell q ty', .tmp u]) (tmps : Array Value) (w : World) (b b' : Nat) (hp : tmps.getD p undef = .pointer (some ⟨b, 0, none⟩)) (hq : tmps.getD q undef = .pointer (some ⟨b', 0, none⟩)) (cs cs' : List Value) (d d' : TypeDesc) (hc : w.rangeAt b 0 cs) (hc' : w.rangeAt b' 0 cs')
    (hu : P.underlying ty = some d) (hd : d.isRow = true) (hi : (P.info? ty).map (·.size) = some cs.length) (hu' : P.underlying ty' = some d') (hd' : d'.isRow = true) (hi' : (P.info? ty').map (·.size) = some cs'.length) : (results fn tmps).run P w = .ok (.tuple #[.agg cs.toArray, .agg cs'.toArray, tmps.getD u undef]) w := by
  have hp' := hp
  have hq' := hq
  simp only [Array.getD_eq_getD_getElem?] at hp' hq'
  simp only [results, h]
  simp [Sem.run_bind, Result.andThen, hp', hq', asAddr, run_loadVar_mid w b 0 ty cs d hc hu hd hi, run_loadVar_mid w b' 0 ty' cs' d' hc' hu' hd' hi']
theorem res_ctt {P : Program} {fn : Func} {p u v : Tmp} {ty : TypeId} (h : fn.results = #[.cell p ty, .tmp u, .tmp v]) (tmps : Array Value) (w : World) (b : Nat) (hp : tmps.getD p undef = .pointer (some ⟨b, 0, none⟩)) (cs : List Value) (d : TypeDesc) (hc : w.rangeAt b 0 cs)
    (hu : P.underlying ty = some d) (hd : d.isRow = true) (hi : (P.info? ty).map (·.size) = some cs.length) : (results fn tmps).run P w = .ok (.tuple #[.agg cs.toArray, tmps.getD u undef, tmps.getD v undef]) w := by
  have hp' := hp
  simp only [Array.getD_eq_getD_getElem?] at hp'
  simp only [results, h]
  simp [Sem.run_bind, Result.andThen, hp', asAddr, run_loadVar_mid w b 0 ty cs d hc hu hd hi]
theorem und29 : Try.prog.underlying 29 = some (.struct (match Try.prog.underlying 29 with | some (.struct x) => x | _ => default)) := by kernel_rfl
theorem size29 : (Try.prog.info? 29).map (·.size) = some 33 := by kernel_rfl
theorem size33 {l : List (Int × Int)} (h : l.length ≤ 16) : (Try.prog.info? 29).map (·.size) = some (encS l).length := by rw [encS_length h]; exact size29
theorem size33a {l : List (Int × Int)} (h : l.length ≤ 16) : (Try.prog.info? 29).map (·.size) = some (encS l).toArray.size := by rw [List.size_toArray]; exact size33 h
theorem one33 (l : List (Int × Int)) : (encS l).toArray.all (·.oneCell') = true := all_oneCell_toArray (encS_one l)
theorem Fr.range {w0 w : World} {bl : List (Nat × List Value)} (h : Fr w0 bl w) (k : Nat) {n : Nat} {vs : List Value} (e : bl[k]? = some (n, vs)) : w.rangeAt n 0 vs := fun j v hv => by rw [Nat.zero_add]; rw [h.rule k e]; exact hv
theorem Fr.there {w0 w : World} {bl : List (Nat × List Value)} (h : Fr w0 bl w) (k : Nat) {n : Nat} {vs : List Value} (e : bl[k]? = some (n, vs)) (hn : w0.heap.size ≤ n) {m : Nat} (hm : vs.length = m) : w.there n 0 m := fun j hj => by
  rw [Nat.zero_add, h.rule k e]
  exact ⟨by rw [List.getElem?_eq_getElem (by omega)]; rfl, h.thaw k e hn j (by omega)⟩
/-- A whole block written anew. -/
theorem Fr.whole {w0 w : World} {n : Nat} {vs us : List Value} {bl : List (Nat × List Value)} (h : Fr w0 ((n, vs) :: bl) w) (hn : w0.heap.size ≤ n) (hd : ∀ x ∈ bl, x.1 ≠ n) (e : vs.length = us.length) : Fr w0 ((n, us) :: bl) (w.setCells n 0 us) := by
  have := Fr.puts hn hd [] us vs [] w (by simpa using h) e
  simpa using this

theorem turn_setCells {T : Nat → Prop} {a : World} {n : Nat} (hn : n < a.heap.size → T n) : ∀ (us : List Value) (o : Nat) (w : World), Turn T a w → Turn T a (w.setCells n o us)
  | [], _, _, h => h
  | u :: us, o, w, h => turn_setCells hn us (o + 1) _ (h.setCell (p := ⟨n, o, none⟩) hn u)
/-- A block that is none of the frame's is written. -/
theorem Fr.apart {w0 w : World} {bl : List (Nat × List Value)} (h : Fr w0 bl w) {n : Nat} (hn : w0.heap.size ≤ n) (hd : ∀ x ∈ bl, x.1 ≠ n) (us : List Value) (o : Nat) : Fr w0 bl (w.setCells n o us) :=
  h.turn (T := fun k => k = n) (turn_setCells (T := fun k => k = n) (fun _ => rfl) us o w (Turn.refl _ _)) (fun k e => by rw [e]; exact hn) (fun x hx e => hd x hx e)
/-- In a region that draws its order: a large struct is read, written. -/
theorem exec_load {P : Program} {o : Oper} {ρ : Operand → Value} (w : World) (ty : TypeId) (x : Operand) (ho : o.op = .load ty x) (b : Nat) (hx : ρ x = .pointer (some ⟨b, 0, none⟩)) (cs : List Value) (d : TypeDesc) (hc : w.rangeAt b 0 cs)
    (hu : P.underlying ty = some d) (hd : d.isRow = true) (hi : (P.info? ty).map (·.size) = some cs.length) : (execOp ρ o).run P w = .ok (.value (.agg cs.toArray)) w := by
  unfold execOp
  simp only [ho, hx, Instr.loadAt, Instr.sureAddr, Sem.run_bind, Sem.run_pure, Result.andThen_ok, run_loadVar_mid w b 0 ty cs d hc hu hd hi]
theorem exec_store {P : Program} {o : Oper} {ρ : Operand → Value} (w : World) (ty : TypeId) (x y : Operand) (ho : o.op = .store ty x y) (b : Nat) (cs : List Value) (hx : ρ x = .pointer (some ⟨b, 0, none⟩)) (hy : ρ y = .agg cs.toArray)
    (ht : w.there b 0 cs.length) (hi : (P.info? ty).map (·.size) = some cs.length) (h1 : ∀ v ∈ cs, v.oneCell' = true) : (execOp ρ o).run P w = .ok .skip (w.setCells b 0 cs) := by
  unfold execOp
  simp only [ho, hx, hy, Instr.storeAt, Instr.sureAddr, Sem.run_bind, Sem.run_pure, Result.andThen_ok, run_storeVar_mid w b 0 ty cs.toArray (by simpa using ht) (by simpa using hi) (all_oneCell_toArray h1)]
end Go.Proofs.Ytdeohigggjfjjaa

/- A drawn region in whose course the world is turned: walked once, in the order of the text. S says, of what has been listed so far, what every world on the way keeps. 'Chain': operations that turn the world one behind the other, each hanging on the one ahead of it; all others keep what is said. 'Both': two operations that turn it, in whichever order. -/
namespace Go.Proofs.Ytdeohigggjfjjaa.Ord
open Go
set_option maxRecDepth 100000

section
variable {P : Program} {ops : Array Oper} {Q : Exit → Act → World → Prop} {md : Region.Mode} {S : Array Bool → World → Prop}

/-- What a run comes to: the value v, or a call that comes to v; then T. -/
def LandsIn (P : Program) (T : World → Prop) (v : Value) : Result Next → Prop
  | .ok (.value u) w' => u = v ∧ T w'
  | .ok .skip w' => v = undef ∧ T w'
  | .ok (.enter f args) w' => Calls P f args w' fun e w'' => e = .returned v ∧ T w''
  | _ => False
theorem LandsIn.mono {T T' : World → Prop} {v : Value} {r : Result Next} (h : LandsIn P T v r) (hT : ∀ w, T w → T' w) : LandsIn P T' v r := by
  cases r with
  | ok n w' =>
    cases n <;> simp only [LandsIn] at *
    case value u => exact ⟨h.1, hT _ h.2⟩
    case skip => exact ⟨h.1, hT _ h.2⟩
    case enter f args => exact h.mono fun e w'' he => ⟨he.1, hT _ he.2⟩
  | halt x w' => simp only [LandsIn] at h

/-- In frame a the operation, number i, comes to v from every world that is met when it comes up. -/
def Settles (P : Program) (md : Region.Mode) (ops : Array Oper) (S : Array Bool → World → Prop) (i : Nat) (o : Oper) (v : Value) (a : Act) : Prop :=
  (Region.wanted o (yielded ops a.tmps) = true ∧ ∀ l w, i ∈ Region.ready md ops l → S l w → LandsIn P (S (l.setIfInBounds i true)) v ((execOp a.eval o).run P w)) ∨
  (Region.wanted o (yielded ops a.tmps) = false ∧ v = undef ∧ ∀ l w, i ∈ Region.ready md ops l → S l w → S (l.setIfInBounds i true) w)

theorem Settles.of_same {i : Nat} {o : Oper} {v : Value} {a a' : Act} (h : Settles P md ops S i o v a) (he : execOp a'.eval o = execOp a.eval o)
    (hw : Region.wanted o (yielded ops a'.tmps) = Region.wanted o (yielded ops a.tmps)) : Settles P md ops S i o v a' := by
  unfold Settles at *
  rw [he, hw]
  exact h

theorem Settles.wpOp {i : Nat} {o : Oper} {v : Value} {a : Act} {l : Array Bool} (hi : ops[i]? = some o) (h : Settles P md ops S i o v a) (hr : i ∈ Region.ready md ops l) {K : Act → World → Prop} {w : World} (hS : S l w)
    (hK : ∀ w', S (l.setIfInBounds i true) w' → K (a.put o.dst v) w') : wpOp P ops Q i K a w := by
  unfold Go.wpOp
  simp only [hi]
  rcases h with ⟨hw, hv⟩ | ⟨hw, rfl, hv⟩
  · simp only [hw, if_true]
    have := hv l w hr hS
    refine .inl ?_
    unfold Oper.wp
    generalize (execOp a.eval o).run P w = r at *
    cases r with
    | ok n w' =>
      cases n <;> simp only [LandsIn] at this <;> simp only [Oper.upon]
      case value u => obtain ⟨rfl, h2⟩ := this; exact hK _ h2
      case skip => obtain ⟨rfl, h2⟩ := this; exact hK _ h2
      case enter f args =>
        refine Calls.mono this fun e w'' he => ?_
        obtain ⟨rfl, h2⟩ := he
        exact hK _ h2
    | halt x w' => simp only [LandsIn] at this
  · simp only [hw, Bool.false_eq_true, if_false]
    exact hK _ (hv l w hr hS)

/-- Whatever order is picked: each operation comes to a value that hangs on the frame alone. -/
def Every (P : Program) (md : Region.Mode) (ops : Array Oper) (Q : Exit → Act → World → Prop) (S : Array Bool → World → Prop) : Nat → Array Bool → Act → Prop
  | 0, listed, a => Region.ready md ops listed = [] ∧ ∀ w, S listed w → Q .normal a w
  | fuel + 1, listed, a => (Region.ready md ops listed = [] → ∀ w, S listed w → Q .normal a w) ∧
    ∀ i ∈ Region.ready md ops listed, ∃ o v, ops[i]? = some o ∧ Settles P md ops S i o v a ∧ Every P md ops Q S fuel (listed.setIfInBounds i true) (a.put o.dst v)

theorem Every.sound : ∀ (fuel : Nat) (listed : Array Bool) (a : Act), Every P md ops Q S fuel listed a → ∀ w, S listed w → wpAny P md ops Q fuel listed a w
  | 0, _, _, h, w, hS => ⟨h.1, h.2 w hS⟩
  | fuel + 1, listed, a, h, w, hS => ⟨fun h0 => h.1 h0 w hS, fun i hi => by
      obtain ⟨o, v, ho, hs, hE⟩ := h.2 i hi
      exact hs.wpOp ho hi hS fun w' hS' => Every.sound fuel _ _ hE w' hS'⟩

theorem Every.first {i : Nat} {oi : Oper} {v : Value} (hi : ops[i]? = some oi) (hsel : ∀ (j : Nat) (o : Oper) cs b, ops[j]? = some o → o.op ≠ .select cs b) :
    ∀ (fuel : Nat) (listed : Array Bool) (a : Act),
      (∀ j oj, ops[j]? = some oj → j ≠ i → listed.getD j true = false → (∀ e ∈ oj.after, Region.binds md e = true → e.on ≠ i) → oi.apart ops oj = true) →
      i ∈ Region.ready md ops listed → Settles P md ops S i oi v a →
      Every P md ops Q S fuel (listed.setIfInBounds i true) (a.put oi.dst v) → Every P md ops Q S (fuel + 1) listed a := by
  intro fuel
  induction fuel with
  | zero =>
    intro listed a _ hr hy H
    refine ⟨fun h => (by rw [h] at hr; cases hr), fun j hj => ?_⟩
    by_cases hji : j = i
    · subst hji; exact ⟨oi, v, hi, hy, H⟩
    · have := ready_mono hj hji
      rw [H.1] at this
      cases this
  | succ fuel ih =>
    intro listed a hfree hr hy H
    refine ⟨fun h => (by rw [h] at hr; cases hr), fun j hj => ?_⟩
    by_cases hji : j = i
    · subst hji; exact ⟨oi, v, hi, hy, H⟩
    · obtain ⟨oj, u, hoj, hsj, hE⟩ := H.2 j (ready_mono hj hji)
      obtain ⟨hjun, oj', hoj', hall⟩ := mem_ready.1 hj
      obtain rfl : oj = oj' := Option.some.inj (hoj.symm.trans hoj')
      have hnot : ∀ e ∈ oj.after, Region.binds md e = true → e.on ≠ i := fun e he hb heq => by
        have h1 := hall e he hb
        have h0 := (mem_ready.1 hr).1
        rw [heq] at h1
        rcases Nat.lt_or_ge i listed.size with h' | h'
        · simp [h'] at h0 h1; rw [h0] at h1; cases h1
        · simp [Array.getElem?_eq_none h'] at h1
      have hap := hfree j oj hoj hji hjun hnot
      obtain ⟨p1, p2, p3⟩ := Oper.apart_spec hap
      have hfree' : ∀ k ok, ops[k]? = some ok → k ≠ i → (listed.setIfInBounds j true).getD k true = false →
          (∀ e ∈ ok.after, Region.binds md e = true → e.on ≠ i) → oi.apart ops ok = true := fun k ok hk hki hun hno => by
        refine hfree k ok hk hki ?_ hno
        by_cases hjk : j = k
        · subst hjk; exact hjun
        · rw [getD_set_ne true hjk] at hun; exact hun
      refine ⟨oj, u, hoj, hsj.of_same (execOp_put oj (fun cs b => hsel j oj cs b hoj) a oi.dst v p1).symm (wanted_put oj a oi.dst v p1).symm, ?_⟩
      refine ih (listed.setIfInBounds j true) (a.put oj.dst u) hfree' (ready_mono hr (Ne.symm hji)) (hy.of_same (execOp_put oi (fun cs b => hsel i oi cs b hi) a oj.dst u p3) (wanted_put oi a oj.dst u p3)) ?_
      rw [Array.setIfInBounds_comm _ _ hji, ← Act.put_comm a v u p2]
      exact hE

/-- The operations of the text from k on, in its order. -/
def firstK (n k : Nat) : Array Bool := Array.ofFn (n := n) fun i => decide (i.1 < k)
def textFits (md : Region.Mode) (ops : Array Oper) : Bool :=
  Region.noSelect ops && (List.range ops.size).all fun k => Region.free md ops (firstK ops.size k) k && (Region.ready md ops (firstK ops.size k)).contains k
def InText (P : Program) (md : Region.Mode) (ops : Array Oper) (Q : Exit → Act → World → Prop) (S : Array Bool → World → Prop) (k : Nat) (rest : List Oper) (a : Act) : Prop :=
  k + rest.length = ops.size → ops.toList.drop k = rest → Every P md ops Q S rest.length (firstK ops.size k) a

theorem firstK_succ (n k : Nat) : (firstK n k).setIfInBounds k true = firstK n (k + 1) := by
  apply Array.ext
  · simp [firstK]
  · intro i h1 h2
    by_cases hik : i = k
    · subst hik
      simp [firstK]
    · have e := Array.getElem_setIfInBounds_ne (xs := firstK n k) (i := k) (j := i) (a := true) (by simpa using h1) (by omega)
      rw [e]
      simp only [firstK, Array.getElem_ofFn]
      congr 1
      apply propext
      omega
theorem firstK_get (n k i : Nat) (h : i < n) : (firstK n k).getD i false = decide (i < k) := by simp [firstK, h]

theorem InText.nil {a : Act} {k : Nat} (h : ∀ w, S (firstK ops.size ops.size) w → Q .normal a w) : InText P md ops Q S k [] a := fun hk _ => by
  have hk' : k = ops.size := by simpa using hk
  subst hk'
  refine ⟨?_, h⟩
  unfold Region.ready
  rw [List.filter_eq_nil_iff]
  intro i hi
  have : i < ops.size := by simpa using hi
  simp [firstK, this]

theorem InText.cons {o : Oper} {rest : List Oper} {a : Act} {v : Value} {k : Nat} (hf : textFits md ops = true) (hs : Settles P md ops S k o v a) (h : InText P md ops Q S (k + 1) rest (a.put o.dst v)) : InText P md ops Q S k (o :: rest) a := fun hk hd => by
  unfold textFits at hf
  rw [Bool.and_eq_true, List.all_eq_true] at hf
  have hlt : k < ops.size := by simp at hk; omega
  have hf2 := hf.2 k (by simpa using hlt)
  rw [Bool.and_eq_true] at hf2
  have ho : ops[k]? = some o := by
    have h0 : (ops.toList.drop k)[0]? = some o := by rw [hd]; rfl
    simpa using h0
  have hsel : ∀ (j : Nat) (o : Oper) cs b, ops[j]? = some o → o.op ≠ .select cs b := Region.noSelect_spec hf.1
  refine Every.first ho hsel rest.length (firstK ops.size k) a (Region.free_spec ho hf2.1) (by simpa using hf2.2) hs ?_
  rw [firstK_succ]
  refine h (by simp at hk; omega) ?_
  rw [← List.drop_drop, hd]
  rfl

/-- The start. -/
theorem wp_ord {id : Nat} {a : Act} {w : World} (hm : P.follows .mixedOrders = true) (hf : textFits .any ops = true) (hS : S (firstK ops.size 0) w.drew) (h : textFits .any ops = true → InText P .any ops Q S 0 ops.toList a) : (Code.region id ops true).wp P Q a w :=
  wp_region_any hm (by
    have h0 := h hf (by simp) rfl
    have e : firstK ops.size 0 = Array.replicate ops.size false := by
      apply Array.ext
      · simp [firstK]
      · intro i h1 h2; simp [firstK]
    rw [e] at h0 hS
    simpa using Every.sound _ _ _ h0 _ hS)

/-- Operation k hangs on p at once. -/
def hangs (md : Region.Mode) (ops : Array Oper) (k p : Nat) : Bool :=
  match ops[k]? with
  | some o => o.after.any fun e => Region.binds md e && e.on == p
  | none => false
theorem hangs_listed {l : Array Bool} {k p : Nat} (h : hangs md ops k p = true) (hr : k ∈ Region.ready md ops l) : l.getD p false = true := by
  obtain ⟨_, o, ho, hall⟩ := mem_ready.1 hr
  unfold hangs at h
  rw [ho] at h
  obtain ⟨e, he, h2⟩ := Array.any_eq_true'.1 h
  rw [Bool.and_eq_true] at h2
  have := hall e he h2.1
  rwa [show e.on = p by simpa using h2.2] at this

end

/-! ### One behind the other -/
section
variable {P : Program} {ops : Array Oper} {Q : Exit → Act → World → Prop} {md : Region.Mode} {C : World → Prop} {A : Nat → World → Prop} {ps : List Nat}

/-- What is listed of the operations ps are the first j; then C and A j hold. -/
def Chain (n : Nat) (ps : List Nat) (C : World → Prop) (A : Nat → World → Prop) (l : Array Bool) (w : World) : Prop :=
  l.size = n ∧ C w ∧ ∃ j, j ≤ ps.length ∧ (∀ i p, ps[i]? = some p → p < n ∧ l.getD p false = decide (i < j)) ∧ A j w

theorem chain_start {n : Nat} {w : World} (hlt : ∀ p ∈ ps, p < n) (hC : C w) (hA : A 0 w) : Chain n ps C A (firstK n 0) w := by
  refine ⟨by simp [firstK], hC, 0, Nat.zero_le _, fun i p hp => ?_, hA⟩
  have h := hlt p (List.mem_of_getElem? hp)
  exact ⟨h, by rw [firstK_get _ _ _ h]; simp⟩
theorem chain_end {n : Nat} {w : World} (h : Chain n ps C A (firstK n n) w) : C w ∧ A ps.length w := by
  obtain ⟨_, hC, j, hj, hl, hA⟩ := h
  refine ⟨hC, ?_⟩
  rcases Nat.lt_or_ge j ps.length with hlt | hge
  · exfalso
    have h1 := hl j ps[j] (by simp [hlt])
    rw [firstK_get _ _ _ h1.1] at h1
    simp at h1
    omega
  · rwa [show j = ps.length by omega] at hA

theorem chain_set {n : Nat} {l : Array Bool} {k : Nat} {w w' : World} (hk : k ∉ ps) (h : Chain n ps C A l w) (hC : C w') (hA : ∀ j, A j w → A j w') : Chain n ps C A (l.setIfInBounds k true) w' := by
  obtain ⟨hs, _, j, hj, hl, hA0⟩ := h
  refine ⟨by simpa using hs, hC, j, hj, fun i p hp => ?_, hA j hA0⟩
  have hne : k ≠ p := fun e => hk (e ▸ List.mem_of_getElem? hp)
  rw [Array.getD_eq_getD_getElem?, Array.getElem?_setIfInBounds, if_neg hne, ← Array.getD_eq_getD_getElem?]
  exact hl i p hp

theorem wp_chain (ps : List Nat) (C : World → Prop) (A : Nat → World → Prop) {id : Nat} {a : Act} {w : World} (hm : P.follows .mixedOrders = true) (hf : textFits .any ops = true) (hlt : (ps.all fun p => decide (p < ops.size)) = true) (hC : C w.drew) (hA : A 0 w.drew)
    (h : textFits .any ops = true → InText P .any ops Q (Chain ops.size ps C A) 0 ops.toList a) : (Code.region id ops true).wp P Q a w :=
  wp_ord hm hf (chain_start (fun p hp => by simpa using List.all_eq_true.1 hlt p hp) hC hA) h

/-- A value that hangs on C alone. -/
theorem ch_value {k : Nat} {o : Oper} {rest : List Oper} {a : Act} {v : Value} (hf : textFits md ops = true) (hk : k ∉ ps) (hw : Region.wanted o (yielded ops a.tmps) = true) (hv : ∀ w, C w → (execOp a.eval o).run P w = .ok (.value v) w)
    (h : InText P md ops Q (Chain ops.size ps C A) (k + 1) rest (a.put o.dst v)) : InText P md ops Q (Chain ops.size ps C A) k (o :: rest) a :=
  InText.cons hf (Or.inl ⟨hw, fun l w _ hS => by rw [hv w hS.2.1]; exact ⟨rfl, chain_set hk hS hS.2.1 fun _ h => h⟩⟩) h
theorem ch_off {k : Nat} {o : Oper} {rest : List Oper} {a : Act} (hf : textFits md ops = true) (hk : k ∉ ps) (hw : Region.wanted o (yielded ops a.tmps) = false)
    (h : InText P md ops Q (Chain ops.size ps C A) (k + 1) rest (a.put o.dst undef)) : InText P md ops Q (Chain ops.size ps C A) k (o :: rest) a :=
  InText.cons hf (Or.inr ⟨hw, rfl, fun l w _ hS => chain_set hk hS hS.2.1 fun _ h => h⟩) h
/-- A call that leaves all as it is. -/
theorem ch_call {k : Nat} {o : Oper} {rest : List Oper} {a : Act} {v : Value} {f : FuncId} {args : Array Value} (hf : textFits md ops = true) (hk : k ∉ ps) (hw : Region.wanted o (yielded ops a.tmps) = true)
    (hr : ∀ w, C w → (execOp a.eval o).run P w = .ok (.enter f args) w) (hc : ∀ w, C w → Calls P f args w fun e w' => e = .returned v ∧ C w' ∧ ∀ j, A j w → A j w')
    (h : InText P md ops Q (Chain ops.size ps C A) (k + 1) rest (a.put o.dst v)) : InText P md ops Q (Chain ops.size ps C A) k (o :: rest) a :=
  InText.cons hf (Or.inl ⟨hw, fun l w _ hS => by rw [hr w hS.2.1]; exact (hc w hS.2.1).mono fun e w' he => ⟨he.1, chain_set hk hS he.2.1 he.2.2⟩⟩) h
/-- The j-th that turns the world. -/
theorem ch_turn (j : Nat) {k : Nat} {o : Oper} {rest : List Oper} {a : Act} {v : Value} (hf : textFits md ops = true) (hk : ps[j]? = some k) (hnd : ps.Nodup) (hh : j = 0 ∨ ∃ p, ps[j - 1]? = some p ∧ hangs md ops k p = true) (hw : Region.wanted o (yielded ops a.tmps) = true)
    (hv : ∀ w, C w → A j w → LandsIn P (fun w' => C w' ∧ A (j + 1) w') v ((execOp a.eval o).run P w))
    (h : InText P md ops Q (Chain ops.size ps C A) (k + 1) rest (a.put o.dst v)) : InText P md ops Q (Chain ops.size ps C A) k (o :: rest) a :=
  InText.cons hf (Or.inl ⟨hw, fun l w hr hS => by
    obtain ⟨hs, hC, j', hj', hl, hA⟩ := hS
    have hjl : j < ps.length := (List.getElem?_eq_some_iff.1 hk).1
    have h1 := hl j k hk
    have h2 : l.getD k true = false := (mem_ready.1 hr).1
    have e2 : l.getD k false = false := by
      rw [Array.getD_eq_getD_getElem?] at h2 ⊢
      rcases Nat.lt_or_ge k l.size with hh' | hh'
      · simp [hh'] at h2 ⊢; exact h2
      · simp [Array.getElem?_eq_none hh'] at h2
    have h3 : ¬ j < j' := by rw [h1.2] at e2; simpa using e2
    have h4 : j = j' := by
      rcases hh with rfl | ⟨p, hp, hg⟩
      · omega
      · rcases Nat.eq_zero_or_pos j with rfl | hj
        · omega
        · have h5 := hl (j - 1) p hp
          have h6 := hangs_listed hg hr
          rw [h5.2] at h6
          have : j - 1 < j' := by simpa using h6
          omega
    subst h4
    refine (hv w hC hA).mono fun w' hw' => ⟨by simpa using hs, hw'.1, j + 1, by omega, fun i p hp => ?_, hw'.2⟩
    refine ⟨(hl i p hp).1, ?_⟩
    by_cases hik : p = k
    · subst hik
      have : i = j := (List.getElem?_inj (List.getElem?_eq_some_iff.1 hp).1 hnd).1 (hp.trans hk.symm)
      subst this
      have hp' : p < l.size := by rw [hs]; exact h1.1
      rw [Array.getD_eq_getD_getElem?, Array.getElem?_setIfInBounds, if_pos rfl]
      simp [hp']
    · rw [Array.getD_eq_getD_getElem?, Array.getElem?_setIfInBounds, if_neg (fun e => hik e.symm), ← Array.getD_eq_getD_getElem?, (hl i p hp).2]
      have hne : i ≠ j := fun e => hik (by subst e; exact Option.some.inj (hp.symm.trans hk))
      congr 1
      apply propext
      omega⟩) h
end
end Go.Proofs.Ytdeohigggjfjjaa.Ord

/- A state with a pair more, or another value. -/
namespace Go.Proofs.Ytdeohigggjfjjaa
open Go.RowKit
set_option maxRecDepth 100000

def withK (l : List (Int × Int)) (k v : Int) : List (Int × Int) × Int := if hasK l k || decide (l.length < 16) then (insK l k v, 0) else ([], 6)
theorem with_s (l : List (Int × Int)) (hl : l.Pairwise fun a b => a.1 < b.1) (hn : l.length ≤ 16) (k v : Int) (w : World) : Calls Try.prog 20 #[.agg (encS l).toArray, .agg #[.int .u64 k, .int .u64 v]] w fun e w' => e = .returned (.tuple #[.agg (encS (withK l k v).1).toArray, .int .i64 (withK l k v).2]) ∧ Below w.heap.size w w' := by
  have hF := (Fr.start w).push w.heap.size rfl (encS l) 29
  replace hF := hF.push (w.heap.size + 1) (by simp) [.int .u64 k, .int .u64 v] 26
  have r0 := hF.rule 0 rfl
  have C1 : Hid (∀ w' bl, (w.heap.size, encS l) ∈ bl → Fr w bl w' → Calls Try.prog 22 #[.pointer (some ⟨w.heap.size, 0, none⟩), .int .u64 k] w' fun e w'' => e = .returned (.tuple #[.int .i64 (cnt l k), .bool (hasK l k)]) ∧ Below w'.heap.size w' w'') := Lib.hid fun w' bl hm h => find_u l w.heap.size k w' hl hn (h.2 _ hm).1 (h.2 _ hm).2.1
  generalize hWW : withK l k v = W
  have HW := Lib.hid hWW
  clear hWW
  go_enter Try.func20, Try.ntmps20
  go_wp2_with fail
  replace hF := hF.push (w.heap.size + 2) (by simp) (encS []) 29
  refine (C1.out _ _ (by simp) hF).mono ?_
  rintro e w1 ⟨rfl, hb⟩
  replace hF := hF.over hb
  clear hb r0
  cases hh : hasK l k with
  | true =>
    have hc := hasK_lt hh
    have e9 : withK l k v = (l.set (cnt l k) (k, v), 0) := by unfold withK insK; simp [hh]
    rw [HW.out] at e9
    subst e9
    have hc16 : cnt l k < 16 := by omega
    have r1 := hF.rule 1 rfl
    have cm1 := (hF.rule 2 rfl (cnt l k * 2)).trans (encS_key hc).1
    have cm2 := (hF.rule 2 rfl (cnt l k * 2 + 1)).trans (encS_key hc).2
    have f1 := hF.thaw 2 rfl (Nat.le_refl _) (cnt l k * 2) (by rw [encS_length hn]; omega)
    have f2 := hF.thaw 2 rfl (Nat.le_refl _) (cnt l k * 2 + 1) (by rw [encS_length hn]; omega)
    go_upto_region 8 with fail
    have hL : (l.set (cnt l k) (k, v)).length ≤ 16 := by simpa using hn
    have hG := hF.sub (bl' := [(w.heap.size, encS l), (w.heap.size + 2, encS []), (w.heap.size + 1, [.int .u64 k, .int .u64 v])]) (by simp)
    replace hG := (hG.put (Nat.le_refl _) (by simp) (cnt l k * 2) (by rw [encS_length hn]; omega) (.int .u64 k)).put (Nat.le_refl _) (by simp) (cnt l k * 2 + 1) (by rw [List.length_set, encS_length hn]; omega) (.int .u64 v)
    rw [encS_set hc] at hG
    replace hG := hG.sub (bl' := [(w.heap.size + 2, encS []), (w.heap.size, encS (l.set (cnt l k) (k, v)))]) (by simp)
    generalize World.setCell (World.setCell _ _ _) _ _ = w2 at *
    apply wp_region_lit
    refine wpList_load_mid rfl 29 _ rfl w.heap.size 0 rfl (encS (l.set (cnt l k) (k, v))) _ (hG.range 1 rfl) und29 rfl (size33 hL) ?_
    refine wpList_store_mid rfl 29 _ _ rfl (w.heap.size + 2) 0 (encS (l.set (cnt l k) (k, v))).toArray rfl rfl (hG.there 0 rfl (by omega) (by rw [encS_length (by simp), List.size_toArray, encS_length hL])) (size33a hL) (one33 _) ?_
    replace hG := hG.whole (us := encS (l.set (cnt l k) (k, v))) (by omega) (by simp) (by rw [encS_length (by simp), encS_length hL])
    generalize World.setCells w2 _ _ _ = w3 at *
    go_wp2_with fail
    exact bodyPost_ret (res_ct rfl _ _ (w.heap.size + 2) rfl _ _ (hG.range 0 rfl) und29 rfl (size33 hL)) rfl ⟨rfl, hG.below⟩
  | false =>
    by_cases h16 : l.length < 16
    · have hcn : cnt l k ≤ l.length := cnt_le l k
      have e9 : withK l k v = (insK l k v, 0) := by unfold withK; simp [h16]
      have e8 : insK l k v = l.take (cnt l k) ++ (k, v) :: l.drop (cnt l k) := by unfold insK; rw [hh]; rfl
      rw [e8, HW.out] at e9
      subst e9
      obtain ⟨x, y, T, eT', hT⟩ := encS_in hcn h16
      have eT := Lib.hid eT'
      clear eT'
      have hG := hF.sub (bl' := [(w.heap.size, encS l), (w.heap.size + 2, encS []), (w.heap.size + 1, [.int .u64 k, .int .u64 v])]) (by simp)
      have SL1 : Hid (∀ w5, (Instr.sliceAt 27 (.pointer (some ⟨w.heap.size, 0, none⟩)) (some (.int .i64 ((cnt l k : Int) + 1))) none none).run Try.prog w5 = .ok (.slice (some ⟨w.heap.size, if cnt l k = 15 then 0 else (cnt l k + 1) * 2, none⟩) (15 - cnt l k) (15 - cnt l k)) w5) := Lib.hid fun w5 => by
        have := slice_l' w.heap.size (cnt l k + 1) (by omega) w5
        rw [show 16 - (cnt l k + 1) = 15 - cnt l k by omega] at this
        simpa using this
      have SL2 := Lib.hid (slice_lh w.heap.size (cnt l k) l.length hcn hn (by omega))
      have CP : Hid (∀ w5, Fr w [(w.heap.size, encS l), (w.heap.size + 2, encS []), (w.heap.size + 1, [.int .u64 k, .int .u64 v])] w5 → ∃ w6, (∀ ty, (Builtin.copy_ #[46, 46] ty #[.slice (some ⟨w.heap.size, if cnt l k = 15 then 0 else (cnt l k + 1) * 2, none⟩) (15 - cnt l k) (15 - cnt l k), .slice (some ⟨w.heap.size, cnt l k * 2, none⟩) (l.length - cnt l k) (16 - cnt l k)]).run Try.prog w5 = .ok (goInt (Nat.min (l.length - cnt l k) (15 - cnt l k))) w6) ∧ Fr w [(w.heap.size, (flatP (l.take (cnt l k)) ++ [x, y]) ++ flatP (l.drop (cnt l k)) ++ (zeros (30 - 2 * l.length) ++ [.int .i64 l.length])), (w.heap.size + 2, encS []), (w.heap.size + 1, [.int .u64 k, .int .u64 v])] w6) := Lib.hid fun w5 h => by
        have hL : (flatP (l.drop (cnt l k))).length = 2 * (l.length - cnt l k) := by simp
        have hA : (flatP (l.take (cnt l k)) ++ [x, y]).length = (cnt l k + 1) * 2 := by simp; omega
        refine ⟨w5.setCells w.heap.size ((flatP (l.take (cnt l k)) ++ [x, y]).length) (flatP (l.drop (cnt l k))), fun ty => ?_, Fr.puts (Nat.le_refl _) (by simp) _ _ T _ w5 (by rw [← eT.out]; exact h) (by rw [hT, hL])⟩
        have e0 : w5.setCells w.heap.size ((flatP (l.take (cnt l k)) ++ [x, y]).length) (flatP (l.drop (cnt l k))) = w5.setCells w.heap.size (if cnt l k = 15 then 0 else (cnt l k + 1) * 2) (flatP (l.drop (cnt l k))) := by
          by_cases e : cnt l k = 15
          · have hz : flatP (l.drop (cnt l k)) = [] := List.eq_nil_of_length_eq_zero (by rw [hL]; omega)
            rw [hz]; rfl
          · rw [if_neg e, hA]
        rw [e0]
        have hmin : Nat.min (l.length - cnt l k) (15 - cnt l k) = l.length - cnt l k := Nat.min_eq_left (by omega)
        have hj : ∀ j, j < (flatP (l.drop (cnt l k))).length → (if cnt l k = 15 then 0 else (cnt l k + 1) * 2) + j < 33 := fun j hj => by rw [hL] at hj; split <;> omega
        refine run_copy2 w5 _ _ ty 26 w.heap.size _ _ _ ⟨w.heap.size, cnt l k * 2, none⟩ _ _ (flatP (l.drop (cnt l k))) (by kernel_rfl) (by kernel_rfl) (by rw [hL, hmin]; omega) (fun j v hv => ?_) (fun j hjj => ?_) (fun j hjj => ?_) (flatP_one _)
        · rw [Addr.add_mid, h.rule 0 rfl]
          exact encS_drop hcn hv
        · rw [h.rule 0 rfl, List.getElem?_eq_getElem (by rw [encS_length hn]; exact hj j hjj)]; rfl
        · exact h.thaw 0 rfl (Nat.le_refl _) _ (by rw [encS_length hn]; exact hj j hjj)
      generalize (if cnt l k = 15 then 0 else (cnt l k + 1) * 2) = o5 at SL1 CP
      have r2 := (hG.rule 0 rfl 32).trans (encS_n hn)
      go_upto_region 5 with fail
      have W1 : Hid (IntKind.i64.wrap ((cnt l k : Int) + 1) = (cnt l k : Int) + 1) := Lib.hid (by rw [IntKind.wrap_i64]; omega)
      refine Ord.wp_chain [9] (fun w' => w'.cell? ⟨w.heap.size, 32, none⟩ = some (.int .i64 l.length)) (fun j w' => Fr w [(w.heap.size, if j = 0 then encS l else (flatP (l.take (cnt l k)) ++ [x, y]) ++ flatP (l.drop (cnt l k)) ++ (zeros (30 - 2 * l.length) ++ [.int .i64 l.length])), (w.heap.size + 2, encS []), (w.heap.size + 1, [.int .u64 k, .int .u64 v])] w') (by kernel_rfl) (by kernel_rfl) (by kernel_rfl) r2 (by rw [if_pos rfl]; exact hG.drew) (fun hT => ?_)
      have hT9 := Lib.hid hT
      clear hT
      repeat (first
        | (refine Ord.ch_value (v := ?_) hT9.out (by decide) (by rfl) ?_ ?_; rotate_left; (focus (intro w5 hS; have r := hS; have w1 := W1.out; have s1 := SL1.out; have s2 := SL2.out; go_simp <;> with_reducible rfl)); (try simp only [Act.put, List.setIfInBounds_toArray, List.set_cons_zero, List.set_cons_succ]))
        | (refine Ord.ch_off hT9.out (by decide) (by rfl) ?_; (try simp only [Act.put, List.setIfInBounds_toArray, List.set_cons_zero, List.set_cons_succ])))
      refine Ord.ch_turn (v := goInt (Nat.min (l.length - cnt l k) (15 - cnt l k))) 0 hT9.out rfl (by decide) (Or.inl rfl) (by rfl) ?_ ?_
      · rintro w5 hC5 hA5
        rw [if_pos rfl] at hA5
        obtain ⟨w6, hr, hF6⟩ := CP.out w5 hA5
        go_simp
        have h32 := (hF6.rule 0 rfl 32).trans (last32 _ _ _ (by simp; omega))
        refine ⟨by first | rfl | simp, h32, by simpa using hF6⟩
      refine Ord.InText.nil fun w5 hS => ?_
      clear hT9
      obtain ⟨hC9, hG9⟩ := Ord.chain_end hS
      clear hS
      have eH : (if [9].length = 0 then encS l else flatP (l.take (cnt l k)) ++ [x, y] ++ flatP (l.drop (cnt l k)) ++ (zeros (30 - 2 * l.length) ++ [.int .i64 l.length])) = (flatP (l.take (cnt l k)) ++ [x, y] ++ flatP (l.drop (cnt l k)) ++ zeros (30 - 2 * l.length)) ++ [.int .i64 l.length] := by rw [if_neg (by decide)]; simp
      rw [eH] at hG9
      clear eH hC9 hG
      have hP : (flatP (l.take (cnt l k)) ++ [x, y] ++ flatP (l.drop (cnt l k)) ++ zeros (30 - 2 * l.length)).length = 32 := by simp [zeros]; omega
      generalize hPP : flatP (l.take (cnt l k)) ++ [x, y] ++ flatP (l.drop (cnt l k)) ++ zeros (30 - 2 * l.length) = PP at *
      have HPP := Lib.hid hPP
      clear hPP
      have c32 : w5.cell? ⟨w.heap.size, 32, none⟩ = some (.int .i64 l.length) := by rw [hG9.rule 0 rfl, List.getElem?_append_right (by omega), hP]; rfl
      have f32 : w5.frozen? ⟨w.heap.size, 32, none⟩ = false := hG9.thaw 0 rfl (Nat.le_refl _) 32 (by simp [hP])
      go_upto_region 7 with fail
      have hG := hG9.put (Nat.le_refl _) (by simp) 32 (by simp [hP]) (.int .i64 ((l.length : Int) + 1))
      have e10 : (PP ++ [Value.int .i64 l.length]).set 32 (.int .i64 ((l.length : Int) + 1)) = PP ++ [.int .i64 ((l.length : Int) + 1)] := by rw [← hP]; simp
      rw [e10] at hG
      clear hG9 c32 f32 e10
      generalize World.setCell w5 _ _ = w7 at *
      have hPl : (PP ++ [Value.int .i64 ((l.length : Int) + 1)]).length = 33 := by simp [hP]
      have r1 := hG.rule 2 rfl
      have cm1 : w7.cell? ⟨w.heap.size, cnt l k * 2, none⟩ = some ((PP ++ [Value.int .i64 ((l.length : Int) + 1)]).getD (cnt l k * 2) undef) := by rw [hG.rule 0 rfl, List.getD_eq_getElem?_getD, List.getElem?_eq_getElem (by omega)]; rfl
      have cm2 : w7.cell? ⟨w.heap.size, cnt l k * 2 + 1, none⟩ = some ((PP ++ [Value.int .i64 ((l.length : Int) + 1)]).getD (cnt l k * 2 + 1) undef) := by rw [hG.rule 0 rfl, List.getD_eq_getElem?_getD, List.getElem?_eq_getElem (by omega)]; rfl
      have f1 := hG.thaw 0 rfl (Nat.le_refl _) (cnt l k * 2) (by omega)
      have f2 := hG.thaw 0 rfl (Nat.le_refl _) (cnt l k * 2 + 1) (by omega)
      have hc16 : cnt l k < 16 := by omega
      go_upto_region 8 with fail
      replace hG := (hG.put (Nat.le_refl _) (by simp) (cnt l k * 2) (by omega) (.int .u64 k)).put (Nat.le_refl _) (by simp) (cnt l k * 2 + 1) (by rw [List.length_set]; omega) (.int .u64 v)
      rw [← HPP.out, encS_ins hcn h16] at hG
      have hL : (l.take (cnt l k) ++ (k, v) :: l.drop (cnt l k)).length ≤ 16 := by simp; omega
      replace hG := hG.sub (bl' := [(w.heap.size + 2, encS []), (w.heap.size, encS (l.take (cnt l k) ++ (k, v) :: l.drop (cnt l k)))]) (by simp)
      generalize World.setCell (World.setCell _ _ _) _ _ = w2 at *
      apply wp_region_lit
      refine wpList_load_mid rfl 29 _ rfl w.heap.size 0 rfl (encS (l.take (cnt l k) ++ (k, v) :: l.drop (cnt l k))) _ (hG.range 1 rfl) und29 rfl (size33 hL) ?_
      refine wpList_store_mid rfl 29 _ _ rfl (w.heap.size + 2) 0 (encS (l.take (cnt l k) ++ (k, v) :: l.drop (cnt l k))).toArray rfl rfl (hG.there 0 rfl (by omega) (by rw [encS_length (by simp), List.size_toArray, encS_length hL])) (size33a hL) (one33 _) ?_
      replace hG := hG.whole (us := encS (l.take (cnt l k) ++ (k, v) :: l.drop (cnt l k))) (by omega) (by simp) (by rw [encS_length (by simp), encS_length hL])
      generalize World.setCells w2 _ _ _ = w3 at *
      go_wp2_with fail
      exact bodyPost_ret (res_ct rfl _ _ (w.heap.size + 2) rfl _ _ (hG.range 0 rfl) und29 rfl (size33 hL)) rfl ⟨rfl, hG.below⟩
    · have e9 : withK l k v = ([], 6) := by unfold withK; simp [hh, h16]
      rw [HW.out] at e9
      subst e9
      have en : l.length = 16 := by omega
      have r2 := (hF.rule 2 rfl 32).trans (encS_n hn)
      rw [en] at r2
      go_upto_region 4 with fail
      apply wp_region_lit
      refine wpList_buildTo rfl 29 _ rfl (some 19) rfl (encS []).toArray (by kernel_rfl) ?_
      refine wpList_store_mid rfl 29 _ _ rfl (w.heap.size + 2) 0 (encS []).toArray rfl rfl (hF.there 0 rfl (by omega) (by rw [List.size_toArray])) (size33a (by simp)) (one33 _) ?_
      have hG := hF.whole (us := encS []) (by omega) (by simp) rfl
      generalize World.setCells w1 _ _ _ = w3 at *
      go_wp2_with fail
      exact bodyPost_ret (res_ct rfl _ _ (w.heap.size + 2) rfl _ _ (hG.range 0 rfl) und29 rfl (size33 (by simp))) rfl ⟨rfl, hG.below⟩
end Go.Proofs.Ytdeohigggjfjjaa
