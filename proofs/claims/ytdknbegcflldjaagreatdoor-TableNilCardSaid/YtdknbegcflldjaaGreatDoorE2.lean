/- What is proved on the way to the statement, part 2 of 17: contracts of the functions, among other things in memory. -/
import Derived.Test.YtdknbegcflldjaaGreatDoorE1
import Derived.Lib.SmallJoins
import Derived.Deep.Slices
import Derived.WalkKit
import Derived.Lib.Hide
import Derived.Test.YtdknbegcflldjaaGreatDoorChecked
import Derived.DeepKeys4
import Derived.Maps.Range
import Derived.Deep.Light
import Derived.Shelf.SlMaps.Clone
import Derived.LoopIn
import Derived.OwnWalk

/- A struct by value whose fields are numbers and bools, of however many fields: opened. -/
namespace Go.Proofs.YtdknbegcflldjaaGreatDoor
open Go.RowKit Go.WideShapes Go.ChangeShapes Go.ChangeAt Go.Deep
set_option maxRecDepth 100000

inductive Sca | num (k : IntKind) | boo
/-- A field's type is of that form; a value is. -/
def Sca.fits (P : Program) (t : TypeId) : Sca → Prop
  | .num k => P.underlying t = some (.int k)
  | .boo => P.underlying t = some .bool
def Sca.ok (v : Value) : Sca → Prop
  | .num k => ∃ n, v = .int k n ∧ (Lit.int k n).wf = true
  | .boo => ∃ b, v = .bool b
def FitAll (P : Program) : List Field → List Sca → Prop
  | [], [] => True
  | f :: fs, s :: ss => s.fits P f.type ∧ FitAll P fs ss
  | _, _ => False
theorem FitAll.length {P : Program} : ∀ {fs : List Field} {ss : List Sca}, FitAll P fs ss → fs.length = ss.length
  | [], [], _ => rfl
  | _ :: _, _ :: _, h => by simp [FitAll.length h.2]
theorem FitAll.get {P : Program} : ∀ {fs : List Field} {ss : List Sca}, FitAll P fs ss → ∀ {i : Nat} {s : Sca}, ss[i]? = some s → ∃ f, fs[i]? = some f ∧ s.fits P f.type := by
  intro fs
  induction fs with
  | nil =>
    intro ss h i s e
    cases ss with
    | nil => simp at e
    | cons x ss => exact absurd h (by simp [FitAll])
  | cons f fs ih =>
    intro ss h i s e
    cases ss with
    | nil => exact absurd h (by simp [FitAll])
    | cons x ss =>
      cases i with
      | zero =>
        simp at e
        subst e
        exact ⟨f, rfl, h.1⟩
      | succ i =>
        obtain ⟨f', hf, hs⟩ := ih h.2 (i := i) (by simpa using e)
        exact ⟨f', by simpa using hf, hs⟩

section
variable {H : Type} {enc : TypeId × Value → H} {P : Program} {w : World} {base : Nat} {spare : Nat → Bool} {held : Bool}
theorem open_flat {r : Reach} {b0 : Nat} {t : TypeId} {fs : Array Field} {ss : List Sca} {v : Value} {d : DataW H} {p : List MemPlace} (hs : P.underlying t = some (.struct fs)) (hone : oneCellFields P fs = true) (hC : P.cellsOf t = ss.length) (hfit : FitAll P fs.toList ss)
    (hv : Value.okWide P w r b0 t v) (h : DataW.Trod enc P w base spare held t v d p) :
    ∃ cs : Array Value, v = .agg cs ∧ cs.size = ss.length ∧ ∀ (i : Nat) (s : Sca), ss[i]? = some s → ∃ x, cs[i]? = some x ∧ s.ok x := by
  obtain ⟨cs, rfl, hsz⟩ := okWide_struct hs hv
  obtain ⟨fuel, hf⟩ := h
  obtain ⟨xs, n, -, -, hl, hlen, hall⟩ := DataW.trod_struct hs hf
  refine ⟨cs, rfl, hsz.trans hC, fun i s e => ?_⟩
  obtain ⟨f, hfi, hfs⟩ := hfit.get e
  have hfi' : fs[i]? = some f := by simpa using hfi
  obtain ⟨o, k⟩ := hone_of hone i f hfi'
  have hi : i < cs.size := by
    have : i < ss.length := by
      rcases Nat.lt_or_ge i ss.length with hh | hh
      · exact hh
      · rw [List.getElem?_eq_none hh] at e; cases e
    omega
  have hx : xs[i]? ≠ none := by
    have := (Array.getElem?_eq_some_iff.1 hfi').1
    rw [List.getElem?_eq_getElem (by omega)]
    simp
  have ht := hall i f hfi'
  have hcell : ((Value.agg cs).cells.toList.drop f.offset).take (P.cellsOf f.type) = [cs[i]] := by
    rw [o, k]
    show (cs.toList.drop i).take 1 = _
    have hi' : i < cs.toList.length := by simpa using hi
    rw [List.drop_eq_getElem_cons hi']
    simp
  rw [hcell] at ht
  obtain ⟨y, hy⟩ := Option.ne_none_iff_exists'.1 hx
  rw [hy] at ht
  refine ⟨cs[i], by simp [hi], ?_⟩
  cases s with
  | num k =>
    obtain ⟨n, e1, -, wf⟩ := DataW.trod_int hfs ht
    exact ⟨n, by simpa using e1, wf⟩
  | boo =>
    obtain ⟨b, e1, -⟩ := DataW.trod_bool hfs ht
    exact ⟨b, by simpa using e1⟩
end
theorem list_of {α : Type} {cs : Array α} {n : Nat} (h : cs.size = n) : ∃ l : List α, cs = l.toArray ∧ l.length = n := ⟨cs.toList, rfl, by simpa using h⟩
theorem list2 {α : Type} {l : List α} (h : l.length = 2) : ∃ a b, l = [a, b] := by
  match l, h with
  | [a, b], _ => exact ⟨a, b, rfl⟩
theorem list3 {α : Type} {l : List α} (h : l.length = 3) : ∃ a b c, l = [a, b, c] := by
  match l, h with
  | [a, b, c], _ => exact ⟨a, b, c, rfl⟩
theorem list4 {α : Type} {l : List α} (h : l.length = 4) : ∃ a b c d, l = [a, b, c, d] := by
  match l, h with
  | [a, b, c, d], _ => exact ⟨a, b, c, d, rfl⟩
theorem list5 {α : Type} {l : List α} (h : l.length = 5) : ∃ a b c d e, l = [a, b, c, d, e] := by
  match l, h with
  | [a, b, c, d, e], _ => exact ⟨a, b, c, d, e, rfl⟩
theorem list6 {α : Type} {l : List α} (h : l.length = 6) : ∃ a b c d e f, l = [a, b, c, d, e, f] := by
  match l, h with
  | [a, b, c, d, e, f], _ => exact ⟨a, b, c, d, e, f, rfl⟩
end Go.Proofs.YtdknbegcflldjaaGreatDoor

/- Whatever comes to numbers and bools, structs in structs too: what its cells hold; a slice of such that came in. -/
namespace Go.Proofs.YtdknbegcflldjaaGreatDoor
open Go.RowKit Go.WideShapes Go.ChangeShapes Go.ChangeAt Go.Deep
set_option maxRecDepth 100000

/-- The cells of the fields from offset o on. -/
def flatF (P : Program) (g : TypeId → Option (List Sca)) : List Field → Nat → Option (List Sca)
  | [], _ => some []
  | f :: fs, o => if f.offset = o then (g f.type).bind fun ss => if P.cellsOf f.type = ss.length then (flatF P g fs (o + ss.length)).map fun r => ss ++ r else none else none
/-- The cells of a type, if all are numbers and bools. -/
def flatT (P : Program) : Nat → TypeId → Option (List Sca)
  | 0, _ => none
  | d + 1, t =>
    match P.underlying t with
    | some .bool => some [.boo]
    | some (.int k) => some [.num k]
    | some (.struct fs) => (flatF P (flatT P d) fs.toList 0).bind fun ss => if P.cellsOf t = ss.length then some ss else none
    | _ => none

/-- Each cell is of its kind. -/
def CellsOk (cs : List Value) (ss : List Sca) : Prop := ∀ (i : Nat) (s : Sca), ss[i]? = some s → ∃ v, cs[i]? = some v ∧ s.ok v

section
variable {H : Type} {enc : TypeId × Value → H} {P : Program} {w : World} {base : Nat} {spare : Nat → Bool} {held : Bool}

theorem open_fields {g : TypeId → Option (List Sca)} {n : Nat} (hg : ∀ {t ss} {cs : List Value} {x : DataW H × List MemPlace}, g t = some ss → DataW.trod enc P w base spare held n t cs = some x → CellsOk cs ss) (cs : List Value) :
    ∀ (fs : List Field) (o : Nat) (ss : List Sca), flatF P g fs o = some ss → (∀ f ∈ fs, ∃ y, DataW.trod enc P w base spare held n f.type ((cs.drop f.offset).take (P.cellsOf f.type)) = some y) → CellsOk (cs.drop o) ss
  | [], o, ss, h, _ => by
    simp [flatF] at h
    subst h
    intro i s e
    simp at e
  | f :: fs, o, ss, h, hf => by
    unfold flatF at h
    split at h
    · rename_i ho
      cases h1 : g f.type with
      | none => rw [h1] at h; cases h
      | some s1 =>
        rw [h1] at h
        simp only [Option.bind_some] at h
        split at h
        · rename_i hc
          cases h2 : flatF P g fs (o + s1.length) with
          | none => rw [h2] at h; cases h
          | some s2 =>
            rw [h2] at h
            obtain rfl : s1 ++ s2 = ss := by simpa using h
            obtain ⟨y, hy⟩ := hf f (by simp)
            rw [ho, hc] at hy
            have hk := hg h1 hy
            have hr := open_fields hg cs fs (o + s1.length) s2 h2 fun f' hf' => hf f' (by simp [hf'])
            intro i s e
            by_cases hi : i < s1.length
            · rw [List.getElem?_append_left hi] at e
              obtain ⟨v, hv, hs⟩ := hk i s e
              rw [List.getElem?_take_of_lt hi] at hv
              exact ⟨v, hv, hs⟩
            · rw [List.getElem?_append_right (by omega)] at e
              obtain ⟨v, hv, hs⟩ := hr _ s e
              refine ⟨v, ?_, hs⟩
              rw [List.getElem?_drop] at hv ⊢
              rw [← hv]
              congr 1
              omega
        · cases h
    · cases h

theorem open_cells : ∀ (d : Nat) {t : TypeId} {ss : List Sca} {fuel : Nat} {cs : List Value} {x : DataW H × List MemPlace}, flatT P d t = some ss → DataW.trod enc P w base spare held fuel t cs = some x → CellsOk cs ss
  | 0, _, _, _, _, _, h, _ => by simp [flatT] at h
  | d + 1, t, ss, fuel, cs, x, h, hx => by
    unfold flatT at h
    split at h
    · rename_i hu
      obtain ⟨b, rfl, _⟩ := DataW.trod_bool hu hx
      obtain rfl : [Sca.boo] = ss := by simpa using h
      intro i s e
      cases i with
      | zero => simp at e; subst e; exact ⟨_, rfl, b, rfl⟩
      | succ i => simp at e
    · rename_i k hu
      obtain ⟨n, rfl, _, hw⟩ := DataW.trod_int hu hx
      obtain rfl : [Sca.num k] = ss := by simpa using h
      intro i s e
      cases i with
      | zero => simp at e; subst e; exact ⟨_, rfl, n, rfl, hw⟩
      | succ i => simp at e
    · rename_i fs hu
      cases h1 : flatF P (flatT P d) fs.toList 0 with
      | none => rw [h1] at h; cases h
      | some s1 =>
        rw [h1] at h
        simp only [Option.bind_some] at h
        split at h
        · obtain rfl : s1 = ss := by simpa using h
          obtain ⟨xs, n, _, _, _, hl, hall⟩ := DataW.trod_struct hu hx
          have := open_fields (n := n) (fun {t ss cs x} h1 h2 => open_cells d h1 h2) cs fs.toList 0 s1 h1 fun f hf => by
            obtain ⟨i, hi, he⟩ := List.getElem_of_mem hf
            have hi' : i < fs.size := by simpa using hi
            have := hall i f (by simp [hi']; simpa using he)
            rw [this]
            exact ⟨xs[i]'(by omega), by simp [hl, hi']⟩
          simpa using this
        · cases h
    · cases h

/-- A slice that came in: each cell of each element. -/
theorem open_deep_row {t e : TypeId} {ss : List Sca} {d : Nat} {A : Option Addr} {len cap : Nat} {dt : DataW H} {p : List MemPlace} (ht : P.underlying t = some (.slice e)) (hss : flatT P d e = some ss) (ce : P.cellsOf e = ss.length) (h0 : 0 < ss.length)
    (h : DataW.Trod enc P w 0 (fun _ => true) true t (.slice A len cap) dt p) (hlt : ∀ x ∈ p, x.block < w.heap.size) :
    len ≤ maxLen ∧ (len = 0 ∨ ∃ b off, A = some ⟨b, off, none⟩ ∧ b < w.heap.size ∧ ∀ i, i < len → ∀ (j : Nat) (s : Sca), ss[j]? = some s → ∃ v, w.cell? ⟨b, off + i * ss.length + j, none⟩ = some v ∧ s.ok v) := by
  obtain ⟨fuel, hf⟩ := h
  rcases open_slice ht hf with ⟨hcs, hx⟩ | ⟨a, len', cap', m, n, D, Pl, hcs, _, hl, hm, hmm, hx, hall⟩
  · simp [Value.cells] at hcs
    obtain ⟨rfl, rfl, rfl⟩ := hcs
    exact ⟨Nat.zero_le _, .inl rfl⟩
  · simp [Value.cells] at hcs
    obtain ⟨rfl, rfl, rfl⟩ := hcs
    simp only [Prod.mk.injEq] at hx
    obtain ⟨rfl, rfl⟩ := hx
    simp only [if_true] at hmm
    subst hmm
    refine ⟨by omega, ?_⟩
    by_cases hz : len = 0
    · exact .inl hz
    · right
      have each : ∀ i, i < m → ∀ (j : Nat) (s : Sca), ss[j]? = some s → ∃ v, w.cell? (a.add (i * ss.length + j)) = some v ∧ s.ok v := fun i hi j s hs => by
        obtain ⟨cs', h1, h2⟩ := hall i hi
        obtain ⟨_, hlen, hcell⟩ := World.cells?_some h1
        obtain ⟨v, hv, hok⟩ := open_cells d hss h2 j s hs
        have hj : j < ss.length := (List.getElem?_eq_some_iff.1 hs).1
        have := hcell j (by omega)
        rw [add_add, ce, hv] at this
        exact ⟨v, this, hok⟩
      obtain ⟨b, off, spot⟩ := a
      have hspot : spot = none := by
        obtain ⟨v, hv, _⟩ := each 0 (by omega) 0 (ss[0]) (by simp [h0])
        simpa [Addr.add] using World.cell?_spot hv
      subst hspot
      refine ⟨b, off, rfl, hlt (.cell b off) (List.mem_append_left _ (MemPlace.mem_row.2 ⟨0, by rw [ce]; exact Nat.mul_pos (by omega) h0, by simp⟩)), fun i hi j s hs => ?_⟩
      obtain ⟨v, hv, hok⟩ := each i (by omega) j s hs
      rw [add_plain] at hv
      exact ⟨v, by rw [Nat.add_assoc]; exact hv, hok⟩
/-- A struct by value, structs in it too. -/
theorem open_deep {r : Reach} {b0 : Nat} {t : TypeId} {fs : Array Field} {ss : List Sca} {d : Nat} {v : Value} {dt : DataW H} {p : List MemPlace} (hs : P.underlying t = some (.struct fs)) (hss : flatT P d t = some ss) (hC : P.cellsOf t = ss.length)
    (hv : Value.okWide P w r b0 t v) (h : DataW.Trod enc P w base spare held t v dt p) :
    ∃ cs : Array Value, v = .agg cs ∧ cs.size = ss.length ∧ ∀ (i : Nat) (s : Sca), ss[i]? = some s → ∃ x, cs[i]? = some x ∧ s.ok x := by
  obtain ⟨cs, rfl, hsz⟩ := okWide_struct hs hv
  obtain ⟨fuel, hf⟩ := h
  refine ⟨cs, rfl, hsz.trans hC, fun i s e => ?_⟩
  obtain ⟨x, hx, hk⟩ := open_cells d hss hf i s e
  exact ⟨x, by simpa [Value.cells] using hx, hk⟩
end
end Go.Proofs.YtdknbegcflldjaaGreatDoor

/- Numbers and answers: general. -/
namespace Go.Proofs.YtdknbegcflldjaaGreatDoor
open Go.RowKit
set_option maxRecDepth 100000

theorem ret_bool {x y : Bool} (h : x = y) : Ending.returned (.bool x) = .returned (.bool y) := congrArg (fun z => Ending.returned (.bool z)) h
theorem ret_int {k : IntKind} {x y : Int} (h : x = y) : Ending.returned (.int k x) = .returned (.int k y) := congrArg (fun z => Ending.returned (.int k z)) h
theorem ret_pair {k : IntKind} {x y : Int} {a b : Bool} (h : x = y) (g : a = b) : Ending.returned (.tuple #[.int k x, .bool a]) = .returned (.tuple #[.int k y, .bool b]) := by rw [h, g]
theorem w64 (n : Int) (h : -9223372036854775808 ≤ n ∧ n ≤ 9223372036854775807) : wrap64 n = n := by unfold wrap64; omega
/-- What the program counts is what is asked: nothing goes round. -/
theorem mul_in {a b A B : Int} (ha : 0 ≤ a ∧ a ≤ A) (hb : 0 ≤ b ∧ b ≤ B) : 0 ≤ a * b ∧ a * b ≤ A * B :=
  ⟨Int.mul_nonneg ha.1 hb.1, Int.mul_le_mul ha.2 hb.2 hb.1 (by omega)⟩
theorem wrap_mul {a b A B : Int} (ha : 0 ≤ a ∧ a ≤ A) (hb : 0 ≤ b ∧ b ≤ B) (hAB : A * B ≤ 9223372036854775807) : wrap64 (a * b) = a * b := by
  have := mul_in ha hb
  exact w64 _ (by omega)
theorem wrap_i (n : Int) : IntKind.i64.wrap n = wrap64 n := by rw [IntKind.wrap_i64]; unfold wrap64; omega
/-- int(uint(a) % m). -/
theorem cut_u (a m : Int) (h0 : 0 < m) (h1 : m ≤ 1099511627776) : ∃ r : Int, wrap64 ((IntKind.u64.wrap a).tmod m) = r ∧ 0 ≤ r ∧ r < m := by
  refine ⟨_, rfl, ?_⟩
  have e : 0 ≤ IntKind.u64.wrap a := by rw [IntKind.wrap_u64]; omega
  rw [Int.tmod_eq_emod_of_nonneg e]
  have := Int.emod_nonneg (IntKind.u64.wrap a) (show m ≠ 0 by omega)
  have := Int.emod_lt_of_pos (IntKind.u64.wrap a) h0
  unfold wrap64
  omega
/-- 1 + int(uint(a) % m). -/
theorem cut_u1 (a m : Int) (h0 : 0 < m) (h1 : m ≤ 1099511627776) : ∃ r : Int, wrap64 (1 + wrap64 ((IntKind.u64.wrap a).tmod m)) = r ∧ 1 ≤ r ∧ r ≤ m := by
  obtain ⟨r, hr, r0, r1⟩ := cut_u a m h0 h1
  exact ⟨1 + r, by rw [hr]; exact w64 _ (by omega), by omega, by omega⟩
def In64 (n : Int) : Prop := -9223372036854775808 ≤ n ∧ n ≤ 9223372036854775807
def InU (n : Int) : Prop := 0 ≤ n ∧ n ≤ 18446744073709551615
theorem wf_i {n : Int} : (Lit.int .i64 n).wf = true ↔ In64 n := by simp [Lit.wf, IntKind.min, IntKind.max, IntKind.signed, IntKind.bits, In64]
theorem wf_u {n : Int} : (Lit.int .u64 n).wf = true ↔ InU n := by simp [Lit.wf, IntKind.min, IntKind.max, IntKind.signed, IntKind.bits, InU]
end Go.Proofs.YtdknbegcflldjaaGreatDoor

/- Rows that came in: of whatever structs of numbers and bools; each element's cells. General. -/
namespace Go.Proofs.YtdknbegcflldjaaGreatDoor
open Go.RowKit Go.Maps Go.Deep
set_option maxRecDepth 100000

/-- From o on the block b holds vs. -/
def CellsAt (w : World) (b o : Nat) (vs : List Value) : Prop := ∀ (j : Nat) (v : Value), vs[j]? = some v → w.cell? ⟨b, o + j, none⟩ = some v
theorem CellsAt.below {w w' : World} {b o : Nat} {vs : List Value} (h : CellsAt w b o vs) (hb : Below w.heap.size w w') (hl : b < w.heap.size) : CellsAt w' b o vs := fun j v e => by
  rw [hb.cell (p := ⟨b, o + j, none⟩) hl]; exact h j v e
/-- A row of things of m cells. -/
def RowX {α : Type} [Inhabited α] (enc : α → List Value) (m : Nat) (w : World) (A : Option Addr) (xs : List α) : Prop :=
  xs = [] ∨ ∃ b off, A = some ⟨b, off, none⟩ ∧ b < w.heap.size ∧ ∀ i, i < xs.length → CellsAt w b (off + i * m) (enc (xs.getD i default))
theorem RowX.below {α : Type} [Inhabited α] {enc : α → List Value} {m : Nat} {w w' : World} {A : Option Addr} {xs : List α} (h : RowX enc m w A xs) (hb : Below w.heap.size w w') : RowX enc m w' A xs := by
  rcases h with h | ⟨b, off, rfl, hl, hc⟩
  · exact .inl h
  · exact .inr ⟨b, off, rfl, Nat.lt_of_lt_of_le hl hb.size, fun i hi => (hc i hi).below hb hl⟩
theorem open_rowX {α : Type} [Inhabited α] {enc : α → List Value} {Ok : α → Prop} {P : Program} {H : Type} {en : TypeId × Value → H} {W : World} {t e : TypeId} {ss : List Sca} {dd : Nat} {A : Option Addr} {len cap : Nat} {d : DataW H} {p : List MemPlace}
    (ht : P.underlying t = some (.slice e)) (hss : flatT P dd e = some ss) (ce : P.cellsOf e = ss.length) (h0 : 0 < ss.length)
    (hdec : ∀ (w : World) (b o : Nat), (∀ (j : Nat) (s : Sca), ss[j]? = some s → ∃ v, w.cell? ⟨b, o + j, none⟩ = some v ∧ s.ok v) → ∃ r : α, CellsAt w b o (enc r) ∧ Ok r)
    (h : DataW.Trod en P W 0 (fun _ => true) true t (.slice A len cap) d p) (hlt : ∀ x ∈ p, x.block < W.heap.size) :
    ∃ xs : List α, xs.length = len ∧ len ≤ maxLen ∧ (∀ r ∈ xs, Ok r) ∧ RowX enc ss.length W A xs := by
  obtain ⟨hm, hz | ⟨b, off, rfl, hb, hall⟩⟩ := open_deep_row ht hss ce h0 h hlt
  · exact ⟨[], hz.symm, hm, by simp, .inl rfl⟩
  · have each : ∀ i, i < len → ∃ r : α, CellsAt W b (off + i * ss.length) (enc r) ∧ Ok r := fun i hi => hdec W b _ (hall i hi)
    obtain ⟨f, hf⟩ := choose_lt each
    refine ⟨(List.range len).map f, by simp, hm, fun r hr => ?_, ?_⟩
    · obtain ⟨i, hi, rfl⟩ := List.mem_map.1 hr
      exact (hf i (by simpa using hi)).2
    · refine .inr ⟨b, off, rfl, hb, fun i hi => ?_⟩
      have hi' : i < len := by simpa using hi
      have e : ((List.range len).map f).getD i default = f i := by simp [hi']
      rw [e]
      exact (hf i hi').1
end Go.Proofs.YtdknbegcflldjaaGreatDoor

/- Structs of three ints: what their cells hold; rows of them that a call reads, its own, blocks of them, new ones. General. -/
namespace Go.Proofs.YtdknbegcflldjaaGreatDoor
open Go.RowKit Go.Maps Go.Deep
set_option maxRecDepth 100000

abbrev Trip := Int × Int × Int
def enc3 (x : Trip) : List Value := [.int .i64 x.1, .int .i64 x.2.1, .int .i64 x.2.2]
def tv (x : Trip) : Value := .agg #[.int .i64 x.1, .int .i64 x.2.1, .int .i64 x.2.2]
def t0 : Trip := (0, 0, 0)
theorem t0_default : (default : Trip) = t0 := rfl
def flat3 (l : List Trip) : List Value := l.flatMap enc3
theorem flat3_length (l : List Trip) : (flat3 l).length = l.length * 3 := by
  induction l with
  | nil => rfl
  | cons x l ih => simp [flat3, enc3] at *; omega
theorem flat3_append (l m : List Trip) : flat3 (l ++ m) = flat3 l ++ flat3 m := by simp [flat3]
theorem flat3_get (l : List Trip) : ∀ (j c : Nat), j < l.length → c < 3 → (flat3 l)[j * 3 + c]? = (enc3 (l.getD j t0))[c]? := by
  induction l with
  | nil => intro j c h; simp at h
  | cons x l ih =>
    intro j c hj hc
    have e : flat3 (x :: l) = enc3 x ++ flat3 l := by simp [flat3]
    cases j with
    | zero => rw [e, List.getElem?_append_left (by simp [enc3]; omega)]; simp
    | succ j =>
      rw [e, List.getElem?_append_right (by simp [enc3]; omega)]
      have := ih j c (by simpa using hj) hc
      have e2 : (j + 1) * 3 + c - (enc3 x).length = j * 3 + c := by simp [enc3]; omega
      rw [e2, this]
      simp
theorem flat3_set (x : Trip) : ∀ (l : List Trip) (k : Nat), k < l.length → flat3 (l.set k x) = (((flat3 l).set (k * 3) (.int .i64 x.1)).set (k * 3 + 1) (.int .i64 x.2.1)).set (k * 3 + 2) (.int .i64 x.2.2)
  | [], k, h => by simp at h
  | y :: l, k, h => by
    have e : ∀ (z : Trip) (m : List Trip), flat3 (z :: m) = .int .i64 z.1 :: .int .i64 z.2.1 :: .int .i64 z.2.2 :: flat3 m := fun z m => by simp [flat3, enc3]
    cases k with
    | zero => simp [e]
    | succ k =>
      have ih := flat3_set x l k (by simpa using h)
      rw [List.set_cons_succ, e, e, ih]
      rw [show (k + 1) * 3 = k * 3 + 3 by omega]
      simp
theorem flat3_zero (n : Nat) : flat3 (List.replicate n t0) = List.replicate (n * 3) (.int .i64 0) := by
  induction n with
  | zero => rfl
  | succ n ih =>
    have e : flat3 (List.replicate (n + 1) t0) = enc3 t0 ++ flat3 (List.replicate n t0) := by simp [flat3, List.replicate_succ]
    rw [e, ih, show (n + 1) * 3 = n * 3 + 3 by omega]
    simp [enc3, t0, List.replicate_succ]

/-! ### rows that are read -/
theorem at3 {w : World} {b o : Nat} {x y z : Int} (h : CellsAt w b o (enc3 (x, y, z))) : w.cell? ⟨b, o, none⟩ = some (.int .i64 x) ∧ w.cell? ⟨b, o + 1, none⟩ = some (.int .i64 y) ∧ w.cell? ⟨b, o + 2, none⟩ = some (.int .i64 z) :=
  ⟨h 0 _ rfl, h 1 _ rfl, h 2 _ rfl⟩
/-- A row of such, wherever it lies. -/
abbrev Row3 (w : World) (A : Option Addr) (xs : List Trip) : Prop := RowX enc3 3 w A xs
/-- Its block. -/
def In3 (A : Option Addr) (k : Nat) : Prop := ∃ off, A = some ⟨k, off, none⟩
theorem CellsAt.kept {w w' : World} {b o : Nat} {vs : List Value} (h : CellsAt w b o vs) (hb : w'.heap[b]? = w.heap[b]?) : CellsAt w' b o vs := fun j v e => by
  rw [World.cell?_of_block (w := w) hb]; exact h j v e
theorem Row3.kept {w w' : World} {A : Option Addr} {xs : List Trip} (h : Row3 w A xs) (hk : ∀ k, In3 A k → w'.heap[k]? = w.heap[k]?) (hs : w.heap.size ≤ w'.heap.size) : Row3 w' A xs := by
  rcases h with h | ⟨b, off, rfl, hl, hc⟩
  · exact .inl h
  · exact .inr ⟨b, off, rfl, Nat.lt_of_lt_of_le hl hs, fun i hi => (hc i hi).kept (hk b ⟨off, rfl⟩)⟩
theorem Blk.row3 {w : World} {g : Nat} {l : List Trip} (h : Blk 0 w g (flat3 l)) : Row3 w (some ⟨g, 0, none⟩) l := by
  refine .inr ⟨g, 0, rfl, h.1, fun i hi j v e => ?_⟩
  have hj : j < 3 := by have := (List.getElem?_eq_some_iff.1 e).1; simpa [enc3] using this
  rw [Nat.zero_add, h.rule, flat3_get l i j hi hj, ← t0_default]
  exact e
theorem owns_row3 {w : World} {b : Nat} {e : TypeId} {A : Option Addr} {cap : Nat} {l : List Trip} (h : w.ownsRow b e 3 (.slice A l.length cap) l.length (flat3 l)) : Row3 w A l := by
  rcases h.2 with ⟨_, h0⟩ | ⟨g, cap', cur, hv, _, hg, hn, hc, hcs, htk⟩
  · exact .inl (List.eq_nil_of_length_eq_zero h0)
  · simp only [Value.slice.injEq] at hv
    obtain ⟨rfl, -, rfl⟩ := hv
    refine .inr ⟨g, 0, rfl, (Array.getElem?_eq_some_iff.1 hg).1, fun i hi j v e => ?_⟩
    have hj : j < 3 := by have := (List.getElem?_eq_some_iff.1 e).1; simpa [enc3] using this
    have h1 := flat3_get l i j hi hj
    rw [← t0_default, e, ← htk, List.getElem?_take_of_lt (by omega)] at h1
    rw [Nat.zero_add]
    simp only [World.cell?, hg]
    simpa using h1
theorem Row3.nil {w : World} : Row3 w none [] := .inl rfl
theorem Row3.news {w : World} {ad : Addr} {xs : List Trip} (h : Row3 w (some ad) xs) : ∀ j u, (flat3 xs)[j]? = some u → w.cell? (ad.add j) = some u := by
  intro j u hu
  rcases h with rfl | ⟨b, off, he, hl, hc⟩
  · simp [flat3] at hu
  · cases he
    have hj : j < xs.length * 3 := by rw [← flat3_length]; exact (List.getElem?_eq_some_iff.1 hu).1
    have e : (⟨b, off, none⟩ : Addr).add j = ⟨b, off + j, none⟩ := by unfold Addr.add; split <;> simp_all
    have e2 : j / 3 * 3 + j % 3 = j := by omega
    have h1 := hc (j / 3) (by omega) (j % 3) u (by rw [t0_default, ← flat3_get xs (j / 3) (j % 3) (by omega) (Nat.mod_lt _ (by omega)), e2, hu])
    rw [e]
    rwa [Nat.add_assoc, e2] at h1
theorem flat3_one (l : List Trip) : ∀ u ∈ flat3 l, u.oneCell' = true := fun x hx => by
  obtain ⟨o, _, ho⟩ := List.mem_flatMap.1 hx
  simp [enc3] at ho
  rcases ho with rfl | rfl | rfl <;> rfl

/-! ### a block of them: one written; a new one -/
theorem Blk.set3 {m n k : Nat} {l : List Trip} {w : World} (h : Blk m w n (flat3 l)) (hk : k < l.length) (x : Trip) :
    Blk m (((w.setCell ⟨n, k * 3, none⟩ (.int .i64 x.1)).setCell ⟨n, k * 3 + 1, none⟩ (.int .i64 x.2.1)).setCell ⟨n, k * 3 + 2, none⟩ (.int .i64 x.2.2)) n (flat3 (l.set k x)) := by
  rw [flat3_set x l k hk]
  have hl := flat3_length l
  exact ((h.set (by omega) _).set (by simp; omega) _).set (by simp; omega) _
theorem made3 (n : Nat) : madeCells (tv t0).cells (n * 3) = (flat3 (List.replicate n t0)).toArray := by
  rw [flat3_zero]
  apply Array.ext
  · simp [size_madeCells]
  · intro i h1 h2
    have : i % 3 = 0 ∨ i % 3 = 1 ∨ i % 3 = 2 := by omega
    simp only [madeCells, Array.getElem_map, Array.getElem_range, tv, t0, Value.cells, List.getElem_toArray, List.getElem_replicate]
    rcases this with h | h | h <;> simp [h]
theorem run_make3 {P : Program} (t e : TypeId) (ht : P.underlying t = some (.slice e)) (hinfo : (P.info? e).map (fun i => (i.zero, i.size, i.bytes)) = some (some (tv t0), 3, 24))
    (kl kc : IntKind) (n : Nat) (hn : n ≤ 1099511627776) (w : World) :
    (Instr.makeSlice t (.int kl (n : Int)) (.int kc (n : Int))).run P w = .ok (.slice (some ⟨w.heap.size, 0, none⟩) n n) (w.alloc (.cells (flat3 (List.replicate n t0)).toArray e)) := by
  obtain ⟨i, hi, hzz⟩ := Option.map_eq_some_iff.1 hinfo
  simp only [Prod.mk.injEq] at hzz
  obtain ⟨hz, hs, hb⟩ := hzz
  have hr := run_make (P := P) w t e i (tv t0) ht hi hz kl kc n n (by omega) (Int.le_refl _) (by rw [hb]; omega) (by omega)
  simp only [Int.toNat_natCast, hs, made3] at hr
  exact hr
theorem wpList_make3 {P : Program} (w : World) {ops : Array Oper} {rest : List Oper} {o : Oper} {a : Act} {Q : Exit → Act → World → Prop}
    (hg : o.guard = none) (l c : Operand) (t : TypeId) (hop : o.op = Op.makeSlice t l c)
    (e : TypeId) (ht : P.underlying t = some (.slice e)) (hinfo : (P.info? e).map (fun i => (i.zero, i.size, i.bytes)) = some (some (tv t0), 3, 24))
    (kl kc : IntKind) (N M : Int) (n : Nat) (hl : a.eval l = .int kl N) (hc : a.eval c = .int kc M) (hN : N = (n : Int)) (hM : M = (n : Int)) (hn : n ≤ 1099511627776)
    (hK : wpList P ops Q rest (a.put o.dst (.slice (some ⟨w.heap.size, 0, none⟩) n n)) (w.alloc (.cells (flat3 (List.replicate n t0)).toArray e))) :
    wpList P ops Q (o :: rest) a w := by
  refine wpList_plain hg fun K hK' => ?_
  subst hN
  subst hM
  have hrun := run_make3 (P := P) t e ht hinfo kl kc n hn w
  unfold Oper.wp
  simp [execOp, hop, hl, hc, hrun, Result.andThen]
  exact hK' _ _ hK

/-! ### among others -/
section
variable {w0 w w' : World} {L : List Item}
/-- A row of its own, appended to. -/
def row3I (v : Value) (e : TypeId) (l : List Trip) : Item := rowI v e 3 l.length (flat3 l)
theorem Env.row3 (h : Env w0 L w) (i : Nat) {v : Value} {e : TypeId} {l : List Trip} (hi : L[i]? = some (row3I v e l)) : w.ownsRow 0 e 3 v l.length (flat3 l) := h.get i hi
theorem Env.cells3 (h : Env w0 L w) (i : Nat) {A : Option Addr} {n cap : Nat} {e : TypeId} {l : List Trip} (hn : n = l.length) (hi : L[i]? = some (row3I (.slice A n cap) e l)) : Row3 w A l := by subst hn; exact owns_row3 (h.row3 i hi)
theorem Env.addRow3 (h : Env w0 L w) {v : Value} {e : TypeId} {l : List Trip} (ho : w'.ownsRow w.heap.size e 3 v l.length (flat3 l)) (hb : Below w.heap.size w w') : Env w0 (row3I v e l :: L) w' :=
  h.add (row3I v e l) hb (ownsRow_base ho (Nat.zero_le _)) fun k hk => ho.lt k hk
theorem Env.addEmpty3 (h : Env w0 L w) (n : Nat) (hn : w.heap.size = n) (e : TypeId) : Env w0 (row3I (.slice (some ⟨n, 0, none⟩) 0 0) e [] :: L) (w.alloc (.cells #[] e)) := by
  subst hn
  exact h.addRow3 (v := .slice (some ⟨w.heap.size, 0, none⟩) 0 0) (l := []) ⟨rfl, .inr ⟨w.heap.size, 0, #[], rfl, Nat.le_refl _, heap_alloc_new w _, Nat.le_refl _, Nat.zero_le _, rfl, rfl⟩⟩ ((Below.refl _ _).alloc (Nat.le_refl _) _)
theorem Env.addNone3 (h : Env w0 L w) (e : TypeId) : Env w0 (row3I (.slice none 0 0) e [] :: L) w :=
  h.add (row3I (.slice none 0 0) e []) (Below.refl _ _) (World.ownsRow_nil _ _ _ _) fun k hk => by cases hk
/-- A row appended to a row of its own. -/
theorem Env.append3 {P : Program} (h : Env w0 L w) (i : Nat) {v : Value} {e : TypeId} {l xs : List Trip} (hi : L[i]? = some (row3I v e l)) (t ty : TypeId) (ht : P.underlying t = some (.slice e)) (hinfo : (P.info? e).map (fun i => (i.zero, i.size, i.bytes)) = some (some (tv t0), 3, 24))
    {A : Option Addr} (c : Nat) (hx : Row3 w A xs) (hz : l.length + xs.length ≤ 1048576) :
    ∃ A' c' w', (Builtin.append_ #[t, t] ty #[v, .slice A xs.length c]).run P w = .ok (.slice A' (l.length + xs.length) c') w' ∧ Env w0 (L.set i (row3I (.slice A' (l.length + xs.length) c') e (l ++ xs))) w' ∧ Step (fun k => v.ownBlock = some k) (fun k => (Value.slice A' (l.length + xs.length) c').ownBlock = some k) w w' := by
  obtain ⟨i0, hi0, hzz⟩ := Option.map_eq_some_iff.1 hinfo
  simp only [Prod.mk.injEq] at hzz
  obtain ⟨hz0, hs, hb⟩ := hzz
  have hown := h.row3 i hi
  obtain ⟨v', w', hrun, ho, hg, hv⟩ := run_append_rows (P := P) t ty 0 e i0 (tv t0) 3 24 ht hi0 hz0 hs hb rfl (by decide) w v l.length (flat3 l) hown A xs.length c (flat3 xs) (flat3_length xs)
    (by
      cases A with
      | none =>
        left
        rcases hx with rfl | ⟨b, off, he, _⟩
        · exact ⟨rfl, rfl⟩
        · cases he
      | some ad => exact .inr ⟨ad, rfl, Row3.news hx⟩) (flat3_one xs) (by simp [maxLen]; omega) (by omega) (Nat.zero_le _)
  obtain ⟨A', c', rfl⟩ := ownsRow_slice ho
  have hst : Step (fun k => v.ownBlock = some k) (fun k => (Value.slice A' (l.length + xs.length) c').ownBlock = some k) w w' := ⟨(Turn.refl _ w).grown hg fun k _ e => e, fun k hk => by
    rcases hv with e | e
    · exact .inl (by rw [← e]; exact hk)
    · right
      rw [e] at hk
      cases hk
      exact Nat.le_refl _⟩
  refine ⟨A', c', w', hrun, h.step i (row3I _ e (l ++ xs)) hi hst ?_ ?_, hst⟩
  · show w'.ownsRow 0 e 3 _ (l ++ xs).length (flat3 (l ++ xs))
    rw [List.length_append, flat3_append]
    exact ho
  · exact ownsRow_lt ho
/-- .. its length told of the whole. -/
theorem Env.append3' {P : Program} (h : Env w0 L w) (i : Nat) {v : Value} {e : TypeId} {l xs : List Trip} (hi : L[i]? = some (row3I v e l)) (t ty : TypeId) (ht : P.underlying t = some (.slice e)) (hinfo : (P.info? e).map (fun i => (i.zero, i.size, i.bytes)) = some (some (tv t0), 3, 24))
    {A : Option Addr} {n : Nat} (c : Nat) (hn : n = xs.length) (hx : Row3 w A xs) (hz : l.length + xs.length ≤ 1048576) :
    ∃ A' c' w', (Builtin.append_ #[t, t] ty #[v, .slice A n c]).run P w = .ok (.slice A' (l ++ xs).length c') w' ∧ Env w0 (L.set i (row3I (.slice A' (l ++ xs).length c') e (l ++ xs))) w' := by
  subst hn
  obtain ⟨A', c', w', h1, h2, -⟩ := h.append3 i hi t ty ht hinfo c hx hz
  rw [← List.length_append] at h1 h2
  exact ⟨A', c', w', h1, h2⟩
/-- What stands first takes another one's place. -/
theorem Env.into (j : Nat) {a : Item} (h : Env w0 (a :: L) w) : Env w0 (L.set j a) w := by
  rcases Nat.lt_or_ge j L.length with hj | hj
  · have hp : (L.set j a).Perm (a :: L.eraseIdx j) := by
      rw [List.set_eq_take_append_cons_drop, if_pos hj, List.eraseIdx_eq_take_drop_succ]
      exact List.perm_middle
    have h1 : Env w0 (a :: L.eraseIdx j) w := h.sub (.cons_cons _ (List.eraseIdx_sublist L j))
    exact ⟨h1.1, (hp.symm.pairwise_iff (fun h => Off.symm h)).1 h1.2.1, fun b hb => h1.2.2 b (hp.mem_iff.1 hb)⟩
  · rw [List.set_eq_of_length_le hj]
    exact h.sub (.cons _ (List.Sublist.refl _))
/-- A row that this call neither made nor turns. -/
theorem Env.seen3 (h : Env w0 L w) {A : Option Addr} {xs : List Trip} (hr : Row3 w0 A xs) : Row3 w A xs := RowX.below hr h.below
end
end Go.Proofs.YtdknbegcflldjaaGreatDoor

/- Drawn regions with a float, more: a read that must come ahead of a turn; a float that is a new row of one element ('append(append([]T{}, r...), x)'). General. -/
namespace Go.Proofs.YtdknbegcflldjaaGreatDoor.OrdF
open Go Go.RowKit Go.Proofs.YtdknbegcflldjaaGreatDoor.Ord Go.Proofs.YtdknbegcflldjaaGreatDoor.Ord3
set_option maxRecDepth 100000

section
variable {P : Program} {ops : Array Oper} {Q : Exit → Act → World → Prop} {md : Region.Mode} {C : World → Prop} {A : List Value → Option Value → World → Prop} {ps : List Nat} {q : Nat} {vs : List (Value → Prop)}
/-- A read which the m-th of the chain hangs on. -/
theorem in_early (m : Nat) {p k : Nat} {o : Oper} {rest : List Oper} {a : Act} {v : Value} {κs : List Value} {fo : Option Value} (hf : textFits md ops = true) (hk : k ∉ ps) (hkq : k ≠ q) (hp : ps[m]? = some p) (hh : hangs md ops p k = true) (hkn : k < ops.size)
    (hvs : vs[k]? = some fun u => u = v) (hw : Region.wanted o (yielded ops a.tmps) = true) (hv : ∀ w κs fo, κs.length ≤ m → C w → A κs fo w → (execOp a.eval o).run P w = .ok (.value v) w)
    (h : In P md ops Q vs ps q C A (k + 1) rest κs fo (a.put o.dst v)) : In P md ops Q vs ps q C A k (o :: rest) κs fo a := fun κ hκ hfo =>
  InText.cons hf v ⟨_, hvs, rfl⟩ (Or.inl ⟨hw, fun l ρ w hr _ _ hS => by
      have hS' := hS
      obtain ⟨hc, hs, hC, j, hj, hl, hA⟩ := hS
      have hjm : j ≤ m := by
        rcases Nat.lt_or_ge m j with hlt | hge
        · exfalso
          have h1 := hl m p hp
          have h2 : l.getD p false = true := by rw [h1.2]; simpa using hlt
          have h0 : l.getD k false = false := ready_not hr
          have h4 := Closed.step hc hh h2
          rw [h0] at h4
          cases h4
        · exact hge
      rw [hv w _ _ (by simp; omega) hC hA]
      exact ⟨⟨_, hvs, rfl⟩, chain_set hk hkq hr hS' hC fun _ _ h => h⟩⟩)
    fun u ⟨p, hp, hu⟩ => by
      rw [hvs] at hp
      cases hp
      rw [hu]
      exact h _ (by rw [map_up (fun e => hk (List.mem_of_mem_take e))]; exact hκ) (fo_next hkq hfo)
end

/-- Things, and what has floated among them: a new row of one element, its cells z0. -/
def AFS (w0 : World) (z0 : List Value) (Ps : List (List Value → List Item → Prop)) (κs : List Value) (fo : Option Value) (w : World) : Prop :=
  ∃ L P, Ps[κs.length]? = some P ∧ P κs L ∧ ((fo = none ∧ Env w0 L w) ∨ ∃ n, fo = some (.slice (some ⟨n, 0, none⟩) 1 1) ∧ Env w0 (boxI n z0 :: L) w)
/-- The float's kind. -/
def Slc (v : Value) : Prop := ∃ n, v = .slice (some ⟨n, 0, none⟩) 1 1
theorem AFS.up {w0 w : World} {z0 : List Value} {Ps : List (List Value → List Item → Prop)} {κs : List Value} (h : AFS w0 z0 Ps κs none w) (t : TypeId) : AFS w0 z0 Ps κs (some (.slice (some ⟨w.heap.size, 0, none⟩) 1 1)) (w.alloc (.cells z0.toArray t)) := by
  obtain ⟨L, P, h1, h2, ⟨_, hE⟩ | ⟨n, hn, _⟩⟩ := h
  · exact ⟨L, P, h1, h2, .inr ⟨_, rfl, hE.box _ rfl _ _⟩⟩
  · cases hn
end Go.Proofs.YtdknbegcflldjaaGreatDoor.OrdF

/- Places as a map's keys; a map of words by places, read as a function that is 0 where nothing is. -/
namespace Go.Proofs.YtdknbegcflldjaaGreatDoor
open Go.RowKit Go.Maps
set_option maxRecDepth 100000

/-- Three numbers. -/
abbrev Plc := Int × Int × Int
def Wf (x : Plc) : Prop := In64 x.1 ∧ In64 x.2.1 ∧ In64 x.2.2
def pv (x : Plc) : Value := .agg #[.int .i64 x.1, .int .i64 x.2.1, .int .i64 x.2.2]
def kl (x : Plc) : Lit := .string (keyBytes [.int .i64 x.1, .int .i64 x.2.1, .int .i64 x.2.2])

theorem laidOutP : laidOutB Tryz.prog = true := by kernel_rfl
theorem rowPlace : (105 : TypeId) < Tryz.prog.types.size := of_decide_eq_true (by kernel_rfl)
theorem widePlace : (match Tryz.prog.underlying 105 with | some (.array _ _) | some (.struct _) => true | _ => false) = true := by rw [Tryz.underlying105]
theorem keyPlace : Keyed Tryz.prog 105 := Keyed.of_law (deep_law_laid laidOutP (m := 2) (by omega) rowPlace (by kernel_rfl) widePlace)
theorem typePlace : Tryz.prog.keyType 105 = true := by kernel_rfl
theorem cellsPlace : Tryz.prog.cellsOf 105 = 3 := by kernel_rfl
theorem cellsIntP : Tryz.prog.cellsOf 3 = 1 := by kernel_rfl
theorem typesPos : 0 < Tryz.prog.types.size := Nat.lt_of_le_of_lt (Nat.zero_le _) rowPlace

section
variable {P : Program} {k e : TypeId} {f0 f1 f2 : Field}
theorem lits_three (hk : P.underlying k = some (.struct #[f0, f1, f2])) (t0 : f0.type = e) (t1 : f1.type = e) (t2 : f2.type = e) (he : P.underlying e = some (.int .i64)) (ck : P.cellsOf k = 3) (ce : P.cellsOf e = 1)
    (o0 : f0.offset = 0) (o1 : f1.offset = 1) (o2 : f2.offset = 2) (hn : (#[f0, f1, f2] : Array Field).all (·.name != "_") = true) (d : Nat) (u v w : Value) :
    P.keyLits (d + 2) k [u, v, w] = (P.keyLits (d + 1) e [u]).bind fun a => (P.keyLits (d + 1) e [v]).bind fun b => (P.keyLits (d + 1) e [w]).map fun c => a ++ (b ++ c) := by
  generalize hR : (P.keyLits (d + 1) e [u]).bind _ = R
  unfold Program.keyLits
  rw [hk]
  dsimp only
  rw [if_pos ⟨by rw [ck]; rfl, hn⟩, ← hR]
  simp only [List.mapM_cons, List.mapM_nil, t0, t1, t2, o0, o1, o2, ce, List.drop_zero, List.drop_succ_cons, List.take_succ_cons, List.take_zero]
  cases P.keyLits (d + 1) e [u] with
  | none => rfl
  | some a =>
    cases P.keyLits (d + 1) e [v] with
    | none => rfl
    | some b =>
      cases P.keyLits (d + 1) e [w] with
      | none => rfl
      | some c => simp [pure]
theorem lits_one (he : P.underlying e = some (.int .i64)) (d : Nat) (u : Value) {l : List Lit} : P.keyLits (d + 1) e [u] = some l ↔ ∃ n, u = .int .i64 n ∧ In64 n ∧ l = [.int .i64 n] := by
  constructor
  · intro h
    unfold Program.keyLits at h
    rw [he] at h
    cases u <;> simp at h
    obtain ⟨⟨rfl, hw⟩, rfl⟩ := h
    exact ⟨_, rfl, wf_i.1 hw, rfl⟩
  · rintro ⟨n, rfl, hn, rfl⟩
    unfold Program.keyLits
    rw [he]
    simp [wf_i.2 hn]
end

theorem litsPlace (d : Nat) (u v w : Value) : Tryz.prog.keyLits (d + 2) 105 [u, v, w] = (Tryz.prog.keyLits (d + 1) 3 [u]).bind fun a => (Tryz.prog.keyLits (d + 1) 3 [v]).bind fun b => (Tryz.prog.keyLits (d + 1) 3 [w]).map fun c => a ++ (b ++ c) :=
  lits_three Tryz.underlying105 rfl rfl rfl Tryz.underlying3 cellsPlace cellsIntP rfl rfl rfl (by kernel_rfl) d u v w
theorem depthP : ∃ d, Tryz.prog.types.size + 1 = d + 2 := ⟨Tryz.prog.types.size - 1, by have := typesPos; omega⟩

theorem key_mk (x : Plc) (h : Wf x) : keyOf Tryz.prog 105 (pv x) = some (kl x) := by
  obtain ⟨a, b, c⟩ := x
  obtain ⟨h1, h2, h3⟩ := h
  unfold keyOf
  rw [Tryz.underlying105, typePlace]
  have hf : (pv (a, b, c)).formed Tryz.prog 105 = true := by simp [pv, Value.formed, Tryz.underlying105, cellsPlace]
  rw [hf]
  obtain ⟨d, hd⟩ := depthP
  rw [hd]
  show (if (true && true) = true then (Tryz.prog.keyLits (d + 2) 105 [.int .i64 a, .int .i64 b, .int .i64 c]).map fun ls => Lit.string (keyBytes ls) else none) = _
  rw [litsPlace, (lits_one Tryz.underlying3 d _).2 ⟨a, rfl, h1, rfl⟩, (lits_one Tryz.underlying3 d _).2 ⟨b, rfl, h2, rfl⟩, (lits_one Tryz.underlying3 d _).2 ⟨c, rfl, h3, rfl⟩]
  rfl

theorem key_inv {v : Value} {l : Lit} (h : keyOf Tryz.prog 105 v = some l) : ∃ x, Wf x ∧ v = pv x ∧ l = kl x := by
  unfold keyOf at h
  rw [Tryz.underlying105, typePlace] at h
  simp only [Bool.true_and] at h
  split at h
  · rename_i hf
    have hv : ∃ a b c, v = .agg #[a, b, c] := by
      cases v <;> simp [Value.formed, Tryz.underlying105, cellsPlace] at hf
      rename_i cs
      obtain ⟨l⟩ := cs
      match l, hf with
      | [a, b, c], _ => exact ⟨a, b, c, rfl⟩
    obtain ⟨a, b, c, rfl⟩ := hv
    obtain ⟨d, hd⟩ := depthP
    rw [hd] at h
    change (Tryz.prog.keyLits (d + 2) 105 [a, b, c]).map (fun ls => Lit.string (keyBytes ls)) = some l at h
    rw [litsPlace] at h
    cases ha : Tryz.prog.keyLits (d + 1) 3 [a] with
    | none => rw [ha] at h; cases h
    | some la =>
      cases hb : Tryz.prog.keyLits (d + 1) 3 [b] with
      | none => rw [ha, hb] at h; cases h
      | some lb =>
        cases hc : Tryz.prog.keyLits (d + 1) 3 [c] with
        | none => rw [ha, hb, hc] at h; cases h
        | some lc =>
          rw [ha, hb, hc] at h
          obtain ⟨na, rfl, ia, rfl⟩ := (lits_one Tryz.underlying3 d _).1 ha
          obtain ⟨nb, rfl, ib, rfl⟩ := (lits_one Tryz.underlying3 d _).1 hb
          obtain ⟨nc, rfl, ic, rfl⟩ := (lits_one Tryz.underlying3 d _).1 hc
          exact ⟨(na, nb, nc), ⟨ia, ib, ic⟩, rfl, (Option.some.inj h).symm⟩
  · cases h
theorem kl_inj {x y : Plc} (hx : Wf x) (hy : Wf y) (h : kl x = kl y) : x = y := by
  have := keyPlace.inj (key_mk x hx) (h ▸ key_mk y hy)
  obtain ⟨a, b, c⟩ := x
  obtain ⟨a', b', c'⟩ := y
  simp [pv] at this
  simp [this]
theorem kl_key (x : Plc) : WideAt.IsKeyLit (kl x) := trivial

/-! ### a map of words, as a function -/
def wd (v : Int) : DataW Unit := .lit (.int .u64 v)
def upd (f : Plc → Int) (x : Plc) (v : Int) : Plc → Int := fun y => if y = x then v else f y
theorem upd_same (f : Plc → Int) (x : Plc) (v : Int) : upd f x v x = v := by simp [upd]
theorem upd_other (f : Plc → Int) {x y : Plc} (v : Int) (h : y ≠ x) : upd f x v y = f y := by simp [upd, h]
theorem upd_self (f : Plc → Int) (x : Plc) : upd f x (f x) = f := by funext y; unfold upd; split <;> simp_all
/-- A function that is a word everywhere, and 0 but at places. -/
structure Words (f : Plc → Int) : Prop where
  u : ∀ x, InU (f x)
  out : ∀ x, ¬ Wf x → f x = 0
theorem Words.zero : Words fun _ => 0 := ⟨fun _ => ⟨by omega, by omega⟩, fun _ _ => rfl⟩
theorem Words.set {f : Plc → Int} (h : Words f) {x : Plc} (hx : Wf x) {v : Int} (hv : InU v) : Words (upd f x v) := by
  refine ⟨fun y => ?_, fun y hy => ?_⟩
  · unfold upd; split
    · exact hv
    · exact h.u y
  · rw [upd_other _ _ (fun e => hy (by rw [e]; exact hx))]
    exact h.out y hy
structure ReadsF (D : DataW Unit) (f : Plc → Int) : Prop where
  words : Words f
  at' : ∀ x, Wf x → D.atKey (kl x) (wd 0) = wd (f x)
  has' : ∀ x, Wf x → Maps.has D (kl x) = decide (f x ≠ 0)
theorem ReadsF.empty : ReadsF (.map []) fun _ => 0 := ⟨Words.zero, fun _ _ => rfl, fun _ _ => by simp [Maps.has]⟩
theorem ReadsF.put {D : DataW Unit} {f : Plc → Int} (h : ReadsF D f) (hD : IsMap D) {x : Plc} (hx : Wf x) {v : Int} (hv : InU v) (h0 : v ≠ 0) : ReadsF (D.put (kl x) (wd v)) (upd f x v) := by
  refine ⟨h.words.set hx hv, fun y hy => ?_, fun y hy => ?_⟩
  · by_cases e : y = x
    · subst e; rw [upd_same]; exact atKey_put_same hD (kl_key _) _ _
    · rw [upd_other _ _ e, atKey_put_other (fun e' => e (kl_inj hy hx e')), h.at' y hy]
  · by_cases e : y = x
    · subst e; rw [upd_same, has_put_same hD (kl_key _)]; simp [h0]
    · rw [upd_other _ _ e, has_put_other (fun e' => e (kl_inj hy hx e')), h.has' y hy]
theorem ReadsF.del {D : DataW Unit} {f : Plc → Int} (h : ReadsF D f) {x : Plc} (hx : Wf x) : ReadsF (D.del (kl x)) (upd f x 0) := by
  refine ⟨h.words.set hx ⟨by omega, by omega⟩, fun y hy => ?_, fun y hy => ?_⟩
  · by_cases e : y = x
    · subst e; rw [upd_same]; exact atKey_del_same _
    · rw [upd_other _ _ e, atKey_del_other (fun e' => e (kl_inj hy hx e')), h.at' y hy]
  · by_cases e : y = x
    · subst e; rw [upd_same, has_del_same]; simp
    · rw [upd_other _ _ e, has_del_other (fun e' => e (kl_inj hy hx e')), h.has' y hy]

theorem zeroWord (w : World) : (zeroValue 48).run Tryz.prog w = .ok (.int .u64 0) w := by kernel_rfl
/-- What a map, nil or not, is good for: f, in at most n entries. -/
def MapIs (w : World) (mp : Option Nat) (f : Plc → Int) (n : Nat) : Prop :=
  (mp = none ∧ f = fun _ => 0) ∨ ∃ b D, mp = some b ∧ w.ownsMap Tryz.prog 105 (plainElem (H := Unit) Tryz.prog 48) b n D ∧ ReadsF D f
theorem MapIs.words {w : World} {mp : Option Nat} {f : Plc → Int} {n : Nat} (h : MapIs w mp f n) : Words f := by
  rcases h with ⟨_, rfl⟩ | ⟨b, D, _, _, h⟩
  · exact Words.zero
  · exact h.words
theorem MapIs.mono {w : World} {mp : Option Nat} {f : Plc → Int} {n m : Nat} (h : MapIs w mp f n) (hm : n ≤ m) : MapIs w mp f m := by
  rcases h with h | ⟨b, D, e, ho, hr⟩
  · exact .inl h
  · exact .inr ⟨b, D, e, ho.mono hm, hr⟩
theorem MapIs.lt {w : World} {mp : Option Nat} {f : Plc → Int} {n : Nat} (h : MapIs w mp f n) : ∀ b, mp = some b → b < w.heap.size := by
  rcases h with ⟨rfl, _⟩ | ⟨b, D, rfl, ho, hr⟩
  · intro b e; cases e
  · intro b' e; cases e; exact ho.lt
theorem MapIs.kept {w w' : World} {mp : Option Nat} {f : Plc → Int} {n : Nat} (h : MapIs w mp f n) (hk : ∀ b, mp = some b → w'.heap[b]? = w.heap[b]?) : MapIs w' mp f n := by
  rcases h with h | ⟨b, D, e, ⟨es, clock, hb, r⟩, hr⟩
  · exact .inl h
  · exact .inr ⟨b, D, e, ⟨es, clock, (hk b e).trans hb, r⟩, hr⟩
theorem MapIs.more {w : World} {mp : Option Nat} {f : Plc → Int} {n : Nat} (h : MapIs w mp f n) (o : Obj) : MapIs (w.alloc o) mp f n := h.kept fun b e => Below.heap_alloc _ _ _ (h.lt b e)
theorem MapIs.drew {w : World} {mp : Option Nat} {f : Plc → Int} {n : Nat} (h : MapIs w mp f n) : MapIs w.drew mp f n := h.kept fun _ _ => rfl
theorem MapIs.look {w : World} {mp : Option Nat} {f : Plc → Int} {n : Nat} (h : MapIs w mp f n) {x : Plc} (hx : Wf x) : (Instr.lookup 214 (.map mp) (pv x) false).run Tryz.prog w = .ok (.int .u64 (f x)) w := by
  rcases h with ⟨rfl, rfl⟩ | ⟨b, D, rfl, ho, hr⟩
  · have := Maps.look_nil (w := w) false keyPlace Tryz.underlying214 (zeroWord w) (key_mk x hx)
    simpa using this
  · obtain ⟨c, hrun, hat, _⟩ := ho.lookup_int keyPlace Tryz.underlying214 Tryz.underlying48 (zeroWord w) (key_mk x hx)
    have h1 := hr.at' x hx
    unfold wd at h1
    rw [h1] at hat
    simp at hat
    rw [hrun, hat]
theorem MapIs.drop {w : World} {mp : Option Nat} {f : Plc → Int} {n : Nat} (h : MapIs w mp f n) {x : Plc} (hx : Wf x) (ty : TypeId) :
    ∃ w', (Builtin.delete_ #[214, 105] ty #[.map mp, pv x]).run Tryz.prog w = .ok (.tuple #[]) w' ∧ MapIs w' mp (upd f x 0) n ∧ Turn (fun k => mp = some k) w w' := by
  rcases h with ⟨rfl, rfl⟩ | ⟨b, D, rfl, ho, hr⟩
  · refine ⟨w, Maps.drop_nil keyPlace Tryz.underlying214 (key_mk x hx) ty, .inl ⟨rfl, ?_⟩, Turn.refl _ _⟩
    funext y; simp [upd]
  · obtain ⟨w', hrun, ho', ht⟩ := ho.drop keyPlace Tryz.underlying214 (key_mk x hx) ty
    exact ⟨w', hrun, .inr ⟨b, _, rfl, ho', hr.del hx⟩, (Turn.refl _ _).turned ht fun _ => rfl⟩
theorem MapIs.store {w : World} {b : Nat} {f : Plc → Int} {n : Nat} (h : MapIs w (some b) f n) (hn : n < maxLen) {x : Plc} (hx : Wf x) {v : Int} (hv : InU v) (h0 : v ≠ 0) :
    ∃ w', (Instr.mapUpdate 214 (.map (some b)) (pv x) (.int .u64 v)).run Tryz.prog w = .ok () w' ∧ MapIs w' (some b) (upd f x v) (n + 1) ∧ Turn (fun k => k = b) w w' := by
  rcases h with ⟨e, _⟩ | ⟨b', D, e, ho, hr⟩
  · cases e
  · cases e
    obtain ⟨w', hrun, ho', ht⟩ := ho.store keyPlace Tryz.underlying214 hn (key_mk x hx) (plainElem_int Tryz.underlying48 (wf_u.2 hv))
    exact ⟨w', hrun, .inr ⟨b, _, rfl, ho', hr.put ho.isMap hx hv h0⟩, (Turn.refl _ _).turned ht fun _ => rfl⟩
theorem MapIs.made (w : World) : MapIs (w.alloc (.map #[] 0)) (some w.heap.size) (fun _ => 0) 0 := .inr ⟨_, _, rfl, World.ownsMap_made w _ _ _, ReadsF.empty⟩
end Go.Proofs.YtdknbegcflldjaaGreatDoor

/- Shared cells: what they are in memory; the contracts of the functions of package cell that work on words. -/
namespace Go.Proofs.YtdknbegcflldjaaGreatDoor
open Go.RowKit Go.Maps
set_option maxRecDepth 100000

/-- How many accesses there were. -/
structure Cnt where
  l : Int
  s : Int
  w : Int
  f : Int
  a : Int
def cv (mp : Option Nat) (q : Cnt) : List Value := [.map mp, .int .i64 q.l, .int .i64 q.s, .int .i64 q.w, .int .i64 q.f, .int .i64 q.a]
/-- Block c is shared cells: the words f, in at most n entries, the counts q; F are the blocks that it is made of. -/
def IsC (w : World) (c : Nat) (F : Nat → Prop) (f : Plc → Int) (q : Cnt) (n : Nat) : Prop :=
  ∃ mp, Blk 0 w c (cv mp q) ∧ MapIs w mp f n ∧ ∀ k, F k ↔ (k = c ∨ mp = some k)

theorem not_map_cells {w : World} {mp : Option Nat} {f : Plc → Int} {n c : Nat} {v : Value} {vs : List Value} (h : MapIs w mp f n) (hb : Blk 0 w c (v :: vs)) : mp ≠ some c := by
  rintro rfl
  rcases h with ⟨e, _⟩ | ⟨b, D, e, ⟨es, clock, hm, _⟩, _⟩
  · cases e
  · cases e
    have := hb.rule 0
    simp [World.cell?, hm] at this
theorem IsC.lt {w : World} {c : Nat} {F : Nat → Prop} {f : Plc → Int} {q : Cnt} {n : Nat} (h : IsC w c F f q n) : ∀ k, F k → k < w.heap.size := by
  obtain ⟨mp, hb, hm, hF⟩ := h
  intro k hk
  rcases (hF k).1 hk with rfl | e
  · exact hb.1
  · exact hm.lt k e
theorem IsC.over {w w' : World} {c : Nat} {F T : Nat → Prop} {f : Plc → Int} {q : Cnt} {n : Nat} (h : IsC w c F f q n) (ht : Turn T w w') (hd : ∀ k, F k → ¬ T k) : IsC w' c F f q n := by
  have hlt := h.lt
  obtain ⟨mp, hb, hm, hF⟩ := h
  exact ⟨mp, hb.kept ht.size (ht.block c hb.1 (hd c ((hF c).2 (.inl rfl)))), hm.kept fun b e => ht.block b (hm.lt b e) (hd b ((hF b).2 (.inr e))), hF⟩
theorem IsC.mono {w : World} {c : Nat} {F : Nat → Prop} {f : Plc → Int} {q : Cnt} {n m : Nat} (h : IsC w c F f q n) (hm : n ≤ m) : IsC w c F f q m := by
  obtain ⟨mp, hb, hp, hF⟩ := h
  exact ⟨mp, hb, hp.mono hm, hF⟩
theorem IsC.words {w : World} {c : Nat} {F : Nat → Prop} {f : Plc → Int} {q : Cnt} {n : Nat} (h : IsC w c F f q n) : Words f := by
  obtain ⟨mp, hb, hp, hF⟩ := h
  exact hp.words

/-- What the call itself has boxed and made; the cells as they are. -/
def At (F : Nat → Prop) (c : Nat) (w0 : World) (B : Nat) (bv : List Value) (mp : Option Nat) (q : Cnt) (w : World) : Prop := Turn F w0 w ∧ Blk 0 w c (cv mp q) ∧ Blk 0 w B bv

theorem At.drew {F : Nat → Prop} {c B : Nat} {w0 w : World} {bv : List Value} {mp : Option Nat} {q : Cnt} (h : At F c w0 B bv mp q w) : At F c w0 B bv mp q w.drew := ⟨h.1.drew, h.2.1, h.2.2⟩

/-- The map's own block turns: what the call has boxed and the cells' block stay. -/
theorem At.map {F T : Nat → Prop} {c B : Nat} {w0 w w' : World} {bv : List Value} {mp : Option Nat} {q : Cnt} (h : At F c w0 B bv mp q w) (ht : Turn T w w') (hF : ∀ k, k < w0.heap.size → T k → F k) (hc : ¬ T c) (hB : ¬ T B) : At F c w0 B bv mp q w' :=
  ⟨h.1.then ht hF, h.2.1.kept ht.size (ht.block _ h.2.1.1 hc), h.2.2.kept ht.size (ht.block _ h.2.2.1 hB)⟩

set_option maxHeartbeats 800000 in
theorem put_zero {c n : Nat} {F : Nat → Prop} {f : Plc → Int} {q : Cnt} {w : World} (a b d : Int) (hx : Wf (a, b, d)) (hC : IsC w c F f q n) :
    Calls Tryz.prog 366 #[.pointer (some ⟨c, 0, none⟩), .agg #[.int .i64 a, .int .i64 b, .int .i64 d], .int .u64 0] w fun e w' => e = .returned (.tuple #[]) ∧ ∃ F', IsC w' c F' (upd f (a, b, d) 0) q n ∧ Step F F' w w' := by
  obtain ⟨mp, hb, hm, hF⟩ := hC
  have hcl := hb.1
  have hA : At F c w w.heap.size [.int .i64 a, .int .i64 b, .int .i64 d] mp q (w.alloc (.cells #[.int .i64 a, .int .i64 b, .int .i64 d] 105)) := ⟨(Turn.refl _ _).alloc _, hb.kept (by simp) (Below.heap_alloc _ _ _ hcl), Blk.new _ _ _ _⟩
  have hM : MapIs (w.alloc (.cells #[.int .i64 a, .int .i64 b, .int .i64 d] 105)) mp f n := hm.kept fun k e => Below.heap_alloc _ _ _ (hm.lt k e)
  go_enter Tryz.func366, Tryz.ntmps366
  go_wp2_with fail
  refine Ord.wp_chain [5] (At F c w w.heap.size [.int .i64 a, .int .i64 b, .int .i64 d] mp q) (fun j w' => MapIs w' mp (if j = 0 then f else upd f (a, b, d) 0) n) (by kernel_rfl) (by kernel_rfl) (by kernel_rfl) hA.drew hM.drew (fun hT => ?_)
  have hT9 := Lib.hid hT
  clear hT
  repeat (first
    | (refine Ord.ch_value (v := ?_) hT9.out (by decide) (by rfl) ?_ ?_; rotate_left; (focus (intro w5 hS; have r := hS.2.1.rule; unfold cv at r; have r2 := hS.2.2.rule; go_simp <;> with_reducible rfl)); (try simp only [Act.put, List.setIfInBounds_toArray, List.set_cons_zero, List.set_cons_succ]))
    | (refine Ord.ch_off hT9.out (by decide) (by rfl) ?_; (try simp only [Act.put, List.setIfInBounds_toArray, List.set_cons_zero, List.set_cons_succ])))
  refine Ord.ch_turn (v := .tuple #[]) 0 hT9.out rfl (by decide) (Or.inl rfl) (by rfl) ?_ ?_
  · intro w5 hA5 hM5
    obtain ⟨w6, hrun, hM6, ht⟩ := MapIs.drop hM5 hx 0
    simp only [pv] at hrun
    simp [execOp, resolve, invoke, builtin, Act.eval, hrun, Result.andThen]
    refine ⟨rfl, hA5.map ht (fun k hk e => (hF k).2 (.inr e)) (fun e => not_map_cells hM5 hA5.2.1 e) (fun e => not_map_cells hM5 hA5.2.2 e), hM6⟩
  refine Ord.InText.nil fun w5 hS => ?_
  clear hT9
  obtain ⟨hA9, hM9⟩ := Ord.chain_end hS
  clear hS
  go_wp2
  refine bodyPost_ret (results_none rfl _ _ _) rfl ?_
  exact ⟨rfl, F, ⟨mp, hA9.2.1, hM9, hF⟩, ⟨hA9.1, fun k h => .inl h⟩⟩

/-- m is the cells' own map, or new. -/
def MapOf (F : Nat → Prop) (w : World) (c m : Nat) : Prop := (∀ k, k < w.heap.size → k = m → F k) ∧ ∀ k, (k = c ∨ some m = some k) → F k ∨ w.heap.size ≤ k
theorem MapOf.mk {F : Nat → Prop} {w : World} {c m : Nat} (hc : F c) (hm : F m ∨ w.heap.size ≤ m) : MapOf F w c m := by
  refine ⟨fun k hk e => ?_, fun k e => ?_⟩
  · subst e
    rcases hm with h | h
    · exact h
    · omega
  · rcases e with rfl | e
    · exact .inl hc
    · cases e; exact hm

set_option maxHeartbeats 1600000 in
theorem put_word {c n : Nat} {F : Nat → Prop} {f : Plc → Int} {q : Cnt} {w : World} (a b d v : Int) (hx : Wf (a, b, d)) (hv : InU v) (h0 : v ≠ 0) (hn : n < maxLen) (hC : IsC w c F f q n) :
    Calls Tryz.prog 366 #[.pointer (some ⟨c, 0, none⟩), .agg #[.int .i64 a, .int .i64 b, .int .i64 d], .int .u64 v] w fun e w' => e = .returned (.tuple #[]) ∧ ∃ F', IsC w' c F' (upd f (a, b, d) v) q (n + 1) ∧ Step F F' w w' := by
  obtain ⟨mp, hb, hm, hF⟩ := hC
  have hcl := hb.1
  have hv0 : (v == 0) = false := by simpa using h0
  have hq := fun w => run_eql_map_nil_sl (P := Tryz.prog) w 214 _ _ mp Tryz.underlying214
  have hmm := @run_makeMap Tryz.prog
  have r0 : ∀ (o1 : Obj) i, (w.alloc o1).cell? ⟨c, i, none⟩ = (cv mp q)[i]? := fun o1 i => (hb.more o1).rule i
  have z0 : w.frozen? ⟨c, 0, none⟩ = false := hb.thaw 0 (by simp [cv])
  simp only [cv] at r0
  have hE : Hid (∃ m n' W1, At F c w w.heap.size [.int .i64 a, .int .i64 b, .int .i64 d] (some m) q W1 ∧ MapIs W1 (some m) f n' ∧ n' ≤ n ∧ MapOf F w c m ∧
      (W1 = w.alloc (.cells #[.int .i64 a, .int .i64 b, .int .i64 d] 105) ∧ mp = some m ∨ mp = none ∧ W1 = ((w.setCell ⟨c, 0, none⟩ (.map (some (w.heap.size + 1)))).alloc (.cells #[.int .i64 a, .int .i64 b, .int .i64 d] 105)).alloc (.map #[] 0))) := by
    cases mp with
    | none =>
      rcases hm with ⟨_, rfl⟩ | ⟨b', D, e, _⟩
      · refine ⟨w.heap.size + 1, 0, _, ⟨(((Turn.refl _ _).setCell (fun _ => (hF c).2 (.inl rfl)) _).alloc _).alloc _, (((hb.set (i := 0) (by simp [cv]) (.map (some (w.heap.size + 1)))).more _).more _), (Blk.new 0 (w.setCell ⟨c, 0, none⟩ (.map (some (w.heap.size + 1)))) [.int .i64 a, .int .i64 b, .int .i64 d] 105).at (by simp) |>.more _⟩, ?_, Nat.zero_le _, MapOf.mk ((hF c).2 (.inl rfl)) (.inr (by omega)), .inr ⟨rfl, rfl⟩⟩
        have := MapIs.made ((w.setCell ⟨c, 0, none⟩ (.map (some (w.heap.size + 1)))).alloc (.cells #[.int .i64 a, .int .i64 b, .int .i64 d] 105))
        simpa using this
      · cases e
    | some m => exact ⟨m, n, _, ⟨(Turn.refl _ _).alloc _, hb.more _, Blk.new _ _ _ _⟩, hm.more _, Nat.le_refl _, MapOf.mk ((hF c).2 (.inl rfl)) (.inl ((hF m).2 (.inr rfl))), .inl ⟨rfl, rfl⟩⟩
  clear hF hm
  obtain ⟨m, n', W1, hA, hM, hn', hmm', hW⟩ := hE.out
  clear hE
  rcases hW with ⟨rfl, rfl⟩ | ⟨rfl, rfl⟩
  all_goals
    simp only [Option.isNone_none, Option.isNone_some] at hq
    go_enter Tryz.func366, Tryz.ntmps366
    go_wp2_with fail
    clear r0 z0 hq hb
    refine Ord.wp_chain [6] (At F c w w.heap.size [.int .i64 a, .int .i64 b, .int .i64 d] (some m) q) (fun j w' => MapIs w' (some m) (if j = 0 then f else upd f (a, b, d) v) (n' + j)) (by kernel_rfl) (by kernel_rfl) (by kernel_rfl) hA.drew hM.drew (fun hT => ?_)
    have hT9 := Lib.hid hT
    clear hT
    repeat (first
      | (refine Ord.ch_value (v := ?_) hT9.out (by decide) (by rfl) ?_ ?_; rotate_left; (focus (intro w5 hS; have r := hS.2.1.rule; unfold cv at r; have r2 := hS.2.2.rule; go_simp <;> with_reducible rfl)); (try simp only [Act.put, List.setIfInBounds_toArray, List.set_cons_zero, List.set_cons_succ]))
      | (refine Ord.ch_off hT9.out (by decide) (by rfl) ?_; (try simp only [Act.put, List.setIfInBounds_toArray, List.set_cons_zero, List.set_cons_succ])))
    refine Ord.ch_turn (v := undef) 0 hT9.out rfl (by decide) (Or.inl rfl) (by rfl) ?_ ?_
    · intro w5 hA5 hM5
      obtain ⟨w6, hrun, hM6, ht⟩ := MapIs.store hM5 (by omega) hx hv h0
      simp only [pv] at hrun
      simp [execOp, Act.eval, hrun, Result.andThen]
      refine ⟨rfl, hA5.map ht hmm'.1 (fun e => not_map_cells hM5 hA5.2.1 (by rw [e])) (fun e => not_map_cells hM5 hA5.2.2 (by rw [e])), hM6⟩
    refine Ord.InText.nil fun w5 hS => ?_
    clear hT9
    obtain ⟨hA9, hM9⟩ := Ord.chain_end hS
    clear hS
    go_wp2
    go_end0
    refine ⟨rfl, fun k => k = c ∨ some m = some k, ⟨some m, hA9.2.1, hM9.mono (by simp; omega), fun k => Iff.rfl⟩, ⟨hA9.1, hmm'.2⟩⟩
end Go.Proofs.YtdknbegcflldjaaGreatDoor

/- Shared cells: the contracts of the accesses. -/
namespace Go.Proofs.YtdknbegcflldjaaGreatDoor
open Go.RowKit Go.Maps
set_option maxRecDepth 100000

section
variable {w w' : World} {c n : Nat} {F : Nat → Prop} {f : Plc → Int} {q : Cnt}
theorem IsC.more (h : IsC w c F f q n) (o : Obj) : IsC (w.alloc o) c F f q n := by
  obtain ⟨mp, hb, hm, hF⟩ := h
  exact ⟨mp, hb.more o, hm.more o, hF⟩
theorem IsC.drew (h : IsC w c F f q n) : IsC w.drew c F f q n := by
  obtain ⟨mp, hb, hm, hF⟩ := h
  exact ⟨mp, hb, hm.drew, hF⟩
theorem IsC.at (h : IsC w c F f q n) : F c := by
  obtain ⟨mp, hb, hm, hF⟩ := h
  exact (hF c).2 (.inl rfl)
theorem IsC.tick (h : IsC w c F f q n) {i : Nat} {v : Value} {q' : Cnt} (hi : 0 < i ∧ i < 6) (hq : ∀ mp, (cv mp q).set i v = cv mp q') : IsC (w.setCell ⟨c, i, none⟩ v) c F f q' n := by
  obtain ⟨mp, hb, hm, hF⟩ := h
  refine ⟨mp, hq mp ▸ hb.set (by simp [cv]; omega) v, hm.kept fun b e => Below.heap_setCell _ _ _ _ fun e' => not_map_cells hm hb (by rw [e]; exact congrArg some e'), hF⟩
theorem IsC.seen (h : IsC w c F f q n) : ∃ mp, (∀ i, w.cell? ⟨c, i, none⟩ = (cv mp q)[i]?) ∧ (∀ i, i < 6 → w.frozen? ⟨c, i, none⟩ = false) ∧ c < w.heap.size := by
  obtain ⟨mp, hb, hm, hF⟩ := h
  exact ⟨mp, hb.rule, hb.thaw, hb.1⟩
/-- A field of c, whatever has been made since. -/
theorem cell_more {vs : List Value} (hc : c < w.heap.size) (h : ∀ i, w.cell? ⟨c, i, none⟩ = vs[i]?) (o : Obj) : ∀ i, (w.alloc o).cell? ⟨c, i, none⟩ = vs[i]? := fun i => by rw [World.cell?_of_block (w := w) (Below.heap_alloc w o c hc)]; exact h i
end

theorem put_any {c n : Nat} {F : Nat → Prop} {f : Plc → Int} {q : Cnt} {w : World} (a b d v : Int) (hx : Wf (a, b, d)) (hv : InU v) (hn : n < maxLen) (hC : IsC w c F f q n) :
    Calls Tryz.prog 366 #[.pointer (some ⟨c, 0, none⟩), .agg #[.int .i64 a, .int .i64 b, .int .i64 d], .int .u64 v] w fun e w' => e = .returned (.tuple #[]) ∧ ∃ F', IsC w' c F' (upd f (a, b, d) v) q (n + 1) ∧ Step F F' w w' := by
  by_cases h0 : v = 0
  · subst h0
    exact (put_zero a b d hx hC).mono fun e w' ⟨h1, F', h2, h3⟩ => ⟨h1, F', h2.mono (Nat.le_succ _), h3⟩
  · exact put_word a b d v hx hv h0 hn hC

set_option maxHeartbeats 800000 in
theorem new_any (w : World) : Calls Tryz.prog 81 #[] w fun e w' => e = .returned (.pointer (some ⟨w.heap.size, 0, none⟩)) ∧ IsC w' w.heap.size (fun k => k = w.heap.size) (fun _ => 0) ⟨0, 0, 0, 0, 0⟩ 0 ∧ Below w.heap.size w w' := by
  go_enter Tryz.func81, Tryz.ntmps81
  go_wp2
  go_ret
  exact ⟨rfl, ⟨none, Blk.new 0 w (cv none ⟨0, 0, 0, 0, 0⟩) 216, .inl ⟨rfl, rfl⟩, fun k => by simp⟩, (Below.refl _ _).alloc (Nat.le_refl _) _⟩

theorem ticked {w : World} {c n : Nat} {F : Nat → Prop} {f : Plc → Int} {q q1 : Cnt} {mp : Option Nat} (hb : Blk 0 w c (cv mp q)) (hm : MapIs w mp f n) (hF : F c) {i : Nat} {v : Value} (hi : i < 6) (hq : (cv mp q).set i v = cv mp q1) (vs : List Value) (t : TypeId) :
    At F c w w.heap.size vs mp q1 ((w.setCell ⟨c, i, none⟩ v).alloc (.cells vs.toArray t)) ∧ MapIs ((w.setCell ⟨c, i, none⟩ v).alloc (.cells vs.toArray t)) mp f n :=
  ⟨⟨((Turn.refl _ _).setCell (fun _ => hF) _).alloc _, hq ▸ (hb.set hi v).more _, (Blk.new 0 (w.setCell ⟨c, i, none⟩ v) vs t).at (by simp)⟩,
    (hm.kept fun b e => Below.heap_setCell _ _ _ _ fun e' => not_map_cells hm hb (by rw [e]; exact congrArg some e')).more _⟩
theorem IsC.of {w w0 : World} {c n B : Nat} {F : Nat → Prop} {f : Plc → Int} {q : Cnt} {mp : Option Nat} {bv : List Value} (h : At F c w0 B bv mp q w) (hm : MapIs w mp f n) (hF : ∀ k, F k ↔ (k = c ∨ mp = some k)) : IsC w c F f q n := ⟨mp, h.2.1, hm, hF⟩

set_option maxHeartbeats 800000 in
theorem load_any {c n : Nat} {F : Nat → Prop} {f : Plc → Int} {q : Cnt} {w : World} (a b d : Int) (hx : Wf (a, b, d)) (hC : IsC w c F f q n) :
    Calls Tryz.prog 363 #[.pointer (some ⟨c, 0, none⟩), .agg #[.int .i64 a, .int .i64 b, .int .i64 d]] w fun e w' => e = .returned (.int .u64 (f (a, b, d))) ∧ IsC w' c F f { q with l := wrap64 (q.l + 1) } n ∧ Step F F w w' := by
  have hFc := hC.at
  obtain ⟨mp, hb, hm, hF⟩ := hC
  have r0 := hb.rule
  have hcl := hb.1
  have r1 := cell_more hcl r0
  have z1 := hb.thaw 1 (by simp [cv])
  have hS0 := ticked hb hm hFc (i := 1) (v := .int .i64 (wrap64 (q.l + 1))) (q1 := { q with l := wrap64 (q.l + 1) }) (by omega) rfl [.int .i64 a, .int .i64 b, .int .i64 d] 105
  unfold cv at r0 r1
  go_enter Tryz.func363, Tryz.ntmps363
  go_wp2_with fail
  generalize (w.setCell ⟨c, 1, none⟩ (.int .i64 (wrap64 (q.l + 1)))).alloc _ = w1 at *
  clear r0 r1 z1
  refine Ord.wp_chain [] (fun w' => At F c w w.heap.size [.int .i64 a, .int .i64 b, .int .i64 d] mp { q with l := wrap64 (q.l + 1) } w' ∧ MapIs w' mp f n) (fun _ _ => True) (by kernel_rfl) (by kernel_rfl) (by kernel_rfl) ⟨hS0.1.drew, hS0.2.drew⟩ trivial (fun hT => ?_)
  have hT9 := Lib.hid hT
  clear hT
  repeat (first
    | (refine Ord.ch_value (v := ?_) hT9.out (by decide) (by rfl) ?_ ?_; rotate_left; (focus (intro w5 hS; have r := hS.1.2.1.rule; unfold cv at r; have r2 := hS.1.2.2.rule; have hl := hS.2.look hx; simp only [pv] at hl; go_simp <;> with_reducible rfl)); (try simp only [Act.put, List.setIfInBounds_toArray, List.set_cons_zero, List.set_cons_succ]))
    | (refine Ord.ch_off hT9.out (by decide) (by rfl) ?_; (try simp only [Act.put, List.setIfInBounds_toArray, List.set_cons_zero, List.set_cons_succ])))
  refine Ord.InText.nil fun w5 hS => ?_
  clear hT9
  obtain ⟨hA9, hM9⟩ := Ord.chain_end hS
  clear hS
  go_wp2
  go_ret
  exact ⟨rfl, .of hA9.1 hA9.2 hF, ⟨hA9.1.1, fun k h => .inl h⟩⟩

set_option maxHeartbeats 800000 in
theorem store_any {c n : Nat} {F : Nat → Prop} {f : Plc → Int} {q : Cnt} {w : World} (a b d v : Int) (hx : Wf (a, b, d)) (hv : InU v) (hn : n < maxLen) (hC : IsC w c F f q n) :
    Calls Tryz.prog 364 #[.pointer (some ⟨c, 0, none⟩), .agg #[.int .i64 a, .int .i64 b, .int .i64 d], .int .u64 v] w fun e w' => e = .returned (.tuple #[]) ∧ ∃ F', IsC w' c F' (upd f (a, b, d) v) { q with s := wrap64 (q.s + 1) } (n + 1) ∧ Step F F' w w' := by
  have hFc := hC.at
  obtain ⟨mp, hb, hm, hF⟩ := hC
  have r0 := hb.rule
  have hcl := hb.1
  have r1 := cell_more hcl r0
  have z1 := hb.thaw 2 (by simp [cv])
  have hS0 := ticked hb hm hFc (i := 2) (v := .int .i64 (wrap64 (q.s + 1))) (q1 := { q with s := wrap64 (q.s + 1) }) (by omega) rfl [.int .i64 a, .int .i64 b, .int .i64 d] 105
  unfold cv at r0 r1
  go_enter Tryz.func364, Tryz.ntmps364
  go_wp2_with fail
  generalize (w.setCell ⟨c, 2, none⟩ (.int .i64 (wrap64 (q.s + 1)))).alloc _ = w1 at *
  clear r0 r1 z1
  refine (put_any a b d v hx hv hn (.of hS0.1 hS0.2 hF)).mono ?_
  rintro e w2 ⟨rfl, F', hC2, hs2⟩
  go_wp2
  go_end0
  exact ⟨rfl, F', hC2, (Step.mk hS0.1.1 fun k h => .inl h).trans hs2⟩

end Go.Proofs.YtdknbegcflldjaaGreatDoor

/- Shared cells: the contracts of the accesses. -/
namespace Go.Proofs.YtdknbegcflldjaaGreatDoor
open Go.RowKit Go.Maps
set_option maxRecDepth 100000

section
variable {w w' : World} {c n : Nat} {F : Nat → Prop} {f : Plc → Int} {q : Cnt}
end

set_option maxHeartbeats 1600000 in
theorem add_any {c n : Nat} {F : Nat → Prop} {f : Plc → Int} {q : Cnt} {w : World} (a b d v : Int) (hx : Wf (a, b, d)) (hn : n < maxLen) (hC : IsC w c F f q n) :
    Calls Tryz.prog 362 #[.pointer (some ⟨c, 0, none⟩), .agg #[.int .i64 a, .int .i64 b, .int .i64 d], .int .u64 v] w fun e w' => e = .returned (.int .u64 (f (a, b, d))) ∧ ∃ F', IsC w' c F' (upd f (a, b, d) (IntKind.u64.wrap (f (a, b, d) + v))) { q with a := wrap64 (q.a + 1) } (n + 1) ∧ Step F F' w w' := by
  have hFc := hC.at
  obtain ⟨mp, hb, hm, hF⟩ := hC
  have r0 := hb.rule
  have hcl := hb.1
  have r1 := cell_more hcl r0
  have z1 := hb.thaw 5 (by simp [cv])
  have hS0 := ticked hb hm hFc (i := 5) (v := .int .i64 (wrap64 (q.a + 1))) (q1 := { q with a := wrap64 (q.a + 1) }) (by omega) rfl [.int .i64 a, .int .i64 b, .int .i64 d] 105
  unfold cv at r0 r1
  go_enter Tryz.func362, Tryz.ntmps362
  go_wp2_with fail
  generalize (w.setCell ⟨c, 5, none⟩ (.int .i64 (wrap64 (q.a + 1)))).alloc _ = w1 at *
  clear r0 r1 z1
  refine Ord.wp_chain [] (fun w' => At F c w w.heap.size [.int .i64 a, .int .i64 b, .int .i64 d] mp { q with a := wrap64 (q.a + 1) } w' ∧ MapIs w' mp f n) (fun _ _ => True) (by kernel_rfl) (by kernel_rfl) (by kernel_rfl) ⟨hS0.1.drew, hS0.2.drew⟩ trivial (fun hT => ?_)
  have hT9 := Lib.hid hT
  clear hT
  repeat (first
    | (refine Ord.ch_value (v := ?_) hT9.out (by decide) (by rfl) ?_ ?_; rotate_left; (focus (intro w5 hS; have r := hS.1.2.1.rule; unfold cv at r; have r2 := hS.1.2.2.rule; have hl := hS.2.look hx; simp only [pv] at hl; go_simp <;> with_reducible rfl)); (try simp only [Act.put, List.setIfInBounds_toArray, List.set_cons_zero, List.set_cons_succ]))
    | (refine Ord.ch_off hT9.out (by decide) (by rfl) ?_; (try simp only [Act.put, List.setIfInBounds_toArray, List.set_cons_zero, List.set_cons_succ])))
  refine Ord.InText.nil fun w5 hS => ?_
  clear hT9
  obtain ⟨hA9, hM9⟩ := Ord.chain_end hS
  clear hS
  have r2 := hA9.1.2.2.rule
  have HX := Lib.hid hx
  have hu : InU (IntKind.u64.wrap (f (a, b, d) + v)) := by rw [IntKind.wrap_u64]; unfold InU; omega
  clear hx
  go_wp2_with fail
  refine (put_any a b d (IntKind.u64.wrap (f (a, b, d) + v)) HX.out hu hn (.of hA9.1 hA9.2 hF)).mono ?_
  rintro e w2 ⟨rfl, F', hC2, hs2⟩
  clear r2
  go_wp2
  go_ret
  exact ⟨rfl, F', hC2, (Step.mk hA9.1.1 fun k h => .inl h).trans hs2⟩

end Go.Proofs.YtdknbegcflldjaaGreatDoor

/- Queues, in mathematics: a ring's places, the room for so many. -/
namespace Go.Proofs.YtdknbegcflldjaaGreatDoor

/-- A ring of N places, in which l stands from the g-th count on. -/
def Ring (r : List Trip) (N g : Nat) (l : List Trip) : Prop := r.length = N ∧ l.length ≤ N ∧ ∀ i, i < l.length → r.getD ((g + i) % N) t0 = l.getD i t0
theorem mod_apart {N a i j : Nat} (h : i < j) (hj : j < N) : (a + i) % N ≠ (a + j) % N := fun e => by
  have h1 : ((a + i) + (j - i)) % N = (a + i) % N := by rw [show a + i + (j - i) = a + j by omega, e]
  have h2 : ((a + i) % N + (j - i)) % N = (a + i) % N := by rw [Nat.mod_add_mod]; exact h1
  have h3 := Nat.mod_lt (a + i) (show 0 < N by omega)
  by_cases h4 : (a + i) % N + (j - i) < N
  · rw [Nat.mod_eq_of_lt h4] at h2; omega
  · rw [Nat.mod_eq_sub_mod (by omega), Nat.mod_eq_of_lt (by omega)] at h2; omega
theorem Ring.start (N g : Nat) : Ring (List.replicate N t0) N g [] := ⟨by simp, by simp, fun i h => by simp at h⟩
theorem Ring.push {r l : List Trip} {N g : Nat} (h : Ring r N g l) (hl : l.length < N) (x : Trip) : Ring (r.set ((g + l.length) % N) x) N g (l ++ [x]) := by
  obtain ⟨h1, h2, h3⟩ := h
  have hp : (g + l.length) % N < N := Nat.mod_lt _ (by omega)
  refine ⟨by simpa using h1, by simp; omega, fun i hi => ?_⟩
  simp at hi
  have hpi : (g + i) % N < N := Nat.mod_lt _ (by omega)
  by_cases e : i = l.length
  · subst e
    simp [h1, hp]
  · have hne : (g + l.length) % N ≠ (g + i) % N := fun e' => mod_apart (N := N) (a := g) (show i < l.length by omega) hl e'.symm
    have := h3 i (by omega)
    simp only [List.getD_eq_getElem?_getD, List.getElem?_set, if_neg hne] at this ⊢
    rw [this, List.getElem?_append_left (by omega)]
theorem Ring.pop {r l : List Trip} {N g : Nat} {x : Trip} (h : Ring r N g (x :: l)) : r.getD (g % N) t0 = x ∧ Ring r N (g + 1) l := by
  obtain ⟨h1, h2, h3⟩ := h
  refine ⟨by simpa using h3 0 (by simp), h1, by simp at h2; omega, fun i hi => ?_⟩
  have := h3 (i + 1) (by simp; omega)
  rw [show g + 1 + i = g + (i + 1) by omega, this]
  simp
theorem Ring.at {r l : List Trip} {N g : Nat} (h : Ring r N g l) (i : Nat) (hi : i < l.length) : r.getD ((g + i) % N) t0 = l.getD i t0 := h.2.2 i hi

/-- From 2 ^ k on, the room for n. -/
def Rm (k n k' : Nat) : Prop := k ≤ k' ∧ n ≤ 2 ^ k' ∧ (k' = k ∨ 2 ^ k' < 2 * n)
theorem pow_up {a b : Nat} (h : a < b) : 2 * 2 ^ a ≤ 2 ^ b := by
  have := Nat.pow_le_pow_right (n := 2) (by omega) (show a + 1 ≤ b by omega)
  rw [Nat.pow_succ] at this; omega
theorem Rm.unique {k n a b : Nat} (h : Rm k n a) (h' : Rm k n b) : a = b := by
  obtain ⟨h1, h2, h3⟩ := h
  obtain ⟨g1, g2, g3⟩ := h'
  rcases Nat.lt_trichotomy a b with h | h | h
  · have := pow_up h; omega
  · exact h
  · have := pow_up h; omega
theorem Rm.trans {k n m a b : Nat} (h : Rm k n a) (h' : Rm a m b) (hn : n ≤ m) : Rm k m b := by
  obtain ⟨h1, h2, h3⟩ := h
  obtain ⟨g1, g2, g3⟩ := h'
  refine ⟨by omega, g2, ?_⟩
  rcases g3 with rfl | g3
  · rcases h3 with rfl | h3
    · exact .inl rfl
    · right; omega
  · exact .inr g3
theorem Rm.same {k n : Nat} (h : n ≤ 2 ^ k) : Rm k n k := ⟨Nat.le_refl _, h, .inl rfl⟩
theorem Rm.le {k n k' : Nat} (h : Rm k n k') (hk : k ≤ 20) (hn : n ≤ 1048576) : k' ≤ 20 := by
  obtain ⟨h1, h2, h3⟩ := h
  rcases h3 with rfl | h3
  · exact hk
  · apply Classical.byContradiction
    intro hc
    have := Nat.pow_le_pow_right (n := 2) (by omega) (show 21 ≤ k' by omega)
    simp at this
    omega
theorem pow_small {k : Nat} (h : k ≤ 20) : 2 ^ k ≤ 1048576 := Nat.pow_le_pow_right (n := 2) (by omega) h
theorem pow_four {k : Nat} (h : 2 ≤ k) : 4 ≤ 2 ^ k := Nat.pow_le_pow_right (n := 2) (by omega) h
theorem pow_inj {a b : Nat} (h : 2 ^ a = 2 ^ b) : a = b := by
  rcases Nat.lt_trichotomy a b with h' | h' | h'
  · have := pow_up h'; have := Nat.one_le_two_pow (n := a); omega
  · exact h'
  · have := pow_up h'; have := Nat.one_le_two_pow (n := b); omega
/-- Counts go round at 2 ^ 64: their places stay. -/
theorem mod_round {k : Nat} (hk : k ≤ 64) (a : Nat) : a % 18446744073709551616 % 2 ^ k = a % 2 ^ k :=
  Nat.mod_mod_of_dvd a (by have := Nat.pow_dvd_pow 2 hk; simpa using this)
theorem and_mask {k : Nat} (hk : k ≤ 20) (c : Nat) (hc : c < 18446744073709551616) : bits .and .u64 (c : Int) (((2 ^ k : Nat) : Int) - 1) = ((c % 2 ^ k : Nat) : Int) := by
  have h1 := Nat.one_le_two_pow (n := k)
  have h2 := pow_small hk
  rw [show ((2 ^ k : Nat) : Int) - 1 = ((2 ^ k - 1 : Nat) : Int) by omega, u64_and_nat _ _ hc (by omega), Nat.and_two_pow_sub_one_eq_mod]

/-- The place of the first entry of that slot; -1: there is none. -/
def findI : List Trip → Int → Int
  | [], _ => -1
  | x :: l, s => if x.1 = s then 0 else if findI l s < 0 then -1 else findI l s + 1
theorem findI_skip {l : List Trip} {s : Int} {k : Nat} (hk : k < l.length) (h : (l.getD k t0).1 ≠ s) (hf : findI l s = if findI (l.drop k) s < 0 then -1 else findI (l.drop k) s + k) : findI l s = if findI (l.drop (k + 1)) s < 0 then -1 else findI (l.drop (k + 1)) s + (k + 1 : Nat) := by
  rw [hf, List.drop_eq_getElem_cons hk]
  have e : l[k].1 ≠ s := by simpa [hk] using h
  simp only [findI, if_neg e]
  split <;> split <;> simp_all <;> omega
theorem findI_hit {l : List Trip} {s : Int} {k : Nat} (hk : k < l.length) (h : (l.getD k t0).1 = s) (hf : findI l s = if findI (l.drop k) s < 0 then -1 else findI (l.drop k) s + k) : findI l s = k := by
  rw [hf, List.drop_eq_getElem_cons hk]
  have e : l[k].1 = s := by simpa [hk] using h
  simp [findI, e]
theorem findI_none {l : List Trip} {s : Int} (hf : findI l s = if findI (l.drop l.length) s < 0 then -1 else findI (l.drop l.length) s + l.length) : findI l s = -1 := by
  rw [hf, List.drop_length]; rfl
theorem findI_start (l : List Trip) (s : Int) : findI l s = if findI (l.drop 0) s < 0 then -1 else findI (l.drop 0) s + (0 : Nat) := by
  have : ∀ l : List Trip, -1 ≤ findI l s := fun l => by
    induction l with
    | nil => simp [findI]
    | cons x l ih => simp only [findI]; split; omega; split <;> omega
  have := this l
  simp only [List.drop_zero]
  split <;> omega
end Go.Proofs.YtdknbegcflldjaaGreatDoor

/- Queues: what they are in memory; the contracts of at, Len, Room. -/
namespace Go.Proofs.YtdknbegcflldjaaGreatDoor
open Go.RowKit Go.Maps
set_option maxRecDepth 100000

/-- A count, as it is kept. -/
def cnt (c : Nat) : Int := ((c % 18446744073709551616 : Nat) : Int)
/-- The cells of a queue: the ring in block R, of N places; g were popped, n stand. -/
def qv (R N g n : Nat) : List Value := [.slice (some ⟨R, 0, none⟩) N N, .int .u64 (cnt g), .int .u64 (cnt (g + n))]
/-- Block q is a queue of l, with room for 2 ^ k; F are the blocks that it is made of. -/
def IsQ (w : World) (q : Nat) (F : Nat → Prop) (l : List Trip) (k : Nat) : Prop :=
  ∃ R g r, Blk 0 w q (qv R (2 ^ k) g l.length) ∧ Blk 0 w R (flat3 r) ∧ Ring r (2 ^ k) g l ∧ 2 ≤ k ∧ k ≤ 20 ∧ q ≠ R ∧ ∀ j, F j ↔ (j = q ∨ j = R)

theorem IsQ.lt {w : World} {q k : Nat} {F : Nat → Prop} {l : List Trip} (h : IsQ w q F l k) : ∀ j, F j → j < w.heap.size := by
  obtain ⟨R, g, r, h1, h2, _, _, _, _, hF⟩ := h
  intro j hj
  rcases (hF j).1 hj with rfl | rfl
  · exact h1.1
  · exact h2.1
theorem IsQ.kept {w w' : World} {q k : Nat} {F : Nat → Prop} {l : List Trip} (h : IsQ w q F l k) (hk : ∀ j, F j → w'.heap[j]? = w.heap[j]?) (hs : w.heap.size ≤ w'.heap.size) : IsQ w' q F l k := by
  obtain ⟨R, g, r, h1, h2, h3, h4, h5, h6, hF⟩ := h
  exact ⟨R, g, r, h1.kept hs (hk q ((hF q).2 (.inl rfl))), h2.kept hs (hk R ((hF R).2 (.inr rfl))), h3, h4, h5, h6, hF⟩
theorem IsQ.below {w w' : World} {q k : Nat} {F : Nat → Prop} {l : List Trip} (h : IsQ w q F l k) (hb : Below w.heap.size w w') : IsQ w' q F l k :=
  h.kept (fun j hj => hb.block j (h.lt j hj)) hb.size
theorem IsQ.len {w : World} {q k : Nat} {F : Nat → Prop} {l : List Trip} (h : IsQ w q F l k) : l.length ≤ 2 ^ k ∧ l.length ≤ 1048576 ∧ 2 ≤ k ∧ k ≤ 20 := by
  obtain ⟨R, g, r, h1, h2, h3, h4, h5, h6, hF⟩ := h
  have := pow_small h5
  exact ⟨h3.2.1, by have := h3.2.1; omega, h4, h5⟩

theorem at_any (R k c : Nat) (w : World) (hk : k ≤ 20) :
    Calls Tryz.prog 123 #[.slice (some ⟨R, 0, none⟩) (2 ^ k) (2 ^ k), .int .u64 (cnt c)] w fun e w' => e = .returned (.pointer (some ⟨R, (c % 2 ^ k) * 3, none⟩)) ∧ w = w' := by
  have hm := and_mask hk (c % 18446744073709551616) (Nat.mod_lt _ (by omega))
  rw [mod_round (by omega)] at hm
  unfold cnt
  have h1 := Nat.one_le_two_pow (n := k)
  have h2 := pow_small hk
  have hlt : c % 2 ^ k < 2 ^ k := Nat.mod_lt _ (by omega)
  generalize 2 ^ k = N at *
  have hw1 : wrap64 ((N : Int) - 1) = (N : Int) - 1 := w64 _ (by omega)
  have hw2 : IntKind.u64.wrap ((N : Int) - 1) = (N : Int) - 1 := by rw [IntKind.wrap_u64]; omega
  generalize c % N = p at *
  generalize ((c % 18446744073709551616 : Nat) : Int) = c' at *
  go_enter Tryz.func123, Tryz.ntmps123
  go_wp2_with fail
  go_ret
  exact ⟨rfl, rfl⟩

theorem round_len (g n : Nat) (hn : n ≤ 1048576) : wrap64 (IntKind.u64.wrap ((cnt (g + n)) - (cnt g))) = n := by
  unfold cnt; rw [IntKind.wrap_u64]; unfold wrap64; omega
theorem len_any {w : World} {q k : Nat} {F : Nat → Prop} {l : List Trip} (hQ : IsQ w q F l k) :
    Calls Tryz.prog 122 #[.pointer (some ⟨q, 0, none⟩)] w fun e w' => e = .returned (.int .i64 l.length) ∧ Below w.heap.size w w' := by
  obtain ⟨hl1, hl2, hk2, hk⟩ := hQ.len
  obtain ⟨R, g, r, hq, hr, hring, _, _, hne, hF⟩ := hQ
  have hn := round_len g l.length hl2
  clear hr hring hF
  unfold qv at hq
  generalize (cnt g) = G at *
  generalize (cnt (g + l.length)) = C at *
  generalize 2 ^ k = N at *
  have hE : Below w.heap.size w w := Below.refl _ _
  go_enter Tryz.func122, Tryz.ntmps122
  go_wp2_with fail
  refine Ord.wp_chain [] (fun w' => Blk 0 w' q [.slice (some ⟨R, 0, none⟩) N N, .int .u64 G, .int .u64 C]) (fun _ w' => Below w.heap.size w w') (by kernel_rfl) (by kernel_rfl) (by kernel_rfl) hq.drew hE.drew (fun hT => ?_)
  have hT9 := Lib.hid hT
  clear hT
  repeat (first
    | (refine Ord.ch_value (v := ?_) hT9.out (by decide) (by rfl) ?_ ?_; rotate_left; (focus (intro w5 hS; have r := Blk.rule hS; go_simp <;> with_reducible rfl)); (try simp only [Act.put, List.setIfInBounds_toArray, List.set_cons_zero, List.set_cons_succ]))
    | (refine Ord.ch_off hT9.out (by decide) (by rfl) ?_; (try simp only [Act.put, List.setIfInBounds_toArray, List.set_cons_zero, List.set_cons_succ])))
  refine Ord.InText.nil fun w5 hS => ?_
  clear hT9
  obtain ⟨hq5, hE5⟩ := Ord.chain_end hS
  clear hS
  go_wp2
  go_ret
  exact ⟨ret_int ((wrap_i _).trans hn), hE5⟩
theorem lenNil_any (w : World) : Calls Tryz.prog 122 #[.pointer none] w fun e w' => e = .returned (.int .i64 0) ∧ Below w.heap.size w w' := by
  go_enter Tryz.func122, Tryz.ntmps122
  go_wp2
  go_ret
  exact ⟨rfl, Below.refl _ _⟩
end Go.Proofs.YtdknbegcflldjaaGreatDoor

/- Queues: the contracts of Head, Pop, Find. -/
namespace Go.Proofs.YtdknbegcflldjaaGreatDoor
open Go.RowKit Go.Maps
set_option maxRecDepth 100000

theorem below_set {n B i : Nat} {a b : World} (h : Below n a b) (hs : n ≤ b.heap.size) (hB : n ≤ B) (u : Value) : Below n a (b.setCell ⟨B, i, none⟩ u) :=
  Turn.below h ((Turn.refl (fun k => k = B) b).setCell (p := ⟨B, i, none⟩) (fun _ => rfl) u) hs (fun k e => by subst e; exact hB)
theorem Blk.off {m n B i : Nat} {vs : List Value} {w : World} (h : Blk m w n vs) (hne : n ≠ B) (u : Value) : Blk m (w.setCell ⟨B, i, none⟩ u) n vs := h.kept (by simp) (Below.heap_setCell _ _ _ _ (by simpa using hne))
theorem Blk.put3 {m B : Nat} {a b c : Value} {w : World} (h : Blk m w B [a, b, c]) (u v t : Value) : Blk m (((w.setCell ⟨B, 0, none⟩ u).setCell ⟨B, 1, none⟩ v).setCell ⟨B, 2, none⟩ t) B [u, v, t] := ((h.set (i := 0) (by simp) u).set (i := 1) (by simp) v).set (i := 2) (by simp) t

end Go.Proofs.YtdknbegcflldjaaGreatDoor

/- Queues: the contracts of Pop, Find. -/
namespace Go.Proofs.YtdknbegcflldjaaGreatDoor
open Go.RowKit Go.Maps
set_option maxRecDepth 100000

theorem round_up (g j : Nat) : IntKind.u64.wrap ((cnt g) + (j : Int)) = (cnt (g + j)) := by
  unfold cnt; rw [IntKind.wrap_u64]; omega
theorem round_nat (j : Nat) (h : j ≤ 1048576) : IntKind.u64.wrap (j : Int) = j := by rw [IntKind.wrap_u64]; omega
theorem step_set {n B i : Nat} {a b : World} {F : Nat → Prop} (h : Turn F a b) (hB : n = a.heap.size) (hk : n ≤ B) (u : Value) : Turn F a (b.setCell ⟨B, i, none⟩ u) :=
  h.setCell (p := ⟨B, i, none⟩) (fun e => by subst hB; exact absurd e (Nat.not_lt.2 hk)) u
end Go.Proofs.YtdknbegcflldjaaGreatDoor

/- Queues: rows filled so far. -/
namespace Go.Proofs.YtdknbegcflldjaaGreatDoor
open Go.RowKit Go.Maps
set_option maxRecDepth 100000

/-- A row filled so far. -/
def fill3 (l : List Trip) (j : Nat) : List Trip := l.take j ++ List.replicate (l.length - j) t0
theorem fill3_zero (l : List Trip) : fill3 l 0 = List.replicate l.length t0 := by simp [fill3]
theorem fill3_all (l : List Trip) : fill3 l l.length = l := by simp [fill3]
theorem fill3_length (l : List Trip) {j : Nat} (h : j ≤ l.length) : (fill3 l j).length = l.length := by simp [fill3]; omega
theorem fill3_next (l : List Trip) {j : Nat} (h : j < l.length) : (fill3 l j).set j (l.getD j t0) = fill3 l (j + 1) := by
  have e : (l.take j).length = j := by simp; omega
  unfold fill3
  rw [List.set_append_right _ _ (by omega), e, Nat.sub_self, show l.length - j = (l.length - (j + 1)) + 1 by omega, List.replicate_succ, List.set_cons_zero, List.take_succ_eq_append_getElem h, List.append_assoc, show l.getD j t0 = l[j] by simp [h]]
  rfl

theorem infoEnt : (Tryz.prog.info? 158).map (fun i => (i.zero, i.size, i.bytes)) = some (some (tv t0), 3, 24) := by kernel_rfl

end Go.Proofs.YtdknbegcflldjaaGreatDoor

/- Queues: the contract of grow. -/
namespace Go.Proofs.YtdknbegcflldjaaGreatDoor
open Go.RowKit Go.Maps
set_option maxRecDepth 100000

theorem round_apart (g a b : Nat) (h : a ≤ 1048576) (h' : b ≤ 1048576) : ((cnt (g + a)) != (cnt (g + b))) = decide (a ≠ b) := by
  unfold cnt
  by_cases e : a = b
  · subst e; simp
  · have : (g + a) % 18446744073709551616 ≠ (g + b) % 18446744073709551616 := by omega
    have h2 : (((g + a) % 18446744073709551616 : Nat) : Int) ≠ (((g + b) % 18446744073709551616 : Nat) : Int) := by omega
    simp only [bne_iff_ne, ne_eq, h2, not_false_iff, e, decide_true]

theorem round_left (g a b : Nat) (h : a ≤ b) (h' : b ≤ 1048576) : ((cnt (g + b) - cnt (g + a)) % 18446744073709551616).toNat = b - a := by unfold cnt; omega

set_option maxHeartbeats 1600000 in
theorem grow_any {w : World} {q k n : Nat} {F : Nat → Prop} {l : List Trip} (hn : n ≤ 1048576) (hln : l.length ≤ n) (hQ : IsQ w q F l k) :
    Calls Tryz.prog 155 #[.pointer (some ⟨q, 0, none⟩), .int .i64 n] w fun e w' => e = .returned (.tuple #[]) ∧ ∃ k' F', Rm k n k' ∧ IsQ w' q F' l k' ∧ Step F F' w w' := by
  obtain ⟨hl1, hl2, hk2, hk⟩ := hQ.len
  have hQ0 := Lib.hid hQ
  obtain ⟨R, g, r, hq, hr, hring, _, _, hne, hF⟩ := hQ
  have hrl := hring.1
  have h4 := pow_four hk2
  have hs := pow_small hk
  have r0 := hq.rule
  unfold qv at r0
  have HQB := Lib.hid (And.intro hq (And.intro hr (And.intro hring hF)))
  have hqw := hq.1
  have hRw := hr.1
  clear hq hr hring hF
  generalize hN : 2 ^ k = N at *
  have HN : Hid (N = 2 ^ k) := Lib.hid hN.symm
  clear hN
  have HR0 := Lib.hid r0
  go_enter Tryz.func155, Tryz.ntmps155
  go_wp2_with fail
  all_goals (try omega)
  go_loopw [4] (fun i wr => ∃ j M : Nat, Hid (M = 2 ^ j) ∧ k ≤ j ∧ j ≤ 20 ∧ (j = k ∨ M < 2 * n) ∧ i = .int .i64 M ∧ w = wr) (fun i _ => 4194304 - (intOf i).toNat)
  case atStart => exact ⟨k, N, HN, Nat.le_refl _, hk, .inl rfl, rfl, rfl⟩
  case round =>
    obtain ⟨j, M, HM, hkj, hj20, hjn, rfl, rfl⟩ := hrel
    have hM4 : 4 ≤ M := by rw [HM.out]; exact pow_four (by omega)
    have hMs : M ≤ 1048576 := by rw [HM.out]; exact pow_small hj20
    by_cases hlt : M < n
    · go_wp2_with fail
      have hM2 : M * 2 = 2 ^ (j + 1) := by rw [HM.out, Nat.pow_succ]
      have hj : j + 1 ≤ 20 := by
        apply Classical.byContradiction
        intro hc
        have := Nat.pow_le_pow_right (n := 2) (by omega) (show 21 ≤ j + 1 by omega)
        simp only [← hM2] at this
        simp at this
        omega
      exact ⟨⟨j + 1, M * 2, Lib.hid hM2, by omega, hj, .inr (by omega), by simp⟩, by simp [intOf]; omega⟩
    · by_cases hjk : j = k
      · have hMN : M = N := by rw [HM.out, HN.out, hjk]
        subst hMN
        go_wp2_with fail
        refine bodyPost_ret (results_none rfl _ _ _) rfl ?_
        exact ⟨rfl, k, F, ⟨Nat.le_refl _, by rw [← HN.out]; omega, .inl rfl⟩, hQ0.out, Step.refl _ _⟩
      · have hNM : 2 * N ≤ M := by rw [HM.out, HN.out]; exact pow_up (by omega)
        have hMN : M ≠ N := by omega
        have hMb : ((M : Int) == (N : Int)) = false := by rw [beq_eq_false_iff_ne]; omega
        clear hQ0
        go_wp2_with (refine wpList_make3 _ rfl _ _ 151 rfl 158 Tryz.underlying151 infoEnt .i64 .i64 _ _ M rfl rfl rfl rfl (by omega) ?_)
        have hB0 := Blk.new 0 w (flat3 (List.replicate M t0)) 158
        have hE0 := (Below.refl w.heap.size w).alloc (Nat.le_refl _) (.cells (flat3 (List.replicate M t0)).toArray 158)
        have HJ := Lib.hid hjn
        clear HR0 hjn
        generalize hb1 : w.heap.size = b at *
        have HB1 := Lib.hid hb1
        clear hb1
        generalize w.alloc (.cells (flat3 (List.replicate M t0)).toArray 158) = w2 at *
        go_loopw [6] (fun c v => ∃ m : Nat, m ≤ l.length ∧ c = .int .u64 (cnt (g + m)) ∧ Below b w v ∧ ∃ r', Ring r' M g (l.take m) ∧ Blk 0 v b (flat3 r')) (fun c _ => ((cnt (g + l.length) - intOf c) % 18446744073709551616).toNat)
        case atStart => exact ⟨0, Nat.zero_le _, rfl, hE0, _, Ring.start M g, hB0⟩
        case round =>
          obtain ⟨m, hml, rfl, hB, r', hring, hb5⟩ := hrel
          clear hB0 hE0
          have hqb : q < b ∧ R < b := by rw [← HB1.out]; exact ⟨HQB.out.1.1, HQB.out.2.1.1⟩
          have hbs : b ≤ wr.heap.size := by rw [← HB1.out]; exact hB.size
          have hq5 : Blk 0 wr q _ := HQB.out.1.kept (by rw [HB1.out]; exact hbs) (hB.block _ hqb.1)
          have hr5 : Blk 0 wr R _ := HQB.out.2.1.kept (by rw [HB1.out]; exact hbs) (hB.block _ hqb.2)
          have rq := hq5.rule
          unfold qv at rq
          have hap := round_apart g m l.length (by omega) (by omega)
          by_cases hlt2 : m < l.length
          · rw [decide_eq_true (by omega)] at hap
            have hlen : (l.take m).length = m := by simp; omega
            have hpush := hring.push (by rw [hlen]; omega) (l.getD m t0)
            rw [hlen] at hpush
            have htk : l.take m ++ [l.getD m t0] = l.take (m + 1) := by
              rw [List.take_succ_eq_append_getElem hlt2, show l.getD m t0 = l[m] by simp [hlt2]]
            rw [htk] at hpush
            have hrl5 := hring.1
            have hp1 : (g + m) % M < M := Nat.mod_lt _ (by omega)
            have hp2 : (g + m) % N < N := Nat.mod_lt _ (by omega)
            have HA1 := Lib.hid fun w' => at_any b j (g + m) w' hj20
            have HA2 := Lib.hid fun w' => at_any R k (g + m) w' hk
            rw [← HM.out] at HA1
            rw [← HN.out] at HA2
            have hat := HQB.out.2.2.1.at m hlt2
            have hcell : ∀ w', Blk 0 w' R (flat3 r) → w'.cell? ⟨R, (g + m) % N * 3, none⟩ = some (.int .i64 (l.getD m t0).1) ∧ w'.cell? ⟨R, (g + m) % N * 3 + 1, none⟩ = some (.int .i64 (l.getD m t0).2.1) ∧ w'.cell? ⟨R, (g + m) % N * 3 + 2, none⟩ = some (.int .i64 (l.getD m t0).2.2) := fun w' h => by
              have e := fun c hc => (h.rule ((g + m) % N * 3 + c)).trans (flat3_get r ((g + m) % N) c (by omega) hc)
              rw [hat] at e
              exact ⟨e 0 (by omega), e 1 (by omega), e 2 (by omega)⟩
            clear hat hlen htk hring
            generalize l.getD m t0 = xx at *
            obtain ⟨x, y, z⟩ := xx
            simp only at hcell
            have HC := Lib.hid hcell
            have HP := Lib.hid hpush
            have HL := Lib.hid (round_left g m l.length (by omega) hl2)
            have HL1 := Lib.hid (round_left g (m + 1) l.length (by omega) hl2)
            have hup := round_up g m
            have hup1 := round_up (g + m) 1
            simp only [Int.natCast_one] at hup1
            clear hcell hpush
            generalize (g + m) % M = p1 at *
            generalize (g + m) % N = p2 at *
            unfold qv at hq5
            generalize cnt g = G at *
            generalize hcm : cnt (g + m) = CM at *
            generalize hcl : cnt (g + l.length) = CL at *
            generalize hcm1 : cnt (g + m + 1) = CM1 at *
            have HCM1 := Lib.hid hcm1
            clear hcm hcl hcm1 hup
            go_wp2_with fail
            refine Ord.wp_chain [12] (fun w' => Blk 0 w' q [.slice (some ⟨R, 0, none⟩) N N, .int .u64 G, .int .u64 CL] ∧ Blk 0 w' R (flat3 r)) (fun i w' => b ≤ w'.heap.size ∧ Below b w w' ∧ Blk 0 w' b (flat3 (if i = 0 then r' else r'.set p1 (x, y, z)))) (by kernel_rfl) (by kernel_rfl) (by kernel_rfl) ⟨hq5.drew, hr5.drew⟩ ⟨hbs, hB.drew, hb5.drew⟩ (fun hT => ?_)
            have hT9 := Lib.hid hT
            clear hT
            repeat (first
              | (refine Ord.ch_value (v := ?_) hT9.out (by decide) (by rfl) ?_ ?_; rotate_left; (focus (intro w5 hS; have r := Blk.rule hS.1; obtain ⟨c0, c1, c2⟩ := HC.out _ hS.2; go_simp <;> with_reducible rfl)); (try simp only [Act.put, List.setIfInBounds_toArray, List.set_cons_zero, List.set_cons_succ]))
              | (refine Ord.ch_off hT9.out (by decide) (by rfl) ?_; (try simp only [Act.put, List.setIfInBounds_toArray, List.set_cons_zero, List.set_cons_succ]))
              | (refine Ord.ch_call (v := ?_) (f := ?_) (args := ?_) hT9.out (by decide) (by rfl) ?_ ?_ ?_; rotate_left 3; (focus (intro w5 hS; have r := Blk.rule hS.1; obtain ⟨c0, c1, c2⟩ := HC.out _ hS.2; go_simp; constructor <;> with_reducible rfl)); (focus (intro w5 hS; (first | (with_reducible refine (HA1.out w5).mono ?_; rintro e w6 ⟨rfl, rfl⟩; constructor; with_reducible rfl; exact ⟨hS, fun _ h => h⟩) | (with_reducible refine (HA2.out w5).mono ?_; rintro e w6 ⟨rfl, rfl⟩; constructor; with_reducible rfl; exact ⟨hS, fun _ h => h⟩)))); (try simp only [Act.put, List.setIfInBounds_toArray, List.set_cons_zero, List.set_cons_succ])))
            refine Ord.ch_turn (v := undef) 0 hT9.out rfl (by decide) (Or.inl rfl) (by rfl) ?_ ?_
            · rintro w5 hS ⟨hA0, hA1, hA2⟩
              simp only [if_true] at hA2
              have hcells := fun c hc => (hA2.rule (p1 * 3 + c)).trans (flat3_get _ p1 c (by omega) hc)
              have r0 := hcells 0 (by omega)
              have r1 := hcells 1 (by omega)
              have r2 := hcells 2 (by omega)
              simp only [Nat.add_zero, enc3, List.getElem?_cons_zero, List.getElem?_cons_succ] at r0 r1 r2
              have hfl := flat3_length r'
              have f0 := hA2.thaw (p1 * 3) (by omega)
              have f1 := hA2.thaw (p1 * 3 + 1) (by omega)
              have f2 := hA2.thaw (p1 * 3 + 2) (by omega)
              clear hcells
              go_simp
              refine ⟨rfl, ⟨((hS.1.off (by omega) _).off (by omega) _).off (by omega) _, ((hS.2.off (by omega) _).off (by omega) _).off (by omega) _⟩, by simpa using hA0, ?_, ?_⟩
              · exact below_set (below_set (below_set hA1 hA0 (Nat.le_refl _) _) (by simp; omega) (Nat.le_refl _) _) (by simp; omega) (Nat.le_refl _) _
              · exact Blk.set3 hA2 (by omega) (x, y, z)
            (try simp only [Act.put, List.setIfInBounds_toArray, List.set_cons_zero, List.set_cons_succ])
            repeat (first
              | (refine Ord.ch_value (v := ?_) hT9.out (by decide) (by rfl) ?_ ?_; rotate_left; (focus (intro w5 hS; skip; go_simp <;> with_reducible rfl)); (try simp only [Act.put, List.setIfInBounds_toArray, List.set_cons_zero, List.set_cons_succ]))
              | (refine Ord.ch_off hT9.out (by decide) (by rfl) ?_; (try simp only [Act.put, List.setIfInBounds_toArray, List.set_cons_zero, List.set_cons_succ])))
            refine Ord.InText.nil fun w5 hS => ?_
            clear hT9
            obtain ⟨hC9, hA9⟩ := Ord.chain_end hS
            clear hS
            obtain ⟨hA0, hA1, hA2⟩ := hA9
            rw [if_neg (by decide)] at hA2
            go_wp2_with fail
            refine ⟨⟨m + 1, by omega, by rw [← HCM1.out]; rfl, hA1, _, HP.out, hA2⟩, ?_⟩
            show ((CL - CM1) % 18446744073709551616).toNat < ((CL - CM) % 18446744073709551616).toNat
            rw [HL.out, HL1.out]
            omega
          · have hml' : m = l.length := by omega
            subst hml'
            rw [decide_eq_false (by omega)] at hap
            rw [List.take_length] at hring
            have f0 := hq5.thaw 0 (by simp [qv])
            go_wp2_with fail
            go_end0
            have hset : (qv R N g l.length).set 0 (.slice (some ⟨b, 0, none⟩) M M) = qv b M g l.length := rfl
            have hq9 := hq5.set (i := 0) (by simp [qv]) (.slice (some ⟨b, 0, none⟩) M M)
            rw [hset] at hq9
            have hb9 := hb5.off (B := q) (i := 0) (by omega) (.slice (some ⟨b, 0, none⟩) M M)
            refine ⟨rfl, j, fun x => x = q ∨ x = b, ⟨hkj, by rw [← HM.out]; omega, .inr (by rw [← HM.out]; rcases HJ.out with h | h; exact absurd h hjk; exact h)⟩, ⟨b, g, r', by rw [← HM.out]; exact hq9, hb9, by rw [← HM.out]; exact hring, by omega, hj20, by omega, fun x => Iff.rfl⟩, ?_, ?_⟩
            · have hB' : Below w.heap.size w wr := by rw [HB1.out]; exact hB
              exact (Turn.of_below hB' : Turn F w wr).setCell (p := ⟨q, 0, none⟩) (fun _ => (HQB.out.2.2.2 q).2 (.inl rfl)) _
            · rintro x (rfl | rfl)
              · exact .inl ((HQB.out.2.2.2 x).2 (.inl rfl))
              · exact .inr (by rw [HB1.out]; exact Nat.le_refl _)
end Go.Proofs.YtdknbegcflldjaaGreatDoor
