/- What is proved on the way to the statement, part 2 of 3: contracts of the functions, among other things in memory. -/
import Derived.Test.YtjiohencpopbeaaF1
import Derived.Deep.Slices
import Derived.WalkKit
import Derived.Lib.Hide
import Derived.Deep.Light
import Derived.LoopIn
import Derived.OwnWalk

/- Whatever comes to numbers and bools, structs in structs too: what its cells hold; a slice of such that came in. -/
namespace Go.Proofs.Ytjiohencpopbeaa
open Go.RowKit Go.WideShapes Go.ChangeShapes Go.ChangeAt Go.Deep
set_option maxRecDepth 100000

/-- The cells of the fields from offset o on. -/
def flatF (P : Program) (g : TypeId → Option (List Sca)) : List Field → Nat → Option (List Sca)
  | [], _ => some []
  | f :: fs, o => if f.offset = o then (g f.type).bind fun ss => if P.cellsOf f.type = ss.length then (flatF P g fs (o + ss.length)).map fun r => ss ++ r else none else none
/-- The cells of a type, if all are numbers and bools. -/
def flatT (P : Program) : Nat → TypeId → Option (List Sca)
  | 0, _ => none
  | d + 1, t =>
    match P.underlying t with
    | some .bool => some [.boo]
    | some (.int k) => some [.num k]
    | some (.struct fs) => (flatF P (flatT P d) fs.toList 0).bind fun ss => if P.cellsOf t = ss.length then some ss else none
    | _ => none

/-- Each cell is of its kind. -/
def CellsOk (cs : List Value) (ss : List Sca) : Prop := ∀ (i : Nat) (s : Sca), ss[i]? = some s → ∃ v, cs[i]? = some v ∧ s.ok v

section
variable {H : Type} {enc : TypeId × Value → H} {P : Program} {w : World} {base : Nat} {spare : Nat → Bool} {held : Bool}

theorem open_fields {g : TypeId → Option (List Sca)} {n : Nat} (hg : ∀ {t ss} {cs : List Value} {x : DataW H × List MemPlace}, g t = some ss → DataW.trod enc P w base spare held n t cs = some x → CellsOk cs ss) (cs : List Value) :
    ∀ (fs : List Field) (o : Nat) (ss : List Sca), flatF P g fs o = some ss → (∀ f ∈ fs, ∃ y, DataW.trod enc P w base spare held n f.type ((cs.drop f.offset).take (P.cellsOf f.type)) = some y) → CellsOk (cs.drop o) ss
  | [], o, ss, h, _ => by
    simp [flatF] at h
    subst h
    intro i s e
    simp at e
  | f :: fs, o, ss, h, hf => by
    unfold flatF at h
    split at h
    · rename_i ho
      cases h1 : g f.type with
      | none => rw [h1] at h; cases h
      | some s1 =>
        rw [h1] at h
        simp only [Option.bind_some] at h
        split at h
        · rename_i hc
          cases h2 : flatF P g fs (o + s1.length) with
          | none => rw [h2] at h; cases h
          | some s2 =>
            rw [h2] at h
            obtain rfl : s1 ++ s2 = ss := by simpa using h
            obtain ⟨y, hy⟩ := hf f (by simp)
            rw [ho, hc] at hy
            have hk := hg h1 hy
            have hr := open_fields hg cs fs (o + s1.length) s2 h2 fun f' hf' => hf f' (by simp [hf'])
            intro i s e
            by_cases hi : i < s1.length
            · rw [List.getElem?_append_left hi] at e
              obtain ⟨v, hv, hs⟩ := hk i s e
              rw [List.getElem?_take_of_lt hi] at hv
              exact ⟨v, hv, hs⟩
            · rw [List.getElem?_append_right (by omega)] at e
              obtain ⟨v, hv, hs⟩ := hr _ s e
              refine ⟨v, ?_, hs⟩
              rw [List.getElem?_drop] at hv ⊢
              rw [← hv]
              congr 1
              omega
        · cases h
    · cases h

theorem open_cells : ∀ (d : Nat) {t : TypeId} {ss : List Sca} {fuel : Nat} {cs : List Value} {x : DataW H × List MemPlace}, flatT P d t = some ss → DataW.trod enc P w base spare held fuel t cs = some x → CellsOk cs ss
  | 0, _, _, _, _, _, h, _ => by simp [flatT] at h
  | d + 1, t, ss, fuel, cs, x, h, hx => by
    unfold flatT at h
    split at h
    · rename_i hu
      obtain ⟨b, rfl, _⟩ := DataW.trod_bool hu hx
      obtain rfl : [Sca.boo] = ss := by simpa using h
      intro i s e
      cases i with
      | zero => simp at e; subst e; exact ⟨_, rfl, b, rfl⟩
      | succ i => simp at e
    · rename_i k hu
      obtain ⟨n, rfl, _, hw⟩ := DataW.trod_int hu hx
      obtain rfl : [Sca.num k] = ss := by simpa using h
      intro i s e
      cases i with
      | zero => simp at e; subst e; exact ⟨_, rfl, n, rfl, hw⟩
      | succ i => simp at e
    · rename_i fs hu
      cases h1 : flatF P (flatT P d) fs.toList 0 with
      | none => rw [h1] at h; cases h
      | some s1 =>
        rw [h1] at h
        simp only [Option.bind_some] at h
        split at h
        · obtain rfl : s1 = ss := by simpa using h
          obtain ⟨xs, n, _, _, _, hl, hall⟩ := DataW.trod_struct hu hx
          have := open_fields (n := n) (fun {t ss cs x} h1 h2 => open_cells d h1 h2) cs fs.toList 0 s1 h1 fun f hf => by
            obtain ⟨i, hi, he⟩ := List.getElem_of_mem hf
            have hi' : i < fs.size := by simpa using hi
            have := hall i f (by simp [hi']; simpa using he)
            rw [this]
            exact ⟨xs[i]'(by omega), by simp [hl, hi']⟩
          simpa using this
        · cases h
    · cases h

/-- A slice that came in: each cell of each element. -/
theorem open_deep_row {t e : TypeId} {ss : List Sca} {d : Nat} {A : Option Addr} {len cap : Nat} {dt : DataW H} {p : List MemPlace} (ht : P.underlying t = some (.slice e)) (hss : flatT P d e = some ss) (ce : P.cellsOf e = ss.length) (h0 : 0 < ss.length)
    (h : DataW.Trod enc P w 0 (fun _ => true) true t (.slice A len cap) dt p) (hlt : ∀ x ∈ p, x.block < w.heap.size) :
    len ≤ maxLen ∧ (len = 0 ∨ ∃ b off, A = some ⟨b, off, none⟩ ∧ b < w.heap.size ∧ ∀ i, i < len → ∀ (j : Nat) (s : Sca), ss[j]? = some s → ∃ v, w.cell? ⟨b, off + i * ss.length + j, none⟩ = some v ∧ s.ok v) := by
  obtain ⟨fuel, hf⟩ := h
  rcases open_slice ht hf with ⟨hcs, hx⟩ | ⟨a, len', cap', m, n, D, Pl, hcs, _, hl, hm, hmm, hx, hall⟩
  · simp [Value.cells] at hcs
    obtain ⟨rfl, rfl, rfl⟩ := hcs
    exact ⟨Nat.zero_le _, .inl rfl⟩
  · simp [Value.cells] at hcs
    obtain ⟨rfl, rfl, rfl⟩ := hcs
    simp only [Prod.mk.injEq] at hx
    obtain ⟨rfl, rfl⟩ := hx
    simp only [if_true] at hmm
    subst hmm
    refine ⟨by omega, ?_⟩
    by_cases hz : len = 0
    · exact .inl hz
    · right
      have each : ∀ i, i < m → ∀ (j : Nat) (s : Sca), ss[j]? = some s → ∃ v, w.cell? (a.add (i * ss.length + j)) = some v ∧ s.ok v := fun i hi j s hs => by
        obtain ⟨cs', h1, h2⟩ := hall i hi
        obtain ⟨_, hlen, hcell⟩ := World.cells?_some h1
        obtain ⟨v, hv, hok⟩ := open_cells d hss h2 j s hs
        have hj : j < ss.length := (List.getElem?_eq_some_iff.1 hs).1
        have := hcell j (by omega)
        rw [add_add, ce, hv] at this
        exact ⟨v, this, hok⟩
      obtain ⟨b, off, spot⟩ := a
      have hspot : spot = none := by
        obtain ⟨v, hv, _⟩ := each 0 (by omega) 0 (ss[0]) (by simp [h0])
        simpa [Addr.add] using World.cell?_spot hv
      subst hspot
      refine ⟨b, off, rfl, hlt (.cell b off) (List.mem_append_left _ (MemPlace.mem_row.2 ⟨0, by rw [ce]; exact Nat.mul_pos (by omega) h0, by simp⟩)), fun i hi j s hs => ?_⟩
      obtain ⟨v, hv, hok⟩ := each i (by omega) j s hs
      rw [add_plain] at hv
      exact ⟨v, by rw [Nat.add_assoc]; exact hv, hok⟩
/-- A struct by value, structs in it too. -/
theorem open_deep {r : Reach} {b0 : Nat} {t : TypeId} {fs : Array Field} {ss : List Sca} {d : Nat} {v : Value} {dt : DataW H} {p : List MemPlace} (hs : P.underlying t = some (.struct fs)) (hss : flatT P d t = some ss) (hC : P.cellsOf t = ss.length)
    (hv : Value.okWide P w r b0 t v) (h : DataW.Trod enc P w base spare held t v dt p) :
    ∃ cs : Array Value, v = .agg cs ∧ cs.size = ss.length ∧ ∀ (i : Nat) (s : Sca), ss[i]? = some s → ∃ x, cs[i]? = some x ∧ s.ok x := by
  obtain ⟨cs, rfl, hsz⟩ := okWide_struct hs hv
  obtain ⟨fuel, hf⟩ := h
  refine ⟨cs, rfl, hsz.trans hC, fun i s e => ?_⟩
  obtain ⟨x, hx, hk⟩ := open_cells d hss hf i s e
  exact ⟨x, by simpa [Value.cells] using hx, hk⟩
end
end Go.Proofs.Ytjiohencpopbeaa

/- Numbers and answers: general. -/
namespace Go.Proofs.Ytjiohencpopbeaa
open Go.RowKit
set_option maxRecDepth 100000

theorem ret_bool {x y : Bool} (h : x = y) : Ending.returned (.bool x) = .returned (.bool y) := congrArg (fun z => Ending.returned (.bool z)) h
theorem ret_int {k : IntKind} {x y : Int} (h : x = y) : Ending.returned (.int k x) = .returned (.int k y) := congrArg (fun z => Ending.returned (.int k z)) h
theorem ret_pair {k : IntKind} {x y : Int} {a b : Bool} (h : x = y) (g : a = b) : Ending.returned (.tuple #[.int k x, .bool a]) = .returned (.tuple #[.int k y, .bool b]) := by rw [h, g]
theorem w64 (n : Int) (h : -9223372036854775808 ≤ n ∧ n ≤ 9223372036854775807) : wrap64 n = n := by unfold wrap64; omega
/-- What the program counts is what is asked: nothing goes round. -/
theorem mul_in {a b A B : Int} (ha : 0 ≤ a ∧ a ≤ A) (hb : 0 ≤ b ∧ b ≤ B) : 0 ≤ a * b ∧ a * b ≤ A * B :=
  ⟨Int.mul_nonneg ha.1 hb.1, Int.mul_le_mul ha.2 hb.2 hb.1 (by omega)⟩
theorem wrap_mul {a b A B : Int} (ha : 0 ≤ a ∧ a ≤ A) (hb : 0 ≤ b ∧ b ≤ B) (hAB : A * B ≤ 9223372036854775807) : wrap64 (a * b) = a * b := by
  have := mul_in ha hb
  exact w64 _ (by omega)
theorem wrap_i (n : Int) : IntKind.i64.wrap n = wrap64 n := by rw [IntKind.wrap_i64]; unfold wrap64; omega
/-- int(uint(a) % m). -/
theorem cut_u (a m : Int) (h0 : 0 < m) (h1 : m ≤ 1099511627776) : ∃ r : Int, wrap64 ((IntKind.u64.wrap a).tmod m) = r ∧ 0 ≤ r ∧ r < m := by
  refine ⟨_, rfl, ?_⟩
  have e : 0 ≤ IntKind.u64.wrap a := by rw [IntKind.wrap_u64]; omega
  rw [Int.tmod_eq_emod_of_nonneg e]
  have := Int.emod_nonneg (IntKind.u64.wrap a) (show m ≠ 0 by omega)
  have := Int.emod_lt_of_pos (IntKind.u64.wrap a) h0
  unfold wrap64
  omega
/-- 1 + int(uint(a) % m). -/
theorem cut_u1 (a m : Int) (h0 : 0 < m) (h1 : m ≤ 1099511627776) : ∃ r : Int, wrap64 (1 + wrap64 ((IntKind.u64.wrap a).tmod m)) = r ∧ 1 ≤ r ∧ r ≤ m := by
  obtain ⟨r, hr, r0, r1⟩ := cut_u a m h0 h1
  exact ⟨1 + r, by rw [hr]; exact w64 _ (by omega), by omega, by omega⟩
def In64 (n : Int) : Prop := -9223372036854775808 ≤ n ∧ n ≤ 9223372036854775807
def InU (n : Int) : Prop := 0 ≤ n ∧ n ≤ 18446744073709551615
theorem wf_i {n : Int} : (Lit.int .i64 n).wf = true ↔ In64 n := by simp [Lit.wf, IntKind.min, IntKind.max, IntKind.signed, IntKind.bits, In64]
theorem wf_u {n : Int} : (Lit.int .u64 n).wf = true ↔ InU n := by simp [Lit.wf, IntKind.min, IntKind.max, IntKind.signed, IntKind.bits, InU]
end Go.Proofs.Ytjiohencpopbeaa

/- Rows that came in: of whatever structs of numbers and bools; each element's cells. General. -/
namespace Go.Proofs.Ytjiohencpopbeaa
open Go.RowKit Go.Maps Go.Deep
set_option maxRecDepth 100000

/-- From o on the block b holds vs. -/
def CellsAt (w : World) (b o : Nat) (vs : List Value) : Prop := ∀ (j : Nat) (v : Value), vs[j]? = some v → w.cell? ⟨b, o + j, none⟩ = some v
theorem CellsAt.below {w w' : World} {b o : Nat} {vs : List Value} (h : CellsAt w b o vs) (hb : Below w.heap.size w w') (hl : b < w.heap.size) : CellsAt w' b o vs := fun j v e => by
  rw [hb.cell (p := ⟨b, o + j, none⟩) hl]; exact h j v e
/-- A row of things of m cells. -/
def RowX {α : Type} [Inhabited α] (enc : α → List Value) (m : Nat) (w : World) (A : Option Addr) (xs : List α) : Prop :=
  xs = [] ∨ ∃ b off, A = some ⟨b, off, none⟩ ∧ b < w.heap.size ∧ ∀ i, i < xs.length → CellsAt w b (off + i * m) (enc (xs.getD i default))
theorem RowX.below {α : Type} [Inhabited α] {enc : α → List Value} {m : Nat} {w w' : World} {A : Option Addr} {xs : List α} (h : RowX enc m w A xs) (hb : Below w.heap.size w w') : RowX enc m w' A xs := by
  rcases h with h | ⟨b, off, rfl, hl, hc⟩
  · exact .inl h
  · exact .inr ⟨b, off, rfl, Nat.lt_of_lt_of_le hl hb.size, fun i hi => (hc i hi).below hb hl⟩
theorem open_rowX {α : Type} [Inhabited α] {enc : α → List Value} {Ok : α → Prop} {P : Program} {H : Type} {en : TypeId × Value → H} {W : World} {t e : TypeId} {ss : List Sca} {dd : Nat} {A : Option Addr} {len cap : Nat} {d : DataW H} {p : List MemPlace}
    (ht : P.underlying t = some (.slice e)) (hss : flatT P dd e = some ss) (ce : P.cellsOf e = ss.length) (h0 : 0 < ss.length)
    (hdec : ∀ (w : World) (b o : Nat), (∀ (j : Nat) (s : Sca), ss[j]? = some s → ∃ v, w.cell? ⟨b, o + j, none⟩ = some v ∧ s.ok v) → ∃ r : α, CellsAt w b o (enc r) ∧ Ok r)
    (h : DataW.Trod en P W 0 (fun _ => true) true t (.slice A len cap) d p) (hlt : ∀ x ∈ p, x.block < W.heap.size) :
    ∃ xs : List α, xs.length = len ∧ len ≤ maxLen ∧ (∀ r ∈ xs, Ok r) ∧ RowX enc ss.length W A xs := by
  obtain ⟨hm, hz | ⟨b, off, rfl, hb, hall⟩⟩ := open_deep_row ht hss ce h0 h hlt
  · exact ⟨[], hz.symm, hm, by simp, .inl rfl⟩
  · have each : ∀ i, i < len → ∃ r : α, CellsAt W b (off + i * ss.length) (enc r) ∧ Ok r := fun i hi => hdec W b _ (hall i hi)
    obtain ⟨f, hf⟩ := choose_lt each
    refine ⟨(List.range len).map f, by simp, hm, fun r hr => ?_, ?_⟩
    · obtain ⟨i, hi, rfl⟩ := List.mem_map.1 hr
      exact (hf i (by simpa using hi)).2
    · refine .inr ⟨b, off, rfl, hb, fun i hi => ?_⟩
      have hi' : i < len := by simpa using hi
      have e : ((List.range len).map f).getD i default = f i := by simp [hi']
      rw [e]
      exact (hf i hi').1
end Go.Proofs.Ytjiohencpopbeaa

/- Structs of three ints: what their cells hold; rows of them that a call reads, its own, blocks of them, new ones. General. -/
namespace Go.Proofs.Ytjiohencpopbeaa
open Go.RowKit Go.Maps Go.Deep
set_option maxRecDepth 100000

abbrev Trip := Int × Int × Int
def enc3 (x : Trip) : List Value := [.int .i64 x.1, .int .i64 x.2.1, .int .i64 x.2.2]
def tv (x : Trip) : Value := .agg #[.int .i64 x.1, .int .i64 x.2.1, .int .i64 x.2.2]
def t0 : Trip := (0, 0, 0)
theorem t0_default : (default : Trip) = t0 := rfl
def flat3 (l : List Trip) : List Value := l.flatMap enc3
theorem flat3_length (l : List Trip) : (flat3 l).length = l.length * 3 := by
  induction l with
  | nil => rfl
  | cons x l ih => simp [flat3, enc3] at *; omega
theorem flat3_append (l m : List Trip) : flat3 (l ++ m) = flat3 l ++ flat3 m := by simp [flat3]
theorem flat3_get (l : List Trip) : ∀ (j c : Nat), j < l.length → c < 3 → (flat3 l)[j * 3 + c]? = (enc3 (l.getD j t0))[c]? := by
  induction l with
  | nil => intro j c h; simp at h
  | cons x l ih =>
    intro j c hj hc
    have e : flat3 (x :: l) = enc3 x ++ flat3 l := by simp [flat3]
    cases j with
    | zero => rw [e, List.getElem?_append_left (by simp [enc3]; omega)]; simp
    | succ j =>
      rw [e, List.getElem?_append_right (by simp [enc3]; omega)]
      have := ih j c (by simpa using hj) hc
      have e2 : (j + 1) * 3 + c - (enc3 x).length = j * 3 + c := by simp [enc3]; omega
      rw [e2, this]
      simp
theorem flat3_set (x : Trip) : ∀ (l : List Trip) (k : Nat), k < l.length → flat3 (l.set k x) = (((flat3 l).set (k * 3) (.int .i64 x.1)).set (k * 3 + 1) (.int .i64 x.2.1)).set (k * 3 + 2) (.int .i64 x.2.2)
  | [], k, h => by simp at h
  | y :: l, k, h => by
    have e : ∀ (z : Trip) (m : List Trip), flat3 (z :: m) = .int .i64 z.1 :: .int .i64 z.2.1 :: .int .i64 z.2.2 :: flat3 m := fun z m => by simp [flat3, enc3]
    cases k with
    | zero => simp [e]
    | succ k =>
      have ih := flat3_set x l k (by simpa using h)
      rw [List.set_cons_succ, e, e, ih]
      rw [show (k + 1) * 3 = k * 3 + 3 by omega]
      simp
theorem flat3_zero (n : Nat) : flat3 (List.replicate n t0) = List.replicate (n * 3) (.int .i64 0) := by
  induction n with
  | zero => rfl
  | succ n ih =>
    have e : flat3 (List.replicate (n + 1) t0) = enc3 t0 ++ flat3 (List.replicate n t0) := by simp [flat3, List.replicate_succ]
    rw [e, ih, show (n + 1) * 3 = n * 3 + 3 by omega]
    simp [enc3, t0, List.replicate_succ]

/-! ### rows that are read -/
theorem at3 {w : World} {b o : Nat} {x y z : Int} (h : CellsAt w b o (enc3 (x, y, z))) : w.cell? ⟨b, o, none⟩ = some (.int .i64 x) ∧ w.cell? ⟨b, o + 1, none⟩ = some (.int .i64 y) ∧ w.cell? ⟨b, o + 2, none⟩ = some (.int .i64 z) :=
  ⟨h 0 _ rfl, h 1 _ rfl, h 2 _ rfl⟩
/-- A row of such, wherever it lies. -/
abbrev Row3 (w : World) (A : Option Addr) (xs : List Trip) : Prop := RowX enc3 3 w A xs
/-- Its block. -/
def In3 (A : Option Addr) (k : Nat) : Prop := ∃ off, A = some ⟨k, off, none⟩
theorem CellsAt.kept {w w' : World} {b o : Nat} {vs : List Value} (h : CellsAt w b o vs) (hb : w'.heap[b]? = w.heap[b]?) : CellsAt w' b o vs := fun j v e => by
  rw [World.cell?_of_block (w := w) hb]; exact h j v e
theorem Row3.kept {w w' : World} {A : Option Addr} {xs : List Trip} (h : Row3 w A xs) (hk : ∀ k, In3 A k → w'.heap[k]? = w.heap[k]?) (hs : w.heap.size ≤ w'.heap.size) : Row3 w' A xs := by
  rcases h with h | ⟨b, off, rfl, hl, hc⟩
  · exact .inl h
  · exact .inr ⟨b, off, rfl, Nat.lt_of_lt_of_le hl hs, fun i hi => (hc i hi).kept (hk b ⟨off, rfl⟩)⟩
theorem Blk.row3 {w : World} {g : Nat} {l : List Trip} (h : Blk 0 w g (flat3 l)) : Row3 w (some ⟨g, 0, none⟩) l := by
  refine .inr ⟨g, 0, rfl, h.1, fun i hi j v e => ?_⟩
  have hj : j < 3 := by have := (List.getElem?_eq_some_iff.1 e).1; simpa [enc3] using this
  rw [Nat.zero_add, h.rule, flat3_get l i j hi hj, ← t0_default]
  exact e
theorem owns_row3 {w : World} {b : Nat} {e : TypeId} {A : Option Addr} {cap : Nat} {l : List Trip} (h : w.ownsRow b e 3 (.slice A l.length cap) l.length (flat3 l)) : Row3 w A l := by
  rcases h.2 with ⟨_, h0⟩ | ⟨g, cap', cur, hv, _, hg, hn, hc, hcs, htk⟩
  · exact .inl (List.eq_nil_of_length_eq_zero h0)
  · simp only [Value.slice.injEq] at hv
    obtain ⟨rfl, -, rfl⟩ := hv
    refine .inr ⟨g, 0, rfl, (Array.getElem?_eq_some_iff.1 hg).1, fun i hi j v e => ?_⟩
    have hj : j < 3 := by have := (List.getElem?_eq_some_iff.1 e).1; simpa [enc3] using this
    have h1 := flat3_get l i j hi hj
    rw [← t0_default, e, ← htk, List.getElem?_take_of_lt (by omega)] at h1
    rw [Nat.zero_add]
    simp only [World.cell?, hg]
    simpa using h1
theorem Row3.nil {w : World} : Row3 w none [] := .inl rfl
theorem Row3.news {w : World} {ad : Addr} {xs : List Trip} (h : Row3 w (some ad) xs) : ∀ j u, (flat3 xs)[j]? = some u → w.cell? (ad.add j) = some u := by
  intro j u hu
  rcases h with rfl | ⟨b, off, he, hl, hc⟩
  · simp [flat3] at hu
  · cases he
    have hj : j < xs.length * 3 := by rw [← flat3_length]; exact (List.getElem?_eq_some_iff.1 hu).1
    have e : (⟨b, off, none⟩ : Addr).add j = ⟨b, off + j, none⟩ := by unfold Addr.add; split <;> simp_all
    have e2 : j / 3 * 3 + j % 3 = j := by omega
    have h1 := hc (j / 3) (by omega) (j % 3) u (by rw [t0_default, ← flat3_get xs (j / 3) (j % 3) (by omega) (Nat.mod_lt _ (by omega)), e2, hu])
    rw [e]
    rwa [Nat.add_assoc, e2] at h1
theorem flat3_one (l : List Trip) : ∀ u ∈ flat3 l, u.oneCell' = true := fun x hx => by
  obtain ⟨o, _, ho⟩ := List.mem_flatMap.1 hx
  simp [enc3] at ho
  rcases ho with rfl | rfl | rfl <;> rfl

/-! ### a block of them: one written; a new one -/
theorem Blk.set3 {m n k : Nat} {l : List Trip} {w : World} (h : Blk m w n (flat3 l)) (hk : k < l.length) (x : Trip) :
    Blk m (((w.setCell ⟨n, k * 3, none⟩ (.int .i64 x.1)).setCell ⟨n, k * 3 + 1, none⟩ (.int .i64 x.2.1)).setCell ⟨n, k * 3 + 2, none⟩ (.int .i64 x.2.2)) n (flat3 (l.set k x)) := by
  rw [flat3_set x l k hk]
  have hl := flat3_length l
  exact ((h.set (by omega) _).set (by simp; omega) _).set (by simp; omega) _
theorem made3 (n : Nat) : madeCells (tv t0).cells (n * 3) = (flat3 (List.replicate n t0)).toArray := by
  rw [flat3_zero]
  apply Array.ext
  · simp [size_madeCells]
  · intro i h1 h2
    have : i % 3 = 0 ∨ i % 3 = 1 ∨ i % 3 = 2 := by omega
    simp only [madeCells, Array.getElem_map, Array.getElem_range, tv, t0, Value.cells, List.getElem_toArray, List.getElem_replicate]
    rcases this with h | h | h <;> simp [h]
theorem run_make3 {P : Program} (t e : TypeId) (ht : P.underlying t = some (.slice e)) (hinfo : (P.info? e).map (fun i => (i.zero, i.size, i.bytes)) = some (some (tv t0), 3, 24))
    (kl kc : IntKind) (n : Nat) (hn : n ≤ 1099511627776) (w : World) :
    (Instr.makeSlice t (.int kl (n : Int)) (.int kc (n : Int))).run P w = .ok (.slice (some ⟨w.heap.size, 0, none⟩) n n) (w.alloc (.cells (flat3 (List.replicate n t0)).toArray e)) := by
  obtain ⟨i, hi, hzz⟩ := Option.map_eq_some_iff.1 hinfo
  simp only [Prod.mk.injEq] at hzz
  obtain ⟨hz, hs, hb⟩ := hzz
  have hr := run_make (P := P) w t e i (tv t0) ht hi hz kl kc n n (by omega) (Int.le_refl _) (by rw [hb]; omega) (by omega)
  simp only [Int.toNat_natCast, hs, made3] at hr
  exact hr
theorem wpList_make3 {P : Program} (w : World) {ops : Array Oper} {rest : List Oper} {o : Oper} {a : Act} {Q : Exit → Act → World → Prop}
    (hg : o.guard = none) (l c : Operand) (t : TypeId) (hop : o.op = Op.makeSlice t l c)
    (e : TypeId) (ht : P.underlying t = some (.slice e)) (hinfo : (P.info? e).map (fun i => (i.zero, i.size, i.bytes)) = some (some (tv t0), 3, 24))
    (kl kc : IntKind) (N M : Int) (n : Nat) (hl : a.eval l = .int kl N) (hc : a.eval c = .int kc M) (hN : N = (n : Int)) (hM : M = (n : Int)) (hn : n ≤ 1099511627776)
    (hK : wpList P ops Q rest (a.put o.dst (.slice (some ⟨w.heap.size, 0, none⟩) n n)) (w.alloc (.cells (flat3 (List.replicate n t0)).toArray e))) :
    wpList P ops Q (o :: rest) a w := by
  refine wpList_plain hg fun K hK' => ?_
  subst hN
  subst hM
  have hrun := run_make3 (P := P) t e ht hinfo kl kc n hn w
  unfold Oper.wp
  simp [execOp, hop, hl, hc, hrun, Result.andThen]
  exact hK' _ _ hK

/-! ### among others -/
section
variable {w0 w w' : World} {L : List Item}
/-- A row of its own, appended to. -/
def row3I (v : Value) (e : TypeId) (l : List Trip) : Item := rowI v e 3 l.length (flat3 l)
theorem Env.row3 (h : Env w0 L w) (i : Nat) {v : Value} {e : TypeId} {l : List Trip} (hi : L[i]? = some (row3I v e l)) : w.ownsRow 0 e 3 v l.length (flat3 l) := h.get i hi
theorem Env.cells3 (h : Env w0 L w) (i : Nat) {A : Option Addr} {n cap : Nat} {e : TypeId} {l : List Trip} (hn : n = l.length) (hi : L[i]? = some (row3I (.slice A n cap) e l)) : Row3 w A l := by subst hn; exact owns_row3 (h.row3 i hi)
theorem Env.addRow3 (h : Env w0 L w) {v : Value} {e : TypeId} {l : List Trip} (ho : w'.ownsRow w.heap.size e 3 v l.length (flat3 l)) (hb : Below w.heap.size w w') : Env w0 (row3I v e l :: L) w' :=
  h.add (row3I v e l) hb (ownsRow_base ho (Nat.zero_le _)) fun k hk => ho.lt k hk
theorem Env.addEmpty3 (h : Env w0 L w) (n : Nat) (hn : w.heap.size = n) (e : TypeId) : Env w0 (row3I (.slice (some ⟨n, 0, none⟩) 0 0) e [] :: L) (w.alloc (.cells #[] e)) := by
  subst hn
  exact h.addRow3 (v := .slice (some ⟨w.heap.size, 0, none⟩) 0 0) (l := []) ⟨rfl, .inr ⟨w.heap.size, 0, #[], rfl, Nat.le_refl _, heap_alloc_new w _, Nat.le_refl _, Nat.zero_le _, rfl, rfl⟩⟩ ((Below.refl _ _).alloc (Nat.le_refl _) _)
theorem Env.addNone3 (h : Env w0 L w) (e : TypeId) : Env w0 (row3I (.slice none 0 0) e [] :: L) w :=
  h.add (row3I (.slice none 0 0) e []) (Below.refl _ _) (World.ownsRow_nil _ _ _ _) fun k hk => by cases hk
/-- A row appended to a row of its own. -/
theorem Env.append3 {P : Program} (h : Env w0 L w) (i : Nat) {v : Value} {e : TypeId} {l xs : List Trip} (hi : L[i]? = some (row3I v e l)) (t ty : TypeId) (ht : P.underlying t = some (.slice e)) (hinfo : (P.info? e).map (fun i => (i.zero, i.size, i.bytes)) = some (some (tv t0), 3, 24))
    {A : Option Addr} (c : Nat) (hx : Row3 w A xs) (hz : l.length + xs.length ≤ 1048576) :
    ∃ A' c' w', (Builtin.append_ #[t, t] ty #[v, .slice A xs.length c]).run P w = .ok (.slice A' (l.length + xs.length) c') w' ∧ Env w0 (L.set i (row3I (.slice A' (l.length + xs.length) c') e (l ++ xs))) w' ∧ Step (fun k => v.ownBlock = some k) (fun k => (Value.slice A' (l.length + xs.length) c').ownBlock = some k) w w' := by
  obtain ⟨i0, hi0, hzz⟩ := Option.map_eq_some_iff.1 hinfo
  simp only [Prod.mk.injEq] at hzz
  obtain ⟨hz0, hs, hb⟩ := hzz
  have hown := h.row3 i hi
  obtain ⟨v', w', hrun, ho, hg, hv⟩ := run_append_rows (P := P) t ty 0 e i0 (tv t0) 3 24 ht hi0 hz0 hs hb rfl (by decide) w v l.length (flat3 l) hown A xs.length c (flat3 xs) (flat3_length xs)
    (by
      cases A with
      | none =>
        left
        rcases hx with rfl | ⟨b, off, he, _⟩
        · exact ⟨rfl, rfl⟩
        · cases he
      | some ad => exact .inr ⟨ad, rfl, Row3.news hx⟩) (flat3_one xs) (by simp [maxLen]; omega) (by omega) (Nat.zero_le _)
  obtain ⟨A', c', rfl⟩ := ownsRow_slice ho
  have hst : Step (fun k => v.ownBlock = some k) (fun k => (Value.slice A' (l.length + xs.length) c').ownBlock = some k) w w' := ⟨(Turn.refl _ w).grown hg fun k _ e => e, fun k hk => by
    rcases hv with e | e
    · exact .inl (by rw [← e]; exact hk)
    · right
      rw [e] at hk
      cases hk
      exact Nat.le_refl _⟩
  refine ⟨A', c', w', hrun, h.step i (row3I _ e (l ++ xs)) hi hst ?_ ?_, hst⟩
  · show w'.ownsRow 0 e 3 _ (l ++ xs).length (flat3 (l ++ xs))
    rw [List.length_append, flat3_append]
    exact ho
  · exact ownsRow_lt ho
/-- .. its length told of the whole. -/
theorem Env.append3' {P : Program} (h : Env w0 L w) (i : Nat) {v : Value} {e : TypeId} {l xs : List Trip} (hi : L[i]? = some (row3I v e l)) (t ty : TypeId) (ht : P.underlying t = some (.slice e)) (hinfo : (P.info? e).map (fun i => (i.zero, i.size, i.bytes)) = some (some (tv t0), 3, 24))
    {A : Option Addr} {n : Nat} (c : Nat) (hn : n = xs.length) (hx : Row3 w A xs) (hz : l.length + xs.length ≤ 1048576) :
    ∃ A' c' w', (Builtin.append_ #[t, t] ty #[v, .slice A n c]).run P w = .ok (.slice A' (l ++ xs).length c') w' ∧ Env w0 (L.set i (row3I (.slice A' (l ++ xs).length c') e (l ++ xs))) w' := by
  subst hn
  obtain ⟨A', c', w', h1, h2, -⟩ := h.append3 i hi t ty ht hinfo c hx hz
  rw [← List.length_append] at h1 h2
  exact ⟨A', c', w', h1, h2⟩
/-- What stands first takes another one's place. -/
theorem Env.into (j : Nat) {a : Item} (h : Env w0 (a :: L) w) : Env w0 (L.set j a) w := by
  rcases Nat.lt_or_ge j L.length with hj | hj
  · have hp : (L.set j a).Perm (a :: L.eraseIdx j) := by
      rw [List.set_eq_take_append_cons_drop, if_pos hj, List.eraseIdx_eq_take_drop_succ]
      exact List.perm_middle
    have h1 : Env w0 (a :: L.eraseIdx j) w := h.sub (.cons_cons _ (List.eraseIdx_sublist L j))
    exact ⟨h1.1, (hp.symm.pairwise_iff (fun h => Off.symm h)).1 h1.2.1, fun b hb => h1.2.2 b (hp.mem_iff.1 hb)⟩
  · rw [List.set_eq_of_length_le hj]
    exact h.sub (.cons _ (List.Sublist.refl _))
/-- A row that this call neither made nor turns. -/
theorem Env.seen3 (h : Env w0 L w) {A : Option Addr} {xs : List Trip} (hr : Row3 w0 A xs) : Row3 w A xs := RowX.below hr h.below
end
end Go.Proofs.Ytjiohencpopbeaa

/- Drawn regions with a float, more: a read that must come ahead of a turn; a float that is a new row of one element ('append(append([]T{}, r...), x)'). General. -/
namespace Go.Proofs.Ytjiohencpopbeaa.OrdF
open Go Go.RowKit Go.Proofs.Ytjiohencpopbeaa.Ord Go.Proofs.Ytjiohencpopbeaa.Ord3
set_option maxRecDepth 100000

section
variable {P : Program} {ops : Array Oper} {Q : Exit → Act → World → Prop} {md : Region.Mode} {C : World → Prop} {A : List Value → Option Value → World → Prop} {ps : List Nat} {q : Nat} {vs : List (Value → Prop)}
/-- A read which the m-th of the chain hangs on. -/
theorem in_early (m : Nat) {p k : Nat} {o : Oper} {rest : List Oper} {a : Act} {v : Value} {κs : List Value} {fo : Option Value} (hf : textFits md ops = true) (hk : k ∉ ps) (hkq : k ≠ q) (hp : ps[m]? = some p) (hh : hangs md ops p k = true) (hkn : k < ops.size)
    (hvs : vs[k]? = some fun u => u = v) (hw : Region.wanted o (yielded ops a.tmps) = true) (hv : ∀ w κs fo, κs.length ≤ m → C w → A κs fo w → (execOp a.eval o).run P w = .ok (.value v) w)
    (h : In P md ops Q vs ps q C A (k + 1) rest κs fo (a.put o.dst v)) : In P md ops Q vs ps q C A k (o :: rest) κs fo a := fun κ hκ hfo =>
  InText.cons hf v ⟨_, hvs, rfl⟩ (Or.inl ⟨hw, fun l ρ w hr _ _ hS => by
      have hS' := hS
      obtain ⟨hc, hs, hC, j, hj, hl, hA⟩ := hS
      have hjm : j ≤ m := by
        rcases Nat.lt_or_ge m j with hlt | hge
        · exfalso
          have h1 := hl m p hp
          have h2 : l.getD p false = true := by rw [h1.2]; simpa using hlt
          have h0 : l.getD k false = false := ready_not hr
          have h4 := Closed.step hc hh h2
          rw [h0] at h4
          cases h4
        · exact hge
      rw [hv w _ _ (by simp; omega) hC hA]
      exact ⟨⟨_, hvs, rfl⟩, chain_set hk hkq hr hS' hC fun _ _ h => h⟩⟩)
    fun u ⟨p, hp, hu⟩ => by
      rw [hvs] at hp
      cases hp
      rw [hu]
      exact h _ (by rw [map_up (fun e => hk (List.mem_of_mem_take e))]; exact hκ) (fo_next hkq hfo)
end

/-- Things, and what has floated among them: a new row of one element, its cells z0. -/
def AFS (w0 : World) (z0 : List Value) (Ps : List (List Value → List Item → Prop)) (κs : List Value) (fo : Option Value) (w : World) : Prop :=
  ∃ L P, Ps[κs.length]? = some P ∧ P κs L ∧ ((fo = none ∧ Env w0 L w) ∨ ∃ n, fo = some (.slice (some ⟨n, 0, none⟩) 1 1) ∧ Env w0 (boxI n z0 :: L) w)
/-- The float's kind. -/
def Slc (v : Value) : Prop := ∃ n, v = .slice (some ⟨n, 0, none⟩) 1 1
theorem AFS.up {w0 w : World} {z0 : List Value} {Ps : List (List Value → List Item → Prop)} {κs : List Value} (h : AFS w0 z0 Ps κs none w) (t : TypeId) : AFS w0 z0 Ps κs (some (.slice (some ⟨w.heap.size, 0, none⟩) 1 1)) (w.alloc (.cells z0.toArray t)) := by
  obtain ⟨L, P, h1, h2, ⟨_, hE⟩ | ⟨n, hn, _⟩⟩ := h
  · exact ⟨L, P, h1, h2, .inr ⟨_, rfl, hE.box _ rfl _ _⟩⟩
  · cases hn
end Go.Proofs.Ytjiohencpopbeaa.OrdF

/- Queues, in mathematics: a ring's places, the room for so many. -/
namespace Go.Proofs.Ytjiohencpopbeaa

/-- A ring of N places, in which l stands from the g-th count on. -/
def Ring (r : List Trip) (N g : Nat) (l : List Trip) : Prop := r.length = N ∧ l.length ≤ N ∧ ∀ i, i < l.length → r.getD ((g + i) % N) t0 = l.getD i t0
theorem mod_apart {N a i j : Nat} (h : i < j) (hj : j < N) : (a + i) % N ≠ (a + j) % N := fun e => by
  have h1 : ((a + i) + (j - i)) % N = (a + i) % N := by rw [show a + i + (j - i) = a + j by omega, e]
  have h2 : ((a + i) % N + (j - i)) % N = (a + i) % N := by rw [Nat.mod_add_mod]; exact h1
  have h3 := Nat.mod_lt (a + i) (show 0 < N by omega)
  by_cases h4 : (a + i) % N + (j - i) < N
  · rw [Nat.mod_eq_of_lt h4] at h2; omega
  · rw [Nat.mod_eq_sub_mod (by omega), Nat.mod_eq_of_lt (by omega)] at h2; omega
theorem Ring.start (N g : Nat) : Ring (List.replicate N t0) N g [] := ⟨by simp, by simp, fun i h => by simp at h⟩
theorem Ring.push {r l : List Trip} {N g : Nat} (h : Ring r N g l) (hl : l.length < N) (x : Trip) : Ring (r.set ((g + l.length) % N) x) N g (l ++ [x]) := by
  obtain ⟨h1, h2, h3⟩ := h
  have hp : (g + l.length) % N < N := Nat.mod_lt _ (by omega)
  refine ⟨by simpa using h1, by simp; omega, fun i hi => ?_⟩
  simp at hi
  have hpi : (g + i) % N < N := Nat.mod_lt _ (by omega)
  by_cases e : i = l.length
  · subst e
    simp [h1, hp]
  · have hne : (g + l.length) % N ≠ (g + i) % N := fun e' => mod_apart (N := N) (a := g) (show i < l.length by omega) hl e'.symm
    have := h3 i (by omega)
    simp only [List.getD_eq_getElem?_getD, List.getElem?_set, if_neg hne] at this ⊢
    rw [this, List.getElem?_append_left (by omega)]
theorem Ring.pop {r l : List Trip} {N g : Nat} {x : Trip} (h : Ring r N g (x :: l)) : r.getD (g % N) t0 = x ∧ Ring r N (g + 1) l := by
  obtain ⟨h1, h2, h3⟩ := h
  refine ⟨by simpa using h3 0 (by simp), h1, by simp at h2; omega, fun i hi => ?_⟩
  have := h3 (i + 1) (by simp; omega)
  rw [show g + 1 + i = g + (i + 1) by omega, this]
  simp
theorem Ring.at {r l : List Trip} {N g : Nat} (h : Ring r N g l) (i : Nat) (hi : i < l.length) : r.getD ((g + i) % N) t0 = l.getD i t0 := h.2.2 i hi

/-- From 2 ^ k on, the room for n. -/
def Rm (k n k' : Nat) : Prop := k ≤ k' ∧ n ≤ 2 ^ k' ∧ (k' = k ∨ 2 ^ k' < 2 * n)
theorem pow_up {a b : Nat} (h : a < b) : 2 * 2 ^ a ≤ 2 ^ b := by
  have := Nat.pow_le_pow_right (n := 2) (by omega) (show a + 1 ≤ b by omega)
  rw [Nat.pow_succ] at this; omega
theorem Rm.unique {k n a b : Nat} (h : Rm k n a) (h' : Rm k n b) : a = b := by
  obtain ⟨h1, h2, h3⟩ := h
  obtain ⟨g1, g2, g3⟩ := h'
  rcases Nat.lt_trichotomy a b with h | h | h
  · have := pow_up h; omega
  · exact h
  · have := pow_up h; omega
theorem Rm.trans {k n m a b : Nat} (h : Rm k n a) (h' : Rm a m b) (hn : n ≤ m) : Rm k m b := by
  obtain ⟨h1, h2, h3⟩ := h
  obtain ⟨g1, g2, g3⟩ := h'
  refine ⟨by omega, g2, ?_⟩
  rcases g3 with rfl | g3
  · rcases h3 with rfl | h3
    · exact .inl rfl
    · right; omega
  · exact .inr g3
theorem Rm.same {k n : Nat} (h : n ≤ 2 ^ k) : Rm k n k := ⟨Nat.le_refl _, h, .inl rfl⟩
theorem Rm.le {k n k' : Nat} (h : Rm k n k') (hk : k ≤ 20) (hn : n ≤ 1048576) : k' ≤ 20 := by
  obtain ⟨h1, h2, h3⟩ := h
  rcases h3 with rfl | h3
  · exact hk
  · apply Classical.byContradiction
    intro hc
    have := Nat.pow_le_pow_right (n := 2) (by omega) (show 21 ≤ k' by omega)
    simp at this
    omega
theorem pow_small {k : Nat} (h : k ≤ 20) : 2 ^ k ≤ 1048576 := Nat.pow_le_pow_right (n := 2) (by omega) h
theorem pow_four {k : Nat} (h : 2 ≤ k) : 4 ≤ 2 ^ k := Nat.pow_le_pow_right (n := 2) (by omega) h
theorem pow_inj {a b : Nat} (h : 2 ^ a = 2 ^ b) : a = b := by
  rcases Nat.lt_trichotomy a b with h' | h' | h'
  · have := pow_up h'; have := Nat.one_le_two_pow (n := a); omega
  · exact h'
  · have := pow_up h'; have := Nat.one_le_two_pow (n := b); omega
/-- Counts go round at 2 ^ 64: their places stay. -/
theorem mod_round {k : Nat} (hk : k ≤ 64) (a : Nat) : a % 18446744073709551616 % 2 ^ k = a % 2 ^ k :=
  Nat.mod_mod_of_dvd a (by have := Nat.pow_dvd_pow 2 hk; simpa using this)
theorem and_mask {k : Nat} (hk : k ≤ 20) (c : Nat) (hc : c < 18446744073709551616) : bits .and .u64 (c : Int) (((2 ^ k : Nat) : Int) - 1) = ((c % 2 ^ k : Nat) : Int) := by
  have h1 := Nat.one_le_two_pow (n := k)
  have h2 := pow_small hk
  rw [show ((2 ^ k : Nat) : Int) - 1 = ((2 ^ k - 1 : Nat) : Int) by omega, u64_and_nat _ _ hc (by omega), Nat.and_two_pow_sub_one_eq_mod]

/-- The place of the first entry of that slot; -1: there is none. -/
def findI : List Trip → Int → Int
  | [], _ => -1
  | x :: l, s => if x.1 = s then 0 else if findI l s < 0 then -1 else findI l s + 1
theorem findI_skip {l : List Trip} {s : Int} {k : Nat} (hk : k < l.length) (h : (l.getD k t0).1 ≠ s) (hf : findI l s = if findI (l.drop k) s < 0 then -1 else findI (l.drop k) s + k) : findI l s = if findI (l.drop (k + 1)) s < 0 then -1 else findI (l.drop (k + 1)) s + (k + 1 : Nat) := by
  rw [hf, List.drop_eq_getElem_cons hk]
  have e : l[k].1 ≠ s := by simpa [hk] using h
  simp only [findI, if_neg e]
  split <;> split <;> simp_all <;> omega
theorem findI_hit {l : List Trip} {s : Int} {k : Nat} (hk : k < l.length) (h : (l.getD k t0).1 = s) (hf : findI l s = if findI (l.drop k) s < 0 then -1 else findI (l.drop k) s + k) : findI l s = k := by
  rw [hf, List.drop_eq_getElem_cons hk]
  have e : l[k].1 = s := by simpa [hk] using h
  simp [findI, e]
theorem findI_none {l : List Trip} {s : Int} (hf : findI l s = if findI (l.drop l.length) s < 0 then -1 else findI (l.drop l.length) s + l.length) : findI l s = -1 := by
  rw [hf, List.drop_length]; rfl
theorem findI_start (l : List Trip) (s : Int) : findI l s = if findI (l.drop 0) s < 0 then -1 else findI (l.drop 0) s + (0 : Nat) := by
  have : ∀ l : List Trip, -1 ≤ findI l s := fun l => by
    induction l with
    | nil => simp [findI]
    | cons x l ih => simp only [findI]; split; omega; split <;> omega
  have := this l
  simp only [List.drop_zero]
  split <;> omega
end Go.Proofs.Ytjiohencpopbeaa

/- The reference's queue: a row of entries and a number; the contract of its Push. -/
namespace Go.Proofs.Ytjiohencpopbeaa
open Go.RowKit Go.Maps
set_option maxRecDepth 100000

theorem infoRef : (Try.prog.info? 33).map (fun i => (i.zero, i.size, i.bytes)) = some (some (tv t0), 3, 24) := by kernel_rfl
/-- The reference's block; its row. -/
def rqI (u : Nat) (A : Option Addr) (n c : Nat) (N : Int) : Item := boxI u [.slice A n c, .int .i64 N]
def rrI (A : Option Addr) (c : Nat) (l : List Trip) : Item := row3I (.slice A l.length c) 33 l
def roomN (N : Int) (n : Nat) : Int := if N < n then 2 * N else N

/-- How far a push is. -/
def refSt (B u i : Nat) (N : Int) (L : List Item) (l : List Trip) (x : Trip) : List (List Value → List Item → Prop) :=
  [fun _ M => M = boxI B (enc3 x) :: L,
   fun κs M => ∃ n, κs = [.slice (some ⟨n, 0, none⟩) 0 0] ∧ M = row3I (.slice (some ⟨n, 0, none⟩) 0 0) 33 [] :: boxI B (enc3 x) :: L,
   fun κs M => ∃ A1 c1 κ0, κs = [κ0, .slice A1 l.length c1] ∧ M = row3I (.slice A1 l.length c1) 33 l :: boxI B (enc3 x) :: L,
   fun κs M => ∃ A1 c1 κ0 κ1, κs = [κ0, κ1, .slice A1 (l.length + 1) c1] ∧ M = row3I (.slice A1 (l.length + 1) c1) 33 (l ++ [x]) :: boxI B (enc3 x) :: L,
   fun κs M => ∃ A1 c1 κ0 κ1, κs = [κ0, κ1, .slice A1 (l.length + 1) c1, undef] ∧ M = row3I (.slice A1 (l.length + 1) c1) 33 (l ++ [x]) :: boxI B (enc3 x) :: L.set i (rqI u A1 (l.length + 1) c1 N)]

set_option maxHeartbeats 1600000 in
theorem refPush_any {w0 w : World} {L : List Item} {u c : Nat} {A : Option Addr} {l : List Trip} {N : Int} (x y z : Int) (i : Nat) (hE : Env w0 L w) (hu : L[i]? = some (rqI u A l.length c N)) (hr : L[i + 1]? = some (rrI A c l)) (hl : l.length ≤ 1000000) (hN : 4 ≤ N ∧ N ≤ 1099511627776) :
    Calls Try.prog 7 #[.pointer (some ⟨u, 0, none⟩), .agg #[.int .i64 x, .int .i64 y, .int .i64 z]] w fun e w' => e = .returned (.tuple #[]) ∧ ∃ A' c', Env w0 ((L.set i (rqI u A' (l.length + 1) c' (roomN N (l.length + 1)))).set (i + 1) (rrI A' c' (l ++ [(x, y, z)]))) w' := by
  have hl1 : (l ++ [(x, y, z)]).length = l.length + 1 := by simp
  have HL1 := Lib.hid hl1
  clear hl1
  have hil : i < L.length := (List.getElem?_eq_some_iff.1 hu).1
  have hE1 := hE.box w.heap.size rfl [.int .i64 x, .int .i64 y, .int .i64 z] 33
  clear hE
  have r := hE1.rule (i + 1) hu
  have hN0 : (N == 0) = false := by rw [beq_eq_false_iff_ne]; omega
  go_enter Try.func7, Try.ntmps7
  go_wp2_with fail
  generalize w.heap.size = B at *
  refine OrdF.wp_float [?_, ?_, ?_, ?_, ?_, ?_, ?_, ?_, OrdF.Slc, ?_, ?_, ?_, ?_] [1, 6, 9, 12] 8 (fun w' => Blk 0 w' B [.int .i64 x, .int .i64 y, .int .i64 z])
    (OrdF.AFS w0 (flat3 [(x, y, z)]) (refSt B u i N L l (x, y, z)))
    (by kernel_rfl) (by kernel_rfl) (by kernel_rfl) (hE1.drew.get 0 rfl) ⟨_, _, rfl, rfl, .inl ⟨rfl, hE1.drew⟩⟩ (fun hT => ?_)
  rotate_left 12
  have hT9 := Lib.hid hT
  clear hT
  repeat (first
    | (focus (refine OrdF.in_value (v := ?_) hT9.out (by decide) (by decide) ?_ (by rfl) ?_ ?_; rotate_left 2; (focus (intro w5 hS; skip; go_simp <;> with_reducible rfl)); rotate_right; (focus rfl); (try simp only [Act.put, List.setIfInBounds_toArray, List.set_cons_zero, List.set_cons_succ])))
    | (focus (refine OrdF.in_off hT9.out (by decide) (by decide) ?_ (by rfl) ?_; (focus rfl); (try simp only [Act.put, List.setIfInBounds_toArray, List.set_cons_zero, List.set_cons_succ]))))
  refine OrdF.in_turn OrdF.Slc rfl (fun v => ∃ n, v = .slice (some ⟨n, 0, none⟩) 0 0) (.slice (some ⟨0, 0, none⟩) 0 0) ⟨0, rfl⟩ hT9.out rfl (by decide) (by decide) (by rfl) ?_ (.inl rfl) (by rfl) ?_ ?_
  · rfl
  · rintro fo5 w5 _ hC5 ⟨M5, P5, hP5, hM5, hA5⟩
    cases hP5
    subst hM5
    go_simp
    simp only [Ord3.Lands]
    rcases hA5 with ⟨rfl, hE5⟩ | ⟨n5, rfl, hE5⟩
    · have hE6 := hE5.addEmpty3 w5.heap.size rfl 33
      exact ⟨⟨_, rfl⟩, hE6.get 1 rfl, _, _, rfl, ⟨_, rfl, rfl⟩, .inl ⟨rfl, hE6⟩⟩
    · have hE6 := (hE5.addEmpty3 w5.heap.size rfl 33).perm (.swap _ _ _)
      exact ⟨⟨_, rfl⟩, hE6.get 2 rfl, _, _, rfl, ⟨_, rfl, rfl⟩, .inr ⟨_, rfl, hE6⟩⟩
  rintro _ ⟨n0, rfl⟩
  (try simp only [Act.put, List.setIfInBounds_toArray, List.set_cons_zero, List.set_cons_succ])
  repeat (first
    | (focus (refine OrdF.in_value (v := ?_) hT9.out (by decide) (by decide) ?_ (by rfl) ?_ ?_; rotate_left 2; (focus (intro w5 hS; skip; go_simp <;> with_reducible rfl)); rotate_right; (focus rfl); (try simp only [Act.put, List.setIfInBounds_toArray, List.set_cons_zero, List.set_cons_succ])))
    | (focus (refine OrdF.in_off hT9.out (by decide) (by decide) ?_ (by rfl) ?_; (focus rfl); (try simp only [Act.put, List.setIfInBounds_toArray, List.set_cons_zero, List.set_cons_succ]))))
  refine OrdF.in_early (v := .slice A l.length c) 1 hT9.out (by decide) (by decide) rfl (by kernel_rfl) (by decide) ?_ (by rfl) ?_ ?_
  · rfl
  · rintro w5 κs5 fo5 hκ5 hC5 ⟨M5, P5, hP5, hM5, hA5⟩
    have hB : Blk 0 w5 u [.slice A l.length c, .int .i64 N] := by
      rcases κs5 with _ | ⟨κ, _ | ⟨κ', κs5⟩⟩
      · cases hP5
        subst hM5
        rcases hA5 with ⟨_, hE5⟩ | ⟨n5, _, hE5⟩
        · exact hE5.get (i + 1) hu
        · exact hE5.get (i + 2) hu
      · cases hP5
        obtain ⟨n, he, rfl⟩ := hM5
        rcases hA5 with ⟨_, hE5⟩ | ⟨n5, _, hE5⟩
        · exact hE5.get (i + 2) hu
        · exact hE5.get (i + 3) hu
      · simp at hκ5
    have r := hB.rule
    go_simp <;> with_reducible rfl
  (try simp only [Act.put, List.setIfInBounds_toArray, List.set_cons_zero, List.set_cons_succ])
  refine OrdF.in_turn OrdF.Slc rfl (fun v => ∃ A1 c1, v = .slice A1 l.length c1) (.slice none l.length 0) ⟨_, _, rfl⟩ hT9.out rfl (by decide) (by decide) (by rfl) ?_ (.inr ⟨_, 1, [], rfl, by kernel_rfl, by kernel_rfl, rfl⟩) (by rfl) ?_ ?_
  · rfl
  · rintro fo5 w5 _ hC5 ⟨M5, P5, hP5, hM5, hA5⟩
    cases hP5
    obtain ⟨n, he, rfl⟩ := hM5
    cases he
    rcases hA5 with ⟨rfl, hE5⟩ | ⟨n5, rfl, hE5⟩
    · obtain ⟨A6, c6, w6, hrun, hE6⟩ := hE5.append3' 0 rfl 28 28 Try.underlying28 infoRef c rfl (hE5.cells3 (i + 1 + 2) rfl hr) (by simp; omega)
      rw [run_call_append (.tmp 13) (.tmp 17) 28 rfl (by rfl) (by rfl) hrun]
      exact ⟨⟨A6, c6, rfl⟩, hE6.get 1 rfl, _, _, rfl, ⟨A6, c6, _, rfl, rfl⟩, .inl ⟨rfl, hE6⟩⟩
    · obtain ⟨A6, c6, w6, hrun, hE6⟩ := hE5.append3' 1 rfl 28 28 Try.underlying28 infoRef c rfl (hE5.cells3 (i + 1 + 3) rfl hr) (by simp; omega)
      rw [run_call_append (.tmp 13) (.tmp 17) 28 rfl (by rfl) (by rfl) hrun]
      exact ⟨⟨A6, c6, rfl⟩, hE6.get 2 rfl, _, _, rfl, ⟨A6, c6, _, rfl, rfl⟩, .inr ⟨_, rfl, hE6⟩⟩
  rintro _ ⟨A1, c1, rfl⟩
  (try simp only [Act.put, List.setIfInBounds_toArray, List.set_cons_zero, List.set_cons_succ])
  repeat (first
    | (focus (refine OrdF.in_value (v := ?_) hT9.out (by decide) (by decide) ?_ (by rfl) ?_ ?_; rotate_left 2; (focus (intro w5 hS; have r := Blk.rule hS; go_simp <;> with_reducible rfl)); rotate_right; (focus rfl); (try simp only [Act.put, List.setIfInBounds_toArray, List.set_cons_zero, List.set_cons_succ])))
    | (focus (refine OrdF.in_off hT9.out (by decide) (by decide) ?_ (by rfl) ?_; (focus rfl); (try simp only [Act.put, List.setIfInBounds_toArray, List.set_cons_zero, List.set_cons_succ]))))
  refine OrdF.in_float OrdF.Slc (.slice (some ⟨0, 0, none⟩) 1 1) ⟨0, rfl⟩ hT9.out rfl (by decide) ?_ (by rfl) ?_ ?_
  · rfl
  · intro w5 κs5 hC5 hA5
    go_simp
    simp only [Ord3.Lands]
    exact ⟨⟨_, rfl⟩, hC5.more _, hA5.up _⟩
  rintro _ ⟨n8, rfl⟩
  (try simp only [Act.put, List.setIfInBounds_toArray, List.set_cons_zero, List.set_cons_succ])
  refine OrdF.in_turn_late (by kernel_rfl) (by decide) (by decide) (fun v => ∃ A1 c1, v = .slice A1 (l.length + 1) c1) _ ⟨none, 0, rfl⟩ hT9.out rfl (by decide) (by rfl) ?_ (.inr ⟨_, 6, [], rfl, by kernel_rfl, by kernel_rfl, rfl⟩) (by rfl) ?_ ?_
  · rfl
  · rintro w5 hC5 ⟨M5, P5, hP5, hM5, ⟨hn5, _⟩ | ⟨n5, hn5, hE5⟩⟩
    · cases hn5
    cases hn5
    cases hP5
    obtain ⟨A6, c6, κ0, he, rfl⟩ := hM5
    cases he
    obtain ⟨A9, c9, w9, hrun, hE9⟩ := hE5.append3' 1 rfl 28 28 Try.underlying28 infoRef (n := 1) (xs := [(x, y, z)]) 1 rfl (Blk.row3 (hE5.get 0 rfl)) (by simp; omega)
    rw [HL1.out] at hrun hE9
    rw [run_call_append (.tmp 18) (.tmp 20) 28 rfl (by rfl) (by rfl) hrun]
    exact ⟨⟨A9, c9, rfl⟩, hE9.get 2 rfl, _, _, rfl, ⟨A9, c9, _, _, rfl, rfl⟩, .inr ⟨_, rfl, hE9⟩⟩
  rintro _ ⟨A9, c9, rfl⟩
  (try simp only [Act.put, List.setIfInBounds_toArray, List.set_cons_zero, List.set_cons_succ])
  repeat (first
    | (focus (refine OrdF.in_value (v := ?_) hT9.out (by decide) (by decide) ?_ (by rfl) ?_ ?_; rotate_left 2; (focus (intro w5 hS; skip; go_simp <;> with_reducible rfl)); rotate_right; (focus rfl); (try simp only [Act.put, List.setIfInBounds_toArray, List.set_cons_zero, List.set_cons_succ])))
    | (focus (refine OrdF.in_off hT9.out (by decide) (by decide) ?_ (by rfl) ?_; (focus rfl); (try simp only [Act.put, List.setIfInBounds_toArray, List.set_cons_zero, List.set_cons_succ]))))
  refine OrdF.in_turn OrdF.Slc rfl (fun v => v = undef) undef rfl hT9.out rfl (by decide) (by decide) (by rfl) ?_ (.inr ⟨_, 9, [], rfl, by kernel_rfl, by kernel_rfl, rfl⟩) (by rfl) ?_ ?_
  · rfl
  · rintro fo5 w5 _ hC5 ⟨M5, P5, hP5, hM5, hA5⟩
    cases hP5
    obtain ⟨A7, c7, κ0, κ1, he, rfl⟩ := hM5
    cases he
    rcases hA5 with ⟨rfl, hE5⟩ | ⟨n5, rfl, hE5⟩
    · have r := hE5.rule (i + 2) hu
      have f0 := hE5.thaw (i + 2) hu 0 (by simp)
      go_simp
      have hE6 := hE5.put (i + 2) hu (j := 0) (by simp) (.slice A9 (l.length + 1) c9)
      simp only [List.set_cons_succ, List.set_cons_zero] at hE6
      exact ⟨rfl, hE6.get 1 rfl, _, _, rfl, ⟨A9, c9, _, _, rfl, rfl⟩, .inl ⟨rfl, hE6⟩⟩
    · have r := hE5.rule (i + 3) hu
      have f0 := hE5.thaw (i + 3) hu 0 (by simp)
      go_simp
      have hE6 := hE5.put (i + 3) hu (j := 0) (by simp) (.slice A9 (l.length + 1) c9)
      simp only [List.set_cons_succ, List.set_cons_zero] at hE6
      exact ⟨rfl, hE6.get 2 rfl, _, _, rfl, ⟨A9, c9, _, _, rfl, rfl⟩, .inr ⟨_, rfl, hE6⟩⟩
  rintro _ rfl
  (try simp only [Act.put, List.setIfInBounds_toArray, List.set_cons_zero, List.set_cons_succ])
  refine OrdF.in_nil rfl (by decide) (by decide) ?_
  rintro w5 hC5 ⟨M5, P5, hP5, hM5, hA5⟩
  cases hP5
  obtain ⟨A7, c7, κ0, κ1, he, rfl⟩ := hM5
  cases he
  have hE5 : Env w0 (row3I (.slice A9 (l.length + 1) c9) 33 (l ++ [(x, y, z)]) :: boxI B [.int .i64 x, .int .i64 y, .int .i64 z] :: L.set i (rqI u A9 (l.length + 1) c9 N)) w5 := by
    rcases hA5 with ⟨_, h⟩ | ⟨n5, _, h⟩
    · exact h
    · exact h.sub (.cons _ (List.Sublist.refl _))
  clear hA5 hT9 hC5
  replace hE5 := hE5.sub (L' := row3I (.slice A9 (l.length + 1) c9) 33 (l ++ [(x, y, z)]) :: L.set i (rqI u A9 (l.length + 1) c9 N)) (.cons_cons _ (.cons _ (List.Sublist.refl _)))
  have hu5 : (L.set i (rqI u A9 (l.length + 1) c9 N))[i]? = some (rqI u A9 (l.length + 1) c9 N) := by simp [hil]
  have hend : ∀ N' w', Env w0 (row3I (.slice A9 (l.length + 1) c9) 33 (l ++ [(x, y, z)]) :: L.set i (rqI u A9 (l.length + 1) c9 N')) w' → Env w0 ((L.set i (rqI u A9 (l.length + 1) c9 N')).set (i + 1) (rrI A9 c9 (l ++ [(x, y, z)]))) w' := fun N' w' h => by
    have := h.into (i + 1)
    unfold rrI
    rw [HL1.out]
    exact this
  have HEND := Lib.hid hend
  clear hend
  have hcl : ∀ w', Env w0 (row3I (.slice A9 (l.length + 1) c9) 33 (l ++ [(x, y, z)]) :: L.set i (rqI u A9 (l.length + 1) c9 N)) w' → Blk 0 w' u [.slice A9 (l.length + 1) c9, .int .i64 N] := fun w' h => h.get (i + 1) hu5
  have HCL := Lib.hid hcl
  clear hcl
  go_wp2_with fail
  refine Ord.wp_chain [] (fun w' => Env w0 (row3I (.slice A9 (l.length + 1) c9) 33 (l ++ [(x, y, z)]) :: L.set i (rqI u A9 (l.length + 1) c9 N)) w') (fun _ _ => True) (by kernel_rfl) (by kernel_rfl) (by kernel_rfl) hE5.drew trivial (fun hT => ?_)
  have hT9 := Lib.hid hT
  clear hT
  repeat (first
    | (refine Ord.ch_value (v := ?_) hT9.out (by decide) (by rfl) ?_ ?_; rotate_left; (focus (intro w5 hS; have r := (HCL.out _ hS).rule; go_simp <;> with_reducible rfl)); (try simp only [Act.put, List.setIfInBounds_toArray, List.set_cons_zero, List.set_cons_succ]))
    | (refine Ord.ch_off hT9.out (by decide) (by rfl) ?_; (try simp only [Act.put, List.setIfInBounds_toArray, List.set_cons_zero, List.set_cons_succ])))
  refine Ord.InText.nil fun w5 hS => ?_
  clear hT9
  obtain ⟨hE6, hC6⟩ := Ord.chain_end hS
  clear hS
  clear hE5
  have r := (HCL.out _ hE6).rule
  have f1 := (HCL.out _ hE6).thaw 1 (by simp)
  by_cases hgt : N < ((l.length + 1 : Nat) : Int)
  · have hd : decide (N < (l.length : Int) + 1) = true := by simp; omega
    have hw2 : wrap64 (2 * N) = 2 * N := w64 _ (by omega)
    go_wp2_with fail
    go_end0
    refine ⟨rfl, A9, c9, ?_⟩
    have hE7 := hE6.put (i + 1) hu5 (j := 1) (by simp) (.int .i64 (2 * N))
    simp only [List.set_cons_succ, List.set_cons_zero, List.set_set] at hE7
    rw [show roomN N (l.length + 1) = 2 * N by unfold roomN; rw [if_pos hgt]]
    exact HEND.out _ _ hE7
  · have hd : decide (N < (l.length : Int) + 1) = false := by simp; omega
    go_wp2_with fail
    go_end0
    refine ⟨rfl, A9, c9, ?_⟩
    rw [show roomN N (l.length + 1) = N by unfold roomN; rw [if_neg (by omega)]]
    exact HEND.out _ _ hE6
end Go.Proofs.Ytjiohencpopbeaa

/- The reference's queue: the contracts of Pop, Find. -/
namespace Go.Proofs.Ytjiohencpopbeaa
open Go.RowKit Go.Maps
set_option maxRecDepth 100000

theorem Row3.tail {w : World} {b off : Nat} {x : Trip} {t : List Trip} (h : Row3 w (some ⟨b, off, none⟩) (x :: t)) : Row3 w (some ⟨b, off + 3, none⟩) t := by
  rcases h with h | ⟨b', off', he, hl, hc⟩
  · cases h
  · cases he
    refine .inr ⟨b, off + 3, rfl, hl, fun i hi => ?_⟩
    have := hc (i + 1) (by simp; omega)
    rw [show off + (i + 1) * 3 = off + 3 + i * 3 by omega] at this
    simpa using this

set_option maxHeartbeats 1600000 in
theorem refPop_any {w0 w : World} {L : List Item} {u c : Nat} {A : Option Addr} {t : List Trip} {N : Int} (x y z : Int) (i : Nat) (hE : Env w0 L w) (hu : L[i]? = some (rqI u A (t.length + 1) c N)) (hr : L[i + 1]? = some (rrI A c ((x, y, z) :: t))) (hl : t.length ≤ 1000000) :
    Calls Try.prog 11 #[.pointer (some ⟨u, 0, none⟩)] w fun e w' => e = .returned (.tuple #[tv (x, y, z), .bool true]) ∧ ∃ A' c', Env w0 ((L.set i (rqI u A' t.length c' N)).set (i + 1) (rrI A' c' t)) w' := by
  have hil : i < L.length := (List.getElem?_eq_some_iff.1 hu).1
  have hcap : t.length + 1 ≤ c := by
    rcases (hE.row3 (i + 1) hr).2 with ⟨_, h0⟩ | ⟨g, cap', cur, hv, _, hg, hn, hc, hcs, htk⟩
    · simp at h0
    · simp only [Value.slice.injEq, List.length_cons] at hv
      obtain ⟨_, _, rfl⟩ := hv
      simpa using hn
  obtain ⟨b, off, rfl⟩ : ∃ b off, A = some ⟨b, off, none⟩ := by
    rcases hE.cells3 (i + 1) rfl hr with h | ⟨b, off, h, _⟩
    · cases h
    · exact ⟨b, off, h⟩
  have hcell : ∀ w' M j, Env w0 M w' → M[j]? = some (rrI (some ⟨b, off, none⟩) c ((x, y, z) :: t)) → w'.cell? ⟨b, off, none⟩ = some (.int .i64 x) ∧ w'.cell? ⟨b, off + 1, none⟩ = some (.int .i64 y) ∧ w'.cell? ⟨b, off + 2, none⟩ = some (.int .i64 z) := fun w' M j h hj => by
    rcases h.cells3 j rfl hj with h0 | ⟨b', off', he, _, hc⟩
    · cases h0
    · cases he
      have := at3 (hc 0 (by simp))
      simpa using this
  have hE1 := hE.box w.heap.size rfl [.int .i64 0, .int .i64 0, .int .i64 0] 33
  have r := hE1.rule (i + 1) hu
  obtain ⟨c0, c1, c2⟩ := hcell _ _ (i + 2) hE1 hr
  have hn0 : ((t.length : Int) + 1 == 0) = false := by rw [beq_eq_false_iff_ne]; omega
  clear hE
  go_enter Try.func11, Try.ntmps11
  go_upto_region 4 with fail
  clear c0 c1 c2 r
  have hE2 := hE1.box (w.heap.size + 1) (by simp) [.int .i64 x, .int .i64 y, .int .i64 z] 33
  have hE3 := hE2.addEmpty3 (w.heap.size + 2) (by simp) 33
  have r2 := hE2.rule (i + 2) hu
  have r3 := hE3.rule (i + 3) hu
  have htail := (hE3.cells3 (i + 1 + 3) rfl hr).tail
  by_cases hc1 : c = 1
  · subst hc1
    obtain rfl : t = [] := List.eq_nil_of_length_eq_zero (by omega)
    obtain ⟨A9, c9, w9, hrun, hE9⟩ := hE3.append3' (A := some ⟨b, off, none⟩) (xs := []) 0 rfl 28 28 Try.underlying28 infoRef 0 rfl (.inl rfl) (by simp)
    have HRUN := Lib.hid hrun
    have hE9' : Env w0 (row3I (.slice A9 ([] : List Trip).length c9) 33 [] :: boxI (w.heap.size + 1) [.int .i64 x, .int .i64 y, .int .i64 z] :: boxI w.heap.size [.int .i64 0, .int .i64 0, .int .i64 0] :: L) w9 := hE9
    clear hE1 hE2 hE3 hrun hE9 hcell htail
    have r9 := hE9'.rule (i + 3) hu
    have f9 := hE9'.thaw (i + 3) hu 0 (by simp)
    have q1 := hE9'.rule 1 rfl
    have q2 := hE9'.rule 2 rfl
    have g0 := hE9'.thaw 2 rfl 0 (by simp)
    have g1 := hE9'.thaw 2 rfl 1 (by simp)
    have g2 := hE9'.thaw 2 rfl 2 (by simp)
    have hlt1 := hE9'.boxLt 1 rfl
    have hlt2 := hE9'.boxLt 2 rfl
    have hne1 : u ≠ w.heap.size + 1 := fun e => (hE9'.off (i := i + 3) (j := 1) hu rfl (by omega)) u rfl e
    have hne2 : u ≠ w.heap.size := fun e => (hE9'.off (i := i + 3) (j := 2) hu rfl (by omega)) u rfl e
    have hne3 : w.heap.size ≠ u := fun e => hne2 e.symm
    go_wp2_with (first | (at_builtin; refine wpList_append_run rfl _ _ 28 rfl HRUN.out rfl rfl ?_))
    have hE10 := hE9'.put (i + 3) hu (j := 0) (by simp) (.slice A9 0 c9)
    simp only [List.set_cons_succ, List.set_cons_zero] at hE10
    have hE11 := ((hE10.put 2 rfl (j := 0) (by simp) (.int .i64 x)).put 2 rfl (j := 1) (by simp) (.int .i64 y)).put 2 rfl (j := 2) (by simp) (.int .i64 z)
    have q9 := hE11.rule 2 rfl
    refine bodyPost_ret (v := .tuple #[tv (x, y, z), .bool true]) (by simp [results, Try.results11, go_sem, q9, tv]) rfl ⟨rfl, A9, c9, ?_⟩
    have hE12 := hE11.sub (L' := row3I (.slice A9 ([] : List Trip).length c9) 33 [] :: L.set i (rqI u A9 ([] : List Trip).length c9 N)) (.cons_cons _ (.cons _ (.cons _ (List.Sublist.refl _))))
    exact hE12.into (i + 1)
  · have hc2 : (c - 1 = 0) = False := by simp; omega
    obtain ⟨A9, c9, w9, hrun, hE9⟩ := hE3.append3' 0 rfl 28 28 Try.underlying28 infoRef (c - 1) rfl htail (by simp; omega)
    have HRUN := Lib.hid hrun
    have hE9' : Env w0 (row3I (.slice A9 (t : List Trip).length c9) 33 t :: boxI (w.heap.size + 1) [.int .i64 x, .int .i64 y, .int .i64 z] :: boxI w.heap.size [.int .i64 0, .int .i64 0, .int .i64 0] :: L) w9 := hE9
    clear hE1 hE2 hE3 hrun hE9 hcell htail
    have r9 := hE9'.rule (i + 3) hu
    have f9 := hE9'.thaw (i + 3) hu 0 (by simp)
    have q1 := hE9'.rule 1 rfl
    have q2 := hE9'.rule 2 rfl
    have g0 := hE9'.thaw 2 rfl 0 (by simp)
    have g1 := hE9'.thaw 2 rfl 1 (by simp)
    have g2 := hE9'.thaw 2 rfl 2 (by simp)
    have hlt1 := hE9'.boxLt 1 rfl
    have hlt2 := hE9'.boxLt 2 rfl
    have hne1 : u ≠ w.heap.size + 1 := fun e => (hE9'.off (i := i + 3) (j := 1) hu rfl (by omega)) u rfl e
    have hne2 : u ≠ w.heap.size := fun e => (hE9'.off (i := i + 3) (j := 2) hu rfl (by omega)) u rfl e
    have hne3 : w.heap.size ≠ u := fun e => hne2 e.symm
    go_wp2_with (first | (at_builtin; refine wpList_append_run rfl _ _ 28 rfl HRUN.out rfl rfl ?_))
    have hE10 := hE9'.put (i + 3) hu (j := 0) (by simp) (.slice A9 t.length c9)
    simp only [List.set_cons_succ, List.set_cons_zero] at hE10
    have hE11 := ((hE10.put 2 rfl (j := 0) (by simp) (.int .i64 x)).put 2 rfl (j := 1) (by simp) (.int .i64 y)).put 2 rfl (j := 2) (by simp) (.int .i64 z)
    have q9 := hE11.rule 2 rfl
    refine bodyPost_ret (v := .tuple #[tv (x, y, z), .bool true]) (by simp [results, Try.results11, go_sem, q9, tv]) rfl ⟨rfl, A9, c9, ?_⟩
    have hE12 := hE11.sub (L' := row3I (.slice A9 (t : List Trip).length c9) 33 t :: L.set i (rqI u A9 (t : List Trip).length c9 N)) (.cons_cons _ (.cons _ (.cons _ (List.Sublist.refl _))))
    exact hE12.into (i + 1)

theorem refPopNone_any {w0 w : World} {L : List Item} {u c : Nat} {A : Option Addr} {N : Int} (i : Nat) (hE : Env w0 L w) (hu : L[i]? = some (rqI u A 0 c N)) :
    Calls Try.prog 11 #[.pointer (some ⟨u, 0, none⟩)] w fun e w' => e = .returned (.tuple #[tv t0, .bool false]) ∧ Env w0 L w' := by
  have hE1 := hE.box w.heap.size rfl [.int .i64 0, .int .i64 0, .int .i64 0] 33
  have r := hE1.rule (i + 1) hu
  have g := hE1.rule 0 rfl
  have g0 := hE1.thaw 0 rfl 0 (by simp)
  have g1 := hE1.thaw 0 rfl 1 (by simp)
  have g2 := hE1.thaw 0 rfl 2 (by simp)
  clear hE
  have HE := Lib.hid hE1
  clear hE1
  go_enter Try.func11, Try.ntmps11
  go_wp2_with fail
  exact bodyPost_ret (v := .tuple #[tv t0, .bool false]) (by simp [results, Try.results11, go_sem, g, tv, t0]) rfl ⟨rfl, HE.out.sub (.cons _ (List.Sublist.refl _))⟩

set_option maxHeartbeats 800000 in
theorem refFind_any {w0 w : World} {L : List Item} {u c : Nat} {A : Option Addr} {l : List Trip} {N : Int} (s : Int) (i : Nat) (hE : Env w0 L w) (hu : L[i]? = some (rqI u A l.length c N)) (hr : L[i + 1]? = some (rrI A c l)) (hl : l.length ≤ 1000000) :
    Calls Try.prog 14 #[.pointer (some ⟨u, 0, none⟩), .int .i64 s] w fun e w' => e = .returned (.int .i64 (findI l s)) ∧ w = w' := by
  have r := hE.rule i hu
  have hrow := hE.cells3 (i + 1) rfl hr
  have hst := findI_start l s
  clear hE
  go_enter Try.func14, Try.ntmps14
  go_wp2_with fail
  go_loopw [5] (fun i v => ∃ j : Nat, j ≤ l.length ∧ i = .int .i64 j ∧ findI l s = (if findI (l.drop j) s < 0 then -1 else findI (l.drop j) s + j) ∧ w = v) (fun i _ => l.length - (intOf i).toNat)
  case atStart => exact ⟨0, by omega, rfl, hst, rfl⟩
  case round =>
    obtain ⟨j, hj, rfl, hf, rfl⟩ := hrel
    clear hst
    by_cases hlt : j < l.length
    · rcases hrow with h0 | ⟨b, off, rfl, hb, hc⟩
      · rw [h0] at hlt; simp at hlt
      have hcj := hc j hlt
      have HL := Lib.hid (findI_skip (s := s) hlt)
      have HH := Lib.hid (findI_hit (s := s) hlt)
      have HF := Lib.hid hf
      have HC := Lib.hid hc
      clear hc hf
      rw [t0_default] at hcj
      generalize l.getD j t0 = xx at *
      obtain ⟨x, y, z⟩ := xx
      obtain ⟨c0, c1, c2⟩ := at3 hcj
      clear hcj
      by_cases hxs : x = s
      · have hxb : (x == s) = true := by simpa using hxs
        have h1 := HH.out hxs HF.out
        have H1 := Lib.hid h1
        clear h1 hxs
        go_wp2_with fail
        go_ret
        exact ⟨ret_int H1.out.symm, rfl⟩
      · have hxb : (x == s) = false := by simpa using hxs
        have HNX := Lib.hid (HL.out hxs HF.out)
        clear HL HH hxs
        go_wp2_with fail
        exact ⟨⟨j + 1, by omega, by simp, HNX.out, trivial⟩, by simp [intOf]; omega⟩
    · have : j = l.length := by omega
      subst this
      have HN := Lib.hid (findI_none hf)
      clear hf
      go_wp2_with fail
      go_ret
      exact ⟨ret_int HN.out.symm, rfl⟩
end Go.Proofs.Ytjiohencpopbeaa

/- Queues: what they are in memory; the contracts of at, Len, Room. -/
namespace Go.Proofs.Ytjiohencpopbeaa
open Go.RowKit Go.Maps
set_option maxRecDepth 100000

/-- A count, as it is kept. -/
def cnt (c : Nat) : Int := ((c % 18446744073709551616 : Nat) : Int)
/-- The cells of a queue: the ring in block R, of N places; g were popped, n stand. -/
def qv (R N g n : Nat) : List Value := [.slice (some ⟨R, 0, none⟩) N N, .int .u64 (cnt g), .int .u64 (cnt (g + n))]
/-- Block q is a queue of l, with room for 2 ^ k; F are the blocks that it is made of. -/
def IsQ (w : World) (q : Nat) (F : Nat → Prop) (l : List Trip) (k : Nat) : Prop :=
  ∃ R g r, Blk 0 w q (qv R (2 ^ k) g l.length) ∧ Blk 0 w R (flat3 r) ∧ Ring r (2 ^ k) g l ∧ 2 ≤ k ∧ k ≤ 20 ∧ q ≠ R ∧ ∀ j, F j ↔ (j = q ∨ j = R)

theorem IsQ.lt {w : World} {q k : Nat} {F : Nat → Prop} {l : List Trip} (h : IsQ w q F l k) : ∀ j, F j → j < w.heap.size := by
  obtain ⟨R, g, r, h1, h2, _, _, _, _, hF⟩ := h
  intro j hj
  rcases (hF j).1 hj with rfl | rfl
  · exact h1.1
  · exact h2.1
theorem IsQ.kept {w w' : World} {q k : Nat} {F : Nat → Prop} {l : List Trip} (h : IsQ w q F l k) (hk : ∀ j, F j → w'.heap[j]? = w.heap[j]?) (hs : w.heap.size ≤ w'.heap.size) : IsQ w' q F l k := by
  obtain ⟨R, g, r, h1, h2, h3, h4, h5, h6, hF⟩ := h
  exact ⟨R, g, r, h1.kept hs (hk q ((hF q).2 (.inl rfl))), h2.kept hs (hk R ((hF R).2 (.inr rfl))), h3, h4, h5, h6, hF⟩
theorem IsQ.below {w w' : World} {q k : Nat} {F : Nat → Prop} {l : List Trip} (h : IsQ w q F l k) (hb : Below w.heap.size w w') : IsQ w' q F l k :=
  h.kept (fun j hj => hb.block j (h.lt j hj)) hb.size
theorem IsQ.len {w : World} {q k : Nat} {F : Nat → Prop} {l : List Trip} (h : IsQ w q F l k) : l.length ≤ 2 ^ k ∧ l.length ≤ 1048576 ∧ 2 ≤ k ∧ k ≤ 20 := by
  obtain ⟨R, g, r, h1, h2, h3, h4, h5, h6, hF⟩ := h
  have := pow_small h5
  exact ⟨h3.2.1, by have := h3.2.1; omega, h4, h5⟩

theorem at_any (R k c : Nat) (w : World) (hk : k ≤ 20) :
    Calls Try.prog 21 #[.slice (some ⟨R, 0, none⟩) (2 ^ k) (2 ^ k), .int .u64 (cnt c)] w fun e w' => e = .returned (.pointer (some ⟨R, (c % 2 ^ k) * 3, none⟩)) ∧ w = w' := by
  have hm := and_mask hk (c % 18446744073709551616) (Nat.mod_lt _ (by omega))
  rw [mod_round (by omega)] at hm
  unfold cnt
  have h1 := Nat.one_le_two_pow (n := k)
  have h2 := pow_small hk
  have hlt : c % 2 ^ k < 2 ^ k := Nat.mod_lt _ (by omega)
  generalize 2 ^ k = N at *
  have hw1 : wrap64 ((N : Int) - 1) = (N : Int) - 1 := w64 _ (by omega)
  have hw2 : IntKind.u64.wrap ((N : Int) - 1) = (N : Int) - 1 := by rw [IntKind.wrap_u64]; omega
  generalize c % N = p at *
  generalize ((c % 18446744073709551616 : Nat) : Int) = c' at *
  go_enter Try.func21, Try.ntmps21
  go_wp2_with fail
  go_ret
  exact ⟨rfl, rfl⟩

theorem round_len (g n : Nat) (hn : n ≤ 1048576) : wrap64 (IntKind.u64.wrap ((cnt (g + n)) - (cnt g))) = n := by
  unfold cnt; rw [IntKind.wrap_u64]; unfold wrap64; omega
theorem len_any {w : World} {q k : Nat} {F : Nat → Prop} {l : List Trip} (hQ : IsQ w q F l k) :
    Calls Try.prog 16 #[.pointer (some ⟨q, 0, none⟩)] w fun e w' => e = .returned (.int .i64 l.length) ∧ Below w.heap.size w w' := by
  obtain ⟨hl1, hl2, hk2, hk⟩ := hQ.len
  obtain ⟨R, g, r, hq, hr, hring, _, _, hne, hF⟩ := hQ
  have hn := round_len g l.length hl2
  clear hr hring hF
  unfold qv at hq
  generalize (cnt g) = G at *
  generalize (cnt (g + l.length)) = C at *
  generalize 2 ^ k = N at *
  have hE : Below w.heap.size w w := Below.refl _ _
  go_enter Try.func16, Try.ntmps16
  go_wp2_with fail
  refine Ord.wp_chain [] (fun w' => Blk 0 w' q [.slice (some ⟨R, 0, none⟩) N N, .int .u64 G, .int .u64 C]) (fun _ w' => Below w.heap.size w w') (by kernel_rfl) (by kernel_rfl) (by kernel_rfl) hq.drew hE.drew (fun hT => ?_)
  have hT9 := Lib.hid hT
  clear hT
  repeat (first
    | (refine Ord.ch_value (v := ?_) hT9.out (by decide) (by rfl) ?_ ?_; rotate_left; (focus (intro w5 hS; have r := Blk.rule hS; go_simp <;> with_reducible rfl)); (try simp only [Act.put, List.setIfInBounds_toArray, List.set_cons_zero, List.set_cons_succ]))
    | (refine Ord.ch_off hT9.out (by decide) (by rfl) ?_; (try simp only [Act.put, List.setIfInBounds_toArray, List.set_cons_zero, List.set_cons_succ])))
  refine Ord.InText.nil fun w5 hS => ?_
  clear hT9
  obtain ⟨hq5, hE5⟩ := Ord.chain_end hS
  clear hS
  go_wp2
  go_ret
  exact ⟨ret_int ((wrap_i _).trans hn), hE5⟩
theorem lenNil_any (w : World) : Calls Try.prog 16 #[.pointer none] w fun e w' => e = .returned (.int .i64 0) ∧ Below w.heap.size w w' := by
  go_enter Try.func16, Try.ntmps16
  go_wp2
  go_ret
  exact ⟨rfl, Below.refl _ _⟩
theorem room_any {w : World} {q k : Nat} {F : Nat → Prop} {l : List Trip} (hQ : IsQ w q F l k) :
    Calls Try.prog 17 #[.pointer (some ⟨q, 0, none⟩)] w fun e w' => e = .returned (.int .i64 ((2 ^ k : Nat) : Int)) ∧ Below w.heap.size w w' := by
  obtain ⟨R, g, r, hq, hr, hring, _, _, hne, hF⟩ := hQ
  have r := hq.rule
  unfold qv at r
  generalize 2 ^ k = N at *
  go_enter Try.func17, Try.ntmps17
  go_wp2
  go_ret
  exact ⟨rfl, Below.refl _ _⟩
theorem roomNil_any (w : World) : Calls Try.prog 17 #[.pointer none] w fun e w' => e = .returned (.int .i64 0) ∧ Below w.heap.size w w' := by
  go_enter Try.func17, Try.ntmps17
  go_wp2
  go_ret
  exact ⟨rfl, Below.refl _ _⟩
end Go.Proofs.Ytjiohencpopbeaa

/- Queues: the contracts of Head, Pop, Find. -/
namespace Go.Proofs.Ytjiohencpopbeaa
open Go.RowKit Go.Maps
set_option maxRecDepth 100000

theorem below_set {n B i : Nat} {a b : World} (h : Below n a b) (hs : n ≤ b.heap.size) (hB : n ≤ B) (u : Value) : Below n a (b.setCell ⟨B, i, none⟩ u) :=
  Turn.below h ((Turn.refl (fun k => k = B) b).setCell (p := ⟨B, i, none⟩) (fun _ => rfl) u) hs (fun k e => by subst e; exact hB)
theorem Blk.off {m n B i : Nat} {vs : List Value} {w : World} (h : Blk m w n vs) (hne : n ≠ B) (u : Value) : Blk m (w.setCell ⟨B, i, none⟩ u) n vs := h.kept (by simp) (Below.heap_setCell _ _ _ _ (by simpa using hne))
theorem Blk.put3 {m B : Nat} {a b c : Value} {w : World} (h : Blk m w B [a, b, c]) (u v t : Value) : Blk m (((w.setCell ⟨B, 0, none⟩ u).setCell ⟨B, 1, none⟩ v).setCell ⟨B, 2, none⟩ t) B [u, v, t] := ((h.set (i := 0) (by simp) u).set (i := 1) (by simp) v).set (i := 2) (by simp) t

set_option maxHeartbeats 800000 in
theorem head_any {w : World} {q k : Nat} {F : Nat → Prop} {l : List Trip} (x y z : Int) (hQ : IsQ w q F ((x, y, z) :: l) k) :
    Calls Try.prog 12 #[.pointer (some ⟨q, 0, none⟩)] w fun e w' => e = .returned (.tuple #[tv (x, y, z), .bool true]) ∧ Below w.heap.size w w' := by
  obtain ⟨hl1, hl2, hk2, hk⟩ := hQ.len
  have hQ0 := Lib.hid hQ
  obtain ⟨R, g, r, hq, hr, hring, _, _, hne, hF⟩ := hQ
  obtain ⟨hx, -⟩ := hring.pop
  have hrl := hring.1
  have h4 := pow_four hk2
  have hlt : g % 2 ^ k < 2 ^ k := Nat.mod_lt _ (by omega)
  have hcell : ∀ w', Blk 0 w' R (flat3 r) → w'.cell? ⟨R, g % 2 ^ k * 3, none⟩ = some (.int .i64 x) ∧ w'.cell? ⟨R, g % 2 ^ k * 3 + 1, none⟩ = some (.int .i64 y) ∧ w'.cell? ⟨R, g % 2 ^ k * 3 + 2, none⟩ = some (.int .i64 z) := fun w' h => by
    have e := fun c hc => (h.rule (g % 2 ^ k * 3 + c)).trans (flat3_get r (g % 2 ^ k) c (by omega) hc)
    rw [hx] at e
    exact ⟨e 0 (by omega), e 1 (by omega), e 2 (by omega)⟩
  have HA := Lib.hid fun w' => at_any R k g w' hk
  have hB := Blk.new 0 w [.int .i64 0, .int .i64 0, .int .i64 0] 35
  have hq1 := hq.more (.cells [.int .i64 0, .int .i64 0, .int .i64 0].toArray 35)
  have hr1 := hr.more (.cells [.int .i64 0, .int .i64 0, .int .i64 0].toArray 35)
  have hE := (Below.refl w.heap.size w).alloc (Nat.le_refl _) (.cells [.int .i64 0, .int .i64 0, .int .i64 0].toArray 35)
  have hqR : q < w.heap.size ∧ R < w.heap.size := ⟨hq.1, hr.1⟩
  have hz : ((((x, y, z) :: l).length : Int) == 0) = false := by simp; omega
  unfold qv at hq1
  generalize hG : (cnt g) = G at *
  generalize (cnt (g + ((x, y, z) :: l).length)) = C at *
  generalize ((x, y, z) :: l).length = n at *
  clear hq hr hring hF hx
  generalize g % 2 ^ k = p at *
  generalize 2 ^ k = N at *
  have HC := Lib.hid hcell
  clear hcell
  go_enter Try.func12, Try.ntmps12
  go_wp2_with fail
  refine (len_any (hQ0.out.below hE)).mono ?_
  rintro e w1 ⟨rfl, hb⟩
  have hB1 : Blk 0 w1 w.heap.size [.int .i64 0, .int .i64 0, .int .i64 0] := hB.kept hb.size (hb.block _ hB.1)
  have hq2 : Blk 0 w1 q _ := hq1.kept hb.size (hb.block _ hq1.1)
  have hr2 : Blk 0 w1 R _ := hr1.kept hb.size (hb.block _ hr1.1)
  have hE1 : Below w.heap.size w w1 := hE.trans (hb.mono (by simp))
  have hs1 : w.heap.size + 1 ≤ w1.heap.size := by have := hb.size; simpa using this
  clear hB hq1 hr1 hE hb hQ0
  have hz' : ((n : Int) == 0) = false := by simpa using hz
  go_wp2_with fail
  refine Ord.wp_chain [11] (fun w' => Blk 0 w' q [.slice (some ⟨R, 0, none⟩) N N, .int .u64 G, .int .u64 C] ∧ Blk 0 w' R (flat3 r)) (fun j w' => w.heap.size + 1 ≤ w'.heap.size ∧ Below w.heap.size w w' ∧ Blk 0 w' w.heap.size (if j = 0 then [.int .i64 0, .int .i64 0, .int .i64 0] else [.int .i64 x, .int .i64 y, .int .i64 z])) (by kernel_rfl) (by kernel_rfl) (by kernel_rfl) ⟨hq2.drew, hr2.drew⟩ ⟨hs1, hE1.drew, hB1.drew⟩ (fun hT => ?_)
  have hT9 := Lib.hid hT
  clear hT
  repeat (first
    | (refine Ord.ch_value (v := ?_) hT9.out (by decide) (by rfl) ?_ ?_; rotate_left; (focus (intro w5 hS; have r := Blk.rule hS.1; obtain ⟨c0, c1, c2⟩ := HC.out _ hS.2; go_simp <;> with_reducible rfl)); (try simp only [Act.put, List.setIfInBounds_toArray, List.set_cons_zero, List.set_cons_succ]))
    | (refine Ord.ch_off hT9.out (by decide) (by rfl) ?_; (try simp only [Act.put, List.setIfInBounds_toArray, List.set_cons_zero, List.set_cons_succ]))
    | (refine Ord.ch_call (v := ?_) (f := ?_) (args := ?_) hT9.out (by decide) (by rfl) ?_ ?_ ?_; rotate_left 3; (focus (intro w5 hS; have r := Blk.rule hS.1; obtain ⟨c0, c1, c2⟩ := HC.out _ hS.2; go_simp; constructor <;> with_reducible rfl)); (focus (intro w5 hS; (first | (with_reducible refine (HA.out w5).mono ?_; rintro e w6 ⟨rfl, rfl⟩; constructor; with_reducible rfl; exact ⟨hS, fun _ h => h⟩)))); (try simp only [Act.put, List.setIfInBounds_toArray, List.set_cons_zero, List.set_cons_succ])))
  refine Ord.ch_turn (v := undef) 0 hT9.out rfl (by decide) (Or.inl rfl) (by rfl) ?_ ?_
  · rintro w5 hS ⟨hA0, hA1, hA2⟩
    simp only [if_true] at hA2
    have r := hA2.rule
    have f0 := hA2.thaw 0 (by simp)
    have f1 := hA2.thaw 1 (by simp)
    have f2 := hA2.thaw 2 (by simp)
    go_simp
    refine ⟨rfl, ⟨((hS.1.off (by omega) _).off (by omega) _).off (by omega) _, ((hS.2.off (by omega) _).off (by omega) _).off (by omega) _⟩, by simpa using hA0, ?_, ?_⟩
    · exact below_set (below_set (below_set hA1 (by omega) (Nat.le_refl _) _) (by simp; omega) (Nat.le_refl _) _) (by simp; omega) (Nat.le_refl _) _
    · exact Blk.put3 hA2 _ _ _
  (try simp only [Act.put, List.setIfInBounds_toArray, List.set_cons_zero, List.set_cons_succ])
  repeat (first
    | (refine Ord.ch_value (v := ?_) hT9.out (by decide) (by rfl) ?_ ?_; rotate_left; (focus (intro w5 hS; skip; go_simp <;> with_reducible rfl)); (try simp only [Act.put, List.setIfInBounds_toArray, List.set_cons_zero, List.set_cons_succ]))
    | (refine Ord.ch_off hT9.out (by decide) (by rfl) ?_; (try simp only [Act.put, List.setIfInBounds_toArray, List.set_cons_zero, List.set_cons_succ])))
  refine Ord.InText.nil fun w5 hS => ?_
  clear hT9
  obtain ⟨hC9, hA9⟩ := Ord.chain_end hS
  clear hS
  obtain ⟨hA0, hA1, hA2⟩ := hA9
  have q := hA2.rule
  simp only [show ¬ [11].length = 0 by decide, if_false] at q
  go_wp2
  exact bodyPost_ret (v := .tuple #[tv (x, y, z), .bool true]) (by simp [results, Try.results12, go_sem, q, tv]) rfl ⟨rfl, hA1⟩

theorem headNone_any {w : World} {q k : Nat} {F : Nat → Prop} (hQ : IsQ w q F [] k) :
    Calls Try.prog 12 #[.pointer (some ⟨q, 0, none⟩)] w fun e w' => e = .returned (.tuple #[tv t0, .bool false]) ∧ Below w.heap.size w w' := by
  have hB := Blk.new 0 w [.int .i64 0, .int .i64 0, .int .i64 0] 35
  have hE := (Below.refl w.heap.size w).alloc (Nat.le_refl _) (.cells [.int .i64 0, .int .i64 0, .int .i64 0].toArray 35)
  go_enter Try.func12, Try.ntmps12
  go_wp2_with fail
  refine (len_any (hQ.below hE)).mono ?_
  rintro e w1 ⟨rfl, hb⟩
  have hB1 : Blk 0 w1 w.heap.size [.int .i64 0, .int .i64 0, .int .i64 0] := hB.kept hb.size (hb.block _ hB.1)
  have hE1 : Below w.heap.size w w1 := hE.trans (hb.mono (by simp))
  have hs1 : w.heap.size ≤ w1.heap.size := hE1.size
  have r := hB1.rule
  have f0 := hB1.thaw 0 (by simp)
  have f1 := hB1.thaw 1 (by simp)
  have f2 := hB1.thaw 2 (by simp)
  clear hB hE hb hQ
  go_wp2
  have hP := hB1.put3 (.int .i64 0) (.int .i64 0) (.int .i64 0)
  have q := hP.rule
  refine bodyPost_ret (v := .tuple #[tv t0, .bool false]) (by simp [results, Try.results12, go_sem, q, tv, t0]) rfl ⟨rfl, ?_⟩
  exact below_set (below_set (below_set hE1 (by omega) (Nat.le_refl _) _) (by simp; omega) (Nat.le_refl _) _) (by simp; omega) (Nat.le_refl _) _
theorem headNil_any (w : World) : Calls Try.prog 12 #[.pointer none] w fun e w' => e = .returned (.tuple #[tv t0, .bool false]) ∧ Below w.heap.size w w' := by
  have hB := Blk.new 0 w [.int .i64 0, .int .i64 0, .int .i64 0] 35
  have hE := (Below.refl w.heap.size w).alloc (Nat.le_refl _) (.cells [.int .i64 0, .int .i64 0, .int .i64 0].toArray 35)
  go_enter Try.func12, Try.ntmps12
  go_wp2_with fail
  refine (lenNil_any _).mono ?_
  rintro e w1 ⟨rfl, hb⟩
  have hB1 : Blk 0 w1 w.heap.size [.int .i64 0, .int .i64 0, .int .i64 0] := hB.kept hb.size (hb.block _ hB.1)
  have hE1 : Below w.heap.size w w1 := hE.trans (hb.mono (by simp))
  have hs1 : w.heap.size ≤ w1.heap.size := hE1.size
  have r := hB1.rule
  have f0 := hB1.thaw 0 (by simp)
  have f1 := hB1.thaw 1 (by simp)
  have f2 := hB1.thaw 2 (by simp)
  clear hB hE hb
  go_wp2
  have hP := hB1.put3 (.int .i64 0) (.int .i64 0) (.int .i64 0)
  have q := hP.rule
  refine bodyPost_ret (v := .tuple #[tv t0, .bool false]) (by simp [results, Try.results12, go_sem, q, tv, t0]) rfl ⟨rfl, ?_⟩
  exact below_set (below_set (below_set hE1 (by omega) (Nat.le_refl _) _) (by simp; omega) (Nat.le_refl _) _) (by simp; omega) (Nat.le_refl _) _
end Go.Proofs.Ytjiohencpopbeaa

/- Queues: the contracts of Pop, Find. -/
namespace Go.Proofs.Ytjiohencpopbeaa
open Go.RowKit Go.Maps
set_option maxRecDepth 100000

theorem round_up (g j : Nat) : IntKind.u64.wrap ((cnt g) + (j : Int)) = (cnt (g + j)) := by
  unfold cnt; rw [IntKind.wrap_u64]; omega
theorem round_nat (j : Nat) (h : j ≤ 1048576) : IntKind.u64.wrap (j : Int) = j := by rw [IntKind.wrap_u64]; omega
theorem step_set {n B i : Nat} {a b : World} {F : Nat → Prop} (h : Turn F a b) (hB : n = a.heap.size) (hk : n ≤ B) (u : Value) : Turn F a (b.setCell ⟨B, i, none⟩ u) :=
  h.setCell (p := ⟨B, i, none⟩) (fun e => by subst hB; exact absurd e (Nat.not_lt.2 hk)) u

set_option maxHeartbeats 800000 in
theorem pop_any {w : World} {q k : Nat} {F : Nat → Prop} {l : List Trip} (x y z : Int) (hQ : IsQ w q F ((x, y, z) :: l) k) :
    Calls Try.prog 10 #[.pointer (some ⟨q, 0, none⟩)] w fun e w' => e = .returned (.tuple #[tv (x, y, z), .bool true]) ∧ IsQ w' q F l k ∧ Step F F w w' := by
  obtain ⟨hl1, hl2, hk2, hk⟩ := hQ.len
  have hQ0 := Lib.hid hQ
  obtain ⟨R, g, r, hq, hr, hring, _, _, hne, hF⟩ := hQ
  have hring' := hring.pop.2
  have hB := Blk.new 0 w [.int .i64 0, .int .i64 0, .int .i64 0] 35
  have hq1 := hq.more (.cells [.int .i64 0, .int .i64 0, .int .i64 0].toArray 35)
  have hr1 := hr.more (.cells [.int .i64 0, .int .i64 0, .int .i64 0].toArray 35)
  have hE := (Below.refl w.heap.size w).alloc (Nat.le_refl _) (.cells [.int .i64 0, .int .i64 0, .int .i64 0].toArray 35)
  have hqR : q < w.heap.size ∧ R < w.heap.size := ⟨hq.1, hr.1⟩
  have hG1 := round_up g 1
  have hset : (qv R (2 ^ k) g ((x, y, z) :: l).length).set 1 (.int .u64 (cnt (g + 1))) = qv R (2 ^ k) (g + 1) l.length := by
    simp only [qv, List.length_cons, List.set_cons_succ, List.set_cons_zero]
    rw [show g + (l.length + 1) = g + 1 + l.length by omega]
  clear hq hr hring
  go_enter Try.func10, Try.ntmps10
  go_wp2_with fail
  refine (head_any x y z (hQ0.out.below hE)).mono ?_
  rintro e w1 ⟨rfl, hb⟩
  have hB1 : Blk 0 w1 w.heap.size [.int .i64 0, .int .i64 0, .int .i64 0] := hB.kept hb.size (hb.block _ hB.1)
  have hq2 : Blk 0 w1 q _ := hq1.kept hb.size (hb.block _ hq1.1)
  have hr2 : Blk 0 w1 R _ := hr1.kept hb.size (hb.block _ hr1.1)
  have hE1 : Below w.heap.size w w1 := hE.trans (hb.mono (by simp))
  have hs1 : w.heap.size + 1 ≤ w1.heap.size := by have := hb.size; simpa using this
  clear hB hq1 hr1 hE hb hQ0
  have HQ2 := Lib.hid hq2
  have hq3 := hq2.more (.cells [.int .i64 x, .int .i64 y, .int .i64 z].toArray 35)
  have hB3 := hB1.more (.cells [.int .i64 x, .int .i64 y, .int .i64 z].toArray 35)
  have rq := hq3.rule
  have fq := hq3.thaw 1 (by simp [qv])
  have rB := hB3.rule
  have f0 := hB3.thaw 0 (by simp)
  have f1 := hB3.thaw 1 (by simp)
  have f2 := hB3.thaw 2 (by simp)
  unfold qv at rq
  have HSET := Lib.hid hset
  clear hset hq2 hq3 hB3
  simp only [Int.natCast_one] at hG1
  generalize hG : (cnt g) = G at *
  generalize hC : (cnt (g + ((x, y, z) :: l).length)) = C at *
  generalize hG' : (cnt (g + 1)) = G1 at *
  generalize hN : 2 ^ k = N at *
  simp only [tv]
  have HN := Lib.hid hN
  clear hN hG hC hG'
  go_wp2_with fail
  have hb9 := (((HQ2.out.more (.cells [.int .i64 x, .int .i64 y, .int .i64 z].toArray 35)).set (i := 1) (by simp [qv]) (.int .u64 G1)).off (B := w.heap.size) (i := 0) (by omega) (.int .i64 x)).off (B := w.heap.size) (i := 1) (by omega) (.int .i64 y) |>.off (B := w.heap.size) (i := 2) (by omega) (.int .i64 z)
  have hr9 := ((((hr2.more (.cells [.int .i64 x, .int .i64 y, .int .i64 z].toArray 35)).off (B := q) (i := 1) (fun e => hne e.symm) (.int .u64 G1)).off (B := w.heap.size) (i := 0) (by omega) (.int .i64 x)).off (B := w.heap.size) (i := 1) (by omega) (.int .i64 y)).off (B := w.heap.size) (i := 2) (by omega) (.int .i64 z)
  have hP := Blk.put3 ((hB1.more (.cells [.int .i64 x, .int .i64 y, .int .i64 z].toArray 35)).off (B := q) (i := 1) (by omega) (.int .u64 G1)) (.int .i64 x) (.int .i64 y) (.int .i64 z)
  rw [HSET.out] at hb9
  have q9 := hP.rule
  refine bodyPost_ret (v := .tuple #[tv (x, y, z), .bool true]) (by simp [results, Try.results10, go_sem, q9, tv]) rfl ⟨rfl, ⟨R, g + 1, r, by rw [HN.out]; exact hb9, hr9, by rw [HN.out]; exact hring', hk2, hk, hne, hF⟩, ?_, fun j hj => .inl hj⟩
  exact step_set (step_set (step_set ((((Turn.of_below hE1 : Turn F w w1).alloc _).setCell (p := ⟨q, 1, none⟩) (fun _ => (hF q).2 (.inl rfl)) _)) rfl (Nat.le_refl _) _) rfl (Nat.le_refl _) _) rfl (Nat.le_refl _) _

theorem popNone_any {w : World} {q k : Nat} {F : Nat → Prop} (hQ : IsQ w q F [] k) :
    Calls Try.prog 10 #[.pointer (some ⟨q, 0, none⟩)] w fun e w' => e = .returned (.tuple #[tv t0, .bool false]) ∧ Below w.heap.size w w' := by
  have hB := Blk.new 0 w [.int .i64 0, .int .i64 0, .int .i64 0] 35
  have hE := (Below.refl w.heap.size w).alloc (Nat.le_refl _) (.cells [.int .i64 0, .int .i64 0, .int .i64 0].toArray 35)
  go_enter Try.func10, Try.ntmps10
  go_wp2_with fail
  refine (headNone_any (hQ.below hE)).mono ?_
  rintro e w1 ⟨rfl, hb⟩
  have hB1 : Blk 0 w1 w.heap.size [.int .i64 0, .int .i64 0, .int .i64 0] := hB.kept hb.size (hb.block _ hB.1)
  have hE1 : Below w.heap.size w w1 := hE.trans (hb.mono (by simp))
  have hs1 : w.heap.size ≤ w1.heap.size := hE1.size
  have hB3 := hB1.more (.cells [.int .i64 0, .int .i64 0, .int .i64 0].toArray 35)
  have rB := hB3.rule
  have f0 := hB3.thaw 0 (by simp)
  have f1 := hB3.thaw 1 (by simp)
  have f2 := hB3.thaw 2 (by simp)
  clear hB hE hb
  simp only [tv, t0]
  go_wp2
  have hP := hB3.put3 (.int .i64 0) (.int .i64 0) (.int .i64 0)
  have q := hP.rule
  refine bodyPost_ret (v := .tuple #[tv t0, .bool false]) (by simp [results, Try.results10, go_sem, q, tv, t0]) rfl ⟨rfl, ?_⟩
  exact below_set (below_set (below_set (hE1.alloc hs1 _) (by simp; omega) (Nat.le_refl _) _) (by simp; omega) (Nat.le_refl _) _) (by simp; omega) (Nat.le_refl _) _
theorem popNil_any (w : World) : Calls Try.prog 10 #[.pointer none] w fun e w' => e = .returned (.tuple #[tv t0, .bool false]) ∧ Below w.heap.size w w' := by
  have hB := Blk.new 0 w [.int .i64 0, .int .i64 0, .int .i64 0] 35
  have hE := (Below.refl w.heap.size w).alloc (Nat.le_refl _) (.cells [.int .i64 0, .int .i64 0, .int .i64 0].toArray 35)
  go_enter Try.func10, Try.ntmps10
  go_wp2_with fail
  refine (headNil_any _).mono ?_
  rintro e w1 ⟨rfl, hb⟩
  have hB1 : Blk 0 w1 w.heap.size [.int .i64 0, .int .i64 0, .int .i64 0] := hB.kept hb.size (hb.block _ hB.1)
  have hE1 : Below w.heap.size w w1 := hE.trans (hb.mono (by simp))
  have hs1 : w.heap.size ≤ w1.heap.size := hE1.size
  have hB3 := hB1.more (.cells [.int .i64 0, .int .i64 0, .int .i64 0].toArray 35)
  have rB := hB3.rule
  have f0 := hB3.thaw 0 (by simp)
  have f1 := hB3.thaw 1 (by simp)
  have f2 := hB3.thaw 2 (by simp)
  clear hB hE hb
  simp only [tv, t0]
  go_wp2
  have hP := hB3.put3 (.int .i64 0) (.int .i64 0) (.int .i64 0)
  have q := hP.rule
  refine bodyPost_ret (v := .tuple #[tv t0, .bool false]) (by simp [results, Try.results10, go_sem, q, tv, t0]) rfl ⟨rfl, ?_⟩
  exact below_set (below_set (below_set (hE1.alloc hs1 _) (by simp; omega) (Nat.le_refl _) _) (by simp; omega) (Nat.le_refl _) _) (by simp; omega) (Nat.le_refl _) _

set_option maxHeartbeats 800000 in
theorem find_any {w : World} {q k : Nat} {F : Nat → Prop} {l : List Trip} (s : Int) (hQ : IsQ w q F l k) :
    Calls Try.prog 13 #[.pointer (some ⟨q, 0, none⟩), .int .i64 s] w fun e w' => e = .returned (.int .i64 (findI l s)) ∧ Below w.heap.size w w' := by
  obtain ⟨hl1, hl2, hk2, hk⟩ := hQ.len
  have hQ0 := Lib.hid hQ
  obtain ⟨R, g, r, hq, hr, hring, _, _, hne, hF⟩ := hQ
  have hrl := hring.1
  have h4 := pow_four hk2
  have HA := Lib.hid fun j w' => at_any R k (g + j) w' hk
  have hcell : ∀ j, j < l.length → ∀ w', Blk 0 w' R (flat3 r) → w'.cell? ⟨R, (g + j) % 2 ^ k * 3, none⟩ = some (.int .i64 (l.getD j t0).1) := fun j hj w' h => by
    have hlt : (g + j) % 2 ^ k < 2 ^ k := Nat.mod_lt _ (by omega)
    have e := (h.rule ((g + j) % 2 ^ k * 3 + 0)).trans (flat3_get r ((g + j) % 2 ^ k) 0 (by omega) (by omega))
    rw [hring.at j hj] at e
    exact e
  have HC := Lib.hid hcell
  have HG := Lib.hid (round_up g)
  have hst := findI_start l s
  have HQB := Lib.hid (And.intro hq hr)
  clear hcell hq hr hring hF hrl h4
  go_enter Try.func13, Try.ntmps13
  go_wp2_with fail
  refine (len_any hQ0.out).mono ?_
  rintro e w1 ⟨rfl, hb⟩
  clear hQ0
  go_wp2_with fail
  go_loopw [5, 8] (fun _ i wr => ∃ j : Nat, j ≤ l.length ∧ i = .int .i64 j ∧ findI l s = (if findI (l.drop j) s < 0 then -1 else findI (l.drop j) s + j) ∧ Below w.heap.size w wr) (fun _ i _ => l.length - (intOf i).toNat)
  case atStart => exact ⟨0, by omega, rfl, hst, hb⟩
  case round =>
    obtain ⟨j, hj, rfl, hf, hB⟩ := hrel
    clear hst hb
    by_cases hlt : j < l.length
    · have hc := HC.out j hlt
      have hw := round_nat j (by omega)
      have hg := HG.out j
      have HAj := Lib.hid (HA.out j)
      have HL := Lib.hid (findI_skip (s := s) hlt)
      have HH := Lib.hid (findI_hit (s := s) hlt)
      have HF := Lib.hid hf
      have hq5 : Blk 0 wr q _ := HQB.out.1.kept hB.size (hB.block _ HQB.out.1.1)
      have hr5 : Blk 0 wr R _ := HQB.out.2.kept hB.size (hB.block _ HQB.out.2.1)
      clear HC HG HA HQB hf
      unfold qv at hq5
      generalize hxx : l.getD j t0 = xx at *
      generalize (cnt g) = G at *
      generalize (cnt (g + j)) = GJ at *
      generalize (cnt (g + l.length)) = C at *
      generalize (g + j) % 2 ^ k = p at *
      generalize 2 ^ k = N at *
      obtain ⟨x, y, z⟩ := xx
      simp only at hc HL HH
      have HC := Lib.hid hc
      clear hc hxx
      go_wp2_with fail
      refine Ord.wp_chain [] (fun w' => Blk 0 w' q [.slice (some ⟨R, 0, none⟩) N N, .int .u64 G, .int .u64 C] ∧ Blk 0 w' R (flat3 r)) (fun _ w' => Below w.heap.size w w') (by kernel_rfl) (by kernel_rfl) (by kernel_rfl) ⟨hq5.drew, hr5.drew⟩ hB.drew (fun hT => ?_)
      have hT9 := Lib.hid hT
      clear hT
      repeat (first
        | (refine Ord.ch_value (v := ?_) hT9.out (by decide) (by rfl) ?_ ?_; rotate_left; (focus (intro w5 hS; have r := Blk.rule hS.1; have c0 := HC.out _ hS.2; go_simp <;> with_reducible rfl)); (try simp only [Act.put, List.setIfInBounds_toArray, List.set_cons_zero, List.set_cons_succ]))
        | (refine Ord.ch_off hT9.out (by decide) (by rfl) ?_; (try simp only [Act.put, List.setIfInBounds_toArray, List.set_cons_zero, List.set_cons_succ]))
        | (refine Ord.ch_call (v := ?_) (f := ?_) (args := ?_) hT9.out (by decide) (by rfl) ?_ ?_ ?_; rotate_left 3; (focus (intro w5 hS; have r := Blk.rule hS.1; have c0 := HC.out _ hS.2; go_simp; constructor <;> with_reducible rfl)); (focus (intro w5 hS; (first | (with_reducible refine (HAj.out w5).mono ?_; rintro e w6 ⟨rfl, rfl⟩; constructor; with_reducible rfl; exact ⟨hS, fun _ h => h⟩)))); (try simp only [Act.put, List.setIfInBounds_toArray, List.set_cons_zero, List.set_cons_succ])))
      refine Ord.InText.nil fun w5 hS => ?_
      clear hT9
      obtain ⟨hC9, hB9⟩ := Ord.chain_end hS
      clear hS
      by_cases hxs : x = s
      · have hxb : (x == s) = true := by simpa using hxs
        go_wp2_with fail
        go_ret
        exact ⟨ret_int (HH.out hxs HF.out).symm, hB9⟩
      · have hxb : (x == s) = false := by simpa using hxs
        have hnx := HL.out hxs HF.out
        clear HL HH
        have HNX := Lib.hid hnx
        clear hnx hxs
        go_wp2_with fail
        exact ⟨⟨j + 1, by omega, by simp, HNX.out, hB9⟩, by simp [intOf]; omega⟩
    · go_wp2_with fail
      have : j = l.length := by omega
      subst this
      go_ret
      exact ⟨ret_int (findI_none hf).symm, hB⟩
theorem findNil_any (s : Int) (w : World) : Calls Try.prog 13 #[.pointer none, .int .i64 s] w fun e w' => e = .returned (.int .i64 (-1)) ∧ Below w.heap.size w w' := by
  go_enter Try.func13, Try.ntmps13
  go_wp2_with fail
  refine (lenNil_any _).mono ?_
  rintro e w1 ⟨rfl, hb⟩
  go_wp2_with fail
  go_loopw [5, 8] (fun _ i wr => i = .int .i64 0 ∧ Below w.heap.size w wr) (fun _ i _ => 0)
  case atStart => exact ⟨rfl, hb⟩
  case round =>
    obtain ⟨rfl, hB⟩ := hrel
    go_wp2_with fail
    go_ret
    exact ⟨rfl, hB⟩
end Go.Proofs.Ytjiohencpopbeaa

/- Queues: the contract of List. -/
namespace Go.Proofs.Ytjiohencpopbeaa
open Go.RowKit Go.Maps
set_option maxRecDepth 100000

/-- A row filled so far. -/
def fill3 (l : List Trip) (j : Nat) : List Trip := l.take j ++ List.replicate (l.length - j) t0
theorem fill3_zero (l : List Trip) : fill3 l 0 = List.replicate l.length t0 := by simp [fill3]
theorem fill3_all (l : List Trip) : fill3 l l.length = l := by simp [fill3]
theorem fill3_length (l : List Trip) {j : Nat} (h : j ≤ l.length) : (fill3 l j).length = l.length := by simp [fill3]; omega
theorem fill3_next (l : List Trip) {j : Nat} (h : j < l.length) : (fill3 l j).set j (l.getD j t0) = fill3 l (j + 1) := by
  have e : (l.take j).length = j := by simp; omega
  unfold fill3
  rw [List.set_append_right _ _ (by omega), e, Nat.sub_self, show l.length - j = (l.length - (j + 1)) + 1 by omega, List.replicate_succ, List.set_cons_zero, List.take_succ_eq_append_getElem h, List.append_assoc, show l.getD j t0 = l[j] by simp [h]]
  rfl

theorem infoEnt : (Try.prog.info? 35).map (fun i => (i.zero, i.size, i.bytes)) = some (some (tv t0), 3, 24) := by kernel_rfl

set_option maxHeartbeats 1600000 in
theorem list_any {w : World} {q k : Nat} {F : Nat → Prop} {l : List Trip} (hQ : IsQ w q F l k) :
    Calls Try.prog 18 #[.pointer (some ⟨q, 0, none⟩)] w fun e w' => ∃ b, e = .returned (.slice (some ⟨b, 0, none⟩) l.length l.length) ∧ Blk 0 w' b (flat3 l) ∧ w.heap.size ≤ b ∧ Below w.heap.size w w' := by
  obtain ⟨hl1, hl2, hk2, hk⟩ := hQ.len
  have hQ0 := Lib.hid hQ
  obtain ⟨R, g, r, hq, hr, hring, _, _, hne, hF⟩ := hQ
  have hrl := hring.1
  have h4 := pow_four hk2
  have HA := Lib.hid fun j w' => at_any R k (g + j) w' hk
  have hcell : ∀ j, j < l.length → ∀ w', Blk 0 w' R (flat3 r) → w'.cell? ⟨R, (g + j) % 2 ^ k * 3, none⟩ = some (.int .i64 (l.getD j t0).1) ∧ w'.cell? ⟨R, (g + j) % 2 ^ k * 3 + 1, none⟩ = some (.int .i64 (l.getD j t0).2.1) ∧ w'.cell? ⟨R, (g + j) % 2 ^ k * 3 + 2, none⟩ = some (.int .i64 (l.getD j t0).2.2) := fun j hj w' h => by
    have hlt : (g + j) % 2 ^ k < 2 ^ k := Nat.mod_lt _ (by omega)
    have e := fun c hc => (h.rule ((g + j) % 2 ^ k * 3 + c)).trans (flat3_get r ((g + j) % 2 ^ k) c (by omega) hc)
    rw [hring.at j hj] at e
    exact ⟨e 0 (by omega), e 1 (by omega), e 2 (by omega)⟩
  have HC := Lib.hid hcell
  have HG := Lib.hid (round_up g)
  have HQB := Lib.hid (And.intro hq hr)
  have hlz := fill3_zero l
  clear hcell hq hr hring hF hrl h4
  go_enter Try.func18, Try.ntmps18
  go_wp2_with fail
  refine (len_any hQ0.out).mono ?_
  rintro e w1 ⟨rfl, hb⟩
  clear hQ0
  go_wp2_with (refine wpList_make3 _ rfl _ _ 22 rfl 35 Try.underlying22 infoEnt .i64 .i64 _ _ l.length rfl rfl rfl rfl (by omega) ?_)
  have hB0 := Blk.new 0 w1 (flat3 (List.replicate l.length t0)) 35
  have hE0 := hb.alloc hb.size (.cells (flat3 (List.replicate l.length t0)).toArray 35)
  have hs0 := hb.size
  clear hb
  generalize hb1 : w1.heap.size = b at *
  clear hb1
  generalize w1.alloc (.cells (flat3 (List.replicate l.length t0)).toArray 35) = w2 at *
  rw [← hlz] at hB0
  clear hlz
  go_loopw [4, 10] (fun _ i wr => ∃ j : Nat, j ≤ l.length ∧ i = .int .i64 j ∧ Blk 0 wr b (flat3 (fill3 l j)) ∧ Below w.heap.size w wr) (fun _ i _ => l.length - (intOf i).toNat)
  case atStart => exact ⟨0, by omega, rfl, hB0, hE0⟩
  case round =>
    obtain ⟨j, hj, rfl, hf, hB⟩ := hrel
    clear hB0 hE0
    by_cases hlt : j < l.length
    · have hc := HC.out j hlt
      have hw := round_nat j (by omega)
      have hg := HG.out j
      have HAj := Lib.hid (HA.out j)
      have hq5 : Blk 0 wr q _ := HQB.out.1.kept hB.size (hB.block _ HQB.out.1.1)
      have hr5 : Blk 0 wr R _ := HQB.out.2.kept hB.size (hB.block _ HQB.out.2.1)
      have hqb : q ≠ b ∧ R ≠ b := ⟨by have := HQB.out.1.1; omega, by have := HQB.out.2.1; omega⟩
      have hnx := hf
      have HNX := Lib.hid (And.intro (fill3_next l hlt) (fill3_length l hj))
      clear HC HG HA HQB hnx
      unfold qv at hq5
      generalize l.getD j t0 = xx at *
      generalize (cnt g) = G at *
      generalize (cnt (g + j)) = GJ at *
      generalize (cnt (g + l.length)) = C at *
      generalize (g + j) % 2 ^ k = p at *
      generalize 2 ^ k = N at *
      obtain ⟨x, y, z⟩ := xx
      simp only at hc
      have HC := Lib.hid hc
      clear hc
      generalize hLN : l.length = ln at *
      have HLN := Lib.hid hLN
      clear hLN
      go_wp2_with fail
      refine Ord.wp_chain [17] (fun w' => Blk 0 w' q [.slice (some ⟨R, 0, none⟩) N N, .int .u64 G, .int .u64 C] ∧ Blk 0 w' R (flat3 r)) (fun m w' => w.heap.size ≤ w'.heap.size ∧ Below w.heap.size w w' ∧ Blk 0 w' b (flat3 (if m = 0 then fill3 l j else (fill3 l j).set j (x, y, z)))) (by kernel_rfl) (by kernel_rfl) (by kernel_rfl) ⟨hq5.drew, hr5.drew⟩ ⟨hB.size, hB.drew, hf.drew⟩ (fun hT => ?_)
      have hT9 := Lib.hid hT
      clear hT
      repeat (first
        | (refine Ord.ch_value (v := ?_) hT9.out (by decide) (by rfl) ?_ ?_; rotate_left; (focus (intro w5 hS; have r := Blk.rule hS.1; obtain ⟨c0, c1, c2⟩ := HC.out _ hS.2; go_simp <;> with_reducible rfl)); (try simp only [Act.put, List.setIfInBounds_toArray, List.set_cons_zero, List.set_cons_succ]))
        | (refine Ord.ch_off hT9.out (by decide) (by rfl) ?_; (try simp only [Act.put, List.setIfInBounds_toArray, List.set_cons_zero, List.set_cons_succ]))
        | (refine Ord.ch_call (v := ?_) (f := ?_) (args := ?_) hT9.out (by decide) (by rfl) ?_ ?_ ?_; rotate_left 3; (focus (intro w5 hS; have r := Blk.rule hS.1; obtain ⟨c0, c1, c2⟩ := HC.out _ hS.2; go_simp; constructor <;> with_reducible rfl)); (focus (intro w5 hS; (first | (with_reducible refine (HAj.out w5).mono ?_; rintro e w6 ⟨rfl, rfl⟩; constructor; with_reducible rfl; exact ⟨hS, fun _ h => h⟩)))); (try simp only [Act.put, List.setIfInBounds_toArray, List.set_cons_zero, List.set_cons_succ])))
      refine Ord.ch_turn (v := undef) 0 hT9.out rfl (by decide) (Or.inl rfl) (by rfl) ?_ ?_
      · rintro w5 hS ⟨hA0, hA1, hA2⟩
        simp only [if_true] at hA2
        have hcells := fun c hc => (hA2.rule (j * 3 + c)).trans (flat3_get _ j c (by rw [HNX.out.2]; exact hlt) hc)
        have r0 := hcells 0 (by omega)
        have r1 := hcells 1 (by omega)
        have r2 := hcells 2 (by omega)
        simp only [Nat.add_zero, enc3, List.getElem?_cons_zero, List.getElem?_cons_succ] at r0 r1 r2
        have hfl := flat3_length (fill3 l j)
        rw [HNX.out.2] at hfl
        have f0 := hA2.thaw (j * 3) (by omega)
        have f1 := hA2.thaw (j * 3 + 1) (by omega)
        have f2 := hA2.thaw (j * 3 + 2) (by omega)
        clear hcells
        go_simp
        refine ⟨rfl, ⟨((hS.1.off hqb.1 _).off hqb.1 _).off hqb.1 _, ((hS.2.off hqb.2 _).off hqb.2 _).off hqb.2 _⟩, by simpa using hA0, ?_, ?_⟩
        · exact below_set (below_set (below_set hA1 (by omega) hs0 _) (by simp; omega) hs0 _) (by simp; omega) hs0 _
        · exact Blk.set3 hA2 (by rw [HNX.out.2]; exact hlt) (x, y, z)
      (try simp only [Act.put, List.setIfInBounds_toArray, List.set_cons_zero, List.set_cons_succ])
      repeat (first
        | (refine Ord.ch_value (v := ?_) hT9.out (by decide) (by rfl) ?_ ?_; rotate_left; (focus (intro w5 hS; skip; go_simp <;> with_reducible rfl)); (try simp only [Act.put, List.setIfInBounds_toArray, List.set_cons_zero, List.set_cons_succ]))
        | (refine Ord.ch_off hT9.out (by decide) (by rfl) ?_; (try simp only [Act.put, List.setIfInBounds_toArray, List.set_cons_zero, List.set_cons_succ])))
      refine Ord.InText.nil fun w5 hS => ?_
      clear hT9
      obtain ⟨hC9, hA9⟩ := Ord.chain_end hS
      clear hS
      obtain ⟨hA0, hA1, hA2⟩ := hA9
      rw [if_neg (by decide), HNX.out.1] at hA2
      go_wp2_with fail
      exact ⟨⟨j + 1, by omega, by simp, hA2, hA1⟩, by simp [intOf]; omega⟩
    · go_wp2_with fail
      have : j = l.length := by omega
      subst this
      rw [fill3_all] at hf
      go_ret
      exact ⟨b, rfl, hf, hs0, hB⟩
theorem listNil_any (w : World) : Calls Try.prog 18 #[.pointer none] w fun e w' => ∃ b, e = .returned (.slice (some ⟨b, 0, none⟩) 0 0) ∧ Below w.heap.size w w' := by
  go_enter Try.func18, Try.ntmps18
  go_wp2_with fail
  refine (lenNil_any _).mono ?_
  rintro e w1 ⟨rfl, hb⟩
  go_wp2_with (refine wpList_make3 _ rfl _ _ 22 rfl 35 Try.underlying22 infoEnt .i64 .i64 _ _ 0 rfl rfl rfl rfl (by omega) ?_)
  have hE0 := hb.alloc hb.size (.cells (flat3 (List.replicate 0 t0)).toArray 35)
  clear hb
  go_loopw [4, 10] (fun _ i wr => i = .int .i64 0 ∧ Below w.heap.size w wr) (fun _ i _ => 0)
  case atStart => exact ⟨rfl, hE0⟩
  case round =>
    obtain ⟨rfl, hB⟩ := hrel
    go_wp2_with fail
    go_ret
    exact ⟨_, rfl, hB⟩
end Go.Proofs.Ytjiohencpopbeaa
