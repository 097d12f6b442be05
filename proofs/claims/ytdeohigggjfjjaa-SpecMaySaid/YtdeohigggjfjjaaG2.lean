/- What is proved on the way to the statement, part 2 of 7: contracts of the functions, among other things in memory. -/
import Derived.Test.YtdeohigggjfjjaaG1
import Derived.Test.YtdeohigggjfjjaaChecked
import Derived.Deep.AppendLies
import Derived.Maps.AppendAt
import Derived.OneCell
import Derived.Laws.OwnMore
import Derived.Deep.Light
import Derived.Lib.SmallJoins
import Derived.Deep.Slices
import Derived.WalkKit
import Derived.LoopIn
import Derived.Deep.LoopGhost
import Derived.Shelf.SlSortCmp.NoneTotal
import Derived.Ground.SlsfProg
import Derived.Test.YtdeohigggjfjjaaProg

/- Rows of the call's own, of whatever: kept while others turn; appended to; as things among others. General. -/
namespace Go.Proofs.Ytdeohigggjfjjaa
open Go.RowKit
set_option maxRecDepth 100000

theorem ownsRow_lt {w : World} {b : Nat} {v : Value} {e : TypeId} {n s : Nat} {xs : List Value} (h : w.ownsRow b e s v n xs) : ∀ k, v.ownBlock = some k → k < w.heap.size := fun k hk => (h.lt k hk).2
theorem ownsRow_kept {w w' : World} {b : Nat} {v : Value} {e : TypeId} {n s : Nat} {xs : List Value} (h : w.ownsRow b e s v n xs) (hk : ∀ k, v.ownBlock = some k → w'.heap[k]? = w.heap[k]?) : w'.ownsRow b e s v n xs := by
  refine ⟨h.1, ?_⟩
  rcases h.2 with hn | ⟨g, cap, cur, rfl, hb, hg, rest⟩
  · exact .inl hn
  · exact .inr ⟨g, cap, cur, rfl, hb, (hk g rfl).trans hg, rest⟩
theorem run_call_append {P : Program} {o : Oper} {f : Operand → Value} (s x : Operand) (t : TypeId) (ho : o.op = .call { callee := .builtin .append, args := #[s, x], argTypes := #[t, t] }) {vs vx r : Value} {w w' : World} (hs : f s = vs) (hx : f x = vx)
    (hr : (Builtin.append_ #[t, t] o.type #[vs, vx]).run P w = .ok r w') : (execOp f o).run P w = .ok (.value r) w' := by
  unfold execOp
  simp only [ho, resolve, invoke, builtin, Sem.run_bind, Sem.run_pure, Result.andThen_ok, List.map_toArray, List.map_cons, List.map_nil, hs, hx, hr]
theorem append_lands {P : Program} {o : Oper} {f : Operand → Value} {T : World → Prop} {s x : Operand} {t : TypeId} {vs vx r : Value} {w w' : World} (ho : o.op = .call { callee := .builtin .append, args := #[s, x], argTypes := #[t, t] }) (hr : (Builtin.append_ #[t, t] o.type #[vs, vx]).run P w = .ok r w') (hs : f s = vs) (hx : f x = vx) (hT : T w') : Ord.LandsIn P T r ((execOp f o).run P w) := by
  rw [run_call_append s x t ho hs hx hr]
  exact ⟨rfl, hT⟩
theorem Step.of_below {w w' : World} (F : Nat → Prop) (hb : Below w.heap.size w w') : Step F F w w' := ⟨Turn.of_below hb, fun _ h => .inl h⟩
/-- A row appended to a row of ours: what is appended is nothing, or cells behind an address. -/
theorem run_append_rows {P : Program} (t ty : TypeId) (base : Nat) (e : TypeId) (i : TypeInfo) (z : Value) (size bytes : Nat) (ht : P.underlying t = some (.slice e)) (hi : P.info? e = some i) (hz : i.zero = some z)
    (hsize : i.size = size) (hby : i.bytes = bytes) (hzs : z.cells.size = size) (hsz : 0 < size) (w : World)
    (v : Value) (n : Nat) (xs : List Value) (hown : w.ownsRow base e size v n xs) (A : Option Addr) (m c : Nat) (news : List Value) (hl : news.length = m * size)
    (hnews : (A = none ∧ m = 0) ∨ ∃ ad, A = some ad ∧ ∀ j u, news[j]? = some u → w.cell? (ad.add j) = some u) (h1 : ∀ u ∈ news, u.oneCell' = true)
    (h63 : n + m ≤ maxLen) (hbytes : (n + m) * bytes ≤ 140737488355328) (hbase : base ≤ w.heap.size) :
    ∃ v' w', (Builtin.append_ #[t, t] ty #[v, .slice A m c]).run P w = .ok v' w' ∧ w'.ownsRow base e size v' (n + m) (xs ++ news) ∧ w.grownBy w' v.ownBlock ∧ (v'.ownBlock = v.ownBlock ∨ v'.ownBlock = some w.heap.size) := by
  rcases hnews with ⟨rfl, rfl⟩ | ⟨ad, rfl, hn⟩
  · have h0 : news = [] := List.eq_nil_of_length_eq_zero (by simpa using hl)
    subst h0
    refine ⟨v, w, ?_, by simpa using hown, ⟨rfl, rfl, rfl, Nat.le_refl _, fun _ _ _ => rfl⟩, .inl rfl⟩
    rcases hown.2 with ⟨rfl, rfl⟩ | ⟨g, cap, cur, rfl, hb, hg, hnc, hcm, hcs, htk⟩
    · simp [Builtin.append_, run_underlying ht, sizeOf, typeInfo, hi, Builtin.lenOf, Builtin.firstCells]
    · simp [Builtin.append_, run_underlying ht, sizeOf, typeInfo, hi, Builtin.lenOf, Builtin.firstCells, hnc, storeCells]
  · obtain ⟨v', w', hr, h2, h3, _, h5⟩ := run_append_own_at (P := P) w base t ty e i z size bytes ht hi hz hsize hby hzs hsz v n xs hown ad m c news hl hn h1 h63 hbytes hbase
    exact ⟨v', w', hr, h2, h3, h5⟩
theorem wpList_append_run {P : Program} {ops : Array Oper} {rest : List Oper} {o : Oper} {a : Act} {w : World} {Q : Exit → Act → World → Prop} (hgd : o.guard = none) (s x : Operand) (t : TypeId) (ho : o.op = .call { callee := .builtin .append, args := #[s, x], argTypes := #[t, t] })
    {vs vx r : Value} {w' : World} (hr : (Builtin.append_ #[t, t] o.type #[vs, vx]).run P w = .ok r w') (hs : a.eval s = vs) (hx : a.eval x = vx) (h : wpList P ops Q rest (a.put o.dst r) w') : wpList P ops Q (o :: rest) a w :=
  wpList_plain hgd fun K hK => by
    unfold Oper.wp
    rw [run_call_append s x t ho hs hx hr]
    exact hK _ _ h
theorem ownsRow_base {w : World} {b b' : Nat} {e : TypeId} {s n : Nat} {v : Value} {xs : List Value} (h : w.ownsRow b e s v n xs) (hb : b' ≤ b) : w.ownsRow b' e s v n xs :=
  ⟨h.1, h.2.imp id fun ⟨g, cap, cur, h1, h2, h3⟩ => ⟨g, cap, cur, h1, Nat.le_trans hb h2, h3⟩⟩
theorem ownsRow_slice {w : World} {b : Nat} {e : TypeId} {s n : Nat} {v : Value} {xs : List Value} (h : w.ownsRow b e s v n xs) : ∃ A c, v = .slice A n c := by
  rcases h.2 with ⟨rfl, rfl⟩ | ⟨g, cap, cur, rfl, _⟩
  · exact ⟨_, _, rfl⟩
  · exact ⟨_, _, rfl⟩
theorem cells_new (w : World) (vs : List Value) (t : TypeId) : ∀ j u, vs[j]? = some u → (w.alloc (.cells vs.toArray t)).cell? ((⟨w.heap.size, 0, none⟩ : Addr).add j) = some u := fun j u h => by
  have e : (⟨w.heap.size, 0, none⟩ : Addr).add j = ⟨w.heap.size, j, none⟩ := by unfold Addr.add; split <;> simp_all
  rw [e, (Blk.new 0 w vs t).rule j]
  exact h

/-! ### as things -/
/-- A row: the slice v owns the cells xs. -/
def rowI (v : Value) (e : TypeId) (s n : Nat) (xs : List Value) : Item where
  F := fun k => v.ownBlock = some k
  says := fun w => w.ownsRow 0 e s v n xs
  loc := fun w1 w2 h hk _ => ownsRow_kept h hk
end Go.Proofs.Ytdeohigggjfjjaa

/- A struct by value whose fields are numbers and bools, of however many fields: opened. -/
namespace Go.Proofs.Ytdeohigggjfjjaa
open Go.RowKit Go.WideShapes Go.ChangeShapes Go.ChangeAt Go.Deep
set_option maxRecDepth 100000

inductive Sca | num (k : IntKind) | boo
/-- A field's type is of that form; a value is. -/
def Sca.fits (P : Program) (t : TypeId) : Sca → Prop
  | .num k => P.underlying t = some (.int k)
  | .boo => P.underlying t = some .bool
def Sca.ok (v : Value) : Sca → Prop
  | .num k => ∃ n, v = .int k n ∧ (Lit.int k n).wf = true
  | .boo => ∃ b, v = .bool b
def FitAll (P : Program) : List Field → List Sca → Prop
  | [], [] => True
  | f :: fs, s :: ss => s.fits P f.type ∧ FitAll P fs ss
  | _, _ => False
theorem FitAll.length {P : Program} : ∀ {fs : List Field} {ss : List Sca}, FitAll P fs ss → fs.length = ss.length
  | [], [], _ => rfl
  | _ :: _, _ :: _, h => by simp [FitAll.length h.2]
theorem FitAll.get {P : Program} : ∀ {fs : List Field} {ss : List Sca}, FitAll P fs ss → ∀ {i : Nat} {s : Sca}, ss[i]? = some s → ∃ f, fs[i]? = some f ∧ s.fits P f.type := by
  intro fs
  induction fs with
  | nil =>
    intro ss h i s e
    cases ss with
    | nil => simp at e
    | cons x ss => exact absurd h (by simp [FitAll])
  | cons f fs ih =>
    intro ss h i s e
    cases ss with
    | nil => exact absurd h (by simp [FitAll])
    | cons x ss =>
      cases i with
      | zero =>
        simp at e
        subst e
        exact ⟨f, rfl, h.1⟩
      | succ i =>
        obtain ⟨f', hf, hs⟩ := ih h.2 (i := i) (by simpa using e)
        exact ⟨f', by simpa using hf, hs⟩

section
variable {H : Type} {enc : TypeId × Value → H} {P : Program} {w : World} {base : Nat} {spare : Nat → Bool} {held : Bool}
theorem open_flat {r : Reach} {b0 : Nat} {t : TypeId} {fs : Array Field} {ss : List Sca} {v : Value} {d : DataW H} {p : List MemPlace} (hs : P.underlying t = some (.struct fs)) (hone : oneCellFields P fs = true) (hC : P.cellsOf t = ss.length) (hfit : FitAll P fs.toList ss)
    (hv : Value.okWide P w r b0 t v) (h : DataW.Trod enc P w base spare held t v d p) :
    ∃ cs : Array Value, v = .agg cs ∧ cs.size = ss.length ∧ ∀ (i : Nat) (s : Sca), ss[i]? = some s → ∃ x, cs[i]? = some x ∧ s.ok x := by
  obtain ⟨cs, rfl, hsz⟩ := okWide_struct hs hv
  obtain ⟨fuel, hf⟩ := h
  obtain ⟨xs, n, -, -, hl, hlen, hall⟩ := DataW.trod_struct hs hf
  refine ⟨cs, rfl, hsz.trans hC, fun i s e => ?_⟩
  obtain ⟨f, hfi, hfs⟩ := hfit.get e
  have hfi' : fs[i]? = some f := by simpa using hfi
  obtain ⟨o, k⟩ := hone_of hone i f hfi'
  have hi : i < cs.size := by
    have : i < ss.length := by
      rcases Nat.lt_or_ge i ss.length with hh | hh
      · exact hh
      · rw [List.getElem?_eq_none hh] at e; cases e
    omega
  have hx : xs[i]? ≠ none := by
    have := (Array.getElem?_eq_some_iff.1 hfi').1
    rw [List.getElem?_eq_getElem (by omega)]
    simp
  have ht := hall i f hfi'
  have hcell : ((Value.agg cs).cells.toList.drop f.offset).take (P.cellsOf f.type) = [cs[i]] := by
    rw [o, k]
    show (cs.toList.drop i).take 1 = _
    have hi' : i < cs.toList.length := by simpa using hi
    rw [List.drop_eq_getElem_cons hi']
    simp
  rw [hcell] at ht
  obtain ⟨y, hy⟩ := Option.ne_none_iff_exists'.1 hx
  rw [hy] at ht
  refine ⟨cs[i], by simp [hi], ?_⟩
  cases s with
  | num k =>
    obtain ⟨n, e1, -, wf⟩ := DataW.trod_int hfs ht
    exact ⟨n, by simpa using e1, wf⟩
  | boo =>
    obtain ⟨b, e1, -⟩ := DataW.trod_bool hfs ht
    exact ⟨b, by simpa using e1⟩
end
theorem list_of {α : Type} {cs : Array α} {n : Nat} (h : cs.size = n) : ∃ l : List α, cs = l.toArray ∧ l.length = n := ⟨cs.toList, rfl, by simpa using h⟩
theorem list2 {α : Type} {l : List α} (h : l.length = 2) : ∃ a b, l = [a, b] := by
  match l, h with
  | [a, b], _ => exact ⟨a, b, rfl⟩
theorem list3 {α : Type} {l : List α} (h : l.length = 3) : ∃ a b c, l = [a, b, c] := by
  match l, h with
  | [a, b, c], _ => exact ⟨a, b, c, rfl⟩
theorem list4 {α : Type} {l : List α} (h : l.length = 4) : ∃ a b c d, l = [a, b, c, d] := by
  match l, h with
  | [a, b, c, d], _ => exact ⟨a, b, c, d, rfl⟩
theorem list5 {α : Type} {l : List α} (h : l.length = 5) : ∃ a b c d e, l = [a, b, c, d, e] := by
  match l, h with
  | [a, b, c, d, e], _ => exact ⟨a, b, c, d, e, rfl⟩
theorem list6 {α : Type} {l : List α} (h : l.length = 6) : ∃ a b c d e f, l = [a, b, c, d, e, f] := by
  match l, h with
  | [a, b, c, d, e, f], _ => exact ⟨a, b, c, d, e, f, rfl⟩
end Go.Proofs.Ytdeohigggjfjjaa

/- Whatever comes to numbers and bools, structs in structs too: what its cells hold; a slice of such that came in. -/
namespace Go.Proofs.Ytdeohigggjfjjaa
open Go.RowKit Go.WideShapes Go.ChangeShapes Go.ChangeAt Go.Deep
set_option maxRecDepth 100000

/-- The cells of the fields from offset o on. -/
def flatF (P : Program) (g : TypeId → Option (List Sca)) : List Field → Nat → Option (List Sca)
  | [], _ => some []
  | f :: fs, o => if f.offset = o then (g f.type).bind fun ss => if P.cellsOf f.type = ss.length then (flatF P g fs (o + ss.length)).map fun r => ss ++ r else none else none
/-- The cells of a type, if all are numbers and bools. -/
def flatT (P : Program) : Nat → TypeId → Option (List Sca)
  | 0, _ => none
  | d + 1, t =>
    match P.underlying t with
    | some .bool => some [.boo]
    | some (.int k) => some [.num k]
    | some (.struct fs) => (flatF P (flatT P d) fs.toList 0).bind fun ss => if P.cellsOf t = ss.length then some ss else none
    | _ => none

/-- Each cell is of its kind. -/
def CellsOk (cs : List Value) (ss : List Sca) : Prop := ∀ (i : Nat) (s : Sca), ss[i]? = some s → ∃ v, cs[i]? = some v ∧ s.ok v

section
variable {H : Type} {enc : TypeId × Value → H} {P : Program} {w : World} {base : Nat} {spare : Nat → Bool} {held : Bool}

theorem open_fields {g : TypeId → Option (List Sca)} {n : Nat} (hg : ∀ {t ss} {cs : List Value} {x : DataW H × List MemPlace}, g t = some ss → DataW.trod enc P w base spare held n t cs = some x → CellsOk cs ss) (cs : List Value) :
    ∀ (fs : List Field) (o : Nat) (ss : List Sca), flatF P g fs o = some ss → (∀ f ∈ fs, ∃ y, DataW.trod enc P w base spare held n f.type ((cs.drop f.offset).take (P.cellsOf f.type)) = some y) → CellsOk (cs.drop o) ss
  | [], o, ss, h, _ => by
    simp [flatF] at h
    subst h
    intro i s e
    simp at e
  | f :: fs, o, ss, h, hf => by
    unfold flatF at h
    split at h
    · rename_i ho
      cases h1 : g f.type with
      | none => rw [h1] at h; cases h
      | some s1 =>
        rw [h1] at h
        simp only [Option.bind_some] at h
        split at h
        · rename_i hc
          cases h2 : flatF P g fs (o + s1.length) with
          | none => rw [h2] at h; cases h
          | some s2 =>
            rw [h2] at h
            obtain rfl : s1 ++ s2 = ss := by simpa using h
            obtain ⟨y, hy⟩ := hf f (by simp)
            rw [ho, hc] at hy
            have hk := hg h1 hy
            have hr := open_fields hg cs fs (o + s1.length) s2 h2 fun f' hf' => hf f' (by simp [hf'])
            intro i s e
            by_cases hi : i < s1.length
            · rw [List.getElem?_append_left hi] at e
              obtain ⟨v, hv, hs⟩ := hk i s e
              rw [List.getElem?_take_of_lt hi] at hv
              exact ⟨v, hv, hs⟩
            · rw [List.getElem?_append_right (by omega)] at e
              obtain ⟨v, hv, hs⟩ := hr _ s e
              refine ⟨v, ?_, hs⟩
              rw [List.getElem?_drop] at hv ⊢
              rw [← hv]
              congr 1
              omega
        · cases h
    · cases h

theorem open_cells : ∀ (d : Nat) {t : TypeId} {ss : List Sca} {fuel : Nat} {cs : List Value} {x : DataW H × List MemPlace}, flatT P d t = some ss → DataW.trod enc P w base spare held fuel t cs = some x → CellsOk cs ss
  | 0, _, _, _, _, _, h, _ => by simp [flatT] at h
  | d + 1, t, ss, fuel, cs, x, h, hx => by
    unfold flatT at h
    split at h
    · rename_i hu
      obtain ⟨b, rfl, _⟩ := DataW.trod_bool hu hx
      obtain rfl : [Sca.boo] = ss := by simpa using h
      intro i s e
      cases i with
      | zero => simp at e; subst e; exact ⟨_, rfl, b, rfl⟩
      | succ i => simp at e
    · rename_i k hu
      obtain ⟨n, rfl, _, hw⟩ := DataW.trod_int hu hx
      obtain rfl : [Sca.num k] = ss := by simpa using h
      intro i s e
      cases i with
      | zero => simp at e; subst e; exact ⟨_, rfl, n, rfl, hw⟩
      | succ i => simp at e
    · rename_i fs hu
      cases h1 : flatF P (flatT P d) fs.toList 0 with
      | none => rw [h1] at h; cases h
      | some s1 =>
        rw [h1] at h
        simp only [Option.bind_some] at h
        split at h
        · obtain rfl : s1 = ss := by simpa using h
          obtain ⟨xs, n, _, _, _, hl, hall⟩ := DataW.trod_struct hu hx
          have := open_fields (n := n) (fun {t ss cs x} h1 h2 => open_cells d h1 h2) cs fs.toList 0 s1 h1 fun f hf => by
            obtain ⟨i, hi, he⟩ := List.getElem_of_mem hf
            have hi' : i < fs.size := by simpa using hi
            have := hall i f (by simp [hi']; simpa using he)
            rw [this]
            exact ⟨xs[i]'(by omega), by simp [hl, hi']⟩
          simpa using this
        · cases h
    · cases h

/-- A slice that came in: each cell of each element. -/
theorem open_deep_row {t e : TypeId} {ss : List Sca} {d : Nat} {A : Option Addr} {len cap : Nat} {dt : DataW H} {p : List MemPlace} (ht : P.underlying t = some (.slice e)) (hss : flatT P d e = some ss) (ce : P.cellsOf e = ss.length) (h0 : 0 < ss.length)
    (h : DataW.Trod enc P w 0 (fun _ => true) true t (.slice A len cap) dt p) (hlt : ∀ x ∈ p, x.block < w.heap.size) :
    len ≤ maxLen ∧ (len = 0 ∨ ∃ b off, A = some ⟨b, off, none⟩ ∧ b < w.heap.size ∧ ∀ i, i < len → ∀ (j : Nat) (s : Sca), ss[j]? = some s → ∃ v, w.cell? ⟨b, off + i * ss.length + j, none⟩ = some v ∧ s.ok v) := by
  obtain ⟨fuel, hf⟩ := h
  rcases open_slice ht hf with ⟨hcs, hx⟩ | ⟨a, len', cap', m, n, D, Pl, hcs, _, hl, hm, hmm, hx, hall⟩
  · simp [Value.cells] at hcs
    obtain ⟨rfl, rfl, rfl⟩ := hcs
    exact ⟨Nat.zero_le _, .inl rfl⟩
  · simp [Value.cells] at hcs
    obtain ⟨rfl, rfl, rfl⟩ := hcs
    simp only [Prod.mk.injEq] at hx
    obtain ⟨rfl, rfl⟩ := hx
    simp only [if_true] at hmm
    subst hmm
    refine ⟨by omega, ?_⟩
    by_cases hz : len = 0
    · exact .inl hz
    · right
      have each : ∀ i, i < m → ∀ (j : Nat) (s : Sca), ss[j]? = some s → ∃ v, w.cell? (a.add (i * ss.length + j)) = some v ∧ s.ok v := fun i hi j s hs => by
        obtain ⟨cs', h1, h2⟩ := hall i hi
        obtain ⟨_, hlen, hcell⟩ := World.cells?_some h1
        obtain ⟨v, hv, hok⟩ := open_cells d hss h2 j s hs
        have hj : j < ss.length := (List.getElem?_eq_some_iff.1 hs).1
        have := hcell j (by omega)
        rw [add_add, ce, hv] at this
        exact ⟨v, this, hok⟩
      obtain ⟨b, off, spot⟩ := a
      have hspot : spot = none := by
        obtain ⟨v, hv, _⟩ := each 0 (by omega) 0 (ss[0]) (by simp [h0])
        simpa [Addr.add] using World.cell?_spot hv
      subst hspot
      refine ⟨b, off, rfl, hlt (.cell b off) (List.mem_append_left _ (MemPlace.mem_row.2 ⟨0, by rw [ce]; exact Nat.mul_pos (by omega) h0, by simp⟩)), fun i hi j s hs => ?_⟩
      obtain ⟨v, hv, hok⟩ := each i (by omega) j s hs
      rw [add_plain] at hv
      exact ⟨v, by rw [Nat.add_assoc]; exact hv, hok⟩
/-- A struct by value, structs in it too. -/
theorem open_deep {r : Reach} {b0 : Nat} {t : TypeId} {fs : Array Field} {ss : List Sca} {d : Nat} {v : Value} {dt : DataW H} {p : List MemPlace} (hs : P.underlying t = some (.struct fs)) (hss : flatT P d t = some ss) (hC : P.cellsOf t = ss.length)
    (hv : Value.okWide P w r b0 t v) (h : DataW.Trod enc P w base spare held t v dt p) :
    ∃ cs : Array Value, v = .agg cs ∧ cs.size = ss.length ∧ ∀ (i : Nat) (s : Sca), ss[i]? = some s → ∃ x, cs[i]? = some x ∧ s.ok x := by
  obtain ⟨cs, rfl, hsz⟩ := okWide_struct hs hv
  obtain ⟨fuel, hf⟩ := h
  refine ⟨cs, rfl, hsz.trans hC, fun i s e => ?_⟩
  obtain ⟨x, hx, hk⟩ := open_cells d hss hf i s e
  exact ⟨x, by simpa [Value.cells] using hx, hk⟩
end
end Go.Proofs.Ytdeohigggjfjjaa

/- Rows that came in: of whatever structs of numbers and bools; each element's cells. General. -/
namespace Go.Proofs.Ytdeohigggjfjjaa
open Go.RowKit Go.Maps Go.Deep
set_option maxRecDepth 100000

/-- From o on the block b holds vs. -/
def CellsAt (w : World) (b o : Nat) (vs : List Value) : Prop := ∀ (j : Nat) (v : Value), vs[j]? = some v → w.cell? ⟨b, o + j, none⟩ = some v
theorem CellsAt.below {w w' : World} {b o : Nat} {vs : List Value} (h : CellsAt w b o vs) (hb : Below w.heap.size w w') (hl : b < w.heap.size) : CellsAt w' b o vs := fun j v e => by
  rw [hb.cell (p := ⟨b, o + j, none⟩) hl]; exact h j v e
/-- A row of things of m cells. -/
def RowX {α : Type} [Inhabited α] (enc : α → List Value) (m : Nat) (w : World) (A : Option Addr) (xs : List α) : Prop :=
  xs = [] ∨ ∃ b off, A = some ⟨b, off, none⟩ ∧ b < w.heap.size ∧ ∀ i, i < xs.length → CellsAt w b (off + i * m) (enc (xs.getD i default))
theorem RowX.below {α : Type} [Inhabited α] {enc : α → List Value} {m : Nat} {w w' : World} {A : Option Addr} {xs : List α} (h : RowX enc m w A xs) (hb : Below w.heap.size w w') : RowX enc m w' A xs := by
  rcases h with h | ⟨b, off, rfl, hl, hc⟩
  · exact .inl h
  · exact .inr ⟨b, off, rfl, Nat.lt_of_lt_of_le hl hb.size, fun i hi => (hc i hi).below hb hl⟩
theorem open_rowX {α : Type} [Inhabited α] {enc : α → List Value} {Ok : α → Prop} {P : Program} {H : Type} {en : TypeId × Value → H} {W : World} {t e : TypeId} {ss : List Sca} {dd : Nat} {A : Option Addr} {len cap : Nat} {d : DataW H} {p : List MemPlace}
    (ht : P.underlying t = some (.slice e)) (hss : flatT P dd e = some ss) (ce : P.cellsOf e = ss.length) (h0 : 0 < ss.length)
    (hdec : ∀ (w : World) (b o : Nat), (∀ (j : Nat) (s : Sca), ss[j]? = some s → ∃ v, w.cell? ⟨b, o + j, none⟩ = some v ∧ s.ok v) → ∃ r : α, CellsAt w b o (enc r) ∧ Ok r)
    (h : DataW.Trod en P W 0 (fun _ => true) true t (.slice A len cap) d p) (hlt : ∀ x ∈ p, x.block < W.heap.size) :
    ∃ xs : List α, xs.length = len ∧ len ≤ maxLen ∧ (∀ r ∈ xs, Ok r) ∧ RowX enc ss.length W A xs := by
  obtain ⟨hm, hz | ⟨b, off, rfl, hb, hall⟩⟩ := open_deep_row ht hss ce h0 h hlt
  · exact ⟨[], hz.symm, hm, by simp, .inl rfl⟩
  · have each : ∀ i, i < len → ∃ r : α, CellsAt W b (off + i * ss.length) (enc r) ∧ Ok r := fun i hi => hdec W b _ (hall i hi)
    obtain ⟨f, hf⟩ := choose_lt each
    refine ⟨(List.range len).map f, by simp, hm, fun r hr => ?_, ?_⟩
    · obtain ⟨i, hi, rfl⟩ := List.mem_map.1 hr
      exact (hf i (by simpa using hi)).2
    · refine .inr ⟨b, off, rfl, hb, fun i hi => ?_⟩
      have hi' : i < len := by simpa using hi
      have e : ((List.range len).map f).getD i default = f i := by simp [hi']
      rw [e]
      exact (hf i hi').1
end Go.Proofs.Ytdeohigggjfjjaa

/- Structs of three ints: what their cells hold; rows of them that a call reads, its own, blocks of them, new ones. General. -/
namespace Go.Proofs.Ytdeohigggjfjjaa
open Go.RowKit Go.Maps Go.Deep
set_option maxRecDepth 100000

abbrev Trip := Int × Int × Int
def enc3 (x : Trip) : List Value := [.int .i64 x.1, .int .i64 x.2.1, .int .i64 x.2.2]
def tv (x : Trip) : Value := .agg #[.int .i64 x.1, .int .i64 x.2.1, .int .i64 x.2.2]
def t0 : Trip := (0, 0, 0)
theorem t0_default : (default : Trip) = t0 := rfl
def flat3 (l : List Trip) : List Value := l.flatMap enc3
theorem flat3_length (l : List Trip) : (flat3 l).length = l.length * 3 := by
  induction l with
  | nil => rfl
  | cons x l ih => simp [flat3, enc3] at *; omega
theorem flat3_append (l m : List Trip) : flat3 (l ++ m) = flat3 l ++ flat3 m := by simp [flat3]
theorem flat3_get (l : List Trip) : ∀ (j c : Nat), j < l.length → c < 3 → (flat3 l)[j * 3 + c]? = (enc3 (l.getD j t0))[c]? := by
  induction l with
  | nil => intro j c h; simp at h
  | cons x l ih =>
    intro j c hj hc
    have e : flat3 (x :: l) = enc3 x ++ flat3 l := by simp [flat3]
    cases j with
    | zero => rw [e, List.getElem?_append_left (by simp [enc3]; omega)]; simp
    | succ j =>
      rw [e, List.getElem?_append_right (by simp [enc3]; omega)]
      have := ih j c (by simpa using hj) hc
      have e2 : (j + 1) * 3 + c - (enc3 x).length = j * 3 + c := by simp [enc3]; omega
      rw [e2, this]
      simp
theorem flat3_set (x : Trip) : ∀ (l : List Trip) (k : Nat), k < l.length → flat3 (l.set k x) = (((flat3 l).set (k * 3) (.int .i64 x.1)).set (k * 3 + 1) (.int .i64 x.2.1)).set (k * 3 + 2) (.int .i64 x.2.2)
  | [], k, h => by simp at h
  | y :: l, k, h => by
    have e : ∀ (z : Trip) (m : List Trip), flat3 (z :: m) = .int .i64 z.1 :: .int .i64 z.2.1 :: .int .i64 z.2.2 :: flat3 m := fun z m => by simp [flat3, enc3]
    cases k with
    | zero => simp [e]
    | succ k =>
      have ih := flat3_set x l k (by simpa using h)
      rw [List.set_cons_succ, e, e, ih]
      rw [show (k + 1) * 3 = k * 3 + 3 by omega]
      simp
theorem flat3_zero (n : Nat) : flat3 (List.replicate n t0) = List.replicate (n * 3) (.int .i64 0) := by
  induction n with
  | zero => rfl
  | succ n ih =>
    have e : flat3 (List.replicate (n + 1) t0) = enc3 t0 ++ flat3 (List.replicate n t0) := by simp [flat3, List.replicate_succ]
    rw [e, ih, show (n + 1) * 3 = n * 3 + 3 by omega]
    simp [enc3, t0, List.replicate_succ]

/-! ### rows that are read -/
theorem at3 {w : World} {b o : Nat} {x y z : Int} (h : CellsAt w b o (enc3 (x, y, z))) : w.cell? ⟨b, o, none⟩ = some (.int .i64 x) ∧ w.cell? ⟨b, o + 1, none⟩ = some (.int .i64 y) ∧ w.cell? ⟨b, o + 2, none⟩ = some (.int .i64 z) :=
  ⟨h 0 _ rfl, h 1 _ rfl, h 2 _ rfl⟩
/-- A row of such, wherever it lies. -/
abbrev Row3 (w : World) (A : Option Addr) (xs : List Trip) : Prop := RowX enc3 3 w A xs
/-- Its block. -/
def In3 (A : Option Addr) (k : Nat) : Prop := ∃ off, A = some ⟨k, off, none⟩
theorem CellsAt.kept {w w' : World} {b o : Nat} {vs : List Value} (h : CellsAt w b o vs) (hb : w'.heap[b]? = w.heap[b]?) : CellsAt w' b o vs := fun j v e => by
  rw [World.cell?_of_block (w := w) hb]; exact h j v e
theorem Row3.kept {w w' : World} {A : Option Addr} {xs : List Trip} (h : Row3 w A xs) (hk : ∀ k, In3 A k → w'.heap[k]? = w.heap[k]?) (hs : w.heap.size ≤ w'.heap.size) : Row3 w' A xs := by
  rcases h with h | ⟨b, off, rfl, hl, hc⟩
  · exact .inl h
  · exact .inr ⟨b, off, rfl, Nat.lt_of_lt_of_le hl hs, fun i hi => (hc i hi).kept (hk b ⟨off, rfl⟩)⟩
theorem Blk.row3 {w : World} {g : Nat} {l : List Trip} (h : Blk 0 w g (flat3 l)) : Row3 w (some ⟨g, 0, none⟩) l := by
  refine .inr ⟨g, 0, rfl, h.1, fun i hi j v e => ?_⟩
  have hj : j < 3 := by have := (List.getElem?_eq_some_iff.1 e).1; simpa [enc3] using this
  rw [Nat.zero_add, h.rule, flat3_get l i j hi hj, ← t0_default]
  exact e
theorem owns_row3 {w : World} {b : Nat} {e : TypeId} {A : Option Addr} {cap : Nat} {l : List Trip} (h : w.ownsRow b e 3 (.slice A l.length cap) l.length (flat3 l)) : Row3 w A l := by
  rcases h.2 with ⟨_, h0⟩ | ⟨g, cap', cur, hv, _, hg, hn, hc, hcs, htk⟩
  · exact .inl (List.eq_nil_of_length_eq_zero h0)
  · simp only [Value.slice.injEq] at hv
    obtain ⟨rfl, -, rfl⟩ := hv
    refine .inr ⟨g, 0, rfl, (Array.getElem?_eq_some_iff.1 hg).1, fun i hi j v e => ?_⟩
    have hj : j < 3 := by have := (List.getElem?_eq_some_iff.1 e).1; simpa [enc3] using this
    have h1 := flat3_get l i j hi hj
    rw [← t0_default, e, ← htk, List.getElem?_take_of_lt (by omega)] at h1
    rw [Nat.zero_add]
    simp only [World.cell?, hg]
    simpa using h1
theorem Row3.nil {w : World} : Row3 w none [] := .inl rfl
theorem Row3.news {w : World} {ad : Addr} {xs : List Trip} (h : Row3 w (some ad) xs) : ∀ j u, (flat3 xs)[j]? = some u → w.cell? (ad.add j) = some u := by
  intro j u hu
  rcases h with rfl | ⟨b, off, he, hl, hc⟩
  · simp [flat3] at hu
  · cases he
    have hj : j < xs.length * 3 := by rw [← flat3_length]; exact (List.getElem?_eq_some_iff.1 hu).1
    have e : (⟨b, off, none⟩ : Addr).add j = ⟨b, off + j, none⟩ := by unfold Addr.add; split <;> simp_all
    have e2 : j / 3 * 3 + j % 3 = j := by omega
    have h1 := hc (j / 3) (by omega) (j % 3) u (by rw [t0_default, ← flat3_get xs (j / 3) (j % 3) (by omega) (Nat.mod_lt _ (by omega)), e2, hu])
    rw [e]
    rwa [Nat.add_assoc, e2] at h1
theorem flat3_one (l : List Trip) : ∀ u ∈ flat3 l, u.oneCell' = true := fun x hx => by
  obtain ⟨o, _, ho⟩ := List.mem_flatMap.1 hx
  simp [enc3] at ho
  rcases ho with rfl | rfl | rfl <;> rfl

/-! ### a block of them: one written; a new one -/
theorem Blk.set3 {m n k : Nat} {l : List Trip} {w : World} (h : Blk m w n (flat3 l)) (hk : k < l.length) (x : Trip) :
    Blk m (((w.setCell ⟨n, k * 3, none⟩ (.int .i64 x.1)).setCell ⟨n, k * 3 + 1, none⟩ (.int .i64 x.2.1)).setCell ⟨n, k * 3 + 2, none⟩ (.int .i64 x.2.2)) n (flat3 (l.set k x)) := by
  rw [flat3_set x l k hk]
  have hl := flat3_length l
  exact ((h.set (by omega) _).set (by simp; omega) _).set (by simp; omega) _
theorem made3 (n : Nat) : madeCells (tv t0).cells (n * 3) = (flat3 (List.replicate n t0)).toArray := by
  rw [flat3_zero]
  apply Array.ext
  · simp [size_madeCells]
  · intro i h1 h2
    have : i % 3 = 0 ∨ i % 3 = 1 ∨ i % 3 = 2 := by omega
    simp only [madeCells, Array.getElem_map, Array.getElem_range, tv, t0, Value.cells, List.getElem_toArray, List.getElem_replicate]
    rcases this with h | h | h <;> simp [h]
theorem run_make3 {P : Program} (t e : TypeId) (ht : P.underlying t = some (.slice e)) (hinfo : (P.info? e).map (fun i => (i.zero, i.size, i.bytes)) = some (some (tv t0), 3, 24))
    (kl kc : IntKind) (n : Nat) (hn : n ≤ 1099511627776) (w : World) :
    (Instr.makeSlice t (.int kl (n : Int)) (.int kc (n : Int))).run P w = .ok (.slice (some ⟨w.heap.size, 0, none⟩) n n) (w.alloc (.cells (flat3 (List.replicate n t0)).toArray e)) := by
  obtain ⟨i, hi, hzz⟩ := Option.map_eq_some_iff.1 hinfo
  simp only [Prod.mk.injEq] at hzz
  obtain ⟨hz, hs, hb⟩ := hzz
  have hr := run_make (P := P) w t e i (tv t0) ht hi hz kl kc n n (by omega) (Int.le_refl _) (by rw [hb]; omega) (by omega)
  simp only [Int.toNat_natCast, hs, made3] at hr
  exact hr
theorem wpList_make3 {P : Program} (w : World) {ops : Array Oper} {rest : List Oper} {o : Oper} {a : Act} {Q : Exit → Act → World → Prop}
    (hg : o.guard = none) (l c : Operand) (t : TypeId) (hop : o.op = Op.makeSlice t l c)
    (e : TypeId) (ht : P.underlying t = some (.slice e)) (hinfo : (P.info? e).map (fun i => (i.zero, i.size, i.bytes)) = some (some (tv t0), 3, 24))
    (kl kc : IntKind) (N M : Int) (n : Nat) (hl : a.eval l = .int kl N) (hc : a.eval c = .int kc M) (hN : N = (n : Int)) (hM : M = (n : Int)) (hn : n ≤ 1099511627776)
    (hK : wpList P ops Q rest (a.put o.dst (.slice (some ⟨w.heap.size, 0, none⟩) n n)) (w.alloc (.cells (flat3 (List.replicate n t0)).toArray e))) :
    wpList P ops Q (o :: rest) a w := by
  refine wpList_plain hg fun K hK' => ?_
  subst hN
  subst hM
  have hrun := run_make3 (P := P) t e ht hinfo kl kc n hn w
  unfold Oper.wp
  simp [execOp, hop, hl, hc, hrun, Result.andThen]
  exact hK' _ _ hK

/-! ### among others -/
section
variable {w0 w w' : World} {L : List Item}
/-- A row of its own, appended to. -/
def row3I (v : Value) (e : TypeId) (l : List Trip) : Item := rowI v e 3 l.length (flat3 l)
theorem Env.row3 (h : Env w0 L w) (i : Nat) {v : Value} {e : TypeId} {l : List Trip} (hi : L[i]? = some (row3I v e l)) : w.ownsRow 0 e 3 v l.length (flat3 l) := h.get i hi
theorem Env.cells3 (h : Env w0 L w) (i : Nat) {A : Option Addr} {n cap : Nat} {e : TypeId} {l : List Trip} (hn : n = l.length) (hi : L[i]? = some (row3I (.slice A n cap) e l)) : Row3 w A l := by subst hn; exact owns_row3 (h.row3 i hi)
theorem Env.addRow3 (h : Env w0 L w) {v : Value} {e : TypeId} {l : List Trip} (ho : w'.ownsRow w.heap.size e 3 v l.length (flat3 l)) (hb : Below w.heap.size w w') : Env w0 (row3I v e l :: L) w' :=
  h.add (row3I v e l) hb (ownsRow_base ho (Nat.zero_le _)) fun k hk => ho.lt k hk
theorem Env.addEmpty3 (h : Env w0 L w) (n : Nat) (hn : w.heap.size = n) (e : TypeId) : Env w0 (row3I (.slice (some ⟨n, 0, none⟩) 0 0) e [] :: L) (w.alloc (.cells #[] e)) := by
  subst hn
  exact h.addRow3 (v := .slice (some ⟨w.heap.size, 0, none⟩) 0 0) (l := []) ⟨rfl, .inr ⟨w.heap.size, 0, #[], rfl, Nat.le_refl _, heap_alloc_new w _, Nat.le_refl _, Nat.zero_le _, rfl, rfl⟩⟩ ((Below.refl _ _).alloc (Nat.le_refl _) _)
theorem Env.addNone3 (h : Env w0 L w) (e : TypeId) : Env w0 (row3I (.slice none 0 0) e [] :: L) w :=
  h.add (row3I (.slice none 0 0) e []) (Below.refl _ _) (World.ownsRow_nil _ _ _ _) fun k hk => by cases hk
/-- A row appended to a row of its own. -/
theorem Env.append3 {P : Program} (h : Env w0 L w) (i : Nat) {v : Value} {e : TypeId} {l xs : List Trip} (hi : L[i]? = some (row3I v e l)) (t ty : TypeId) (ht : P.underlying t = some (.slice e)) (hinfo : (P.info? e).map (fun i => (i.zero, i.size, i.bytes)) = some (some (tv t0), 3, 24))
    {A : Option Addr} (c : Nat) (hx : Row3 w A xs) (hz : l.length + xs.length ≤ 1048576) :
    ∃ A' c' w', (Builtin.append_ #[t, t] ty #[v, .slice A xs.length c]).run P w = .ok (.slice A' (l.length + xs.length) c') w' ∧ Env w0 (L.set i (row3I (.slice A' (l.length + xs.length) c') e (l ++ xs))) w' ∧ Step (fun k => v.ownBlock = some k) (fun k => (Value.slice A' (l.length + xs.length) c').ownBlock = some k) w w' := by
  obtain ⟨i0, hi0, hzz⟩ := Option.map_eq_some_iff.1 hinfo
  simp only [Prod.mk.injEq] at hzz
  obtain ⟨hz0, hs, hb⟩ := hzz
  have hown := h.row3 i hi
  obtain ⟨v', w', hrun, ho, hg, hv⟩ := run_append_rows (P := P) t ty 0 e i0 (tv t0) 3 24 ht hi0 hz0 hs hb rfl (by decide) w v l.length (flat3 l) hown A xs.length c (flat3 xs) (flat3_length xs)
    (by
      cases A with
      | none =>
        left
        rcases hx with rfl | ⟨b, off, he, _⟩
        · exact ⟨rfl, rfl⟩
        · cases he
      | some ad => exact .inr ⟨ad, rfl, Row3.news hx⟩) (flat3_one xs) (by simp [maxLen]; omega) (by omega) (Nat.zero_le _)
  obtain ⟨A', c', rfl⟩ := ownsRow_slice ho
  have hst : Step (fun k => v.ownBlock = some k) (fun k => (Value.slice A' (l.length + xs.length) c').ownBlock = some k) w w' := ⟨(Turn.refl _ w).grown hg fun k _ e => e, fun k hk => by
    rcases hv with e | e
    · exact .inl (by rw [← e]; exact hk)
    · right
      rw [e] at hk
      cases hk
      exact Nat.le_refl _⟩
  refine ⟨A', c', w', hrun, h.step i (row3I _ e (l ++ xs)) hi hst ?_ ?_, hst⟩
  · show w'.ownsRow 0 e 3 _ (l ++ xs).length (flat3 (l ++ xs))
    rw [List.length_append, flat3_append]
    exact ho
  · exact ownsRow_lt ho
/-- .. its length told of the whole. -/
theorem Env.append3' {P : Program} (h : Env w0 L w) (i : Nat) {v : Value} {e : TypeId} {l xs : List Trip} (hi : L[i]? = some (row3I v e l)) (t ty : TypeId) (ht : P.underlying t = some (.slice e)) (hinfo : (P.info? e).map (fun i => (i.zero, i.size, i.bytes)) = some (some (tv t0), 3, 24))
    {A : Option Addr} {n : Nat} (c : Nat) (hn : n = xs.length) (hx : Row3 w A xs) (hz : l.length + xs.length ≤ 1048576) :
    ∃ A' c' w', (Builtin.append_ #[t, t] ty #[v, .slice A n c]).run P w = .ok (.slice A' (l ++ xs).length c') w' ∧ Env w0 (L.set i (row3I (.slice A' (l ++ xs).length c') e (l ++ xs))) w' := by
  subst hn
  obtain ⟨A', c', w', h1, h2, -⟩ := h.append3 i hi t ty ht hinfo c hx hz
  rw [← List.length_append] at h1 h2
  exact ⟨A', c', w', h1, h2⟩
/-- What stands first takes another one's place. -/
theorem Env.into (j : Nat) {a : Item} (h : Env w0 (a :: L) w) : Env w0 (L.set j a) w := by
  rcases Nat.lt_or_ge j L.length with hj | hj
  · have hp : (L.set j a).Perm (a :: L.eraseIdx j) := by
      rw [List.set_eq_take_append_cons_drop, if_pos hj, List.eraseIdx_eq_take_drop_succ]
      exact List.perm_middle
    have h1 : Env w0 (a :: L.eraseIdx j) w := h.sub (.cons_cons _ (List.eraseIdx_sublist L j))
    exact ⟨h1.1, (hp.symm.pairwise_iff (fun h => Off.symm h)).1 h1.2.1, fun b hb => h1.2.2 b (hp.mem_iff.1 hb)⟩
  · rw [List.set_eq_of_length_le hj]
    exact h.sub (.cons _ (List.Sublist.refl _))
/-- A row that this call neither made nor turns. -/
theorem Env.seen3 (h : Env w0 L w) {A : Option Addr} {xs : List Trip} (hr : Row3 w0 A xs) : Row3 w A xs := RowX.below hr h.below
end
end Go.Proofs.Ytdeohigggjfjjaa

/- Rows of the call's own, of structs of k cells each: appended to, read. General. -/
namespace Go.Proofs.Ytdeohigggjfjjaa
open Go.RowKit Go.Maps
set_option maxRecDepth 100000

section
variable {α : Type} {enc : α → List Value} {k : Nat}
def flatK (enc : α → List Value) (l : List α) : List Value := l.flatMap enc
theorem flatK_length (hk : ∀ x, (enc x).length = k) (l : List α) : (flatK enc l).length = l.length * k := by
  induction l with
  | nil => simp [flatK]
  | cons x l ih =>
    have e : flatK enc (x :: l) = enc x ++ flatK enc l := by simp [flatK]
    rw [e, List.length_append, ih, hk, List.length_cons, Nat.add_mul]
    omega
theorem flatK_append (a b : List α) : flatK enc (a ++ b) = flatK enc a ++ flatK enc b := by simp [flatK]
theorem flatK_get [Inhabited α] (hk : ∀ x, (enc x).length = k) : ∀ (l : List α) (j c : Nat), j < l.length → c < k → (flatK enc l)[j * k + c]? = (enc (l.getD j default))[c]? := by
  intro l
  induction l with
  | nil => intro j c h; simp at h
  | cons x l ih =>
    intro j c hj hc
    have e : flatK enc (x :: l) = enc x ++ flatK enc l := by simp [flatK]
    cases j with
    | zero => rw [e, List.getElem?_append_left (by rw [hk]; omega)]; simp
    | succ j =>
      have e3 : (j + 1) * k = j * k + k := by rw [Nat.add_mul, Nat.one_mul]
      rw [e, List.getElem?_append_right (by rw [hk]; omega)]
      have := ih j c (by simpa using hj) hc
      have e2 : (j + 1) * k + c - (enc x).length = j * k + c := by rw [hk]; omega
      rw [e2, this]
      simp
theorem RowX.news [Inhabited α] (hk : ∀ x, (enc x).length = k) (hk0 : 0 < k) {w : World} {ad : Addr} {xs : List α} (h : RowX enc k w (some ad) xs) : ∀ j u, (flatK enc xs)[j]? = some u → w.cell? (ad.add j) = some u := by
  intro j u hu
  rcases h with rfl | ⟨b, off, he, hl, hc⟩
  · simp [flatK] at hu
  · cases he
    have hj : j < xs.length * k := by rw [← flatK_length hk]; exact (List.getElem?_eq_some_iff.1 hu).1
    have e : (⟨b, off, none⟩ : Addr).add j = ⟨b, off + j, none⟩ := by unfold Addr.add; split <;> simp_all
    have e2 : j / k * k + j % k = j := by rw [Nat.mul_comm]; exact Nat.div_add_mod j k
    have hlt : j / k < xs.length := (Nat.div_lt_iff_lt_mul hk0).2 hj
    have h1 := hc (j / k) hlt (j % k) u (by rw [← flatK_get hk xs (j / k) (j % k) hlt (Nat.mod_lt _ hk0), e2, hu])
    rw [e]
    rwa [Nat.add_assoc, e2] at h1
theorem Blk.rowK [Inhabited α] (hk : ∀ x, (enc x).length = k) {w : World} {g : Nat} {l : List α} (h : Blk 0 w g (flatK enc l)) : RowX enc k w (some ⟨g, 0, none⟩) l := by
  refine .inr ⟨g, 0, rfl, h.1, fun i hi j v e => ?_⟩
  have hj : j < k := by have := (List.getElem?_eq_some_iff.1 e).1; rw [hk] at this; exact this
  rw [Nat.zero_add, h.rule, flatK_get hk l i j hi hj]
  exact e
theorem owns_rowK [Inhabited α] (hk : ∀ x, (enc x).length = k) {w : World} {b : Nat} {e : TypeId} {A : Option Addr} {cap : Nat} {l : List α} (h : w.ownsRow b e k (.slice A l.length cap) l.length (flatK enc l)) : RowX enc k w A l := by
  rcases h.2 with ⟨_, h0⟩ | ⟨g, cap', cur, hv, _, hg, hn, hc, hcs, htk⟩
  · exact .inl (List.eq_nil_of_length_eq_zero h0)
  · simp only [Value.slice.injEq] at hv
    obtain ⟨rfl, -, rfl⟩ := hv
    refine .inr ⟨g, 0, rfl, (Array.getElem?_eq_some_iff.1 hg).1, fun i hi j v e => ?_⟩
    have hj : j < k := by have := (List.getElem?_eq_some_iff.1 e).1; rw [hk] at this; exact this
    have h1 := flatK_get hk l i j hi hj
    have hlt : i * k + j < l.length * k := by
      have : (i + 1) * k ≤ l.length * k := Nat.mul_le_mul_right k hi
      rw [Nat.add_mul] at this
      omega
    rw [e, ← htk, List.getElem?_take_of_lt hlt] at h1
    rw [Nat.zero_add]
    simp only [World.cell?, hg]
    simpa using h1
/-- A row of its own, appended to. -/
def rowKI (enc : α → List Value) (k : Nat) (v : Value) (e : TypeId) (l : List α) : Item := rowI v e k l.length (flatK enc l)
variable {w0 w w' : World} {L : List Item}
theorem Env.rowK (h : Env w0 L w) (i : Nat) {v : Value} {e : TypeId} {l : List α} (hi : L[i]? = some (rowKI enc k v e l)) : w.ownsRow 0 e k v l.length (flatK enc l) := h.get i hi
theorem Env.cellsK [Inhabited α] (hk : ∀ x, (enc x).length = k) (h : Env w0 L w) (i : Nat) {A : Option Addr} {n cap : Nat} {e : TypeId} {l : List α} (hn : n = l.length) (hi : L[i]? = some (rowKI enc k (.slice A n cap) e l)) : RowX enc k w A l := by subst hn; exact owns_rowK hk (h.rowK i hi)
theorem Env.addEmptyK (h : Env w0 L w) (n : Nat) (hn : w.heap.size = n) (e : TypeId) : Env w0 (rowKI enc k (.slice (some ⟨n, 0, none⟩) 0 0) e [] :: L) (w.alloc (.cells #[] e)) := by
  subst hn
  have ho : (w.alloc (.cells #[] e)).ownsRow w.heap.size e k (.slice (some ⟨w.heap.size, 0, none⟩) 0 0) 0 (flatK enc []) := ⟨by simp [flatK], .inr ⟨w.heap.size, 0, #[], rfl, Nat.le_refl _, heap_alloc_new w _, Nat.le_refl _, by simp, by simp, by simp [flatK]⟩⟩
  exact h.add (rowKI enc k (.slice (some ⟨w.heap.size, 0, none⟩) 0 0) e []) ((Below.refl _ _).alloc (Nat.le_refl _) _) (ownsRow_base ho (Nat.zero_le _)) fun k hk => ho.lt k hk
/-- A row appended to a row of its own. -/
theorem Env.appendK [Inhabited α] (hk : ∀ x, (enc x).length = k) (hk0 : 0 < k) (hone : ∀ x, ∀ u ∈ enc x, u.oneCell' = true) {P : Program} (h : Env w0 L w) (i : Nat) {v : Value} {e : TypeId} {l xs : List α} (hi : L[i]? = some (rowKI enc k v e l)) (t ty : TypeId) (ht : P.underlying t = some (.slice e))
    {zz : Value} {bytes : Nat} (hzz0 : zz.cells.size = k) (hinfo : (P.info? e).map (fun i => (i.zero, i.size, i.bytes)) = some (some zz, k, bytes))
    {A : Option Addr} (c : Nat) (hx : RowX enc k w A xs) (hA : A = none → xs = []) (hz : l.length + xs.length ≤ maxLen) (hby : (l.length + xs.length) * bytes ≤ 140737488355328) :
    ∃ A' c' w', (Builtin.append_ #[t, t] ty #[v, .slice A xs.length c]).run P w = .ok (.slice A' (l.length + xs.length) c') w' ∧ Env w0 (L.set i (rowKI enc k (.slice A' (l.length + xs.length) c') e (l ++ xs))) w' := by
  obtain ⟨i0, hi0, hzz⟩ := Option.map_eq_some_iff.1 hinfo
  simp only [Prod.mk.injEq] at hzz
  obtain ⟨hz0, hs, hb⟩ := hzz
  have hown := h.rowK i hi
  obtain ⟨v', w', hrun, ho, hg, hv⟩ := run_append_rows (P := P) t ty 0 e i0 zz k bytes ht hi0 hz0 hs hb hzz0 hk0 w v l.length (flatK enc l) hown A xs.length c (flatK enc xs) (flatK_length hk xs)
    (by
      cases A with
      | none =>
        left
        have := hA rfl
        subst this
        exact ⟨rfl, rfl⟩
      | some ad => exact .inr ⟨ad, rfl, RowX.news hk hk0 hx⟩) (fun u hu => by
        obtain ⟨x, _, hx2⟩ := List.mem_flatMap.1 hu
        exact hone x u hx2) hz hby (Nat.zero_le _)
  obtain ⟨A', c', rfl⟩ := ownsRow_slice ho
  have hst : Step (fun k => v.ownBlock = some k) (fun k => (Value.slice A' (l.length + xs.length) c').ownBlock = some k) w w' := ⟨(Turn.refl _ w).grown hg fun k _ e => e, fun k hk => by
    rcases hv with e | e
    · exact .inl (by rw [← e]; exact hk)
    · right
      rw [e] at hk
      cases hk
      exact Nat.le_refl _⟩
  refine ⟨A', c', w', hrun, h.step i (rowKI enc k _ e (l ++ xs)) hi hst ?_ ?_⟩
  · show w'.ownsRow 0 e k _ (l ++ xs).length (flatK enc (l ++ xs))
    rw [List.length_append, flatK_append]
    exact ho
  · exact ownsRow_lt ho
end
end Go.Proofs.Ytdeohigggjfjjaa

/- The document's answer for layer 21: pairs in a row; Get. -/
namespace Go.Proofs.Ytdeohigggjfjjaa
open Go.RowKit Go.Maps
set_option maxRecDepth 100000

def lookM : List (Int × Int) → Int → Int × Bool
  | [], _ => (0, false)
  | p :: l, k => if p.1 = k then (p.2, true) else lookM l k
theorem RowX.pairs {w : World} {A : Option Addr} {S : List (Int × Int)} (h : RowX encP 2 w A S) {i : Nat} (hi : i < S.length) : ∃ g off, A = some ⟨g, off, none⟩ ∧ g < w.heap.size ∧ ∀ j, j < S.length → w.cell? ⟨g, off + j * 2, none⟩ = some (.int .u64 (S.getD j (0, 0)).1) ∧ w.cell? ⟨g, off + j * 2 + 1, none⟩ = some (.int .u64 (S.getD j (0, 0)).2) := by
  rcases h with rfl | ⟨b, off, rfl, hl, hc⟩
  · simp at hi
  · exact ⟨b, off, rfl, hl, fun j hj => ⟨by have := hc j hj 0 (.int .u64 (S.getD j (0, 0)).1) rfl; simpa using this, by have := hc j hj 1 (.int .u64 (S.getD j (0, 0)).2) rfl; simpa using this⟩⟩
theorem drop_at {S : List (Int × Int)} {i : Nat} (hi : i < S.length) : S.drop i = S.getD i (0, 0) :: S.drop (i + 1) := by
  rw [List.drop_eq_getElem_cons hi, List.getD_eq_getElem?_getD, List.getElem?_eq_getElem hi]
  rfl
set_option maxHeartbeats 1600000 in
theorem get_r {A : Option Addr} {cap : Nat} {M : List (Int × Int)} {w : World} (hm : M.length ≤ 1000000) (hr : RowX encP 2 w A M) (k : Int) :
    Calls Try.prog 12 #[.agg #[.slice A M.length cap], .int .u64 k] w fun e w' => e = .returned (.tuple #[.int .u64 (lookM M k).1, .bool (lookM M k).2]) ∧ Below w.heap.size w w' := by
  have hF := (Fr.start w).push w.heap.size rfl [.slice A M.length cap] 32
  have hr' := hr.below ((Below.refl _ w).alloc (Nat.le_refl _) (.cells [Value.slice A M.length cap].toArray 32))
  have HR := Lib.hid hr'
  have r := hF.rule 0 rfl
  clear hr hr'
  have HK : Hid (lookM M k = lookM (M.drop 0) k) := Lib.hid rfl
  generalize hX : lookM M k = X at *
  have HX := Lib.hid hX
  clear hX
  generalize hnn : M.length = n at *
  have HN := Lib.hid hnn
  clear hnn
  go_enter Try.func12, Try.ntmps12
  go_wp2_with fail
  have hwe : ∃ w1, w1 = w.alloc (.cells #[.slice A n cap] 32) := ⟨_, rfl⟩
  obtain ⟨w1, hw1⟩ := hwe
  rw [← hw1]
  have hF1 : Fr w [(w.heap.size, [.slice A n cap])] w1 := by rw [hw1]; exact hF
  have HR1 : Hid (RowX encP 2 w1 A M) := Lib.hid (by rw [hw1]; exact HR.out)
  clear hF HR r hw1
  have r := hF1.rule 0 rfl
  go_loopg [6] (n + 1) (fun kx s6 wr => wr = w1 ∧ ∃ i : Nat, s6 = .int .i64 i ∧ i ≤ n ∧ n - i ≤ kx ∧ Hid (X = lookM (M.drop i) k))
  case atStart => exact ⟨rfl, 0, rfl, Nat.zero_le _, by omega, HK⟩
  case round =>
    obtain ⟨rfl, i, rfl, hi, hk, hI⟩ := hrel
    by_cases hlt : i < n
    · obtain ⟨g, off, rfl, hg, hcell⟩ := HR1.out.pairs (i := i) (by rw [HN.out]; exact hlt)
      obtain ⟨c1, c2⟩ := hcell i (by rw [HN.out]; exact hlt)
      have hd := drop_at (S := M) (i := i) (by rw [HN.out]; exact hlt)
      have hp : ∃ p, M.getD i (0, 0) = p := ⟨_, rfl⟩
      obtain ⟨⟨x, y⟩, hp⟩ := hp
      rw [hp] at c1 c2 hd
      have hI2 := hI.out
      rw [hd] at hI2
      have HI2 := Lib.hid hI2
      clear hI2 hd hp hcell
      by_cases hx : x = k
      · subst hx
        have hXX : X = (y, true) := by rw [HI2.out]; simp [lookM]
        subst hXX
        go_wp2_with fail
        (try simp only [Exit.inBlock, Exit.then])
        go_ret2
        exact ⟨rfl, hF1.below⟩
      · have hxk : (x == k) = false := by simpa using hx
        go_wp2_with fail
        go_roundg (n - (i + 1))
        case measure => omega
        case rel => exact ⟨rfl, i + 1, by simp, by omega, Nat.le_refl _, Lib.hid (by rw [HI2.out]; simp [lookM, hx])⟩
    · have hXX : X = (0, false) := by
        rw [hI.out, List.drop_eq_nil_of_le (by rw [HN.out]; omega)]; rfl
      subst hXX
      go_wp2_with fail
      go_ret2
      exact ⟨rfl, hF1.below⟩
end Go.Proofs.Ytdeohigggjfjjaa

/- The document's answer for layer 21: Without, With. -/
namespace Go.Proofs.Ytdeohigggjfjjaa
open Go.RowKit Go.Maps
set_option maxRecDepth 100000

def remM (M : List (Int × Int)) (k : Int) : List (Int × Int) := M.filter fun p => decide (p.1 ≠ k)
theorem rem_take (M : List (Int × Int)) (k : Int) {i : Nat} (hi : i < M.length) : remM (M.take (i + 1)) k = remM (M.take i) k ++ (if (M.getD i (0, 0)).1 = k then [] else [M.getD i (0, 0)]) := by
  have e : M.take (i + 1) = M.take i ++ [M.getD i (0, 0)] := by
    rw [List.take_add_one, List.getElem?_eq_getElem hi, List.getD_eq_getElem?_getD, List.getElem?_eq_getElem hi]
    rfl
  rw [e]
  unfold remM
  rw [List.filter_append]
  generalize M.getD i (0, 0) = p
  by_cases h : p.1 = k <;> simp [h]
theorem rem_len (M : List (Int × Int)) (k : Int) : (remM M k).length ≤ M.length := List.length_filter_le ..
theorem encP_len2 (p : Int × Int) : (encP p).length = 2 := rfl
theorem encP_one (x : Int × Int) : ∀ u ∈ encP x, u.oneCell' = true := fun v hv => by simp [encP] at hv; rcases hv with rfl | rfl <;> rfl
theorem infoRef : (Try.prog.info? 50).map (fun i => (i.zero, i.size, i.bytes)) = some (some (.agg #[.int .u64 0, .int .u64 0]), 2, 16) := by kernel_rfl
theorem undRef : Try.prog.underlying 30 = some (.slice 50) := by kernel_rfl
abbrev rowR (A : Option Addr) (cap : Nat) (M : List (Int × Int)) : Item := rowKI encP 2 (.slice A M.length cap) 50 M

set_option maxHeartbeats 3200000 in
theorem without_r {A : Option Addr} {cap : Nat} {M : List (Int × Int)} {w : World} (hm : M.length ≤ 1000000) (hr : RowX encP 2 w A M) (k : Int) :
    Calls Try.prog 19 #[.agg #[.slice A M.length cap], .int .u64 k] w fun e w' => ∃ A' cap', e = .returned (.agg #[.slice A' (remM M k).length cap']) ∧ Env w [rowR A' cap' (remM M k)] w' := by
  have hE1 := ((Env.start w).box w.heap.size rfl [.slice A M.length cap] 32).box (w.heap.size + 1) (by simp) [.slice none 0 0] 32
  have hE := hE1.addEmptyK (enc := encP) (k := 2) (w.heap.size + 2) (by simp) 50
  have HROW := Lib.hid hr
  have HM := Lib.hid hm
  clear hr hE1 hm
  generalize hX : remM M k = X at *
  have HX := Lib.hid hX
  clear hX
  go_enter Try.func19, Try.ntmps19
  go_wp2_with fail
  generalize World.alloc _ _ = w1 at *
  go_loopw [5, 6] (fun ov iv wr => ∃ (i : Nat) (g : Option Addr) (c : Nat), ov = .slice g (remM (M.take i) k).length c ∧ iv = .int .i64 i ∧ i ≤ M.length ∧ Env w [rowR g c (remM (M.take i) k), boxI (w.heap.size + 1) [.slice none 0 0], boxI w.heap.size [.slice A M.length cap]] wr) (fun _ iv _ => M.length - (intOf iv).toNat)
  case atStart => exact ⟨0, _, _, rfl, rfl, Nat.zero_le _, hE⟩
  case round =>
    clear hE
    obtain ⟨i, g, c, rfl, rfl, hi, hE⟩ := hrel
    have r2 := hE.rule 2 rfl
    by_cases hlt : i < M.length
    · obtain ⟨gg, off, rfl, hgl, hcell⟩ := (HROW.out.below hE.below).pairs (i := i) hlt
      obtain ⟨c1, c2⟩ := hcell i hlt
      have ht := rem_take M k hlt
      have hp : ∃ p, M.getD i (0, 0) = p := ⟨_, rfl⟩
      obtain ⟨⟨x, y⟩, hp⟩ := hp
      rw [hp] at c1 c2 ht
      clear hcell hp
      have hll : (remM (M.take i) k).length ≤ i := Nat.le_trans (rem_len _ _) (by rw [List.length_take]; omega)
      have hmm := HM.out
      by_cases hx : x = k
      · have HT : Hid (remM (M.take (i + 1)) k = remM (M.take i) k) := Lib.hid (by rw [ht]; simp [hx])
        have hxk : (x == k) = true := by simpa using hx
        subst hx
        clear ht
        go_wp2_with fail
        exact ⟨⟨i + 1, g, c, by rw [HT.out], by simp, by omega, by rw [HT.out]; exact hE⟩, by simp [intOf]; omega⟩
      · have HT : Hid (remM (M.take (i + 1)) k = remM (M.take i) k ++ [(x, y)]) := Lib.hid (by rw [ht]; simp [hx])
        have hxk : (x == k) = false := by simpa using hx
        clear ht
        have hE6 := hE.box wr.heap.size rfl (encP (x, y)) 50
        obtain ⟨A9, c9, w9, hrun, hE10⟩ := hE6.appendK (xs := [((x, y) : Int × Int)]) encP_len2 (by decide) encP_one 1 rfl 30 30 undRef rfl infoRef 1 (Blk.rowK (enc := encP) (k := 2) encP_len2 (l := [((x, y) : Int × Int)]) (show Blk 0 _ _ (flatK encP [((x, y) : Int × Int)]) from hE6.get 0 rfl)) (fun h => by cases h) (by unfold maxLen; simp; omega) (by simp; omega)
        have HRUN := Lib.hid hrun
        clear hrun hE6 hE
        go_wp2_with (first | (at_builtin; refine wpList_append_run rfl _ _ 30 rfl HRUN.out rfl rfl ?_))
        refine ⟨⟨i + 1, A9, c9, by rw [HT.out]; simp, by simp, by omega, ?_⟩, by simp [intOf]; omega⟩
        rw [HT.out]
        have e9 : (remM (M.take i) k ++ [((x, y) : Int × Int)]).length = (remM (M.take i) k).length + [((x, y) : Int × Int)].length := List.length_append
        unfold rowR
        rw [e9]
        exact hE10.sub (.cons _ (List.Sublist.refl _))
    · have hii : i = M.length := by omega
      subst hii
      have r1 := hE.rule 1 rfl
      have f1 := hE.thaw 1 rfl
      rw [List.take_length, HX.out] at *
      have hlt' : ¬ ((M.length : Int) < M.length) := by omega
      go_wp2_with fail
      have hE5 := hE.put 1 rfl (j := 0) (by simp) (.slice g X.length c)
      have r5 := hE5.rule 1 rfl
      (try simp only [Exit.inBlock, Exit.then])
      refine bodyPost_ret (v := .agg #[.slice g X.length c]) ?_ ?_ ?_
      · simp [results, Try.results19, go_sem, r5]
      · rfl
      · exact ⟨g, c, rfl, hE5.sub (.cons_cons _ (List.nil_sublist _))⟩

theorem Env.join1 {w0 w w' : World} {L : List Item} {a : Item} (h : Env w0 L w) (k : Env w [a] w') : Env w0 (a :: L) w' := h.add a k.below (k.get 0 rfl) fun j hj => (k.2.2 a (by simp)).2 j hj
def putM (M : List (Int × Int)) (k v : Int) : List (Int × Int) := remM M k ++ [(k, v)]
set_option maxHeartbeats 3200000 in
theorem with_r {A : Option Addr} {cap : Nat} {M : List (Int × Int)} {w : World} (hm : M.length ≤ 1000000) (hr : RowX encP 2 w A M) (k v : Int) :
    Calls Try.prog 15 #[.agg #[.slice A M.length cap], .agg #[.int .u64 k, .int .u64 v]] w fun e w' => ∃ A' cap', e = .returned (.agg #[.slice A' (putM M k v).length cap']) ∧ Env w [rowR A' cap' (putM M k v)] w' := by
  have hE := (((Env.start w).box w.heap.size rfl [.slice A M.length cap] 32).box (w.heap.size + 1) (by simp) (encP (k, v)) 50).box (w.heap.size + 2) (by simp) [.slice none 0 0] 32
  have C1 := Lib.hid (without_r (cap := cap) hm (hr.below hE.below) k)
  have hll := rem_len M k
  clear hr
  go_enter Try.func15, Try.ntmps15
  have r0 := hE.rule 2 rfl
  have r1 := hE.rule 1 rfl
  unfold encP at r1
  go_wp2_with fail
  refine C1.out.mono ?_
  rintro o w1 ⟨A1, c1, rfl, hE1⟩
  replace hE := hE.join1 hE1
  clear hE1 C1 r0 r1
  have hE3 := hE.box w1.heap.size rfl [.slice A1 (remM M k).length c1] 32
  go_upto_region 2 with fail
  generalize World.alloc w1 _ = w3 at *
  clear hE
  have r3 := hE3.rule 0 rfl
  have r4 := hE3.rule 3 rfl
  unfold encP at r4
  have hE4 := hE3.box w3.heap.size rfl (encP (k, v)) 50
  obtain ⟨A9, c9, w9, hrun, hE5⟩ := hE4.appendK (xs := [((k, v) : Int × Int)]) encP_len2 (by decide) encP_one 2 rfl 30 30 undRef rfl infoRef 1 (Blk.rowK (enc := encP) (k := 2) encP_len2 (l := [((k, v) : Int × Int)]) (show Blk 0 _ _ (flatK encP [((k, v) : Int × Int)]) from hE4.get 0 rfl)) (fun h => by cases h) (by unfold maxLen; simp; omega) (by simp; omega)
  have e9 : (putM M k v).length = (remM M k).length + [((k, v) : Int × Int)].length := List.length_append
  rw [← e9] at hrun hE5
  have HRUN := Lib.hid hrun
  have f5 := hE5.thaw 1 rfl
  have r5 := hE5.rule 1 rfl
  have hE6 := hE5.put 1 rfl (j := 0) (by simp) (.slice A9 (putM M k v).length c9)
  have f6 := hE6.thaw 3 rfl
  have r6 := hE6.rule 3 rfl
  have r7 := hE6.rule 1 rfl
  have hE7 := hE6.put 3 rfl (j := 0) (by simp) (.slice A9 (putM M k v).length c9)
  have r8 := hE7.rule 3 rfl
  clear hrun hE4 hE3
  rw [show (remM M k).length + [((k, v) : Int × Int)].length = (putM M k v).length from e9.symm] at *
  go_wp2_with (first | (at_builtin; refine wpList_append_run rfl _ _ 30 rfl HRUN.out rfl rfl ?_))
  refine bodyPost_ret (v := .agg #[.slice A9 (putM M k v).length c9]) ?_ ?_ ?_
  · simp [results, Try.results15, go_sem, r8]
  · rfl
  · exact ⟨A9, c9, rfl, hE7.sub (.cons _ (.cons _ (.cons_cons _ (List.nil_sublist _))))⟩
end Go.Proofs.Ytdeohigggjfjjaa

/- Where a key is. -/
namespace Go.Proofs.Ytdeohigggjfjjaa
open Go.RowKit
set_option maxRecDepth 100000

theorem und27 : Try.prog.underlying 27 = some (.array (Try.prog.arrayLen 27) (Try.prog.elem 27)) := by kernel_rfl
theorem len27 : Try.prog.arrayLen 27 = 16 := by kernel_rfl
theorem size27 (w : World) : (sizeOf (Try.prog.elem 27)).run Try.prog w = .ok 2 w := by kernel_rfl
theorem slice_h (N n : Nat) (h : n ≤ 16) (w : World) : (Instr.sliceAt 27 (.pointer (some ⟨N, 0, none⟩)) none (some (.int .i64 n)) none).run Try.prog w = .ok (.slice (some ⟨N, 0, none⟩) n 16) w := by
  rw [run_sliceAt_array_h w _ _ und27 .i64 n (by omega) (by rw [len27]; omega), size27]
  simp [slicedAt, len27, Result.andThen, Addr.add]
theorem slice_l (N n : Nat) (h : n < 16) (w : World) : (Instr.sliceAt 27 (.pointer (some ⟨N, 0, none⟩)) (some (.int .i64 n)) none none).run Try.prog w = .ok (.slice (some ⟨N, n * 2, none⟩) (16 - n) (16 - n)) w := by
  rw [run_sliceAt_array_l w _ _ und27 .i64 n (by omega) (by rw [len27]; omega), size27]
  simp [slicedAt, len27, Result.andThen, Addr.add, show ¬ (16 = n) by omega]
  try exact fun h => h.symm
theorem slice_l' (N n : Nat) (h : n ≤ 16) (w : World) : (Instr.sliceAt 27 (.pointer (some ⟨N, 0, none⟩)) (some (.int .i64 n)) none none).run Try.prog w = .ok (.slice (some ⟨N, if n = 16 then 0 else n * 2, none⟩) (16 - n) (16 - n)) w := by
  by_cases e : n = 16
  · subst e
    rw [run_sliceAt_array_l w _ _ und27 .i64 (16 : Nat) (by omega) (by rw [len27]; omega), size27]
    simp [slicedAt, len27, Result.andThen, Addr.add]
  · rw [if_neg e]; exact slice_l N n (by omega) w
theorem slice_lh (N i n : Nat) (hi : i ≤ n) (hn : n ≤ 16) (h : i < 16) (w : World) : (Instr.sliceAt 27 (.pointer (some ⟨N, 0, none⟩)) (some (.int .i64 i)) (some (.int .i64 n)) none).run Try.prog w = .ok (.slice (some ⟨N, i * 2, none⟩) (n - i) (16 - i)) w := by
  rw [run_sliceAt_array_lh w _ _ und27 .i64 .i64 i n (by omega) (by omega) (by rw [len27]; omega), size27]
  simp [slicedAt, len27, Result.andThen, Addr.add, show ¬ (16 = i) by omega]
  try exact fun h => h.symm

/-- find: where a key is, or where it would be; and whether it is there. -/
theorem find_u (l : List (Int × Int)) (N : Nat) (k : Int) (w : World) (hl : l.Pairwise fun a b => a.1 < b.1) (hn : l.length ≤ 16) (hN : N < w.heap.size) (hc : ∀ i, w.cell? ⟨N, i, none⟩ = (encS l)[i]?) :
    Calls Try.prog 22 #[.pointer (some ⟨N, 0, none⟩), .int .u64 k] w fun e w' => e = .returned (.tuple #[.int .i64 (cnt l k), .bool (hasK l k)]) ∧ Below w.heap.size w w' := by
  have hF : Fr w [(N, encS l)] w := (Fr.start w).seen hN hc
  have C1 : Hid (∀ w', Fr w [(N, encS l)] w' → Calls Try.prog 31 #[.slice (some ⟨N, 0, none⟩) l.length 16, .int .u64 k, .func (.func 32) #[] #[]] w' fun e w'' => e = .returned (.tuple #[.int .i64 (cnt l k), .bool (hasK l k)]) ∧ Below w'.heap.size w' w'') := Lib.hid fun w' h => search_u l N k w' hl hn (h.lt 0 rfl) (h.rule 0 rfl) 16
  have HN := Lib.hid (encS_n hn)
  have SL := Lib.hid (slice_h N l.length hn)
  clear hl hc
  generalize cnt l k = c at *
  generalize hasK l k = b at *
  generalize encS l = X at *
  generalize l.length = n at *
  go_enter Try.func22, Try.ntmps22
  go_wp2_with fail
  refine wp_text (S := (Fr w [(N, X)])) (by kernel_rfl) (by kernel_rfl) ?hS (fun hT => ?_)
  case hS => exact Fr.drew hF
  have hT9 := Lib.hid hT
  clear hT hF
  repeat (first
    | (refine text_value (v := ?_) hT9.out (by rfl) ?_ ?_; rotate_left; (focus (intro w5 hS; have r := (hS.rule 0 rfl 32).trans HN.out; have sl := SL.out; go_simp <;> with_reducible rfl)); (try simp only [Act.put, List.setIfInBounds_toArray, List.set_cons_zero, List.set_cons_succ]))
    | (refine text_off hT9.out (by rfl) ?_; (try simp only [Act.put, List.setIfInBounds_toArray, List.set_cons_zero, List.set_cons_succ]))
    | (refine text_call (v := ?_) (f := ?_) (args := ?_) hT9.out (by rfl) ?_ ?_ ?_; rotate_left 3; (focus (intro w5 hS; have r := (hS.rule 0 rfl 32).trans HN.out; have sl := SL.out; go_simp; constructor <;> with_reducible rfl)); (focus (intro w5 hS; (first | (with_reducible refine (C1.out _ hS).mono ?_; rintro e w6 ⟨rfl, hb5⟩; constructor; with_reducible rfl; exact hS.over hb5)))); (try simp only [Act.put, List.setIfInBounds_toArray, List.set_cons_zero, List.set_cons_succ])))
  refine InText.nil fun w5 hF => ?_
  clear hT9
  go_wp2_with fail
  go_ret2
  exact ⟨rfl, hF.below⟩
end Go.Proofs.Ytdeohigggjfjjaa

/- What a state holds, and how many pairs. -/
namespace Go.Proofs.Ytdeohigggjfjjaa
open Go.RowKit
set_option maxRecDepth 100000

theorem hasK_lt {l : List (Int × Int)} {k : Int} (h : hasK l k = true) : cnt l k < l.length := by
  unfold hasK at h
  simp only [Bool.and_eq_true, decide_eq_true_eq] at h
  exact h.1
/-- Its value, or 0. -/
def getK (l : List (Int × Int)) (k : Int) : Int := if hasK l k then (l.getD (cnt l k) (0, 0)).2 else 0

theorem len_s (l : List (Int × Int)) (hn : l.length ≤ 16) (w : World) : Calls Try.prog 25 #[.agg (encS l).toArray] w fun e w' => e = .returned (.int .i64 l.length) ∧ Below w.heap.size w w' := by
  have hF := (Fr.start w).push w.heap.size rfl (encS l) 29
  have r := (hF.rule 0 rfl 32).trans (encS_n hn)
  clear hn
  generalize encS l = X at *
  generalize l.length = n at *
  go_enter Try.func25, Try.ntmps25
  go_wp2_with fail
  go_ret
  exact ⟨rfl, hF.below⟩

theorem get_s (l : List (Int × Int)) (hl : l.Pairwise fun a b => a.1 < b.1) (hn : l.length ≤ 16) (k : Int) (w : World) : Calls Try.prog 11 #[.agg (encS l).toArray, .int .u64 k] w fun e w' => e = .returned (.tuple #[.int .u64 (getK l k), .bool (hasK l k)]) ∧ Below w.heap.size w w' := by
  have hF := (Fr.start w).push w.heap.size rfl (encS l) 29
  have C1 : Hid (∀ w', Fr w [(w.heap.size, encS l)] w' → Calls Try.prog 22 #[.pointer (some ⟨w.heap.size, 0, none⟩), .int .u64 k] w' fun e w'' => e = .returned (.tuple #[.int .i64 (cnt l k), .bool (hasK l k)]) ∧ Below w'.heap.size w' w'') := Lib.hid fun w' h => find_u l w.heap.size k w' hl hn (h.lt 0 rfl) (h.rule 0 rfl)
  have K : Hid (hasK l k = true → (encS l)[cnt l k * 2 + 1]? = some (.int .u64 (getK l k)) ∧ cnt l k < 16) := Lib.hid fun h => ⟨by have := (encS_key (hasK_lt h)).2; rw [this]; unfold getK; rw [if_pos h], by have := hasK_lt h; omega⟩
  have K0 : Hid (hasK l k = false → getK l k = 0) := Lib.hid fun h => by unfold getK; rw [h]; rfl
  clear hl hn
  generalize cnt l k = c at *
  generalize hasK l k = b at *
  generalize getK l k = g at *
  generalize encS l = X at *
  go_enter Try.func11, Try.ntmps11
  go_wp2_with fail
  refine (C1.out _ hF).mono ?_
  rintro e w1 ⟨rfl, hb⟩
  replace hF := hF.over hb
  clear hb
  cases b with
  | false =>
    have k0 := K0.out rfl
    subst k0
    go_wp2_with fail
    go_ret2
    exact ⟨rfl, hF.below⟩
  | true =>
    obtain ⟨k1, k2⟩ := K.out rfl
    have r := (hF.rule 0 rfl (c * 2 + 1)).trans k1
    clear k1
    go_wp2_with fail
    go_ret2
    exact ⟨rfl, hF.below⟩
end Go.Proofs.Ytdeohigggjfjjaa

/- Copying pairs within a state's cells; parts of a block written anew. -/
namespace Go.Proofs.Ytdeohigggjfjjaa
open Go.RowKit
set_option maxRecDepth 100000

theorem run_copy2 {P : Program} (w : World) (dT sT ty elem : TypeId) (b o dLen dCap : Nat) (a : Addr) (sLen sCap : Nat) (cs : List Value)
    (hu : P.underlying dT = some (.slice elem)) (hs : (P.info? elem).map (·.size) = some 2) (hn : cs.length = Nat.min sLen dLen * 2)
    (hsrc : ∀ j v, cs[j]? = some v → w.cell? (a.add j) = some v) (hc : ∀ j, j < cs.length → (w.cell? ⟨b, o + j, none⟩).isSome = true) (hf : ∀ j, j < cs.length → w.frozen? ⟨b, o + j, none⟩ = false) (h1 : ∀ v ∈ cs, v.oneCell' = true) :
    (Builtin.copy_ #[dT, sT] ty #[.slice (some ⟨b, o, none⟩) dLen dCap, .slice (some a) sLen sCap]).run P w = .ok (goInt (Nat.min sLen dLen)) (w.setCells b o cs) := by
  have hl := run_loadCells_list (P := P) w a cs hsrc
  have hst := run_storeCells_cells (P := P) b o cs 0 w (by simpa using hc) (by simpa using hf) h1
  cases hq : P.info? elem with
  | none => simp [hq] at hs
  | some i =>
    have hi : i.size = 2 := by simpa [hq] using hs
    simp [Builtin.copy_, run_underlying hu, Builtin.lenOf, Builtin.firstCells, sizeOf, typeInfo, hq, hi, ← hn, hl, hst]

theorem Fr.sub {w0 w : World} {bl bl' : List (Nat × List Value)} (h : Fr w0 bl w) (hs : ∀ x ∈ bl', x ∈ bl) : Fr w0 bl' w := ⟨h.1, fun x hx => h.2 x (hs x hx)⟩
theorem set_mid {α : Type} (A B C : List α) (u v : α) : (A ++ u :: B ++ C).set A.length v = A ++ [v] ++ (B ++ C) := by
  simp [List.set_append]
theorem Fr.puts {w0 : World} {n : Nat} {bl : List (Nat × List Value)} (hn : w0.heap.size ≤ n) (hd : ∀ x ∈ bl, x.1 ≠ n) (C : List Value) : ∀ (us B A : List Value) (w : World), Fr w0 ((n, A ++ B ++ C) :: bl) w → B.length = us.length → Fr w0 ((n, A ++ us ++ C) :: bl) (w.setCells n A.length us)
  | [], [], A, w, h, _ => h
  | u :: us, b :: B, A, w, h, e => by
    have h1 := h.put hn hd A.length (by simp) u
    rw [set_mid] at h1
    have h2 := Fr.puts hn hd C us B (A ++ [u]) (w.setCell ⟨n, A.length, none⟩ u) (by simpa using h1) (by simpa using e)
    rw [World.setCells]
    simpa using h2

theorem zeros_add (a b : Nat) : zeros (a + b) = zeros a ++ zeros b := by simp [zeros]
theorem zeros_length (a : Nat) : (zeros a).length = a := by simp [zeros]
theorem two_of {α : Type} {l : List α} (h : 2 ≤ l.length) : ∃ x y t, l = x :: y :: t := by
  match l, h with
  | x :: y :: t, _ => exact ⟨x, y, t, rfl⟩
/-- A state with room, seen from where a pair goes in. -/
theorem encS_in {l : List (Int × Int)} {i : Nat} (hi : i ≤ l.length) (hn : l.length < 16) : ∃ x y T, encS l = (flatP (l.take i) ++ [x, y]) ++ T ++ (zeros (30 - 2 * l.length) ++ [.int .i64 l.length]) ∧ T.length = 2 * (l.length - i) := by
  have e1 : encS l = flatP (l.take i) ++ (flatP (l.drop i) ++ zeros 2) ++ (zeros (30 - 2 * l.length) ++ [.int .i64 l.length]) := by
    unfold encS
    rw [show 32 - 2 * l.length = 2 + (30 - 2 * l.length) by omega, zeros_add]
    conv => lhs; rw [← List.take_append_drop i l]
    rw [flatP_append]
    simp
  obtain ⟨x, y, t, h⟩ := two_of (l := flatP (l.drop i) ++ zeros 2) (by simp [zeros])
  refine ⟨x, y, t, ?_, ?_⟩
  · rw [e1, h]; simp
  · have := congrArg List.length h
    simp [zeros] at this
    omega
/-- .. from where one goes out. -/
theorem encS_out {l : List (Int × Int)} {i : Nat} (hi : i < l.length) (hn : l.length ≤ 16) : ∃ B p q, encS l = flatP (l.take i) ++ B ++ ([p, q] ++ zeros (32 - 2 * l.length) ++ [.int .i64 l.length]) ∧ B.length = 2 * (l.length - i - 1) := by
  have e1 : encS l = flatP (l.take i) ++ flatP (l.drop i) ++ (zeros (32 - 2 * l.length) ++ [.int .i64 l.length]) := by
    unfold encS
    conv => lhs; rw [← List.take_append_drop i l]
    rw [flatP_append]
    simp
  have hl : (flatP (l.drop i)).length = 2 * (l.length - i - 1) + 2 := by simp; omega
  have h2 : ((flatP (l.drop i)).drop (2 * (l.length - i - 1))).length = 2 := by rw [List.length_drop, hl]; omega
  obtain ⟨p, q, t, h⟩ := two_of (l := (flatP (l.drop i)).drop (2 * (l.length - i - 1))) (by omega)
  have ht : t = [] := by rw [h] at h2; simpa using h2
  subst ht
  refine ⟨(flatP (l.drop i)).take (2 * (l.length - i - 1)), p, q, ?_, ?_⟩
  · rw [e1]
    conv => lhs; rw [← List.take_append_drop (2 * (l.length - i - 1)) (flatP (l.drop i)), h]
    simp
  · rw [List.length_take, hl]; omega
theorem encS_drop {l : List (Int × Int)} {i : Nat} (hi : i ≤ l.length) {j : Nat} {v : Value} (h : (flatP (l.drop i))[j]? = some v) : (encS l)[i * 2 + j]? = some v := by
  have hj : j < (flatP (l.drop i)).length := (List.getElem?_eq_some_iff.1 h).1
  have e1 : encS l = flatP (l.take i) ++ (flatP (l.drop i) ++ (zeros (32 - 2 * l.length) ++ [.int .i64 l.length])) := by
    unfold encS
    conv => lhs; rw [← List.take_append_drop i l]
    rw [flatP_append]
    simp
  have e2 : (flatP (l.take i)).length = i * 2 := by simp; omega
  rw [e1, List.getElem?_append_right (by omega), e2, show i * 2 + j - i * 2 = j by omega, List.getElem?_append_left hj, h]
theorem flatP_one (l : List (Int × Int)) : ∀ v ∈ flatP l, v.oneCell' = true := fun v hv => encS_one l v (by unfold encS; simp [hv])
theorem last32 (P : List Value) (z : Nat) (v : Value) (h : P.length + z = 32) : (P ++ (zeros z ++ [v]))[32]? = some v := by
  rw [List.getElem?_append_right (by omega), List.getElem?_append_right (by rw [zeros_length]; omega), zeros_length, show 32 - P.length - z = 0 by omega]
  rfl
theorem set_two {α : Type} (A R : List α) (x y u v : α) (i : Nat) (h : A.length = i) : ((A ++ x :: y :: R).set i u).set (i + 1) v = A ++ u :: v :: R := by
  subst h
  simp [List.set_append]
/-- What a state with room comes to, with a pair between. -/
theorem encS_ins {l : List (Int × Int)} {i : Nat} (hi : i ≤ l.length) (hn : l.length < 16) (x y : Value) (k v : Int) :
    (((flatP (l.take i) ++ [x, y] ++ flatP (l.drop i) ++ zeros (30 - 2 * l.length)) ++ [Value.int .i64 ((l.length : Int) + 1)]).set (i * 2) (.int .u64 k)).set (i * 2 + 1) (.int .u64 v) = encS (l.take i ++ (k, v) :: l.drop i) := by
  have e := set_two (flatP (l.take i)) (flatP (l.drop i) ++ zeros (30 - 2 * l.length) ++ [.int .i64 ((l.length : Int) + 1)]) x y (.int .u64 k) (.int .u64 v) (i * 2) (by simp; omega)
  have e2 : (l.take i ++ (k, v) :: l.drop i).length = l.length + 1 := by simp; omega
  unfold encS
  rw [e2, flatP_append, show 32 - 2 * (l.length + 1) = 30 - 2 * l.length by omega]
  simpa [flatP] using e
/-- With a pair more, or another value; without one. -/
def insK (l : List (Int × Int)) (k v : Int) : List (Int × Int) := if hasK l k then l.set (cnt l k) (k, v) else l.take (cnt l k) ++ (k, v) :: l.drop (cnt l k)
def delK (l : List (Int × Int)) (k : Int) : List (Int × Int) := if hasK l k then l.take (cnt l k) ++ l.drop (cnt l k + 1) else l
theorem encS_set {l : List (Int × Int)} {i : Nat} (hi : i < l.length) (k v : Int) : ((encS l).set (i * 2) (.int .u64 k)).set (i * 2 + 1) (.int .u64 v) = encS (l.set i (k, v)) := by
  have h : ∀ (l : List (Int × Int)) (i : Nat), i < l.length → ∀ Z : List Value, ((flatP l ++ Z).set (i * 2) (.int .u64 k)).set (i * 2 + 1) (.int .u64 v) = flatP (l.set i (k, v)) ++ Z := by
    intro l
    induction l with
    | nil => intro i h; simp at h
    | cons p l ih =>
      intro i hi Z
      cases i with
      | zero => simp [flatP]
      | succ i =>
        have := ih i (by simpa using hi) Z
        rw [show (i + 1) * 2 = i * 2 + 1 + 1 by omega, show i * 2 + 1 + 1 + 1 = (i * 2 + 1) + 1 + 1 by omega]
        simp only [flatP, List.cons_append, List.set_cons_succ, this]
  have := h l i hi (zeros (32 - 2 * l.length) ++ [.int .i64 l.length])
  unfold encS
  rw [List.append_assoc, this]
  simp
end Go.Proofs.Ytdeohigggjfjjaa

/- The document's answer for layer 21: Sorted. -/
namespace Go.Proofs.Ytdeohigggjfjjaa
open Go.RowKit Go.Maps
set_option maxRecDepth 100000

theorem flat_same (l : List (Int × Int)) : flatK encP l = flatP l := by
  induction l with
  | nil => rfl
  | cons p l ih =>
    have e : flatK encP (p :: l) = encP p ++ flatK encP l := by simp [flatK]
    rw [e, ih]; rfl
def keyA (T : List (Int × Int)) (i : Nat) : Int := (T.getD i (0, 0)).1
/-- The first i rise. -/
def RiseTo (T : List (Int × Int)) (i : Nat) : Prop := ∀ a b, a < b → b < i → keyA T a ≤ keyA T b
/-- One is on its way down. -/
def OnWay (T : List (Int × Int)) (i k : Nat) : Prop := (∀ a b, a < b → b ≤ i → a ≠ k → b ≠ k → keyA T a ≤ keyA T b) ∧ ∀ b, k < b → b ≤ i → keyA T k ≤ keyA T b
def swapA (T : List (Int × Int)) (k : Nat) : List (Int × Int) := (T.set k (T.getD (k - 1) (0, 0))).set (k - 1) (T.getD k (0, 0))
theorem swapA_length (T : List (Int × Int)) (k : Nat) : (swapA T k).length = T.length := by simp [swapA]
theorem swapA_key {T : List (Int × Int)} {k : Nat} (hk : 0 < k) (hl : k < T.length) (j : Nat) : keyA (swapA T k) j = if j = k then keyA T (k - 1) else if j = k - 1 then keyA T k else keyA T j := by
  unfold keyA swapA
  simp only [List.getD_eq_getElem?_getD, List.getElem?_set, List.length_set]
  by_cases h1 : j = k
  · subst h1
    rw [if_neg (by omega), if_pos rfl, if_pos (by omega), if_pos rfl]; rfl
  · by_cases h2 : j = k - 1
    · subst h2
      rw [if_pos rfl, if_pos (by omega), if_neg h1, if_pos rfl]; rfl
    · rw [if_neg (fun e => h2 e.symm), if_neg (fun e => h1 e.symm), if_neg h1, if_neg h2]
theorem swapA_perm {T : List (Int × Int)} {k : Nat} (hk : 0 < k) (hl : k < T.length) : (swapA T k).Perm T := by
  obtain ⟨m, rfl⟩ : ∃ m, k = m + 1 := ⟨k - 1, by omega⟩
  have e : T = T.take m ++ T.getD m (0, 0) :: T.getD (m + 1) (0, 0) :: T.drop (m + 2) := by
    conv => lhs; rw [← List.take_append_drop m T, List.drop_eq_getElem_cons (by omega : m < T.length), List.drop_eq_getElem_cons hl]
    rw [List.getD_eq_getElem?_getD, List.getD_eq_getElem?_getD, List.getElem?_eq_getElem hl, List.getElem?_eq_getElem (by omega)]
    rfl
  unfold swapA
  rw [show m + 1 - 1 = m by omega]
  generalize T.getD m (0, 0) = x at *
  generalize T.getD (m + 1) (0, 0) = y at *
  have hlen : (T.take m).length = m := by rw [List.length_take]; omega
  rw [e]
  generalize T.take m = A at *
  generalize T.drop (m + 2) = B at *
  have : ((A ++ x :: y :: B).set (m + 1) x).set m y = A ++ y :: x :: B := by
    subst hlen
    simp [List.set_append]
  rw [this]
  exact List.Perm.append_left A (List.Perm.swap x y B)
theorem way_step {T : List (Int × Int)} {i k : Nat} (hk : 0 < k) (hki : k ≤ i) (hl : i < T.length) (h : OnWay T i k) (hlt : keyA T k < keyA T (k - 1)) : OnWay (swapA T k) i (k - 1) := by
  obtain ⟨h1, h2⟩ := h
  have e := swapA_key hk (T := T) (by omega)
  refine ⟨fun a b hab hb ha hbk => ?_, fun b hb hbi => ?_⟩
  · rw [e a, e b]
    by_cases c1 : a = k
    · rw [if_pos c1, if_neg (by omega), if_neg hbk]
      exact h1 (k - 1) b (by omega) hb (by omega) (by omega)
    · rw [if_neg c1, if_neg ha]
      by_cases c2 : b = k
      · rw [if_pos c2]
        exact h1 a (k - 1) (by omega) (by omega) c1 (by omega)
      · rw [if_neg c2, if_neg hbk]
        exact h1 a b hab hb c1 c2
  · rw [e (k - 1), if_neg (by omega), if_pos rfl, e b]
    by_cases c : b = k
    · rw [if_pos c]; omega
    · rw [if_neg c, if_neg (by omega)]
      exact h2 b (by omega) hbi
theorem way_end {T : List (Int × Int)} {i k : Nat} (hki : k ≤ i) (h : OnWay T i k) (hlt : k = 0 ∨ keyA T (k - 1) ≤ keyA T k) : RiseTo T (i + 1) := fun a b hab hb => by
  obtain ⟨h1, h2⟩ := h
  by_cases c1 : a = k
  · subst c1; exact h2 b hab (by omega)
  · by_cases c2 : b = k
    · subst c2
      rcases hlt with e | e
      · omega
      · by_cases c3 : a = b - 1
        · subst c3; exact e
        · have := h1 a (b - 1) (by omega) (by omega) c1 (by omega); omega
    · exact h1 a b hab (by omega) c1 c2
theorem way_start {T : List (Int × Int)} {i : Nat} (h : RiseTo T i) : OnWay T i i := ⟨fun a b hab hb ha hbk => h a b hab (by omega), fun b hb hbi => by omega⟩
theorem flat_set {T : List (Int × Int)} {i : Nat} (hi : i < T.length) (k v : Int) (Z : List Value) : ((flatP T ++ Z).set (i * 2) (.int .u64 k)).set (i * 2 + 1) (.int .u64 v) = flatP (T.set i (k, v)) ++ Z := by
  induction T generalizing i with
  | nil => simp at hi
  | cons p l ih =>
    cases i with
    | zero => simp [flatP]
    | succ i =>
      have := ih (i := i) (by simpa using hi)
      rw [show (i + 1) * 2 = i * 2 + 1 + 1 by omega, show i * 2 + 1 + 1 + 1 = (i * 2 + 1) + 1 + 1 by omega]
      simp only [flatP, List.cons_append, List.set_cons_succ, this]
theorem flat_at {T : List (Int × Int)} {i : Nat} (hi : i < T.length) (Z : List Value) : (flatP T ++ Z)[i * 2]? = some (.int .u64 (T.getD i (0, 0)).1) ∧ (flatP T ++ Z)[i * 2 + 1]? = some (.int .u64 (T.getD i (0, 0)).2) := by
  have := flatP_get T i hi
  rw [Nat.mul_comm] at this
  rw [List.getElem?_append_left (by simp; omega), List.getElem?_append_left (by simp; omega)]
  exact this
theorem own_blk {w : World} {base cap n : Nat} {A : Option Addr} {M : List (Int × Int)} {t : TypeId} (h : w.ownsRow base t 2 (.slice A n cap) n (flatP M)) (hn : M.length = n) : (A = none ∧ M = []) ∨ ∃ g R, A = some ⟨g, 0, none⟩ ∧ base ≤ g ∧ ∀ m, Blk m w g (flatP M ++ R) := by
  rcases h.2 with ⟨hv, h0⟩ | ⟨g, cap', cur, hv, hg0, hg, hl, hcap, hcs, htk⟩
  · simp only [Value.slice.injEq] at hv
    exact .inl ⟨hv.1, List.eq_nil_of_length_eq_zero (by omega)⟩
  · simp only [Value.slice.injEq] at hv
    obtain ⟨rfl, -, rfl⟩ := hv
    refine .inr ⟨g, cur.toList.drop (n * 2), rfl, hg0, fun m => ⟨(Array.getElem?_eq_some_iff.1 hg).1, fun i => ?_, fun _ i _ => by simp [World.frozen?, hg]⟩⟩
    rw [← htk, List.take_append_drop]
    simp [World.cell?, hg]
end Go.Proofs.Ytdeohigggjfjjaa

/- The document's answer for layer 21: Sorted, walked. -/
namespace Go.Proofs.Ytdeohigggjfjjaa
open Go.RowKit Go.Maps
set_option maxRecDepth 100000

/-- What Sorted answers. -/
def SortR (M : List (Int × Int)) (w : World) (e : Ending) (w' : World) : Prop := ∃ A' cap' S, S.Perm M ∧ S.Pairwise (fun x y => x.1 ≤ y.1) ∧ e = .returned (.slice A' S.length cap') ∧ RowX encP 2 w' A' S ∧ Below w.heap.size w w'
set_option maxHeartbeats 6400000 in
theorem sorted_r {A : Option Addr} {cap : Nat} {M : List (Int × Int)} {w : World} (hm : M.length ≤ 1000000) (hr : RowX encP 2 w A M) (hA : A = none → M = []) :
    Calls Try.prog 24 #[.agg #[.slice A M.length cap]] w (SortR M w) := by
  rcases A with _ | ad
  · have := hA rfl
    subst this
    go_enter Try.func24, Try.ntmps24
    go_wp2_with fail
    go_loopg [4] 1 (fun kx s4 wr => wr = (w.alloc (.cells #[.slice none 0 cap] 32)).alloc (.cells #[] 50) ∧ s4 = .int .i64 1)
    case atStart => exact ⟨rfl, rfl⟩
    case round =>
      obtain ⟨rfl, rfl⟩ := hrel
      go_wp2_with fail
      go_ret
      exact ⟨some ⟨w.heap.size + 1, 0, none⟩, 0, [], .refl _, .nil, rfl, .inl rfl, ((Below.refl _ _).alloc (Nat.le_refl _) _).alloc (by simp) _⟩
  · have hF := (Fr.start w).push w.heap.size rfl [.slice (some ad) M.length cap] 32
    have hwe : ∃ w1, w1 = w.alloc (.cells #[.slice (some ad) M.length cap] 32) := ⟨_, rfl⟩
    obtain ⟨w1, hw1⟩ := hwe
    have hs1 : w1.heap.size = w.heap.size + 1 := by rw [hw1]; simp
    have hF1 : Fr w [(w.heap.size, [.slice (some ad) M.length cap])] w1 := by rw [hw1]; exact hF
    have hr1 : RowX encP 2 w1 (some ad) M := hr.below hF1.below
    obtain ⟨i0, hi, hz0, hz1, hz2⟩ := info_parts infoRef
    have hown0 : (w1.alloc (.cells #[] 50)).ownsRow w1.heap.size 50 2 (.slice (some ⟨w1.heap.size, 0, none⟩) 0 0) 0 [] := ⟨rfl, .inr ⟨w1.heap.size, 0, #[], rfl, Nat.le_refl _, heap_alloc_new w1 _, Nat.le_refl _, Nat.zero_le _, rfl, rfl⟩⟩
    have hr' : RowX encP 2 (w1.alloc (.cells #[] 50)) (some ad) M := hr1.below ((Below.refl _ _).alloc (Nat.le_refl _) _)
    obtain ⟨v', w2, hrun, hown2, hgrow, hv'⟩ := run_append_rows (P := Try.prog) 30 30 w1.heap.size 50 i0 (.agg #[.int .u64 0, .int .u64 0]) 2 16 (by kernel_rfl) hi hz0 hz1 hz2 rfl (by decide) _ _ 0 [] hown0 (some ad) M.length cap (flatP M) (by rw [flatP_length, Nat.mul_comm])
      (.inr ⟨ad, rfl, by have := RowX.news (enc := encP) (k := 2) encP_len2 (by decide) hr'; rw [flat_same] at this; exact this⟩) (fun v hv => encS_one M v (by unfold encS; simp [hv])) (by simp [maxLen]; omega) (by omega) (by simp)
    simp only [Nat.zero_add, List.nil_append] at hown2
    obtain ⟨A', cap2, rfl⟩ := ownsRow_slice hown2
    have hb2 : Below w1.heap.size w1 w2 := ((Below.refl _ w1).alloc (Nat.le_refl _) _).grown hgrow (by simp) (by intro k hk; simp [Value.ownBlock] at hk; omega)
    have hF2 := hF1.over hb2
    rw [hs1, hw1] at hrun
    have HRUN := Lib.hid hrun
    have hO := own_blk hown2 rfl
    have HM := Lib.hid hm
    clear hF hF1 hr hr1 hr' hown0 hown2 hgrow hv' hb2 hi hz0 hz1 hz2 hrun
    go_enter Try.func24, Try.ntmps24
    have r0 : (w.alloc (.cells #[.slice (some ad) M.length cap] 32)).cell? ⟨w.heap.size, 0, none⟩ = some (.slice (some ad) M.length cap) := by simp
    go_wp2_with (first | (at_builtin; refine wpList_append_run rfl _ _ 30 rfl HRUN.out rfl rfl ?_))
    clear r0 HRUN hw1
    rcases hO with ⟨rfl, rfl⟩ | ⟨g, R, rfl, hg, hB⟩
    · go_loopg [4] 1 (fun kx s4 wr => wr = w2 ∧ s4 = .int .i64 1)
      case atStart => exact ⟨rfl, rfl⟩
      case round =>
        obtain ⟨rfl, rfl⟩ := hrel
        go_wp2_with fail
        go_ret
        exact ⟨none, cap2, [], .refl _, .nil, rfl, .inl rfl, hF2.below⟩
    · have hF3 : Fr w [(g, flatP M ++ R), (w.heap.size, [.slice (some ad) M.length cap])] w2 := ⟨hF2.below, fun x hx => by
        rcases List.mem_cons.1 hx with rfl | hx
        · exact hB _
        · exact hF2.2 x hx⟩
      clear hF2 hB
      generalize hnn : M.length = n at *
      have HN := Lib.hid hnn
      clear hnn
      have hgB : w.heap.size < g := by omega
      go_loopg [4] (n + 1) (fun kx s4 wr => ∃ (i : Nat) (T : List (Int × Int)), s4 = .int .i64 i ∧ 1 ≤ i ∧ n + 1 - i ≤ kx ∧ T.length = n ∧ Hid (T.Perm M) ∧ Hid (RiseTo T i) ∧ Fr w [(g, flatP T ++ R), (w.heap.size, [.slice (some ad) n cap])] wr)
      case atStart => exact ⟨1, M, rfl, Nat.le_refl _, by omega, HN.out, Lib.hid (.refl _), Lib.hid (fun a b h1 h2 => by omega), hF3⟩
      case round =>
        clear hF3
        obtain ⟨i, T, rfl, hi1, hk, hT, hP, hS, hF⟩ := hrel
        by_cases hlt : i < n
        · have hlt' : (i : Int) < (n : Int) := by omega
          go_wp2_with fail
          go_loopg [5] (i + 1) (fun kx s5 wr => ∃ (k : Nat) (T : List (Int × Int)), s5 = .int .i64 k ∧ k ≤ i ∧ k ≤ kx ∧ T.length = n ∧ Hid (T.Perm M) ∧ Hid (OnWay T i k) ∧ Fr w [(g, flatP T ++ R), (w.heap.size, [.slice (some ad) n cap])] wr)
          case atStart => exact ⟨i, T, rfl, Nat.le_refl _, by omega, hT, hP, Lib.hid (way_start hS.out), hF⟩
          case round =>
            clear hF hP hS hT
            obtain ⟨k, T, rfl, hki, hkx, hT, hP, hW, hF⟩ := hrel
            rcases k with _ | m
            · go_upto_region 6 with fail
              refine wp_text (S := (fun w' => Fr w [(g, flatP T ++ R), (w.heap.size, [.slice (some ad) n cap])] w')) (by kernel_rfl) (by kernel_rfl) hF.drew (fun hT => ?_)
              have hT9 := Lib.hid hT
              clear hT
              repeat (first
                | (refine text_value (v := ?_) hT9.out (by rfl) ?_ ?_; rotate_left; (focus (intro w5 hS; skip; go_simp <;> with_reducible rfl)); (try simp only [Act.put, List.setIfInBounds_toArray, List.set_cons_zero, List.set_cons_succ]))
                | (refine text_off hT9.out (by rfl) ?_; (try simp only [Act.put, List.setIfInBounds_toArray, List.set_cons_zero, List.set_cons_succ]))
                | (refine text_call (v := ?_) (f := ?_) (args := ?_) hT9.out (by rfl) ?_ ?_ ?_; rotate_left 3; (focus (intro w5 hS; skip; go_simp; constructor <;> with_reducible rfl)); (focus (intro w5 hS; (first | skip))); (try simp only [Act.put, List.setIfInBounds_toArray, List.set_cons_zero, List.set_cons_succ])))
              refine InText.nil fun w5 hS5 => ?_
              clear hT9
              have hF5 : Fr w [(g, flatP T ++ R), (w.heap.size, [.slice (some ad) n cap])] w5 := hS5
              go_wp2_with fail
              go_roundg (n + 1 - (i + 1))
              case measure => omega
              case rel => exact ⟨i + 1, T, by simp, by omega, Nat.le_refl _, hT, hP, Lib.hid (way_end hki hW.out (.inl rfl)), hF5⟩
            · have hlm : m + 1 < n := by omega
              obtain ⟨c1, c2⟩ := flat_at (T := T) (i := m + 1) (by omega) R
              obtain ⟨c3, c4⟩ := flat_at (T := T) (i := m) (by omega) R
              have hX : ∃ x, T.getD (m + 1) (0, 0) = x := ⟨_, rfl⟩
              obtain ⟨⟨x1, x2⟩, hX⟩ := hX
              have hY : ∃ y, T.getD m (0, 0) = y := ⟨_, rfl⟩
              obtain ⟨⟨y1, y2⟩, hY⟩ := hY
              rw [hX] at c1 c2
              rw [hY] at c3 c4
              have C1 := Lib.hid c1
              have C2 := Lib.hid c2
              have C3 := Lib.hid c3
              have C4 := Lib.hid c4
              have HX := Lib.hid hX
              have HY := Lib.hid hY
              clear c1 c2 c3 c4 hX hY
              have W1 : Hid (IntKind.i64.wrap (m : Int) = (m : Int)) := Lib.hid (by rw [IntKind.wrap_i64]; omega)
              have hlm2 : m < n := by omega
              have hlm' : (m : Int) < n := by omega
              have hlm3 : (m : Int) + 1 < n := by omega
              have h00 : (0 : Int) ≤ (m : Int) + 1 := by omega
              have h02 : (0 : Int) < (m : Int) + 1 := by omega
              have h01 : (0 : Int) ≤ (m : Int) := by omega
              have t1 : ((m : Int) + 1).toNat = m + 1 := by omega
              go_upto_region 6 with fail
              refine wp_text (S := (fun w' => Fr w [(g, flatP T ++ R), (w.heap.size, [.slice (some ad) n cap])] w')) (by kernel_rfl) (by kernel_rfl) hF.drew (fun hT => ?_)
              have hT9 := Lib.hid hT
              clear hT
              repeat (first
                | (refine text_value (v := ?_) hT9.out (by rfl) ?_ ?_; rotate_left; (focus (intro w5 hS; have q1 := (hS.rule 0 rfl ((m + 1) * 2)).trans C1.out; have q3 := (hS.rule 0 rfl (m * 2)).trans C3.out; have w1 := W1.out; go_simp <;> with_reducible rfl)); (try simp only [Act.put, List.setIfInBounds_toArray, List.set_cons_zero, List.set_cons_succ]))
                | (refine text_off hT9.out (by rfl) ?_; (try simp only [Act.put, List.setIfInBounds_toArray, List.set_cons_zero, List.set_cons_succ]))
                | (refine text_call (v := ?_) (f := ?_) (args := ?_) hT9.out (by rfl) ?_ ?_ ?_; rotate_left 3; (focus (intro w5 hS; have q1 := (hS.rule 0 rfl ((m + 1) * 2)).trans C1.out; have q3 := (hS.rule 0 rfl (m * 2)).trans C3.out; have w1 := W1.out; go_simp; constructor <;> with_reducible rfl)); (focus (intro w5 hS; (first | skip))); (try simp only [Act.put, List.setIfInBounds_toArray, List.set_cons_zero, List.set_cons_succ])))
              refine InText.nil fun w5 hS5 => ?_
              clear hT9
              have hF5 : Fr w [(g, flatP T ++ R), (w.heap.size, [.slice (some ad) n cap])] w5 := hS5
              clear hF
              by_cases hxy : x1 < y1
              · have q1 := (hF5.rule 0 rfl ((m + 1) * 2)).trans C1.out
                have q2 := (hF5.rule 0 rfl ((m + 1) * 2 + 1)).trans C2.out
                go_upto_region 9 with fail
                have hgl := hF5.lt 0 rfl
                have hG := hF5.push w5.heap.size rfl [.int .u64 x1, .int .u64 x2] 50
                clear hF5 hS5 q1 q2
                generalize World.alloc w5 _ = w6 at *
                generalize w5.heap.size = Z at *
                replace hG := hG.sub (bl' := [(g, flatP T ++ R), (Z, [.int .u64 x1, .int .u64 x2]), (w.heap.size, [.slice (some ad) n cap])]) (by simp)
                have hln : 2 * n ≤ (flatP T ++ R).length := by simp; omega
                have q1 := (hG.rule 0 rfl ((m + 1) * 2)).trans C1.out
                have q2 := (hG.rule 0 rfl ((m + 1) * 2 + 1)).trans C2.out
                have q3 := (hG.rule 0 rfl (m * 2)).trans C3.out
                have q4 := (hG.rule 0 rfl (m * 2 + 1)).trans C4.out
                have f1 := hG.thaw 0 rfl (by omega) ((m + 1) * 2) (by omega)
                have f2 := hG.thaw 0 rfl (by omega) ((m + 1) * 2 + 1) (by omega)
                have w1' := W1.out
                go_upto_region 10 with fail
                replace hG := (hG.put (by omega) (by simp; omega) ((m + 1) * 2) (by omega) (.int .u64 y1)).put (by omega) (by simp; omega) ((m + 1) * 2 + 1) (by rw [List.length_set]; omega) (.int .u64 y2)
                rw [flat_set (by omega)] at hG
                generalize World.setCell (World.setCell _ _ _) _ _ = w7 at *
                clear q1 q2 q3 q4 f1 f2
                obtain ⟨d3, d4⟩ := flat_at (T := T.set (m + 1) (y1, y2)) (i := m) (by simp; omega) R
                have hln2 : 2 * n ≤ (flatP (T.set (m + 1) (y1, y2)) ++ R).length := by simp; omega
                have r1 := hG.rule 1 rfl
                have q3 := (hG.rule 0 rfl (m * 2)).trans d3
                have q4 := (hG.rule 0 rfl (m * 2 + 1)).trans d4
                have f1 := hG.thaw 0 rfl (by omega) (m * 2) (by omega)
                have f2 := hG.thaw 0 rfl (by omega) (m * 2 + 1) (by omega)
                clear d3 d4
                go_upto_region 7 with fail
                replace hG := (hG.put (by omega) (by simp; omega) (m * 2) (by omega) (.int .u64 x1)).put (by omega) (by simp; omega) (m * 2 + 1) (by rw [List.length_set]; omega) (.int .u64 x2)
                rw [flat_set (by simp; omega)] at hG
                generalize World.setCell (World.setCell _ _ _) _ _ = w8 at *
                have eS : (T.set (m + 1) (y1, y2)).set m (x1, x2) = swapA T (m + 1) := by unfold swapA; rw [show m + 1 - 1 = m by omega, HX.out, HY.out]
                rw [eS] at hG
                replace hG := hG.sub (bl' := [(g, flatP (swapA T (m + 1)) ++ R), (w.heap.size, [.slice (some ad) n cap])]) (by simp)
                have HLT : Hid (keyA T (m + 1) < keyA T (m + 1 - 1)) := Lib.hid (by
                  unfold keyA
                  rw [show m + 1 - 1 = m by omega, HX.out, HY.out]
                  exact hxy)
                clear q3 q4 f1 f2 r1
                go_wp2_with fail
                go_roundg m
                case measure => omega
                case rel => exact ⟨m, swapA T (m + 1), by simp, by omega, Nat.le_refl _, by rw [swapA_length]; exact hT, Lib.hid ((swapA_perm (by omega) (by omega)).trans hP.out), Lib.hid (way_step (by omega) hki (by omega) hW.out HLT.out), hG⟩
              · have hle : keyA T (m + 1 - 1) ≤ keyA T (m + 1) := by
                  unfold keyA
                  rw [show m + 1 - 1 = m by omega, HX.out, HY.out]
                  simp only; omega
                have HLE := Lib.hid hle
                clear hle
                go_wp2_with fail
                go_roundg (n + 1 - (i + 1))
                case measure => omega
                case rel => exact ⟨i + 1, T, by simp, by omega, Nat.le_refl _, hT, hP, Lib.hid (way_end hki hW.out (.inr HLE.out)), hF5⟩
        · have hlt' : ¬ ((i : Int) < (n : Int)) := by omega
          go_wp2_with fail
          go_ret
          refine ⟨some ⟨g, 0, none⟩, cap2, T, hP.out, ?_, by rw [hT]; rfl, ?_, hF.below⟩
          · rw [List.pairwise_iff_getElem]
            intro a b ha hb hab
            have := hS.out a b hab (by omega)
            unfold keyA at this
            rw [List.getD_eq_getElem?_getD, List.getElem?_eq_getElem ha, List.getD_eq_getElem?_getD, List.getElem?_eq_getElem hb] at this
            exact this
          · refine .inr ⟨g, 0, rfl, hF.lt 0 rfl, fun j hj c v e => ?_⟩
            have hc : c < 2 := by have := (List.getElem?_eq_some_iff.1 e).1; simpa [encP] using this
            obtain ⟨d1, d2⟩ := flat_at hj R
            rw [Nat.zero_add, hF.rule 0 rfl]
            match c, hc with
            | 0, _ => rw [Nat.add_zero, d1]; have e' : (encP (T.getD j (0, 0)))[0]? = some v := e; simpa [encP] using e'
            | 1, _ => rw [d2]; have e' : (encP (T.getD j (0, 0)))[1]? = some v := e; simpa [encP] using e'
end Go.Proofs.Ytdeohigggjfjjaa

/-
  DERIVED: THE SHELF's CONTRACTS AT THIS DUMP, IN PLAIN WORDS (tools/lay-plain.mjs out of 'YtdeohigggjfjjaaShelfP.lean', which tools/lay-shelf.mjs wrote): THE SAME DECLARATIONS UNDER THE SAME NAMES: 'import', 'namespace', 'open', 'def', 'theorem' AND NOTHING ELSE: no command of the shelf's: FOR A HAND-IN. Each laying: the table of numbers ('.._ren') and one theorem, a field a fact of the dump's own or the kernel's comparison; each contract: ONE APPLICATION.
-/
namespace Go.Proofs
open Go.Shelf
def Try.sortPairs_ren : Go.Shelf.Ren := ⟨fun | 6 => 27 | 15 => 34 | 14 => 33 | 28 => 44 | 29 => 45 | 20 => 36 | 21 => 37 | 22 => 38 | 23 => 39 | 24 => 40 | 25 => 41 | 26 => 42 | 27 => 43 | 46 => 46 | 47 => 47 | 48 => 48 | 49 => 49 | 50 => 50 | 57 => 51 | n => n, fun | 22 => 46 | 24 => 26 | 25 => 74 | 3 => 3 | 39 => 62 | 0 => 0 | 53 => 90 | 55 => 23 | 4 => 4 | 46 => 84 | 45 => 83 | 50 => 66 | 5 => 5 | 9 => 9 | 66 => 92 | 70 => 96 | 76 => 98 | 77 => 99 | n => n, fun | n => n⟩
theorem Try.sortPairs : Go.Proofs.SlLaysF0.n6 Try.prog Try.sortPairs_ren := {
  mixed := by kernel_rfl
  f6 := ⟨Try.f27.name, by decide, Try.func27.trans (congrArg some (by kernel_rfl))⟩
  f14 := ⟨Try.f33.name, by decide, Try.func33.trans (congrArg some (by kernel_rfl))⟩
  f15 := Try.func34.trans (congrArg some (by kernel_rfl))
  f20 := ⟨Try.f36.name, by decide, Try.func36.trans (congrArg some (by kernel_rfl))⟩
  f21 := ⟨Try.f37.name, by decide, Try.func37.trans (congrArg some (by kernel_rfl))⟩
  f22 := ⟨Try.f38.name, by decide, Try.func38.trans (congrArg some (by kernel_rfl))⟩
  f23 := ⟨Try.f39.name, by decide, Try.func39.trans (congrArg some (by kernel_rfl))⟩
  f24 := ⟨Try.f40.name, by decide, Try.func40.trans (congrArg some (by kernel_rfl))⟩
  f25 := ⟨Try.f41.name, by decide, Try.func41.trans (congrArg some (by kernel_rfl))⟩
  f26 := ⟨Try.f42.name, by decide, Try.func42.trans (congrArg some (by kernel_rfl))⟩
  f27 := ⟨Try.f43.name, by decide, Try.func43.trans (congrArg some (by kernel_rfl))⟩
  f28 := Try.func44.trans (congrArg some (by kernel_rfl))
  f29 := Try.func45.trans (congrArg some (by kernel_rfl))
  f46 := ⟨Try.f46.name, by decide, Try.func46.trans (congrArg some (by kernel_rfl))⟩
  f47 := Try.func47.trans (congrArg some (by kernel_rfl))
  f48 := Try.func48.trans (congrArg some (by kernel_rfl))
  f49 := ⟨Try.f49.name, by decide, Try.func49.trans (congrArg some (by kernel_rfl))⟩
  f50 := ⟨Try.f50.name, by decide, Try.func50.trans (congrArg some (by kernel_rfl))⟩
  f57 := ⟨Try.f51.name, by decide, Try.func51.trans (congrArg some (by kernel_rfl))⟩
  t0 := Try.underlying0
  a0 := Try.isAgg0
  z0 := Try.sizeOf0
  v0 := Try.zeroValue0
  t3 := Try.underlying3
  a3 := Try.isAgg3
  z3 := Try.sizeOf3
  v3 := Try.zeroValue3
  t4 := Try.underlying4
  a4 := Try.isAgg4
  z4 := Try.sizeOf4
  v4 := Try.zeroValue4
  t5 := Try.underlying5
  a5 := Try.isAgg5
  z5 := Try.sizeOf5
  v5 := Try.zeroValue5
  t9 := Try.underlying9
  a9 := Try.isAgg9
  z9 := Try.sizeOf9
  v9 := Try.zeroValue9
  t22 := Try.underlying46
  a22 := Try.isAgg46
  z22 := Try.sizeOf46
  v22 := Try.zeroValue46
  t25 := Try.underlying74
  a25 := Try.isAgg74
  z25 := Try.sizeOf74
  v25 := Try.zeroValue74
  t39 := Try.underlying62
  a39 := Try.isAgg62
  z39 := Try.sizeOf62
  v39 := Try.zeroValue62
  t45 := Try.underlying83
  a45 := Try.isAgg83
  z45 := Try.sizeOf83
  v45 := Try.zeroValue83
  t46 := Try.underlying84
  a46 := Try.isAgg84
  z46 := Try.sizeOf84
  v46 := Try.zeroValue84
  t50 := Try.underlying66
  a50 := Try.isAgg66
  z50 := Try.sizeOf66
  v50 := Try.zeroValue66
  t53 := Try.underlying90
  a53 := Try.isAgg90
  z53 := Try.sizeOf90
  v53 := Try.zeroValue90
  t55 := Try.underlying23
  a55 := Try.isAgg23
  z55 := Try.sizeOf23
  v55 := Try.zeroValue23
  t66 := Try.underlying92
  a66 := Try.isAgg92
  z66 := Try.sizeOf92
  v66 := Try.zeroValue92
  t70 := Try.underlying96
  a70 := Try.isAgg96
  z70 := Try.sizeOf96
  v70 := Try.zeroValue96
  t76 := Try.underlying98
  a76 := Try.isAgg98
  z76 := Try.sizeOf98
  v76 := Try.zeroValue98
  t77 := Try.underlying99
  a77 := Try.isAgg99
  z77 := Try.sizeOf99
  v77 := Try.zeroValue99 }
end Go.Proofs
