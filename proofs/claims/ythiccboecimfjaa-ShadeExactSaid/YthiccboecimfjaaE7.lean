/- ShadeExact: of every row of words, and of accesses and births, each answer, how many loads were stale and how many faults there were are the reference's, and of a shade that isn't there each answer is nothing: so the law answers true, for every input. -/
import Derived.Test.YthiccboecimfjaaE6
import Derived.Deep.Slices
import Derived.WalkKit
import Derived.Test.YthiccboecimfjaaChecked
import Derived.ProofKit
import Derived.OpenShut
import Derived.Test.YthiccboecimfjaaRows

/- Whatever comes to numbers and bools, structs in structs too: what its cells hold; a slice of such that came in. -/
namespace Go.Proofs.Ythiccboecimfjaa
open Go.RowKit Go.WideShapes Go.ChangeShapes Go.ChangeAt Go.Deep
set_option maxRecDepth 100000

/-- The cells of the fields from offset o on. -/
def flatF (P : Program) (g : TypeId → Option (List Sca)) : List Field → Nat → Option (List Sca)
  | [], _ => some []
  | f :: fs, o => if f.offset = o then (g f.type).bind fun ss => if P.cellsOf f.type = ss.length then (flatF P g fs (o + ss.length)).map fun r => ss ++ r else none else none
/-- The cells of a type, if all are numbers and bools. -/
def flatT (P : Program) : Nat → TypeId → Option (List Sca)
  | 0, _ => none
  | d + 1, t =>
    match P.underlying t with
    | some .bool => some [.boo]
    | some (.int k) => some [.num k]
    | some (.struct fs) => (flatF P (flatT P d) fs.toList 0).bind fun ss => if P.cellsOf t = ss.length then some ss else none
    | _ => none

/-- Each cell is of its kind. -/
def CellsOk (cs : List Value) (ss : List Sca) : Prop := ∀ (i : Nat) (s : Sca), ss[i]? = some s → ∃ v, cs[i]? = some v ∧ s.ok v

section
variable {H : Type} {enc : TypeId × Value → H} {P : Program} {w : World} {base : Nat} {spare : Nat → Bool} {held : Bool}

theorem open_fields {g : TypeId → Option (List Sca)} {n : Nat} (hg : ∀ {t ss} {cs : List Value} {x : DataW H × List MemPlace}, g t = some ss → DataW.trod enc P w base spare held n t cs = some x → CellsOk cs ss) (cs : List Value) :
    ∀ (fs : List Field) (o : Nat) (ss : List Sca), flatF P g fs o = some ss → (∀ f ∈ fs, ∃ y, DataW.trod enc P w base spare held n f.type ((cs.drop f.offset).take (P.cellsOf f.type)) = some y) → CellsOk (cs.drop o) ss
  | [], o, ss, h, _ => by
    simp [flatF] at h
    subst h
    intro i s e
    simp at e
  | f :: fs, o, ss, h, hf => by
    unfold flatF at h
    split at h
    · rename_i ho
      cases h1 : g f.type with
      | none => rw [h1] at h; cases h
      | some s1 =>
        rw [h1] at h
        simp only [Option.bind_some] at h
        split at h
        · rename_i hc
          cases h2 : flatF P g fs (o + s1.length) with
          | none => rw [h2] at h; cases h
          | some s2 =>
            rw [h2] at h
            obtain rfl : s1 ++ s2 = ss := by simpa using h
            obtain ⟨y, hy⟩ := hf f (by simp)
            rw [ho, hc] at hy
            have hk := hg h1 hy
            have hr := open_fields hg cs fs (o + s1.length) s2 h2 fun f' hf' => hf f' (by simp [hf'])
            intro i s e
            by_cases hi : i < s1.length
            · rw [List.getElem?_append_left hi] at e
              obtain ⟨v, hv, hs⟩ := hk i s e
              rw [List.getElem?_take_of_lt hi] at hv
              exact ⟨v, hv, hs⟩
            · rw [List.getElem?_append_right (by omega)] at e
              obtain ⟨v, hv, hs⟩ := hr _ s e
              refine ⟨v, ?_, hs⟩
              rw [List.getElem?_drop] at hv ⊢
              rw [← hv]
              congr 1
              omega
        · cases h
    · cases h

theorem open_cells : ∀ (d : Nat) {t : TypeId} {ss : List Sca} {fuel : Nat} {cs : List Value} {x : DataW H × List MemPlace}, flatT P d t = some ss → DataW.trod enc P w base spare held fuel t cs = some x → CellsOk cs ss
  | 0, _, _, _, _, _, h, _ => by simp [flatT] at h
  | d + 1, t, ss, fuel, cs, x, h, hx => by
    unfold flatT at h
    split at h
    · rename_i hu
      obtain ⟨b, rfl, _⟩ := DataW.trod_bool hu hx
      obtain rfl : [Sca.boo] = ss := by simpa using h
      intro i s e
      cases i with
      | zero => simp at e; subst e; exact ⟨_, rfl, b, rfl⟩
      | succ i => simp at e
    · rename_i k hu
      obtain ⟨n, rfl, _, hw⟩ := DataW.trod_int hu hx
      obtain rfl : [Sca.num k] = ss := by simpa using h
      intro i s e
      cases i with
      | zero => simp at e; subst e; exact ⟨_, rfl, n, rfl, hw⟩
      | succ i => simp at e
    · rename_i fs hu
      cases h1 : flatF P (flatT P d) fs.toList 0 with
      | none => rw [h1] at h; cases h
      | some s1 =>
        rw [h1] at h
        simp only [Option.bind_some] at h
        split at h
        · obtain rfl : s1 = ss := by simpa using h
          obtain ⟨xs, n, _, _, _, hl, hall⟩ := DataW.trod_struct hu hx
          have := open_fields (n := n) (fun {t ss cs x} h1 h2 => open_cells d h1 h2) cs fs.toList 0 s1 h1 fun f hf => by
            obtain ⟨i, hi, he⟩ := List.getElem_of_mem hf
            have hi' : i < fs.size := by simpa using hi
            have := hall i f (by simp [hi']; simpa using he)
            rw [this]
            exact ⟨xs[i]'(by omega), by simp [hl, hi']⟩
          simpa using this
        · cases h
    · cases h

/-- A slice that came in: each cell of each element. -/
theorem open_deep_row {t e : TypeId} {ss : List Sca} {d : Nat} {A : Option Addr} {len cap : Nat} {dt : DataW H} {p : List MemPlace} (ht : P.underlying t = some (.slice e)) (hss : flatT P d e = some ss) (ce : P.cellsOf e = ss.length) (h0 : 0 < ss.length)
    (h : DataW.Trod enc P w 0 (fun _ => true) true t (.slice A len cap) dt p) (hlt : ∀ x ∈ p, x.block < w.heap.size) :
    len ≤ maxLen ∧ (len = 0 ∨ ∃ b off, A = some ⟨b, off, none⟩ ∧ b < w.heap.size ∧ ∀ i, i < len → ∀ (j : Nat) (s : Sca), ss[j]? = some s → ∃ v, w.cell? ⟨b, off + i * ss.length + j, none⟩ = some v ∧ s.ok v) := by
  obtain ⟨fuel, hf⟩ := h
  rcases open_slice ht hf with ⟨hcs, hx⟩ | ⟨a, len', cap', m, n, D, Pl, hcs, _, hl, hm, hmm, hx, hall⟩
  · simp [Value.cells] at hcs
    obtain ⟨rfl, rfl, rfl⟩ := hcs
    exact ⟨Nat.zero_le _, .inl rfl⟩
  · simp [Value.cells] at hcs
    obtain ⟨rfl, rfl, rfl⟩ := hcs
    simp only [Prod.mk.injEq] at hx
    obtain ⟨rfl, rfl⟩ := hx
    simp only [if_true] at hmm
    subst hmm
    refine ⟨by omega, ?_⟩
    by_cases hz : len = 0
    · exact .inl hz
    · right
      have each : ∀ i, i < m → ∀ (j : Nat) (s : Sca), ss[j]? = some s → ∃ v, w.cell? (a.add (i * ss.length + j)) = some v ∧ s.ok v := fun i hi j s hs => by
        obtain ⟨cs', h1, h2⟩ := hall i hi
        obtain ⟨_, hlen, hcell⟩ := World.cells?_some h1
        obtain ⟨v, hv, hok⟩ := open_cells d hss h2 j s hs
        have hj : j < ss.length := (List.getElem?_eq_some_iff.1 hs).1
        have := hcell j (by omega)
        rw [add_add, ce, hv] at this
        exact ⟨v, this, hok⟩
      obtain ⟨b, off, spot⟩ := a
      have hspot : spot = none := by
        obtain ⟨v, hv, _⟩ := each 0 (by omega) 0 (ss[0]) (by simp [h0])
        simpa [Addr.add] using World.cell?_spot hv
      subst hspot
      refine ⟨b, off, rfl, hlt (.cell b off) (List.mem_append_left _ (MemPlace.mem_row.2 ⟨0, by rw [ce]; exact Nat.mul_pos (by omega) h0, by simp⟩)), fun i hi j s hs => ?_⟩
      obtain ⟨v, hv, hok⟩ := each i (by omega) j s hs
      rw [add_plain] at hv
      exact ⟨v, by rw [Nat.add_assoc]; exact hv, hok⟩
/-- A struct by value, structs in it too. -/
theorem open_deep {r : Reach} {b0 : Nat} {t : TypeId} {fs : Array Field} {ss : List Sca} {d : Nat} {v : Value} {dt : DataW H} {p : List MemPlace} (hs : P.underlying t = some (.struct fs)) (hss : flatT P d t = some ss) (hC : P.cellsOf t = ss.length)
    (hv : Value.okWide P w r b0 t v) (h : DataW.Trod enc P w base spare held t v dt p) :
    ∃ cs : Array Value, v = .agg cs ∧ cs.size = ss.length ∧ ∀ (i : Nat) (s : Sca), ss[i]? = some s → ∃ x, cs[i]? = some x ∧ s.ok x := by
  obtain ⟨cs, rfl, hsz⟩ := okWide_struct hs hv
  obtain ⟨fuel, hf⟩ := h
  refine ⟨cs, rfl, hsz.trans hC, fun i s e => ?_⟩
  obtain ⟨x, hx, hk⟩ := open_cells d hss hf i s e
  exact ⟨x, by simpa [Value.cells] using hx, hk⟩
end
end Go.Proofs.Ythiccboecimfjaa

/- Rows that came in: of whatever structs of numbers and bools; each element's cells. General. -/
namespace Go.Proofs.Ythiccboecimfjaa
open Go.RowKit Go.Maps Go.Deep
set_option maxRecDepth 100000

/-- From o on the block b holds vs. -/
def CellsAt (w : World) (b o : Nat) (vs : List Value) : Prop := ∀ (j : Nat) (v : Value), vs[j]? = some v → w.cell? ⟨b, o + j, none⟩ = some v
theorem CellsAt.below {w w' : World} {b o : Nat} {vs : List Value} (h : CellsAt w b o vs) (hb : Below w.heap.size w w') (hl : b < w.heap.size) : CellsAt w' b o vs := fun j v e => by
  rw [hb.cell (p := ⟨b, o + j, none⟩) hl]; exact h j v e
/-- A row of things of m cells. -/
def RowX {α : Type} [Inhabited α] (enc : α → List Value) (m : Nat) (w : World) (A : Option Addr) (xs : List α) : Prop :=
  xs = [] ∨ ∃ b off, A = some ⟨b, off, none⟩ ∧ b < w.heap.size ∧ ∀ i, i < xs.length → CellsAt w b (off + i * m) (enc (xs.getD i default))
theorem RowX.below {α : Type} [Inhabited α] {enc : α → List Value} {m : Nat} {w w' : World} {A : Option Addr} {xs : List α} (h : RowX enc m w A xs) (hb : Below w.heap.size w w') : RowX enc m w' A xs := by
  rcases h with h | ⟨b, off, rfl, hl, hc⟩
  · exact .inl h
  · exact .inr ⟨b, off, rfl, Nat.lt_of_lt_of_le hl hb.size, fun i hi => (hc i hi).below hb hl⟩
theorem open_rowX {α : Type} [Inhabited α] {enc : α → List Value} {Ok : α → Prop} {P : Program} {H : Type} {en : TypeId × Value → H} {W : World} {t e : TypeId} {ss : List Sca} {dd : Nat} {A : Option Addr} {len cap : Nat} {d : DataW H} {p : List MemPlace}
    (ht : P.underlying t = some (.slice e)) (hss : flatT P dd e = some ss) (ce : P.cellsOf e = ss.length) (h0 : 0 < ss.length)
    (hdec : ∀ (w : World) (b o : Nat), (∀ (j : Nat) (s : Sca), ss[j]? = some s → ∃ v, w.cell? ⟨b, o + j, none⟩ = some v ∧ s.ok v) → ∃ r : α, CellsAt w b o (enc r) ∧ Ok r)
    (h : DataW.Trod en P W 0 (fun _ => true) true t (.slice A len cap) d p) (hlt : ∀ x ∈ p, x.block < W.heap.size) :
    ∃ xs : List α, xs.length = len ∧ len ≤ maxLen ∧ (∀ r ∈ xs, Ok r) ∧ RowX enc ss.length W A xs := by
  obtain ⟨hm, hz | ⟨b, off, rfl, hb, hall⟩⟩ := open_deep_row ht hss ce h0 h hlt
  · exact ⟨[], hz.symm, hm, by simp, .inl rfl⟩
  · have each : ∀ i, i < len → ∃ r : α, CellsAt W b (off + i * ss.length) (enc r) ∧ Ok r := fun i hi => hdec W b _ (hall i hi)
    obtain ⟨f, hf⟩ := choose_lt each
    refine ⟨(List.range len).map f, by simp, hm, fun r hr => ?_, ?_⟩
    · obtain ⟨i, hi, rfl⟩ := List.mem_map.1 hr
      exact (hf i (by simpa using hi)).2
    · refine .inr ⟨b, off, rfl, hb, fun i hi => ?_⟩
      have hi' : i < len := by simpa using hi
      have e : ((List.range len).map f).getD i default = f i := by simp [hi']
      rw [e]
      exact (hf i hi').1
end Go.Proofs.Ythiccboecimfjaa

/- Rows of accesses to a shade that came in. -/
namespace Go.Proofs.Ythiccboecimfjaa
open Go.RowKit Go.Maps Go.Deep
set_option maxRecDepth 100000

structure ActS where
  k : Int
  x : Int
  y : Int
  z : Int
  d : Int
  ow : Int
  oi : Int
  os : Bool
  vw : Int
  vi : Int
  vs : Bool
instance : Inhabited ActS := ⟨⟨0, 0, 0, 0, 0, 0, 0, false, 0, 0, false⟩⟩
def encActS (r : ActS) : List Value := [.int .i64 r.k, .int .i64 r.x, .int .i64 r.y, .int .i64 r.z, .int .i64 r.d, .int .u64 r.ow, .int .i64 r.oi, .bool r.os, .int .u64 r.vw, .int .i64 r.vi, .bool r.vs]
def OkActS (r : ActS) : Prop := In64 r.k ∧ In64 r.x ∧ In64 r.y ∧ In64 r.z ∧ In64 r.d ∧ InU r.ow ∧ In64 r.oi ∧ InU r.vw ∧ In64 r.vi
theorem flatActS : flatT Try.prog 6 48 = some [.num .i64, .num .i64, .num .i64, .num .i64, .num .i64, .num .u64, .num .i64, .boo, .num .u64, .num .i64, .boo] := by kernel_rfl
theorem cellsActS : Try.prog.cellsOf 48 = 11 := by kernel_rfl
theorem open_ActS {H : Type} {en : TypeId × Value → H} {W : World} {A : Option Addr} {len cap : Nat} {d : DataW H} {p : List MemPlace}
    (h : DataW.Trod en Try.prog W 0 (fun _ => true) true 23 (.slice A len cap) d p) (hlt : ∀ x ∈ p, x.block < W.heap.size) :
    ∃ xs : List ActS, xs.length = len ∧ len ≤ maxLen ∧ (∀ r ∈ xs, OkActS r) ∧ RowX encActS 11 W A xs := by
  refine open_rowX Try.underlying23 flatActS cellsActS (by simp) (fun w b o hall => ?_) h hlt
  obtain ⟨_, c0, x0, rfl, w0⟩ := hall 0 _ rfl
  obtain ⟨_, c1, x1, rfl, w1⟩ := hall 1 _ rfl
  obtain ⟨_, c2, x2, rfl, w2⟩ := hall 2 _ rfl
  obtain ⟨_, c3, x3, rfl, w3⟩ := hall 3 _ rfl
  obtain ⟨_, c4, x4, rfl, w4⟩ := hall 4 _ rfl
  obtain ⟨_, c5, x5, rfl, w5⟩ := hall 5 _ rfl
  obtain ⟨_, c6, x6, rfl, w6⟩ := hall 6 _ rfl
  obtain ⟨_, c7, x7, rfl⟩ := hall 7 _ rfl
  obtain ⟨_, c8, x8, rfl, w8⟩ := hall 8 _ rfl
  obtain ⟨_, c9, x9, rfl, w9⟩ := hall 9 _ rfl
  obtain ⟨_, c10, x10, rfl⟩ := hall 10 _ rfl
  refine ⟨⟨x0, x1, x2, x3, x4, x5, x6, x7, x8, x9, x10⟩, fun j v e => ?_, wf_i.1 w0, wf_i.1 w1, wf_i.1 w2, wf_i.1 w3, wf_i.1 w4, wf_u.1 w5, wf_i.1 w6, wf_u.1 w8, wf_i.1 w9⟩
  match j with
  | 0 => simp [encActS] at e; subst e; exact c0
  | 1 => simp [encActS] at e; subst e; exact c1
  | 2 => simp [encActS] at e; subst e; exact c2
  | 3 => simp [encActS] at e; subst e; exact c3
  | 4 => simp [encActS] at e; subst e; exact c4
  | 5 => simp [encActS] at e; subst e; exact c5
  | 6 => simp [encActS] at e; subst e; exact c6
  | 7 => simp [encActS] at e; subst e; exact c7
  | 8 => simp [encActS] at e; subst e; exact c8
  | 9 => simp [encActS] at e; subst e; exact c9
  | 10 => simp [encActS] at e; subst e; exact c10
  | j + 11 => simp [encActS] at e
theorem at_ActS {w : World} {b o : Nat} {k x y z d ow oi vw vi : Int} {os vs : Bool} (h : CellsAt w b o (encActS ⟨k, x, y, z, d, ow, oi, os, vw, vi, vs⟩)) :
    w.cell? ⟨b, o, none⟩ = some (.int .i64 k) ∧ w.cell? ⟨b, o + 1, none⟩ = some (.int .i64 x) ∧ w.cell? ⟨b, o + 2, none⟩ = some (.int .i64 y) ∧ w.cell? ⟨b, o + 3, none⟩ = some (.int .i64 z) ∧ w.cell? ⟨b, o + 4, none⟩ = some (.int .i64 d) ∧ w.cell? ⟨b, o + 5, none⟩ = some (.int .u64 ow) ∧ w.cell? ⟨b, o + 6, none⟩ = some (.int .i64 oi) ∧ w.cell? ⟨b, o + 7, none⟩ = some (.bool os) ∧ w.cell? ⟨b, o + 8, none⟩ = some (.int .u64 vw) ∧ w.cell? ⟨b, o + 9, none⟩ = some (.int .i64 vi) ∧ w.cell? ⟨b, o + 10, none⟩ = some (.bool vs) :=
  ⟨h 0 _ rfl, h 1 _ rfl, h 2 _ rfl, h 3 _ rfl, h 4 _ rfl, h 5 _ rfl, h 6 _ rfl, h 7 _ rfl, h 8 _ rfl, h 9 _ rfl, h 10 _ rfl⟩
end Go.Proofs.Ythiccboecimfjaa

/- What closes every law's row: it answers true, and below the old heap nothing has turned: so each argument reads as it did, whatever its type. -/
namespace Go.Proofs.Ythiccboecimfjaa
open Go.RowKit Go.WideShapes Go.ChangeShapes Go.ChangeAt
set_option maxRecDepth 100000

section
variable {H : Type} {enc : TypeId × Value → H} {P : Program}
/-- The arguments' places lie below the heap's end: each reads behind the call as it did. -/
theorem args_stay (hl : laidOutB P = true) {W W' : World} (hb : Below W.heap.size W W') : ∀ (ts : List TypeId) (_ : (ts.all fun t => P.readableRec t && decide (t < P.types.size)) = true) (vs : List Value) (ds : List (DataW H)) (ps : List MemPlace),
    DataW.TrodAll enc P W 0 (fun _ => true) true ts vs ds ps → (∀ x ∈ ps, x.block < W.heap.size) → DataW.TrodAll enc P W' 0 (fun b => decide (b < W.heap.size)) true ts vs ds ps := by
  intro ts
  induction ts with
  | nil =>
    intro _ vs ds ps h _
    obtain ⟨rfl, rfl, rfl⟩ := trodAll_nil h
    exact trodAll_mk0
  | cons t ts ih =>
    intro hts vs ds ps h hlt
    rw [List.all_cons, Bool.and_eq_true, Bool.and_eq_true] at hts
    obtain ⟨v, vs', d, ds', p, q, rfl, rfl, rfl, h0, r0⟩ := trodAll_cons h
    exact trodAll_cons_mk (Below.trod hl hts.1.1 (of_decide_eq_true hts.1.2) h0 hb fun x hx => hlt x (List.mem_append_left _ hx))
      (ih hts.2 _ _ _ r0 fun x hx => hlt x (List.mem_append_right _ hx))

/-- The post of a law that answered true. -/
theorem law_post {f : Func} {s : ChangeSpec} {W W' : World} {args : Array Value} {ds : List (DataW H)} {before : List MemPlace} {tb : TypeId}
    (hl : laidOutB P = true) (hts : (f.params.toList.all fun t => P.readableRec t && decide (t < P.types.size)) = true) (hres : f.resultTypes = #[tb]) (htb : P.underlying tb = some .bool)
    (hv : s.vars = []) (hfn : s.fn H (ds ++ []) = { results := [.lit (.bool true)], args := ds })
    (hW : DataW.Whole enc P f.params.toList s.vars false W args.toList ds [] before) (hb : Below W.heap.size W W') :
    s.post enc P f false true false false W args (.bool true) W' := by
  have hlt : ∀ p ∈ before, p.block < W.heap.size := fun p hp => hW.lt p hp
  have hW2 := hW
  obtain ⟨p, q, hA, hV, rfl, hz, hn⟩ := hW2
  have hq : q = [] := by rw [hv] at hV; exact (trodVars_none hV).2
  subst hq
  refine ⟨ds, [], _, [], p, [], hW, ?_, ?_, ?_, World.keptBut_mono (fun x hx => ⟨hx, Or.inr (Or.inl (by simpa using hx))⟩) (hb.frame (· ∈ p ++ [])), fun h => by cases h⟩
  · rw [hfn, hres]
    exact trodAll_mk1 (shut_bool htb _)
  · rw [hfn]
    exact args_stay hl hb _ hts _ _ _ hA fun x hx => hlt x (by simpa using hx)
  · rw [hfn, hv]
    exact rfl
end

theorem u64_in {n : Int} (h : (Lit.int .u64 n).wf = true) : 0 ≤ n ∧ n ≤ 18446744073709551615 := by
  simpa [Lit.wf, IntKind.min, IntKind.max, IntKind.signed, IntKind.bits] using h
theorem i64_in {n : Int} (h : (Lit.int .i64 n).wf = true) : -9223372036854775808 ≤ n ∧ n ≤ 9223372036854775807 := by
  simpa [Lit.wf, IntKind.min, IntKind.max, IntKind.signed, IntKind.bits] using h
end Go.Proofs.Ythiccboecimfjaa

namespace Go.Proofs.Ythiccboecimfjaa.shadeExact
open Go.ChangeShapes Go.WideShapes Go.ChangeAt Go.RowKit Go.Maps
set_option maxRecDepth 100000

set_option maxHeartbeats 12800000 in
theorem walk (zs : List Int) (xs : List ActS) (A0 A : Option Addr) (cap0 cap : Nat) (hz : zs.length * 8 ≤ 140737488351232) (hok : ∀ r ∈ xs, OkActS r) (hlen : xs.length ≤ 9223372036854775807) (w : World) (hr0 : InWords w A0 zs) (hr : RowX encActS 11 w A xs) :
    Calls Try.prog 3 #[.slice A0 zs.length cap0, .slice A xs.length cap] w fun e w' => e = .returned (.bool true) ∧ Below w.heap.size w w' := by
  have hE := Env.start w
  have HZ := Lib.hid hok
  have HR := Lib.hid hr
  have HR0 := Lib.hid hr0
  have hzl : zs.length ≤ 9223372036854775807 := by omega
  clear hok hr hr0
  go_enter Try.func3, Try.ntmps3
  go_wp2_with fail
  refine (awake10 _).mono ?_
  rintro e w1 ⟨rfl, hb⟩
  replace hE := hE.over hb
  go_wp2_with fail
  refine (new_s hz hE (HR0.out.below hb)).mono ?_
  clear hb
  rintro e w2 ⟨bb, g, p, s, c, vr, rfl, hE, hb⟩
  clear hb
  obtain ⟨A1, cap1, w3, hrun, ho, hb⟩ := run_append_words (cap := cap0) hz (HR0.out.below hE.below)
  replace hE := hE.addWords ho hb
  clear ho hb
  go_upto_region 5 with (first | (at_builtin; refine wpList_append_run rfl _ _ 22 rfl hrun rfl rfl ?_))
  clear hrun HR0
  generalize hvw : Value.slice A1 zs.length cap1 = vw at *
  clear hvw
  replace hE := hE.addNone.addNoneO.addNoneO.box w3.heap.size rfl (uv (.slice none 0 0) (.slice none 0 0) (.slice none 0 0) 0 (0 : Nat) [vw]) 39
  go_wp2_with fail
  generalize w3.heap.size = u at *
  go_loopw [7] (fun i wr => ∃ (k : Nat) (fa : Int) (st : Nat), k ≤ xs.length ∧ k ≤ 150 ∧ i = .int .i64 k ∧ GX w u bb vw vr zs g p s c k fa st wr) (fun i _ => xs.length - (intOf i).toNat)
  case atStart => exact ⟨0, 0, 0, by omega, by omega, rfl, _, _, _, [], [], [], none, 0, _, _, ⟨0, 0, 0, 0, 0⟩, 0, by simp, by simp, by simp, by omega, by omega, by omega, fun x => Int.le_refl _, hE⟩
  case round =>
    clear hE
    obtain ⟨k, fa, st, hk, hk1, rfl, v1, v2, v3, lc, li, l, mp, m, S, F, q, n, hlc, hli, hll, hn, hm, hst, hnn, hE⟩ := hrel
    by_cases hlt : k < xs.length ∧ k < 150
    · obtain ⟨hlt, hlt1⟩ := hlt
      have hb1 : decide ((k : Int) < xs.length) = true := by simp; omega
      have hb2 : decide ((k : Int) < 150) = true := by simp; omega
      rcases HR.out with hz0 | ⟨blk, off, rfl, hbw, hc⟩
      · rw [hz0] at hlt; simp at hlt
      have hok : OkActS (xs.getD k default) := HZ.out _ (by simp [hlt])
      have hAt := fun (w' : World) (hb : Below w.heap.size w w') => (hc k hlt).below hb hbw
      clear hc
      generalize xs.getD k default = r at *
      obtain ⟨kd, x, y, z, d, ow, oi, os, vx, vi, vs⟩ := r
      obtain ⟨_, wx, wy, wz, _, how, _, hvw, hvi⟩ := hok
      simp only at wx wy wz how hvw hvi
      have HX := Lib.hid (show Wf (x, y, z) from ⟨wx, wy, wz⟩)
      have HW := Lib.hid hvw
      have HI : Hid (In64 vi) := Lib.hid hvi
      have HAT := Lib.hid fun (w' : World) (hb : Below w.heap.size w w') => at_ActS (hAt w' hb)
      clear wx wy wz how hvw hvi hAt
      obtain ⟨c0, c1', c2', c3, c4, c5, c6, c7, c8, c9, c10⟩ := HAT.out _ hE.below
      by_cases hv0 : vi < 0
      · have hb3 : decide (vi < 0) = true := by simpa using hv0
        go_wp2_with fail
        go_ret
        exact ⟨rfl, hE.below⟩
      · have hb3 : decide (vi < 0) = false := by simpa using hv0
        have hG := fun (w' : World) (h : Env w [boxI u (uv v1 v2 v3 fa (st : Nat) [vw]), rowO v1 lc, rowO v2 li, intsI v3 l, wordsI vw zs, boxI bb (sv g vr), wordsI vr zs, boxI g (gv p mp s (st : Nat) fa), leadsI mp (getL li) m, soulI s S l, wbox p c, cellI c F (getL lc) q n] w') => does_any kd x y z d ow oi vx vi os vs HX.out HW.out HI.out (by omega) (by omega : k ≤ 1000) hlc hli hll hn hm hst hzl hnn h
        generalize faX kd l lc fa x y z d ow os vs = f1 at hG
        generalize stX kd l st x y d = s1 at hG
        have HG := Lib.hid hG
        clear hG
        go_wp2_with fail
        clear c0 c1' c2' c3 c4 c5 c6 c7 c8 c9 c10
        refine Ord.wp_chain2 [6] (fun w' => Below w.heap.size w w') (Stage [Env w [boxI u (uv v1 v2 v3 fa (st : Nat) [vw]), rowO v1 lc, rowO v2 li, intsI v3 l, wordsI vw zs, boxI bb (sv g vr), wordsI vr zs, boxI g (gv p mp s (st : Nat) fa), leadsI mp (getL li) m, soulI s S l, wbox p c, cellI c F (getL lc) q n], GX w u bb vw vr zs g p s c (k + 1) f1 s1]) (by kernel_rfl) (by kernel_rfl) (by kernel_rfl) hE.drew.below ⟨_, rfl, hE.drew⟩ (fun hT => ?_)
        have hT9 := Lib.hid hT
        clear hT
        repeat (refine Ord.ch2_value (v := ?_) hT9.out (by decide) (by rfl) ?_ ?_; rotate_left; (focus (intro w5 hS; obtain ⟨c0, c1', c2', c3, c4, c5, c6, c7, c8, c9, c10⟩ := HAT.out _ hS; go_simp <;> with_reducible rfl)); (try simp only [Act.put, List.setIfInBounds_toArray, List.set_cons_zero, List.set_cons_succ]))
        refine Ord.ch2_turn 0 hT9.out (by rfl) (by decide) (Or.inl rfl) (by rfl) (v := .bool true) ?_ ?_
        · rintro w5 hC5 ⟨P5, hP5, hA5⟩
          cases hP5
          go_simp
          simp only [Ord.LandsIn]
          refine (HG.out _ hA5).mono ?_
          rintro e w6 ⟨rfl, hA6⟩
          refine ⟨rfl, ?_, _, rfl, hA6⟩
          obtain ⟨x1, x2, x3, y1, y2, y3, y4, y5, y6, y7, y8, y9, z1, z2, z3, z4, z5, z6, z7, hE5⟩ := hA6
          exact hE5.below
        (try simp only [Act.put, List.setIfInBounds_toArray, List.set_cons_zero, List.set_cons_succ])
        repeat (refine Ord.ch2_value (v := ?_) hT9.out (by decide) (by rfl) ?_ ?_; rotate_left; (focus (intro w5 hS; skip; go_simp <;> with_reducible rfl)); (try simp only [Act.put, List.setIfInBounds_toArray, List.set_cons_zero, List.set_cons_succ]))
        refine Ord.ch2_late_call 0 8 [7, 6] hT9.out (by decide) (by kernel_rfl) (by kernel_rfl) rfl rfl (by rfl) (v := .int .i64 (s1 : Nat)) ?_ ?_
        · rintro w5 j hj hj1 hC5 ⟨P5, hP5, hA5⟩
          obtain rfl : j = 1 := by simp at hj1; omega
          cases hP5
          obtain ⟨x1, x2, x3, y1, y2, y3, y4, y5, y6, y7, y8, y9, z1, z2, z3, z4, z5, z6, z7, hE5⟩ := hA5
          go_simp
          simp only [Ord.LandsIn]
          refine (told_s (hE5.sblk 5 rfl) (hE5.gblk 7 rfl)).mono ?_
          rintro e w6 ⟨rfl, rfl⟩
          exact ⟨rfl, hE5.below, _, rfl, x1, x2, x3, y1, y2, y3, y4, y5, y6, y7, y8, y9, z1, z2, z3, z4, z5, z6, z7, hE5⟩
        (try simp only [Act.put, List.setIfInBounds_toArray, List.set_cons_zero, List.set_cons_succ])
        repeat (refine Ord.ch2_value (v := ?_) hT9.out (by decide) (by rfl) ?_ ?_; rotate_left; (focus (intro w5 hS; skip; go_simp <;> with_reducible rfl)); (try simp only [Act.put, List.setIfInBounds_toArray, List.set_cons_zero, List.set_cons_succ]))
        refine Ord.ch2_late 0 8 [7, 6] hT9.out (by decide) (by kernel_rfl) (by kernel_rfl) rfl rfl (by rfl) (v := .int .i64 (s1 : Nat)) ?_ ?_
        · rintro w5 j hj hj1 hC5 ⟨P5, hP5, hA5⟩
          obtain rfl : j = 1 := by simp at hj1; omega
          cases hP5
          obtain ⟨x1, x2, x3, y1, y2, y3, y4, y5, y6, y7, y8, y9, z1, z2, z3, z4, z5, z6, z7, hE5⟩ := hA5
          have r := hE5.rule 0 rfl
          unfold uv at r
          go_simp
        (try simp only [Act.put, List.setIfInBounds_toArray, List.set_cons_zero, List.set_cons_succ])
        repeat (refine Ord.ch2_value (v := ?_) hT9.out (by decide) (by rfl) ?_ ?_; rotate_left; (focus (intro w5 hS; skip; go_simp <;> with_reducible rfl)); (try simp only [Act.put, List.setIfInBounds_toArray, List.set_cons_zero, List.set_cons_succ]))
        refine Ord.ch2_late_call 0 18 [17, 8, 7, 6] hT9.out (by decide) (by kernel_rfl) (by kernel_rfl) rfl rfl (by rfl) (v := .int .i64 f1) ?_ ?_
        · rintro w5 j hj hj1 hC5 ⟨P5, hP5, hA5⟩
          obtain rfl : j = 1 := by simp at hj1; omega
          cases hP5
          obtain ⟨x1, x2, x3, y1, y2, y3, y4, y5, y6, y7, y8, y9, z1, z2, z3, z4, z5, z6, z7, hE5⟩ := hA5
          go_simp
          simp only [Ord.LandsIn]
          refine (faults_s (hE5.sblk 5 rfl) (hE5.gblk 7 rfl)).mono ?_
          rintro e w6 ⟨rfl, rfl⟩
          exact ⟨rfl, hE5.below, _, rfl, x1, x2, x3, y1, y2, y3, y4, y5, y6, y7, y8, y9, z1, z2, z3, z4, z5, z6, z7, hE5⟩
        (try simp only [Act.put, List.setIfInBounds_toArray, List.set_cons_zero, List.set_cons_succ])
        repeat (refine Ord.ch2_value (v := ?_) hT9.out (by decide) (by rfl) ?_ ?_; rotate_left; (focus (intro w5 hS; skip; go_simp <;> with_reducible rfl)); (try simp only [Act.put, List.setIfInBounds_toArray, List.set_cons_zero, List.set_cons_succ]))
        refine Ord.ch2_late 0 18 [17, 8, 7, 6] hT9.out (by decide) (by kernel_rfl) (by kernel_rfl) rfl rfl (by rfl) (v := .int .i64 f1) ?_ ?_
        · rintro w5 j hj hj1 hC5 ⟨P5, hP5, hA5⟩
          obtain rfl : j = 1 := by simp at hj1; omega
          cases hP5
          obtain ⟨x1, x2, x3, y1, y2, y3, y4, y5, y6, y7, y8, y9, z1, z2, z3, z4, z5, z6, z7, hE5⟩ := hA5
          have r := hE5.rule 0 rfl
          unfold uv at r
          go_simp
        (try simp only [Act.put, List.setIfInBounds_toArray, List.set_cons_zero, List.set_cons_succ])
        repeat (refine Ord.ch2_value (v := ?_) hT9.out (by decide) (by rfl) ?_ ?_; rotate_left; (focus (intro w5 hS; skip; go_simp <;> with_reducible rfl)); (try simp only [Act.put, List.setIfInBounds_toArray, List.set_cons_zero, List.set_cons_succ]))
        refine Ord.InText.nil fun w5 hS => ?_
        clear hT9
        obtain ⟨hC9, hA9⟩ := Ord.chain2_end hS
        clear hS
        obtain ⟨P9, hP9, hA9⟩ := hA9
        cases hP9
        go_wp2_with fail
        exact ⟨⟨k + 1, f1, s1, by omega, by omega, by simp, hA9⟩, by simp [intOf]; omega⟩
    · by_cases hl1 : k < xs.length
      · have hl2 : ¬ k < 150 := fun h => hlt ⟨hl1, h⟩
        have hb1 : decide ((k : Int) < xs.length) = true := by simp; omega
        have hb2 : decide ((k : Int) < 150) = false := by simp; omega
        replace hE := (hE.sub (List.nil_sublist _)).box wr.heap.size rfl [.int .i64 0, .int .i64 0, .int .i64 0, .int .i64 0] 46
        go_upto_region 14 with fail
        generalize wr.alloc _ = w8 at *
        generalize wr.heap.size = B at *
        have r0 := hE.rule 0 rfl
        have hw0 : wrap64 (0 + 0) = 0 := by simp [wrap64]
        go_wp2_with (first | (with_reducible refine (storeNil_s _ _ _ _ _ _ _ _).mono ?_; rintro e w1 ⟨rfl, hb⟩; replace hE := hE.over hb; clear hb r0; have r0 := hE.rule 0 rfl) | (with_reducible refine (loadNil_s _ _ _ _ _).mono ?_; rintro e w1 ⟨rfl, hb⟩; replace hE := hE.over hb; clear hb r0; have r0 := hE.rule 0 rfl) | (with_reducible refine (swapNil_s _ _ _ _ _ _ _ _ _ _ _).mono ?_; rintro e w1 ⟨rfl, hb⟩; replace hE := hE.over hb; clear hb r0; have r0 := hE.rule 0 rfl) | (with_reducible refine (addNil_s _ _ _ _ _ _).mono ?_; rintro e w1 ⟨rfl, hb⟩; replace hE := hE.over hb; clear hb r0; have r0 := hE.rule 0 rfl) | (with_reducible refine (bornNil_s _ _).mono ?_; rintro e w1 ⟨rfl, rfl⟩) | (with_reducible refine (peekNil_s _ _ _ _).mono ?_; rintro e w1 ⟨rfl, hb⟩; replace hE := hE.over hb; clear hb r0; have r0 := hE.rule 0 rfl) | (with_reducible refine (countNil_s _).mono ?_; rintro e w1 ⟨rfl, hb⟩; replace hE := hE.over hb; clear hb r0; have r0 := hE.rule 0 rfl) | (with_reducible refine (cellsNil_s _).mono ?_; rintro e w1 ⟨rfl, hb⟩; replace hE := hE.over hb; clear hb r0; have r0 := hE.rule 0 rfl) | (with_reducible refine (toldNil_s _).mono ?_; rintro e w1 ⟨rfl, rfl⟩) | (with_reducible refine (faultsNil_s _).mono ?_; rintro e w1 ⟨rfl, rfl⟩))
        go_ret
        exact ⟨rfl, hE.below⟩
      · have hb1 : decide ((k : Int) < xs.length) = false := by simp; omega
        replace hE := (hE.sub (List.nil_sublist _)).box wr.heap.size rfl [.int .i64 0, .int .i64 0, .int .i64 0, .int .i64 0] 46
        go_upto_region 14 with fail
        generalize wr.alloc _ = w8 at *
        generalize wr.heap.size = B at *
        have r0 := hE.rule 0 rfl
        have hw0 : wrap64 (0 + 0) = 0 := by simp [wrap64]
        go_wp2_with (first | (with_reducible refine (storeNil_s _ _ _ _ _ _ _ _).mono ?_; rintro e w1 ⟨rfl, hb⟩; replace hE := hE.over hb; clear hb r0; have r0 := hE.rule 0 rfl) | (with_reducible refine (loadNil_s _ _ _ _ _).mono ?_; rintro e w1 ⟨rfl, hb⟩; replace hE := hE.over hb; clear hb r0; have r0 := hE.rule 0 rfl) | (with_reducible refine (swapNil_s _ _ _ _ _ _ _ _ _ _ _).mono ?_; rintro e w1 ⟨rfl, hb⟩; replace hE := hE.over hb; clear hb r0; have r0 := hE.rule 0 rfl) | (with_reducible refine (addNil_s _ _ _ _ _ _).mono ?_; rintro e w1 ⟨rfl, hb⟩; replace hE := hE.over hb; clear hb r0; have r0 := hE.rule 0 rfl) | (with_reducible refine (bornNil_s _ _).mono ?_; rintro e w1 ⟨rfl, rfl⟩) | (with_reducible refine (peekNil_s _ _ _ _).mono ?_; rintro e w1 ⟨rfl, hb⟩; replace hE := hE.over hb; clear hb r0; have r0 := hE.rule 0 rfl) | (with_reducible refine (countNil_s _).mono ?_; rintro e w1 ⟨rfl, hb⟩; replace hE := hE.over hb; clear hb r0; have r0 := hE.rule 0 rfl) | (with_reducible refine (cellsNil_s _).mono ?_; rintro e w1 ⟨rfl, hb⟩; replace hE := hE.over hb; clear hb r0; have r0 := hE.rule 0 rfl) | (with_reducible refine (toldNil_s _).mono ?_; rintro e w1 ⟨rfl, rfl⟩) | (with_reducible refine (faultsNil_s _).mono ?_; rintro e w1 ⟨rfl, rfl⟩))
        go_ret
        exact ⟨rfl, hE.below⟩

theorem cellsWord : Try.prog.cellsOf 40 = 1 := by kernel_rfl

theorem bytesWord : Try.prog.bytesOf 40 = 8 := by kernel_rfl

theorem own : ownKnob Try.prog.godebug = none := by kernel_rfl
theorem laidOut : laidOutB Try.prog = true := by kernel_rfl

set_option maxRecDepth 100000 in
theorem lifted (os : Os) (started : os.Started) (H : Type) (enc : TypeId × Value → H) :
    ReturnsInHanded {} Try.checked os 3 .any (Rows.shadeExactSpec.pre6 enc Try.prog Try.f3 Rows.shadeExactRow.domain false) (Rows.shadeExactSpec.post enc Try.prog Try.f3 false true false false) := by
  refine returnsInHanded_of_change_sized (C := Try.checked) own started (by kernel_rfl) Try.func3
    (ChangeSpec.witness6 (enc := enc) (C := Try.checked) false ⟨#[], #[.slice none 0 0, .slice none 0 0], []⟩ 8 (by kernel_rfl) (by kernel_rfl) (by kernel_rfl) (by kernel_rfl)) ?_
  intro W base args ds gs before hval0 hW hcnd hsz0 _
  have hval : ∀ (j : Nat) t v, Try.f3.params[j]? = some t → args[j]? = some v → Value.okWide Try.prog W .any base t v := hval0
  have hW' := hW
  obtain ⟨p, q, hA0, hV, rfl, hfz, hnd⟩ := hW
  have hA : DataW.TrodAll enc Try.prog W 0 (fun _ => true) true Try.f3.params.toList args.toList ds p := hA0
  have hsz : (DataW.weightsEach Try.prog (Try.f3.params.toList ++ Rows.shadeExactSpec.plain.varTypes Try.prog) (ds ++ gs)).all (· ≤ reachBytes) = true := hsz0
  clear hsz0
  rw [Try.params3] at hA hval hsz
  obtain ⟨v0, vs0, d0, ds0, p0, q0, hargs, rfl, rfl, g0, r0⟩ := trodAll_cons hA
  obtain ⟨v1, vs1, d1, ds1, p1, q1, rfl, rfl, rfl, g1, r1⟩ := trodAll_cons r0
  obtain ⟨rfl, rfl, rfl⟩ := trodAll_nil r1
  obtain rfl : args = #[v0, v1] := by cases args; simp_all
  obtain ⟨rfl, rfl⟩ := trodVars_none hV
  obtain ⟨A1, n1, cap1, rfl⟩ := okWide_slice Try.underlying23 (hval 1 23 v1 rfl rfl)
  obtain ⟨zs1, rfl, h1, w1, row1⟩ := open_ActS g1 (fun x hx => hW'.lt x (by simp [hx]))
  unfold maxLen at h1
  obtain ⟨A0, n0, cap0, rfl⟩ := okWide_slice Try.underlying22 (hval 0 22 v0 rfl rfl)
  have s0 := num_row_size Try.underlying22 Try.underlying40 cellsWord bytesWord g0 hsz (j := 0) rfl rfl
  obtain ⟨zs0, rfl, h0, w0, row0⟩ := open_num_row Try.underlying22 Try.underlying40 cellsWord g0 (fun x hx => hW'.lt x (by simp [hx]))
  unfold maxLen at h0
  clear hA0 hval0
  refine (walk zs0 zs1 A0 A1 cap0 cap1 s0 w1 h1 W row0 row1).mono fun e W' ⟨he, hg⟩ => ?_
  subst he
  exact ⟨_, rfl, law_post laidOut (by kernel_rfl) (by kernel_rfl) Try.underlying4 rfl rfl hW' hg⟩

theorem over : Rows.shadeExactRow.holds Try.pinned (OpenSpec.ofChange Rows.shadeExactSpec) :=
  OpenClaim.holds_of_wide 3 Try.f3 rfl rfl rfl rfl rfl rfl rfl ⟨rfl, rfl, rfl, rfl, rfl⟩ rfl rfl rfl rfl rfl (by kernel_rfl) Try.func3 (by kernel_rfl)
    (of_decide_eq_true (by kernel_rfl)) (by unfold Func.isWrapper; first | (rw [if_pos (by decide +kernel)]; kernel_rfl) | (rw [if_neg (by decide +kernel)]; exact ⟨rfl, rfl⟩))
    (fun os started H enc _ => lifted os started H enc)

/-- THE STATEMENT. -/
theorem proved : Rows.ShadeExactSaid := over
#print axioms proved
end Go.Proofs.Ythiccboecimfjaa.shadeExact
