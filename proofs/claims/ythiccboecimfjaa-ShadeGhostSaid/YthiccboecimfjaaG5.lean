/- ShadeGhost: behind the same accesses a shade has the watched world's words, and but for what stale loads are told its answers: so the law answers true, for every input. -/
import Derived.Test.YthiccboecimfjaaG4
import Derived.Deep.Slices
import Derived.WalkKit
import Derived.Test.YthiccboecimfjaaChecked
import Derived.ProofKit
import Derived.OpenShut
import Derived.Test.YthiccboecimfjaaRows

/- Whatever comes to numbers and bools, structs in structs too: what its cells hold; a slice of such that came in. -/
namespace Go.Proofs.Ythiccboecimfjaa
open Go.RowKit Go.WideShapes Go.ChangeShapes Go.ChangeAt Go.Deep
set_option maxRecDepth 100000

/-- The cells of the fields from offset o on. -/
def flatF (P : Program) (g : TypeId → Option (List Sca)) : List Field → Nat → Option (List Sca)
  | [], _ => some []
  | f :: fs, o => if f.offset = o then (g f.type).bind fun ss => if P.cellsOf f.type = ss.length then (flatF P g fs (o + ss.length)).map fun r => ss ++ r else none else none
/-- The cells of a type, if all are numbers and bools. -/
def flatT (P : Program) : Nat → TypeId → Option (List Sca)
  | 0, _ => none
  | d + 1, t =>
    match P.underlying t with
    | some .bool => some [.boo]
    | some (.int k) => some [.num k]
    | some (.struct fs) => (flatF P (flatT P d) fs.toList 0).bind fun ss => if P.cellsOf t = ss.length then some ss else none
    | _ => none

/-- Each cell is of its kind. -/
def CellsOk (cs : List Value) (ss : List Sca) : Prop := ∀ (i : Nat) (s : Sca), ss[i]? = some s → ∃ v, cs[i]? = some v ∧ s.ok v

section
variable {H : Type} {enc : TypeId × Value → H} {P : Program} {w : World} {base : Nat} {spare : Nat → Bool} {held : Bool}

theorem open_fields {g : TypeId → Option (List Sca)} {n : Nat} (hg : ∀ {t ss} {cs : List Value} {x : DataW H × List MemPlace}, g t = some ss → DataW.trod enc P w base spare held n t cs = some x → CellsOk cs ss) (cs : List Value) :
    ∀ (fs : List Field) (o : Nat) (ss : List Sca), flatF P g fs o = some ss → (∀ f ∈ fs, ∃ y, DataW.trod enc P w base spare held n f.type ((cs.drop f.offset).take (P.cellsOf f.type)) = some y) → CellsOk (cs.drop o) ss
  | [], o, ss, h, _ => by
    simp [flatF] at h
    subst h
    intro i s e
    simp at e
  | f :: fs, o, ss, h, hf => by
    unfold flatF at h
    split at h
    · rename_i ho
      cases h1 : g f.type with
      | none => rw [h1] at h; cases h
      | some s1 =>
        rw [h1] at h
        simp only [Option.bind_some] at h
        split at h
        · rename_i hc
          cases h2 : flatF P g fs (o + s1.length) with
          | none => rw [h2] at h; cases h
          | some s2 =>
            rw [h2] at h
            obtain rfl : s1 ++ s2 = ss := by simpa using h
            obtain ⟨y, hy⟩ := hf f (by simp)
            rw [ho, hc] at hy
            have hk := hg h1 hy
            have hr := open_fields hg cs fs (o + s1.length) s2 h2 fun f' hf' => hf f' (by simp [hf'])
            intro i s e
            by_cases hi : i < s1.length
            · rw [List.getElem?_append_left hi] at e
              obtain ⟨v, hv, hs⟩ := hk i s e
              rw [List.getElem?_take_of_lt hi] at hv
              exact ⟨v, hv, hs⟩
            · rw [List.getElem?_append_right (by omega)] at e
              obtain ⟨v, hv, hs⟩ := hr _ s e
              refine ⟨v, ?_, hs⟩
              rw [List.getElem?_drop] at hv ⊢
              rw [← hv]
              congr 1
              omega
        · cases h
    · cases h

theorem open_cells : ∀ (d : Nat) {t : TypeId} {ss : List Sca} {fuel : Nat} {cs : List Value} {x : DataW H × List MemPlace}, flatT P d t = some ss → DataW.trod enc P w base spare held fuel t cs = some x → CellsOk cs ss
  | 0, _, _, _, _, _, h, _ => by simp [flatT] at h
  | d + 1, t, ss, fuel, cs, x, h, hx => by
    unfold flatT at h
    split at h
    · rename_i hu
      obtain ⟨b, rfl, _⟩ := DataW.trod_bool hu hx
      obtain rfl : [Sca.boo] = ss := by simpa using h
      intro i s e
      cases i with
      | zero => simp at e; subst e; exact ⟨_, rfl, b, rfl⟩
      | succ i => simp at e
    · rename_i k hu
      obtain ⟨n, rfl, _, hw⟩ := DataW.trod_int hu hx
      obtain rfl : [Sca.num k] = ss := by simpa using h
      intro i s e
      cases i with
      | zero => simp at e; subst e; exact ⟨_, rfl, n, rfl, hw⟩
      | succ i => simp at e
    · rename_i fs hu
      cases h1 : flatF P (flatT P d) fs.toList 0 with
      | none => rw [h1] at h; cases h
      | some s1 =>
        rw [h1] at h
        simp only [Option.bind_some] at h
        split at h
        · obtain rfl : s1 = ss := by simpa using h
          obtain ⟨xs, n, _, _, _, hl, hall⟩ := DataW.trod_struct hu hx
          have := open_fields (n := n) (fun {t ss cs x} h1 h2 => open_cells d h1 h2) cs fs.toList 0 s1 h1 fun f hf => by
            obtain ⟨i, hi, he⟩ := List.getElem_of_mem hf
            have hi' : i < fs.size := by simpa using hi
            have := hall i f (by simp [hi']; simpa using he)
            rw [this]
            exact ⟨xs[i]'(by omega), by simp [hl, hi']⟩
          simpa using this
        · cases h
    · cases h

/-- A slice that came in: each cell of each element. -/
theorem open_deep_row {t e : TypeId} {ss : List Sca} {d : Nat} {A : Option Addr} {len cap : Nat} {dt : DataW H} {p : List MemPlace} (ht : P.underlying t = some (.slice e)) (hss : flatT P d e = some ss) (ce : P.cellsOf e = ss.length) (h0 : 0 < ss.length)
    (h : DataW.Trod enc P w 0 (fun _ => true) true t (.slice A len cap) dt p) (hlt : ∀ x ∈ p, x.block < w.heap.size) :
    len ≤ maxLen ∧ (len = 0 ∨ ∃ b off, A = some ⟨b, off, none⟩ ∧ b < w.heap.size ∧ ∀ i, i < len → ∀ (j : Nat) (s : Sca), ss[j]? = some s → ∃ v, w.cell? ⟨b, off + i * ss.length + j, none⟩ = some v ∧ s.ok v) := by
  obtain ⟨fuel, hf⟩ := h
  rcases open_slice ht hf with ⟨hcs, hx⟩ | ⟨a, len', cap', m, n, D, Pl, hcs, _, hl, hm, hmm, hx, hall⟩
  · simp [Value.cells] at hcs
    obtain ⟨rfl, rfl, rfl⟩ := hcs
    exact ⟨Nat.zero_le _, .inl rfl⟩
  · simp [Value.cells] at hcs
    obtain ⟨rfl, rfl, rfl⟩ := hcs
    simp only [Prod.mk.injEq] at hx
    obtain ⟨rfl, rfl⟩ := hx
    simp only [if_true] at hmm
    subst hmm
    refine ⟨by omega, ?_⟩
    by_cases hz : len = 0
    · exact .inl hz
    · right
      have each : ∀ i, i < m → ∀ (j : Nat) (s : Sca), ss[j]? = some s → ∃ v, w.cell? (a.add (i * ss.length + j)) = some v ∧ s.ok v := fun i hi j s hs => by
        obtain ⟨cs', h1, h2⟩ := hall i hi
        obtain ⟨_, hlen, hcell⟩ := World.cells?_some h1
        obtain ⟨v, hv, hok⟩ := open_cells d hss h2 j s hs
        have hj : j < ss.length := (List.getElem?_eq_some_iff.1 hs).1
        have := hcell j (by omega)
        rw [add_add, ce, hv] at this
        exact ⟨v, this, hok⟩
      obtain ⟨b, off, spot⟩ := a
      have hspot : spot = none := by
        obtain ⟨v, hv, _⟩ := each 0 (by omega) 0 (ss[0]) (by simp [h0])
        simpa [Addr.add] using World.cell?_spot hv
      subst hspot
      refine ⟨b, off, rfl, hlt (.cell b off) (List.mem_append_left _ (MemPlace.mem_row.2 ⟨0, by rw [ce]; exact Nat.mul_pos (by omega) h0, by simp⟩)), fun i hi j s hs => ?_⟩
      obtain ⟨v, hv, hok⟩ := each i (by omega) j s hs
      rw [add_plain] at hv
      exact ⟨v, by rw [Nat.add_assoc]; exact hv, hok⟩
/-- A struct by value, structs in it too. -/
theorem open_deep {r : Reach} {b0 : Nat} {t : TypeId} {fs : Array Field} {ss : List Sca} {d : Nat} {v : Value} {dt : DataW H} {p : List MemPlace} (hs : P.underlying t = some (.struct fs)) (hss : flatT P d t = some ss) (hC : P.cellsOf t = ss.length)
    (hv : Value.okWide P w r b0 t v) (h : DataW.Trod enc P w base spare held t v dt p) :
    ∃ cs : Array Value, v = .agg cs ∧ cs.size = ss.length ∧ ∀ (i : Nat) (s : Sca), ss[i]? = some s → ∃ x, cs[i]? = some x ∧ s.ok x := by
  obtain ⟨cs, rfl, hsz⟩ := okWide_struct hs hv
  obtain ⟨fuel, hf⟩ := h
  refine ⟨cs, rfl, hsz.trans hC, fun i s e => ?_⟩
  obtain ⟨x, hx, hk⟩ := open_cells d hss hf i s e
  exact ⟨x, by simpa [Value.cells] using hx, hk⟩
end
end Go.Proofs.Ythiccboecimfjaa

/- Rows that came in: of whatever structs of numbers and bools; each element's cells. General. -/
namespace Go.Proofs.Ythiccboecimfjaa
open Go.RowKit Go.Maps Go.Deep
set_option maxRecDepth 100000

/-- From o on the block b holds vs. -/
def CellsAt (w : World) (b o : Nat) (vs : List Value) : Prop := ∀ (j : Nat) (v : Value), vs[j]? = some v → w.cell? ⟨b, o + j, none⟩ = some v
theorem CellsAt.below {w w' : World} {b o : Nat} {vs : List Value} (h : CellsAt w b o vs) (hb : Below w.heap.size w w') (hl : b < w.heap.size) : CellsAt w' b o vs := fun j v e => by
  rw [hb.cell (p := ⟨b, o + j, none⟩) hl]; exact h j v e
/-- A row of things of m cells. -/
def RowX {α : Type} [Inhabited α] (enc : α → List Value) (m : Nat) (w : World) (A : Option Addr) (xs : List α) : Prop :=
  xs = [] ∨ ∃ b off, A = some ⟨b, off, none⟩ ∧ b < w.heap.size ∧ ∀ i, i < xs.length → CellsAt w b (off + i * m) (enc (xs.getD i default))
theorem RowX.below {α : Type} [Inhabited α] {enc : α → List Value} {m : Nat} {w w' : World} {A : Option Addr} {xs : List α} (h : RowX enc m w A xs) (hb : Below w.heap.size w w') : RowX enc m w' A xs := by
  rcases h with h | ⟨b, off, rfl, hl, hc⟩
  · exact .inl h
  · exact .inr ⟨b, off, rfl, Nat.lt_of_lt_of_le hl hb.size, fun i hi => (hc i hi).below hb hl⟩
theorem open_rowX {α : Type} [Inhabited α] {enc : α → List Value} {Ok : α → Prop} {P : Program} {H : Type} {en : TypeId × Value → H} {W : World} {t e : TypeId} {ss : List Sca} {dd : Nat} {A : Option Addr} {len cap : Nat} {d : DataW H} {p : List MemPlace}
    (ht : P.underlying t = some (.slice e)) (hss : flatT P dd e = some ss) (ce : P.cellsOf e = ss.length) (h0 : 0 < ss.length)
    (hdec : ∀ (w : World) (b o : Nat), (∀ (j : Nat) (s : Sca), ss[j]? = some s → ∃ v, w.cell? ⟨b, o + j, none⟩ = some v ∧ s.ok v) → ∃ r : α, CellsAt w b o (enc r) ∧ Ok r)
    (h : DataW.Trod en P W 0 (fun _ => true) true t (.slice A len cap) d p) (hlt : ∀ x ∈ p, x.block < W.heap.size) :
    ∃ xs : List α, xs.length = len ∧ len ≤ maxLen ∧ (∀ r ∈ xs, Ok r) ∧ RowX enc ss.length W A xs := by
  obtain ⟨hm, hz | ⟨b, off, rfl, hb, hall⟩⟩ := open_deep_row ht hss ce h0 h hlt
  · exact ⟨[], hz.symm, hm, by simp, .inl rfl⟩
  · have each : ∀ i, i < len → ∃ r : α, CellsAt W b (off + i * ss.length) (enc r) ∧ Ok r := fun i hi => hdec W b _ (hall i hi)
    obtain ⟨f, hf⟩ := choose_lt each
    refine ⟨(List.range len).map f, by simp, hm, fun r hr => ?_, ?_⟩
    · obtain ⟨i, hi, rfl⟩ := List.mem_map.1 hr
      exact (hf i (by simpa using hi)).2
    · refine .inr ⟨b, off, rfl, hb, fun i hi => ?_⟩
      have hi' : i < len := by simpa using hi
      have e : ((List.range len).map f).getD i default = f i := by simp [hi']
      rw [e]
      exact (hf i hi').1
end Go.Proofs.Ythiccboecimfjaa

/- Rows of accesses to a shade that came in. -/
namespace Go.Proofs.Ythiccboecimfjaa
open Go.RowKit Go.Maps Go.Deep
set_option maxRecDepth 100000

structure ActS where
  k : Int
  x : Int
  y : Int
  z : Int
  d : Int
  ow : Int
  oi : Int
  os : Bool
  vw : Int
  vi : Int
  vs : Bool
instance : Inhabited ActS := ⟨⟨0, 0, 0, 0, 0, 0, 0, false, 0, 0, false⟩⟩
def encActS (r : ActS) : List Value := [.int .i64 r.k, .int .i64 r.x, .int .i64 r.y, .int .i64 r.z, .int .i64 r.d, .int .u64 r.ow, .int .i64 r.oi, .bool r.os, .int .u64 r.vw, .int .i64 r.vi, .bool r.vs]
def OkActS (r : ActS) : Prop := In64 r.k ∧ In64 r.x ∧ In64 r.y ∧ In64 r.z ∧ In64 r.d ∧ InU r.ow ∧ In64 r.oi ∧ InU r.vw ∧ In64 r.vi
theorem flatActS : flatT Try.prog 6 48 = some [.num .i64, .num .i64, .num .i64, .num .i64, .num .i64, .num .u64, .num .i64, .boo, .num .u64, .num .i64, .boo] := by kernel_rfl
theorem cellsActS : Try.prog.cellsOf 48 = 11 := by kernel_rfl
theorem open_ActS {H : Type} {en : TypeId × Value → H} {W : World} {A : Option Addr} {len cap : Nat} {d : DataW H} {p : List MemPlace}
    (h : DataW.Trod en Try.prog W 0 (fun _ => true) true 23 (.slice A len cap) d p) (hlt : ∀ x ∈ p, x.block < W.heap.size) :
    ∃ xs : List ActS, xs.length = len ∧ len ≤ maxLen ∧ (∀ r ∈ xs, OkActS r) ∧ RowX encActS 11 W A xs := by
  refine open_rowX Try.underlying23 flatActS cellsActS (by simp) (fun w b o hall => ?_) h hlt
  obtain ⟨_, c0, x0, rfl, w0⟩ := hall 0 _ rfl
  obtain ⟨_, c1, x1, rfl, w1⟩ := hall 1 _ rfl
  obtain ⟨_, c2, x2, rfl, w2⟩ := hall 2 _ rfl
  obtain ⟨_, c3, x3, rfl, w3⟩ := hall 3 _ rfl
  obtain ⟨_, c4, x4, rfl, w4⟩ := hall 4 _ rfl
  obtain ⟨_, c5, x5, rfl, w5⟩ := hall 5 _ rfl
  obtain ⟨_, c6, x6, rfl, w6⟩ := hall 6 _ rfl
  obtain ⟨_, c7, x7, rfl⟩ := hall 7 _ rfl
  obtain ⟨_, c8, x8, rfl, w8⟩ := hall 8 _ rfl
  obtain ⟨_, c9, x9, rfl, w9⟩ := hall 9 _ rfl
  obtain ⟨_, c10, x10, rfl⟩ := hall 10 _ rfl
  refine ⟨⟨x0, x1, x2, x3, x4, x5, x6, x7, x8, x9, x10⟩, fun j v e => ?_, wf_i.1 w0, wf_i.1 w1, wf_i.1 w2, wf_i.1 w3, wf_i.1 w4, wf_u.1 w5, wf_i.1 w6, wf_u.1 w8, wf_i.1 w9⟩
  match j with
  | 0 => simp [encActS] at e; subst e; exact c0
  | 1 => simp [encActS] at e; subst e; exact c1
  | 2 => simp [encActS] at e; subst e; exact c2
  | 3 => simp [encActS] at e; subst e; exact c3
  | 4 => simp [encActS] at e; subst e; exact c4
  | 5 => simp [encActS] at e; subst e; exact c5
  | 6 => simp [encActS] at e; subst e; exact c6
  | 7 => simp [encActS] at e; subst e; exact c7
  | 8 => simp [encActS] at e; subst e; exact c8
  | 9 => simp [encActS] at e; subst e; exact c9
  | 10 => simp [encActS] at e; subst e; exact c10
  | j + 11 => simp [encActS] at e
theorem at_ActS {w : World} {b o : Nat} {k x y z d ow oi vw vi : Int} {os vs : Bool} (h : CellsAt w b o (encActS ⟨k, x, y, z, d, ow, oi, os, vw, vi, vs⟩)) :
    w.cell? ⟨b, o, none⟩ = some (.int .i64 k) ∧ w.cell? ⟨b, o + 1, none⟩ = some (.int .i64 x) ∧ w.cell? ⟨b, o + 2, none⟩ = some (.int .i64 y) ∧ w.cell? ⟨b, o + 3, none⟩ = some (.int .i64 z) ∧ w.cell? ⟨b, o + 4, none⟩ = some (.int .i64 d) ∧ w.cell? ⟨b, o + 5, none⟩ = some (.int .u64 ow) ∧ w.cell? ⟨b, o + 6, none⟩ = some (.int .i64 oi) ∧ w.cell? ⟨b, o + 7, none⟩ = some (.bool os) ∧ w.cell? ⟨b, o + 8, none⟩ = some (.int .u64 vw) ∧ w.cell? ⟨b, o + 9, none⟩ = some (.int .i64 vi) ∧ w.cell? ⟨b, o + 10, none⟩ = some (.bool vs) :=
  ⟨h 0 _ rfl, h 1 _ rfl, h 2 _ rfl, h 3 _ rfl, h 4 _ rfl, h 5 _ rfl, h 6 _ rfl, h 7 _ rfl, h 8 _ rfl, h 9 _ rfl, h 10 _ rfl⟩
end Go.Proofs.Ythiccboecimfjaa

/- What closes every law's row: it answers true, and below the old heap nothing has turned: so each argument reads as it did, whatever its type. -/
namespace Go.Proofs.Ythiccboecimfjaa
open Go.RowKit Go.WideShapes Go.ChangeShapes Go.ChangeAt
set_option maxRecDepth 100000

section
variable {H : Type} {enc : TypeId × Value → H} {P : Program}
/-- The arguments' places lie below the heap's end: each reads behind the call as it did. -/
theorem args_stay (hl : laidOutB P = true) {W W' : World} (hb : Below W.heap.size W W') : ∀ (ts : List TypeId) (_ : (ts.all fun t => P.readableRec t && decide (t < P.types.size)) = true) (vs : List Value) (ds : List (DataW H)) (ps : List MemPlace),
    DataW.TrodAll enc P W 0 (fun _ => true) true ts vs ds ps → (∀ x ∈ ps, x.block < W.heap.size) → DataW.TrodAll enc P W' 0 (fun b => decide (b < W.heap.size)) true ts vs ds ps := by
  intro ts
  induction ts with
  | nil =>
    intro _ vs ds ps h _
    obtain ⟨rfl, rfl, rfl⟩ := trodAll_nil h
    exact trodAll_mk0
  | cons t ts ih =>
    intro hts vs ds ps h hlt
    rw [List.all_cons, Bool.and_eq_true, Bool.and_eq_true] at hts
    obtain ⟨v, vs', d, ds', p, q, rfl, rfl, rfl, h0, r0⟩ := trodAll_cons h
    exact trodAll_cons_mk (Below.trod hl hts.1.1 (of_decide_eq_true hts.1.2) h0 hb fun x hx => hlt x (List.mem_append_left _ hx))
      (ih hts.2 _ _ _ r0 fun x hx => hlt x (List.mem_append_right _ hx))

/-- The post of a law that answered true. -/
theorem law_post {f : Func} {s : ChangeSpec} {W W' : World} {args : Array Value} {ds : List (DataW H)} {before : List MemPlace} {tb : TypeId}
    (hl : laidOutB P = true) (hts : (f.params.toList.all fun t => P.readableRec t && decide (t < P.types.size)) = true) (hres : f.resultTypes = #[tb]) (htb : P.underlying tb = some .bool)
    (hv : s.vars = []) (hfn : s.fn H (ds ++ []) = { results := [.lit (.bool true)], args := ds })
    (hW : DataW.Whole enc P f.params.toList s.vars false W args.toList ds [] before) (hb : Below W.heap.size W W') :
    s.post enc P f false true false false W args (.bool true) W' := by
  have hlt : ∀ p ∈ before, p.block < W.heap.size := fun p hp => hW.lt p hp
  have hW2 := hW
  obtain ⟨p, q, hA, hV, rfl, hz, hn⟩ := hW2
  have hq : q = [] := by rw [hv] at hV; exact (trodVars_none hV).2
  subst hq
  refine ⟨ds, [], _, [], p, [], hW, ?_, ?_, ?_, World.keptBut_mono (fun x hx => ⟨hx, Or.inr (Or.inl (by simpa using hx))⟩) (hb.frame (· ∈ p ++ [])), fun h => by cases h⟩
  · rw [hfn, hres]
    exact trodAll_mk1 (shut_bool htb _)
  · rw [hfn]
    exact args_stay hl hb _ hts _ _ _ hA fun x hx => hlt x (by simpa using hx)
  · rw [hfn, hv]
    exact rfl
end

theorem u64_in {n : Int} (h : (Lit.int .u64 n).wf = true) : 0 ≤ n ∧ n ≤ 18446744073709551615 := by
  simpa [Lit.wf, IntKind.min, IntKind.max, IntKind.signed, IntKind.bits] using h
theorem i64_in {n : Int} (h : (Lit.int .i64 n).wf = true) : -9223372036854775808 ≤ n ∧ n ≤ 9223372036854775807 := by
  simpa [Lit.wf, IntKind.min, IntKind.max, IntKind.signed, IntKind.bits] using h
end Go.Proofs.Ythiccboecimfjaa

namespace Go.Proofs.Ythiccboecimfjaa.shadeGhost
open Go.ChangeShapes Go.WideShapes Go.ChangeAt Go.RowKit Go.Maps
set_option maxRecDepth 100000

theorem stN_le (t : Bool) (k : Nat) : stN t k ≤ k + 1 := by unfold stN; split <;> omega

set_option maxHeartbeats 12800000 in
theorem walk (zs : List Int) (xs : List ActS) (A0 A : Option Addr) (cap0 cap : Nat) (hz : zs.length * 8 ≤ 140737488351232) (hok : ∀ r ∈ xs, OkActS r) (hlen : xs.length ≤ 9223372036854775807) (w : World) (hr0 : InWords w A0 zs) (hr : RowX encActS 11 w A xs) :
    Calls Try.prog 4 #[.slice A0 zs.length cap0, .slice A xs.length cap] w fun e w' => e = .returned (.bool true) ∧ Below w.heap.size w w' := by
  have hE := Env.start w
  have HZ := Lib.hid hok
  have HR := Lib.hid hr
  have HR0 := Lib.hid hr0
  have hzl : zs.length ≤ 9223372036854775807 := by omega
  clear hok hr hr0
  have hM : ∀ k : Nat, k ≤ 1000 → k < maxLen := fun k hk => by unfold maxLen; omega
  have HM := Lib.hid hM
  clear hM
  go_enter Try.func4, Try.ntmps4
  go_wp2_with fail
  refine (awake10 _).mono ?_
  rintro e w1 ⟨rfl, hb⟩
  replace hE := hE.over hb
  go_wp2_with fail
  refine (new_s hz hE (HR0.out.below hb)).mono ?_
  clear hb
  rintro e w2 ⟨b, g, p, s, c, vr, rfl, hE, hb⟩
  clear hb HR0
  go_wp2_with fail
  refine (new_g hE).mono ?_
  rintro e w3 ⟨g2, p2, s2, c2, rfl, hE, hb⟩
  clear hb
  go_wp2_with fail
  go_loopw [7] (fun i wr => ∃ (k n m st : Nat) (mp mp2 : Option Nat) (S S2 F F2 : Nat → Prop) (h f : Plc → Int) (l : List Int) (q : Cnt) (fa : Int), k ≤ xs.length ∧ k ≤ 150 ∧ n ≤ k ∧ m ≤ k ∧ st ≤ k ∧ l.length ≤ k ∧ i = .int .i64 k ∧ Env w [boxI g2 (gv p2 mp2 s2 (st : Nat) fa), leadsI mp2 h m, soulI s2 S2 l, wbox p2 c2, cellI c2 F2 f q n, boxI b (sv g vr), wordsI vr zs, boxI g (gv p mp s (st : Nat) fa), leadsI mp h m, soulI s S l, wbox p c, cellI c F f q n] wr) (fun i _ => xs.length - (intOf i).toNat)
  case atStart => exact ⟨0, 0, 0, 0, _, _, _, _, _, _, _, _, [], ⟨0, 0, 0, 0, 0⟩, _, by omega, by omega, by omega, by omega, by omega, by simp, rfl, hE⟩
  case round =>
    obtain ⟨k, n, m, st, mp, mp2, S, S2, F, F2, h, f, l, q, fa, hk, hk1, hn, hm, hst, hll, rfl, hEr⟩ := hrel
    clear hE
    have hl6 : l.length ≤ 1000000 := by omega
    have hl5 : l.length ≤ 100000 := by omega
    have hnm : n < maxLen := HM.out _ (by omega)
    have hmm : m < maxLen := HM.out _ (by omega)
    by_cases hlt : k < xs.length ∧ k < 150
    · obtain ⟨hlt, hlt1⟩ := hlt
      have hb1 : decide ((k : Int) < xs.length) = true := by simp; omega
      have hb2 : decide ((k : Int) < 150) = true := by simp; omega
      rcases HR.out with hz0 | ⟨blk, off, rfl, hbw, hc⟩
      · rw [hz0] at hlt; simp at hlt
      have hok : OkActS (xs.getD k default) := HZ.out _ (by simp [hlt])
      have hat := (hc k hlt).below hEr.below hbw
      clear hc
      generalize xs.getD k default = r at *
      obtain ⟨kd, x, y, z, d, ow, oi, os, vx, vi, vs⟩ := r
      obtain ⟨_, wx, wy, wz, _, how, _, hvw, hvi⟩ := hok
      simp only at wx wy wz how hvw hvi
      have HX := Lib.hid (show Wf (x, y, z) from ⟨wx, wy, wz⟩)
      have HW := Lib.hid hvw
      have HI : Hid (In64 vi) := Lib.hid hvi
      clear wx wy wz how hvw hvi
      obtain ⟨c0, c1', c2', c3, c4, c5, c6, c7, c8, c9, c10⟩ := at_ActS hat
      clear hat
      have hE := hEr.box wr.heap.size rfl [.int .i64 kd, .int .i64 x, .int .i64 y, .int .i64 z, .int .i64 d, .int .u64 ow, .int .i64 oi, .bool os, .int .u64 vx, .int .i64 vi, .bool vs] 48
      go_upto_region 11 with fail
      clear c0 c1' c2' c3 c4 c5 c6 c7 c8 c9 c10 hEr
      generalize wr.alloc _ = w4 at *
      generalize wr.heap.size = X at *
      by_cases h1 : kd = 1
      · subst h1
        have r0 := hE.rule 0 rfl
        obtain ⟨t, ht⟩ : ∃ t, stB l x y d = t := ⟨_, rfl⟩
        have HT := Lib.hid ht
        clear ht
        have hst1 : (if t = true then wrap64 ((st : Int) + 1) else (st : Int)) = ((stN t st : Nat) : Int) := by
          unfold stN
          split
          · rw [w64 _ (by omega)]; rfl
          · rfl
        have HST1 := Lib.hid hst1
        have hst2 := stN_le t st
        clear hst1
        go_wp2_with fail
        refine (load_s x y z d st HX.out (by omega) hl6 hzl 6 hE rfl rfl rfl rfl rfl rfl rfl).mono ?_
        rintro e w6 ⟨rfl, hE⟩
        rw [HT.out] at hE ⊢
        simp only [List.set_cons_succ, List.set_cons_zero] at hE
        clear r0
        obtain ⟨a1, ha1⟩ : ∃ a, ldW zs t st (f (x, y, z)) = a := ⟨_, rfl⟩
        obtain ⟨a2, ha2⟩ : ∃ a, ldI t (h (x, y, z)) = a := ⟨_, rfl⟩
        rw [ha1, ha2]
        have hA1 := Lib.hid ha1
        have hA2 := Lib.hid ha2
        clear ha1 ha2
        replace hE := hE.box w6.heap.size rfl [.int .u64 a1, .int .i64 a2, .bool t] 42
        go_upto_region 13 with fail
        generalize w6.alloc _ = w7 at *
        generalize w6.heap.size = V at *
        have r0 := hE.rule 1 rfl
        go_wp2_with fail
        refine (load_g x y z d HX.out hl6 2 hE rfl rfl rfl rfl rfl).mono ?_
        rintro e w8 ⟨rfl, hE⟩
        rw [HT.out] at hE ⊢
        rw [HST1.out] at hE
        simp only [List.set_cons_succ, List.set_cons_zero] at hE
        clear r0
        replace hE := hE.box w8.heap.size rfl [.int .u64 (f (x, y, z)), .int .i64 (h (x, y, z)), .bool t] 42
        go_upto_region 14 with fail
        generalize w8.alloc _ = w9 at *
        generalize w8.heap.size = W at *
        have rV := hE.rule 1 rfl
        have rW := hE.rule 0 rfl
        replace hE := hE.sub (.cons _ (.cons _ (List.Sublist.refl _)))
        cases t
        · have e1 : a1 = f (x, y, z) := hA1.out.symm
          have e2 : a2 = h (x, y, z) := hA2.out.symm
          rw [e1, e2] at rV
          clear e1 e2
          go_upto_region 24 with fail
          clear rV rW
          go_wp2_with fail
          refine (faults_s (hE.sblk 6 rfl) (hE.gblk 8 rfl)).mono ?_
          rintro e w20 ⟨rfl, rfl⟩
          go_wp2_with fail
          refine (faults_any (hE.gblk 1 rfl)).mono ?_
          rintro e w21 ⟨rfl, rfl⟩
          go_wp2_with fail
          refine (told_s (hE.sblk 6 rfl) (hE.gblk 8 rfl)).mono ?_
          rintro e w22 ⟨rfl, rfl⟩
          go_wp2_with fail
          refine (stale_any (hE.gblk 1 rfl)).mono ?_
          rintro e w23 ⟨rfl, rfl⟩
          go_wp2_with fail
          exact ⟨⟨k + 1, n, m, stN false st, _, _, _, _, _, _, _, _, l, _, _, by omega, by omega, by omega, by omega, by omega, by omega, by simp, hE.sub (.cons _ (List.Sublist.refl _))⟩, by simp [intOf]; omega⟩
        · go_upto_region 24 with fail
          clear rV rW
          go_wp2_with fail
          refine (faults_s (hE.sblk 6 rfl) (hE.gblk 8 rfl)).mono ?_
          rintro e w20 ⟨rfl, rfl⟩
          go_wp2_with fail
          refine (faults_any (hE.gblk 1 rfl)).mono ?_
          rintro e w21 ⟨rfl, rfl⟩
          go_wp2_with fail
          refine (told_s (hE.sblk 6 rfl) (hE.gblk 8 rfl)).mono ?_
          rintro e w22 ⟨rfl, rfl⟩
          go_wp2_with fail
          refine (stale_any (hE.gblk 1 rfl)).mono ?_
          rintro e w23 ⟨rfl, rfl⟩
          go_wp2_with fail
          exact ⟨⟨k + 1, n, m, stN true st, _, _, _, _, _, _, _, _, l, _, _, by omega, by omega, by omega, by omega, by omega, by omega, by simp, hE.sub (.cons _ (List.Sublist.refl _))⟩, by simp [intOf]; omega⟩
      by_cases h3 : kd = 3
      · subst h3
        have r0 := hE.rule 0 rfl
        go_wp2_with fail
        clear r0
        refine Ord.wp_chain [7, 15] (fun w' => Blk 0 w' X [.int .i64 3, .int .i64 x, .int .i64 y, .int .i64 z, .int .i64 d, .int .u64 ow, .int .i64 oi, .bool os, .int .u64 vx, .int .i64 vi, .bool vs]) (Stage [Env w [boxI X [.int .i64 3, .int .i64 x, .int .i64 y, .int .i64 z, .int .i64 d, .int .u64 ow, .int .i64 oi, .bool os, .int .u64 vx, .int .i64 vi, .bool vs], boxI g2 (gv p2 mp2 s2 (st : Nat) fa), leadsI mp2 h m, soulI s2 S2 l, wbox p2 c2, cellI c2 F2 f q n, boxI b (sv g vr), wordsI vr zs, boxI g (gv p mp s (st : Nat) fa), leadsI mp h m, soulI s S l, wbox p c, cellI c F f q n], fun w' => ∃ mp' F', Env w [boxI X [.int .i64 3, .int .i64 x, .int .i64 y, .int .i64 z, .int .i64 d, .int .u64 ow, .int .i64 oi, .bool os, .int .u64 vx, .int .i64 vi, .bool vs], boxI g2 (gv p2 mp2 s2 (st : Nat) fa), leadsI mp2 h m, soulI s2 S2 l, wbox p2 c2, cellI c2 F2 f q n, boxI b (sv g vr), wordsI vr zs, boxI g (gv p mp' s (st : Nat) (if f (x, y, z) = ow then faS l x y d (os || vs) fa else fa)), leadsI mp' (if f (x, y, z) = ow then upd h (x, y, z) vi else h) (m + 1), soulI s S l, wbox p c, cellI c F' (swf f (x, y, z) ow vx) (swq q (decide (f (x, y, z) = ow))) (n + 1)] w', fun w' => ∃ mp' F' mp3 F3, Env w [boxI X [.int .i64 3, .int .i64 x, .int .i64 y, .int .i64 z, .int .i64 d, .int .u64 ow, .int .i64 oi, .bool os, .int .u64 vx, .int .i64 vi, .bool vs], boxI g2 (gv p2 mp3 s2 (st : Nat) (if f (x, y, z) = ow then faS l x y d (os || vs) fa else fa)), leadsI mp3 (if f (x, y, z) = ow then upd h (x, y, z) vi else h) (m + 1), soulI s2 S2 l, wbox p2 c2, cellI c2 F3 (swf f (x, y, z) ow vx) (swq q (decide (f (x, y, z) = ow))) (n + 1), boxI b (sv g vr), wordsI vr zs, boxI g (gv p mp' s (st : Nat) (if f (x, y, z) = ow then faS l x y d (os || vs) fa else fa)), leadsI mp' (if f (x, y, z) = ow then upd h (x, y, z) vi else h) (m + 1), soulI s S l, wbox p c, cellI c F' (swf f (x, y, z) ow vx) (swq q (decide (f (x, y, z) = ow))) (n + 1)] w']) (by kernel_rfl) (by kernel_rfl) (by kernel_rfl) (hE.drew.get 0 rfl) ⟨_, rfl, hE.drew⟩ (fun hT => ?_)
        have hT9 := Lib.hid hT
        clear hT
        repeat (first
          | (refine Ord.ch_value (v := ?_) hT9.out (by decide) (by rfl) ?_ ?_; rotate_left; (focus (intro w5 hS; have r0 := hS.rule; have hf := valWord; go_simp <;> with_reducible rfl)); (try simp only [Act.put, List.setIfInBounds_toArray, List.set_cons_zero, List.set_cons_succ]))
          | (refine Ord.ch_off hT9.out (by decide) (by rfl) ?_; (try simp only [Act.put, List.setIfInBounds_toArray, List.set_cons_zero, List.set_cons_succ])))
        refine Ord.ch_turn (v := .bool (decide (f (x, y, z) = ow))) 0 hT9.out rfl (by decide) (Or.inl rfl) (by rfl) ?_ ?_
        · rintro w5 hC5 ⟨P5, hP5, hA5⟩
          cases hP5
          skip
          go_simp
          simp only [Ord.LandsIn]
          refine (swap_s x y z d ow oi vx vi os vs HX.out HW.out HI.out hnm hmm hl6 6 hA5 rfl rfl rfl rfl rfl rfl).mono ?_
          rintro e w6 ⟨rfl, mp', F', hE6⟩; simp only [List.set_cons_succ, List.set_cons_zero] at hE6; exact ⟨rfl, hE6.get 0 rfl, _, rfl, mp', F', hE6⟩
        (try simp only [Act.put, List.setIfInBounds_toArray, List.set_cons_zero, List.set_cons_succ])
        repeat (first
          | (refine Ord.ch_value (v := ?_) hT9.out (by decide) (by rfl) ?_ ?_; rotate_left; (focus (intro w5 hS; have r0 := hS.rule; have hf := valWord; go_simp <;> with_reducible rfl)); (try simp only [Act.put, List.setIfInBounds_toArray, List.set_cons_zero, List.set_cons_succ]))
          | (refine Ord.ch_off hT9.out (by decide) (by rfl) ?_; (try simp only [Act.put, List.setIfInBounds_toArray, List.set_cons_zero, List.set_cons_succ])))
        refine Ord.ch_turn (v := .bool (decide (f (x, y, z) = ow))) 1 hT9.out rfl (by decide) (Or.inr ⟨_, rfl, by kernel_rfl⟩) (by rfl) ?_ ?_
        · rintro w5 hC5 ⟨P5, hP5, hA5⟩
          cases hP5
          obtain ⟨mp', F', hA5⟩ := hA5
          go_simp
          simp only [Ord.LandsIn]
          refine (swap_g x y z d ow oi vx vi os vs HX.out HW.out HI.out hnm hmm hl6 1 hA5 rfl rfl rfl rfl rfl).mono ?_
          rintro e w6 ⟨rfl, mp3, F3, hE6⟩; simp only [List.set_cons_succ, List.set_cons_zero] at hE6; exact ⟨rfl, hE6.get 0 rfl, _, rfl, mp', F', mp3, F3, hE6⟩
        (try simp only [Act.put, List.setIfInBounds_toArray, List.set_cons_zero, List.set_cons_succ])
        repeat (first
          | (refine Ord.ch_value (v := ?_) hT9.out (by decide) (by rfl) ?_ ?_; rotate_left; (focus (intro w5 hS; have r0 := hS.rule; have hf := valWord; go_simp <;> with_reducible rfl)); (try simp only [Act.put, List.setIfInBounds_toArray, List.set_cons_zero, List.set_cons_succ]))
          | (refine Ord.ch_off hT9.out (by decide) (by rfl) ?_; (try simp only [Act.put, List.setIfInBounds_toArray, List.set_cons_zero, List.set_cons_succ])))
        refine Ord.InText.nil fun w5 hS => ?_
        clear hT9
        obtain ⟨hC9, hA9⟩ := Ord.chain_end hS
        clear hS
        clear hC9 hE
        obtain ⟨P9, hP9, hA9⟩ := hA9
        cases hP9
        obtain ⟨mp', F', mp3, F3, hE⟩ := hA9
        generalize (if f (x, y, z) = ow then faS l x y d (os || vs) fa else fa) = fz at hE
        go_wp2_with fail
        refine (faults_s (hE.sblk 6 rfl) (hE.gblk 8 rfl)).mono ?_
        rintro e w20 ⟨rfl, rfl⟩
        go_wp2_with fail
        refine (faults_any (hE.gblk 1 rfl)).mono ?_
        rintro e w21 ⟨rfl, rfl⟩
        go_wp2_with fail
        refine (told_s (hE.sblk 6 rfl) (hE.gblk 8 rfl)).mono ?_
        rintro e w22 ⟨rfl, rfl⟩
        go_wp2_with fail
        refine (stale_any (hE.gblk 1 rfl)).mono ?_
        rintro e w23 ⟨rfl, rfl⟩
        go_wp2_with fail
        exact ⟨⟨k + 1, n + 1, m + 1, st, _, _, _, _, _, _, _, _, l, _, _, by omega, by omega, by omega, by omega, by omega, by omega, by simp, hE.sub (.cons _ (List.Sublist.refl _))⟩, by simp [intOf]; omega⟩
      by_cases h5 : kd = 5
      · subst h5
        have r0 := hE.rule 0 rfl
        go_wp2_with fail
        clear r0
        refine Ord.wp_chain [6, 13] (fun w' => Blk 0 w' X [.int .i64 5, .int .i64 x, .int .i64 y, .int .i64 z, .int .i64 d, .int .u64 ow, .int .i64 oi, .bool os, .int .u64 vx, .int .i64 vi, .bool vs]) (Stage [Env w [boxI X [.int .i64 5, .int .i64 x, .int .i64 y, .int .i64 z, .int .i64 d, .int .u64 ow, .int .i64 oi, .bool os, .int .u64 vx, .int .i64 vi, .bool vs], boxI g2 (gv p2 mp2 s2 (st : Nat) fa), leadsI mp2 h m, soulI s2 S2 l, wbox p2 c2, cellI c2 F2 f q n, boxI b (sv g vr), wordsI vr zs, boxI g (gv p mp s (st : Nat) fa), leadsI mp h m, soulI s S l, wbox p c, cellI c F f q n], fun w' => ∃ F', Env w [boxI X [.int .i64 5, .int .i64 x, .int .i64 y, .int .i64 z, .int .i64 d, .int .u64 ow, .int .i64 oi, .bool os, .int .u64 vx, .int .i64 vi, .bool vs], boxI g2 (gv p2 mp2 s2 (st : Nat) fa), leadsI mp2 h m, soulI s2 S2 l, wbox p2 c2, cellI c2 F2 f q n, boxI b (sv g vr), wordsI vr zs, boxI g (gv p mp s (st : Nat) fa), leadsI mp h m, soulI s S l, wbox p c, cellI c F' (upd f (x, y, z) (IntKind.u64.wrap (f (x, y, z) + vx))) { q with a := wrap64 (q.a + 1) } (n + 1)] w', fun w' => ∃ F' F3, Env w [boxI X [.int .i64 5, .int .i64 x, .int .i64 y, .int .i64 z, .int .i64 d, .int .u64 ow, .int .i64 oi, .bool os, .int .u64 vx, .int .i64 vi, .bool vs], boxI g2 (gv p2 mp2 s2 (st : Nat) fa), leadsI mp2 h m, soulI s2 S2 l, wbox p2 c2, cellI c2 F3 (upd f (x, y, z) (IntKind.u64.wrap (f (x, y, z) + vx))) { q with a := wrap64 (q.a + 1) } (n + 1), boxI b (sv g vr), wordsI vr zs, boxI g (gv p mp s (st : Nat) fa), leadsI mp h m, soulI s S l, wbox p c, cellI c F' (upd f (x, y, z) (IntKind.u64.wrap (f (x, y, z) + vx))) { q with a := wrap64 (q.a + 1) } (n + 1)] w']) (by kernel_rfl) (by kernel_rfl) (by kernel_rfl) (hE.drew.get 0 rfl) ⟨_, rfl, hE.drew⟩ (fun hT => ?_)
        have hT9 := Lib.hid hT
        clear hT
        repeat (first
          | (refine Ord.ch_value (v := ?_) hT9.out (by decide) (by rfl) ?_ ?_; rotate_left; (focus (intro w5 hS; have r0 := hS.rule; have hf := valWord; go_simp <;> with_reducible rfl)); (try simp only [Act.put, List.setIfInBounds_toArray, List.set_cons_zero, List.set_cons_succ]))
          | (refine Ord.ch_off hT9.out (by decide) (by rfl) ?_; (try simp only [Act.put, List.setIfInBounds_toArray, List.set_cons_zero, List.set_cons_succ])))
        refine Ord.ch_turn (v := .int .u64 (f (x, y, z))) 0 hT9.out rfl (by decide) (Or.inl rfl) (by rfl) ?_ ?_
        · rintro w5 hC5 ⟨P5, hP5, hA5⟩
          cases hP5
          skip
          go_simp
          simp only [Ord.LandsIn]
          refine (add_s x y z d vx HX.out hnm 6 hA5 rfl rfl rfl rfl).mono ?_
          rintro e w6 ⟨rfl, F', hE6⟩; simp only [List.set_cons_succ, List.set_cons_zero] at hE6; exact ⟨rfl, hE6.get 0 rfl, _, rfl, F', hE6⟩
        (try simp only [Act.put, List.setIfInBounds_toArray, List.set_cons_zero, List.set_cons_succ])
        repeat (first
          | (refine Ord.ch_value (v := ?_) hT9.out (by decide) (by rfl) ?_ ?_; rotate_left; (focus (intro w5 hS; have r0 := hS.rule; have hf := valWord; go_simp <;> with_reducible rfl)); (try simp only [Act.put, List.setIfInBounds_toArray, List.set_cons_zero, List.set_cons_succ]))
          | (refine Ord.ch_off hT9.out (by decide) (by rfl) ?_; (try simp only [Act.put, List.setIfInBounds_toArray, List.set_cons_zero, List.set_cons_succ])))
        refine Ord.ch_turn (v := .int .u64 (f (x, y, z))) 1 hT9.out rfl (by decide) (Or.inr ⟨_, rfl, by kernel_rfl⟩) (by rfl) ?_ ?_
        · rintro w5 hC5 ⟨P5, hP5, hA5⟩
          cases hP5
          obtain ⟨F', hA5⟩ := hA5
          go_simp
          simp only [Ord.LandsIn]
          refine (add_g x y z d vx HX.out hnm 1 hA5 rfl rfl rfl).mono ?_
          rintro e w6 ⟨rfl, F3, hE6⟩; simp only [List.set_cons_succ, List.set_cons_zero] at hE6; exact ⟨rfl, hE6.get 0 rfl, _, rfl, F', F3, hE6⟩
        (try simp only [Act.put, List.setIfInBounds_toArray, List.set_cons_zero, List.set_cons_succ])
        repeat (first
          | (refine Ord.ch_value (v := ?_) hT9.out (by decide) (by rfl) ?_ ?_; rotate_left; (focus (intro w5 hS; have r0 := hS.rule; have hf := valWord; go_simp <;> with_reducible rfl)); (try simp only [Act.put, List.setIfInBounds_toArray, List.set_cons_zero, List.set_cons_succ]))
          | (refine Ord.ch_off hT9.out (by decide) (by rfl) ?_; (try simp only [Act.put, List.setIfInBounds_toArray, List.set_cons_zero, List.set_cons_succ])))
        refine Ord.InText.nil fun w5 hS => ?_
        clear hT9
        obtain ⟨hC9, hA9⟩ := Ord.chain_end hS
        clear hS
        clear hC9 hE
        obtain ⟨P9, hP9, hA9⟩ := hA9
        cases hP9
        obtain ⟨F', F3, hE⟩ := hA9
        go_wp2_with fail
        refine (faults_s (hE.sblk 6 rfl) (hE.gblk 8 rfl)).mono ?_
        rintro e w20 ⟨rfl, rfl⟩
        go_wp2_with fail
        refine (faults_any (hE.gblk 1 rfl)).mono ?_
        rintro e w21 ⟨rfl, rfl⟩
        go_wp2_with fail
        refine (told_s (hE.sblk 6 rfl) (hE.gblk 8 rfl)).mono ?_
        rintro e w22 ⟨rfl, rfl⟩
        go_wp2_with fail
        refine (stale_any (hE.gblk 1 rfl)).mono ?_
        rintro e w23 ⟨rfl, rfl⟩
        go_wp2_with fail
        exact ⟨⟨k + 1, n + 1, m, st, _, _, _, _, _, _, _, _, l, _, _, by omega, by omega, by omega, by omega, by omega, by omega, by simp, hE.sub (.cons _ (List.Sublist.refl _))⟩, by simp [intOf]; omega⟩
      by_cases h2 : kd = 2
      · subst h2
        have r0 := hE.rule 0 rfl
        go_wp2_with fail
        refine (store_s x y z d vx vi vs HX.out HW.out HI.out hnm hmm hl6 6 hE rfl rfl rfl rfl rfl rfl).mono ?_
        rintro e w6 ⟨rfl, mp', F', hE⟩
        simp only [List.set_cons_succ, List.set_cons_zero] at hE
        clear r0
        have r0 := hE.rule 0 rfl
        go_wp2_with fail
        refine (store_g x y z d vx vi vs HX.out HW.out HI.out hnm hmm hl6 1 hE rfl rfl rfl rfl rfl).mono ?_
        rintro e w7 ⟨rfl, mp3, F3, hE⟩
        simp only [List.set_cons_succ, List.set_cons_zero] at hE
        clear r0
        go_wp2_with fail
        refine (faults_s (hE.sblk 6 rfl) (hE.gblk 8 rfl)).mono ?_
        rintro e w20 ⟨rfl, rfl⟩
        go_wp2_with fail
        refine (faults_any (hE.gblk 1 rfl)).mono ?_
        rintro e w21 ⟨rfl, rfl⟩
        go_wp2_with fail
        refine (told_s (hE.sblk 6 rfl) (hE.gblk 8 rfl)).mono ?_
        rintro e w22 ⟨rfl, rfl⟩
        go_wp2_with fail
        refine (stale_any (hE.gblk 1 rfl)).mono ?_
        rintro e w23 ⟨rfl, rfl⟩
        go_wp2_with fail
        exact ⟨⟨k + 1, n + 1, m + 1, st, _, _, _, _, _, _, _, _, l, _, _, by omega, by omega, by omega, by omega, by omega, by omega, by simp, hE.sub (.cons _ (List.Sublist.refl _))⟩, by simp [intOf]; omega⟩
      by_cases h6 : kd = 6
      · subst h6
        have hbl := bornL_length l y
        have r0 := hE.rule 0 rfl
        go_wp2_with fail
        clear r0
        refine Ord.wp_chain [5, 11] (fun w' => Blk 0 w' X [.int .i64 6, .int .i64 x, .int .i64 y, .int .i64 z, .int .i64 d, .int .u64 ow, .int .i64 oi, .bool os, .int .u64 vx, .int .i64 vi, .bool vs]) (Stage [Env w [boxI X [.int .i64 6, .int .i64 x, .int .i64 y, .int .i64 z, .int .i64 d, .int .u64 ow, .int .i64 oi, .bool os, .int .u64 vx, .int .i64 vi, .bool vs], boxI g2 (gv p2 mp2 s2 (st : Nat) fa), leadsI mp2 h m, soulI s2 S2 l, wbox p2 c2, cellI c2 F2 f q n, boxI b (sv g vr), wordsI vr zs, boxI g (gv p mp s (st : Nat) fa), leadsI mp h m, soulI s S l, wbox p c, cellI c F f q n], fun w' => ∃ S', Env w [boxI X [.int .i64 6, .int .i64 x, .int .i64 y, .int .i64 z, .int .i64 d, .int .u64 ow, .int .i64 oi, .bool os, .int .u64 vx, .int .i64 vi, .bool vs], boxI g2 (gv p2 mp2 s2 (st : Nat) fa), leadsI mp2 h m, soulI s2 S2 l, wbox p2 c2, cellI c2 F2 f q n, boxI b (sv g vr), wordsI vr zs, boxI g (gv p mp s (st : Nat) fa), leadsI mp h m, soulI s S' (bornL l y), wbox p c, cellI c F f q n] w', fun w' => ∃ S' S3, Env w [boxI X [.int .i64 6, .int .i64 x, .int .i64 y, .int .i64 z, .int .i64 d, .int .u64 ow, .int .i64 oi, .bool os, .int .u64 vx, .int .i64 vi, .bool vs], boxI g2 (gv p2 mp2 s2 (st : Nat) fa), leadsI mp2 h m, soulI s2 S3 (bornL l y), wbox p2 c2, cellI c2 F2 f q n, boxI b (sv g vr), wordsI vr zs, boxI g (gv p mp s (st : Nat) fa), leadsI mp h m, soulI s S' (bornL l y), wbox p c, cellI c F f q n] w']) (by kernel_rfl) (by kernel_rfl) (by kernel_rfl) (hE.drew.get 0 rfl) ⟨_, rfl, hE.drew⟩ (fun hT => ?_)
        have hT9 := Lib.hid hT
        clear hT
        repeat (first
          | (refine Ord.ch_value (v := ?_) hT9.out (by decide) (by rfl) ?_ ?_; rotate_left; (focus (intro w5 hS; have r0 := hS.rule; have hf := valWord; go_simp <;> with_reducible rfl)); (try simp only [Act.put, List.setIfInBounds_toArray, List.set_cons_zero, List.set_cons_succ]))
          | (refine Ord.ch_off hT9.out (by decide) (by rfl) ?_; (try simp only [Act.put, List.setIfInBounds_toArray, List.set_cons_zero, List.set_cons_succ])))
        refine Ord.ch_turn (v := .int .i64 (bornV l y)) 0 hT9.out rfl (by decide) (Or.inl rfl) (by rfl) ?_ ?_
        · rintro w5 hC5 ⟨P5, hP5, hA5⟩
          cases hP5
          skip
          go_simp
          simp only [Ord.LandsIn]
          refine (born_s y HX.out.2.1 hl5 6 hA5 rfl rfl rfl).mono ?_
          rintro e w6 ⟨rfl, S', hE6⟩; simp only [List.set_cons_succ, List.set_cons_zero] at hE6; exact ⟨rfl, hE6.get 0 rfl, _, rfl, S', hE6⟩
        (try simp only [Act.put, List.setIfInBounds_toArray, List.set_cons_zero, List.set_cons_succ])
        repeat (first
          | (refine Ord.ch_value (v := ?_) hT9.out (by decide) (by rfl) ?_ ?_; rotate_left; (focus (intro w5 hS; have r0 := hS.rule; have hf := valWord; go_simp <;> with_reducible rfl)); (try simp only [Act.put, List.setIfInBounds_toArray, List.set_cons_zero, List.set_cons_succ]))
          | (refine Ord.ch_off hT9.out (by decide) (by rfl) ?_; (try simp only [Act.put, List.setIfInBounds_toArray, List.set_cons_zero, List.set_cons_succ])))
        refine Ord.ch_turn (v := .int .i64 (bornV l y)) 1 hT9.out rfl (by decide) (Or.inr ⟨_, rfl, by kernel_rfl⟩) (by rfl) ?_ ?_
        · rintro w5 hC5 ⟨P5, hP5, hA5⟩
          cases hP5
          obtain ⟨S', hA5⟩ := hA5
          go_simp
          simp only [Ord.LandsIn]
          refine (born_g y HX.out.2.1 hl5 1 hA5 rfl rfl).mono ?_
          rintro e w6 ⟨rfl, S3, hE6⟩; simp only [List.set_cons_succ, List.set_cons_zero] at hE6; exact ⟨rfl, hE6.get 0 rfl, _, rfl, S', S3, hE6⟩
        (try simp only [Act.put, List.setIfInBounds_toArray, List.set_cons_zero, List.set_cons_succ])
        repeat (first
          | (refine Ord.ch_value (v := ?_) hT9.out (by decide) (by rfl) ?_ ?_; rotate_left; (focus (intro w5 hS; have r0 := hS.rule; have hf := valWord; go_simp <;> with_reducible rfl)); (try simp only [Act.put, List.setIfInBounds_toArray, List.set_cons_zero, List.set_cons_succ]))
          | (refine Ord.ch_off hT9.out (by decide) (by rfl) ?_; (try simp only [Act.put, List.setIfInBounds_toArray, List.set_cons_zero, List.set_cons_succ])))
        refine Ord.InText.nil fun w5 hS => ?_
        clear hT9
        obtain ⟨hC9, hA9⟩ := Ord.chain_end hS
        clear hS
        clear hC9 hE
        obtain ⟨P9, hP9, hA9⟩ := hA9
        cases hP9
        obtain ⟨S', S3, hE⟩ := hA9
        go_wp2_with fail
        refine (faults_s (hE.sblk 6 rfl) (hE.gblk 8 rfl)).mono ?_
        rintro e w20 ⟨rfl, rfl⟩
        go_wp2_with fail
        refine (faults_any (hE.gblk 1 rfl)).mono ?_
        rintro e w21 ⟨rfl, rfl⟩
        go_wp2_with fail
        refine (told_s (hE.sblk 6 rfl) (hE.gblk 8 rfl)).mono ?_
        rintro e w22 ⟨rfl, rfl⟩
        go_wp2_with fail
        refine (stale_any (hE.gblk 1 rfl)).mono ?_
        rintro e w23 ⟨rfl, rfl⟩
        go_wp2_with fail
        exact ⟨⟨k + 1, n, m, st, _, _, _, _, _, _, _, _, bornL l y, _, _, by omega, by omega, by omega, by omega, by omega, by omega, by simp, hE.sub (.cons _ (List.Sublist.refl _))⟩, by simp [intOf]; omega⟩
      have r0 := hE.rule 0 rfl
      go_wp2_with fail
      refine (faults_s (hE.sblk 6 rfl) (hE.gblk 8 rfl)).mono ?_
      rintro e w20 ⟨rfl, rfl⟩
      go_wp2_with fail
      refine (faults_any (hE.gblk 1 rfl)).mono ?_
      rintro e w21 ⟨rfl, rfl⟩
      go_wp2_with fail
      refine (told_s (hE.sblk 6 rfl) (hE.gblk 8 rfl)).mono ?_
      rintro e w22 ⟨rfl, rfl⟩
      go_wp2_with fail
      refine (stale_any (hE.gblk 1 rfl)).mono ?_
      rintro e w23 ⟨rfl, rfl⟩
      go_wp2_with fail
      exact ⟨⟨k + 1, n, m, st, _, _, _, _, _, _, _, _, l, _, _, by omega, by omega, by omega, by omega, by omega, by omega, by simp, hE.sub (.cons _ (List.Sublist.refl _))⟩, by simp [intOf]; omega⟩
    · by_cases hl1 : k < xs.length
      · have hl2 : ¬ k < 150 := fun h => hlt ⟨hl1, h⟩
        have hb1 : decide ((k : Int) < xs.length) = true := by simp; omega
        have hb2 : decide ((k : Int) < 150) = false := by simp; omega
        go_wp2_with fail
        refine (cells_s 5 hEr rfl rfl rfl rfl).mono ?_
        rintro e w5 ⟨d1, G1, rfl, hE⟩
        go_wp2_with fail
        refine (cells_g 1 hE rfl rfl rfl).mono ?_
        rintro e w6 ⟨d2, G2, rfl, hE⟩
        go_wp2_with fail
        refine (same_any (hE.cell 1 rfl) (hE.cell 0 rfl)).mono ?_
        rintro e w7 ⟨rfl, hb⟩
        replace hE := hE.over hb
        clear hb
        rw [sameB_yes rfl]
        go_wp2_with fail
        refine (count_s 7 hE rfl rfl rfl rfl).mono ?_
        rintro e w8 ⟨rfl, hb⟩
        replace hE := hE.over hb
        clear hb
        go_wp2_with fail
        refine (count_g 2 hE rfl rfl rfl).mono ?_
        rintro e w9 ⟨rfl, hb⟩
        replace hE := hE.over hb
        go_wp2_with fail
        go_ret
        exact ⟨by simp, hE.below⟩
      · have hb1 : decide ((k : Int) < xs.length) = false := by simp; omega
        go_wp2_with fail
        refine (cells_s 5 hEr rfl rfl rfl rfl).mono ?_
        rintro e w5 ⟨d1, G1, rfl, hE⟩
        go_wp2_with fail
        refine (cells_g 1 hE rfl rfl rfl).mono ?_
        rintro e w6 ⟨d2, G2, rfl, hE⟩
        go_wp2_with fail
        refine (same_any (hE.cell 1 rfl) (hE.cell 0 rfl)).mono ?_
        rintro e w7 ⟨rfl, hb⟩
        replace hE := hE.over hb
        clear hb
        rw [sameB_yes rfl]
        go_wp2_with fail
        refine (count_s 7 hE rfl rfl rfl rfl).mono ?_
        rintro e w8 ⟨rfl, hb⟩
        replace hE := hE.over hb
        clear hb
        go_wp2_with fail
        refine (count_g 2 hE rfl rfl rfl).mono ?_
        rintro e w9 ⟨rfl, hb⟩
        replace hE := hE.over hb
        go_wp2_with fail
        go_ret
        exact ⟨by simp, hE.below⟩

theorem cellsWord : Try.prog.cellsOf 40 = 1 := by kernel_rfl

theorem bytesWord : Try.prog.bytesOf 40 = 8 := by kernel_rfl

theorem own : ownKnob Try.prog.godebug = none := by kernel_rfl
theorem laidOut : laidOutB Try.prog = true := by kernel_rfl

set_option maxRecDepth 100000 in
theorem lifted (os : Os) (started : os.Started) (H : Type) (enc : TypeId × Value → H) :
    ReturnsInHanded {} Try.checked os 4 .any (Rows.shadeGhostSpec.pre6 enc Try.prog Try.f4 Rows.shadeGhostRow.domain false) (Rows.shadeGhostSpec.post enc Try.prog Try.f4 false true false false) := by
  refine returnsInHanded_of_change_sized (C := Try.checked) own started (by kernel_rfl) Try.func4
    (ChangeSpec.witness6 (enc := enc) (C := Try.checked) false ⟨#[], #[.slice none 0 0, .slice none 0 0], []⟩ 8 (by kernel_rfl) (by kernel_rfl) (by kernel_rfl) (by kernel_rfl)) ?_
  intro W base args ds gs before hval0 hW hcnd hsz0 _
  have hval : ∀ (j : Nat) t v, Try.f4.params[j]? = some t → args[j]? = some v → Value.okWide Try.prog W .any base t v := hval0
  have hW' := hW
  obtain ⟨p, q, hA0, hV, rfl, hfz, hnd⟩ := hW
  have hA : DataW.TrodAll enc Try.prog W 0 (fun _ => true) true Try.f4.params.toList args.toList ds p := hA0
  have hsz : (DataW.weightsEach Try.prog (Try.f4.params.toList ++ Rows.shadeGhostSpec.plain.varTypes Try.prog) (ds ++ gs)).all (· ≤ reachBytes) = true := hsz0
  clear hsz0
  rw [Try.params4] at hA hval hsz
  obtain ⟨v0, vs0, d0, ds0, p0, q0, hargs, rfl, rfl, g0, r0⟩ := trodAll_cons hA
  obtain ⟨v1, vs1, d1, ds1, p1, q1, rfl, rfl, rfl, g1, r1⟩ := trodAll_cons r0
  obtain ⟨rfl, rfl, rfl⟩ := trodAll_nil r1
  obtain rfl : args = #[v0, v1] := by cases args; simp_all
  obtain ⟨rfl, rfl⟩ := trodVars_none hV
  obtain ⟨A1, n1, cap1, rfl⟩ := okWide_slice Try.underlying23 (hval 1 23 v1 rfl rfl)
  obtain ⟨zs1, rfl, h1, w1, row1⟩ := open_ActS g1 (fun x hx => hW'.lt x (by simp [hx]))
  unfold maxLen at h1
  obtain ⟨A0, n0, cap0, rfl⟩ := okWide_slice Try.underlying22 (hval 0 22 v0 rfl rfl)
  have s0 := num_row_size Try.underlying22 Try.underlying40 cellsWord bytesWord g0 hsz (j := 0) rfl rfl
  obtain ⟨zs0, rfl, h0, w0, row0⟩ := open_num_row Try.underlying22 Try.underlying40 cellsWord g0 (fun x hx => hW'.lt x (by simp [hx]))
  unfold maxLen at h0
  clear hA0 hval0
  refine (walk zs0 zs1 A0 A1 cap0 cap1 s0 w1 h1 W row0 row1).mono fun e W' ⟨he, hg⟩ => ?_
  subst he
  exact ⟨_, rfl, law_post laidOut (by kernel_rfl) (by kernel_rfl) Try.underlying4 rfl rfl hW' hg⟩

theorem over : Rows.shadeGhostRow.holds Try.pinned (OpenSpec.ofChange Rows.shadeGhostSpec) :=
  OpenClaim.holds_of_wide 4 Try.f4 rfl rfl rfl rfl rfl rfl rfl ⟨rfl, rfl, rfl, rfl, rfl⟩ rfl rfl rfl rfl rfl (by kernel_rfl) Try.func4 (by kernel_rfl)
    (of_decide_eq_true (by kernel_rfl)) (by unfold Func.isWrapper; first | (rw [if_pos (by decide +kernel)]; kernel_rfl) | (rw [if_neg (by decide +kernel)]; exact ⟨rfl, rfl⟩))
    (fun os started H enc _ => lifted os started H enc)

/-- THE STATEMENT. -/
theorem proved : Rows.ShadeGhostSaid := over
#print axioms proved
end Go.Proofs.Ythiccboecimfjaa.shadeGhost
