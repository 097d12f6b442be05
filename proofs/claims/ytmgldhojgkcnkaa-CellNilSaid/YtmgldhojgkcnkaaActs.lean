/- Rows of accesses that came in. -/
import Derived.Test.YtmgldhojgkcnkaaCellQ
import Derived.Test.YtmgldhojgkcnkaaOpenDeep
import Derived.Test.YtmgldhojgkcnkaaLaw
namespace Go.Proofs.Ytmgldhojgkcnkaa
open Go.RowKit Go.Maps Go.Deep

/-- An access. -/
structure ActR where
  k : Int
  x : Int
  y : Int
  z : Int
  a : Int
  b : Int
instance : Inhabited ActR := ⟨⟨0, 0, 0, 0, 0, 0⟩⟩
def ActR.p (r : ActR) : Plc := (r.x, r.y, r.z)
def av (r : ActR) : List Value := [.int .i64 r.k, .int .i64 r.x, .int .i64 r.y, .int .i64 r.z, .int .u64 r.a, .int .u64 r.b]
def ActOk (r : ActR) : Prop := In64 r.k ∧ Wf (r.x, r.y, r.z) ∧ InU r.a ∧ InU r.b
/-- An access's cells. -/
def ActAt (w : World) (b o : Nat) (r : ActR) : Prop :=
  w.cell? ⟨b, o, none⟩ = some (.int .i64 r.k) ∧ w.cell? ⟨b, o + 1, none⟩ = some (.int .i64 r.x) ∧ w.cell? ⟨b, o + 2, none⟩ = some (.int .i64 r.y) ∧ w.cell? ⟨b, o + 3, none⟩ = some (.int .i64 r.z) ∧
  w.cell? ⟨b, o + 4, none⟩ = some (.int .u64 r.a) ∧ w.cell? ⟨b, o + 5, none⟩ = some (.int .u64 r.b)
def RowA (w : World) (A : Option Addr) (xs : List ActR) : Prop :=
  xs = [] ∨ ∃ b off, A = some ⟨b, off, none⟩ ∧ b < w.heap.size ∧ ∀ i, i < xs.length → ActAt w b (off + i * 6) (xs.getD i default)
theorem ActAt.below {w w' : World} {b o : Nat} {r : ActR} (h : ActAt w b o r) (hb : Below w.heap.size w w') (hl : b < w.heap.size) : ActAt w' b o r := by
  obtain ⟨h0, h1, h2, h3, h4, h5⟩ := h
  refine ⟨?_, ?_, ?_, ?_, ?_, ?_⟩
  · rw [hb.cell (p := ⟨b, o, none⟩) hl]; exact h0
  · rw [hb.cell (p := ⟨b, o + 1, none⟩) hl]; exact h1
  · rw [hb.cell (p := ⟨b, o + 2, none⟩) hl]; exact h2
  · rw [hb.cell (p := ⟨b, o + 3, none⟩) hl]; exact h3
  · rw [hb.cell (p := ⟨b, o + 4, none⟩) hl]; exact h4
  · rw [hb.cell (p := ⟨b, o + 5, none⟩) hl]; exact h5

theorem flatAct : flatT Try.prog 3 37 = some [.num .i64, .num .i64, .num .i64, .num .i64, .num .u64, .num .u64] := by kernel_rfl
theorem cellsAct : Try.prog.cellsOf 37 = 6 := by kernel_rfl

theorem open_acts {H : Type} {enc : TypeId × Value → H} {W : World} {A : Option Addr} {len cap : Nat} {d : DataW H} {p : List MemPlace}
    (h : DataW.Trod enc Try.prog W 0 (fun _ => true) true 22 (.slice A len cap) d p) (hlt : ∀ x ∈ p, x.block < W.heap.size) :
    ∃ xs : List ActR, xs.length = len ∧ len ≤ maxLen ∧ (∀ r ∈ xs, ActOk r) ∧ RowA W A xs := by
  obtain ⟨hm, hz | ⟨b, off, rfl, hb, hall⟩⟩ := open_deep_row Try.underlying22 flatAct cellsAct (by simp) h hlt
  · exact ⟨[], hz.symm, hm, by simp, .inl rfl⟩
  · have each : ∀ i, i < len → ∃ r : ActR, ActAt W b (off + i * 6) r ∧ ActOk r := fun i hi => by
      obtain ⟨_, c0, k, rfl, w0⟩ := hall i hi 0 _ rfl
      obtain ⟨_, c1, x, rfl, w1⟩ := hall i hi 1 _ rfl
      obtain ⟨_, c2, y, rfl, w2⟩ := hall i hi 2 _ rfl
      obtain ⟨_, c3, z, rfl, w3⟩ := hall i hi 3 _ rfl
      obtain ⟨_, c4, a, rfl, w4⟩ := hall i hi 4 _ rfl
      obtain ⟨_, c5, e, rfl, w5⟩ := hall i hi 5 _ rfl
      exact ⟨⟨k, x, y, z, a, e⟩, ⟨c0, c1, c2, c3, c4, c5⟩, wf_i.1 w0, ⟨wf_i.1 w1, wf_i.1 w2, wf_i.1 w3⟩, wf_u.1 w4, wf_u.1 w5⟩
    obtain ⟨f, hf⟩ := choose_lt each
    refine ⟨(List.range len).map f, by simp, hm, fun r hr => ?_, ?_⟩
    · obtain ⟨i, hi, rfl⟩ := List.mem_map.1 hr
      exact (hf i (by simpa using hi)).2
    · refine .inr ⟨b, off, rfl, hb, fun i hi => ?_⟩
      have hi' : i < len := by simpa using hi
      have e : ((List.range len).map f).getD i default = f i := by simp [hi']
      rw [e]
      exact (hf i hi').1

theorem Env.made2 {w0 w w' : World} {L : List Item} {c n : Nat} {F : Nat → Prop} {f : Plc → Int} {q : Cnt} (h : Env w0 L w) (hC : IsC w' c F f q n) (hF : ∀ k, F k → w.heap.size ≤ k) (hb : Below w.heap.size w w') : Env w0 (cellI c F f q n :: L) w' :=
  h.add (cellI c F f q n) hb hC fun k hk => ⟨hF k hk, hC.lt k hk⟩
end Go.Proofs.Ytmgldhojgkcnkaa
