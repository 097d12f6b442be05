/- Rows of accesses to an ideal world that came in. -/
import Derived.Test.YtnlepgbmbdmjbaaChecked
import Derived.Test.YtnlepgbmbdmjbaaRowX
namespace Go.Proofs.Ytnlepgbmbdmjbaa
open Go.RowKit Go.Maps Go.Deep
set_option maxRecDepth 100000

structure ActI where
  k : Int
  x : Int
  y : Int
  z : Int
  d : Int
  ow : Int
  oi : Int
  os : Bool
  vw : Int
  vi : Int
  vs : Bool
instance : Inhabited ActI := ⟨⟨0, 0, 0, 0, 0, 0, 0, false, 0, 0, false⟩⟩
def encActI (r : ActI) : List Value := [.int .i64 r.k, .int .i64 r.x, .int .i64 r.y, .int .i64 r.z, .int .i64 r.d, .int .u64 r.ow, .int .i64 r.oi, .bool r.os, .int .u64 r.vw, .int .i64 r.vi, .bool r.vs]
def OkActI (r : ActI) : Prop := In64 r.k ∧ In64 r.x ∧ In64 r.y ∧ In64 r.z ∧ In64 r.d ∧ InU r.ow ∧ In64 r.oi ∧ InU r.vw ∧ In64 r.vi
theorem flatActI : flatT Try.prog 6 43 = some [.num .i64, .num .i64, .num .i64, .num .i64, .num .i64, .num .u64, .num .i64, .boo, .num .u64, .num .i64, .boo] := by kernel_rfl
theorem cellsActI : Try.prog.cellsOf 43 = 11 := by kernel_rfl
theorem open_ActI {H : Type} {en : TypeId × Value → H} {W : World} {A : Option Addr} {len cap : Nat} {d : DataW H} {p : List MemPlace}
    (h : DataW.Trod en Try.prog W 0 (fun _ => true) true 22 (.slice A len cap) d p) (hlt : ∀ x ∈ p, x.block < W.heap.size) :
    ∃ xs : List ActI, xs.length = len ∧ len ≤ maxLen ∧ (∀ r ∈ xs, OkActI r) ∧ RowX encActI 11 W A xs := by
  refine open_rowX Try.underlying22 flatActI cellsActI (by simp) (fun w b o hall => ?_) h hlt
  obtain ⟨_, c0, x0, rfl, w0⟩ := hall 0 _ rfl
  obtain ⟨_, c1, x1, rfl, w1⟩ := hall 1 _ rfl
  obtain ⟨_, c2, x2, rfl, w2⟩ := hall 2 _ rfl
  obtain ⟨_, c3, x3, rfl, w3⟩ := hall 3 _ rfl
  obtain ⟨_, c4, x4, rfl, w4⟩ := hall 4 _ rfl
  obtain ⟨_, c5, x5, rfl, w5⟩ := hall 5 _ rfl
  obtain ⟨_, c6, x6, rfl, w6⟩ := hall 6 _ rfl
  obtain ⟨_, c7, x7, rfl⟩ := hall 7 _ rfl
  obtain ⟨_, c8, x8, rfl, w8⟩ := hall 8 _ rfl
  obtain ⟨_, c9, x9, rfl, w9⟩ := hall 9 _ rfl
  obtain ⟨_, c10, x10, rfl⟩ := hall 10 _ rfl
  refine ⟨⟨x0, x1, x2, x3, x4, x5, x6, x7, x8, x9, x10⟩, fun j v e => ?_, wf_i.1 w0, wf_i.1 w1, wf_i.1 w2, wf_i.1 w3, wf_i.1 w4, wf_u.1 w5, wf_i.1 w6, wf_u.1 w8, wf_i.1 w9⟩
  match j with
  | 0 => simp [encActI] at e; subst e; exact c0
  | 1 => simp [encActI] at e; subst e; exact c1
  | 2 => simp [encActI] at e; subst e; exact c2
  | 3 => simp [encActI] at e; subst e; exact c3
  | 4 => simp [encActI] at e; subst e; exact c4
  | 5 => simp [encActI] at e; subst e; exact c5
  | 6 => simp [encActI] at e; subst e; exact c6
  | 7 => simp [encActI] at e; subst e; exact c7
  | 8 => simp [encActI] at e; subst e; exact c8
  | 9 => simp [encActI] at e; subst e; exact c9
  | 10 => simp [encActI] at e; subst e; exact c10
  | j + 11 => simp [encActI] at e
theorem at_ActI {w : World} {b o : Nat} {k x y z d ow oi vw vi : Int} {os vs : Bool} (h : CellsAt w b o (encActI ⟨k, x, y, z, d, ow, oi, os, vw, vi, vs⟩)) :
    w.cell? ⟨b, o, none⟩ = some (.int .i64 k) ∧ w.cell? ⟨b, o + 1, none⟩ = some (.int .i64 x) ∧ w.cell? ⟨b, o + 2, none⟩ = some (.int .i64 y) ∧ w.cell? ⟨b, o + 3, none⟩ = some (.int .i64 z) ∧ w.cell? ⟨b, o + 4, none⟩ = some (.int .i64 d) ∧ w.cell? ⟨b, o + 5, none⟩ = some (.int .u64 ow) ∧ w.cell? ⟨b, o + 6, none⟩ = some (.int .i64 oi) ∧ w.cell? ⟨b, o + 7, none⟩ = some (.bool os) ∧ w.cell? ⟨b, o + 8, none⟩ = some (.int .u64 vw) ∧ w.cell? ⟨b, o + 9, none⟩ = some (.int .i64 vi) ∧ w.cell? ⟨b, o + 10, none⟩ = some (.bool vs) :=
  ⟨h 0 _ rfl, h 1 _ rfl, h 2 _ rfl, h 3 _ rfl, h 4 _ rfl, h 5 _ rfl, h 6 _ rfl, h 7 _ rfl, h 8 _ rfl, h 9 _ rfl, h 10 _ rfl⟩
end Go.Proofs.Ytnlepgbmbdmjbaa
