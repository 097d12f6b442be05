/- Blocks of the law's own, carried over a call. -/
import Derived.WalkKit
namespace Go.Proofs.Ytlfklajfhjcfnaa
open Go.RowKit
/-- Two blocks of two cells. -/
theorem hold2 {n m : Nat} {w w1 w2 : World} {x y u v : Value} (hb : Below w1.heap.size w1 w2) (c0 : w1.cell? ⟨n, 0, none⟩ = some x) (c1 : w1.cell? ⟨n, 1, none⟩ = some y) (d0 : w1.cell? ⟨m, 0, none⟩ = some u) (d1 : w1.cell? ⟨m, 1, none⟩ = some v)
    (hB : Below n w w1) (hn : n < w1.heap.size) (hm : m < w1.heap.size) :
    w2.cell? ⟨n, 0, none⟩ = some x ∧ w2.cell? ⟨n, 1, none⟩ = some y ∧ w2.cell? ⟨m, 0, none⟩ = some u ∧ w2.cell? ⟨m, 1, none⟩ = some v ∧ Below n w w2 ∧ n < w2.heap.size ∧ m < w2.heap.size :=
  ⟨by rw [hb.cell (p := ⟨n, 0, none⟩) hn]; exact c0, by rw [hb.cell (p := ⟨n, 1, none⟩) hn]; exact c1, by rw [hb.cell (p := ⟨m, 0, none⟩) hm]; exact d0, by rw [hb.cell (p := ⟨m, 1, none⟩) hm]; exact d1,
    hB.trans (hb.mono (by omega)), by have := hb.size; omega, by have := hb.size; omega⟩
end Go.Proofs.Ytlfklajfhjcfnaa
