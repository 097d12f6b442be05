/- Cells that aren't there: of nothing there is nothing. -/
import Derived.Test.YtmgldhojgkcnkaaRefH
namespace Go.Proofs.Ytmgldhojgkcnkaa
open Go.RowKit Go.Maps

section
variable (a b d v o : Int) (w : World)
theorem box_below (w : World) (vs : List Value) (t : TypeId) : Below w.heap.size w (w.alloc (.cells vs.toArray t)) := (Below.refl _ w).alloc (Nat.le_refl _) _

theorem storeNil : Calls Try.prog 10 #[.pointer none, .agg #[.int .i64 a, .int .i64 b, .int .i64 d], .int .u64 v] w fun e w' => e = .returned (.tuple #[]) ∧ Below w.heap.size w w' := by
  go_enter Try.func10, Try.ntmps10
  go_wp2
  refine bodyPost_ret (results_none rfl _ _ _) rfl ?_
  exact ⟨rfl, box_below w [.int .i64 a, .int .i64 b, .int .i64 d] _⟩
theorem loadNil : Calls Try.prog 19 #[.pointer none, .agg #[.int .i64 a, .int .i64 b, .int .i64 d]] w fun e w' => e = .returned (.int .u64 0) ∧ Below w.heap.size w w' := by
  go_enter Try.func19, Try.ntmps19
  go_wp2
  go_ret
  exact ⟨rfl, box_below w [.int .i64 a, .int .i64 b, .int .i64 d] _⟩
theorem peekNil : Calls Try.prog 20 #[.pointer none, .agg #[.int .i64 a, .int .i64 b, .int .i64 d]] w fun e w' => e = .returned (.int .u64 0) ∧ Below w.heap.size w w' := by
  go_enter Try.func20, Try.ntmps20
  go_wp2
  go_ret
  exact ⟨rfl, box_below w [.int .i64 a, .int .i64 b, .int .i64 d] _⟩
theorem addNil : Calls Try.prog 21 #[.pointer none, .agg #[.int .i64 a, .int .i64 b, .int .i64 d], .int .u64 v] w fun e w' => e = .returned (.int .u64 0) ∧ Below w.heap.size w w' := by
  go_enter Try.func21, Try.ntmps21
  go_wp2
  go_ret
  exact ⟨rfl, box_below w [.int .i64 a, .int .i64 b, .int .i64 d] _⟩
theorem swapNil : Calls Try.prog 22 #[.pointer none, .agg #[.int .i64 a, .int .i64 b, .int .i64 d], .int .u64 o, .int .u64 v] w fun e w' => e = .returned (.bool false) ∧ Below w.heap.size w w' := by
  go_enter Try.func22, Try.ntmps22
  go_wp2
  go_ret
  exact ⟨rfl, box_below w [.int .i64 a, .int .i64 b, .int .i64 d] _⟩
theorem countNil : Calls Try.prog 15 #[.pointer none] w fun e w' => e = .returned (.agg #[.int .i64 0, .int .i64 0, .int .i64 0, .int .i64 0, .int .i64 0]) ∧ Below w.heap.size w w' := by
  go_enter Try.func15, Try.ntmps15
  go_wp2
  refine bodyPost_ret (v := .agg #[.int .i64 0, .int .i64 0, .int .i64 0, .int .i64 0, .int .i64 0]) (by simp [results, Try.results15, go_sem]) rfl ⟨rfl, ?_⟩
  exact (Below.refl _ _).alloc (Nat.le_refl _) _
theorem placesNil : Calls Try.prog 17 #[.pointer none] w fun e w' => e = .returned (.slice none 0 0) ∧ Below w.heap.size w w' := by
  go_enter Try.func17, Try.ntmps17
  go_wp2
  go_ret
  exact ⟨rfl, Below.refl _ _⟩
theorem copyNil : Calls Try.prog 9 #[.pointer none] w fun e w' => e = .returned (.pointer none) ∧ Below w.heap.size w w' := by
  go_enter Try.func9, Try.ntmps9
  go_wp2
  go_ret
  exact ⟨rfl, Below.refl _ _⟩
theorem sameNil (p : Option Addr) : Calls Try.prog 11 #[.pointer p, .pointer none] w fun e w' => e = .returned (.bool p.isNone) ∧ Below w.heap.size w w' :=
  (same_nil p w).mono fun e w' h => ⟨h.1, by rw [h.2]; exact Below.refl _ _⟩
end
theorem perm6 {α : Type} (a b c d e f : α) : [a, b, c, d, e, f].Perm [d, e, c, a, b, f] := (by decide : [0, 1, 2, 3, 4, 5].Perm [3, 4, 2, 0, 1, 5]).map fun i => [a, b, c, d, e, f].getD i a
theorem perm6' {α : Type} (a b c d e f : α) : [a, b, c, d, e, f].Perm [e, c, a, d, b, f] := (by decide : [0, 1, 2, 3, 4, 5].Perm [4, 2, 0, 3, 1, 5]).map fun i => [a, b, c, d, e, f].getD i a
/-- Two are the same, if they are at the places of both. -/
theorem sameB_of {f g : Plc → Int} {m1 m2 : List Plc} (h1 : PlacesOf f m1) (h2 : PlacesOf g m2) : sameB f g = decide (∀ x ∈ m1 ++ m2, f x = g x) := by
  by_cases h : f = g
  · rw [sameB_yes h, decide_eq_true]
    intro x _; rw [h]
  · rw [sameB_no h, decide_eq_false]
    intro hall
    refine h (funext fun x => ?_)
    by_cases hf : f x = 0
    · by_cases hg : g x = 0
      · rw [hf, hg]
      · exact hall x (List.mem_append.2 (.inr ((h2.2 x).2 hg)))
    · exact hall x (List.mem_append.2 (.inl ((h1.2 x).2 hf)))
theorem sameB_symm (f g : Plc → Int) : sameB f g = sameB g f := by
  by_cases h : f = g
  · rw [sameB_yes h, sameB_yes h.symm]
  · rw [sameB_no h, sameB_no fun e => h e.symm]
end Go.Proofs.Ytmgldhojgkcnkaa
