/- Layer 5: Pool and Fresh; the names that PlaceMakes asks. -/
import Derived.Test.YtfajhblmjdjkbaaDoorPlaceN
namespace Go.Proofs.YtfajhblmjdjkbaaDoor
open Go.RowKit

set_option maxHeartbeats 400000 in
theorem pool_any (w : World) : Calls Tryd.prog 18 #[] w fun e w' => e = .returned (.agg #[.int .i64 2, .int .i64 0, .int .i64 0]) ∧ Below w.heap.size w w' := by
  go_enter Tryd.func18, Tryd.ntmps18
  go_wp2
  exact bodyPost_ret (v := .agg #[.int .i64 2, .int .i64 0, .int .i64 0]) (by simp [results, Tryd.results18, go_sem]) rfl ⟨rfl, (Below.refl _ _).alloc (Nat.le_refl _) _⟩
set_option maxHeartbeats 400000 in
theorem fresh_any (w : World) : Calls Tryd.prog 19 #[] w fun e w' => e = .returned (.agg #[.int .i64 3, .int .i64 0, .int .i64 0]) ∧ Below w.heap.size w w' := by
  go_enter Tryd.func19, Tryd.ntmps19
  go_wp2
  exact bodyPost_ret (v := .agg #[.int .i64 3, .int .i64 0, .int .i64 0]) (by simp [results, Tryd.results19, go_sem]) rfl ⟨rfl, (Below.refl _ _).alloc (Nat.le_refl _) _⟩

theorem itoa_one {i : Nat} (h : i < 10) : Lib.itoa (i : Int) = [UInt8.ofNat (48 + i)] := by rw [Lib.itoa_nonneg, Lib.decDigits_one h]
theorem itoa_two {i : Nat} (h1 : ¬ i < 10) (h2 : i < 100) : Lib.itoa (i : Int) = [UInt8.ofNat (48 + i / 10), UInt8.ofNat (48 + i % 10)] := by rw [Lib.itoa_nonneg, Lib.decDigits_two h1 h2]
theorem nm_root12 : nameL 4 0 12 = [114, 111, 111, 116, 32, 49, 50] := by
  rw [name_root (by rfl), show Lib.itoa 12 = [49, 50] from itoa_two (i := 12) (by decide) (by decide)]
  rfl
theorem nm_link : nameL 5 10 7 = [115, 108, 111, 116, 32, 49, 48, 32, 110, 101, 120, 116, 32, 48] := by
  rw [name_cell (by rfl), show Lib.itoa 10 = [49, 48] from itoa_two (i := 10) (by decide) (by decide), show partL 7 = [110, 101, 120, 116, 32] ++ Lib.itoa ((0 : Nat) : Int) from rfl, itoa_one (by decide)]
  rfl
theorem nm_slot (j : Nat) (hj : j < 7) : bytes (nameL 5 3 j) = { data := #[115, 108, 111, 116, 32, 51, 32] } ++ bytes (partsL.getD j []) := by
  have e : partL (j : Int) = partsL.getD j [] := by unfold partL; rw [if_pos (by omega)]; rfl
  rw [name_cell (by unfold cellB; rw [decide_eq_true_iff]; omega), e, show Lib.itoa 3 = [51] from itoa_one (i := 3) (by decide), show ({ data := #[115, 108, 111, 116, 32, 51, 32] } : ByteArray) = bytes [115, 108, 111, 116, 32, 51, 32] from rfl, bytes_add]
  rfl
section
variable (w : World) (hg : Glo w)
include hg
theorem nk_pool : Calls Tryd.prog 23 #[.agg #[.int .i64 2, .int .i64 0, .int .i64 0]] w fun e w' => e = .returned (.string ⟨#[112, 111, 111, 108]⟩) ∧ Below w.heap.size w w' := name_any 2 0 0 (by decide) (by decide) w hg
theorem nk_fresh : Calls Tryd.prog 23 #[.agg #[.int .i64 3, .int .i64 0, .int .i64 0]] w fun e w' => e = .returned (.string ⟨#[102, 114, 101, 115, 104]⟩) ∧ Below w.heap.size w w' := name_any 3 0 0 (by decide) (by decide) w hg
theorem nk_root12 : Calls Tryd.prog 23 #[.agg #[.int .i64 4, .int .i64 0, .int .i64 12]] w fun e w' => e = .returned (.string ⟨#[114, 111, 111, 116, 32, 49, 50]⟩) ∧ Below w.heap.size w w' := by
  have := name_any 4 0 12 (by decide) (by decide) w hg
  rw [nm_root12] at this
  exact this
theorem nk_link : Calls Tryd.prog 23 #[.agg #[.int .i64 5, .int .i64 10, .int .i64 7]] w fun e w' => e = .returned (.string ⟨#[115, 108, 111, 116, 32, 49, 48, 32, 110, 101, 120, 116, 32, 48]⟩) ∧ Below w.heap.size w w' := by
  have := name_any 5 10 7 (by decide) (by decide) w hg
  rw [nm_link] at this
  exact this
theorem nk_none1 : Calls Tryd.prog 23 #[.agg #[.int .i64 5, .int .i64 0, .int .i64 1]] w fun e w' => e = .returned (.string ⟨#[110, 111, 110, 101]⟩) ∧ Below w.heap.size w w' := name_any 5 0 1 (by decide) (by decide) w hg
theorem nk_none2 : Calls Tryd.prog 23 #[.agg #[.int .i64 4, .int .i64 0, .int .i64 (-1)]] w fun e w' => e = .returned (.string ⟨#[110, 111, 110, 101]⟩) ∧ Below w.heap.size w w' := name_any 4 0 (-1) (by decide) (by decide) w hg
theorem nk_none3 : Calls Tryd.prog 23 #[.agg #[.int .i64 1, .int .i64 1, .int .i64 0]] w fun e w' => e = .returned (.string ⟨#[110, 111, 110, 101]⟩) ∧ Below w.heap.size w w' := name_any 1 1 0 (by decide) (by decide) w hg
theorem nk_none4 : Calls Tryd.prog 23 #[.agg #[.int .i64 5, .int .i64 1, .int .i64 (-1)]] w fun e w' => e = .returned (.string ⟨#[110, 111, 110, 101]⟩) ∧ Below w.heap.size w w' := name_any 5 1 (-1) (by decide) (by decide) w hg
theorem nk_slot (j : Nat) (hj : j < 7) : Calls Tryd.prog 23 #[.agg #[.int .i64 5, .int .i64 3, .int .i64 (j : Int)]] w fun e w' => e = .returned (.string ({ data := #[115, 108, 111, 116, 32, 51, 32] } ++ bytes (partsL.getD j []))) ∧ Below w.heap.size w w' := by
  have := name_any 5 3 j (by decide) (by omega) w hg
  rw [nm_slot j hj] at this
  exact this
end
theorem lk_ten (w : World) : Calls Tryd.prog 22 #[.int .i64 10, .int .i64 0] w fun e w' => e = .returned (.agg #[.int .i64 5, .int .i64 10, .int .i64 7]) ∧ Below w.heap.size w w' := by
  have := link_any 10 0 w
  rwa [w64 (7 + 0) (by decide)] at this
end Go.Proofs.YtfajhblmjdjkbaaDoor
