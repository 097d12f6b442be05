/- The reference's words in a row: Swap, Less. -/
import Derived.Test.YtnohfcikedhhgaaRefB
import Derived.Test.YtnohfcikedhhgaaCellP
namespace Go.Proofs.Ytnohfcikedhhgaa
open Go.RowKit Go.Maps Go.Sort
set_option maxRecDepth 100000

theorem IsU.over {w w' : World} {u : Nat} {F : Nat → Prop} {l : List OneR} (h : IsU w u F l) (hb : Below w.heap.size w w') : IsU w' u F l := (refI u F l).loc w w' h (fun k hk => hb.block k (h.lt k hk)) hb.size

def swL (l : List OneR) (x : Plc) (o v : Int) : List OneR := if getL l x = o then setL l x v else l
set_option maxHeartbeats 1600000 in
theorem refSwap_any {u : Nat} {F : Nat → Prop} {l : List OneR} {w : World} (a b d o v : Int) (hl : l.length ≤ 1000000) (hU : IsU w u F l) :
    Calls Try.prog 14 #[.pointer (some ⟨u, 0, none⟩), .agg #[.int .i64 a, .int .i64 b, .int .i64 d], .int .u64 o, .int .u64 v] w fun e w' => e = .returned (.bool (decide (getL l (a, b, d) = o))) ∧ ∃ F', IsU w' u F' (swL l (a, b, d) o v) ∧ Step F F' w w' := by
  have hE := (Fr.start w).push w.heap.size rfl [.int .i64 a, .int .i64 b, .int .i64 d] 35
  have r := hE.rule 0 rfl
  have HU := Lib.hid hU
  go_enter Try.func14, Try.ntmps14
  go_wp2_with fail
  refine (refGet_any a b d hl (HU.out.over hE.below)).mono ?_
  rintro e w1 ⟨rfl, hb⟩
  replace hE := hE.over hb
  have hb0 := hE.below
  clear hb r
  by_cases hg : getL l (a, b, d) = o
  · have r := hE.rule 0 rfl
    have hg' : decide (getL l (a, b, d) = o) = true := by simp [hg]
    go_wp2_with fail
    refine (refSet_any a b d v hl (HU.out.over hb0)).mono ?_
    rintro e w2 ⟨rfl, F', hU2, hs⟩
    go_wp2
    go_ret
    exact ⟨by rw [hg']; rfl, F', by rw [swL, if_pos hg]; exact hU2, (Step.of_below F hb0).trans hs⟩
  · have r := hE.rule 0 rfl
    have hg' : decide (getL l (a, b, d) = o) = false := by simp [hg]
    go_wp2_with fail
    go_ret
    exact ⟨by rw [hg']; rfl, F, by rw [swL, if_neg hg]; exact HU.out.over hb0, Step.of_below F hb0⟩

set_option maxHeartbeats 1600000 in
theorem less_any (x y z a b d : Int) (w : World) :
    Calls Try.prog 38 #[.agg #[.int .i64 x, .int .i64 y, .int .i64 z], .agg #[.int .i64 a, .int .i64 b, .int .i64 d]] w fun e w' => e = .returned (.bool (ltOf cmpP (x, y, z) (a, b, d))) ∧ Below w.heap.size w w' := by
  have hE := ((Fr.start w).push w.heap.size rfl [.int .i64 x, .int .i64 y, .int .i64 z] 35).push (w.heap.size + 1) (by simp) [.int .i64 a, .int .i64 b, .int .i64 d] 35
  have r := hE.rule 0 rfl
  have r1 := hE.rule 1 rfl
  have hL : ltOf cmpP (x, y, z) (a, b, d) = if x ≠ a then decide (x < a) else if y ≠ b then decide (y < b) else decide (z < d) := by
    have h := ltP (x, y, z) (a, b, d)
    rw [Bool.eq_iff_iff, h]
    split
    · simp; omega
    · split
      · simp; omega
      · simp; omega
  rw [hL]
  go_enter Try.func38, Try.ntmps38
  by_cases h1 : x = a
  · subst h1
    by_cases h2 : y = b
    · subst h2
      go_wp2_with fail
      go_ret
      exact ⟨by simp, hE.below⟩
    · go_wp2_with fail
      go_ret
      exact ⟨by simp [h2], hE.below⟩
  · go_wp2_with fail
    go_ret
    exact ⟨by simp [h1], hE.below⟩



end Go.Proofs.Ytnohfcikedhhgaa
