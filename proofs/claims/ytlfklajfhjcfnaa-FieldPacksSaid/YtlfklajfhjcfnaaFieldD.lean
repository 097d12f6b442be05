/- Contracts of layer 1: Apart. -/
import Derived.Test.YtlfklajfhjcfnaaFieldC
import Derived.Test.YtlfklajfhjcfnaaFieldN
namespace Go.Proofs.Ytlfklajfhjcfnaa
open Go.RowKit

theorem mask_nat (a b : Int) (w : World) (ha : a ≤ 9223372036854775807) (hb : -9223372036854775808 ≤ b) :
    Calls Try.prog 28 #[.agg #[.int .i64 a, .int .i64 b]] w fun e w' => e = .returned (.int .u64 (mskN (a, b) : Nat)) ∧ Below w.heap.size w w' := by
  have := mask_any a b w ha hb
  rw [mskN_eq] at this
  exact this

set_option maxHeartbeats 1600000 in
theorem apart_any (A : Option Addr) (cap : Nat) (fs : List (Int × Int)) (w : World) (hr : FldRow w A fs) (hf : Fits fs) (hn : fs.length ≤ 9223372036854775806) :
    Calls Try.prog 22 #[.slice A fs.length cap] w fun e w' => e = .returned (.bool (apartF 0 fs)) ∧ Below w.heap.size w w' := by
  go_enter Try.func22, Try.ntmps22
  go_wp2_with fail
  go_loopw [3, 5, 8] (fun t _ i wr => ∃ k T : Nat, k ≤ fs.length ∧ T ≤ 18446744073709551615 ∧ Hid (apartF 0 fs = apartF T (fs.drop k)) ∧ i = .int .i64 k ∧ t = .int .u64 T ∧ Below w.heap.size w wr) (fun _ _ i _ => fs.length - (intOf i).toNat)
  case atStart => exact ⟨0, 0, by omega, by omega, Lib.hid rfl, rfl, rfl, Below.refl _ _⟩
  case round =>
    obtain ⟨k, T, hk, hT, HE, rfl, rfl, hB⟩ := hrel
    have hsz := hB.size
    by_cases hlt : k < fs.length
    · have hdr := drop_at hlt
      have hfi := hf.at_ hlt
      rcases hr with hr | ⟨b, off, rfl, hbw, hc⟩
      · rw [hr] at hlt; simp at hlt
      have hcell := hc k hlt
      generalize fs.getD k (0, 0) = p at *
      obtain ⟨a, l⟩ := p
      have e1 : wr.cell? ⟨b, off + k * 2, none⟩ = some (.int .i64 a) := by rw [hB.cell (p := ⟨b, off + k * 2, none⟩) hbw]; exact hcell.1
      have e2 : wr.cell? ⟨b, off + k * 2 + 1, none⟩ = some (.int .i64 l) := by rw [hB.cell (p := ⟨b, off + k * 2 + 1, none⟩) hbw]; exact hcell.2
      have HD := Lib.hid hdr
      obtain ⟨⟨-, g1⟩, ⟨g2, -⟩⟩ := hfi
      clear hc hcell hdr hf
      simp only at g1 g2
      go_wp2_with fail
      refine (is_any a l _ g1 g2).mono ?_
      rintro e w1 ⟨rfl, hb1⟩
      obtain ⟨d0, d1, hB1, hs1⟩ := hold_step (n := wr.heap.size) (w := wr) (x := .int .i64 a) (y := .int .i64 l) (by simp) (by simp) ((Below.refl _ _).alloc (Nat.le_refl _) _) (by simp) hb1
      clear hb1 e1 e2
      cases h : isB a l
      · have hno : apartF T (fs.drop k) = false := by rw [HD.out]; simp [apartF, h]
        have HN := Lib.hid hno
        clear h hno
        go_wp2_with fail
        go_ret
        exact ⟨ret_bool (by rw [HE.out, HN.out]), hB.trans (hB1.mono hsz)⟩
      · have hM := mskN_lt (a, l)
        have hno : T &&& mskN (a, l) ≠ 0 → apartF T (fs.drop k) = false := fun hh => by rw [HD.out]; simp [apartF, hh]
        have hyes : T &&& mskN (a, l) = 0 → apartF T (fs.drop k) = apartF (T ||| mskN (a, l)) (fs.drop (k + 1)) := fun hh => by rw [HD.out]; simp [apartF, h, hh]
        have hcn := fun (w : World) => mask_nat a l w g1 g2
        have HC := Lib.hid hcn
        clear h hcn
        generalize mskN (a, l) = M at *
        have hand := u64_and_nat T M (by omega) hM
        have hor := u64_or_nat T M (by omega) hM
        have hlt2 := or_lt64 (T := T) (by omega) hM
        by_cases hz : T &&& M = 0
        · have hy := hyes hz
          rw [hz] at hand
          have HY := Lib.hid hy
          clear hno hyes hy hz
          go_wp2_with fail
          refine (HC.out _).mono ?_
          rintro e w2 ⟨rfl, hb2⟩
          obtain ⟨c0, c1, hB2, hs2⟩ := hold_step d0 d1 hB1 hs1 hb2
          clear hb2 d0 d1 hB1 hs1
          go_wp2_with fail
          refine (HC.out _).mono ?_
          rintro e w3 ⟨rfl, hb3⟩
          obtain ⟨d0, d1, hB1, hs1⟩ := hold_step c0 c1 hB2 hs2 hb3
          clear hb3 c0 c1 hB2 hs2 hand
          go_wp2_with fail
          go_roundw
          case rel => exact ⟨k + 1, T ||| M, by omega, by omega, Lib.hid (by rw [HE.out, HY.out]), by go_num, by rw [← hor], hB.trans (hB1.mono hsz)⟩
          case measure => simp [intOf]; omega
        · have hn2 := hno hz
          have hne : (((T &&& M : Nat) : Int) != 0) = true := by simpa using hz
          have HN := Lib.hid hn2
          clear hno hyes hn2 hz
          generalize T &&& M = C at *
          go_wp2_with fail
          refine (HC.out _).mono ?_
          rintro e w2 ⟨rfl, hb2⟩
          obtain ⟨c0, c1, hB2, hs2⟩ := hold_step d0 d1 hB1 hs1 hb2
          clear hb2 d0 d1 hB1 hs1
          go_wp2_with fail
          go_ret
          exact ⟨ret_bool (by rw [HE.out, HN.out]), hB.trans (hB2.mono hsz)⟩
    · have hk2 : k = fs.length := by omega
      have hend : apartF 0 fs = true := by rw [HE.out, hk2, List.drop_length]; rfl
      have HN := Lib.hid hend
      clear hend
      go_wp2_with fail
      go_ret
      exact ⟨ret_bool HN.out.symm, hB⟩
end Go.Proofs.Ytlfklajfhjcfnaa
