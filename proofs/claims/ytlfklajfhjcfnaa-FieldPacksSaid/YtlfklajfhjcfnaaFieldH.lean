/- Contracts of layer 1: the reference's Pack. -/
import Derived.Test.YtlfklajfhjcfnaaFieldG
namespace Go.Proofs.Ytlfklajfhjcfnaa
open Go.RowKit

theorem ref_keep {w w1 w2 : World} {b o o2 b' o' : Nat} {a l x : Value} (hb : Below w1.heap.size w1 w2) (c0 : w1.cell? ⟨b, o, none⟩ = some a) (c1 : w1.cell? ⟨b, o2, none⟩ = some l) (c2 : w1.cell? ⟨b', o', none⟩ = some x) (hB : Below w.heap.size w w1)
    (hbb : b < w.heap.size) (hbb' : b' < w.heap.size) :
    w2.cell? ⟨b, o, none⟩ = some a ∧ w2.cell? ⟨b, o2, none⟩ = some l ∧ w2.cell? ⟨b', o', none⟩ = some x ∧ Below w.heap.size w w2 := by
  have := hB.size
  exact ⟨by rw [hb.cell (p := ⟨b, o, none⟩) (by simp; omega)]; exact c0, by rw [hb.cell (p := ⟨b, o2, none⟩) (by simp; omega)]; exact c1, by rw [hb.cell (p := ⟨b', o', none⟩) (by simp; omega)]; exact c2, hB.trans (hb.mono (by omega))⟩

set_option maxHeartbeats 1600000 in
theorem refPack_any (A N : Option Addr) (cap cap' : Nat) (fs : List (Int × Int)) (ns : List Int) (w : World) (hr : FldRow w A fs) (hf : Fits fs) (hn : fs.length ≤ 70) (hr' : NumRow w N ns) (hf' : Words ns) :
    Calls Try.prog 21 #[.slice A fs.length cap, .slice N ns.length cap'] w (PackPost w fs ns) := by
  have hn2 : fs.length ≤ 9223372036854775806 := by omega
  have hap := fun w' => refApart_any A cap fs w'
  cases hA : apartF 0 fs
  · have hno : packR fs ns = none := by simp [packR, hA]
    have HN := Lib.hid hno
    have HA := Lib.hid hA
    clear hno hA
    go_enter Try.func21, Try.ntmps21
    go_wp2_with fail
    refine (hap _ hr hf hn2).mono ?_
    rintro e w1 ⟨rfl, hb⟩
    rw [HA.out]
    go_wp2_with fail
    go_ret2
    exact ⟨ret_pair (by rw [packV, HN.out]; rfl) (by rw [packB, HN.out]; rfl), hb⟩
  · by_cases hlen : fs.length = ns.length
    · have hb1 : (((fs.length : Nat) : Int) != ((ns.length : Nat) : Int)) = false := by simp [hlen]
      have HLEN := Lib.hid hlen
      clear hlen
      have hno : packR fs ns = packW 0 fs ns := by simp [packR, hA, HLEN.out]
      have HN := Lib.hid hno
      have HA := Lib.hid hA
      clear hno hA
      go_enter Try.func21, Try.ntmps21
      go_wp2_with fail
      refine (hap _ hr hf hn2).mono ?_
      rintro e w1 ⟨rfl, hb⟩
      rw [HA.out]
      clear hap
      go_wp2_with fail
      clear hb1
      go_loopw [6, 7, 8, 9] (fun t i _ _ wr => ∃ (k : Nat) (T : Int), k ≤ fs.length ∧ 0 ≤ T ∧ T ≤ 18446744073709551615 ∧ Hid (packW 0 fs ns = packW T (fs.drop k) (ns.drop k)) ∧ i = .int .i64 k ∧ t = .int .u64 T ∧ Below w.heap.size w wr) (fun _ i _ _ _ => fs.length - (intOf i).toNat)
      case atStart => exact ⟨0, 0, by omega, by omega, by omega, Lib.hid rfl, rfl, rfl, hb⟩
      case round =>
        obtain ⟨k, T, hk, hT0, hT1, HE, rfl, rfl, hB⟩ := hrel
        have hsz := hB.size
        by_cases hlt : k < fs.length
        · have hlt' : k < ns.length := by have := HLEN.out; omega
          have hdr := drop_at hlt
          have hdn := drop_num hlt'
          have hfi := hf.at_ hlt
          have hwi := hf'.at_ hlt'
          rcases hr with hr | ⟨b, off, rfl, hbw, hc⟩
          · rw [hr] at hlt; simp at hlt
          rcases hr' with hr' | ⟨b', off', rfl, hbw', hc'⟩
          · rw [hr'] at hlt'; simp at hlt'
          have hcell := hc k hlt
          have hcell' := hc' k hlt'
          generalize fs.getD k (0, 0) = p at *
          generalize ns.getD k 0 = x at *
          obtain ⟨a, l⟩ := p
          have e1 : wr.cell? ⟨b, off + k * 2, none⟩ = some (.int .i64 a) := by rw [hB.cell (p := ⟨b, off + k * 2, none⟩) hbw]; exact hcell.1
          have e2 : wr.cell? ⟨b, off + k * 2 + 1, none⟩ = some (.int .i64 l) := by rw [hB.cell (p := ⟨b, off + k * 2 + 1, none⟩) hbw]; exact hcell.2
          have e3 : wr.cell? ⟨b', off' + k, none⟩ = some (.int .u64 x) := by rw [hB.cell (p := ⟨b', off' + k, none⟩) hbw']; exact hcell'
          have hst : packW T (fs.drop k) (ns.drop k) = if okB a l x then packW (putI a l T x) (fs.drop (k + 1)) (ns.drop (k + 1)) else none := by rw [hdr, hdn]; rfl
          have HST := Lib.hid hst
          obtain ⟨⟨-, g1⟩, ⟨g2, -⟩⟩ := hfi
          obtain ⟨y0, y1⟩ := hwi
          simp only at g1 g2
          have hput := Lib.hid (fun w' => refPut_all a l T x w' g1 g2 hT0 hT1 y0 y1)
          have hin : okB a l x = true → 0 ≤ putI a l T x ∧ putI a l T x ≤ 18446744073709551615 := fun hh => putI_in a l T x hh y0 hT0 hT1
          have HIN := Lib.hid hin
          clear hc hc' hcell hcell' hf hf' hdr hdn hst hin
          have hkI : (k : Int) < (ns.length : Int) := by omega
          have hkJ : (k : Int) < (fs.length : Int) := by omega
          have hkI0 : (0 : Int) ≤ (k : Int) := by omega
          go_wp2_with fail
          refine wp_text (S := fun w' => w'.cell? ⟨b, off + k * 2, none⟩ = some (.int .i64 a) ∧ w'.cell? ⟨b, off + k * 2 + 1, none⟩ = some (.int .i64 l) ∧ w'.cell? ⟨b', off' + k, none⟩ = some (.int .u64 x) ∧ Below w.heap.size w w') (by kernel_rfl) (by kernel_rfl) ?hS (fun hT => ?_)
          case hS => exact ⟨e1, e2, e3, hB.drew⟩
          have HT := Lib.hid hT
          clear hT
          repeat (first
            | (refine text_value (v := ?_) HT.out (by rfl) ?_ ?_; rotate_left; (focus (intro w4 hS; go_simp <;> with_reducible rfl)); (try simp only [Act.put, List.setIfInBounds_toArray, List.set_cons_zero, List.set_cons_succ]))
            | (refine text_off HT.out (by rfl) ?_; (try simp only [Act.put, List.setIfInBounds_toArray, List.set_cons_zero, List.set_cons_succ]))
            | (refine text_call (v := .tuple #[.int .u64 (putR a l T x), .bool (okB a l x)]) (f := 11) (args := #[.agg #[.int .i64 a, .int .i64 l], .int .u64 T, .int .u64 x]) HT.out (by rfl) ?_ ?_ ?_; (focus (intro w4 hS; go_simp <;> with_reducible rfl)); (focus (intro w4 hS; obtain ⟨s0, s1, s2, s3⟩ := hS; refine (hput.out _).mono ?_; rintro e w5 ⟨rfl, hb5⟩; exact ⟨rfl, ref_keep hb5 s0 s1 s2 s3 hbw hbw'⟩)); (try simp only [Act.put, List.setIfInBounds_toArray, List.set_cons_zero, List.set_cons_succ])))
          refine InText.nil fun w6 hS => ?_
          obtain ⟨-, -, -, hB2⟩ := hS
          clear HT e1 e2 e3 hput
          cases hok : okB a l x
          · have hno : packW 0 fs ns = none := by rw [HE.out, HST.out, hok]; rfl
            have HN2 := Lib.hid hno
            clear hno
            go_wp2_with fail
            go_ret2
            exact ⟨ret_pair (by rw [packV, HN.out, HN2.out]; rfl) (by rw [packB, HN.out, HN2.out]; rfl), hB2⟩
          · have hpr : putR a l T x = putI a l T x := by simp [putR, hok]
            have hyes : packW 0 fs ns = packW (putI a l T x) (fs.drop (k + 1)) (ns.drop (k + 1)) := by rw [HE.out, HST.out, hok]; rfl
            have HY := Lib.hid hyes
            have hin := HIN.out hok
            clear hyes
            rw [hpr]
            clear hpr hok
            generalize putI a l T x = T' at *
            go_wp2_with fail
            go_roundw
            case rel => exact ⟨k + 1, T', by omega, hin.1, hin.2, HY, by go_num, rfl, hB2⟩
            case measure => simp [intOf]; omega
        · have hk2 : k = fs.length := by omega
          have hend : packW 0 fs ns = some T := by rw [HE.out, hk2, List.drop_length]; rfl
          have HN2 := Lib.hid hend
          clear hend
          go_wp2_with fail
          go_ret2
          exact ⟨ret_pair (by rw [packV, HN.out, HN2.out]; rfl) (by rw [packB, HN.out, HN2.out]; rfl), hB⟩
    · have hb1 : (((fs.length : Nat) : Int) != ((ns.length : Nat) : Int)) = true := by simp; omega
      have hno : packR fs ns = none := by simp [packR, hlen]
      have HN := Lib.hid hno
      have HA := Lib.hid hA
      clear hlen hno hA
      go_enter Try.func21, Try.ntmps21
      go_wp2_with fail
      refine (hap _ hr hf hn2).mono ?_
      rintro e w1 ⟨rfl, hb⟩
      rw [HA.out]
      clear hap
      go_wp2_with fail
      go_ret2
      exact ⟨ret_pair (by rw [packV, HN.out]; rfl) (by rw [packB, HN.out]; rfl), hb⟩
end Go.Proofs.Ytlfklajfhjcfnaa
