/- Contracts of layer 1: the reference's Apart. -/
import Derived.Test.YtlfklajfhjcfnaaFieldF
import Derived.Deep.MidRow
namespace Go.Proofs.Ytlfklajfhjcfnaa
open Go.RowKit

/-- 64 marks, none set. -/
def zero64 : Array Value := Array.replicate 64 (.bool false)
theorem build64 (w : World) : (Instr.build 51 #[]).run Try.prog w = .ok (.agg zero64) w := by kernel_rfl
theorem size64 : (Try.prog.info? 51).map (·.size) = some zero64.size := by kernel_rfl

/-- The marks of a block, as a function. -/
def Used (h : Nat) (w wr : World) (T : Nat → Bool) : Prop := (∀ i, i < 64 → wr.cell? ⟨h, i, none⟩ = some (.bool (T i)) ∧ wr.frozen? ⟨h, i, none⟩ = false) ∧ Below h w wr ∧ h < wr.heap.size
theorem Used.below {h : Nat} {w wr w1 : World} {T : Nat → Bool} (u : Used h w wr T) (hb : Below wr.heap.size wr w1) : Used h w w1 T := by
  obtain ⟨u1, u2, u3⟩ := u
  refine ⟨fun i hi => ?_, u2.trans (hb.mono (by omega)), by have := hb.size; omega⟩
  rw [hb.cell (p := ⟨h, i, none⟩) u3, hb.frozen (p := ⟨h, i, none⟩) u3]
  exact u1 i hi
theorem Used.store {h : Nat} {w wr : World} {T : Nat → Bool} (u : Used h w wr T) {j : Nat} (hj : j < 64) : Used h w (wr.setCell ⟨h, j, none⟩ (.bool true)) (fun i => T i || decide (i = j)) := by
  obtain ⟨u1, u2, u3⟩ := u
  refine ⟨fun i hi => ?_, u2.setCell (Nat.le_refl _) _, by simpa using u3⟩
  rw [World.frozen?_setCell]
  refine ⟨?_, (u1 i hi).2⟩
  by_cases hij : i = j
  · subst hij
    rw [World.cell?_setCell_same _ _ _ (u1 i hi).1]
    simp
  · rw [World.cell?_setCell_other _ _ _ _ (by first | (simp; done) | (simp; omega)), (u1 i hi).1]
    simp [hij]
theorem below_setCells {B : Nat} {a : World} {b : Nat} (hb : B ≤ b) : ∀ (vs : List Value) (o : Nat) (w : World), Below B a w → Below B a (w.setCells b o vs)
  | [], _, _, h => h
  | _ :: r, o, _, h => below_setCells hb r (o + 1) _ (h.setCell hb _)
theorem size_setCells (b : Nat) : ∀ (vs : List Value) (o : Nat) (w : World), (w.setCells b o vs).heap.size = w.heap.size
  | [], _, _ => rfl
  | _ :: r, o, w => by rw [World.setCells, size_setCells b r]; simp
theorem used_new (w : World) : Used w.heap.size w ((w.alloc (.cells zero64 51)).setCells w.heap.size 0 zero64.toList) (fun _ => false) := by
  have hg : (w.alloc (.cells zero64 51)).heap[w.heap.size]? = some (.cells zero64 51 (0, 0)) := heap_alloc_new w _
  have ht : (w.alloc (.cells zero64 51)).there w.heap.size 0 zero64.toList.length := fun j hj => by
    rw [Nat.zero_add]
    refine ⟨?_, frozen_of_row _ _ _ _ _ hg⟩
    rw [cell_of_row _ _ _ _ _ _ hg]
    have : j < zero64.size := by simpa using hj
    simp [this]
  refine ⟨fun i hi => ?_, below_setCells (Nat.le_refl _) _ _ _ ((Below.refl _ _).alloc (Nat.le_refl _) _), by rw [size_setCells]; simp⟩
  have h1 := World.rangeAt_setCells_same (w.alloc (.cells zero64 51)) w.heap.size 0 zero64.toList ht i (.bool false) (by unfold zero64; rw [Array.toList_replicate, List.getElem?_replicate]; simp only [hi, if_true])
  rw [Nat.zero_add] at h1
  refine ⟨h1, ?_⟩
  rw [World.frozen?_setCells]
  exact frozen_of_row _ _ _ _ _ hg

/-- 'used := [64]bool{}': one step of the walk. -/
theorem list_used {ops : Array Oper} {rest : List Oper} {o1 o2 o3 : Oper} {a : Act} {w : World} {Q : Exit → Act → World → Prop} (g1 : o1.guard = none) (g2 : o2.guard = none) (g3 : o3.guard = none)
    (h1 : o1.op = .build 51 #[]) (h2 : o2.op = .alloc 51) (x y : Operand) (h3 : o3.op = .store 51 x y)
    (hx : ((a.put o1.dst (.agg zero64)).put o2.dst (.pointer (some ⟨w.heap.size, 0, none⟩))).eval x = .pointer (some ⟨w.heap.size, 0, none⟩)) (hy : ((a.put o1.dst (.agg zero64)).put o2.dst (.pointer (some ⟨w.heap.size, 0, none⟩))).eval y = .agg zero64)
    (h : ∀ w2, Used w.heap.size w w2 (fun _ => false) → wpList Try.prog ops Q rest (((a.put o1.dst (.agg zero64)).put o2.dst (.pointer (some ⟨w.heap.size, 0, none⟩))).put o3.dst undef) w2) : wpList Try.prog ops Q (o1 :: o2 :: o3 :: rest) a w := by
  refine wpList_plain g1 fun K1 hK1 => ?_
  unfold Oper.wp
  have e1 : (execOp a.eval o1).run Try.prog w = .ok (.value (.agg zero64)) w := by
    have hb := build64 w
    unfold execOp
    simp only [h1]
    rw [Array.map_empty]
    simp [hb]
  rw [e1]
  refine hK1 _ _ ?_
  refine wpList_plain g2 fun K2 hK2 => ?_
  unfold Oper.wp
  have e2 : (execOp (a.put o1.dst (.agg zero64)).eval o2).run Try.prog w = .ok (.value (.pointer (some ⟨w.heap.size, 0, none⟩))) (w.alloc (.cells zero64 51)) := by
    unfold execOp
    simp only [h2]
    kernel_rfl
  rw [e2]
  refine hK2 _ _ ?_
  exact wpList_store_mid g3 51 x y h3 w.heap.size 0 zero64 hx hy (fun j hj => by
    have hg : (w.alloc (.cells zero64 51)).heap[w.heap.size]? = some (.cells zero64 51 (0, 0)) := heap_alloc_new w _
    rw [Nat.zero_add]
    refine ⟨?_, frozen_of_row _ _ _ _ _ hg⟩
    rw [cell_of_row _ _ _ _ _ _ hg]
    simp [hj]) size64 (by decide +kernel) (h _ (used_new w))

theorem used_step {T X m : Nat} : (fun i => (T.testBit i || (decide (X ≤ i) && decide (i < X + m))) || decide (i = X + m)) = fun i => T.testBit i || (decide (X ≤ i) && decide (i < X + (m + 1))) := by
  funext i
  by_cases h1 : i = X + m
  · subst h1; simp
  · have h2 : (i < X + m) = (i < X + (m + 1)) := by apply propext; omega
    simp [h1, h2]
theorem used_or {h : Nat} {w wr : World} {T X m : Nat} (u : Used h w wr (fun i => T.testBit i || (decide (X ≤ i) && decide (i < X + m)))) : Used h w wr (fun i => (T ||| maskN X m).testBit i) := by
  have : (fun i => (T ||| maskN X m).testBit i) = fun i => T.testBit i || (decide (X ≤ i) && decide (i < X + m)) := by
    funext i
    rw [Nat.testBit_or, maskN_testBit]
  rw [this]
  exact u

set_option maxRecDepth 100000 in
set_option maxHeartbeats 3200000 in
theorem refApart_any (A : Option Addr) (cap : Nat) (fs : List (Int × Int)) (w : World) (hr : FldRow w A fs) (hf : Fits fs) (hn : fs.length ≤ 9223372036854775806) :
    Calls Try.prog 23 #[.slice A fs.length cap] w fun e w' => e = .returned (.bool (apartF 0 fs)) ∧ Below w.heap.size w w' := by
  go_enter Try.func23, Try.ntmps23
  go_wp2_with (first | (refine list_used rfl rfl rfl rfl rfl _ _ rfl rfl rfl ?_; intro w2 hu))
  go_loopw [4, 5] (fun i _ wr => ∃ k T : Nat, k ≤ fs.length ∧ T < 18446744073709551616 ∧ Hid (apartF 0 fs = apartF T (fs.drop k)) ∧ i = .int .i64 k ∧ Hid (Used w.heap.size w wr (fun i => T.testBit i))) (fun i _ _ => fs.length - (intOf i).toNat)
  case atStart => exact ⟨0, 0, by omega, by decide, Lib.hid rfl, rfl, Lib.hid (by simpa using hu)⟩
  case round =>
    obtain ⟨k, T, hk, hT, HE, rfl, HU⟩ := hrel
    obtain ⟨wo, rfl⟩ : ∃ wo : World, wo = wr := ⟨_, rfl⟩
    clear hu
    have hB := HU.out.2.1
    by_cases hlt : k < fs.length
    · have hdr := drop_at hlt
      have hfi := hf.at_ hlt
      rcases hr with hr | ⟨b, off, rfl, hbw, hc⟩
      · rw [hr] at hlt; simp at hlt
      have hcell := hc k hlt
      generalize fs.getD k (0, 0) = p at *
      obtain ⟨a, l⟩ := p
      have e1 : wo.cell? ⟨b, off + k * 2, none⟩ = some (.int .i64 a) := by rw [hB.cell (p := ⟨b, off + k * 2, none⟩) hbw]; exact hcell.1
      have e2 : wo.cell? ⟨b, off + k * 2 + 1, none⟩ = some (.int .i64 l) := by rw [hB.cell (p := ⟨b, off + k * 2 + 1, none⟩) hbw]; exact hcell.2
      have HD := Lib.hid hdr
      have HCELL := Lib.hid hcell
      obtain ⟨⟨-, g1⟩, ⟨g2, -⟩⟩ := hfi
      clear hc hcell hdr hf
      simp only at g1 g2
      go_wp2_with fail
      refine (refIs_any a l _ g1 g2).mono ?_
      rintro e w3 ⟨rfl, hb3⟩
      have HU3 := Lib.hid (HU.out.below hb3)
      have hB3 := HU3.out.2.1
      clear hb3 hB e1 e2 HU
      cases h : isB a l
      · have hno : apartF T (fs.drop k) = false := by rw [HD.out]; simp [apartF, h]
        have HN := Lib.hid hno
        clear h hno
        go_wp2_with fail
        go_ret
        exact ⟨ret_bool (by rw [HE.out, HN.out]), hB3⟩
      · have hM := mskN_lt (a, l)
        have hno : T &&& mskN (a, l) ≠ 0 → apartF T (fs.drop k) = false := fun hh => by rw [HD.out]; simp [apartF, hh]
        have hyes : T &&& mskN (a, l) = 0 → apartF T (fs.drop k) = apartF (T ||| mskN (a, l)) (fs.drop (k + 1)) := fun hh => by rw [HD.out]; simp [apartF, h, hh]
        obtain ⟨X, L, rfl, rfl, hL, hXL⟩ := isB_nat h
        have hmk : mskN ((X : Int), (L : Int)) = maskN X L := by simp [mskN, h]
        rw [hmk] at hno hyes hM
        have HNO := Lib.hid hno
        have HYES := Lib.hid hyes
        have HLT := Lib.hid (or_lt64 hT hM)
        clear h hno hyes hM hmk HD hT
        go_wp2_with fail
        go_loopw [5] (fun j wr => ∃ m : Nat, m ≤ L ∧ j = .int .i64 m ∧ Hid (∀ i, i < m → T.testBit (X + i) = false) ∧ Hid (Used w.heap.size w wr (fun i => T.testBit i || (decide (X ≤ i) && decide (i < X + m))))) (fun j _ => L - (intOf j).toNat)
        case atStart => exact ⟨0, by omega, rfl, Lib.hid (fun i hi => absurd hi (by omega)), Lib.hid (by
          have hu3 := HU3.out
          have : (fun i => T.testBit i || (decide (X ≤ i) && decide (i < X + 0))) = fun i => T.testBit i := by funext i; by_cases h1 : X ≤ i <;> simp [h1]; omega
          rw [this]; exact hu3)⟩
        case round =>
          obtain ⟨m, hm, rfl, HF, HU4⟩ := hrel
          clear hB3 HU3
          have hB4 := HU4.out.2.1
          have f1 : wr.cell? ⟨b, off + k * 2, none⟩ = some (.int .i64 X) := by rw [hB4.cell (p := ⟨b, off + k * 2, none⟩) hbw]; exact HCELL.out.1
          have f2 : wr.cell? ⟨b, off + k * 2 + 1, none⟩ = some (.int .i64 L) := by rw [hB4.cell (p := ⟨b, off + k * 2 + 1, none⟩) hbw]; exact HCELL.out.2
          by_cases hml : m < L
          · have hv := (HU4.out.1 (X + m) (by omega)).1
            have hfz := (HU4.out.1 (X + m) (by omega)).2
            have hv2 : wr.cell? ⟨w.heap.size, X + m, none⟩ = some (.bool (T.testBit (X + m))) := by rw [hv]; simp
            clear hv
            cases hbit : T.testBit (X + m)
            · rw [hbit] at hv2
              have HB := Lib.hid hbit
              clear hbit
              go_wp2_with fail
              go_roundw
              case rel => exact ⟨m + 1, by omega, by go_num, Lib.hid (fun i hi => by
                  by_cases him : i = m
                  · rw [him]; exact HB.out
                  · exact HF.out i (by omega)), Lib.hid (by
                  have := HU4.out.store (j := X + m) (by omega)
                  rw [used_step] at this
                  exact this)⟩
              case measure => simp [intOf]; omega
            · rw [hbit] at hv2
              have hne : T &&& maskN X L ≠ 0 := fun hz => by
                have := congrArg (fun n => Nat.testBit n (X + m)) hz
                simp [maskN_testBit, hbit] at this
                omega
              have hno := HNO.out hne
              have HN := Lib.hid hno
              clear hbit hne hno
              go_wp2_with fail
              go_ret
              exact ⟨ret_bool (by rw [HE.out, HN.out]), hB4⟩
          · have hmL : m = L := by omega
            subst hmL
            have hz : T &&& maskN X m = 0 := by
              apply Nat.eq_of_testBit_eq
              intro i
              rw [Nat.testBit_and, maskN_testBit, Nat.zero_testBit]
              by_cases h1 : X ≤ i ∧ i < X + m
              · have := HF.out (i - X) (by omega)
                rw [show X + (i - X) = i by omega] at this
                simp [this]
              · simp; omega
            have hy := HYES.out hz
            have HY := Lib.hid hy
            have HU5 := Lib.hid (used_or HU4.out)
            clear hz hy hB4
            go_wp2_with fail
            go_roundw
            case rel => exact ⟨k + 1, T ||| maskN X m, by omega, HLT.out, Lib.hid (by rw [HE.out, HY.out]), by go_num, HU5⟩
            case measure => simp [intOf]; omega
    · have hk2 : k = fs.length := by omega
      have hend : apartF 0 fs = true := by rw [HE.out, hk2, List.drop_length]; rfl
      have HN := Lib.hid hend
      clear hend
      go_wp2_with fail
      go_ret
      exact ⟨ret_bool HN.out.symm, hB⟩
end Go.Proofs.Ytlfklajfhjcfnaa
