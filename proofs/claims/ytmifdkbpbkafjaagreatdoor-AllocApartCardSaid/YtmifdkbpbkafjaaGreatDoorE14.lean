/- What is proved on the way to the statement, part 14 of 15: contracts of the functions, among other things in memory. -/
import Derived.Test.YtmifdkbpbkafjaaGreatDoorE13
import Derived.OwnWalk
import Derived.LoopIn
import Derived.Test.YtmifdkbpbkafjaaGreatDoorChecked
import Derived.Deep.MidRow
import Derived.LoopN
import Derived.Test.YtmifdkbpbkafjaaGreatDoorTie
import Derived.LaidMore
import Derived.Stop.Joined

/- Queues: the contract of List. -/
namespace Go.Proofs.YtmifdkbpbkafjaaGreatDoor
open Go.RowKit Go.Maps
set_option maxRecDepth 100000

set_option maxHeartbeats 1600000 in
theorem list_any {w : World} {q k : Nat} {F : Nat → Prop} {l : List Trip} (hQ : IsQ w q F l k) :
    Calls Tryz.prog 27 #[.pointer (some ⟨q, 0, none⟩)] w fun e w' => ∃ b, e = .returned (.slice (some ⟨b, 0, none⟩) l.length l.length) ∧ Blk 0 w' b (flat3 l) ∧ w.heap.size ≤ b ∧ Below w.heap.size w w' := by
  obtain ⟨hl1, hl2, hk2, hk⟩ := hQ.len
  have hQ0 := Lib.hid hQ
  obtain ⟨R, g, r, hq, hr, hring, _, _, hne, hF⟩ := hQ
  have hrl := hring.1
  have h4 := pow_four hk2
  have HA := Lib.hid fun j w' => at_any R k (g + j) w' hk
  have hcell : ∀ j, j < l.length → ∀ w', Blk 0 w' R (flat3 r) → w'.cell? ⟨R, (g + j) % 2 ^ k * 3, none⟩ = some (.int .i64 (l.getD j t0).1) ∧ w'.cell? ⟨R, (g + j) % 2 ^ k * 3 + 1, none⟩ = some (.int .i64 (l.getD j t0).2.1) ∧ w'.cell? ⟨R, (g + j) % 2 ^ k * 3 + 2, none⟩ = some (.int .i64 (l.getD j t0).2.2) := fun j hj w' h => by
    have hlt : (g + j) % 2 ^ k < 2 ^ k := Nat.mod_lt _ (by omega)
    have e := fun c hc => (h.rule ((g + j) % 2 ^ k * 3 + c)).trans (flat3_get r ((g + j) % 2 ^ k) c (by omega) hc)
    rw [hring.at j hj] at e
    exact ⟨e 0 (by omega), e 1 (by omega), e 2 (by omega)⟩
  have HC := Lib.hid hcell
  have HG := Lib.hid (round_up g)
  have HQB := Lib.hid (And.intro hq hr)
  have hlz := fill3_zero l
  clear hcell hq hr hring hF hrl h4
  go_enter Tryz.func27, Tryz.ntmps27
  go_wp2_with fail
  refine (len_any hQ0.out).mono ?_
  rintro e w1 ⟨rfl, hb⟩
  clear hQ0
  go_wp2_with (refine wpList_make3 _ rfl _ _ 72 rfl 63 Tryz.underlying72 infoEnt .i64 .i64 _ _ l.length rfl rfl rfl rfl (by omega) ?_)
  have hB0 := Blk.new 0 w1 (flat3 (List.replicate l.length t0)) 63
  have hE0 := hb.alloc hb.size (.cells (flat3 (List.replicate l.length t0)).toArray 63)
  have hs0 := hb.size
  clear hb
  generalize hb1 : w1.heap.size = b at *
  clear hb1
  generalize w1.alloc (.cells (flat3 (List.replicate l.length t0)).toArray 63) = w2 at *
  rw [← hlz] at hB0
  clear hlz
  go_loopw [4, 10] (fun _ i wr => ∃ j : Nat, j ≤ l.length ∧ i = .int .i64 j ∧ Blk 0 wr b (flat3 (fill3 l j)) ∧ Below w.heap.size w wr) (fun _ i _ => l.length - (intOf i).toNat)
  case atStart => exact ⟨0, by omega, rfl, hB0, hE0⟩
  case round =>
    obtain ⟨j, hj, rfl, hf, hB⟩ := hrel
    clear hB0 hE0
    by_cases hlt : j < l.length
    · have hc := HC.out j hlt
      have hw := round_nat j (by omega)
      have hg := HG.out j
      have HAj := Lib.hid (HA.out j)
      have hq5 : Blk 0 wr q _ := HQB.out.1.kept hB.size (hB.block _ HQB.out.1.1)
      have hr5 : Blk 0 wr R _ := HQB.out.2.kept hB.size (hB.block _ HQB.out.2.1)
      have hqb : q ≠ b ∧ R ≠ b := ⟨by have := HQB.out.1.1; omega, by have := HQB.out.2.1; omega⟩
      have hnx := hf
      have HNX := Lib.hid (And.intro (fill3_next l hlt) (fill3_length l hj))
      clear HC HG HA HQB hnx
      unfold qv at hq5
      generalize l.getD j t0 = xx at *
      generalize (cnt g) = G at *
      generalize (cnt (g + j)) = GJ at *
      generalize (cnt (g + l.length)) = C at *
      generalize (g + j) % 2 ^ k = p at *
      generalize 2 ^ k = N at *
      obtain ⟨x, y, z⟩ := xx
      simp only at hc
      have HC := Lib.hid hc
      clear hc
      generalize hLN : l.length = ln at *
      have HLN := Lib.hid hLN
      clear hLN
      go_wp2_with fail
      refine Ord.wp_chain [17] (fun w' => Blk 0 w' q [.slice (some ⟨R, 0, none⟩) N N, .int .u64 G, .int .u64 C] ∧ Blk 0 w' R (flat3 r)) (fun m w' => w.heap.size ≤ w'.heap.size ∧ Below w.heap.size w w' ∧ Blk 0 w' b (flat3 (if m = 0 then fill3 l j else (fill3 l j).set j (x, y, z)))) (by kernel_rfl) (by kernel_rfl) (by kernel_rfl) ⟨hq5.drew, hr5.drew⟩ ⟨hB.size, hB.drew, hf.drew⟩ (fun hT => ?_)
      have hT9 := Lib.hid hT
      clear hT
      repeat (first
        | (refine Ord.ch_value (v := ?_) hT9.out (by decide) (by rfl) ?_ ?_; rotate_left; (focus (intro w5 hS; have r := Blk.rule hS.1; obtain ⟨c0, c1, c2⟩ := HC.out _ hS.2; go_simp <;> with_reducible rfl)); (try simp only [Act.put, List.setIfInBounds_toArray, List.set_cons_zero, List.set_cons_succ]))
        | (refine Ord.ch_off hT9.out (by decide) (by rfl) ?_; (try simp only [Act.put, List.setIfInBounds_toArray, List.set_cons_zero, List.set_cons_succ]))
        | (refine Ord.ch_call (v := ?_) (f := ?_) (args := ?_) hT9.out (by decide) (by rfl) ?_ ?_ ?_; rotate_left 3; (focus (intro w5 hS; have r := Blk.rule hS.1; obtain ⟨c0, c1, c2⟩ := HC.out _ hS.2; go_simp; constructor <;> with_reducible rfl)); (focus (intro w5 hS; (first | (with_reducible refine (HAj.out w5).mono ?_; rintro e w6 ⟨rfl, rfl⟩; constructor; with_reducible rfl; exact ⟨hS, fun _ h => h⟩)))); (try simp only [Act.put, List.setIfInBounds_toArray, List.set_cons_zero, List.set_cons_succ])))
      refine Ord.ch_turn (v := undef) 0 hT9.out rfl (by decide) (Or.inl rfl) (by rfl) ?_ ?_
      · rintro w5 hS ⟨hA0, hA1, hA2⟩
        simp only [if_true] at hA2
        have hcells := fun c hc => (hA2.rule (j * 3 + c)).trans (flat3_get _ j c (by rw [HNX.out.2]; exact hlt) hc)
        have r0 := hcells 0 (by omega)
        have r1 := hcells 1 (by omega)
        have r2 := hcells 2 (by omega)
        simp only [Nat.add_zero, enc3, List.getElem?_cons_zero, List.getElem?_cons_succ] at r0 r1 r2
        have hfl := flat3_length (fill3 l j)
        rw [HNX.out.2] at hfl
        have f0 := hA2.thaw (j * 3) (by omega)
        have f1 := hA2.thaw (j * 3 + 1) (by omega)
        have f2 := hA2.thaw (j * 3 + 2) (by omega)
        clear hcells
        go_simp
        refine ⟨rfl, ⟨((hS.1.off hqb.1 _).off hqb.1 _).off hqb.1 _, ((hS.2.off hqb.2 _).off hqb.2 _).off hqb.2 _⟩, by simpa using hA0, ?_, ?_⟩
        · exact below_set (below_set (below_set hA1 (by omega) hs0 _) (by simp; omega) hs0 _) (by simp; omega) hs0 _
        · exact Blk.set3 hA2 (by rw [HNX.out.2]; exact hlt) (x, y, z)
      (try simp only [Act.put, List.setIfInBounds_toArray, List.set_cons_zero, List.set_cons_succ])
      repeat (first
        | (refine Ord.ch_value (v := ?_) hT9.out (by decide) (by rfl) ?_ ?_; rotate_left; (focus (intro w5 hS; skip; go_simp <;> with_reducible rfl)); (try simp only [Act.put, List.setIfInBounds_toArray, List.set_cons_zero, List.set_cons_succ]))
        | (refine Ord.ch_off hT9.out (by decide) (by rfl) ?_; (try simp only [Act.put, List.setIfInBounds_toArray, List.set_cons_zero, List.set_cons_succ])))
      refine Ord.InText.nil fun w5 hS => ?_
      clear hT9
      obtain ⟨hC9, hA9⟩ := Ord.chain_end hS
      clear hS
      obtain ⟨hA0, hA1, hA2⟩ := hA9
      rw [if_neg (by decide), HNX.out.1] at hA2
      go_wp2_with fail
      exact ⟨⟨j + 1, by omega, by simp, hA2, hA1⟩, by simp [intOf]; omega⟩
    · go_wp2_with fail
      have : j = l.length := by omega
      subst this
      rw [fill3_all] at hf
      go_ret
      exact ⟨b, rfl, hf, hs0, hB⟩
theorem listNil_any (w : World) : Calls Tryz.prog 27 #[.pointer none] w fun e w' => ∃ b, e = .returned (.slice (some ⟨b, 0, none⟩) 0 0) ∧ Below w.heap.size w w' := by
  go_enter Tryz.func27, Tryz.ntmps27
  go_wp2_with fail
  refine (lenNil_any _).mono ?_
  rintro e w1 ⟨rfl, hb⟩
  go_wp2_with (refine wpList_make3 _ rfl _ _ 72 rfl 63 Tryz.underlying72 infoEnt .i64 .i64 _ _ 0 rfl rfl rfl rfl (by omega) ?_)
  have hE0 := hb.alloc hb.size (.cells (flat3 (List.replicate 0 t0)).toArray 63)
  clear hb
  go_loopw [4, 10] (fun _ i wr => i = .int .i64 0 ∧ Below w.heap.size w wr) (fun _ i _ => 0)
  case atStart => exact ⟨rfl, hE0⟩
  case round =>
    obtain ⟨rfl, hB⟩ := hrel
    go_wp2_with fail
    go_ret
    exact ⟨_, rfl, hB⟩
end Go.Proofs.YtmifdkbpbkafjaaGreatDoor

/- Threads: the contract of same. -/
namespace Go.Proofs.YtmifdkbpbkafjaaGreatDoor
open Go.RowKit Go.Maps
set_option maxRecDepth 100000

section
variable {w0 w : World} {R : List Item} {C : Cf} {X : Tm} {V : Wm} {T : Th} {G FU : Nat → Prop} {qc : Cnt} {n : Nat} {f : Mem} {ml : List OneR}
set_option maxHeartbeats 3200000 in
theorem same_t (hq : T.ql.length ≤ 1000000) (hE : Env w0 (LT (SP C X V T f G qc n) (LU (SR C X V T FU ml) (boxI X.thr (thv X T) :: R))) w) :
    Calls Tryz.prog 15 #[.pointer (some ⟨X.thr, 0, none⟩)] w fun o w' => o = .returned (.bool true) ∧ Env w0 (LT (SP C X V T f G qc n) (LU (SR C X V T FU ml) (boxI X.thr (thv X T) :: R))) w' := by
  have r7 := hE.rule 7 rfl
  unfold thv at r7
  have hb0 : Blk 0 w X.c (crv C.k C.s C.b C.h C.l T.e X.cr T.hs 0 X.q) := hE.get 0 rfl
  have hq0 : IsQ w X.q X.F T.ql X.kq := hE.queue 1 rfl
  go_enter Tryz.func15, Tryz.ntmps15
  go_wp2_with fail
  refine (queue_c hb0).mono ?_
  rintro o w1 ⟨rfl, rfl⟩
  go_wp2_with fail
  refine (list_any hq0).mono ?_
  rintro o w2 ⟨bL, rfl, hL, hbL, hb⟩
  replace hE := hE.add (boxI bL (flat3 T.ql)) hb hL (fun y hy => by cases hy; exact ⟨hbL, hL.1⟩)
  clear hb hL hbL r7 hb0 hq0
  have hb0 : Blk 0 w2 X.c (crv C.k C.s C.b C.h C.l T.e X.cr T.hs 0 X.q) := hE.get 1 rfl
  have r7 := hE.rule 8 rfl
  unfold thv at r7
  go_wp2_with fail
  refine (held_c hb0).mono ?_
  rintro o w3 ⟨rfl, hb⟩
  replace hE := hE.over hb
  replace hE := hE.box w3.heap.size rfl [.int .i64 T.hs, .int .i64 0] 67
  clear hb r7 hb0
  go_wp2_with fail
  generalize w3.alloc _ = w4 at *
  generalize w3.heap.size = Z at *
  replace hE : Env w0 (boxI bL (flat3 T.ql) :: boxI Z [.int .i64 T.hs, .int .i64 0] :: LT (SP C X V T f G qc n) (LU (SR C X V T FU ml) (boxI X.thr (thv X T) :: R))) w4 := hE.perm (List.Perm.swap _ _ _)
  have HCU : Hid (∀ y, Env w0 (boxI bL (flat3 T.ql) :: boxI Z [.int .i64 T.hs, .int .i64 0] :: LT (SP C X V T f G qc n) (LU (SR C X V T FU ml) (boxI X.thr (thv X T) :: R))) y → y.cell? ⟨X.u, 6, none⟩ = some (.slice X.A T.ql.length X.rc) ∧ y.cell? ⟨X.u, 8, none⟩ = some (.int .i64 T.hs) ∧ y.cell? ⟨X.u, 5, none⟩ = some (.int .i64 T.e)) := Lib.hid fun y hy => ⟨hy.rule 6 rfl 6, hy.rule 6 rfl 8, hy.rule 6 rfl 5⟩
  have HEP : Hid (∀ y, Env w0 (boxI bL (flat3 T.ql) :: boxI Z [.int .i64 T.hs, .int .i64 0] :: LT (SP C X V T f G qc n) (LU (SR C X V T FU ml) (boxI X.thr (thv X T) :: R))) y → Calls Tryz.prog 25 #[.pointer (some ⟨X.c, 0, none⟩)] y fun o w' => o = .returned (.int .i64 T.e) ∧ w' = y) := Lib.hid fun y hy => epoch_c (show Blk 0 y X.c (crv C.k C.s C.b C.h C.l T.e X.cr T.hs 0 X.q) from hy.get 2 rfl)
  refine wp_text (S := (Env w0 (boxI bL (flat3 T.ql) :: boxI Z [.int .i64 T.hs, .int .i64 0] :: LT (SP C X V T f G qc n) (LU (SR C X V T FU ml) (boxI X.thr (thv X T) :: R))))) (by kernel_rfl) (by kernel_rfl) hE.drew (fun hT => ?_)
  have hT9 := Lib.hid hT
  clear hT
  repeat (first
    | (refine text_value (v := ?_) hT9.out (by rfl) ?_ ?_; rotate_left; (focus (intro w5 hS; obtain ⟨q6, q8, q5⟩ := HCU.out _ hS; have r1 := hS.rule 1 rfl; have r9 := hS.rule 9 rfl; unfold thv at r9; go_simp <;> with_reducible rfl)); (try simp only [Act.put, List.setIfInBounds_toArray, List.set_cons_zero, List.set_cons_succ]))
    | (refine text_off hT9.out (by rfl) ?_; (try simp only [Act.put, List.setIfInBounds_toArray, List.set_cons_zero, List.set_cons_succ]))
    | (refine text_call (v := ?_) (f := ?_) (args := ?_) hT9.out (by rfl) ?_ ?_ ?_; rotate_left 3; (focus (intro w5 hS; obtain ⟨q6, q8, q5⟩ := HCU.out _ hS; have r1 := hS.rule 1 rfl; have r9 := hS.rule 9 rfl; unfold thv at r9; go_simp; constructor <;> with_reducible rfl)); (focus (intro w5 hS; (first | (with_reducible refine (HEP.out _ hS).mono ?_; rintro o w6 ⟨rfl, rfl⟩; constructor; with_reducible rfl; exact hS)))); (try simp only [Act.put, List.setIfInBounds_toArray, List.set_cons_zero, List.set_cons_succ])))
  refine InText.nil fun w5 hS5 => ?_
  clear hT9
  clear hE HEP HCU
  go_wp2_with fail
  generalize (T.hs != 0) = bh at *
  have hE5 := hS5
  clear hS5
  go_loopw [6] (fun kv v => ∃ z : Nat, z ≤ T.ql.length ∧ kv = .int .i64 z ∧ Env w0 (boxI bL (flat3 T.ql) :: boxI Z [.int .i64 T.hs, .int .i64 0] :: LT (SP C X V T f G qc n) (LU (SR C X V T FU ml) (boxI X.thr (thv X T) :: R))) v) (fun kv _ => T.ql.length - (intOf kv).toNat)
  case atStart => exact ⟨0, Nat.zero_le _, rfl, hE5⟩
  case round =>
    clear hE5
    obtain ⟨z, hz, rfl, hE5⟩ := hrel
    by_cases hzl : z < T.ql.length
    · have hb3 : decide ((z : Int) < T.ql.length) = true := by simp; omega
      have hz1 : (z : Int) < (T.ql.length : Int) := by omega
      rcases hE5.cells3 7 rfl rfl with h0 | ⟨g, off2, hA, -, -⟩
      · have h0' : T.ql = [] := h0
        rw [h0'] at hzl
        simp at hzl
      have hA9 : X.A = some ⟨g, off2, none⟩ := hA
      obtain ⟨⟨ex, ey, ez⟩, he⟩ : ∃ t, T.ql.getD z t0 = t := ⟨_, rfl⟩
      have HC2 : Hid (∀ y, Env w0 (boxI bL (flat3 T.ql) :: boxI Z [.int .i64 T.hs, .int .i64 0] :: LT (SP C X V T f G qc n) (LU (SR C X V T FU ml) (boxI X.thr (thv X T) :: R))) y → y.cell? ⟨X.u, 6, none⟩ = some (.slice (some ⟨g, off2, none⟩) T.ql.length X.rc) ∧ y.cell? ⟨g, off2 + z * 3, none⟩ = some (.int .i64 ex) ∧ y.cell? ⟨g, off2 + z * 3 + 1, none⟩ = some (.int .i64 ey) ∧ y.cell? ⟨bL, z * 3, none⟩ = some (.int .i64 ex) ∧ y.cell? ⟨bL, z * 3 + 1, none⟩ = some (.int .i64 ey)) := Lib.hid fun y hy => by
        refine ⟨by rw [← hA9]; exact hy.rule 6 rfl 6, ?_, ?_, ?_, ?_⟩
        · rcases hy.cells3 7 rfl rfl with h0 | ⟨g', off', hA', -, hc⟩
          · have h0' : T.ql = [] := h0
            rw [h0'] at hzl
            simp at hzl
          · rw [hA] at hA'
            cases hA'
            have h9 : CellsAt y g (off2 + z * 3) (enc3 (ex, ey, ez)) := by
              have := hc z hzl
              rw [show (SR C X V T FU ml).ql.getD z default = (ex, ey, ez) from he] at this
              exact this
            exact (at3 h9).1
        · rcases hy.cells3 7 rfl rfl with h0 | ⟨g', off', hA', -, hc⟩
          · have h0' : T.ql = [] := h0
            rw [h0'] at hzl
            simp at hzl
          · rw [hA] at hA'
            cases hA'
            have h9 : CellsAt y g (off2 + z * 3) (enc3 (ex, ey, ez)) := by
              have := hc z hzl
              rw [show (SR C X V T FU ml).ql.getD z default = (ex, ey, ez) from he] at this
              exact this
            exact (at3 h9).2.1
        · have := (hy.rule 0 rfl (z * 3 + 0)).trans (flat3_get T.ql z 0 hzl (by omega))
          rw [he] at this
          simpa [enc3] using this
        · have := (hy.rule 0 rfl (z * 3 + 1)).trans (flat3_get T.ql z 1 hzl (by omega))
          rw [he] at this
          simpa [enc3] using this
      clear hA hA9 he
      go_wp2_with fail
      refine wp_text (S := (Env w0 (boxI bL (flat3 T.ql) :: boxI Z [.int .i64 T.hs, .int .i64 0] :: LT (SP C X V T f G qc n) (LU (SR C X V T FU ml) (boxI X.thr (thv X T) :: R))))) (by kernel_rfl) (by kernel_rfl) hE5.drew (fun hT => ?_)
      have hT9 := Lib.hid hT
      clear hT
      repeat (first
        | (refine text_value (v := ?_) hT9.out (by rfl) ?_ ?_; rotate_left; (focus (intro w5 hS; obtain ⟨q6, q7, q8, q9, q10⟩ := HC2.out _ hS; have r9 := hS.rule 9 rfl; unfold thv at r9; go_simp <;> with_reducible rfl)); (try simp only [Act.put, List.setIfInBounds_toArray, List.set_cons_zero, List.set_cons_succ]))
        | (refine text_off hT9.out (by rfl) ?_; (try simp only [Act.put, List.setIfInBounds_toArray, List.set_cons_zero, List.set_cons_succ]))
        | (refine text_call (v := ?_) (f := ?_) (args := ?_) hT9.out (by rfl) ?_ ?_ ?_; rotate_left 3; (focus (intro w5 hS; obtain ⟨q6, q7, q8, q9, q10⟩ := HC2.out _ hS; have r9 := hS.rule 9 rfl; unfold thv at r9; go_simp; constructor <;> with_reducible rfl)); (focus (intro w5 hS; (first | fail))); (try simp only [Act.put, List.setIfInBounds_toArray, List.set_cons_zero, List.set_cons_succ])))
      refine InText.nil fun w5 hS5 => ?_
      clear hT9
      clear hE5 HC2
      go_wp2_with fail
      exact ⟨⟨z + 1, by omega, by simp, hS5⟩, by simp [intOf]; omega⟩
    · have hb3 : decide ((z : Int) < T.ql.length) = false := by simp; omega
      go_wp2_with fail
      go_ret
      exact ⟨rfl, hE5.sub (.cons _ (.cons _ (List.Sublist.refl _)))⟩
end
end Go.Proofs.YtmifdkbpbkafjaaGreatDoor

/- Threads, all of them: what they are in memory together; a step of one; the start. -/
namespace Go.Proofs.YtmifdkbpbkafjaaGreatDoor
open Go.RowKit Go.Maps
set_option maxRecDepth 100000

/-- All that turns. -/
structure GS where
  (ps : List Pk)
  (G FU : Nat → Prop)
  (qc : Cnt)
  (n : Nat)
  (ml : List OneR)
def EL (C : Cf) (sl : Value) (p cc m : Nat) (S : GS) (L : List Item) : List Item :=
  tpsI sl (S.ps.map fun q => q.X.thr) :: wbox p cc :: cellI cc S.G (getL S.ml) S.qc S.n :: refI m S.FU S.ml :: (S.ps.flatMap (Pk.its C) ++ L)
def vm (p cc m : Nat) : Wm := ⟨p, cc, m, fun _ => False, fun _ => False, ⟨0, 0, 0, 0, 0⟩, 0, []⟩
/-- What lies behind a thread's things. -/
def RL (C : Cf) (sl : Value) (S : GS) (i : Nat) (L : List Item) : List Item := tpsI sl (S.ps.map fun q => q.X.thr) :: ((S.ps.eraseIdx i).flatMap (Pk.its C) ++ L)
/-- One thread's things in front. -/
def TL (C : Cf) (p cc m : Nat) (S : GS) (q : Pk) (R : List Item) : List Item :=
  LT (SP C q.X (vm p cc m) q.T (getL S.ml) S.G S.qc S.n) (LU (SR C q.X (vm p cc m) q.T S.FU S.ml) (boxI q.X.thr (thv q.X q.T) :: (q.ms ++ R)))
theorem idx_perm {α : Type} {q : α} : ∀ {l : List α} {i : Nat}, l[i]? = some q → l.Perm (q :: l.eraseIdx i)
  | [], _, h => by simp at h
  | a :: l, 0, h => by
    simp at h
    subst h
    exact List.Perm.refl _
  | a :: l, i + 1, h => by
    have h' : l[i]? = some q := by simpa using h
    exact ((idx_perm h').cons a).trans (List.Perm.swap _ _ _)
theorem EL_perm {C : Cf} {sl : Value} {p cc m : Nat} {S : GS} {L : List Item} {i : Nat} {q : Pk} (hi : S.ps[i]? = some q) : (EL C sl p cc m S L).Perm (TL C p cc m S q (RL C sl S i L)) := by
  have h := (idx_perm hi).flatMap_right (Pk.its C)
  refine perm_of fun z => ?_
  have hc := h.count_eq z
  simp only [EL, TL, RL, LT, LU, SP, SR, vm, Pk.its, List.flatMap_cons, List.count_cons, List.count_append] at hc ⊢
  omega
/-- What holds of a thread, of all. -/
structure OkP (C : Cf) (B : Nat) (q : Pk) (r : Rw) : Prop where
  (t : OkT C r.ds B q.T)
  (m : Mach C (r.ds.getD (q.T.nd - 1) default) q.X q.T q.ms)
  (dA : q.X.dA = r.A)
  (dn : q.X.dn = r.ds.length)
  (N : 0 ≤ q.X.N ∧ q.X.N ≤ 4000000)
structure OkR (w0 : World) (r : Rw) : Prop where
  (row : RowX encD 5 w0 r.A r.ds)
  (len : r.ds.length ≤ 40)
  (ins : ∀ d ∈ r.ds, InU d.key ∧ InU d.val)
structure GOk (C : Cf) (rs : List Rw) (B : Nat) (S : GS) : Prop where
  (f : OkF C (getL S.ml))
  (n : S.n ≤ B)
  (ml : S.ml.length ≤ B)
  (len : S.ps.length = rs.length)
  (ps : ∀ i, i < rs.length → ∃ q, S.ps[i]? = some q ∧ OkP C B q (rs.getD i default))
theorem OkP.more {C : Cf} {B : Nat} {q : Pk} {r : Rw} (h : OkP C B q r) : OkP C (B + 1) q r := { h with t := h.t.more }

section
variable {w0 w : World} {C : Cf} {sl : Value} {p cc m : Nat} {S : GS} {L : List Item} {rs : List Rw} {B : Nat}
theorem Env.toT {i : Nat} {q : Pk} (h : Env w0 (EL C sl p cc m S L) w) (hi : S.ps[i]? = some q) : Env w0 (TL C p cc m S q (RL C sl S i L)) w := h.perm (EL_perm hi)
theorem Env.toE {i : Nat} {q : Pk} (h : Env w0 (TL C p cc m S q (RL C sl S i L)) w) (hi : S.ps[i]? = some q) : Env w0 (EL C sl p cc m S L) w := h.perm (EL_perm hi).symm
set_option maxHeartbeats 1600000 in
theorem step_pk (hg : Glo w0) (hC : COk C) (hR : ∀ i, i < rs.length → OkR w0 (rs.getD i default)) (hS : GOk C rs B S) (hB : B + 1 ≤ 900000) {i : Nat} (hi : i < rs.length) {q : Pk} (hq : S.ps[i]? = some q) (hE : Env w0 (EL C sl p cc m S L) w) :
    Calls Tryz.prog 14 #[.pointer (some ⟨q.X.thr, 0, none⟩), .pointer (some ⟨p, 0, none⟩), .pointer (some ⟨m, 0, none⟩)] w fun o w' => o = .returned (.bool true) ∧ ∃ (S' : GS) (q' : Pk), S'.ps = S.ps.set i q' ∧ q'.X.thr = q.X.thr ∧ q'.X.dc = q.X.dc ∧ q'.T = (stepM C (rs.getD i default).ds q.T (getL S.ml)).1 ∧ getL S'.ml = (stepM C (rs.getD i default).ds q.T (getL S.ml)).2 ∧ GOk C rs (B + 1) S' ∧ Env w0 (EL C sl p cc m S' L) w' := by
  obtain ⟨q0, hq0, hP⟩ := hS.ps i hi
  obtain rfl : q0 = q := by rw [hq] at hq0; exact (Option.some.inj hq0).symm
  have hr := hR i hi
  have hE1 := hE.toT hq
  refine (step_t (X := q0.X) (V := vm p cc m) (T := q0.T) (G := S.G) (FU := S.FU) (qc := S.qc) (n := S.n) (ml := S.ml) (R := RL C sl S i L) (rs.getD i default).ds B q0.ms hg hC hS.f hP.t (by omega) (by rw [hP.dA]; exact hr.row) hP.dn (by have := hr.len; omega) hr.ins (by have := hS.n; unfold maxLen; omega) (by have := hS.ml; omega) hP.N hP.m hE1).mono ?_
  rintro o w' ⟨ho, X', G', FU', qc', n', ml', ms', hsame, hml', hl', hn', hN0, hN1, hM', hE'⟩
  obtain ⟨T', hT'⟩ : ∃ T', T' = (stepM C (rs.getD i default).ds q0.T (getL S.ml)).1 := ⟨_, rfl⟩
  rw [← hT'] at hM' hE'
  have hil : i < S.ps.length := by rw [hS.len]; exact hi
  have hq' : (S.ps.set i ⟨X', T', ms'⟩)[i]? = some ⟨X', T', ms'⟩ := by simp [hil]
  have hmap : (S.ps.set i ⟨X', T', ms'⟩).map (fun q => q.X.thr) = S.ps.map fun q => q.X.thr := by
    apply List.ext_getElem?
    intro k
    simp only [List.getElem?_map]
    by_cases hk : k = i
    · subst hk
      rw [hq', hq]
      simp only [Option.map_some]
      rw [hsame.1]
    · rw [List.getElem?_set_ne (fun e => hk e.symm)]
  have hE2 : Env w0 (EL C sl p cc m ⟨S.ps.set i ⟨X', T', ms'⟩, G', FU', qc', n', ml'⟩ L) w' := by
    refine Env.toE (i := i) (q := ⟨X', T', ms'⟩) ?_ hq'
    show Env w0 (LT _ (LU _ (_ :: (ms' ++ (tpsI sl ((S.ps.set i ⟨X', T', ms'⟩).map fun q => q.X.thr) :: (((S.ps.set i ⟨X', T', ms'⟩).eraseIdx i).flatMap (Pk.its C) ++ L)))))) w'
    rw [hmap, List.eraseIdx_set_eq]
    exact hE'
  have hu : ∀ x, InU ((stepM C (rs.getD i default).ds q0.T (getL S.ml)).2 x) := fun x => by
    rw [← hml']
    exact (hE'.cell 3 rfl).words.1 x
  have hok := step_ok hC hS.f hP.t hu
  refine ⟨ho, ⟨S.ps.set i ⟨X', T', ms'⟩, G', FU', qc', n', ml'⟩, ⟨X', T', ms'⟩, rfl, hsame.1, hsame.2.2.2.2.2.2, hT', hml', ⟨?_, ?_, ?_, ?_, ?_⟩, hE2⟩
  · show OkF C (getL ml')
    rw [hml']
    exact hok.1
  · have := hS.n
    show n' ≤ B + 1
    omega
  · have := hS.ml
    show ml'.length ≤ B + 1
    omega
  · show (S.ps.set i ⟨X', T', ms'⟩).length = rs.length
    rw [List.length_set]
    exact hS.len
  · intro k hk
    by_cases he : k = i
    · subst he
      exact ⟨_, hq', by show OkT C _ _ T'; rw [hT']; exact hok.2, by show Mach C _ X' T' ms'; exact hM', by show X'.dA = _; rw [hsame.2.2.2.2.1]; exact hP.dA, by show X'.dn = _; rw [hsame.2.2.2.2.2.1]; exact hP.dn, ⟨hN0, hN1⟩⟩
    · obtain ⟨q9, h1, h2⟩ := hS.ps k hk
      exact ⟨q9, by show (S.ps.set i _)[k]? = _; rw [List.getElem?_set_ne (fun e => he e.symm)]; exact h1, h2.more⟩
theorem same_pk (hS : GOk C rs B S) (hB : B ≤ 900000) {i : Nat} (hi : i < rs.length) {q : Pk} (hq : S.ps[i]? = some q) (hE : Env w0 (EL C sl p cc m S L) w) :
    Calls Tryz.prog 15 #[.pointer (some ⟨q.X.thr, 0, none⟩)] w fun o w' => o = .returned (.bool true) ∧ Env w0 (EL C sl p cc m S L) w' := by
  obtain ⟨q0, hq0, hP⟩ := hS.ps i hi
  obtain rfl : q0 = q := by rw [hq] at hq0; exact (Option.some.inj hq0).symm
  refine (same_t (X := q0.X) (V := vm p cc m) (T := q0.T) (f := getL S.ml) (G := S.G) (FU := S.FU) (qc := S.qc) (n := S.n) (ml := S.ml) (R := q0.ms ++ RL C sl S i L) (by have := hP.t.len; omega) (hE.toT hq)).mono ?_
  rintro o w' ⟨ho, hE'⟩
  exact ⟨ho, Env.toE hE' hq⟩
theorem T0_ok (hC : COk C) {ds : List Dd} (hd : ds.length ≤ B) : OkT C ds B T0 := by
  have hs := hC.s
  have hl := hC.l
  have hz : slotI 0 = 0 := by decide
  have hu0 : InU 0 := by unfold InU; omega
  exact { e := (by show (0 : Int) ≤ 0 ∧ (0 : Int) ≤ C.l; omega), w := ⟨hu0, hu0, hu0⟩, hs := (by show (0 : Int) ≤ 0 ∧ (0 : Int) ≤ C.s; omega), rs := (by show (0 : Int) ≤ 0 ∧ (0 : Int) ≤ C.s; omega), ql := (by intro x hx; cases hx), nd := Nat.zero_le _, len := (by show 0 + (ds.length - 0) ≤ B; omega), done := (by show (0 : Int) ≤ 0 ∧ (0 : Int) ≤ B; omega), pc := .inl rfl, p1 := fun h => no h rfl, nd1 := fun h => absurd rfl h, apc := fun h => no h rfl, low := fun h => no h rfl, adv := fun h => no h rfl, born := fun h => no h rfl, pool := fun h => no h rfl, an := (by show slotI 0 ≤ C.s; omega), rpc := fun h => no h rfl, rsp := fun h => no h rfl, re := (by show (0 : Int) ≤ 0 ∧ (0 : Int) ≤ C.l; omega), gpc := Nat.zero_le 3, give := fun h => no h rfl, ghu := hu0, gh := (by show slotI 0 ≤ C.s; omega), gv := fun h => no h rfl }
/-- The memory ahead of the first step. -/
def ml0 : List OneR := setL [] (1, 0, 0) 1
theorem start_ok (hC : COk C) (hR : ∀ i, i < rs.length → OkR w0 (rs.getD i default)) (hlen : S.ps.length = rs.length) (hps : ∀ i, i < rs.length → ∃ q, S.ps[i]? = some q ∧ New0 q (rs.getD i default)) (hml : S.ml = ml0) (hn : S.n ≤ 1) : GOk C rs 40 S := by
  have hs := hC.s
  have hl := hC.l
  have hz : slotI 0 = 0 := by decide
  have hg : ∀ x, getL S.ml x = if x = (1, 0, 0) then 1 else 0 := fun x => by
    rw [hml]
    show getL [((1, 0, 0), 1)] x = _
    simp only [getL]
    by_cases hx : x = (1, 0, 0)
    · rw [if_pos hx.symm, if_pos hx]
    · rw [if_neg (fun e => hx e.symm), if_neg hx]
  refine ⟨⟨fun x => ?_, ?_, fun i => ?_, ?_⟩, by omega, by rw [hml]; decide, hlen, fun i hi => ?_⟩
  · rw [hg]
    split <;> (unfold InU; omega)
  · rw [hg, if_neg (by decide)]; omega
  · rw [hg, if_neg (by simp)]; omega
  · rw [hg, if_pos rfl]; omega
  · obtain ⟨q, h1, h2, h3, h4, h5, h6⟩ := hps i hi
    refine ⟨q, h1, ?_, ?_, h2, h3, h6⟩
    · rw [h4]
      exact T0_ok hC (hR i hi).len
    · rw [h4, h5]
      unfold Mach T0
      dsimp only
      rw [if_neg (by decide), if_neg (by decide), if_neg (by decide)]
end
end Go.Proofs.YtmifdkbpbkafjaaGreatDoor

/- Threads among other boxes; a queue's head, whatever it is. -/
namespace Go.Proofs.YtmifdkbpbkafjaaGreatDoor
open Go.RowKit Go.Maps
set_option maxRecDepth 100000

section
variable {w0 w : World} {C : Cf} {sl : Value} {p cc m : Nat} {S : GS} {L : List Item} {a : Item}
theorem EL_cons : (a :: EL C sl p cc m S L).Perm (EL C sl p cc m S (a :: L)) := by
  refine perm_of fun z => ?_
  simp only [EL, List.count_cons, List.count_append]
  omega
theorem Env.inE (h : Env w0 (a :: EL C sl p cc m S L) w) : Env w0 (EL C sl p cc m S (a :: L)) w := h.perm EL_cons
theorem Env.outE (h : Env w0 (EL C sl p cc m S (a :: L)) w) : Env w0 (a :: EL C sl p cc m S L) w := h.perm EL_cons.symm
theorem Env.boxE {n : Nat} {vs : List Value} (h : Env w0 (EL C sl p cc m S L) w) (ha : boxI n vs ∈ L) : ∀ j, w.cell? ⟨n, j, none⟩ = vs[j]? :=
  Blk.rule ((h.2.2 (boxI n vs) (by simp [EL, ha])).1)
theorem Env.dropE (h : Env w0 (EL C sl p cc m S (a :: L)) w) : Env w0 (EL C sl p cc m S L) w := h.outE.sub (.cons _ (List.Sublist.refl _))
theorem head_q {w : World} {q k : Nat} {F : Nat → Prop} {l : List Trip} (hQ : IsQ w q F l k) :
    Calls Tryz.prog 21 #[.pointer (some ⟨q, 0, none⟩)] w fun e w' => e = .returned (.tuple #[.agg #[.int .i64 (l.headD t0).1, .int .i64 (l.headD t0).2.1, .int .i64 (l.headD t0).2.2], .bool (!l.isEmpty)]) ∧ Below w.heap.size w w' := by
  rcases l with _ | ⟨⟨x, y, z⟩, l⟩
  · exact headNone_any hQ
  · exact head_any x y z hQ
/-- What is read of a thread. -/
theorem Env.thrE {i : Nat} {q : Pk} (h : Env w0 (EL C sl p cc m S L) w) (hq : S.ps[i]? = some q) : ∀ j, w.cell? ⟨q.X.thr, j, none⟩ = (thv q.X q.T)[j]? := (h.toT hq).rule 7 rfl
theorem Env.coreE {i : Nat} {q : Pk} (h : Env w0 (EL C sl p cc m S L) w) (hq : S.ps[i]? = some q) : Blk 0 w q.X.c (crv C.k C.s C.b C.h C.l q.T.e q.X.cr q.T.hs 0 q.X.q) := (h.toT hq).get 0 rfl
theorem Env.queE {i : Nat} {q : Pk} (h : Env w0 (EL C sl p cc m S L) w) (hq : S.ps[i]? = some q) : IsQ w q.X.q q.X.F q.T.ql q.X.kq := (h.toT hq).queue 1 rfl
theorem peek_E (x y z : Int) (hx : Wf (x, y, z)) (h : Env w0 (EL C sl p cc m S L) w) :
    Calls Tryz.prog 23 #[.pointer (some ⟨p, 0, none⟩), .agg #[.int .i64 x, .int .i64 y, .int .i64 z]] w fun e w' => e = .returned (.int .u64 (getL S.ml (x, y, z))) ∧ Below w.heap.size w w' := peek_w x y z hx 1 2 h rfl rfl
end
end Go.Proofs.YtmifdkbpbkafjaaGreatDoor

/- An array of 64 marks in a block of the call's own. -/
namespace Go.Proofs.YtmifdkbpbkafjaaGreatDoor
open Go.RowKit
set_option maxRecDepth 100000

/-- 64 marks, none set. -/
def zero64 : Array Value := Array.replicate 64 (.bool false)
theorem build64 (w : World) : (Instr.build 117 #[]).run Tryz.prog w = .ok (.agg zero64) w := by kernel_rfl
theorem size64 : (Tryz.prog.info? 117).map (·.size) = some zero64.size := by kernel_rfl

/-- The marks of a block, as a function. -/
def Used (h : Nat) (w wr : World) (T : Nat → Bool) : Prop := (∀ i, i < 64 → wr.cell? ⟨h, i, none⟩ = some (.bool (T i)) ∧ wr.frozen? ⟨h, i, none⟩ = false) ∧ Below h w wr ∧ h < wr.heap.size
theorem Used.below {h : Nat} {w wr w1 : World} {T : Nat → Bool} (u : Used h w wr T) (hb : Below wr.heap.size wr w1) : Used h w w1 T := by
  obtain ⟨u1, u2, u3⟩ := u
  refine ⟨fun i hi => ?_, u2.trans (hb.mono (by omega)), by have := hb.size; omega⟩
  rw [hb.cell (p := ⟨h, i, none⟩) u3, hb.frozen (p := ⟨h, i, none⟩) u3]
  exact u1 i hi
theorem Used.store {h : Nat} {w wr : World} {T : Nat → Bool} (u : Used h w wr T) {j : Nat} (hj : j < 64) : Used h w (wr.setCell ⟨h, j, none⟩ (.bool true)) (fun i => T i || decide (i = j)) := by
  obtain ⟨u1, u2, u3⟩ := u
  refine ⟨fun i hi => ?_, u2.setCell (Nat.le_refl _) _, by simpa using u3⟩
  rw [World.frozen?_setCell]
  refine ⟨?_, (u1 i hi).2⟩
  by_cases hij : i = j
  · subst hij
    rw [World.cell?_setCell_same _ _ _ (u1 i hi).1]
    simp
  · rw [World.cell?_setCell_other _ _ _ _ (by first | (simp; done) | (simp; omega)), (u1 i hi).1]
    simp [hij]
theorem below_setCells {B : Nat} {a : World} {b : Nat} (hb : B ≤ b) : ∀ (vs : List Value) (o : Nat) (w : World), Below B a w → Below B a (w.setCells b o vs)
  | [], _, _, h => h
  | _ :: r, o, _, h => below_setCells hb r (o + 1) _ (h.setCell hb _)
theorem size_setCells (b : Nat) : ∀ (vs : List Value) (o : Nat) (w : World), (w.setCells b o vs).heap.size = w.heap.size
  | [], _, _ => rfl
  | _ :: r, o, w => by rw [World.setCells, size_setCells b r]; simp
theorem used_new (w : World) : Used w.heap.size w ((w.alloc (.cells zero64 117)).setCells w.heap.size 0 zero64.toList) (fun _ => false) := by
  have hg : (w.alloc (.cells zero64 117)).heap[w.heap.size]? = some (.cells zero64 117 (0, 0)) := heap_alloc_new w _
  have ht : (w.alloc (.cells zero64 117)).there w.heap.size 0 zero64.toList.length := fun j hj => by
    rw [Nat.zero_add]
    refine ⟨?_, frozen_of_row _ _ _ _ _ hg⟩
    rw [cell_of_row _ _ _ _ _ _ hg]
    have : j < zero64.size := by simpa using hj
    simp [this]
  refine ⟨fun i hi => ?_, below_setCells (Nat.le_refl _) _ _ _ ((Below.refl _ _).alloc (Nat.le_refl _) _), by rw [size_setCells]; simp⟩
  have h1 := World.rangeAt_setCells_same (w.alloc (.cells zero64 117)) w.heap.size 0 zero64.toList ht i (.bool false) (by unfold zero64; rw [Array.toList_replicate, List.getElem?_replicate]; simp only [hi, if_true])
  rw [Nat.zero_add] at h1
  refine ⟨h1, ?_⟩
  rw [World.frozen?_setCells]
  exact frozen_of_row _ _ _ _ _ hg

/-- 'used := [64]bool{}': one step of the walk. -/
theorem list_used {ops : Array Oper} {rest : List Oper} {o1 o2 o3 : Oper} {a : Act} {w : World} {Q : Exit → Act → World → Prop} (g1 : o1.guard = none) (g2 : o2.guard = none) (g3 : o3.guard = none)
    (h1 : o1.op = .build 117 #[]) (h2 : o2.op = .alloc 117) (x y : Operand) (h3 : o3.op = .store 117 x y)
    (hx : ((a.put o1.dst (.agg zero64)).put o2.dst (.pointer (some ⟨w.heap.size, 0, none⟩))).eval x = .pointer (some ⟨w.heap.size, 0, none⟩)) (hy : ((a.put o1.dst (.agg zero64)).put o2.dst (.pointer (some ⟨w.heap.size, 0, none⟩))).eval y = .agg zero64)
    (h : ∀ w2, Used w.heap.size w w2 (fun _ => false) → wpList Tryz.prog ops Q rest (((a.put o1.dst (.agg zero64)).put o2.dst (.pointer (some ⟨w.heap.size, 0, none⟩))).put o3.dst undef) w2) : wpList Tryz.prog ops Q (o1 :: o2 :: o3 :: rest) a w := by
  refine wpList_plain g1 fun K1 hK1 => ?_
  unfold Oper.wp
  have e1 : (execOp a.eval o1).run Tryz.prog w = .ok (.value (.agg zero64)) w := by
    have hb := build64 w
    unfold execOp
    simp only [h1]
    rw [Array.map_empty]
    simp [hb]
  rw [e1]
  refine hK1 _ _ ?_
  refine wpList_plain g2 fun K2 hK2 => ?_
  unfold Oper.wp
  have e2 : (execOp (a.put o1.dst (.agg zero64)).eval o2).run Tryz.prog w = .ok (.value (.pointer (some ⟨w.heap.size, 0, none⟩))) (w.alloc (.cells zero64 117)) := by
    unfold execOp
    simp only [h2]
    kernel_rfl
  rw [e2]
  refine hK2 _ _ ?_
  exact wpList_store_mid g3 117 x y h3 w.heap.size 0 zero64 hx hy (fun j hj => by
    have hg : (w.alloc (.cells zero64 117)).heap[w.heap.size]? = some (.cells zero64 117 (0, 0)) := heap_alloc_new w _
    rw [Nat.zero_add]
    refine ⟨?_, frozen_of_row _ _ _ _ _ hg⟩
    rw [cell_of_row _ _ _ _ _ _ hg]
    simp [hj]) size64 (by decide +kernel) (h _ (used_new w))

/-- The marks as a thing. -/
def usedI (B : Nat) (T : Nat → Bool) : Item where
  F := fun k => k = B
  says := fun w => B < w.heap.size ∧ ∀ i, i < 64 → w.cell? ⟨B, i, none⟩ = some (.bool (T i)) ∧ w.frozen? ⟨B, i, none⟩ = false
  loc := fun w1 w2 h hk hs => ⟨Nat.lt_of_lt_of_le h.1 hs, fun i hi => by
    have hb := hk B rfl
    obtain ⟨h1, h2⟩ := h.2 i hi
    exact ⟨by rw [World.cell?_of_block (w := w1) hb]; exact h1, by rw [World.frozen?_of_block (w := w1) hb]; exact h2⟩⟩
theorem Env.used {w0 w w' : World} {L : List Item} {T : Nat → Bool} (h : Env w0 L w) {B : Nat} (hB : w.heap.size = B) (hu : Used B w w' T) : Env w0 (usedI B T :: L) w' := by
  subst hB
  exact h.add (usedI w.heap.size T) hu.2.1 ⟨hu.2.2, hu.1⟩ fun k hk => by cases hk; exact ⟨Nat.le_refl _, hu.2.2⟩
theorem Env.mark {w0 w : World} {L : List Item} {B : Nat} {T : Nat → Bool} (h : Env w0 L w) (i : Nat) (hi : L[i]? = some (usedI B T)) {j : Nat} (hj : j < 64) : Env w0 (L.set i (usedI B (fun k => T k || decide (k = j)))) (w.setCell ⟨B, j, none⟩ (.bool true)) := by
  have hs : (usedI B T).says w := h.get i hi
  refine h.step i (usedI B (fun k => T k || decide (k = j))) hi ⟨(Turn.refl (fun k => k = B) w).setCell (p := ⟨B, j, none⟩) (fun _ => rfl) _, fun k hk => .inl hk⟩ ⟨by simpa using hs.1, fun k hk => ?_⟩ fun k hk => by
    have := h.lt i hi k hk
    simpa using this
  rw [World.frozen?_setCell]
  refine ⟨?_, (hs.2 k hk).2⟩
  by_cases hkj : k = j
  · subst hkj
    rw [World.cell?_setCell_same _ _ _ (hs.2 k hk).1]
    simp
  · rw [World.cell?_setCell_other _ _ _ _ (by first | (simp; done) | (simp; omega)), (hs.2 k hk).1]
    simp [hkj]
end Go.Proofs.YtmifdkbpbkafjaaGreatDoor

/- Threads: the contract of apart. -/
namespace Go.Proofs.YtmifdkbpbkafjaaGreatDoor
open Go.RowKit Go.Maps
set_option maxRecDepth 100000

/-- What a thread holds and has queued. -/
def hqP (q : Pk) : List Int := hq q.T.hs q.T.ql
theorem take_flat {α : Type} {β : Type} (g : α → List β) {l : List α} {i : Nat} {q : α} (hi : l[i]? = some q) : (l.take (i + 1)).flatMap g = (l.take i).flatMap g ++ g q := by
  rw [List.take_add_one, hi]
  simp
theorem tuple_in {α : Type} {l : List α} {i : Nat} {q : α} (h : l[i]? = some q) : q ∈ l := List.mem_of_getElem? h
theorem flat_take_len {α : Type} {β : Type} (g : α → List β) (l : List α) (i : Nat) : ((l.take i).flatMap g).length ≤ (l.flatMap g).length := by
  have : (l.flatMap g) = (l.take i).flatMap g ++ (l.drop i).flatMap g := by rw [← List.flatMap_append, List.take_append_drop]
  rw [this, List.length_append]
  omega

section
variable {w0 w : World} {C : Cf} {p cc m : Nat} {S : GS} {L : List Item} {rs : List Rw} {B g cp : Nat} {P : List Int}
set_option maxHeartbeats 6400000 in
theorem apart_t (hg : Glo w0) (hC : COk C) (hs40 : C.s ≤ 40) (hgo : GOk C rs B S) (hB : B ≤ 900000) (hlen4 : rs.length ≤ 4) (hpath : Path (getL S.ml) (slotI (getL S.ml (2, 0, 0))) P)
    (hnd : (S.ps.flatMap hqP ++ P).Nodup) (hin : ∀ x ∈ S.ps.flatMap hqP ++ P, 1 ≤ x ∧ x ≤ C.s) (hle : ((S.ps.flatMap hqP ++ P).length : Int) ≤ C.s) (hE : Env w0 (EL C (.slice (some ⟨g, 0, none⟩) rs.length cp) p cc m S L) w) :
    Calls Tryz.prog 18 #[.slice (some ⟨g, 0, none⟩) rs.length cp, .pointer (some ⟨p, 0, none⟩), .int .i64 C.s] w fun o w' => o = .returned (.tuple #[.int .i64 ((S.ps.flatMap hqP ++ P).length : Int), .bool true]) ∧ Env w0 (EL C (.slice (some ⟨g, 0, none⟩) rs.length cp) p cc m S L) w' := by
  have HE := Lib.hid hE
  have HG := Lib.hid hg
  have HND := Lib.hid hnd
  have HIN := Lib.hid hin
  have HLE := Lib.hid hle
  have HP := Lib.hid hpath
  have hl9 : (S.ps.flatMap hqP ++ P).length ≤ 40 := by omega
  have HC := Lib.hid hC
  obtain ⟨N, hN⟩ : ∃ N, (S.ps.flatMap hqP ++ P).length = N := ⟨_, rfl⟩
  rw [hN]
  have HN := Lib.hid hN
  clear hN
  clear hE hg hnd hin hle hpath hC
  go_enter Tryz.func18, Tryz.ntmps18
  go_wp2_with (first | (refine list_used rfl rfl rfl rfl rfl _ _ rfl rfl rfl ?_; intro w2 hu))
  have hE := (HE.out.used rfl hu).addEmpty w2.heap.size rfl
  generalize w.heap.size = B0 at *
  clear hu
  go_loopw [10, 11] (fun rv iv wr => ∃ (j : Nat) (zs : List Int) (g9 c9 : Nat), j ≤ rs.length ∧ iv = .int .i64 j ∧ rv = .slice (some ⟨g9, 0, none⟩) zs.length c9 ∧ zs = (S.ps.take j).flatMap hqP ∧ Env w0 (intsI (.slice (some ⟨g9, 0, none⟩) zs.length c9) zs :: usedI B0 (fun _ => false) :: EL C (.slice (some ⟨g, 0, none⟩) rs.length cp) p cc m S L) wr) (fun _ iv _ => rs.length - (intOf iv).toNat)
  case atStart => exact ⟨0, [], w2.heap.size, 0, Nat.zero_le _, rfl, rfl, rfl, hE⟩
  case round =>
    clear hE
    obtain ⟨j, zs, g9, c9, hj, rfl, rfl, hzs, hE⟩ := hrel
    have hzl : zs.length ≤ 40 := by
      have h1 := flat_take_len hqP S.ps j
      rw [← hzs] at h1
      rw [List.length_append] at hl9
      omega
    by_cases hlt : j < rs.length
    · have hb1 : decide ((j : Int) < (rs.length : Int)) = true := by simp; omega
      have hlti : (j : Int) < (rs.length : Int) := by omega
      obtain ⟨q, hq, hQ⟩ := hgo.ps j hlt
      have htq : wr.cell? ⟨g, j, none⟩ = some (.pointer (some ⟨q.X.thr, 0, none⟩)) := by
        have := hE.tpAt 2 rfl j (by rw [List.length_map, hgo.len]; exact hlt)
        rw [this]
        simp [List.getD_eq_getElem?_getD, hq]
      have hEL : Env w0 (EL C (.slice (some ⟨g, 0, none⟩) rs.length cp) p cc m S L) wr := hE.sub (.cons _ (.cons _ (List.Sublist.refl _)))
      have r7 := hEL.thrE hq
      unfold thv at r7
      have hqn := hQ.t.len
      have HZ := Lib.hid hzs
      have HQ := Lib.hid hQ
      clear hzs hQ
      go_wp2_with fail
      refine (held_c (hEL.coreE hq)).mono ?_
      rintro o w5 ⟨rfl, hb⟩
      replace hE := hE.over hb
      clear hb r7 hEL htq
      replace hE := hE.box w5.heap.size rfl [.int .i64 q.T.hs, .int .i64 0] 67
      have htq : (w5.alloc (.cells #[.int .i64 q.T.hs, .int .i64 0] 67)).cell? ⟨g, j, none⟩ = some (.pointer (some ⟨q.X.thr, 0, none⟩)) := by
        have := hE.tpAt 3 rfl j (by rw [List.length_map, hgo.len]; exact hlt)
        rw [this]
        simp [List.getD_eq_getElem?_getD, hq]
      have hEL : Env w0 (EL C (.slice (some ⟨g, 0, none⟩) rs.length cp) p cc m S L) _ := hE.sub (.cons _ (.cons _ (.cons _ (List.Sublist.refl _))))
      have r7 := hEL.thrE hq
      unfold thv at r7
      have r0 := hE.rule 0 rfl
      by_cases hz0 : q.T.hs = 0
      case' pos =>
        have hb2 : (q.T.hs != 0) = false := by simp [hz0]
        obtain ⟨zs7, hz7⟩ : ∃ zs7, zs7 = zs := ⟨_, rfl⟩
        have hz8 : zs7 = zs ++ (if q.T.hs = 0 then [] else [q.T.hs]) := by rw [if_pos hz0, hz7]; simp
        have HZ0 := Lib.hid hz0
        have HZ8 := Lib.hid hz8
        rw [← hz7] at hE
        have hln : zs.length = zs7.length := by rw [hz7]
        rw [hln]
        clear hz0 hz7 hz8 hln
        go_upto_region 10 with fail
        have hE6 := hE
        clear hE hEL r7 htq r0 hb2
        generalize w5.alloc _ = w6 at *
      case' neg =>
        have hb2 : (q.T.hs != 0) = true := by simp [hz0]
        obtain ⟨g6, c6, w6, hrun, hE6, -⟩ := hE.append1 1 rfl q.T.hs (by omega) (w5.heap.size + 1) (by simp)
        obtain ⟨zs7, hz7⟩ : ∃ zs7, zs7 = zs ++ [q.T.hs] := ⟨_, rfl⟩
        have hz8 : zs7 = zs ++ (if q.T.hs = 0 then [] else [q.T.hs]) := by rw [if_neg hz0, hz7]
        have hln : zs.length + 1 = zs7.length := by rw [hz7]; simp
        rw [hln] at hrun hE6
        rw [← hz7] at hE6
        simp only [List.set_cons_succ, List.set_cons_zero] at hE6
        have HRUN := Lib.hid hrun
        have HZ0 := Lib.hid hz0
        have HZ8 := Lib.hid hz8
        clear hrun hz0 hE hEL r7 htq hz7 hln hz8
        go_upto_region 10 with (first | (at_builtin; refine wpList_append_run rfl _ _ 25 rfl HRUN.out rfl rfl ?_))
        clear HRUN r0 hb2
      all_goals
        generalize w5.heap.size = Z at *
        have hEL : Env w0 (EL C (.slice (some ⟨g, 0, none⟩) rs.length cp) p cc m S L) w6 := hE6.sub (.cons _ (.cons _ (.cons _ (List.Sublist.refl _))))
        have htq : w6.cell? ⟨g, j, none⟩ = some (.pointer (some ⟨q.X.thr, 0, none⟩)) := by
          have := hE6.tpAt 3 rfl j (by rw [List.length_map, hgo.len]; exact hlt)
          rw [this]
          simp [List.getD_eq_getElem?_getD, hq]
        have r7 := hEL.thrE hq
        unfold thv at r7
        go_wp2_with fail
        refine (queue_c (hEL.coreE hq)).mono ?_
        rintro o w8 ⟨rfl, rfl⟩
        go_wp2_with fail
        refine (list_any (hEL.queE hq)).mono ?_
        rintro o w9 ⟨bL, rfl, hL, hbL, hb⟩
        replace hE6 := hE6.add (boxI bL (flat3 q.T.ql)) hb hL (fun y hy => by cases hy; exact ⟨hbL, hL.1⟩)
        clear hb hL hbL r7 htq hEL
        have hq8 : q.T.ql.length ≤ 900000 := by omega
        have hz9 : zs7.length ≤ 41 := by
          rw [HZ8.out, List.length_append]
          split <;> simp <;> omega
        go_wp2_with fail
        go_loopw [10, 15] (fun rv kv v => ∃ (z : Nat) (zs' : List Int) (g' c' : Nat), z ≤ q.T.ql.length ∧ kv = .int .i64 z ∧ rv = .slice (some ⟨g', 0, none⟩) zs'.length c' ∧ zs' = zs7 ++ (q.T.ql.take z).map (·.1) ∧ Env w0 (boxI bL (flat3 q.T.ql) :: boxI Z [.int .i64 q.T.hs, .int .i64 0] :: intsI (.slice (some ⟨g', 0, none⟩) zs'.length c') zs' :: usedI B0 (fun _ => false) :: EL C (.slice (some ⟨g, 0, none⟩) rs.length cp) p cc m S L) v) (fun _ kv _ => q.T.ql.length - (intOf kv).toNat)
        case atStart => exact ⟨0, zs7, _, _, Nat.zero_le _, rfl, by first | rfl | (rw [HZ8.out, if_pos HZ0.out]; simp; done) | (rw [HZ8.out, if_neg HZ0.out]; simp; done), by simp, hE6⟩
        case round =>
          clear hE6
          obtain ⟨z, zs', g', c', hz, rfl, rfl, hzz, hE⟩ := hrel
          by_cases hzl2 : z < q.T.ql.length
          · have hb3 : decide ((z : Int) < (q.T.ql.length : Int)) = true := by simp; omega
            have hz1 : (z : Int) < (q.T.ql.length : Int) := by omega
            obtain ⟨⟨ex, ey, ez⟩, he⟩ : ∃ t, q.T.ql.getD z t0 = t := ⟨_, rfl⟩
            have hzn : zs'.length ≤ 1000000 := by
              rw [hzz, List.length_append, List.length_map, List.length_take]
              omega
            have hcell : wr.cell? ⟨bL, z * 3, none⟩ = some (.int .i64 ex) := by
              have := (hE.rule 0 rfl (z * 3 + 0)).trans (flat3_get q.T.ql z 0 hzl2 (by omega))
              rw [he] at this
              simpa [enc3] using this
            obtain ⟨g6, c6, w10, hrun, hE6, -⟩ := hE.append1 2 rfl ex hzn _ rfl
            have hln : zs'.length + 1 = (zs' ++ [ex]).length := by simp
            rw [hln] at hrun hE6
            simp only [List.set_cons_succ, List.set_cons_zero] at hE6
            have HRUN := Lib.hid hrun
            have HZZ := Lib.hid hzz
            clear hrun hE hln hzz
            go_wp2_with (first | (at_builtin; refine wpList_append_run rfl _ _ 25 rfl HRUN.out rfl rfl ?_))
            refine ⟨⟨z + 1, zs' ++ [ex], g6, c6, by omega, by simp, by first | rfl | (simp; done), ?_, hE6⟩, by simp [intOf]; omega⟩
            rw [HZZ.out, List.take_add_one, List.getElem?_eq_getElem hzl2]
            have he2 : q.T.ql[z] = (ex, ey, ez) := by rw [← he]; simp [hzl2]
            simp [he2]
          · have hb3 : decide ((z : Int) < (q.T.ql.length : Int)) = false := by simp; omega
            have HZZ := Lib.hid hzz
            clear hzz
            go_wp2_with fail
            refine ⟨⟨j + 1, zs', g', c', by omega, by simp, rfl, ?_, hE.sub (.cons _ (.cons _ (List.Sublist.refl _)))⟩, by simp [intOf]; omega⟩
            rw [take_flat hqP hq, ← HZ.out, HZZ.out, HZ8.out, List.take_of_length_le (by omega), List.append_assoc]
            rfl
    · have hb1 : decide ((j : Int) < (rs.length : Int)) = false := by simp; omega
      have hjr : j = rs.length := by omega
      have hall : zs = S.ps.flatMap hqP := by rw [hzs, List.take_of_length_le (by rw [hgo.len]; omega)]
      have hfu : ∀ x, InU (getL S.ml x) := hgo.f.u
      rw [← hall] at hl9 HND HIN HLE HN
      clear hzs hall hlt
      obtain ⟨s0, hs0⟩ : ∃ s0, slotI (getL S.ml (2, 0, 0)) = s0 := ⟨_, rfl⟩
      have HS0 := Lib.hid hs0
      go_wp2_with fail
      refine (pool_any _).mono ?_
      rintro o w3 ⟨rfl, hb⟩
      replace hE := hE.over hb
      clear hb
      go_wp2_with fail
      refine (peek_E 2 0 0 (by unfold Wf In64; simp) (show Env w0 (EL C (.slice (some ⟨g, 0, none⟩) rs.length cp) p cc m S L) w3 from hE.sub (.cons _ (.cons _ (List.Sublist.refl _))))).mono ?_
      rintro o w4 ⟨rfl, hb⟩
      replace hE := hE.over hb
      clear hb
      go_wp2_with fail
      refine (slot_any _ _ (HG.out.keep' hE.below) (hfu _).1 (hfu _).2).mono ?_
      rintro o w5 ⟨rfl, hb⟩
      replace hE := hE.over hb
      clear hb
      rw [hs0]
      rw [hs0] at HP
      go_wp2_with fail
      clear hs0
      go_loopw [10, 16, 17] (fun rv sv iv v => ∃ (P1 P2 : List Int) (x : Int) (g' c' : Nat), P = P1 ++ P2 ∧ iv = .int .i64 (P1.length : Int) ∧ sv = .int .i64 x ∧ Path (getL S.ml) x P2 ∧ rv = .slice (some ⟨g', 0, none⟩) (zs ++ P1).length c' ∧ Env w0 (intsI (.slice (some ⟨g', 0, none⟩) (zs ++ P1).length c') (zs ++ P1) :: usedI B0 (fun _ => false) :: EL C (.slice (some ⟨g, 0, none⟩) rs.length cp) p cc m S L) v) (fun _ _ iv _ => 50 - (intOf iv).toNat)
      case atStart => exact ⟨[], P, s0, g9, c9, rfl, rfl, rfl, HP.out, by simp, by simpa using hE⟩
      case round =>
        clear hE
        obtain ⟨P1, P2, x, g', c', hPP, rfl, rfl, hp2, rfl, hE⟩ := hrel
        have HPP := Lib.hid hPP
        have hln9 : zs.length + P1.length + P2.length ≤ 40 := by
          rw [hPP, List.length_append, List.length_append] at hl9
          omega
        have hle1 : ((P1.length : Nat) : Int) ≤ C.s := by
          have := HLE.out
          rw [hPP, List.length_append, List.length_append] at this
          omega
        have hle2 : decide (((P1.length : Nat) : Int) ≤ C.s) = true := by simp [hle1]
        clear hPP
        rcases P2 with _ | ⟨y, P3⟩
        · have hx0 : x = 0 := hp2
          subst hx0
          have hP1 : P1 = P := by have := HPP.out; simp at this; exact this.symm
          subst hP1
          clear hp2 hle1
          go_wp2_with fail
          have hE2 := hE
          clear hE hle2
          obtain ⟨ys, hys⟩ : ∃ ys, zs ++ P1 = ys := ⟨_, rfl⟩
          rw [hys] at hE2 hl9 HND HIN HLE HN ⊢
          clear hys HPP hln9
          have hE3 : Env w0 (intsI (.slice (some ⟨g', 0, none⟩) ys.length c') ys :: usedI B0 (fun k => decide ((k : Int) ∈ ys.take 0)) :: EL C (.slice (some ⟨g, 0, none⟩) rs.length cp) p cc m S L) wr := by simpa using hE2
          clear hE2
          go_loopw [9, 18] (fun nv iv v => ∃ (j : Nat), j ≤ ys.length ∧ nv = .int .i64 (j : Int) ∧ iv = .int .i64 (j : Int) ∧ Env w0 (intsI (.slice (some ⟨g', 0, none⟩) ys.length c') ys :: usedI B0 (fun k => decide ((k : Int) ∈ ys.take j)) :: EL C (.slice (some ⟨g, 0, none⟩) rs.length cp) p cc m S L) v) (fun _ iv _ => ys.length - (intOf iv).toNat)
          case atStart => exact ⟨0, Nat.zero_le _, rfl, rfl, hE3⟩
          case round =>
            clear hE3
            obtain ⟨j, hj, rfl, rfl, hE⟩ := hrel
            by_cases hlt : j < ys.length
            · have hb1 : decide ((j : Int) < (ys.length : Int)) = true := by simp; omega
              have hlti : (j : Int) < (ys.length : Int) := by omega
              rcases hE.rowCells 0 rfl rfl with h0 | ⟨g2, hA, hgl, hc⟩
              · rw [h0] at hlt; simp at hlt
              cases hA
              have hx1 := hc j hlt
              have hym : ys.getD j 0 ∈ ys := by rw [List.getD_eq_getElem?_getD, List.getElem?_eq_getElem hlt]; exact List.getElem_mem hlt
              have hxin := HIN.out _ hym
              obtain ⟨xN, hxN⟩ : ∃ xN : Nat, ys.getD j 0 = (xN : Int) := ⟨(ys.getD j 0).toNat, by omega⟩
              have hyj : ys[j] = (xN : Int) := by rw [← hxN]; simp [hlt]
              have hni : (xN : Int) ∉ ys.take j := by
                have h1 : ys = ys.take j ++ ys[j] :: ys.drop (j + 1) := by rw [← List.drop_eq_getElem_cons hlt, List.take_append_drop]
                have h2 := HND.out
                rw [h1] at h2
                rw [← hyj]
                intro h3
                exact (List.nodup_append.1 h2).2.2 _ h3 _ (List.mem_cons_self) rfl
              rw [hxN] at hx1 hxin
              have hus := ((show (usedI B0 (fun k => decide ((k : Int) ∈ ys.take j))).says wr from hE.get 1 rfl).2 xN (by omega))
              dsimp only at hus
              rw [decide_eq_false hni] at hus
              obtain ⟨u1, u2⟩ := hus
              have d1 : decide ((xN : Int) < 1) = false := by simp; omega
              have d2 : decide (C.s < (xN : Int)) = false := by simp; omega
              have d3 : decide (63 < (xN : Int)) = false := by simp; omega
              have d4 : (xN : Int) < 64 := by omega
              have hE6 := hE.mark 1 rfl (j := xN) (by omega)
              simp only [List.set_cons_succ, List.set_cons_zero] at hE6
              have hTe : (fun k : Nat => decide ((k : Int) ∈ ys.take j) || decide (k = xN)) = fun k : Nat => decide ((k : Int) ∈ ys.take (j + 1)) := by
                funext k
                rw [List.take_add_one, List.getElem?_eq_getElem hlt, hyj]
                rw [Bool.eq_iff_iff]
                simp
                exact or_congr Iff.rfl ⟨fun h => by rw [h], fun h => by omega⟩
              rw [hTe] at hE6
              clear hTe hE hc hxin hyj hni hxN hym
              go_wp2_with fail
              exact ⟨⟨j + 1, by omega, by simp, by simp, hE6⟩, by simp [intOf]; omega⟩
            · have hb1 : decide ((j : Int) < (ys.length : Int)) = false := by simp; omega
              have hjy : j = N := by have := HN.out; omega
              subst hjy
              go_wp2_with fail
              exact bodyPost_ret (by simp [results, Tryz.results18, go_sem]) rfl ⟨rfl, hE.sub (.cons _ (.cons _ (List.Sublist.refl _)))⟩
        · obtain ⟨rfl, hx0, hp3⟩ := hp2
          have hxb : (y != 0) = true := by simp [hx0]
          have hyin : 1 ≤ y ∧ y ≤ C.s := HIN.out y (by rw [HPP.out]; simp)
          obtain ⟨g6, c6, w6, hrun, hE6, -⟩ := hE.append1 0 rfl y (by rw [List.length_append]; omega) _ rfl
          have hln : (zs ++ P1).length + 1 = (zs ++ (P1 ++ [y])).length := by simp; omega
          rw [hln] at hrun hE6
          simp only [List.set_cons_zero, List.append_assoc] at hE6
          have HRUN := Lib.hid hrun
          have HX0 := Lib.hid hx0
          clear hrun hE hln hx0 hle1
          go_wp2_with (first | (at_builtin; refine wpList_append_run rfl _ _ 25 rfl HRUN.out rfl rfl ?_))
          clear HRUN
          refine (placeOf_any _ _ _).mono ?_
          rintro o w7 ⟨rfl, hb⟩
          replace hE6 := hE6.over hb
          clear hb
          go_wp2_with fail
          refine (peek_E 5 y 2 (by have := HC.out.s; unfold Wf In64; dsimp only; omega) (show Env w0 (EL C (.slice (some ⟨g, 0, none⟩) rs.length cp) p cc m S L) w7 from hE6.sub (.cons _ (.cons _ (List.Sublist.refl _))))).mono ?_
          rintro o w8 ⟨rfl, hb⟩
          replace hE6 := hE6.over hb
          clear hb
          go_wp2_with fail
          refine (slot_any _ _ (HG.out.keep' hE6.below) (hfu _).1 (hfu _).2).mono ?_
          rintro o w9 ⟨rfl, hb⟩
          replace hE6 := hE6.over hb
          clear hb
          obtain ⟨x2, hx2⟩ : ∃ x2, slotI (getL S.ml (5, y, 2)) = x2 := ⟨_, rfl⟩
          rw [hx2] at hp3 ⊢
          clear hx2
          go_wp2_with fail
          exact ⟨⟨P1 ++ [y], P3, x2, g6, c6, by rw [HPP.out]; simp, by simp, rfl, hp3, by first | rfl | (simp; done), hE6⟩, by simp [intOf]; omega⟩
end
end Go.Proofs.YtmifdkbpbkafjaaGreatDoor

/- Threads, by plain mathematics: Full; how many slots are in hands or in the pool; the start. -/
namespace Go.Proofs.YtmifdkbpbkafjaaGreatDoor
open Go.RowKit Go.Maps
set_option maxRecDepth 100000

/-- Where a thread was told that there is none. -/
def TFu (C : Cf) (f : Mem) (T : Th) : Prop := T.full = true → C.s ≤ f (3, 0, 0) ∧ T.ql = [] ∧ T.hs = 0
theorem TFu.over {C : Cf} {f f' : Mem} {T : Th} (h : TFu C f T) (he : f (3, 0, 0) ≤ f' (3, 0, 0)) : TFu C f' T := fun hf => by
  obtain ⟨h1, h2⟩ := h hf
  exact ⟨by omega, h2⟩
theorem begin_full : ∀ (r : List Dd) (T : Th), (beginM r T).2.full = T.full ∧ (T.hs = 0 → (beginM r T).2.ql = T.ql)
  | [], T => ⟨rfl, fun _ => rfl⟩
  | d :: r, T => by
    unfold beginM
    split
    · split
      · exact ⟨rfl, fun _ => rfl⟩
      · exact begin_full r { T with nd := T.nd + 1 }
    · split
      · split
        · exact begin_full r { T with nd := T.nd + 1 }
        · exact ⟨rfl, fun _ => rfl⟩
      · split
        · exact ⟨rfl, fun _ => rfl⟩
        · split
          · split
            · exact begin_full r { T with nd := T.nd + 1 }
            · rename_i h
              exact ⟨(begin_full r { T with nd := T.nd + 1, ql := T.ql ++ [(T.hs, 0, 0)], hs := 0 }).1, fun h0 => absurd h0 h⟩
          · exact begin_full r { T with nd := T.nd + 1 }

section
variable {C : Cf} {ds : List Dd} {B : Nat} {T : Th} {f : Mem} {d : Dd}
theorem dec_no3 (ql : List Trip) (e l : Int) : (decS ql e l == 3) = false := by
  unfold decS
  split <;> decide
theorem last_no3 (k n : Nat) : (lastS k n == 3) = false := by
  unfold lastS
  split <;> decide
theorem act_full (hT : OkT C ds B T) (hI : TIn C f T) (hp : T.pc ≠ 0) : TFu C (actM C d T f).2 (actM C d T f).1 := by
  rcases hT.pc with h | h | h | h | h
  · exact absurd h hp
  · unfold actM
    rw [if_pos h]
    exact fun h => Bool.noConfusion h
  · rw [al_cases C d T f h]
    rcases alloc_cases C d T f (hT.apc h) with ⟨ha, he⟩ | ⟨ha, hx, he⟩ | ⟨ha, hx, he⟩ | ⟨ha, he⟩ | ⟨ha, he⟩ | ⟨ha, he⟩ | ⟨ha, hx, he⟩ | ⟨ha, hx, he⟩ | ⟨ha, he⟩ | ⟨ha, p, v, hp2, he⟩ <;> rw [he]
    · exact fun h => Bool.noConfusion h
    · exact fun h => Bool.noConfusion h
    · intro h9
      have h9 : (decS (T.ql ++ [(f (3, 0, 0) + 1, 0, 0)]) T.e C.l == 3) = true := h9
      rw [dec_no3] at h9
      cases h9
    · exact fun _ => ⟨hI.fresh h (by omega) (by omega), hI.noq h (by omega) (by omega), hT.low h (by omega)⟩
    · exact fun h => Bool.noConfusion h
    · exact fun h => Bool.noConfusion h
    · intro h9
      have h9 : (decS (T.ql ++ [(slotI T.ah, epI T.ar, 0)]) T.e C.l == 3) = true := h9
      rw [dec_no3] at h9
      cases h9
    · exact fun h => Bool.noConfusion h
    · intro h9
      have h9 : (lastS 0 (wordsA C.k T.e d.key d.val (IntKind.u64.wrap d.lv)).length == 3) = true := h9
      rw [last_no3] at h9
      cases h9
    · intro h9
      have h9 : (lastS (T.apc - 10) (wordsA C.k T.e d.key d.val (IntKind.u64.wrap d.lv)).length == 3) = true := h9
      rw [last_no3] at h9
      cases h9
  · unfold actM
    rw [if_neg (by omega), if_neg (by omega), if_pos h]
    exact fun h => Bool.noConfusion h
  · unfold actM
    rw [if_neg (by omega), if_neg (by omega), if_neg (by omega)]
    exact fun h => Bool.noConfusion h
theorem step_full (hT : OkT C ds B T) (hI : TIn C f T) (hf : TFu C f T) : TFu C (stepM C ds T f).2 (stepM C ds T f).1 := by
  unfold stepM
  by_cases hp : T.pc = 0
  · rw [if_pos hp]
    obtain ⟨h1, h2, h3⟩ := begin_ok 0 (ds.drop T.nd) T rfl hT hp
    have hb4 := begin_four (ds.drop T.nd) T hp
    dsimp only at h1 h2 h3 ⊢
    by_cases hb : (beginM (ds.drop T.nd) T).1 = true
    · rw [if_pos hb]
      have h4 := h3 hb
      have hI1 : TIn C f (beginM (ds.drop T.nd) T).2 := ⟨fun h => by omega, fun h => by omega, fun h => by omega, fun h => by omega, fun h h5 => by have := hb4 h; omega⟩
      exact act_full h1 hI1 (by omega)
    · rw [if_neg hb]
      intro h9
      have hbf := begin_full (ds.drop T.nd) T
      have h9 : (beginM (ds.drop T.nd) T).2.full = true := h9
      rw [hbf.1] at h9
      obtain ⟨g1, g2, g3⟩ := hf h9
      exact ⟨g1, by show (beginM (ds.drop T.nd) T).2.ql = []; rw [hbf.2 g3]; exact g2, begin_hs _ T g3⟩
  · rw [if_neg hp]
    exact act_full hT hI hp
end

/-- All that the law asks, together. -/
structure Ap (C : Cf) (S : GS) (P : List Int) (B : Nat) : Prop where
  (apt : Apt C (getL S.ml) (S.ps.map Pk.T) P)
  (fb : getL S.ml (3, 0, 0) ≤ (B : Int))
  (full : ∀ (i : Nat) (q : Pk), S.ps[i]? = some q → TFu C (getL S.ml) q.T)
/-- Who is being retired. -/
def rsP (q : Pk) : List Int := if q.T.pc = 3 then [q.T.rs] else []
theorem flat_hold : ∀ (ps : List Pk) (z : Int), ((ps.map Pk.T).flatMap holdT).count z = (ps.flatMap hqP).count z + (ps.flatMap rsP).count z
  | [], _ => rfl
  | q :: ps, z => by
    have ih := flat_hold ps z
    simp only [List.map_cons, List.flatMap_cons, List.count_append, holdT, ih]
    unfold hqP rsP
    omega
theorem Ap.row {C : Cf} {S : GS} {P : List Int} {B : Nat} (h : Ap C S P B) : ((S.ps.flatMap hqP ++ P) ++ S.ps.flatMap rsP).Perm (rng (circ C (getL S.ml))) := by
  refine List.Perm.trans ?_ h.apt.perm
  refine List.perm_iff_count.2 fun z => ?_
  have := flat_hold S.ps z
  simp only [List.count_append] at this ⊢
  omega
theorem circ_in {C : Cf} {f : Mem} (hs : 1 ≤ C.s) (h0 : 0 ≤ f (3, 0, 0)) : 0 ≤ circ C f ∧ circ C f ≤ C.s := by
  unfold circ
  split <;> omega
theorem Ap.facts {C : Cf} {S : GS} {P : List Int} {B : Nat} (h : Ap C S P B) (hC : COk C) (hF : OkF C (getL S.ml)) :
    (S.ps.flatMap hqP ++ P).Nodup ∧ (∀ x ∈ S.ps.flatMap hqP ++ P, 1 ≤ x ∧ x ≤ C.s) ∧ ((S.ps.flatMap hqP ++ P).length : Int) ≤ C.s ∧ ((S.ps.flatMap hqP ++ P).length : Int) + ((S.ps.flatMap rsP).length : Int) = circ C (getL S.ml) := by
  have hr := h.row
  obtain ⟨c0, c1⟩ := circ_in (f := getL S.ml) hC.s.1 (hF.u _).1
  have hnd := hr.nodup_iff.2 (rng_nodup _)
  have hln : ((S.ps.flatMap hqP ++ P).length : Int) + ((S.ps.flatMap rsP).length : Int) = circ C (getL S.ml) := by
    have := hr.length_eq
    have h2 := rng_len c0
    rw [List.length_append] at this
    omega
  refine ⟨(List.nodup_append.1 hnd).1, fun x hx => ?_, by omega, hln⟩
  have := mem_rng.1 (hr.mem_iff.1 (List.mem_append_left _ hx))
  omega
theorem Ap.step {C : Cf} {S S' : GS} {P : List Int} {rs : List Rw} {B : Nat} {i : Nat} {q q' : Pk} (h : Ap C S P B) (hC : COk C) (hS : GOk C rs (40 + B) S) (hB : B ≤ 400000) (hi : i < rs.length) (hq : S.ps[i]? = some q)
    (hps : S'.ps = S.ps.set i q') (hT' : q'.T = (stepM C (rs.getD i default).ds q.T (getL S.ml)).1) (hml : getL S'.ml = (stepM C (rs.getD i default).ds q.T (getL S.ml)).2) : ∃ P', Ap C S' P' (B + 1) := by
  obtain ⟨q0, hq0, hQ⟩ := hS.ps i hi
  obtain rfl : q0 = q := by rw [hq] at hq0; exact (Option.some.inj hq0).symm
  have hlen := hS.len
  have hO : ∀ T ∈ S.ps.map Pk.T, ∃ ds, OkT C ds (40 + B) T := fun T hT => by
    obtain ⟨q9, h9, rfl⟩ := List.mem_map.1 hT
    obtain ⟨k, hk⟩ := List.getElem?_of_mem h9
    have hkl : k < rs.length := by rw [← hlen]; exact (List.getElem?_eq_some_iff.1 hk).1
    obtain ⟨q8, h8, h7⟩ := hS.ps k hkl
    rw [hk] at h8
    obtain rfl := Option.some.inj h8
    exact ⟨_, h7.t⟩
  have hfb := h.fb
  have hi2 : (S.ps.map Pk.T)[i]? = some q0.T := by rw [List.getElem?_map, hq]; rfl
  obtain ⟨P', g1, g2⟩ := h.apt.step hC hS.f hO hi2 hQ.t (by omega)
  have hil : i < S.ps.length := (List.getElem?_eq_some_iff.1 hq).1
  refine ⟨P', ?_, ?_, fun k q2 hk => ?_⟩
  · rw [hml, hps, List.map_set, hT']
    exact g1
  · rw [hml]
    omega
  · rw [hps] at hk
    by_cases he : i = k
    · subst he
      simp [hil] at hk
      subst hk
      rw [hml, hT']
      exact step_full hQ.t (h.apt.ins _ (List.mem_of_getElem? hi2)) (h.full i q0 hq)
    · rw [List.getElem?_set_ne he] at hk
      rw [hml]
      refine (h.full k q2 hk).over ?_
      obtain ⟨P2, -, -, e1, -⟩ := step_hold hC hS.f hQ.t (h.apt.ins _ (List.mem_of_getElem? hi2)) (by omega) h.apt.path (fun x hx hx2 => by
        have hnd := h.apt.perm.nodup_iff.2 (rng_nodup _)
        exact (List.nodup_append.1 hnd).2.2 x (List.mem_flatMap.2 ⟨_, List.mem_of_getElem? hi2, hx⟩) x hx2 rfl)
      exact e1.fresh.1
theorem Ap.start {C : Cf} {S : GS} {rs : List Rw} (hC : COk C) (hml : S.ml = ml0) (hlen : S.ps.length = rs.length) (hps : ∀ i, i < rs.length → ∃ q, S.ps[i]? = some q ∧ New0 q (rs.getD i default)) : Ap C S [] 0 := by
  have hg : ∀ x, x ≠ (1, 0, 0) → getL S.ml x = 0 := fun x hx => by
    rw [hml]
    show getL [((1, 0, 0), 1)] x = _
    simp only [getL]
    rw [if_neg (fun e => hx e.symm)]
  have h0 : ∀ q ∈ S.ps, q.T = T0 := fun q hq => by
    obtain ⟨k, hk⟩ := List.getElem?_of_mem hq
    have hkl : k < rs.length := by rw [← hlen]; exact (List.getElem?_eq_some_iff.1 hk).1
    obtain ⟨q8, h8, h7⟩ := hps k hkl
    rw [hk] at h8
    obtain rfl := Option.some.inj h8
    exact h7.2.2.1
  have hT : ∀ T ∈ S.ps.map Pk.T, T = T0 := fun T hT => by
    obtain ⟨q9, h9, rfl⟩ := List.mem_map.1 hT
    exact h0 q9 h9
  have hs := hC.s
  have hc : circ C (getL S.ml) = 0 := by
    unfold circ
    rw [hg (3, 0, 0) (by decide), if_pos (by omega)]
  have hz : slotI 0 = 0 := by decide
  refine ⟨⟨?_, ?_, fun T hT9 => ?_⟩, by rw [hg (3, 0, 0) (by decide)]; omega, fun i q hi => ?_⟩
  · rw [hg (2, 0, 0) (by decide), hz]
    rfl
  · rw [hc]
    have : (S.ps.map Pk.T).flatMap holdT = [] := List.flatMap_eq_nil_iff.2 fun T hT9 => by rw [hT T hT9]; rfl
    rw [this]
    exact List.Perm.refl _
  · rw [hT T hT9]
    exact ⟨fun h => no h rfl, fun h => no h rfl, fun h => no h rfl, fun h => no h rfl, fun h => no h rfl⟩
  · rw [h0 q (List.mem_of_getElem? hi)]
    exact fun h => Bool.noConfusion h
/-- Who is told Full, and how many there are. -/
theorem Ap.told {C : Cf} {S : GS} {P : List Int} {B : Nat} {i : Nat} {q : Pk} (h : Ap C S P B) (hq : S.ps[i]? = some q) (hf : q.T.full = true) : circ C (getL S.ml) = C.s ∧ q.T.ql = [] := by
  obtain ⟨h1, h2, h3⟩ := h.full i q hq hf
  refine ⟨?_, h2⟩
  unfold circ
  split <;> omega
end Go.Proofs.YtmifdkbpbkafjaaGreatDoor

/- The contract of small: at most 40 slots. -/
namespace Go.Proofs.YtmifdkbpbkafjaaGreatDoor
open Go.RowKit Go.Maps
set_option maxRecDepth 100000

def smI (s : Int) : Int := wrap64 (1 + wrap64 ((IntKind.u64.wrap s).tmod 40))
theorem smI_in (s : Int) : 1 ≤ smI s ∧ smI s ≤ 40 := by
  obtain ⟨r, h1, h2, h3⟩ := cut_u1 s 40 (by decide) (by decide)
  unfold smI
  rw [h1]
  exact ⟨h2, h3⟩
set_option maxHeartbeats 1600000 in
theorem small_t (k s b h l : Int) (w : World) : Calls Tryz.prog 17 #[.agg #[.int .i64 k, .int .i64 s, .int .i64 b, .int .i64 h, .int .i64 l]] w fun o w' => o = .returned (.agg #[.int .i64 k, .int .i64 (smI s), .int .i64 b, .int .i64 h, .int .i64 l]) ∧ Below w.heap.size w w' := by
  have hE := (Env.start w).box w.heap.size rfl [.int .i64 k, .int .i64 s, .int .i64 b, .int .i64 h, .int .i64 l] 23
  have hE2 := hE.box (w.heap.size + 1) (by simp) [.int .i64 0, .int .i64 0, .int .i64 0, .int .i64 0, .int .i64 0] 23
  have r0 := hE2.rule 1 rfl
  have f0 := hE2.thaw 1 rfl 1 (by simp)
  go_enter Tryz.func17, Tryz.ntmps17
  go_wp2_with fail
  exact bodyPost_ret (v := .agg #[.int .i64 k, .int .i64 (smI s), .int .i64 b, .int .i64 h, .int .i64 l]) (by simp [results, Tryz.results17, go_sem, smI]) rfl ⟨rfl, ((Below.refl _ _).alloc (Nat.le_refl _) _).alloc (by simp) _⟩
end Go.Proofs.YtmifdkbpbkafjaaGreatDoor

/- Whatever comes to numbers, bools, structs and rows of such: what its cells hold, rows within rows too. General. -/
namespace Go.Proofs.YtmifdkbpbkafjaaGreatDoor
open Go.RowKit Go.WideShapes Go.ChangeShapes Go.ChangeAt Go.Deep
set_option maxRecDepth 100000

/-- Types that this reads. -/
def plainT (P : Program) : Nat → TypeId → Bool
  | 0, _ => false
  | d + 1, t =>
    match P.underlying t with
    | some .bool => true
    | some (.int _) => true
    | some (.struct fs) => fs.toList.all fun f => plainT P d f.type
    | some (.slice e) => plainT P d e && decide (0 < P.cellsOf e)
    | _ => false
/-- The cells cs are a value of type t, and so is whatever they lead to. -/
def Good (P : Program) (w : World) : Nat → TypeId → List Value → Prop
  | 0, _, _ => False
  | d + 1, t, cs =>
    match P.underlying t with
    | some .bool => ∃ b, cs = [.bool b]
    | some (.int k) => ∃ n, cs = [.int k n] ∧ (Lit.int k n).wf = true
    | some (.struct fs) => cs.length = P.cellsOf t ∧ ∀ f ∈ fs.toList, Good P w d f.type ((cs.drop f.offset).take (P.cellsOf f.type))
    | some (.slice e) => ∃ A len cap, cs = [.slice A len cap] ∧ len ≤ maxLen ∧ (len = 0 ∨ ∃ b off, A = some ⟨b, off, none⟩ ∧ b < w.heap.size ∧ ∀ i, i < len → ∃ us : List Value, us.length = P.cellsOf e ∧ CellsAt w b (off + i * P.cellsOf e) us ∧ Good P w d e us)
    | _ => False

section
variable {H : Type} {enc : TypeId × Value → H} {P : Program} {w : World} {held : Bool}
theorem good_of_trod : ∀ (d : Nat) {t : TypeId} {fuel : Nat} {cs : List Value} {x : DataW H × List MemPlace}, plainT P d t = true → DataW.trod enc P w 0 (fun _ => true) held fuel t cs = some x → (∀ p ∈ x.2, p.block < w.heap.size) → Good P w d t cs
  | 0, _, _, _, _, h, _, _ => by simp [plainT] at h
  | d + 1, t, fuel, cs, x, h, hx, hlt => by
    unfold plainT at h
    unfold Good
    split at h
    · rename_i hu
      obtain ⟨b, rfl, _⟩ := DataW.trod_bool hu hx
      try rw [hu]
      exact ⟨b, rfl⟩
    · rename_i k hu
      obtain ⟨n, rfl, _, hw⟩ := DataW.trod_int hu hx
      try rw [hu]
      exact ⟨n, rfl, hw⟩
    · rename_i fs hu
      obtain ⟨xs, n, _, rfl, hl, hlen, hall⟩ := DataW.trod_struct hu hx
      try rw [hu]
      refine ⟨hl, fun f hf => ?_⟩
      obtain ⟨i, hi, he⟩ := List.getElem_of_mem hf
      have hi' : i < fs.size := by simpa using hi
      have h1 := hall i f (by simp [hi']; simpa using he)
      have hix : i < xs.length := by omega
      rw [List.getElem?_eq_getElem hix] at h1
      exact good_of_trod d (List.all_eq_true.1 h f hf) h1 fun p hp => hlt p (List.mem_flatMap.2 ⟨xs[i], List.getElem_mem hix, hp⟩)
    · rename_i e hu
      rw [Bool.and_eq_true, decide_eq_true_iff] at h
      obtain ⟨h1, h0⟩ := h
      try rw [hu]
      rcases open_slice hu hx with ⟨rfl, _⟩ | ⟨a, len, cap, m, n, D, Pl, rfl, _, hl, hm, hmm, rfl, hall⟩
      · exact ⟨none, 0, 0, rfl, Nat.zero_le _, .inl rfl⟩
      · simp only [if_true] at hmm
        subst hmm
        refine ⟨some a, len, m, rfl, by omega, ?_⟩
        by_cases hz : len = 0
        · exact .inl hz
        · right
          have each : ∀ i, i < m → ∃ us : List Value, us.length = P.cellsOf e ∧ (∀ j v, us[j]? = some v → w.cell? (a.add (i * P.cellsOf e + j)) = some v) ∧ Good P w d e us := fun i hi => by
            obtain ⟨cs', h2, h3⟩ := hall i hi
            obtain ⟨_, hlen, hcell⟩ := World.cells?_some h2
            refine ⟨cs', hlen, fun j v hj => ?_, good_of_trod d h1 h3 fun p hp => hlt p (List.mem_append_right _ (List.mem_flatMap.2 ⟨i, by simpa using hi, hp⟩))⟩
            have hjl : j < P.cellsOf e := by have := (List.getElem?_eq_some_iff.1 hj).1; omega
            have := hcell j hjl
            rw [add_add, hj] at this
            exact this
          obtain ⟨b, off, spot⟩ := a
          have hspot : spot = none := by
            obtain ⟨us, hl', hc, _⟩ := each 0 (by omega)
            have := hc 0 (us[0]'(by omega)) (by simp)
            simpa [Addr.add] using World.cell?_spot this
          subst hspot
          refine ⟨b, off, rfl, hlt (.cell b off) (List.mem_append_left _ (MemPlace.mem_row.2 ⟨0, Nat.mul_pos (by omega) h0, by simp⟩)), fun i hi => ?_⟩
          obtain ⟨us, h4, h5, h6⟩ := each i (by omega)
          refine ⟨us, h4, fun j v hj => ?_, h6⟩
          have := h5 j v hj
          rw [add_plain] at this
          rw [Nat.add_assoc]; exact this
    · cases h
end

/-- A row within: its elements, decoded. -/
theorem Good.row {α : Type} [Inhabited α] {enc : α → List Value} {Ok : α → Prop} {P : Program} {w : World} {t e : TypeId} {d : Nat} {cs : List Value} (ht : P.underlying t = some (.slice e)) (h : Good P w (d + 1) t cs)
    (hdec : ∀ us, us.length = P.cellsOf e → Good P w d e us → ∃ r : α, enc r = us ∧ Ok r) :
    ∃ A cap, ∃ xs : List α, cs = [.slice A xs.length cap] ∧ xs.length ≤ maxLen ∧ (∀ r ∈ xs, Ok r) ∧ RowX enc (P.cellsOf e) w A xs := by
  unfold Good at h
  rw [ht] at h
  obtain ⟨A, len, cap, rfl, hm, hz | ⟨b, off, rfl, hb, hall⟩⟩ := h
  · subst hz
    exact ⟨A, cap, [], rfl, hm, by simp, .inl rfl⟩
  · have each : ∀ i, i < len → ∃ r : α, CellsAt w b (off + i * P.cellsOf e) (enc r) ∧ Ok r := fun i hi => by
      obtain ⟨us, h1, h2, h3⟩ := hall i hi
      obtain ⟨r, rfl, hr⟩ := hdec us h1 h3
      exact ⟨r, h2, hr⟩
    obtain ⟨f, hf⟩ := choose_lt each
    refine ⟨some ⟨b, off, none⟩, cap, (List.range len).map f, by simp, by simpa using hm, fun r hr => ?_, ?_⟩
    · obtain ⟨i, hi, rfl⟩ := List.mem_map.1 hr
      exact (hf i (by simpa using hi)).2
    · refine .inr ⟨b, off, rfl, hb, fun i hi => ?_⟩
      have hi' : i < len := by simpa using hi
      have e : ((List.range len).map f).getD i default = f i := by simp [hi']
      rw [e]
      exact (hf i hi').1
/-- A row that came in, whatever its elements lead to. -/
theorem open_rowG {α : Type} [Inhabited α] {enc : α → List Value} {Ok : α → Prop} {P : Program} {H : Type} {en : TypeId × Value → H} {W : World} {t e : TypeId} {d : Nat} {A : Option Addr} {len cap : Nat} {dt : DataW H} {p : List MemPlace}
    (ht : P.underlying t = some (.slice e)) (hpl : plainT P (d + 1) t = true)
    (hdec : ∀ us, us.length = P.cellsOf e → Good P W d e us → ∃ r : α, enc r = us ∧ Ok r)
    (h : DataW.Trod en P W 0 (fun _ => true) true t (.slice A len cap) dt p) (hlt : ∀ x ∈ p, x.block < W.heap.size) :
    ∃ xs : List α, xs.length = len ∧ len ≤ maxLen ∧ (∀ r ∈ xs, Ok r) ∧ RowX enc (P.cellsOf e) W A xs := by
  obtain ⟨fuel, hf⟩ := h
  have hg := good_of_trod (d + 1) hpl hf hlt
  obtain ⟨A', cap', xs, he, h1, h2, h3⟩ := hg.row ht hdec
  simp only [Value.cells, List.cons.injEq, Value.slice.injEq, and_true] at he
  obtain ⟨rfl, rfl, rfl⟩ := he
  exact ⟨xs, rfl, h1, h2, h3⟩
/-- A number, a bool within. -/
theorem Good.int {P : Program} {w : World} {t : TypeId} {k : IntKind} {d : Nat} {cs : List Value} (ht : P.underlying t = some (.int k)) (h : Good P w (d + 1) t cs) : ∃ n, cs = [.int k n] ∧ (Lit.int k n).wf = true := by
  unfold Good at h; rw [ht] at h; exact h
theorem Good.bool {P : Program} {w : World} {t : TypeId} {d : Nat} {cs : List Value} (ht : P.underlying t = some .bool) (h : Good P w (d + 1) t cs) : ∃ b, cs = [.bool b] := by
  unfold Good at h; rw [ht] at h; exact h
theorem Good.struct {P : Program} {w : World} {t : TypeId} {fs : Array Field} {d : Nat} {cs : List Value} (ht : P.underlying t = some (.struct fs)) (h : Good P w (d + 1) t cs) : cs.length = P.cellsOf t ∧ ∀ f ∈ fs.toList, Good P w d f.type ((cs.drop f.offset).take (P.cellsOf f.type)) := by
  unfold Good at h; rw [ht] at h; exact h
end Go.Proofs.YtmifdkbpbkafjaaGreatDoor

/- Rows of rows of deeds that came in. -/
namespace Go.Proofs.YtmifdkbpbkafjaaGreatDoor
open Go.RowKit Go.Maps Go.Deep
set_option maxRecDepth 100000

def OkRw (W : World) (r : Rw) : Prop := r.ds.length ≤ maxLen ∧ (∀ d ∈ r.ds, InU d.key ∧ InU d.val) ∧ RowX encD 5 W r.A r.ds
theorem cellsIntA : Tryz.prog.cellsOf 3 = 1 := by kernel_rfl
theorem cellsU64A : Tryz.prog.cellsOf 39 = 1 := by kernel_rfl
theorem cellsOpA : Tryz.prog.cellsOf 75 = 4 := by kernel_rfl
theorem cellsDdA : Tryz.prog.cellsOf 77 = 5 := by kernel_rfl
theorem cellsRwA : Tryz.prog.cellsOf 50 = 1 := by kernel_rfl
theorem dec_Dd (W : World) (us : List Value) (hl : us.length = Tryz.prog.cellsOf 77) (h : Good Tryz.prog W 5 77 us) : ∃ r : Dd, encD r = us ∧ (InU r.key ∧ InU r.val) := by
  rw [cellsDdA] at hl
  match us, hl with
  | [u0, u1, u2, u3, u4], _ =>
    obtain ⟨_, hf⟩ := Good.struct Tryz.underlying77 h
    have h0 := hf _ (List.Mem.head _)
    have h1 := hf _ (List.Mem.tail _ (List.Mem.head _))
    simp only [cellsIntA, cellsOpA, List.drop_zero, List.drop_succ_cons, List.take_succ_cons, List.take_zero] at h0 h1
    obtain ⟨_, hg⟩ := Good.struct Tryz.underlying75 h1
    have g0 := hg _ (List.Mem.head _)
    have g1 := hg _ (List.Mem.tail _ (List.Mem.head _))
    have g2 := hg _ (List.Mem.tail _ (List.Mem.tail _ (List.Mem.head _)))
    have g3 := hg _ (List.Mem.tail _ (List.Mem.tail _ (List.Mem.tail _ (List.Mem.head _))))
    simp only [cellsIntA, cellsU64A, List.drop_zero, List.drop_succ_cons, List.take_succ_cons, List.take_zero] at g0 g1 g2 g3
    obtain ⟨n0, e0, _⟩ := Good.int Tryz.underlying3 h0
    obtain ⟨n1, e1, _⟩ := Good.int Tryz.underlying3 g0
    obtain ⟨n2, e2, w2⟩ := Good.int Tryz.underlying39 g1
    obtain ⟨n3, e3, w3⟩ := Good.int Tryz.underlying39 g2
    obtain ⟨n4, e4, _⟩ := Good.int Tryz.underlying3 g3
    simp only [List.cons.injEq, and_true] at e0 e1 e2 e3 e4
    exact ⟨⟨n0, n1, n2, n3, n4⟩, by rw [e0, e1, e2, e3, e4]; rfl, u64_in w2, u64_in w3⟩
theorem dec_Rw (W : World) (us : List Value) (_ : us.length = Tryz.prog.cellsOf 50) (h : Good Tryz.prog W 6 50 us) : ∃ r : Rw, encRw r = us ∧ OkRw W r := by
  obtain ⟨A, cap, xs, e, h1, h2, h3⟩ := Good.row Tryz.underlying50 h (dec_Dd W)
  rw [cellsDdA] at h3
  exact ⟨⟨A, cap, xs⟩, e.symm, h1, h2, h3⟩
theorem plainRws : plainT Tryz.prog 7 24 = true := by kernel_rfl
theorem open_Rws {H : Type} {en : TypeId × Value → H} {W : World} {A : Option Addr} {len cap : Nat} {d : DataW H} {p : List MemPlace}
    (h : DataW.Trod en Tryz.prog W 0 (fun _ => true) true 24 (.slice A len cap) d p) (hlt : ∀ x ∈ p, x.block < W.heap.size) :
    ∃ xs : List Rw, xs.length = len ∧ len ≤ maxLen ∧ (∀ r ∈ xs, OkRw W r) ∧ RowX encRw 1 W A xs := by
  obtain ⟨xs, h1, h2, h3, h4⟩ := open_rowG (d := 6) Tryz.underlying24 plainRws (dec_Rw W) h hlt
  rw [cellsRwA] at h4
  exact ⟨xs, h1, h2, h3, h4⟩
end Go.Proofs.YtmifdkbpbkafjaaGreatDoor

/- Allocs: the program is awake. -/
namespace Go.Proofs.YtmifdkbpbkafjaaGreatDoor
open Go.RowKit Go.Maps
set_option maxRecDepth 100000

theorem list14 (s : Int) (w : World) : Calls Tryz.prog 29 #[.int .i64 s] w fun o w' => o = .returned (.agg #[.int .i64 1, .int .i64 s, .int .i64 0, .int .i64 1, .int .i64 100]) ∧ Below w.heap.size w w' := by
  go_enter Tryz.func29, Tryz.ntmps29
  go_wp2
  exact bodyPost_ret (v := .agg #[.int .i64 1, .int .i64 s, .int .i64 0, .int .i64 1, .int .i64 100]) (by simp [results, Tryz.results29, go_sem]) rfl ⟨rfl, (Below.refl _ _).alloc (Nat.le_refl _) _⟩

set_option maxHeartbeats 3200000 in
theorem awake14 (w : World) (hg : Glo w) : Calls Tryz.prog 7 #[] w fun o w' => o = .returned (.bool true) ∧ Below w.heap.size w w' := by
  have hE := Env.start w
  have hM : ∀ k : Nat, k ≤ 100 → k < maxLen := fun k hk => by unfold maxLen; omega
  have HM := Lib.hid hM
  have HC4 := Lib.hid (show chkI 1 4 0 1 100 = 0 by decide)
  have HG := Lib.hid hg
  clear hM hg
  go_enter Tryz.func7, Tryz.ntmps7
  go_wp2_with fail
  refine (new_w hE).mono ?_
  rintro o w1 ⟨p, cc, rfl, hE, hb⟩
  clear hb
  go_wp2_with fail
  refine (start_w 0 1 (by decide) (HM.out _ (by omega)) hE rfl rfl).mono ?_
  rintro o w2 ⟨rfl, F2, hE⟩
  simp only [List.set_cons_succ, List.set_cons_zero] at hE
  go_wp2_with fail
  refine (list14 4 _).mono ?_
  rintro o w3 ⟨rfl, hb⟩
  replace hE := hE.over hb
  clear hb
  go_wp2_with fail
  refine (newYes_c 1 4 0 1 100 HC4.out hE).mono ?_
  rintro o w4 ⟨c, q, F, rfl, hE⟩
  go_wp2_with fail
  refine (check_w 1 (upd_same _ _ _) 0 2 3 (by decide) (by decide) hE rfl rfl rfl).mono ?_
  rintro o w5 ⟨rfl, hE⟩
  simp only [List.set_cons_succ, List.set_cons_zero] at hE
  rw [show epI 1 = 1 by decide] at hE
  generalize hf5 : upd (fun _ => 0) (1, 0, 0) 1 = f5 at hE
  have HF5 := Lib.hid hf5
  clear hf5
  generalize hq5 : ({ l := _, s := _, w := _, f := _, a := _ } : Cnt) = q5 at hE
  clear hq5
  go_wp2_with fail
  refine (new_a (S := { c := c, q := q, p := p, cc := cc, ck := 1, cs := 4, cb := 0, ch := 1, cl := 100, ce := 1, cr := 0, hs := 0, F := F, ql := [], kq := 2, G := F2, f := f5, qc := q5, m := 0 + 1 }) _ 9 _ _ rfl hE).mono ?_
  rintro o w6 (⟨h, -⟩ | ⟨-, a, rfl, hE⟩)
  · exact absurd (show (2 : Nat) = 0 from h) (by decide)
  replace hE : Env w (boxI a (av c { nx := nxA a 2, left := .slice none 0 0, k := 1, key := 9, val := 0, lv := 0, h := 0, n := 0, r := 0, s := 0 }) :: LT { c := c, q := q, p := p, cc := cc, ck := 1, cs := 4, cb := 0, ch := 1, cl := 100, ce := 1, cr := 0, hs := 0, F := F, ql := [], kq := 2, G := F2, f := f5, qc := q5, m := 0 + 1 } []) w6 := hE
  have h30 : f5 (3, 0, 0) = 0 := by rw [← HF5.out]; simp [upd]
  have H30 := Lib.hid h30
  clear h30
  go_wp2_with fail
  refine wp_loop_rounds 5 ?_
  rw [rounds_succ]
  go_wp2_with fail
  refine (step_ay (S := { c := c, q := q, p := p, cc := cc, ck := 1, cs := 4, cb := 0, ch := 1, cl := 100, ce := 1, cr := 0, hs := 0, F := F, ql := [], kq := 2, G := F2, f := f5, qc := q5, m := 0 + 1 }) (M := { nx := nxA a 2, left := .slice none 0 0, k := 1, key := 9, val := 0, lv := 0, h := 0, n := 0, r := 0, s := 0 }) 2 _ hE rfl (freshYes_a (S := { c := c, q := q, p := p, cc := cc, ck := 1, cs := 4, cb := 0, ch := 1, cl := 100, ce := 1, cr := 0, hs := 0, F := F, ql := [], kq := 2, G := F2, f := f5, qc := q5, m := 0 + 1 }) (M := { nx := nxA a 2, left := .slice none 0 0, k := 1, key := 9, val := 0, lv := 0, h := 0, n := 0, r := 0, s := 0 }) 0 H30.out (by simp) (by decide) (show (0 : Int) < 4 by decide) (show (4 : Int) ≤ 9223372036854775806 by decide) (HM.out 1 (by omega)) hE)).mono ?_
  rintro o w7 ⟨rfl, nx, k7, F7, G7, hnx, -, hE7⟩
  rw [show nx = nxA a 10 from hnx (show (10 : Nat) ≠ 0 by decide)] at hE7
  clear hnx
  rw [show decS ([] ++ [((0 : Int) + 1, (0 : Int), (0 : Int))]) 1 100 = 0 from rfl]
  generalize hf : upd f5 (3, 0, 0) (IntKind.u64.wrap (0 + 1)) = f7 at *
  have HF7 := Lib.hid hf
  clear hf
  generalize hq : ({ l := _, s := _, w := _, f := _, a := _ } : Cnt) = q7 at hE7
  clear hq
  replace hE7 : Env w (boxI a (av c { nx := nxA a 10, left := .slice none 0 0, k := 1, key := 9, val := 0, lv := 0, h := 0, n := 0, r := 0, s := 0 }) :: LT { c := c, q := q, p := p, cc := cc, ck := 1, cs := 4, cb := 0, ch := 1, cl := 100, ce := 1, cr := 0, hs := 0, F := F7, ql := [(1, 0, 0)], kq := k7, G := G7, f := f7, qc := q7, m := 2 } []) w7 := hE7
  go_wp2_with fail
  rw [rounds_succ]
  go_wp2_with fail
  refine (step_ay (S := { c := c, q := q, p := p, cc := cc, ck := 1, cs := 4, cb := 0, ch := 1, cl := 100, ce := 1, cr := 0, hs := 0, F := F7, ql := [(1, 0, 0)], kq := k7, G := G7, f := f7, qc := q7, m := 2 }) (M := { nx := nxA a 10, left := .slice none 0 0, k := 1, key := 9, val := 0, lv := 0, h := 0, n := 0, r := 0, s := 0 }) 10 _ hE7 rfl (birth_a (S := { c := c, q := q, p := p, cc := cc, ck := 1, cs := 4, cb := 0, ch := 1, cl := 100, ce := 1, cr := 0, hs := 0, F := F7, ql := [(1, 0, 0)], kq := k7, G := G7, f := f7, qc := q7, m := 2 }) (M := { nx := nxA a 10, left := .slice none 0 0, k := 1, key := 9, val := 0, lv := 0, h := 0, n := 0, r := 0, s := 0 }) 1 0 [] rfl (show (1 : Int) ≤ 1 ∧ (1 : Int) ≤ 4 by decide) (show (4 : Int) ≤ 9223372036854775806 by decide) rfl (show (0 : Int) ≤ 1 ∧ (1 : Int) ≤ 9223372036854775807 by decide) (HM.out 2 (by omega)) hE7)).mono ?_
  rintro o w8 ⟨rfl, g, cg, G8, hcg, hE8⟩
  generalize hf : upd f7 (5, 1, 0) 1 = f8 at *
  have HF8 := Lib.hid hf
  clear hf
  generalize hq : ({ l := _, s := _, w := _, f := _, a := _ } : Cnt) = q8 at hE8
  clear hq
  replace hcg : 3 ≤ cg := hcg
  replace hE8 : Env w (boxI a (av c { nx := nxA a 11, left := .slice (some ⟨g, 2, none⟩) 2 (cg - 1), k := 1, key := 9, val := 0, lv := 0, h := 0, n := 0, r := 0, s := 1 }) :: LT { c := c, q := q, p := p, cc := cc, ck := 1, cs := 4, cb := 0, ch := 1, cl := 100, ce := 1, cr := 0, hs := 1, F := F7, ql := [], kq := k7, G := G8, f := f8, qc := q8, m := 3 } (lieI g (flat2 (wordsA 1 1 9 0 (IntKind.u64.wrap 0))) :: [])) w8 := hE8
  go_wp2_with fail
  rw [rounds_succ]
  go_wp2_with fail
  refine (step_ay (S := { c := c, q := q, p := p, cc := cc, ck := 1, cs := 4, cb := 0, ch := 1, cl := 100, ce := 1, cr := 0, hs := 1, F := F7, ql := [], kq := k7, G := G8, f := f8, qc := q8, m := 3 }) (M := { nx := nxA a 11, left := .slice (some ⟨g, 2, none⟩) 2 (cg - 1), k := 1, key := 9, val := 0, lv := 0, h := 0, n := 0, r := 0, s := 1 }) 11 _ hE8 rfl (store_a (S := { c := c, q := q, p := p, cc := cc, ck := 1, cs := 4, cb := 0, ch := 1, cl := 100, ce := 1, cr := 0, hs := 1, F := F7, ql := [], kq := k7, G := G8, f := f8, qc := q8, m := 3 }) (M := { nx := nxA a 11, left := .slice (some ⟨g, 2, none⟩) 2 (cg - 1), k := 1, key := 9, val := 0, lv := 0, h := 0, n := 0, r := 0, s := 1 }) g 2 1 (cg - 1) 1 0 (by omega) (by unfold In64; decide) (by unfold InU; decide) (show In64 1 by unfold In64; decide) (HM.out 3 (by omega)) rfl rfl rfl hE8)).mono ?_
  rintro o w9 ⟨rfl, nx, left, G9, hnl, hE9⟩
  obtain ⟨rfl, rfl⟩ := hnl (by decide)
  rw [show (if 1 = 0 then (1 : Int) else 0) = 0 from rfl]
  generalize hf : upd f8 (5, 1, 1) 0 = f9 at *
  have HF9 := Lib.hid hf
  clear hf
  generalize hq : ({ l := _, s := _, w := _, f := _, a := _ } : Cnt) = q9 at hE9
  clear hq
  replace hE9 : Env w (boxI a (av c { nx := nxA a 11, left := .slice (some ⟨g, 4, none⟩) 1 (cg - 1 - 1), k := 1, key := 9, val := 0, lv := 0, h := 0, n := 0, r := 0, s := 1 }) :: LT { c := c, q := q, p := p, cc := cc, ck := 1, cs := 4, cb := 0, ch := 1, cl := 100, ce := 1, cr := 0, hs := 1, F := F7, ql := [], kq := k7, G := G9, f := f9, qc := q9, m := 4 } (lieI g (flat2 (wordsA 1 1 9 0 (IntKind.u64.wrap 0))) :: [])) w9 := hE9
  go_wp2_with fail
  rw [rounds_succ]
  go_wp2_with fail
  refine (step_ay (S := { c := c, q := q, p := p, cc := cc, ck := 1, cs := 4, cb := 0, ch := 1, cl := 100, ce := 1, cr := 0, hs := 1, F := F7, ql := [], kq := k7, G := G9, f := f9, qc := q9, m := 4 }) (M := { nx := nxA a 11, left := .slice (some ⟨g, 4, none⟩) 1 (cg - 1 - 1), k := 1, key := 9, val := 0, lv := 0, h := 0, n := 0, r := 0, s := 1 }) 11 _ hE9 rfl (store_a (S := { c := c, q := q, p := p, cc := cc, ck := 1, cs := 4, cb := 0, ch := 1, cl := 100, ce := 1, cr := 0, hs := 1, F := F7, ql := [], kq := k7, G := G9, f := f9, qc := q9, m := 4 }) (M := { nx := nxA a 11, left := .slice (some ⟨g, 4, none⟩) 1 (cg - 1 - 1), k := 1, key := 9, val := 0, lv := 0, h := 0, n := 0, r := 0, s := 1 }) g 4 0 (cg - 1 - 1) 3 9 (by omega) (by unfold In64; decide) (by unfold InU; decide) (show In64 1 by unfold In64; decide) (HM.out 4 (by omega)) rfl rfl rfl hE9)).mono ?_
  rintro o w10 ⟨rfl, nx, left, G10, hnl, hE10⟩
  clear hnl
  rw [show (if 0 = 0 then (1 : Int) else 0) = 1 from rfl]
  generalize hf : upd f9 (5, 1, 3) 9 = f10 at *
  have HF10 := Lib.hid hf
  clear hf
  generalize hq : ({ l := _, s := _, w := _, f := _, a := _ } : Cnt) = q10 at hE10
  clear hq
  replace hE10 := hE10.sub (L' := LT { c := c, q := q, p := p, cc := cc, ck := 1, cs := 4, cb := 0, ch := 1, cl := 100, ce := 1, cr := 0, hs := 1, F := F7, ql := [], kq := k7, G := G10, f := f10, qc := q10, m := 5 } []) (.cons _ (.cons_cons _ (.cons_cons _ (.cons_cons _ (.cons_cons _ (.cons _ (List.Sublist.refl _)))))))
  go_wp2_with fail
  rw [rounds_succ]
  go_wp2_with fail
  refine (held_c (hE10.get 0 rfl)).mono ?_
  rintro o w11 ⟨rfl, hb⟩
  replace hE10 := hE10.over hb
  have hE11 := (hE10.box w11.heap.size rfl [.int .i64 1, .int .i64 0] 67).perm (L' := LT { c := c, q := q, p := p, cc := cc, ck := 1, cs := 4, cb := 0, ch := 1, cl := 100, ce := 1, cr := 0, hs := 1, F := F7, ql := [], kq := k7, G := G10, f := f10, qc := q10, m := 5 } [boxI w11.heap.size [.int .i64 1, .int .i64 0]]) (List.perm_middle (l₁ := [_, _, _, _])).symm
  clear hb hE10
  have rY := hE11.rule 4 rfl
  go_wp2_with fail
  generalize w11.alloc _ = w12 at *
  generalize w11.heap.size = Y at *
  refine (new_r 1 hE11).mono ?_
  rintro o w13 ⟨r, rfl, hE13⟩
  clear rY hE11
  go_wp2_with fail
  refine (step_ry (S := { c := c, q := q, p := p, cc := cc, ck := 1, cs := 4, cb := 0, ch := 1, cl := 100, ce := 1, cr := 0, hs := 1, F := F7, ql := [], kq := k7, G := G10, f := f10, qc := q10, m := 5 }) 0 _ hE13 rfl (loadEpoch_r (S := { c := c, q := q, p := p, cc := cc, ck := 1, cs := 4, cb := 0, ch := 1, cl := 100, ce := 1, cr := 0, hs := 1, F := F7, ql := [], kq := k7, G := G10, f := f10, qc := q10, m := 5 }) 1 (show f10 (1, 0, 0) = 1 by rw [← HF10.out, ← HF9.out, ← HF8.out, ← HF7.out, ← HF5.out]; simp [upd]) hE13)).mono ?_
  rintro o w14 ⟨rfl, hE14⟩
  clear hE13
  generalize hq : ({ l := _, s := _, w := _, f := _, a := _ } : Cnt) = q14 at hE14
  clear hq
  replace hE14 : Env w (boxI r (rtv c (nxR r 1) 1 1) :: LT { c := c, q := q, p := p, cc := cc, ck := 1, cs := 4, cb := 0, ch := 1, cl := 100, ce := 1, cr := 0, hs := 1, F := F7, ql := [], kq := k7, G := G10, f := f10, qc := q14, m := 5 } [boxI Y [.int .i64 1, .int .i64 0]]) w14 := hE14
  go_wp2_with fail
  refine (step_ry (S := { c := c, q := q, p := p, cc := cc, ck := 1, cs := 4, cb := 0, ch := 1, cl := 100, ce := 1, cr := 0, hs := 1, F := F7, ql := [], kq := k7, G := G10, f := f10, qc := q14, m := 5 }) 1 _ hE14 rfl (store_r (S := { c := c, q := q, p := p, cc := cc, ck := 1, cs := 4, cb := 0, ch := 1, cl := 100, ce := 1, cr := 0, hs := 1, F := F7, ql := [], kq := k7, G := G10, f := f10, qc := q14, m := 5 }) (show InU 1 by unfold InU; decide) (show In64 1 by unfold In64; decide) (HM.out 5 (by omega)) (by simp) hE14)).mono ?_
  rintro o w15 ⟨rfl, k15, F15, G15, -, hE15⟩
  clear hE14
  generalize hq : ({ l := _, s := _, w := _, f := _, a := _ } : Cnt) = q15 at hE15
  clear hq
  replace hE15 : Env w (LT { c := c, q := q, p := p, cc := cc, ck := 1, cs := 4, cb := 0, ch := 1, cl := 100, ce := 1, cr := 0, hs := 1, F := F15, ql := [(1, 1, 0)], kq := k15, G := G15, f := (upd f10 (5, 1, 1) 1), qc := q15, m := 6 } [boxI Y [.int .i64 1, .int .i64 0]]) w15 := hE15
  generalize hf15 : upd f10 (5, 1, 1) 1 = f15 at *
  have HF15 := Lib.hid hf15
  clear hf15
  have HP1 : Hid (∀ v, Env w (LT { c := c, q := q, p := p, cc := cc, ck := 1, cs := 4, cb := 0, ch := 1, cl := 100, ce := 1, cr := 0, hs := 1, F := F15, ql := [(1, 1, 0)], kq := k15, G := G15, f := f15, qc := q15, m := 6 } [boxI Y [.int .i64 1, .int .i64 0]]) v → Calls Tryz.prog 23 #[.pointer (some ⟨p, 0, none⟩), .agg #[.int .i64 5, .int .i64 1, .int .i64 3]] v fun e w' => e = .returned (.int .u64 9) ∧ Below v.heap.size v w') := Lib.hid fun v hv => by
    have h := peek_w 5 1 3 (by unfold Wf In64; simp) 2 3 hv rfl rfl
    dsimp only at h
    rw [show f15 (5, 1, 3) = 9 by rw [← HF15.out, ← HF10.out, ← HF9.out, ← HF8.out, ← HF7.out, ← HF5.out]; simp [upd]] at h
    exact h
  have HP2 : Hid (∀ v, Env w (LT { c := c, q := q, p := p, cc := cc, ck := 1, cs := 4, cb := 0, ch := 1, cl := 100, ce := 1, cr := 0, hs := 1, F := F15, ql := [(1, 1, 0)], kq := k15, G := G15, f := f15, qc := q15, m := 6 } [boxI Y [.int .i64 1, .int .i64 0]]) v → Calls Tryz.prog 23 #[.pointer (some ⟨p, 0, none⟩), .agg #[.int .i64 5, .int .i64 1, .int .i64 1]] v fun e w' => e = .returned (.int .u64 1) ∧ Below v.heap.size v w') := Lib.hid fun v hv => by
    have h := peek_w 5 1 1 (by unfold Wf In64; simp) 2 3 hv rfl rfl
    dsimp only at h
    rw [show f15 (5, 1, 1) = 1 by rw [← HF15.out, ← HF10.out, ← HF9.out, ← HF8.out, ← HF7.out, ← HF5.out]; simp [upd]] at h
    exact h
  have HFI : Hid (∀ v, Env w (LT { c := c, q := q, p := p, cc := cc, ck := 1, cs := 4, cb := 0, ch := 1, cl := 100, ce := 1, cr := 0, hs := 1, F := F15, ql := [(1, 1, 0)], kq := k15, G := G15, f := f15, qc := q15, m := 6 } [boxI Y [.int .i64 1, .int .i64 0]]) v → Calls Tryz.prog 35 #[.pointer (some ⟨q, 0, none⟩), .int .i64 1] v fun e w' => e = .returned (.int .i64 0) ∧ Below v.heap.size v w') := Lib.hid fun v hv => find_any (l := [(1, 1, 0)]) 1 (hv.queue 1 rfl)
  replace hE15 : Env w (LT { c := c, q := q, p := p, cc := cc, ck := 1, cs := 4, cb := 0, ch := 1, cl := 100, ce := 1, cr := 0, hs := 1, F := F15, ql := [(1, 1, 0)], kq := k15, G := G15, f := f15, qc := q15, m := 6 } [boxI Y [.int .i64 1, .int .i64 0]]) w15 := hE15
  have rY := hE15.rule 4 rfl
  go_wp2_with (first
    | (with_reducible refine (placeOf_any _ _ _).mono ?_; rintro o w16 ⟨rfl, hb⟩; replace hE15 := hE15.over hb; clear hb rY; have rY := hE15.rule 4 rfl)
    | (with_reducible refine (HP1.out _ hE15).mono ?_; rintro o w16 ⟨rfl, hb⟩; replace hE15 := hE15.over hb; clear hb rY; have rY := hE15.rule 4 rfl)
    | (with_reducible refine (HP2.out _ hE15).mono ?_; rintro o w16 ⟨rfl, hb⟩; replace hE15 := hE15.over hb; clear hb rY; have rY := hE15.rule 4 rfl)
    | (with_reducible refine (HFI.out _ hE15).mono ?_; rintro o w16 ⟨rfl, hb⟩; replace hE15 := hE15.over hb; clear hb rY; have rY := hE15.rule 4 rfl)
    | (refine (queue_c (hE15.get 0 rfl)).mono ?_; rintro o w16 ⟨rfl, rfl⟩))
  go_ret
  exact ⟨ret_bool (by simp), hE15.below⟩
end Go.Proofs.YtmifdkbpbkafjaaGreatDoor

/- What the condition on the package's variables gives: the three fields stand in them; and that the program's own start meets it. -/
namespace Go.Proofs.YtmifdkbpbkafjaaGreatDoor
open Go.ChangeShapes Go.WideShapes Go.ChangeAt Go.RowKit
set_option maxRecDepth 100000

section
variable {P : Program} {w : World}
theorem cell_lt {b o : Nat} {v : Value} (h : w.cell? ⟨b, o, none⟩ = some v) : b < w.heap.size := by
  rcases Nat.lt_or_ge b w.heap.size with h' | h'
  · exact h'
  · simp [World.cell?, Array.getElem?_eq_none h'] at h
/-- The head of a list of laid variables: a struct of two ints. -/
theorem laid_pair {n : String} {g : Nat} {t k : TypeId} {f0 f1 : Field} {a b : Int} {r : List (String × DataW Unit)} {ps : List MemPlace}
    (h : DataW.LaidVars P w ((n, .agg [.lit (.int .i64 a), .lit (.int .i64 b)]) :: r) ps) (hg : P.globalNamed n = some g) (ht : (P.globals[g]?).map (·.type) = some t)
    (hs : P.underlying t = some (.struct #[f0, f1])) (hc : P.cellsOf t = 2) (h0 : f0.offset = 0) (h1 : f1.offset = 1) (hk0 : f0.type = k) (hk1 : f1.type = k) (hk : P.cellsOf k = 1) (hi : P.underlying k = some (.int .i64)) :
    w.cell? ⟨g, 0, none⟩ = some (.int .i64 a) ∧ w.cell? ⟨g, 1, none⟩ = some (.int .i64 b) ∧ ∃ q, DataW.LaidVars P w r q := by
  obtain ⟨g', t', cs, fuel, p, q, hg', ht', hv, hd, hr, -⟩ := h
  obtain rfl := Option.some.inj (hg.symm.trans hg')
  obtain rfl := Option.some.inj (ht.symm.trans ht')
  obtain ⟨xs, m, -, hx, hl, hn, hel⟩ := DataW.trod_struct hs hd
  have e0 := hel 0 f0 rfl
  have e1 := hel 1 f1 rfl
  rw [h0, hk0, hk] at e0
  rw [h1, hk1, hk] at e1
  obtain ⟨l⟩ := cs
  rw [hc] at hl
  match l, hl, xs, hn, hx, e0, e1, hv with
  | [c0, c1], _, [x0, x1], _, hx, e0, e1, hv =>
    simp only [Prod.mk.injEq, List.map_cons, List.map_nil, DataW.agg.injEq, List.cons.injEq] at hx
    obtain ⟨n0, s0, y0, -⟩ := DataW.trod_int hi (show DataW.trod _ P w 0 _ false m k [c0] = some x0 from e0)
    obtain ⟨n1, s1, y1, -⟩ := DataW.trod_int hi (show DataW.trod _ P w 0 _ false m k [c1] = some x1 from e1)
    simp at s0 s1
    subst s0 s1
    have k0 := hx.1.1
    have k1 := hx.1.2.1
    rw [y0] at k0
    rw [y1] at k1
    simp at k0 k1
    subst k0 k1
    exact ⟨by rw [World.var?_cell hg hv 0]; rfl, by rw [World.var?_cell hg hv 1]; rfl, q, hr⟩
end

def laid3 : List (String × DataW Unit) := [("revenant/link.versionPart", Rows.laid_revenant_link_versionPart), ("revenant/link.slotPart", Rows.laid_revenant_link_slotPart), ("revenant/link.markPart", Rows.laid_revenant_link_markPart)]

/-- What the condition gives the walks. -/
theorem glo_of_laid {W : World} (h : laidMetH Tryz.prog laid3 W) : Glo W := by
  rw [MakeChecks.laidMetH_plain _ _ _ (by kernel_rfl)] at h
  obtain ⟨ps, h, -, -⟩ := h
  obtain ⟨a0, a1, q1, h⟩ := laid_pair (g := 1) (t := 163) (k := 3) h (by kernel_rfl) (by kernel_rfl) Tryz.underlying163 (by kernel_rfl) rfl rfl rfl rfl (by kernel_rfl) Tryz.underlying3
  obtain ⟨b0, b1, q2, h⟩ := laid_pair (g := 0) (t := 163) (k := 3) h (by kernel_rfl) (by kernel_rfl) Tryz.underlying163 (by kernel_rfl) rfl rfl rfl rfl (by kernel_rfl) Tryz.underlying3
  obtain ⟨c0, c1, q3, h⟩ := laid_pair (g := 2) (t := 163) (k := 3) h (by kernel_rfl) (by kernel_rfl) Tryz.underlying163 (by kernel_rfl) rfl rfl rfl rfl (by kernel_rfl) Tryz.underlying3
  exact ⟨⟨a0, a1⟩, ⟨b0, b1⟩, ⟨c0, c1⟩, cell_lt a0, cell_lt b0, cell_lt c0⟩

/-- The program's own start meets the condition. -/
theorem door_met (os : Os) (args : Array Value) : laidMetH Tryz.prog laid3 ((World.doorLaid Tryz.prog 24 os).forCall (fun _ _ => 0) ⟨#[], args, []⟩).memory :=
  laidMetH_of_parts3 (fuel := 8) (laidMet_of_run' 8 (by kernel_rfl) (by kernel_rfl)) (by kernel_rfl) (by kernel_rfl)
end Go.Proofs.YtmifdkbpbkafjaaGreatDoor
