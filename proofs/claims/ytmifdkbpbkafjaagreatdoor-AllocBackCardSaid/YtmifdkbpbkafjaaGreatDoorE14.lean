/- What is proved on the way to the statement, part 14 of 15: contracts of the functions, among other things in memory. -/
import Derived.Test.YtmifdkbpbkafjaaGreatDoorE13
import Derived.OwnWalk
import Derived.LoopIn
import Derived.Test.YtmifdkbpbkafjaaGreatDoorChecked
import Derived.Deep.MidRow

/- Queues: the contract of List. -/
namespace Go.Proofs.YtmifdkbpbkafjaaGreatDoor
open Go.RowKit Go.Maps
set_option maxRecDepth 100000

set_option maxHeartbeats 1600000 in
theorem list_any {w : World} {q k : Nat} {F : Nat → Prop} {l : List Trip} (hQ : IsQ w q F l k) :
    Calls Tryz.prog 27 #[.pointer (some ⟨q, 0, none⟩)] w fun e w' => ∃ b, e = .returned (.slice (some ⟨b, 0, none⟩) l.length l.length) ∧ Blk 0 w' b (flat3 l) ∧ w.heap.size ≤ b ∧ Below w.heap.size w w' := by
  obtain ⟨hl1, hl2, hk2, hk⟩ := hQ.len
  have hQ0 := Lib.hid hQ
  obtain ⟨R, g, r, hq, hr, hring, _, _, hne, hF⟩ := hQ
  have hrl := hring.1
  have h4 := pow_four hk2
  have HA := Lib.hid fun j w' => at_any R k (g + j) w' hk
  have hcell : ∀ j, j < l.length → ∀ w', Blk 0 w' R (flat3 r) → w'.cell? ⟨R, (g + j) % 2 ^ k * 3, none⟩ = some (.int .i64 (l.getD j t0).1) ∧ w'.cell? ⟨R, (g + j) % 2 ^ k * 3 + 1, none⟩ = some (.int .i64 (l.getD j t0).2.1) ∧ w'.cell? ⟨R, (g + j) % 2 ^ k * 3 + 2, none⟩ = some (.int .i64 (l.getD j t0).2.2) := fun j hj w' h => by
    have hlt : (g + j) % 2 ^ k < 2 ^ k := Nat.mod_lt _ (by omega)
    have e := fun c hc => (h.rule ((g + j) % 2 ^ k * 3 + c)).trans (flat3_get r ((g + j) % 2 ^ k) c (by omega) hc)
    rw [hring.at j hj] at e
    exact ⟨e 0 (by omega), e 1 (by omega), e 2 (by omega)⟩
  have HC := Lib.hid hcell
  have HG := Lib.hid (round_up g)
  have HQB := Lib.hid (And.intro hq hr)
  have hlz := fill3_zero l
  clear hcell hq hr hring hF hrl h4
  go_enter Tryz.func27, Tryz.ntmps27
  go_wp2_with fail
  refine (len_any hQ0.out).mono ?_
  rintro e w1 ⟨rfl, hb⟩
  clear hQ0
  go_wp2_with (refine wpList_make3 _ rfl _ _ 72 rfl 63 Tryz.underlying72 infoEnt .i64 .i64 _ _ l.length rfl rfl rfl rfl (by omega) ?_)
  have hB0 := Blk.new 0 w1 (flat3 (List.replicate l.length t0)) 63
  have hE0 := hb.alloc hb.size (.cells (flat3 (List.replicate l.length t0)).toArray 63)
  have hs0 := hb.size
  clear hb
  generalize hb1 : w1.heap.size = b at *
  clear hb1
  generalize w1.alloc (.cells (flat3 (List.replicate l.length t0)).toArray 63) = w2 at *
  rw [← hlz] at hB0
  clear hlz
  go_loopw [4, 10] (fun _ i wr => ∃ j : Nat, j ≤ l.length ∧ i = .int .i64 j ∧ Blk 0 wr b (flat3 (fill3 l j)) ∧ Below w.heap.size w wr) (fun _ i _ => l.length - (intOf i).toNat)
  case atStart => exact ⟨0, by omega, rfl, hB0, hE0⟩
  case round =>
    obtain ⟨j, hj, rfl, hf, hB⟩ := hrel
    clear hB0 hE0
    by_cases hlt : j < l.length
    · have hc := HC.out j hlt
      have hw := round_nat j (by omega)
      have hg := HG.out j
      have HAj := Lib.hid (HA.out j)
      have hq5 : Blk 0 wr q _ := HQB.out.1.kept hB.size (hB.block _ HQB.out.1.1)
      have hr5 : Blk 0 wr R _ := HQB.out.2.kept hB.size (hB.block _ HQB.out.2.1)
      have hqb : q ≠ b ∧ R ≠ b := ⟨by have := HQB.out.1.1; omega, by have := HQB.out.2.1; omega⟩
      have hnx := hf
      have HNX := Lib.hid (And.intro (fill3_next l hlt) (fill3_length l hj))
      clear HC HG HA HQB hnx
      unfold qv at hq5
      generalize l.getD j t0 = xx at *
      generalize (cnt g) = G at *
      generalize (cnt (g + j)) = GJ at *
      generalize (cnt (g + l.length)) = C at *
      generalize (g + j) % 2 ^ k = p at *
      generalize 2 ^ k = N at *
      obtain ⟨x, y, z⟩ := xx
      simp only at hc
      have HC := Lib.hid hc
      clear hc
      generalize hLN : l.length = ln at *
      have HLN := Lib.hid hLN
      clear hLN
      go_wp2_with fail
      refine Ord.wp_chain [17] (fun w' => Blk 0 w' q [.slice (some ⟨R, 0, none⟩) N N, .int .u64 G, .int .u64 C] ∧ Blk 0 w' R (flat3 r)) (fun m w' => w.heap.size ≤ w'.heap.size ∧ Below w.heap.size w w' ∧ Blk 0 w' b (flat3 (if m = 0 then fill3 l j else (fill3 l j).set j (x, y, z)))) (by kernel_rfl) (by kernel_rfl) (by kernel_rfl) ⟨hq5.drew, hr5.drew⟩ ⟨hB.size, hB.drew, hf.drew⟩ (fun hT => ?_)
      have hT9 := Lib.hid hT
      clear hT
      repeat (first
        | (refine Ord.ch_value (v := ?_) hT9.out (by decide) (by rfl) ?_ ?_; rotate_left; (focus (intro w5 hS; have r := Blk.rule hS.1; obtain ⟨c0, c1, c2⟩ := HC.out _ hS.2; go_simp <;> with_reducible rfl)); (try simp only [Act.put, List.setIfInBounds_toArray, List.set_cons_zero, List.set_cons_succ]))
        | (refine Ord.ch_off hT9.out (by decide) (by rfl) ?_; (try simp only [Act.put, List.setIfInBounds_toArray, List.set_cons_zero, List.set_cons_succ]))
        | (refine Ord.ch_call (v := ?_) (f := ?_) (args := ?_) hT9.out (by decide) (by rfl) ?_ ?_ ?_; rotate_left 3; (focus (intro w5 hS; have r := Blk.rule hS.1; obtain ⟨c0, c1, c2⟩ := HC.out _ hS.2; go_simp; constructor <;> with_reducible rfl)); (focus (intro w5 hS; (first | (with_reducible refine (HAj.out w5).mono ?_; rintro e w6 ⟨rfl, rfl⟩; constructor; with_reducible rfl; exact ⟨hS, fun _ h => h⟩)))); (try simp only [Act.put, List.setIfInBounds_toArray, List.set_cons_zero, List.set_cons_succ])))
      refine Ord.ch_turn (v := undef) 0 hT9.out rfl (by decide) (Or.inl rfl) (by rfl) ?_ ?_
      · rintro w5 hS ⟨hA0, hA1, hA2⟩
        simp only [if_true] at hA2
        have hcells := fun c hc => (hA2.rule (j * 3 + c)).trans (flat3_get _ j c (by rw [HNX.out.2]; exact hlt) hc)
        have r0 := hcells 0 (by omega)
        have r1 := hcells 1 (by omega)
        have r2 := hcells 2 (by omega)
        simp only [Nat.add_zero, enc3, List.getElem?_cons_zero, List.getElem?_cons_succ] at r0 r1 r2
        have hfl := flat3_length (fill3 l j)
        rw [HNX.out.2] at hfl
        have f0 := hA2.thaw (j * 3) (by omega)
        have f1 := hA2.thaw (j * 3 + 1) (by omega)
        have f2 := hA2.thaw (j * 3 + 2) (by omega)
        clear hcells
        go_simp
        refine ⟨rfl, ⟨((hS.1.off hqb.1 _).off hqb.1 _).off hqb.1 _, ((hS.2.off hqb.2 _).off hqb.2 _).off hqb.2 _⟩, by simpa using hA0, ?_, ?_⟩
        · exact below_set (below_set (below_set hA1 (by omega) hs0 _) (by simp; omega) hs0 _) (by simp; omega) hs0 _
        · exact Blk.set3 hA2 (by rw [HNX.out.2]; exact hlt) (x, y, z)
      (try simp only [Act.put, List.setIfInBounds_toArray, List.set_cons_zero, List.set_cons_succ])
      repeat (first
        | (refine Ord.ch_value (v := ?_) hT9.out (by decide) (by rfl) ?_ ?_; rotate_left; (focus (intro w5 hS; skip; go_simp <;> with_reducible rfl)); (try simp only [Act.put, List.setIfInBounds_toArray, List.set_cons_zero, List.set_cons_succ]))
        | (refine Ord.ch_off hT9.out (by decide) (by rfl) ?_; (try simp only [Act.put, List.setIfInBounds_toArray, List.set_cons_zero, List.set_cons_succ])))
      refine Ord.InText.nil fun w5 hS => ?_
      clear hT9
      obtain ⟨hC9, hA9⟩ := Ord.chain_end hS
      clear hS
      obtain ⟨hA0, hA1, hA2⟩ := hA9
      rw [if_neg (by decide), HNX.out.1] at hA2
      go_wp2_with fail
      exact ⟨⟨j + 1, by omega, by simp, hA2, hA1⟩, by simp [intOf]; omega⟩
    · go_wp2_with fail
      have : j = l.length := by omega
      subst this
      rw [fill3_all] at hf
      go_ret
      exact ⟨b, rfl, hf, hs0, hB⟩
theorem listNil_any (w : World) : Calls Tryz.prog 27 #[.pointer none] w fun e w' => ∃ b, e = .returned (.slice (some ⟨b, 0, none⟩) 0 0) ∧ Below w.heap.size w w' := by
  go_enter Tryz.func27, Tryz.ntmps27
  go_wp2_with fail
  refine (lenNil_any _).mono ?_
  rintro e w1 ⟨rfl, hb⟩
  go_wp2_with (refine wpList_make3 _ rfl _ _ 72 rfl 63 Tryz.underlying72 infoEnt .i64 .i64 _ _ 0 rfl rfl rfl rfl (by omega) ?_)
  have hE0 := hb.alloc hb.size (.cells (flat3 (List.replicate 0 t0)).toArray 63)
  clear hb
  go_loopw [4, 10] (fun _ i wr => i = .int .i64 0 ∧ Below w.heap.size w wr) (fun _ i _ => 0)
  case atStart => exact ⟨rfl, hE0⟩
  case round =>
    obtain ⟨rfl, hB⟩ := hrel
    go_wp2_with fail
    go_ret
    exact ⟨_, rfl, hB⟩
end Go.Proofs.YtmifdkbpbkafjaaGreatDoor

/- Threads: the contract of same. -/
namespace Go.Proofs.YtmifdkbpbkafjaaGreatDoor
open Go.RowKit Go.Maps
set_option maxRecDepth 100000

section
variable {w0 w : World} {R : List Item} {C : Cf} {X : Tm} {V : Wm} {T : Th} {G FU : Nat → Prop} {qc : Cnt} {n : Nat} {f : Mem} {ml : List OneR}
set_option maxHeartbeats 3200000 in
theorem same_t (hq : T.ql.length ≤ 1000000) (hE : Env w0 (LT (SP C X V T f G qc n) (LU (SR C X V T FU ml) (boxI X.thr (thv X T) :: R))) w) :
    Calls Tryz.prog 15 #[.pointer (some ⟨X.thr, 0, none⟩)] w fun o w' => o = .returned (.bool true) ∧ Env w0 (LT (SP C X V T f G qc n) (LU (SR C X V T FU ml) (boxI X.thr (thv X T) :: R))) w' := by
  have r7 := hE.rule 7 rfl
  unfold thv at r7
  have hb0 : Blk 0 w X.c (crv C.k C.s C.b C.h C.l T.e X.cr T.hs 0 X.q) := hE.get 0 rfl
  have hq0 : IsQ w X.q X.F T.ql X.kq := hE.queue 1 rfl
  go_enter Tryz.func15, Tryz.ntmps15
  go_wp2_with fail
  refine (queue_c hb0).mono ?_
  rintro o w1 ⟨rfl, rfl⟩
  go_wp2_with fail
  refine (list_any hq0).mono ?_
  rintro o w2 ⟨bL, rfl, hL, hbL, hb⟩
  replace hE := hE.add (boxI bL (flat3 T.ql)) hb hL (fun y hy => by cases hy; exact ⟨hbL, hL.1⟩)
  clear hb hL hbL r7 hb0 hq0
  have hb0 : Blk 0 w2 X.c (crv C.k C.s C.b C.h C.l T.e X.cr T.hs 0 X.q) := hE.get 1 rfl
  have r7 := hE.rule 8 rfl
  unfold thv at r7
  go_wp2_with fail
  refine (held_c hb0).mono ?_
  rintro o w3 ⟨rfl, hb⟩
  replace hE := hE.over hb
  replace hE := hE.box w3.heap.size rfl [.int .i64 T.hs, .int .i64 0] 67
  clear hb r7 hb0
  go_wp2_with fail
  generalize w3.alloc _ = w4 at *
  generalize w3.heap.size = Z at *
  replace hE : Env w0 (boxI bL (flat3 T.ql) :: boxI Z [.int .i64 T.hs, .int .i64 0] :: LT (SP C X V T f G qc n) (LU (SR C X V T FU ml) (boxI X.thr (thv X T) :: R))) w4 := hE.perm (List.Perm.swap _ _ _)
  have HCU : Hid (∀ y, Env w0 (boxI bL (flat3 T.ql) :: boxI Z [.int .i64 T.hs, .int .i64 0] :: LT (SP C X V T f G qc n) (LU (SR C X V T FU ml) (boxI X.thr (thv X T) :: R))) y → y.cell? ⟨X.u, 6, none⟩ = some (.slice X.A T.ql.length X.rc) ∧ y.cell? ⟨X.u, 8, none⟩ = some (.int .i64 T.hs) ∧ y.cell? ⟨X.u, 5, none⟩ = some (.int .i64 T.e)) := Lib.hid fun y hy => ⟨hy.rule 6 rfl 6, hy.rule 6 rfl 8, hy.rule 6 rfl 5⟩
  have HEP : Hid (∀ y, Env w0 (boxI bL (flat3 T.ql) :: boxI Z [.int .i64 T.hs, .int .i64 0] :: LT (SP C X V T f G qc n) (LU (SR C X V T FU ml) (boxI X.thr (thv X T) :: R))) y → Calls Tryz.prog 25 #[.pointer (some ⟨X.c, 0, none⟩)] y fun o w' => o = .returned (.int .i64 T.e) ∧ w' = y) := Lib.hid fun y hy => epoch_c (show Blk 0 y X.c (crv C.k C.s C.b C.h C.l T.e X.cr T.hs 0 X.q) from hy.get 2 rfl)
  refine wp_text (S := (Env w0 (boxI bL (flat3 T.ql) :: boxI Z [.int .i64 T.hs, .int .i64 0] :: LT (SP C X V T f G qc n) (LU (SR C X V T FU ml) (boxI X.thr (thv X T) :: R))))) (by kernel_rfl) (by kernel_rfl) hE.drew (fun hT => ?_)
  have hT9 := Lib.hid hT
  clear hT
  repeat (first
    | (refine text_value (v := ?_) hT9.out (by rfl) ?_ ?_; rotate_left; (focus (intro w5 hS; obtain ⟨q6, q8, q5⟩ := HCU.out _ hS; have r1 := hS.rule 1 rfl; have r9 := hS.rule 9 rfl; unfold thv at r9; go_simp <;> with_reducible rfl)); (try simp only [Act.put, List.setIfInBounds_toArray, List.set_cons_zero, List.set_cons_succ]))
    | (refine text_off hT9.out (by rfl) ?_; (try simp only [Act.put, List.setIfInBounds_toArray, List.set_cons_zero, List.set_cons_succ]))
    | (refine text_call (v := ?_) (f := ?_) (args := ?_) hT9.out (by rfl) ?_ ?_ ?_; rotate_left 3; (focus (intro w5 hS; obtain ⟨q6, q8, q5⟩ := HCU.out _ hS; have r1 := hS.rule 1 rfl; have r9 := hS.rule 9 rfl; unfold thv at r9; go_simp; constructor <;> with_reducible rfl)); (focus (intro w5 hS; (first | (with_reducible refine (HEP.out _ hS).mono ?_; rintro o w6 ⟨rfl, rfl⟩; constructor; with_reducible rfl; exact hS)))); (try simp only [Act.put, List.setIfInBounds_toArray, List.set_cons_zero, List.set_cons_succ])))
  refine InText.nil fun w5 hS5 => ?_
  clear hT9
  clear hE HEP HCU
  go_wp2_with fail
  generalize (T.hs != 0) = bh at *
  have hE5 := hS5
  clear hS5
  go_loopw [6] (fun kv v => ∃ z : Nat, z ≤ T.ql.length ∧ kv = .int .i64 z ∧ Env w0 (boxI bL (flat3 T.ql) :: boxI Z [.int .i64 T.hs, .int .i64 0] :: LT (SP C X V T f G qc n) (LU (SR C X V T FU ml) (boxI X.thr (thv X T) :: R))) v) (fun kv _ => T.ql.length - (intOf kv).toNat)
  case atStart => exact ⟨0, Nat.zero_le _, rfl, hE5⟩
  case round =>
    clear hE5
    obtain ⟨z, hz, rfl, hE5⟩ := hrel
    by_cases hzl : z < T.ql.length
    · have hb3 : decide ((z : Int) < T.ql.length) = true := by simp; omega
      have hz1 : (z : Int) < (T.ql.length : Int) := by omega
      rcases hE5.cells3 7 rfl rfl with h0 | ⟨g, off2, hA, -, -⟩
      · have h0' : T.ql = [] := h0
        rw [h0'] at hzl
        simp at hzl
      have hA9 : X.A = some ⟨g, off2, none⟩ := hA
      obtain ⟨⟨ex, ey, ez⟩, he⟩ : ∃ t, T.ql.getD z t0 = t := ⟨_, rfl⟩
      have HC2 : Hid (∀ y, Env w0 (boxI bL (flat3 T.ql) :: boxI Z [.int .i64 T.hs, .int .i64 0] :: LT (SP C X V T f G qc n) (LU (SR C X V T FU ml) (boxI X.thr (thv X T) :: R))) y → y.cell? ⟨X.u, 6, none⟩ = some (.slice (some ⟨g, off2, none⟩) T.ql.length X.rc) ∧ y.cell? ⟨g, off2 + z * 3, none⟩ = some (.int .i64 ex) ∧ y.cell? ⟨g, off2 + z * 3 + 1, none⟩ = some (.int .i64 ey) ∧ y.cell? ⟨bL, z * 3, none⟩ = some (.int .i64 ex) ∧ y.cell? ⟨bL, z * 3 + 1, none⟩ = some (.int .i64 ey)) := Lib.hid fun y hy => by
        refine ⟨by rw [← hA9]; exact hy.rule 6 rfl 6, ?_, ?_, ?_, ?_⟩
        · rcases hy.cells3 7 rfl rfl with h0 | ⟨g', off', hA', -, hc⟩
          · have h0' : T.ql = [] := h0
            rw [h0'] at hzl
            simp at hzl
          · rw [hA] at hA'
            cases hA'
            have h9 : CellsAt y g (off2 + z * 3) (enc3 (ex, ey, ez)) := by
              have := hc z hzl
              rw [show (SR C X V T FU ml).ql.getD z default = (ex, ey, ez) from he] at this
              exact this
            exact (at3 h9).1
        · rcases hy.cells3 7 rfl rfl with h0 | ⟨g', off', hA', -, hc⟩
          · have h0' : T.ql = [] := h0
            rw [h0'] at hzl
            simp at hzl
          · rw [hA] at hA'
            cases hA'
            have h9 : CellsAt y g (off2 + z * 3) (enc3 (ex, ey, ez)) := by
              have := hc z hzl
              rw [show (SR C X V T FU ml).ql.getD z default = (ex, ey, ez) from he] at this
              exact this
            exact (at3 h9).2.1
        · have := (hy.rule 0 rfl (z * 3 + 0)).trans (flat3_get T.ql z 0 hzl (by omega))
          rw [he] at this
          simpa [enc3] using this
        · have := (hy.rule 0 rfl (z * 3 + 1)).trans (flat3_get T.ql z 1 hzl (by omega))
          rw [he] at this
          simpa [enc3] using this
      clear hA hA9 he
      go_wp2_with fail
      refine wp_text (S := (Env w0 (boxI bL (flat3 T.ql) :: boxI Z [.int .i64 T.hs, .int .i64 0] :: LT (SP C X V T f G qc n) (LU (SR C X V T FU ml) (boxI X.thr (thv X T) :: R))))) (by kernel_rfl) (by kernel_rfl) hE5.drew (fun hT => ?_)
      have hT9 := Lib.hid hT
      clear hT
      repeat (first
        | (refine text_value (v := ?_) hT9.out (by rfl) ?_ ?_; rotate_left; (focus (intro w5 hS; obtain ⟨q6, q7, q8, q9, q10⟩ := HC2.out _ hS; have r9 := hS.rule 9 rfl; unfold thv at r9; go_simp <;> with_reducible rfl)); (try simp only [Act.put, List.setIfInBounds_toArray, List.set_cons_zero, List.set_cons_succ]))
        | (refine text_off hT9.out (by rfl) ?_; (try simp only [Act.put, List.setIfInBounds_toArray, List.set_cons_zero, List.set_cons_succ]))
        | (refine text_call (v := ?_) (f := ?_) (args := ?_) hT9.out (by rfl) ?_ ?_ ?_; rotate_left 3; (focus (intro w5 hS; obtain ⟨q6, q7, q8, q9, q10⟩ := HC2.out _ hS; have r9 := hS.rule 9 rfl; unfold thv at r9; go_simp; constructor <;> with_reducible rfl)); (focus (intro w5 hS; (first | fail))); (try simp only [Act.put, List.setIfInBounds_toArray, List.set_cons_zero, List.set_cons_succ])))
      refine InText.nil fun w5 hS5 => ?_
      clear hT9
      clear hE5 HC2
      go_wp2_with fail
      exact ⟨⟨z + 1, by omega, by simp, hS5⟩, by simp [intOf]; omega⟩
    · have hb3 : decide ((z : Int) < T.ql.length) = false := by simp; omega
      go_wp2_with fail
      go_ret
      exact ⟨rfl, hE5.sub (.cons _ (.cons _ (List.Sublist.refl _)))⟩
end
end Go.Proofs.YtmifdkbpbkafjaaGreatDoor

/- Threads, all of them: what they are in memory together; a step of one; the start. -/
namespace Go.Proofs.YtmifdkbpbkafjaaGreatDoor
open Go.RowKit Go.Maps
set_option maxRecDepth 100000

/-- All that turns. -/
structure GS where
  (ps : List Pk)
  (G FU : Nat → Prop)
  (qc : Cnt)
  (n : Nat)
  (ml : List OneR)
def EL (C : Cf) (sl : Value) (p cc m : Nat) (S : GS) (L : List Item) : List Item :=
  tpsI sl (S.ps.map fun q => q.X.thr) :: wbox p cc :: cellI cc S.G (getL S.ml) S.qc S.n :: refI m S.FU S.ml :: (S.ps.flatMap (Pk.its C) ++ L)
def vm (p cc m : Nat) : Wm := ⟨p, cc, m, fun _ => False, fun _ => False, ⟨0, 0, 0, 0, 0⟩, 0, []⟩
/-- What lies behind a thread's things. -/
def RL (C : Cf) (sl : Value) (S : GS) (i : Nat) (L : List Item) : List Item := tpsI sl (S.ps.map fun q => q.X.thr) :: ((S.ps.eraseIdx i).flatMap (Pk.its C) ++ L)
/-- One thread's things in front. -/
def TL (C : Cf) (p cc m : Nat) (S : GS) (q : Pk) (R : List Item) : List Item :=
  LT (SP C q.X (vm p cc m) q.T (getL S.ml) S.G S.qc S.n) (LU (SR C q.X (vm p cc m) q.T S.FU S.ml) (boxI q.X.thr (thv q.X q.T) :: (q.ms ++ R)))
theorem idx_perm {α : Type} {q : α} : ∀ {l : List α} {i : Nat}, l[i]? = some q → l.Perm (q :: l.eraseIdx i)
  | [], _, h => by simp at h
  | a :: l, 0, h => by
    simp at h
    subst h
    exact List.Perm.refl _
  | a :: l, i + 1, h => by
    have h' : l[i]? = some q := by simpa using h
    exact ((idx_perm h').cons a).trans (List.Perm.swap _ _ _)
theorem EL_perm {C : Cf} {sl : Value} {p cc m : Nat} {S : GS} {L : List Item} {i : Nat} {q : Pk} (hi : S.ps[i]? = some q) : (EL C sl p cc m S L).Perm (TL C p cc m S q (RL C sl S i L)) := by
  have h := (idx_perm hi).flatMap_right (Pk.its C)
  refine perm_of fun z => ?_
  have hc := h.count_eq z
  simp only [EL, TL, RL, LT, LU, SP, SR, vm, Pk.its, List.flatMap_cons, List.count_cons, List.count_append] at hc ⊢
  omega
/-- What holds of a thread, of all. -/
structure OkP (C : Cf) (B : Nat) (q : Pk) (r : Rw) : Prop where
  (t : OkT C r.ds B q.T)
  (m : Mach C (r.ds.getD (q.T.nd - 1) default) q.X q.T q.ms)
  (dA : q.X.dA = r.A)
  (dn : q.X.dn = r.ds.length)
  (N : 0 ≤ q.X.N ∧ q.X.N ≤ 4000000)
/-- What is asked of a row of deeds. -/
structure OkD (w0 : World) (L : List Item) (r : Rw) : Prop where
  (row : DsAt w0 L r.A r.ds)
  (len : r.ds.length ≤ 1000)
  (ins : ∀ d ∈ r.ds, InU d.key ∧ InU d.val)
structure OkR (w0 : World) (r : Rw) : Prop where
  (row : RowX encD 5 w0 r.A r.ds)
  (len : r.ds.length ≤ 40)
  (ins : ∀ d ∈ r.ds, InU d.key ∧ InU d.val)
structure GOk (C : Cf) (rs : List Rw) (B : Nat) (S : GS) : Prop where
  (f : OkF C (getL S.ml))
  (n : S.n ≤ B)
  (ml : S.ml.length ≤ B)
  (len : S.ps.length = rs.length)
  (ps : ∀ i, i < rs.length → ∃ q, S.ps[i]? = some q ∧ OkP C B q (rs.getD i default))
theorem OkP.more {C : Cf} {B : Nat} {q : Pk} {r : Rw} (h : OkP C B q r) : OkP C (B + 1) q r := { h with t := h.t.more }

section
variable {w0 w : World} {C : Cf} {sl : Value} {p cc m : Nat} {S : GS} {L : List Item} {rs : List Rw} {B : Nat}
theorem Env.toT {i : Nat} {q : Pk} (h : Env w0 (EL C sl p cc m S L) w) (hi : S.ps[i]? = some q) : Env w0 (TL C p cc m S q (RL C sl S i L)) w := h.perm (EL_perm hi)
theorem Env.toE {i : Nat} {q : Pk} (h : Env w0 (TL C p cc m S q (RL C sl S i L)) w) (hi : S.ps[i]? = some q) : Env w0 (EL C sl p cc m S L) w := h.perm (EL_perm hi).symm
set_option maxHeartbeats 1600000 in
theorem step_pL (hg : Glo w0) (hC : COk C) {i : Nat} (hr : OkD w0 L (rs.getD i default)) (hS : GOk C rs B S) (hB : B + 1 ≤ 900000) (hi : i < rs.length) {q : Pk} (hq : S.ps[i]? = some q) (hE : Env w0 (EL C sl p cc m S L) w) :
    Calls Tryz.prog 14 #[.pointer (some ⟨q.X.thr, 0, none⟩), .pointer (some ⟨p, 0, none⟩), .pointer (some ⟨m, 0, none⟩)] w fun o w' => o = .returned (.bool true) ∧ ∃ (S' : GS) (q' : Pk), S'.ps = S.ps.set i q' ∧ q'.X.thr = q.X.thr ∧ q'.X.dc = q.X.dc ∧ q'.T = (stepM C (rs.getD i default).ds q.T (getL S.ml)).1 ∧ getL S'.ml = (stepM C (rs.getD i default).ds q.T (getL S.ml)).2 ∧ GOk C rs (B + 1) S' ∧ Env w0 (EL C sl p cc m S' L) w' := by
  obtain ⟨q0, hq0, hP⟩ := hS.ps i hi
  obtain rfl : q0 = q := by rw [hq] at hq0; exact (Option.some.inj hq0).symm
  have hE1 := hE.toT hq
  refine (step_t (X := q0.X) (V := vm p cc m) (T := q0.T) (G := S.G) (FU := S.FU) (qc := S.qc) (n := S.n) (ml := S.ml) (R := RL C sl S i L) (rs.getD i default).ds B q0.ms hg hC hS.f hP.t (by omega) (by rw [hP.dA]; exact hr.row.sub (fun a ha => by simp [RL, ha])) hP.dn hr.len hr.ins (by have := hS.n; unfold maxLen; omega) (by have := hS.ml; omega) hP.N hP.m hE1).mono ?_
  rintro o w' ⟨ho, X', G', FU', qc', n', ml', ms', hsame, hml', hl', hn', hN0, hN1, hM', hE'⟩
  obtain ⟨T', hT'⟩ : ∃ T', T' = (stepM C (rs.getD i default).ds q0.T (getL S.ml)).1 := ⟨_, rfl⟩
  rw [← hT'] at hM' hE'
  have hil : i < S.ps.length := by rw [hS.len]; exact hi
  have hq' : (S.ps.set i ⟨X', T', ms'⟩)[i]? = some ⟨X', T', ms'⟩ := by simp [hil]
  have hmap : (S.ps.set i ⟨X', T', ms'⟩).map (fun q => q.X.thr) = S.ps.map fun q => q.X.thr := by
    apply List.ext_getElem?
    intro k
    simp only [List.getElem?_map]
    by_cases hk : k = i
    · subst hk
      rw [hq', hq]
      simp only [Option.map_some]
      rw [hsame.1]
    · rw [List.getElem?_set_ne (fun e => hk e.symm)]
  have hE2 : Env w0 (EL C sl p cc m ⟨S.ps.set i ⟨X', T', ms'⟩, G', FU', qc', n', ml'⟩ L) w' := by
    refine Env.toE (i := i) (q := ⟨X', T', ms'⟩) ?_ hq'
    show Env w0 (LT _ (LU _ (_ :: (ms' ++ (tpsI sl ((S.ps.set i ⟨X', T', ms'⟩).map fun q => q.X.thr) :: (((S.ps.set i ⟨X', T', ms'⟩).eraseIdx i).flatMap (Pk.its C) ++ L)))))) w'
    rw [hmap, List.eraseIdx_set_eq]
    exact hE'
  have hu : ∀ x, InU ((stepM C (rs.getD i default).ds q0.T (getL S.ml)).2 x) := fun x => by
    rw [← hml']
    exact (hE'.cell 3 rfl).words.1 x
  have hok := step_ok hC hS.f hP.t hu
  refine ⟨ho, ⟨S.ps.set i ⟨X', T', ms'⟩, G', FU', qc', n', ml'⟩, ⟨X', T', ms'⟩, rfl, hsame.1, hsame.2.2.2.2.2.2, hT', hml', ⟨?_, ?_, ?_, ?_, ?_⟩, hE2⟩
  · show OkF C (getL ml')
    rw [hml']
    exact hok.1
  · have := hS.n
    show n' ≤ B + 1
    omega
  · have := hS.ml
    show ml'.length ≤ B + 1
    omega
  · show (S.ps.set i ⟨X', T', ms'⟩).length = rs.length
    rw [List.length_set]
    exact hS.len
  · intro k hk
    by_cases he : k = i
    · subst he
      exact ⟨_, hq', by show OkT C _ _ T'; rw [hT']; exact hok.2, by show Mach C _ X' T' ms'; exact hM', by show X'.dA = _; rw [hsame.2.2.2.2.1]; exact hP.dA, by show X'.dn = _; rw [hsame.2.2.2.2.2.1]; exact hP.dn, ⟨hN0, hN1⟩⟩
    · obtain ⟨q9, h1, h2⟩ := hS.ps k hk
      exact ⟨q9, by show (S.ps.set i _)[k]? = _; rw [List.getElem?_set_ne (fun e => he e.symm)]; exact h1, h2.more⟩
theorem OkR.ok {r : Rw} (h : OkR w0 r) : OkD w0 L r := ⟨DsAt.of_row h.row, by have := h.len; omega, h.ins⟩
theorem step_pk (hg : Glo w0) (hC : COk C) (hR : ∀ i, i < rs.length → OkR w0 (rs.getD i default)) (hS : GOk C rs B S) (hB : B + 1 ≤ 900000) {i : Nat} (hi : i < rs.length) {q : Pk} (hq : S.ps[i]? = some q) (hE : Env w0 (EL C sl p cc m S L) w) :
    Calls Tryz.prog 14 #[.pointer (some ⟨q.X.thr, 0, none⟩), .pointer (some ⟨p, 0, none⟩), .pointer (some ⟨m, 0, none⟩)] w fun o w' => o = .returned (.bool true) ∧ ∃ (S' : GS) (q' : Pk), S'.ps = S.ps.set i q' ∧ q'.X.thr = q.X.thr ∧ q'.X.dc = q.X.dc ∧ q'.T = (stepM C (rs.getD i default).ds q.T (getL S.ml)).1 ∧ getL S'.ml = (stepM C (rs.getD i default).ds q.T (getL S.ml)).2 ∧ GOk C rs (B + 1) S' ∧ Env w0 (EL C sl p cc m S' L) w' :=
  step_pL hg hC (hR i hi).ok hS hB hi hq hE
theorem same_pk (hS : GOk C rs B S) (hB : B ≤ 900000) {i : Nat} (hi : i < rs.length) {q : Pk} (hq : S.ps[i]? = some q) (hE : Env w0 (EL C sl p cc m S L) w) :
    Calls Tryz.prog 15 #[.pointer (some ⟨q.X.thr, 0, none⟩)] w fun o w' => o = .returned (.bool true) ∧ Env w0 (EL C sl p cc m S L) w' := by
  obtain ⟨q0, hq0, hP⟩ := hS.ps i hi
  obtain rfl : q0 = q := by rw [hq] at hq0; exact (Option.some.inj hq0).symm
  refine (same_t (X := q0.X) (V := vm p cc m) (T := q0.T) (f := getL S.ml) (G := S.G) (FU := S.FU) (qc := S.qc) (n := S.n) (ml := S.ml) (R := q0.ms ++ RL C sl S i L) (by have := hP.t.len; omega) (hE.toT hq)).mono ?_
  rintro o w' ⟨ho, hE'⟩
  exact ⟨ho, Env.toE hE' hq⟩
theorem T0_ok (hC : COk C) {ds : List Dd} (hd : ds.length ≤ B) : OkT C ds B T0 := by
  have hs := hC.s
  have hl := hC.l
  have hz : slotI 0 = 0 := by decide
  have hu0 : InU 0 := by unfold InU; omega
  exact { e := (by show (0 : Int) ≤ 0 ∧ (0 : Int) ≤ C.l; omega), w := ⟨hu0, hu0, hu0⟩, hs := (by show (0 : Int) ≤ 0 ∧ (0 : Int) ≤ C.s; omega), rs := (by show (0 : Int) ≤ 0 ∧ (0 : Int) ≤ C.s; omega), ql := (by intro x hx; cases hx), nd := Nat.zero_le _, len := (by show 0 + (ds.length - 0) ≤ B; omega), done := (by show (0 : Int) ≤ 0 ∧ (0 : Int) ≤ B; omega), pc := .inl rfl, p1 := fun h => no h rfl, nd1 := fun h => absurd rfl h, apc := fun h => no h rfl, low := fun h => no h rfl, adv := fun h => no h rfl, born := fun h => no h rfl, pool := fun h => no h rfl, an := (by show slotI 0 ≤ C.s; omega), rpc := fun h => no h rfl, rsp := fun h => no h rfl, re := (by show (0 : Int) ≤ 0 ∧ (0 : Int) ≤ C.l; omega), gpc := Nat.zero_le 3, give := fun h => no h rfl, ghu := hu0, gh := (by show slotI 0 ≤ C.s; omega), gv := fun h => no h rfl }
/-- The memory ahead of the first step. -/
def ml0 : List OneR := setL [] (1, 0, 0) 1
theorem start_ok (hC : COk C) (hR : ∀ i, i < rs.length → OkR w0 (rs.getD i default)) (hlen : S.ps.length = rs.length) (hps : ∀ i, i < rs.length → ∃ q, S.ps[i]? = some q ∧ New0 q (rs.getD i default)) (hml : S.ml = ml0) (hn : S.n ≤ 1) : GOk C rs 40 S := by
  have hs := hC.s
  have hl := hC.l
  have hz : slotI 0 = 0 := by decide
  have hg : ∀ x, getL S.ml x = if x = (1, 0, 0) then 1 else 0 := fun x => by
    rw [hml]
    show getL [((1, 0, 0), 1)] x = _
    simp only [getL]
    by_cases hx : x = (1, 0, 0)
    · rw [if_pos hx.symm, if_pos hx]
    · rw [if_neg (fun e => hx e.symm), if_neg hx]
  refine ⟨⟨fun x => ?_, ?_, fun i => ?_, ?_⟩, by omega, by rw [hml]; decide, hlen, fun i hi => ?_⟩
  · rw [hg]
    split <;> (unfold InU; omega)
  · rw [hg, if_neg (by decide)]; omega
  · rw [hg, if_neg (by simp)]; omega
  · rw [hg, if_pos rfl]; omega
  · obtain ⟨q, h1, h2, h3, h4, h5, h6, h7, -⟩ := hps i hi
    refine ⟨q, h1, ?_, ?_, h2, h3, ⟨h6, h7⟩⟩
    · rw [h4]
      exact T0_ok hC (hR i hi).len
    · rw [h4, h5]
      unfold Mach T0
      dsimp only
      rw [if_neg (by decide), if_neg (by decide), if_neg (by decide)]
end
end Go.Proofs.YtmifdkbpbkafjaaGreatDoor

/- Threads among other boxes; a queue's head, whatever it is. -/
namespace Go.Proofs.YtmifdkbpbkafjaaGreatDoor
open Go.RowKit Go.Maps
set_option maxRecDepth 100000

section
variable {w0 w : World} {C : Cf} {sl : Value} {p cc m : Nat} {S : GS} {L : List Item} {a : Item}
theorem EL_cons : (a :: EL C sl p cc m S L).Perm (EL C sl p cc m S (a :: L)) := by
  refine perm_of fun z => ?_
  simp only [EL, List.count_cons, List.count_append]
  omega
theorem Env.inE (h : Env w0 (a :: EL C sl p cc m S L) w) : Env w0 (EL C sl p cc m S (a :: L)) w := h.perm EL_cons
theorem Env.outE (h : Env w0 (EL C sl p cc m S (a :: L)) w) : Env w0 (a :: EL C sl p cc m S L) w := h.perm EL_cons.symm
theorem Env.boxE {n : Nat} {vs : List Value} (h : Env w0 (EL C sl p cc m S L) w) (ha : boxI n vs ∈ L) : ∀ j, w.cell? ⟨n, j, none⟩ = vs[j]? :=
  Blk.rule ((h.2.2 (boxI n vs) (by simp [EL, ha])).1)
theorem Env.dropE (h : Env w0 (EL C sl p cc m S (a :: L)) w) : Env w0 (EL C sl p cc m S L) w := h.outE.sub (.cons _ (List.Sublist.refl _))
theorem head_q {w : World} {q k : Nat} {F : Nat → Prop} {l : List Trip} (hQ : IsQ w q F l k) :
    Calls Tryz.prog 21 #[.pointer (some ⟨q, 0, none⟩)] w fun e w' => e = .returned (.tuple #[.agg #[.int .i64 (l.headD t0).1, .int .i64 (l.headD t0).2.1, .int .i64 (l.headD t0).2.2], .bool (!l.isEmpty)]) ∧ Below w.heap.size w w' := by
  rcases l with _ | ⟨⟨x, y, z⟩, l⟩
  · exact headNone_any hQ
  · exact head_any x y z hQ
/-- What is read of a thread. -/
theorem Env.thrE {i : Nat} {q : Pk} (h : Env w0 (EL C sl p cc m S L) w) (hq : S.ps[i]? = some q) : ∀ j, w.cell? ⟨q.X.thr, j, none⟩ = (thv q.X q.T)[j]? := (h.toT hq).rule 7 rfl
theorem Env.coreE {i : Nat} {q : Pk} (h : Env w0 (EL C sl p cc m S L) w) (hq : S.ps[i]? = some q) : Blk 0 w q.X.c (crv C.k C.s C.b C.h C.l q.T.e q.X.cr q.T.hs 0 q.X.q) := (h.toT hq).get 0 rfl
theorem Env.queE {i : Nat} {q : Pk} (h : Env w0 (EL C sl p cc m S L) w) (hq : S.ps[i]? = some q) : IsQ w q.X.q q.X.F q.T.ql q.X.kq := (h.toT hq).queue 1 rfl
theorem peek_E (x y z : Int) (hx : Wf (x, y, z)) (h : Env w0 (EL C sl p cc m S L) w) :
    Calls Tryz.prog 23 #[.pointer (some ⟨p, 0, none⟩), .agg #[.int .i64 x, .int .i64 y, .int .i64 z]] w fun e w' => e = .returned (.int .u64 (getL S.ml (x, y, z))) ∧ Below w.heap.size w w' := peek_w x y z hx 1 2 h rfl rfl
end
end Go.Proofs.YtmifdkbpbkafjaaGreatDoor

/- An array of 64 marks in a block of the call's own. -/
namespace Go.Proofs.YtmifdkbpbkafjaaGreatDoor
open Go.RowKit
set_option maxRecDepth 100000

/-- 64 marks, none set. -/
def zero64 : Array Value := Array.replicate 64 (.bool false)
theorem build64 (w : World) : (Instr.build 117 #[]).run Tryz.prog w = .ok (.agg zero64) w := by kernel_rfl
theorem size64 : (Tryz.prog.info? 117).map (·.size) = some zero64.size := by kernel_rfl

/-- The marks of a block, as a function. -/
def Used (h : Nat) (w wr : World) (T : Nat → Bool) : Prop := (∀ i, i < 64 → wr.cell? ⟨h, i, none⟩ = some (.bool (T i)) ∧ wr.frozen? ⟨h, i, none⟩ = false) ∧ Below h w wr ∧ h < wr.heap.size
theorem Used.below {h : Nat} {w wr w1 : World} {T : Nat → Bool} (u : Used h w wr T) (hb : Below wr.heap.size wr w1) : Used h w w1 T := by
  obtain ⟨u1, u2, u3⟩ := u
  refine ⟨fun i hi => ?_, u2.trans (hb.mono (by omega)), by have := hb.size; omega⟩
  rw [hb.cell (p := ⟨h, i, none⟩) u3, hb.frozen (p := ⟨h, i, none⟩) u3]
  exact u1 i hi
theorem Used.store {h : Nat} {w wr : World} {T : Nat → Bool} (u : Used h w wr T) {j : Nat} (hj : j < 64) : Used h w (wr.setCell ⟨h, j, none⟩ (.bool true)) (fun i => T i || decide (i = j)) := by
  obtain ⟨u1, u2, u3⟩ := u
  refine ⟨fun i hi => ?_, u2.setCell (Nat.le_refl _) _, by simpa using u3⟩
  rw [World.frozen?_setCell]
  refine ⟨?_, (u1 i hi).2⟩
  by_cases hij : i = j
  · subst hij
    rw [World.cell?_setCell_same _ _ _ (u1 i hi).1]
    simp
  · rw [World.cell?_setCell_other _ _ _ _ (by first | (simp; done) | (simp; omega)), (u1 i hi).1]
    simp [hij]
theorem below_setCells {B : Nat} {a : World} {b : Nat} (hb : B ≤ b) : ∀ (vs : List Value) (o : Nat) (w : World), Below B a w → Below B a (w.setCells b o vs)
  | [], _, _, h => h
  | _ :: r, o, _, h => below_setCells hb r (o + 1) _ (h.setCell hb _)
theorem size_setCells (b : Nat) : ∀ (vs : List Value) (o : Nat) (w : World), (w.setCells b o vs).heap.size = w.heap.size
  | [], _, _ => rfl
  | _ :: r, o, w => by rw [World.setCells, size_setCells b r]; simp
theorem used_new (w : World) : Used w.heap.size w ((w.alloc (.cells zero64 117)).setCells w.heap.size 0 zero64.toList) (fun _ => false) := by
  have hg : (w.alloc (.cells zero64 117)).heap[w.heap.size]? = some (.cells zero64 117 (0, 0)) := heap_alloc_new w _
  have ht : (w.alloc (.cells zero64 117)).there w.heap.size 0 zero64.toList.length := fun j hj => by
    rw [Nat.zero_add]
    refine ⟨?_, frozen_of_row _ _ _ _ _ hg⟩
    rw [cell_of_row _ _ _ _ _ _ hg]
    have : j < zero64.size := by simpa using hj
    simp [this]
  refine ⟨fun i hi => ?_, below_setCells (Nat.le_refl _) _ _ _ ((Below.refl _ _).alloc (Nat.le_refl _) _), by rw [size_setCells]; simp⟩
  have h1 := World.rangeAt_setCells_same (w.alloc (.cells zero64 117)) w.heap.size 0 zero64.toList ht i (.bool false) (by unfold zero64; rw [Array.toList_replicate, List.getElem?_replicate]; simp only [hi, if_true])
  rw [Nat.zero_add] at h1
  refine ⟨h1, ?_⟩
  rw [World.frozen?_setCells]
  exact frozen_of_row _ _ _ _ _ hg

/-- 'used := [64]bool{}': one step of the walk. -/
theorem list_used {ops : Array Oper} {rest : List Oper} {o1 o2 o3 : Oper} {a : Act} {w : World} {Q : Exit → Act → World → Prop} (g1 : o1.guard = none) (g2 : o2.guard = none) (g3 : o3.guard = none)
    (h1 : o1.op = .build 117 #[]) (h2 : o2.op = .alloc 117) (x y : Operand) (h3 : o3.op = .store 117 x y)
    (hx : ((a.put o1.dst (.agg zero64)).put o2.dst (.pointer (some ⟨w.heap.size, 0, none⟩))).eval x = .pointer (some ⟨w.heap.size, 0, none⟩)) (hy : ((a.put o1.dst (.agg zero64)).put o2.dst (.pointer (some ⟨w.heap.size, 0, none⟩))).eval y = .agg zero64)
    (h : ∀ w2, Used w.heap.size w w2 (fun _ => false) → wpList Tryz.prog ops Q rest (((a.put o1.dst (.agg zero64)).put o2.dst (.pointer (some ⟨w.heap.size, 0, none⟩))).put o3.dst undef) w2) : wpList Tryz.prog ops Q (o1 :: o2 :: o3 :: rest) a w := by
  refine wpList_plain g1 fun K1 hK1 => ?_
  unfold Oper.wp
  have e1 : (execOp a.eval o1).run Tryz.prog w = .ok (.value (.agg zero64)) w := by
    have hb := build64 w
    unfold execOp
    simp only [h1]
    rw [Array.map_empty]
    simp [hb]
  rw [e1]
  refine hK1 _ _ ?_
  refine wpList_plain g2 fun K2 hK2 => ?_
  unfold Oper.wp
  have e2 : (execOp (a.put o1.dst (.agg zero64)).eval o2).run Tryz.prog w = .ok (.value (.pointer (some ⟨w.heap.size, 0, none⟩))) (w.alloc (.cells zero64 117)) := by
    unfold execOp
    simp only [h2]
    kernel_rfl
  rw [e2]
  refine hK2 _ _ ?_
  exact wpList_store_mid g3 117 x y h3 w.heap.size 0 zero64 hx hy (fun j hj => by
    have hg : (w.alloc (.cells zero64 117)).heap[w.heap.size]? = some (.cells zero64 117 (0, 0)) := heap_alloc_new w _
    rw [Nat.zero_add]
    refine ⟨?_, frozen_of_row _ _ _ _ _ hg⟩
    rw [cell_of_row _ _ _ _ _ _ hg]
    simp [hj]) size64 (by decide +kernel) (h _ (used_new w))

/-- The marks as a thing. -/
def usedI (B : Nat) (T : Nat → Bool) : Item where
  F := fun k => k = B
  says := fun w => B < w.heap.size ∧ ∀ i, i < 64 → w.cell? ⟨B, i, none⟩ = some (.bool (T i)) ∧ w.frozen? ⟨B, i, none⟩ = false
  loc := fun w1 w2 h hk hs => ⟨Nat.lt_of_lt_of_le h.1 hs, fun i hi => by
    have hb := hk B rfl
    obtain ⟨h1, h2⟩ := h.2 i hi
    exact ⟨by rw [World.cell?_of_block (w := w1) hb]; exact h1, by rw [World.frozen?_of_block (w := w1) hb]; exact h2⟩⟩
theorem Env.used {w0 w w' : World} {L : List Item} {T : Nat → Bool} (h : Env w0 L w) {B : Nat} (hB : w.heap.size = B) (hu : Used B w w' T) : Env w0 (usedI B T :: L) w' := by
  subst hB
  exact h.add (usedI w.heap.size T) hu.2.1 ⟨hu.2.2, hu.1⟩ fun k hk => by cases hk; exact ⟨Nat.le_refl _, hu.2.2⟩
theorem Env.mark {w0 w : World} {L : List Item} {B : Nat} {T : Nat → Bool} (h : Env w0 L w) (i : Nat) (hi : L[i]? = some (usedI B T)) {j : Nat} (hj : j < 64) : Env w0 (L.set i (usedI B (fun k => T k || decide (k = j)))) (w.setCell ⟨B, j, none⟩ (.bool true)) := by
  have hs : (usedI B T).says w := h.get i hi
  refine h.step i (usedI B (fun k => T k || decide (k = j))) hi ⟨(Turn.refl (fun k => k = B) w).setCell (p := ⟨B, j, none⟩) (fun _ => rfl) _, fun k hk => .inl hk⟩ ⟨by simpa using hs.1, fun k hk => ?_⟩ fun k hk => by
    have := h.lt i hi k hk
    simpa using this
  rw [World.frozen?_setCell]
  refine ⟨?_, (hs.2 k hk).2⟩
  by_cases hkj : k = j
  · subst hkj
    rw [World.cell?_setCell_same _ _ _ (hs.2 k hk).1]
    simp
  · rw [World.cell?_setCell_other _ _ _ _ (by first | (simp; done) | (simp; omega)), (hs.2 k hk).1]
    simp [hkj]
end Go.Proofs.YtmifdkbpbkafjaaGreatDoor

/- Threads: the contract of apart. -/
namespace Go.Proofs.YtmifdkbpbkafjaaGreatDoor
open Go.RowKit Go.Maps
set_option maxRecDepth 100000

/-- What a thread holds and has queued. -/
def hqP (q : Pk) : List Int := hq q.T.hs q.T.ql
theorem take_flat {α : Type} {β : Type} (g : α → List β) {l : List α} {i : Nat} {q : α} (hi : l[i]? = some q) : (l.take (i + 1)).flatMap g = (l.take i).flatMap g ++ g q := by
  rw [List.take_add_one, hi]
  simp
theorem tuple_in {α : Type} {l : List α} {i : Nat} {q : α} (h : l[i]? = some q) : q ∈ l := List.mem_of_getElem? h
theorem flat_take_len {α : Type} {β : Type} (g : α → List β) (l : List α) (i : Nat) : ((l.take i).flatMap g).length ≤ (l.flatMap g).length := by
  have : (l.flatMap g) = (l.take i).flatMap g ++ (l.drop i).flatMap g := by rw [← List.flatMap_append, List.take_append_drop]
  rw [this, List.length_append]
  omega

section
variable {w0 w : World} {C : Cf} {p cc m : Nat} {S : GS} {L : List Item} {rs : List Rw} {B g cp : Nat} {P : List Int}
set_option maxHeartbeats 6400000 in
theorem apart_t (hg : Glo w0) (hC : COk C) (hs40 : C.s ≤ 40) (hgo : GOk C rs B S) (hB : B ≤ 900000) (hlen4 : rs.length ≤ 4) (hpath : Path (getL S.ml) (slotI (getL S.ml (2, 0, 0))) P)
    (hnd : (S.ps.flatMap hqP ++ P).Nodup) (hin : ∀ x ∈ S.ps.flatMap hqP ++ P, 1 ≤ x ∧ x ≤ C.s) (hle : ((S.ps.flatMap hqP ++ P).length : Int) ≤ C.s) (hE : Env w0 (EL C (.slice (some ⟨g, 0, none⟩) rs.length cp) p cc m S L) w) :
    Calls Tryz.prog 18 #[.slice (some ⟨g, 0, none⟩) rs.length cp, .pointer (some ⟨p, 0, none⟩), .int .i64 C.s] w fun o w' => o = .returned (.tuple #[.int .i64 ((S.ps.flatMap hqP ++ P).length : Int), .bool true]) ∧ Env w0 (EL C (.slice (some ⟨g, 0, none⟩) rs.length cp) p cc m S L) w' := by
  have HE := Lib.hid hE
  have HG := Lib.hid hg
  have HND := Lib.hid hnd
  have HIN := Lib.hid hin
  have HLE := Lib.hid hle
  have HP := Lib.hid hpath
  have hl9 : (S.ps.flatMap hqP ++ P).length ≤ 40 := by omega
  have HC := Lib.hid hC
  obtain ⟨N, hN⟩ : ∃ N, (S.ps.flatMap hqP ++ P).length = N := ⟨_, rfl⟩
  rw [hN]
  have HN := Lib.hid hN
  clear hN
  clear hE hg hnd hin hle hpath hC
  go_enter Tryz.func18, Tryz.ntmps18
  go_wp2_with (first | (refine list_used rfl rfl rfl rfl rfl _ _ rfl rfl rfl ?_; intro w2 hu))
  have hE := (HE.out.used rfl hu).addEmpty w2.heap.size rfl
  generalize w.heap.size = B0 at *
  clear hu
  go_loopw [10, 11] (fun rv iv wr => ∃ (j : Nat) (zs : List Int) (g9 c9 : Nat), j ≤ rs.length ∧ iv = .int .i64 j ∧ rv = .slice (some ⟨g9, 0, none⟩) zs.length c9 ∧ zs = (S.ps.take j).flatMap hqP ∧ Env w0 (intsI (.slice (some ⟨g9, 0, none⟩) zs.length c9) zs :: usedI B0 (fun _ => false) :: EL C (.slice (some ⟨g, 0, none⟩) rs.length cp) p cc m S L) wr) (fun _ iv _ => rs.length - (intOf iv).toNat)
  case atStart => exact ⟨0, [], w2.heap.size, 0, Nat.zero_le _, rfl, rfl, rfl, hE⟩
  case round =>
    clear hE
    obtain ⟨j, zs, g9, c9, hj, rfl, rfl, hzs, hE⟩ := hrel
    have hzl : zs.length ≤ 40 := by
      have h1 := flat_take_len hqP S.ps j
      rw [← hzs] at h1
      rw [List.length_append] at hl9
      omega
    by_cases hlt : j < rs.length
    · have hb1 : decide ((j : Int) < (rs.length : Int)) = true := by simp; omega
      have hlti : (j : Int) < (rs.length : Int) := by omega
      obtain ⟨q, hq, hQ⟩ := hgo.ps j hlt
      have htq : wr.cell? ⟨g, j, none⟩ = some (.pointer (some ⟨q.X.thr, 0, none⟩)) := by
        have := hE.tpAt 2 rfl j (by rw [List.length_map, hgo.len]; exact hlt)
        rw [this]
        simp [List.getD_eq_getElem?_getD, hq]
      have hEL : Env w0 (EL C (.slice (some ⟨g, 0, none⟩) rs.length cp) p cc m S L) wr := hE.sub (.cons _ (.cons _ (List.Sublist.refl _)))
      have r7 := hEL.thrE hq
      unfold thv at r7
      have hqn := hQ.t.len
      have HZ := Lib.hid hzs
      have HQ := Lib.hid hQ
      clear hzs hQ
      go_wp2_with fail
      refine (held_c (hEL.coreE hq)).mono ?_
      rintro o w5 ⟨rfl, hb⟩
      replace hE := hE.over hb
      clear hb r7 hEL htq
      replace hE := hE.box w5.heap.size rfl [.int .i64 q.T.hs, .int .i64 0] 67
      have htq : (w5.alloc (.cells #[.int .i64 q.T.hs, .int .i64 0] 67)).cell? ⟨g, j, none⟩ = some (.pointer (some ⟨q.X.thr, 0, none⟩)) := by
        have := hE.tpAt 3 rfl j (by rw [List.length_map, hgo.len]; exact hlt)
        rw [this]
        simp [List.getD_eq_getElem?_getD, hq]
      have hEL : Env w0 (EL C (.slice (some ⟨g, 0, none⟩) rs.length cp) p cc m S L) _ := hE.sub (.cons _ (.cons _ (.cons _ (List.Sublist.refl _))))
      have r7 := hEL.thrE hq
      unfold thv at r7
      have r0 := hE.rule 0 rfl
      by_cases hz0 : q.T.hs = 0
      case' pos =>
        have hb2 : (q.T.hs != 0) = false := by simp [hz0]
        obtain ⟨zs7, hz7⟩ : ∃ zs7, zs7 = zs := ⟨_, rfl⟩
        have hz8 : zs7 = zs ++ (if q.T.hs = 0 then [] else [q.T.hs]) := by rw [if_pos hz0, hz7]; simp
        have HZ0 := Lib.hid hz0
        have HZ8 := Lib.hid hz8
        rw [← hz7] at hE
        have hln : zs.length = zs7.length := by rw [hz7]
        rw [hln]
        clear hz0 hz7 hz8 hln
        go_upto_region 10 with fail
        have hE6 := hE
        clear hE hEL r7 htq r0 hb2
        generalize w5.alloc _ = w6 at *
      case' neg =>
        have hb2 : (q.T.hs != 0) = true := by simp [hz0]
        obtain ⟨g6, c6, w6, hrun, hE6, -⟩ := hE.append1 1 rfl q.T.hs (by omega) (w5.heap.size + 1) (by simp)
        obtain ⟨zs7, hz7⟩ : ∃ zs7, zs7 = zs ++ [q.T.hs] := ⟨_, rfl⟩
        have hz8 : zs7 = zs ++ (if q.T.hs = 0 then [] else [q.T.hs]) := by rw [if_neg hz0, hz7]
        have hln : zs.length + 1 = zs7.length := by rw [hz7]; simp
        rw [hln] at hrun hE6
        rw [← hz7] at hE6
        simp only [List.set_cons_succ, List.set_cons_zero] at hE6
        have HRUN := Lib.hid hrun
        have HZ0 := Lib.hid hz0
        have HZ8 := Lib.hid hz8
        clear hrun hz0 hE hEL r7 htq hz7 hln hz8
        go_upto_region 10 with (first | (at_builtin; refine wpList_append_run rfl _ _ 25 rfl HRUN.out rfl rfl ?_))
        clear HRUN r0 hb2
      all_goals
        generalize w5.heap.size = Z at *
        have hEL : Env w0 (EL C (.slice (some ⟨g, 0, none⟩) rs.length cp) p cc m S L) w6 := hE6.sub (.cons _ (.cons _ (.cons _ (List.Sublist.refl _))))
        have htq : w6.cell? ⟨g, j, none⟩ = some (.pointer (some ⟨q.X.thr, 0, none⟩)) := by
          have := hE6.tpAt 3 rfl j (by rw [List.length_map, hgo.len]; exact hlt)
          rw [this]
          simp [List.getD_eq_getElem?_getD, hq]
        have r7 := hEL.thrE hq
        unfold thv at r7
        go_wp2_with fail
        refine (queue_c (hEL.coreE hq)).mono ?_
        rintro o w8 ⟨rfl, rfl⟩
        go_wp2_with fail
        refine (list_any (hEL.queE hq)).mono ?_
        rintro o w9 ⟨bL, rfl, hL, hbL, hb⟩
        replace hE6 := hE6.add (boxI bL (flat3 q.T.ql)) hb hL (fun y hy => by cases hy; exact ⟨hbL, hL.1⟩)
        clear hb hL hbL r7 htq hEL
        have hq8 : q.T.ql.length ≤ 900000 := by omega
        have hz9 : zs7.length ≤ 41 := by
          rw [HZ8.out, List.length_append]
          split <;> simp <;> omega
        go_wp2_with fail
        go_loopw [10, 15] (fun rv kv v => ∃ (z : Nat) (zs' : List Int) (g' c' : Nat), z ≤ q.T.ql.length ∧ kv = .int .i64 z ∧ rv = .slice (some ⟨g', 0, none⟩) zs'.length c' ∧ zs' = zs7 ++ (q.T.ql.take z).map (·.1) ∧ Env w0 (boxI bL (flat3 q.T.ql) :: boxI Z [.int .i64 q.T.hs, .int .i64 0] :: intsI (.slice (some ⟨g', 0, none⟩) zs'.length c') zs' :: usedI B0 (fun _ => false) :: EL C (.slice (some ⟨g, 0, none⟩) rs.length cp) p cc m S L) v) (fun _ kv _ => q.T.ql.length - (intOf kv).toNat)
        case atStart => exact ⟨0, zs7, _, _, Nat.zero_le _, rfl, by first | rfl | (rw [HZ8.out, if_pos HZ0.out]; simp; done) | (rw [HZ8.out, if_neg HZ0.out]; simp; done), by simp, hE6⟩
        case round =>
          clear hE6
          obtain ⟨z, zs', g', c', hz, rfl, rfl, hzz, hE⟩ := hrel
          by_cases hzl2 : z < q.T.ql.length
          · have hb3 : decide ((z : Int) < (q.T.ql.length : Int)) = true := by simp; omega
            have hz1 : (z : Int) < (q.T.ql.length : Int) := by omega
            obtain ⟨⟨ex, ey, ez⟩, he⟩ : ∃ t, q.T.ql.getD z t0 = t := ⟨_, rfl⟩
            have hzn : zs'.length ≤ 1000000 := by
              rw [hzz, List.length_append, List.length_map, List.length_take]
              omega
            have hcell : wr.cell? ⟨bL, z * 3, none⟩ = some (.int .i64 ex) := by
              have := (hE.rule 0 rfl (z * 3 + 0)).trans (flat3_get q.T.ql z 0 hzl2 (by omega))
              rw [he] at this
              simpa [enc3] using this
            obtain ⟨g6, c6, w10, hrun, hE6, -⟩ := hE.append1 2 rfl ex hzn _ rfl
            have hln : zs'.length + 1 = (zs' ++ [ex]).length := by simp
            rw [hln] at hrun hE6
            simp only [List.set_cons_succ, List.set_cons_zero] at hE6
            have HRUN := Lib.hid hrun
            have HZZ := Lib.hid hzz
            clear hrun hE hln hzz
            go_wp2_with (first | (at_builtin; refine wpList_append_run rfl _ _ 25 rfl HRUN.out rfl rfl ?_))
            refine ⟨⟨z + 1, zs' ++ [ex], g6, c6, by omega, by simp, by first | rfl | (simp; done), ?_, hE6⟩, by simp [intOf]; omega⟩
            rw [HZZ.out, List.take_add_one, List.getElem?_eq_getElem hzl2]
            have he2 : q.T.ql[z] = (ex, ey, ez) := by rw [← he]; simp [hzl2]
            simp [he2]
          · have hb3 : decide ((z : Int) < (q.T.ql.length : Int)) = false := by simp; omega
            have HZZ := Lib.hid hzz
            clear hzz
            go_wp2_with fail
            refine ⟨⟨j + 1, zs', g', c', by omega, by simp, rfl, ?_, hE.sub (.cons _ (.cons _ (List.Sublist.refl _)))⟩, by simp [intOf]; omega⟩
            rw [take_flat hqP hq, ← HZ.out, HZZ.out, HZ8.out, List.take_of_length_le (by omega), List.append_assoc]
            rfl
    · have hb1 : decide ((j : Int) < (rs.length : Int)) = false := by simp; omega
      have hjr : j = rs.length := by omega
      have hall : zs = S.ps.flatMap hqP := by rw [hzs, List.take_of_length_le (by rw [hgo.len]; omega)]
      have hfu : ∀ x, InU (getL S.ml x) := hgo.f.u
      rw [← hall] at hl9 HND HIN HLE HN
      clear hzs hall hlt
      obtain ⟨s0, hs0⟩ : ∃ s0, slotI (getL S.ml (2, 0, 0)) = s0 := ⟨_, rfl⟩
      have HS0 := Lib.hid hs0
      go_wp2_with fail
      refine (pool_any _).mono ?_
      rintro o w3 ⟨rfl, hb⟩
      replace hE := hE.over hb
      clear hb
      go_wp2_with fail
      refine (peek_E 2 0 0 (by unfold Wf In64; simp) (show Env w0 (EL C (.slice (some ⟨g, 0, none⟩) rs.length cp) p cc m S L) w3 from hE.sub (.cons _ (.cons _ (List.Sublist.refl _))))).mono ?_
      rintro o w4 ⟨rfl, hb⟩
      replace hE := hE.over hb
      clear hb
      go_wp2_with fail
      refine (slot_any _ _ (HG.out.keep' hE.below) (hfu _).1 (hfu _).2).mono ?_
      rintro o w5 ⟨rfl, hb⟩
      replace hE := hE.over hb
      clear hb
      rw [hs0]
      rw [hs0] at HP
      go_wp2_with fail
      clear hs0
      go_loopw [10, 16, 17] (fun rv sv iv v => ∃ (P1 P2 : List Int) (x : Int) (g' c' : Nat), P = P1 ++ P2 ∧ iv = .int .i64 (P1.length : Int) ∧ sv = .int .i64 x ∧ Path (getL S.ml) x P2 ∧ rv = .slice (some ⟨g', 0, none⟩) (zs ++ P1).length c' ∧ Env w0 (intsI (.slice (some ⟨g', 0, none⟩) (zs ++ P1).length c') (zs ++ P1) :: usedI B0 (fun _ => false) :: EL C (.slice (some ⟨g, 0, none⟩) rs.length cp) p cc m S L) v) (fun _ _ iv _ => 50 - (intOf iv).toNat)
      case atStart => exact ⟨[], P, s0, g9, c9, rfl, rfl, rfl, HP.out, by simp, by simpa using hE⟩
      case round =>
        clear hE
        obtain ⟨P1, P2, x, g', c', hPP, rfl, rfl, hp2, rfl, hE⟩ := hrel
        have HPP := Lib.hid hPP
        have hln9 : zs.length + P1.length + P2.length ≤ 40 := by
          rw [hPP, List.length_append, List.length_append] at hl9
          omega
        have hle1 : ((P1.length : Nat) : Int) ≤ C.s := by
          have := HLE.out
          rw [hPP, List.length_append, List.length_append] at this
          omega
        have hle2 : decide (((P1.length : Nat) : Int) ≤ C.s) = true := by simp [hle1]
        clear hPP
        rcases P2 with _ | ⟨y, P3⟩
        · have hx0 : x = 0 := hp2
          subst hx0
          have hP1 : P1 = P := by have := HPP.out; simp at this; exact this.symm
          subst hP1
          clear hp2 hle1
          go_wp2_with fail
          have hE2 := hE
          clear hE hle2
          obtain ⟨ys, hys⟩ : ∃ ys, zs ++ P1 = ys := ⟨_, rfl⟩
          rw [hys] at hE2 hl9 HND HIN HLE HN ⊢
          clear hys HPP hln9
          have hE3 : Env w0 (intsI (.slice (some ⟨g', 0, none⟩) ys.length c') ys :: usedI B0 (fun k => decide ((k : Int) ∈ ys.take 0)) :: EL C (.slice (some ⟨g, 0, none⟩) rs.length cp) p cc m S L) wr := by simpa using hE2
          clear hE2
          go_loopw [9, 18] (fun nv iv v => ∃ (j : Nat), j ≤ ys.length ∧ nv = .int .i64 (j : Int) ∧ iv = .int .i64 (j : Int) ∧ Env w0 (intsI (.slice (some ⟨g', 0, none⟩) ys.length c') ys :: usedI B0 (fun k => decide ((k : Int) ∈ ys.take j)) :: EL C (.slice (some ⟨g, 0, none⟩) rs.length cp) p cc m S L) v) (fun _ iv _ => ys.length - (intOf iv).toNat)
          case atStart => exact ⟨0, Nat.zero_le _, rfl, rfl, hE3⟩
          case round =>
            clear hE3
            obtain ⟨j, hj, rfl, rfl, hE⟩ := hrel
            by_cases hlt : j < ys.length
            · have hb1 : decide ((j : Int) < (ys.length : Int)) = true := by simp; omega
              have hlti : (j : Int) < (ys.length : Int) := by omega
              rcases hE.rowCells 0 rfl rfl with h0 | ⟨g2, hA, hgl, hc⟩
              · rw [h0] at hlt; simp at hlt
              cases hA
              have hx1 := hc j hlt
              have hym : ys.getD j 0 ∈ ys := by rw [List.getD_eq_getElem?_getD, List.getElem?_eq_getElem hlt]; exact List.getElem_mem hlt
              have hxin := HIN.out _ hym
              obtain ⟨xN, hxN⟩ : ∃ xN : Nat, ys.getD j 0 = (xN : Int) := ⟨(ys.getD j 0).toNat, by omega⟩
              have hyj : ys[j] = (xN : Int) := by rw [← hxN]; simp [hlt]
              have hni : (xN : Int) ∉ ys.take j := by
                have h1 : ys = ys.take j ++ ys[j] :: ys.drop (j + 1) := by rw [← List.drop_eq_getElem_cons hlt, List.take_append_drop]
                have h2 := HND.out
                rw [h1] at h2
                rw [← hyj]
                intro h3
                exact (List.nodup_append.1 h2).2.2 _ h3 _ (List.mem_cons_self) rfl
              rw [hxN] at hx1 hxin
              have hus := ((show (usedI B0 (fun k => decide ((k : Int) ∈ ys.take j))).says wr from hE.get 1 rfl).2 xN (by omega))
              dsimp only at hus
              rw [decide_eq_false hni] at hus
              obtain ⟨u1, u2⟩ := hus
              have d1 : decide ((xN : Int) < 1) = false := by simp; omega
              have d2 : decide (C.s < (xN : Int)) = false := by simp; omega
              have d3 : decide (63 < (xN : Int)) = false := by simp; omega
              have d4 : (xN : Int) < 64 := by omega
              have hE6 := hE.mark 1 rfl (j := xN) (by omega)
              simp only [List.set_cons_succ, List.set_cons_zero] at hE6
              have hTe : (fun k : Nat => decide ((k : Int) ∈ ys.take j) || decide (k = xN)) = fun k : Nat => decide ((k : Int) ∈ ys.take (j + 1)) := by
                funext k
                rw [List.take_add_one, List.getElem?_eq_getElem hlt, hyj]
                rw [Bool.eq_iff_iff]
                simp
                exact or_congr Iff.rfl ⟨fun h => by rw [h], fun h => by omega⟩
              rw [hTe] at hE6
              clear hTe hE hc hxin hyj hni hxN hym
              go_wp2_with fail
              exact ⟨⟨j + 1, by omega, by simp, by simp, hE6⟩, by simp [intOf]; omega⟩
            · have hb1 : decide ((j : Int) < (ys.length : Int)) = false := by simp; omega
              have hjy : j = N := by have := HN.out; omega
              subst hjy
              go_wp2_with fail
              exact bodyPost_ret (by simp [results, Tryz.results18, go_sem]) rfl ⟨rfl, hE.sub (.cons _ (.cons _ (List.Sublist.refl _)))⟩
        · obtain ⟨rfl, hx0, hp3⟩ := hp2
          have hxb : (y != 0) = true := by simp [hx0]
          have hyin : 1 ≤ y ∧ y ≤ C.s := HIN.out y (by rw [HPP.out]; simp)
          obtain ⟨g6, c6, w6, hrun, hE6, -⟩ := hE.append1 0 rfl y (by rw [List.length_append]; omega) _ rfl
          have hln : (zs ++ P1).length + 1 = (zs ++ (P1 ++ [y])).length := by simp; omega
          rw [hln] at hrun hE6
          simp only [List.set_cons_zero, List.append_assoc] at hE6
          have HRUN := Lib.hid hrun
          have HX0 := Lib.hid hx0
          clear hrun hE hln hx0 hle1
          go_wp2_with (first | (at_builtin; refine wpList_append_run rfl _ _ 25 rfl HRUN.out rfl rfl ?_))
          clear HRUN
          refine (placeOf_any _ _ _).mono ?_
          rintro o w7 ⟨rfl, hb⟩
          replace hE6 := hE6.over hb
          clear hb
          go_wp2_with fail
          refine (peek_E 5 y 2 (by have := HC.out.s; unfold Wf In64; dsimp only; omega) (show Env w0 (EL C (.slice (some ⟨g, 0, none⟩) rs.length cp) p cc m S L) w7 from hE6.sub (.cons _ (.cons _ (List.Sublist.refl _))))).mono ?_
          rintro o w8 ⟨rfl, hb⟩
          replace hE6 := hE6.over hb
          clear hb
          go_wp2_with fail
          refine (slot_any _ _ (HG.out.keep' hE6.below) (hfu _).1 (hfu _).2).mono ?_
          rintro o w9 ⟨rfl, hb⟩
          replace hE6 := hE6.over hb
          clear hb
          obtain ⟨x2, hx2⟩ : ∃ x2, slotI (getL S.ml (5, y, 2)) = x2 := ⟨_, rfl⟩
          rw [hx2] at hp3 ⊢
          clear hx2
          go_wp2_with fail
          exact ⟨⟨P1 ++ [y], P3, x2, g6, c6, by rw [HPP.out]; simp, by simp, rfl, hp3, by first | rfl | (simp; done), hE6⟩, by simp [intOf]; omega⟩
end
end Go.Proofs.YtmifdkbpbkafjaaGreatDoor

/- Threads, by plain mathematics: Full; how many slots are in hands or in the pool; the start. -/
namespace Go.Proofs.YtmifdkbpbkafjaaGreatDoor
open Go.RowKit Go.Maps
set_option maxRecDepth 100000

/-- Where a thread was told that there is none. -/
def TFu (C : Cf) (f : Mem) (T : Th) : Prop := T.full = true → C.s ≤ f (3, 0, 0) ∧ T.ql = [] ∧ T.hs = 0
theorem TFu.over {C : Cf} {f f' : Mem} {T : Th} (h : TFu C f T) (he : f (3, 0, 0) ≤ f' (3, 0, 0)) : TFu C f' T := fun hf => by
  obtain ⟨h1, h2⟩ := h hf
  exact ⟨by omega, h2⟩
theorem begin_full : ∀ (r : List Dd) (T : Th), (beginM r T).2.full = T.full ∧ (T.hs = 0 → (beginM r T).2.ql = T.ql)
  | [], T => ⟨rfl, fun _ => rfl⟩
  | d :: r, T => by
    unfold beginM
    split
    · split
      · exact ⟨rfl, fun _ => rfl⟩
      · exact begin_full r { T with nd := T.nd + 1 }
    · split
      · split
        · exact begin_full r { T with nd := T.nd + 1 }
        · exact ⟨rfl, fun _ => rfl⟩
      · split
        · exact ⟨rfl, fun _ => rfl⟩
        · split
          · split
            · exact begin_full r { T with nd := T.nd + 1 }
            · rename_i h
              exact ⟨(begin_full r { T with nd := T.nd + 1, ql := T.ql ++ [(T.hs, 0, 0)], hs := 0 }).1, fun h0 => absurd h0 h⟩
          · exact begin_full r { T with nd := T.nd + 1 }

section
variable {C : Cf} {ds : List Dd} {B : Nat} {T : Th} {f : Mem} {d : Dd}
theorem dec_no3 (ql : List Trip) (e l : Int) : (decS ql e l == 3) = false := by
  unfold decS
  split <;> decide
theorem last_no3 (k n : Nat) : (lastS k n == 3) = false := by
  unfold lastS
  split <;> decide
theorem act_full (hT : OkT C ds B T) (hI : TIn C f T) (hp : T.pc ≠ 0) : TFu C (actM C d T f).2 (actM C d T f).1 := by
  rcases hT.pc with h | h | h | h | h
  · exact absurd h hp
  · unfold actM
    rw [if_pos h]
    exact fun h => Bool.noConfusion h
  · rw [al_cases C d T f h]
    rcases alloc_cases C d T f (hT.apc h) with ⟨ha, he⟩ | ⟨ha, hx, he⟩ | ⟨ha, hx, he⟩ | ⟨ha, he⟩ | ⟨ha, he⟩ | ⟨ha, he⟩ | ⟨ha, hx, he⟩ | ⟨ha, hx, he⟩ | ⟨ha, he⟩ | ⟨ha, p, v, hp2, -, he⟩ <;> rw [he]
    · exact fun h => Bool.noConfusion h
    · exact fun h => Bool.noConfusion h
    · intro h9
      have h9 : (decS (T.ql ++ [(f (3, 0, 0) + 1, 0, 0)]) T.e C.l == 3) = true := h9
      rw [dec_no3] at h9
      cases h9
    · exact fun _ => ⟨hI.fresh h (by omega) (by omega), hI.noq h (by omega) (by omega), hT.low h (by omega)⟩
    · exact fun h => Bool.noConfusion h
    · exact fun h => Bool.noConfusion h
    · intro h9
      have h9 : (decS (T.ql ++ [(slotI T.ah, epI T.ar, 0)]) T.e C.l == 3) = true := h9
      rw [dec_no3] at h9
      cases h9
    · exact fun h => Bool.noConfusion h
    · intro h9
      have h9 : (lastS 0 (wordsA C.k T.e d.key d.val (IntKind.u64.wrap d.lv)).length == 3) = true := h9
      rw [last_no3] at h9
      cases h9
    · intro h9
      have h9 : (lastS (T.apc - 10) (wordsA C.k T.e d.key d.val (IntKind.u64.wrap d.lv)).length == 3) = true := h9
      rw [last_no3] at h9
      cases h9
  · unfold actM
    rw [if_neg (by omega), if_neg (by omega), if_pos h]
    exact fun h => Bool.noConfusion h
  · unfold actM
    rw [if_neg (by omega), if_neg (by omega), if_neg (by omega)]
    exact fun h => Bool.noConfusion h
theorem step_full (hT : OkT C ds B T) (hI : TIn C f T) (hf : TFu C f T) : TFu C (stepM C ds T f).2 (stepM C ds T f).1 := by
  unfold stepM
  by_cases hp : T.pc = 0
  · rw [if_pos hp]
    obtain ⟨h1, h2, h3⟩ := begin_ok 0 (ds.drop T.nd) T rfl hT hp
    have hb4 := begin_four (ds.drop T.nd) T hp
    dsimp only at h1 h2 h3 ⊢
    by_cases hb : (beginM (ds.drop T.nd) T).1 = true
    · rw [if_pos hb]
      have h4 := h3 hb
      have hI1 : TIn C f (beginM (ds.drop T.nd) T).2 := ⟨fun h => by omega, fun h => by omega, fun h => by omega, fun h => by omega, fun h h5 => by have := hb4 h; omega⟩
      exact act_full h1 hI1 (by omega)
    · rw [if_neg hb]
      intro h9
      have hbf := begin_full (ds.drop T.nd) T
      have h9 : (beginM (ds.drop T.nd) T).2.full = true := h9
      rw [hbf.1] at h9
      obtain ⟨g1, g2, g3⟩ := hf h9
      exact ⟨g1, by show (beginM (ds.drop T.nd) T).2.ql = []; rw [hbf.2 g3]; exact g2, begin_hs _ T g3⟩
  · rw [if_neg hp]
    exact act_full hT hI hp
end

/-- All that the law asks, together. -/
structure Ap (C : Cf) (S : GS) (P : List Int) (B : Nat) : Prop where
  (apt : Apt C (getL S.ml) (S.ps.map Pk.T) P)
  (fb : getL S.ml (3, 0, 0) ≤ (B : Int))
  (full : ∀ (i : Nat) (q : Pk), S.ps[i]? = some q → TFu C (getL S.ml) q.T)
/-- Who is being retired. -/
def rsP (q : Pk) : List Int := if q.T.pc = 3 then [q.T.rs] else []
theorem flat_hold : ∀ (ps : List Pk) (z : Int), ((ps.map Pk.T).flatMap holdT).count z = (ps.flatMap hqP).count z + (ps.flatMap rsP).count z
  | [], _ => rfl
  | q :: ps, z => by
    have ih := flat_hold ps z
    simp only [List.map_cons, List.flatMap_cons, List.count_append, holdT, ih]
    unfold hqP rsP
    omega
theorem Ap.row {C : Cf} {S : GS} {P : List Int} {B : Nat} (h : Ap C S P B) : ((S.ps.flatMap hqP ++ P) ++ S.ps.flatMap rsP).Perm (rng (circ C (getL S.ml))) := by
  refine List.Perm.trans ?_ h.apt.perm
  refine List.perm_iff_count.2 fun z => ?_
  have := flat_hold S.ps z
  simp only [List.count_append] at this ⊢
  omega
theorem circ_in {C : Cf} {f : Mem} (hs : 1 ≤ C.s) (h0 : 0 ≤ f (3, 0, 0)) : 0 ≤ circ C f ∧ circ C f ≤ C.s := by
  unfold circ
  split <;> omega
theorem Ap.facts {C : Cf} {S : GS} {P : List Int} {B : Nat} (h : Ap C S P B) (hC : COk C) (hF : OkF C (getL S.ml)) :
    (S.ps.flatMap hqP ++ P).Nodup ∧ (∀ x ∈ S.ps.flatMap hqP ++ P, 1 ≤ x ∧ x ≤ C.s) ∧ ((S.ps.flatMap hqP ++ P).length : Int) ≤ C.s ∧ ((S.ps.flatMap hqP ++ P).length : Int) + ((S.ps.flatMap rsP).length : Int) = circ C (getL S.ml) := by
  have hr := h.row
  obtain ⟨c0, c1⟩ := circ_in (f := getL S.ml) hC.s.1 (hF.u _).1
  have hnd := hr.nodup_iff.2 (rng_nodup _)
  have hln : ((S.ps.flatMap hqP ++ P).length : Int) + ((S.ps.flatMap rsP).length : Int) = circ C (getL S.ml) := by
    have := hr.length_eq
    have h2 := rng_len c0
    rw [List.length_append] at this
    omega
  refine ⟨(List.nodup_append.1 hnd).1, fun x hx => ?_, by omega, hln⟩
  have := mem_rng.1 (hr.mem_iff.1 (List.mem_append_left _ hx))
  omega
theorem Ap.step {C : Cf} {S S' : GS} {P : List Int} {rs : List Rw} {B : Nat} {i : Nat} {q q' : Pk} (h : Ap C S P B) (hC : COk C) (hS : GOk C rs (40 + B) S) (hB : B ≤ 400000) (hi : i < rs.length) (hq : S.ps[i]? = some q)
    (hps : S'.ps = S.ps.set i q') (hT' : q'.T = (stepM C (rs.getD i default).ds q.T (getL S.ml)).1) (hml : getL S'.ml = (stepM C (rs.getD i default).ds q.T (getL S.ml)).2) : ∃ P', Ap C S' P' (B + 1) := by
  obtain ⟨q0, hq0, hQ⟩ := hS.ps i hi
  obtain rfl : q0 = q := by rw [hq] at hq0; exact (Option.some.inj hq0).symm
  have hlen := hS.len
  have hO : ∀ T ∈ S.ps.map Pk.T, ∃ ds, OkT C ds (40 + B) T := fun T hT => by
    obtain ⟨q9, h9, rfl⟩ := List.mem_map.1 hT
    obtain ⟨k, hk⟩ := List.getElem?_of_mem h9
    have hkl : k < rs.length := by rw [← hlen]; exact (List.getElem?_eq_some_iff.1 hk).1
    obtain ⟨q8, h8, h7⟩ := hS.ps k hkl
    rw [hk] at h8
    obtain rfl := Option.some.inj h8
    exact ⟨_, h7.t⟩
  have hfb := h.fb
  have hi2 : (S.ps.map Pk.T)[i]? = some q0.T := by rw [List.getElem?_map, hq]; rfl
  obtain ⟨P', g1, g2⟩ := h.apt.step hC hS.f hO hi2 hQ.t (by omega)
  have hil : i < S.ps.length := (List.getElem?_eq_some_iff.1 hq).1
  refine ⟨P', ?_, ?_, fun k q2 hk => ?_⟩
  · rw [hml, hps, List.map_set, hT']
    exact g1
  · rw [hml]
    omega
  · rw [hps] at hk
    by_cases he : i = k
    · subst he
      simp [hil] at hk
      subst hk
      rw [hml, hT']
      exact step_full hQ.t (h.apt.ins _ (List.mem_of_getElem? hi2)) (h.full i q0 hq)
    · rw [List.getElem?_set_ne he] at hk
      rw [hml]
      refine (h.full k q2 hk).over ?_
      obtain ⟨P2, -, -, e1, -⟩ := step_hold hC hS.f hQ.t (h.apt.ins _ (List.mem_of_getElem? hi2)) (by omega) h.apt.path (fun x hx hx2 => by
        have hnd := h.apt.perm.nodup_iff.2 (rng_nodup _)
        exact (List.nodup_append.1 hnd).2.2 x (List.mem_flatMap.2 ⟨_, List.mem_of_getElem? hi2, hx⟩) x hx2 rfl)
      exact e1.fresh.1
theorem Ap.start {C : Cf} {S : GS} {rs : List Rw} (hC : COk C) (hml : S.ml = ml0) (hlen : S.ps.length = rs.length) (hps : ∀ i, i < rs.length → ∃ q, S.ps[i]? = some q ∧ New0 q (rs.getD i default)) : Ap C S [] 0 := by
  have hg : ∀ x, x ≠ (1, 0, 0) → getL S.ml x = 0 := fun x hx => by
    rw [hml]
    show getL [((1, 0, 0), 1)] x = _
    simp only [getL]
    rw [if_neg (fun e => hx e.symm)]
  have h0 : ∀ q ∈ S.ps, q.T = T0 := fun q hq => by
    obtain ⟨k, hk⟩ := List.getElem?_of_mem hq
    have hkl : k < rs.length := by rw [← hlen]; exact (List.getElem?_eq_some_iff.1 hk).1
    obtain ⟨q8, h8, h7⟩ := hps k hkl
    rw [hk] at h8
    obtain rfl := Option.some.inj h8
    exact h7.2.2.1
  have hT : ∀ T ∈ S.ps.map Pk.T, T = T0 := fun T hT => by
    obtain ⟨q9, h9, rfl⟩ := List.mem_map.1 hT
    exact h0 q9 h9
  have hs := hC.s
  have hc : circ C (getL S.ml) = 0 := by
    unfold circ
    rw [hg (3, 0, 0) (by decide), if_pos (by omega)]
  have hz : slotI 0 = 0 := by decide
  refine ⟨⟨?_, ?_, fun T hT9 => ?_⟩, by rw [hg (3, 0, 0) (by decide)]; omega, fun i q hi => ?_⟩
  · rw [hg (2, 0, 0) (by decide), hz]
    rfl
  · rw [hc]
    have : (S.ps.map Pk.T).flatMap holdT = [] := List.flatMap_eq_nil_iff.2 fun T hT9 => by rw [hT T hT9]; rfl
    rw [this]
    exact List.Perm.refl _
  · rw [hT T hT9]
    exact ⟨fun h => no h rfl, fun h => no h rfl, fun h => no h rfl, fun h => no h rfl, fun h => no h rfl⟩
  · rw [h0 q (List.mem_of_getElem? hi)]
    exact fun h => Bool.noConfusion h
/-- Who is told Full, and how many there are. -/
theorem Ap.told {C : Cf} {S : GS} {P : List Int} {B : Nat} {i : Nat} {q : Pk} (h : Ap C S P B) (hq : S.ps[i]? = some q) (hf : q.T.full = true) : circ C (getL S.ml) = C.s ∧ q.T.ql = [] := by
  obtain ⟨h1, h2, h3⟩ := h.full i q hq hf
  refine ⟨?_, h2⟩
  unfold circ
  split <;> omega
end Go.Proofs.YtmifdkbpbkafjaaGreatDoor

/- Threads, by plain mathematics: nothing was retired in an epoch that is still to come. -/
namespace Go.Proofs.YtmifdkbpbkafjaaGreatDoor
open Go.RowKit Go.Maps
set_option maxRecDepth 100000

def RMem (f : Mem) : Prop := ∀ i, f (5, i, 1) ≤ f (1, 0, 0)
structure RT (f : Mem) (T : Th) : Prop where
  (ql : ∀ x ∈ T.ql, x.2.1 ≤ f (1, 0, 0))
  (re : T.pc = 3 → T.rpc = 1 → T.re ≤ f (1, 0, 0))
  (ar : T.pc = 2 → T.apc = 6 → T.ar ≤ f (1, 0, 0))
theorem RT.over {f f' : Mem} {T : Th} (h : RT f T) (he : f (1, 0, 0) ≤ f' (1, 0, 0)) : RT f' T :=
  ⟨fun x hx => Int.le_trans (h.ql x hx) he, fun a b => Int.le_trans (h.re a b) he, fun a b => Int.le_trans (h.ar a b) he⟩
theorem epI_top {x : Int} (h : 0 ≤ x) : epI x ≤ x := by
  unfold epI
  split <;> omega
theorem ql_addE {l : List Trip} {x y : Int} {E : Int} (h : ∀ z ∈ l, z.2.1 ≤ E) (hy : y ≤ E) : ∀ z ∈ l ++ [(x, y, 0)], z.2.1 ≤ E := by
  intro z hz
  rcases List.mem_append.1 hz with hz | hz
  · exact h z hz
  · simp at hz
    subst hz
    exact hy

section
variable {C : Cf} {ds : List Dd} {B : Nat} {T : Th} {f : Mem} {d : Dd}
theorem part_mem {f : Mem} {x p v : Int} (hM : RMem f) (h0 : 0 ≤ f (1, 0, 0)) (hv : p = 1 → v ≤ f (1, 0, 0)) : RMem (upd f (5, x, p) v) := fun i => by
  rw [upd_other f (x := (5, x, p)) v (y := (1, 0, 0)) (by simp)]
  by_cases h : ((5 : Int), i, (1 : Int)) = (5, x, p)
  · rw [← h, upd_same]
    have hp : p = 1 := by simp at h; exact h.2.symm
    exact hv hp
  · rw [upd_other f v h]
    exact hM i
theorem upd_mem {f : Mem} {y : Plc} {v : Int} (hM : RMem f) (h5 : y.1 ≠ 5) (h1 : y.1 ≠ 1) : RMem (upd f y v) := fun i => by
  rw [upd_other f v (x := y) (y := (1, 0, 0)) (fun e => h1 (by rw [← e])), upd_other f v (x := y) (y := (5, i, 1)) (fun e => h5 (by rw [← e]))]
  exact hM i
theorem swf_mem {f : Mem} {o v : Int} (hM : RMem f) : RMem (swf f (2, 0, 0) o v) := fun i => by
  rw [swf_at, if_neg (by simp), swf_at, if_neg (by simp)]
  exact hM i
theorem act_rb (hF : OkF C f) (hT : OkT C ds B T) (hM : RMem f) (hR : RT f T) (hp : T.pc ≠ 0) : RMem (actM C d T f).2 ∧ RT (actM C d T f).2 (actM C d T f).1 := by
  have h0 : 0 ≤ f (1, 0, 0) := (hF.u _).1
  have h30 : 0 ≤ f (3, 0, 0) := (hF.u _).1
  rcases hT.pc with h | h | h | h | h
  · exact absurd h hp
  · unfold actM
    rw [if_pos h]
    refine ⟨hM, hR.ql, fun h9 => ?_, fun _ h9 => ?_⟩
    · exfalso
      dsimp only at h9
      split at h9 <;> omega
    · have h9 : decP T.ql (epI (f (1, 0, 0))) C.l = 6 := h9
      rcases decP_in T.ql (epI (f (1, 0, 0))) C.l with h8 | h8 | h8 | h8 <;> omega
  · rw [al_cases C d T f h]
    have hp3 : ∀ (r : Int), (if r = 2 then 1 else if r = 0 then 2 else (0 : Nat)) ≠ 3 := fun r => by split; omega; split <;> omega
    have dec6 : ∀ (ql : List Trip) (e l : Int), decP ql e l ≠ 6 := fun ql e l => by rcases decP_in ql e l with h8 | h8 | h8 | h8 <;> omega
    rcases alloc_cases C d T f (hT.apc h) with ⟨ha, he⟩ | ⟨ha, hx, he⟩ | ⟨ha, hx, he⟩ | ⟨ha, he⟩ | ⟨ha, he⟩ | ⟨ha, he⟩ | ⟨ha, hx, he⟩ | ⟨ha, hx, he⟩ | ⟨ha, he⟩ | ⟨ha, p, v, hp2, hp1, he⟩ <;> rw [he]
    · have hE : f (1, 0, 0) ≤ swf f (1, 0, 0) T.e (T.e + 1) (1, 0, 0) := by
        rw [swf_at]
        split
        · rename_i h9; rw [h9.2]; omega
        · omega
      refine ⟨fun i => ?_, fun x hx => Int.le_trans (hR.ql x hx) hE, fun h9 => no h9 rfl, fun h9 => no h9 rfl⟩
      show swf f (1, 0, 0) T.e (T.e + 1) (5, i, 1) ≤ swf f (1, 0, 0) T.e (T.e + 1) (1, 0, 0)
      rw [swf_at f (1, 0, 0) (5, i, 1), if_neg (by simp)]
      exact Int.le_trans (hM i) hE
    · have hE : upd f (3, 0, 0) (IntKind.u64.wrap (f (3, 0, 0) + 1)) (1, 0, 0) = f (1, 0, 0) := upd_other f _ (by decide)
      refine ⟨upd_mem hM (by show ¬ (3 : Int) = 5; decide) (by show ¬ (3 : Int) = 1; decide), fun x hx => ?_, fun h9 => absurd h9 (by show ¬ (2 : Nat) = 3; decide), fun _ h9 => no h9 rfl⟩
      show x.2.1 ≤ upd f (3, 0, 0) (IntKind.u64.wrap (f (3, 0, 0) + 1)) (1, 0, 0)
      rw [hE]
      exact hR.ql x hx
    · have hE : upd f (3, 0, 0) (IntKind.u64.wrap (f (3, 0, 0) + 1)) (1, 0, 0) = f (1, 0, 0) := upd_other f _ (by decide)
      refine ⟨upd_mem hM (by show ¬ (3 : Int) = 5; decide) (by show ¬ (3 : Int) = 1; decide), fun x hx => ?_, fun h9 => absurd h9 (hp3 _), fun _ h9 => absurd h9 (dec6 _ _ _)⟩
      show x.2.1 ≤ upd f (3, 0, 0) (IntKind.u64.wrap (f (3, 0, 0) + 1)) (1, 0, 0)
      rw [hE]
      exact ql_addE hR.ql h0 x hx
    · exact ⟨hM, hR.ql, fun h9 => absurd h9 (hp3 _), fun _ h9 => no h9 rfl⟩
    · exact ⟨hM, hR.ql, fun h9 => no h9 rfl, fun _ h9 => no h9 rfl⟩
    · exact ⟨hM, hR.ql, fun h9 => no h9 rfl, fun _ _ => hM _⟩
    · have hE : swf f (2, 0, 0) T.ah (nextW T.ah (slotI T.an)) (1, 0, 0) = f (1, 0, 0) := by rw [swf_at, if_neg (by simp)]
      refine ⟨swf_mem hM, fun x hx => ?_, fun h9 => absurd h9 (hp3 _), fun _ h9 => absurd h9 (dec6 _ _ _)⟩
      show x.2.1 ≤ swf f (2, 0, 0) T.ah (nextW T.ah (slotI T.an)) (1, 0, 0)
      rw [hE]
      exact ql_addE hR.ql (Int.le_trans (epI_top hT.w.2.2.1) (hR.ar h ha)) x hx
    · exact ⟨hM, hR.ql, fun h9 => no h9 rfl, fun _ h9 => no h9 rfl⟩
    · have hE : upd f (5, (T.ql.headD t0).1, 0) T.e (1, 0, 0) = f (1, 0, 0) := upd_other f _ (by simp)
      refine ⟨part_mem hM h0 (fun e => absurd e (by decide)), fun x hx => ?_, fun h9 => absurd h9 (hp3 (lastS 0 (wordsA C.k T.e d.key d.val (IntKind.u64.wrap d.lv)).length)), fun _ h9 => no h9 rfl⟩
      show x.2.1 ≤ upd f (5, (T.ql.headD t0).1, 0) T.e (1, 0, 0)
      rw [hE]
      exact hR.ql x (List.mem_of_mem_tail hx)
    · have hE : upd f (5, T.hs, p) v (1, 0, 0) = f (1, 0, 0) := upd_other f _ (by simp)
      refine ⟨part_mem hM h0 (fun e => by rw [hp1 e]; exact h0), fun x hx => ?_, fun h9 => absurd h9 (hp3 _), fun _ h9 => by have h9 : T.apc + 1 = 6 := h9; omega⟩
      show x.2.1 ≤ upd f (5, T.hs, p) v (1, 0, 0)
      rw [hE]
      exact hR.ql x hx
  · have ha : actM C d T f = ({ (retireM T f).2.1 with pc := if (retireM T f).1 = 0 then 3 else 0, full := false }, (retireM T f).2.2) := by
      unfold actM
      rw [if_neg (by omega), if_neg (by omega), if_pos h]
    rw [ha]
    rcases hT.rpc h with hr | hr
    · have hal : retireM T f = (0, { T with re := f (1, 0, 0), rpc := 1 }, f) := by unfold retireM; rw [if_pos hr]
      rw [hal]
      exact ⟨hM, hR.ql, fun _ _ => Int.le_refl _, fun h9 => no h9 rfl⟩
    · have hal : retireM T f = (1, { T with ql := T.ql ++ [(T.rs, epI T.re, 0)] }, upd f (5, T.rs, 1) T.re) := by unfold retireM; rw [if_neg (by omega)]
      rw [hal]
      have hre := hR.re h hr
      have hE : upd f (5, T.rs, 1) T.re (1, 0, 0) = f (1, 0, 0) := upd_other f _ (by simp)
      refine ⟨part_mem hM h0 (fun _ => hre), fun x hx => ?_, fun h9 => no h9 rfl, fun h9 => no h9 rfl⟩
      show x.2.1 ≤ upd f (5, T.rs, 1) T.re (1, 0, 0)
      rw [hE]
      exact ql_addE hR.ql (Int.le_trans (epI_top hT.re.1) hre) x hx
  · have ha : actM C d T f = ({ (giveM C T f).2.1 with pc := if (giveM C T f).1 = 0 then 4 else 0, full := false }, (giveM C T f).2.2) := by
      unfold actM
      rw [if_neg (by omega), if_neg (by omega), if_neg (by omega)]
    rw [ha]
    have hk : ∀ r : Int × Th × Mem, (∀ x ∈ r.2.1.ql, x ∈ T.ql) → RMem r.2.2 → r.2.2 (1, 0, 0) = f (1, 0, 0) → RMem r.2.2 ∧ RT r.2.2 { r.2.1 with pc := if r.1 = 0 then 4 else 0, full := false } := fun r h1 h2 h3 =>
      ⟨h2, fun x hx => by rw [h3]; exact hR.ql x (h1 x hx), fun h9 => by exfalso; dsimp only at h9; split at h9 <;> omega, fun h9 => by exfalso; dsimp only at h9; split at h9 <;> omega⟩
    rcases (show T.gpc = 0 ∨ T.gpc = 1 ∨ T.gpc = 2 ∨ T.gpc = 3 by have := hT.gpc; omega) with hr | hr | hr | hr
    · have hal : giveM C T f = (gdS T.ql, { T with e := epI (f (1, 0, 0)), gpc := 1 }, f) := by unfold giveM; rw [if_pos hr]
      rw [hal]
      exact hk (gdS T.ql, { T with e := epI (f (1, 0, 0)), gpc := 1 }, f) (fun x hx => hx) hM rfl
    · have hal : giveM C T f = (poolG (f (2, 0, 0)) C.l, { T with gh := f (2, 0, 0), gpc := 2 }, f) := by unfold giveM; rw [if_neg (by omega), if_pos hr]
      rw [hal]
      exact hk (poolG (f (2, 0, 0)) C.l, { T with gh := f (2, 0, 0), gpc := 2 }, f) (fun x hx => hx) hM rfl
    · have hal : giveM C T f = (0, { T with gpc := 3 }, upd f (5, (T.ql.headD t0).1, 2) (wordI false (slotI T.gh) 0)) := by unfold giveM; rw [if_neg (by omega), if_neg (by omega), if_pos hr]
      rw [hal]
      exact hk (0, { T with gpc := 3 }, upd f (5, (T.ql.headD t0).1, 2) (wordI false (slotI T.gh) 0)) (fun x hx => hx) (part_mem hM h0 (fun e => absurd e (by decide))) (ep_of (x := (5, (T.ql.headD t0).1, 2)) rfl (by show ¬ (5 : Int) = 1; decide))
    · by_cases hx : f (2, 0, 0) = T.gh
      · have hal : giveM C T f = (gdS T.ql.tail, { T with ql := T.ql.tail, gg := wrap64 (T.gg + 1), gpc := 1 }, swf f (2, 0, 0) T.gh (nextW T.gh (T.ql.headD t0).1)) := by unfold giveM; rw [if_neg (by omega), if_neg (by omega), if_neg (by omega), if_pos hx]
        rw [hal]
        exact hk (gdS T.ql.tail, { T with ql := T.ql.tail, gg := wrap64 (T.gg + 1), gpc := 1 }, swf f (2, 0, 0) T.gh (nextW T.gh (T.ql.headD t0).1)) (fun x hx => List.mem_of_mem_tail hx) (swf_mem hM) (by show swf f _ _ _ _ = _; rw [swf_at, if_neg (by simp)])
      · have hal : giveM C T f = (0, { T with gpc := 1 }, swf f (2, 0, 0) T.gh (nextW T.gh (T.ql.headD t0).1)) := by unfold giveM; rw [if_neg (by omega), if_neg (by omega), if_neg (by omega), if_neg hx]
        rw [hal]
        exact hk (0, { T with gpc := 1 }, swf f (2, 0, 0) T.gh (nextW T.gh (T.ql.headD t0).1)) (fun x hx => hx) (swf_mem hM) (by show swf f _ _ _ _ = _; rw [swf_at, if_neg (by simp)])
theorem begin_rb {f : Mem} (h0 : 0 ≤ f (1, 0, 0)) : ∀ (r : List Dd) (T : Th), T.pc = 0 → RT f T → (∀ x ∈ (beginM r T).2.ql, x.2.1 ≤ f (1, 0, 0)) ∧ ((beginM r T).2.pc = 3 → (beginM r T).2.rpc = 0)
  | [], T, hp, h => ⟨h.ql, fun h3 => by have : T.pc = 3 := h3; omega⟩
  | d :: r, T, hp, h => by
    have hs : RT f { T with nd := T.nd + 1 } := ⟨h.ql, h.re, h.ar⟩
    unfold beginM
    split
    · split
      · exact ⟨h.ql, fun h9 => no h9 rfl⟩
      · exact begin_rb h0 r { T with nd := T.nd + 1 } hp hs
    · split
      · split
        · exact begin_rb h0 r { T with nd := T.nd + 1 } hp hs
        · exact ⟨h.ql, fun _ => rfl⟩
      · split
        · exact ⟨h.ql, fun h9 => no h9 rfl⟩
        · split
          · split
            · exact begin_rb h0 r { T with nd := T.nd + 1 } hp hs
            · exact begin_rb h0 r { T with nd := T.nd + 1, ql := T.ql ++ [(T.hs, 0, 0)], hs := 0 } hp ⟨ql_addE h.ql h0, h.re, h.ar⟩
          · exact begin_rb h0 r { T with nd := T.nd + 1 } hp hs
theorem step_rb (hF : OkF C f) (hT : OkT C ds B T) (hM : RMem f) (hR : RT f T) : RMem (stepM C ds T f).2 ∧ RT (stepM C ds T f).2 (stepM C ds T f).1 := by
  unfold stepM
  by_cases hp : T.pc = 0
  · rw [if_pos hp]
    obtain ⟨h1, h2, h3⟩ := begin_ok 0 (ds.drop T.nd) T rfl hT hp
    obtain ⟨g1, g2⟩ := begin_rb (hF.u (1, 0, 0)).1 (ds.drop T.nd) T hp hR
    dsimp only at h1 h2 h3 ⊢
    by_cases hb : (beginM (ds.drop T.nd) T).1 = true
    · rw [if_pos hb]
      have h4 := h3 hb
      exact act_rb hF h1 hM ⟨g1, fun a b => by have := g2 a; omega, fun a => by omega⟩ (by omega)
    · rw [if_neg hb]
      have hpc : (beginM (ds.drop T.nd) T).2.pc = 0 := by
        rw [h2]
        rw [if_neg hb]
      exact ⟨hM, g1, fun a => by have a : (beginM (ds.drop T.nd) T).2.pc = 3 := a; omega, fun a => by have a : (beginM (ds.drop T.nd) T).2.pc = 2 := a; omega⟩
  · rw [if_neg hp]
    exact act_rb hF hT hM hR hp
end
end Go.Proofs.YtmifdkbpbkafjaaGreatDoor

/- Threads, by plain mathematics: who goes on alone comes to the last slot that it queued. -/
namespace Go.Proofs.YtmifdkbpbkafjaaGreatDoor
open Go.RowKit Go.Maps
set_option maxRecDepth 100000

/-- From n0 on a Retire and an Alloc, k times. -/
def Alt (ds : List Dd) (n0 k : Nat) : Prop := ds.length = n0 + 2 * k ∧ ∀ i, i < k → (ds.getD (n0 + 2 * i) default).kind = 4 ∧ (ds.getD (n0 + 2 * i + 1) default).kind = 1
/-- How many words a birth has. -/
def wlen (k : Int) : Nat := if k = 2 then 4 else if k = 3 then 5 else 3
/-- Where the thread is: the row behind the last slot, and how many steps there are at most. -/
def BkP (C : Cf) (k m0 mu d : Nat) (fr : Int) (a : Nat) (f : Mem) (T : Th) : Prop :=
  (T.pc = 0 ∧ (d % 2 = 1 → T.hs = 0) ∧ a + 1 + d / 2 ≤ k ∧ 10 * a + 4 ≤ mu ∧ (T.hs ≠ 0 → 10 * a + 6 ≤ mu)) ∨
  (T.pc = 3 ∧ T.hs = 0 ∧ a + 1 + d / 2 ≤ k ∧ ((T.rpc = 0 ∧ 10 * a + 6 ≤ mu) ∨ (T.rpc = 1 ∧ T.re ≤ f (1, 0, 0) ∧ 10 * a + 5 ≤ mu))) ∨
  (T.pc = 1 ∧ T.hs = 0 ∧ d % 2 = 0 ∧ a + d / 2 ≤ k ∧ (10 * a + 4 ≤ mu ∨ ((T.ql.headD t0).2.1 < f (1, 0, 0) ∧ 10 * a + 2 ≤ mu))) ∨
  (T.pc = 2 ∧ T.apc = 1 ∧ T.hs = 0 ∧ T.e = f (1, 0, 0) ∧ d % 2 = 0 ∧ a + d / 2 ≤ k ∧ 10 * a + 3 ≤ mu) ∨
  (T.pc = 2 ∧ T.apc = 10 ∧ T.hs = 0 ∧ d % 2 = 0 ∧ a + d / 2 ≤ k ∧ 10 * a + 1 ≤ mu) ∨
  (T.pc = 2 ∧ ∃ i, T.apc = 11 + i ∧ i + 1 < wlen C.k ∧ T.hs ≠ 0 ∧ d % 2 = 0 ∧ a + 1 + d / 2 ≤ k ∧ 10 * a + 6 + wlen C.k ≤ mu + 1 + i ∧ T.done - fr + a + 1 ≤ m0)
def Bk (C : Cf) (n0 k m0 : Nat) (fr last : Int) (mu : Nat) (f : Mem) (T : Th) : Prop :=
  ∃ (A : List Trip) (y z : Int) (R : List Trip) (d : Nat), T.ql = A ++ (last, y, z) :: R ∧ (∀ x ∈ T.ql, x.2.1 ≤ f (1, 0, 0)) ∧ f (1, 0, 0) + mu < C.l ∧ T.nd = n0 + d ∧ d ≤ 2 * k ∧ T.done - fr + A.length ≤ m0 ∧ BkP C k m0 mu d fr A.length f T
theorem wlen_in (k : Int) : 3 ≤ wlen k ∧ wlen k ≤ 5 := by
  unfold wlen
  split
  · omega
  · split <;> omega
theorem words_len (C : Cf) (d : Dd) (e : Int) : (wordsA C.k e d.key d.val (IntKind.u64.wrap d.lv)).length = wlen C.k := by
  rw [wordsA_len]
  rfl
theorem drop_at {ds : List Dd} {n : Nat} (h : n < ds.length) : ds.drop n = ds.getD n default :: ds.drop (n + 1) := by
  rw [List.drop_eq_getElem_cons h, List.getD_eq_getElem?_getD, List.getElem?_eq_getElem h]
  rfl

section
variable {C : Cf} {ds : List Dd} {B n0 k m0 mu : Nat} {fr last : Int} {T : Th} {f : Mem}
/-- A checkpoint, and what is decided. -/
theorem act1_bk (dd : Dd) (hC : COk C) (hF : OkF C f) {A : List Trip} {y z : Int} {R : List Trip} {d : Nat} (hq : T.ql = A ++ (last, y, z) :: R) (hret : ∀ x ∈ T.ql, x.2.1 ≤ f (1, 0, 0)) (hE : f (1, 0, 0) + mu < C.l) (hnd : T.nd = n0 + d) (hd : d ≤ 2 * k)
    (hdn : T.done - fr + A.length ≤ m0) (h1 : T.pc = 1) (h0 : T.hs = 0) (hd2 : d % 2 = 0) (hk : A.length + d / 2 ≤ k) (hmu : 10 * A.length + 4 ≤ mu ∨ ((T.ql.headD t0).2.1 < f (1, 0, 0) ∧ 10 * A.length + 2 ≤ mu)) :
    ∃ mu', mu' < mu ∧ Bk C n0 k m0 fr last mu' (actM C dd T f).2 (actM C dd T f).1 := by
  have he := epI_of (hF.u (1, 0, 0)) hF.ep hC.l.2
  unfold actM
  rw [if_pos h1]
  dsimp only
  rw [he.1]
  obtain ⟨x0, t, hx⟩ : ∃ x0 t, T.ql = x0 :: t := by
    rcases hq9 : T.ql with _ | ⟨x, t⟩
    · rw [hq9] at hq; simp at hq
    · exact ⟨x, t, rfl⟩
  have hx0 := hret x0 (by rw [hx]; simp)
  by_cases hlt : x0.2.1 < f (1, 0, 0)
  · have hD : decP T.ql (f (1, 0, 0)) C.l = 10 := by rw [hx]; obtain ⟨p, q, r⟩ := x0; simp only [decP]; rw [if_pos hlt]
    rw [hD, if_neg (by decide)]
    exact ⟨mu - 1, by omega, A, y, z, R, d, hq, hret, by omega, hnd, hd, hdn, .inr (.inr (.inr (.inr (.inl ⟨rfl, rfl, h0, hd2, hk, by omega⟩))))⟩
  · have hD : decP T.ql (f (1, 0, 0)) C.l = 1 := by rw [hx]; obtain ⟨p, q, r⟩ := x0; simp only [decP]; rw [if_neg hlt, if_neg (by omega)]
    rw [hD, if_neg (by decide)]
    have hm : 10 * A.length + 4 ≤ mu := by
      rcases hmu with h | ⟨h, -⟩
      · exact h
      · rw [hx] at h
        exact absurd h hlt
    exact ⟨mu - 1, by omega, A, y, z, R, d, hq, hret, by omega, hnd, hd, hdn, .inr (.inr (.inr (.inl ⟨rfl, rfl, h0, rfl, hd2, hk, by omega⟩)))⟩
theorem bk_step (hC : COk C) (hF : OkF C f) (hT : OkT C ds B T) (hA : Alt ds n0 k) (h : Bk C n0 k m0 fr last mu f T) :
    ((stepM C ds T f).1.hs = last ∧ (stepM C ds T f).1.done - fr ≤ m0) ∨ ∃ mu', mu' < mu ∧ Bk C n0 k m0 fr last mu' (stepM C ds T f).2 (stepM C ds T f).1 := by
  obtain ⟨A, y, z, R, d, hq, hret, hE, hnd, hd, hdn, hP⟩ := h
  obtain ⟨hAl, hAk⟩ := hA
  rcases hP with ⟨hp, hpar, hk, hm1, hm2⟩ | ⟨hp, h0, hk, hr⟩ | ⟨hp, h0, hd2, hk, hm⟩ | ⟨hp, ha, h0, he, hd2, hk, hm⟩ | ⟨hp, ha, h0, hd2, hk, hm⟩ | ⟨hp, i, ha, hi, h0, hd2, hk, hm, hdn2⟩
  · right
    have hdk : d / 2 < k := by omega
    obtain ⟨k4, k1⟩ := hAk (d / 2) hdk
    unfold stepM
    rw [if_pos hp]
    by_cases hd2 : d % 2 = 1
    · have h0 := hpar hd2
      have hdr : ds.drop T.nd = ds.getD (n0 + 2 * (d / 2) + 1) default :: ds.drop (T.nd + 1) := by
        rw [drop_at (by omega), show T.nd = n0 + 2 * (d / 2) + 1 by omega]
      rw [hdr, bm1 (.inl k1) h0]
      dsimp only
      rw [if_pos rfl]
      refine act1_bk _ hC hF (T := { T with nd := T.nd + 1, pc := 1 }) (A := A) (y := y) (z := z) (R := R) (d := d + 1) hq hret hE (by show T.nd + 1 = n0 + (d + 1); omega) (by omega) hdn rfl h0 (by omega) (by omega) (.inl (by omega))
    · have hdr : ds.drop T.nd = ds.getD (n0 + 2 * (d / 2)) default :: ds.drop (T.nd + 1) := by
        rw [drop_at (by omega), show T.nd = n0 + 2 * (d / 2) by omega]
      have hdr2 : ds.drop (T.nd + 1) = ds.getD (n0 + 2 * (d / 2) + 1) default :: ds.drop (T.nd + 1 + 1) := by
        rw [drop_at (by omega), show T.nd + 1 = n0 + 2 * (d / 2) + 1 by omega]
      by_cases h0 : T.hs = 0
      · rw [hdr, bm4c (by omega) (.inl k4) h0, hdr2, bm1 (T := { T with nd := T.nd + 1 }) (.inl k1) h0]
        dsimp only
        rw [if_pos rfl]
        refine act1_bk _ hC hF (T := { T with nd := T.nd + 1 + 1, pc := 1 }) (A := A) (y := y) (z := z) (R := R) (d := d + 2) hq hret hE (by show T.nd + 1 + 1 = n0 + (d + 2); omega) (by omega) hdn rfl h0 (by omega) (by omega) (.inl (by omega))
      · have hm3 := hm2 h0
        rw [hdr, bm4 (by omega) (.inl k4) h0]
        dsimp only
        rw [if_pos rfl]
        unfold actM
        rw [if_neg (fun h => no h rfl), if_neg (fun h => no h rfl), if_pos rfl]
        unfold retireM
        dsimp only
        rw [if_pos rfl]
        refine ⟨mu - 1, by omega, A, y, z, R, d + 1, hq, hret, ?_, ?_, by omega, hdn, .inr (.inl ⟨rfl, rfl, by omega, .inr ⟨rfl, Int.le_refl _, by omega⟩⟩)⟩
        · show f (1, 0, 0) + ((mu - 1 : Nat) : Int) < C.l
          omega
        · show T.nd + 1 = n0 + (d + 1)
          omega
  · right
    have hs : stepM C ds T f = actM C (ds.getD (T.nd - 1) ⟨0, 0, 0, 0, 0⟩) T f := by unfold stepM; rw [if_neg (by omega)]
    rw [hs]
    unfold actM
    rw [if_neg (by omega), if_neg (by omega), if_pos hp]
    rcases hr with ⟨hr, hm⟩ | ⟨hr, hre, hm⟩
    · have hal : retireM T f = (0, { T with re := f (1, 0, 0), rpc := 1 }, f) := by unfold retireM; rw [if_pos hr]
      rw [hal]
      exact ⟨mu - 1, by omega, A, y, z, R, d, hq, hret, by show f (1, 0, 0) + ((mu - 1 : Nat) : Int) < C.l; omega, hnd, hd, hdn, .inr (.inl ⟨rfl, h0, hk, .inr ⟨rfl, Int.le_refl _, by omega⟩⟩)⟩
    · have hal : retireM T f = (1, { T with ql := T.ql ++ [(T.rs, epI T.re, 0)] }, upd f (5, T.rs, 1) T.re) := by unfold retireM; rw [if_neg (by omega)]
      rw [hal]
      have hE1 : upd f (5, T.rs, 1) T.re (1, 0, 0) = f (1, 0, 0) := upd_other f _ (by simp)
      refine ⟨mu - 1, by omega, A, y, z, R ++ [(T.rs, epI T.re, 0)], d, ?_, ?_, ?_, hnd, hd, hdn, .inl ⟨rfl, fun _ => h0, hk, by omega, fun h => absurd h0 h⟩⟩
      · show T.ql ++ [(T.rs, epI T.re, 0)] = _
        rw [hq]
        simp
      · show ∀ x ∈ T.ql ++ [(T.rs, epI T.re, 0)], x.2.1 ≤ upd f (5, T.rs, 1) T.re (1, 0, 0)
        rw [hE1]
        exact ql_addE hret (Int.le_trans (epI_top hT.re.1) hre)
      · show upd f (5, T.rs, 1) T.re (1, 0, 0) + ((mu - 1 : Nat) : Int) < C.l
        rw [hE1]
        omega
  · right
    have hs : stepM C ds T f = actM C (ds.getD (T.nd - 1) ⟨0, 0, 0, 0, 0⟩) T f := by unfold stepM; rw [if_neg (by omega)]
    rw [hs]
    exact act1_bk _ hC hF hq hret hE hnd hd hdn hp h0 hd2 hk hm
  all_goals
    have hs : stepM C ds T f = actM C (ds.getD (T.nd - 1) ⟨0, 0, 0, 0, 0⟩) T f := by unfold stepM; rw [if_neg (by omega)]
    rw [hs, al_cases C _ T f hp]
  · right
    have hal : allocM C (ds.getD (T.nd - 1) ⟨0, 0, 0, 0, 0⟩) T f = (2, T, swf f (1, 0, 0) T.e (T.e + 1)) := by unfold allocM; rw [if_pos ha]
    rw [hal]
    have hE1 : swf f (1, 0, 0) T.e (T.e + 1) (1, 0, 0) = f (1, 0, 0) + 1 := by rw [swf_at, if_pos ⟨rfl, he.symm⟩, he]
    refine ⟨mu - 1, by omega, A, y, z, R, d, hq, ?_, ?_, hnd, hd, hdn, .inr (.inr (.inl ⟨rfl, h0, hd2, hk, .inr ⟨?_, by omega⟩⟩))⟩
    · intro x hx
      show x.2.1 ≤ swf f (1, 0, 0) T.e (T.e + 1) (1, 0, 0)
      rw [hE1]
      have := hret x hx
      omega
    · show swf f (1, 0, 0) T.e (T.e + 1) (1, 0, 0) + ((mu - 1 : Nat) : Int) < C.l
      rw [hE1]
      omega
    · show (T.ql.headD t0).2.1 < swf f (1, 0, 0) T.e (T.e + 1) (1, 0, 0)
      rw [hE1]
      have hne : T.ql ≠ [] := by rw [hq]; simp
      obtain ⟨t, ht, -⟩ := hq_head hne
      have := hret (T.ql.headD t0) (by rw [ht]; simp)
      omega
  · rcases alloc_cases C (ds.getD (T.nd - 1) ⟨0, 0, 0, 0, 0⟩) T f (hT.apc hp) with ⟨h9, -⟩ | ⟨h9, -, -⟩ | ⟨h9, -, -⟩ | ⟨h9, -⟩ | ⟨h9, -⟩ | ⟨h9, -⟩ | ⟨h9, -, -⟩ | ⟨h9, -, -⟩ | ⟨-, he⟩ | ⟨h9, -⟩
    any_goals (exfalso; omega)
    rw [he, words_len]
    have hw := wlen_in C.k
    have hl : lastS 0 (wlen C.k) = 0 := by unfold lastS; rw [if_neg (by omega)]
    rw [hl]
    have hE1 : upd f (5, (T.ql.headD t0).1, 0) T.e (1, 0, 0) = f (1, 0, 0) := upd_other f _ (by simp)
    rcases A with _ | ⟨x0, A⟩
    · left
      refine ⟨?_, ?_⟩
      · show (T.ql.headD t0).1 = last
        rw [hq]; rfl
      · show T.done - fr ≤ m0
        simp at hdn
        omega
    · right
      have hx0 := hT.ql x0 (by rw [hq]; simp)
      simp only [List.length_cons] at hdn hk hm
      refine ⟨mu - 1, by omega, A, y, z, R, d, ?_, ?_, ?_, hnd, hd, ?_, .inr (.inr (.inr (.inr (.inr ⟨rfl, 0, rfl, by omega, ?_, hd2, by omega, by omega, ?_⟩))))⟩
      · show T.ql.tail = _
        rw [hq]; rfl
      · intro x hx
        show x.2.1 ≤ upd f (5, (T.ql.headD t0).1, 0) T.e (1, 0, 0)
        rw [hE1]
        exact hret x (List.mem_of_mem_tail hx)
      · show upd f (5, (T.ql.headD t0).1, 0) T.e (1, 0, 0) + ((mu - 1 : Nat) : Int) < C.l
        rw [hE1]
        omega
      · show T.done - fr + (A.length : Int) ≤ m0
        omega
      · show (T.ql.headD t0).1 ≠ 0
        rw [hq]
        show x0.1 ≠ 0
        omega
      · show T.done - fr + (A.length : Int) + 1 ≤ m0
        omega
  · right
    rcases alloc_cases C (ds.getD (T.nd - 1) ⟨0, 0, 0, 0, 0⟩) T f (hT.apc hp) with ⟨h9, -⟩ | ⟨h9, -, -⟩ | ⟨h9, -, -⟩ | ⟨h9, -⟩ | ⟨h9, -⟩ | ⟨h9, -⟩ | ⟨h9, -, -⟩ | ⟨h9, -, -⟩ | ⟨h9, -⟩ | ⟨-, p, v, -, -, he⟩
    any_goals (exfalso; omega)
    rw [he, words_len]
    have hE1 : upd f (5, T.hs, p) v (1, 0, 0) = f (1, 0, 0) := upd_other f _ (by simp)
    have hret' : ∀ x ∈ T.ql, x.2.1 ≤ upd f (5, T.hs, p) v (1, 0, 0) := by rw [hE1]; exact hret
    have hE' : upd f (5, T.hs, p) v (1, 0, 0) + ((mu - 1 : Nat) : Int) < C.l := by rw [hE1]; omega
    by_cases hl : i + 2 = wlen C.k
    · have hls : lastS (T.apc - 10) (wlen C.k) = 1 := by unfold lastS; rw [if_pos (by omega)]
      rw [hls]
      exact ⟨mu - 1, by omega, A, y, z, R, d, hq, hret', hE', hnd, hd, by show T.done + 1 - fr + (A.length : Int) ≤ m0; omega, .inl ⟨rfl, fun h => by omega, hk, by omega, fun _ => by omega⟩⟩
    · have hls : lastS (T.apc - 10) (wlen C.k) = 0 := by unfold lastS; rw [if_neg (by omega)]
      rw [hls]
      exact ⟨mu - 1, by omega, A, y, z, R, d, hq, hret', hE', hnd, hd, hdn, .inr (.inr (.inr (.inr (.inr ⟨rfl, i + 1, by show T.apc + 1 = 11 + (i + 1); omega, by omega, h0, hd2, hk, by omega, hdn2⟩))))⟩
theorem bk_done (h : Bk C n0 k m0 fr last mu f T) : T.done - fr ≤ m0 := by
  obtain ⟨A, y, z, R, d, hq, hret, hE, hnd, hd, hdn, hP⟩ := h
  omega
end
end Go.Proofs.YtmifdkbpbkafjaaGreatDoor

/- Rows of the call's own, of structs of k cells each: appended to, read. General. -/
namespace Go.Proofs.YtmifdkbpbkafjaaGreatDoor
open Go.RowKit Go.Maps
set_option maxRecDepth 100000

section
variable {α : Type} {enc : α → List Value} {k : Nat}
def flatK (enc : α → List Value) (l : List α) : List Value := l.flatMap enc
theorem flatK_length (hk : ∀ x, (enc x).length = k) (l : List α) : (flatK enc l).length = l.length * k := by
  induction l with
  | nil => simp [flatK]
  | cons x l ih =>
    have e : flatK enc (x :: l) = enc x ++ flatK enc l := by simp [flatK]
    rw [e, List.length_append, ih, hk, List.length_cons, Nat.add_mul]
    omega
theorem flatK_append (a b : List α) : flatK enc (a ++ b) = flatK enc a ++ flatK enc b := by simp [flatK]
theorem flatK_get [Inhabited α] (hk : ∀ x, (enc x).length = k) : ∀ (l : List α) (j c : Nat), j < l.length → c < k → (flatK enc l)[j * k + c]? = (enc (l.getD j default))[c]? := by
  intro l
  induction l with
  | nil => intro j c h; simp at h
  | cons x l ih =>
    intro j c hj hc
    have e : flatK enc (x :: l) = enc x ++ flatK enc l := by simp [flatK]
    cases j with
    | zero => rw [e, List.getElem?_append_left (by rw [hk]; omega)]; simp
    | succ j =>
      have e3 : (j + 1) * k = j * k + k := by rw [Nat.add_mul, Nat.one_mul]
      rw [e, List.getElem?_append_right (by rw [hk]; omega)]
      have := ih j c (by simpa using hj) hc
      have e2 : (j + 1) * k + c - (enc x).length = j * k + c := by rw [hk]; omega
      rw [e2, this]
      simp
theorem RowX.news [Inhabited α] (hk : ∀ x, (enc x).length = k) (hk0 : 0 < k) {w : World} {ad : Addr} {xs : List α} (h : RowX enc k w (some ad) xs) : ∀ j u, (flatK enc xs)[j]? = some u → w.cell? (ad.add j) = some u := by
  intro j u hu
  rcases h with rfl | ⟨b, off, he, hl, hc⟩
  · simp [flatK] at hu
  · cases he
    have hj : j < xs.length * k := by rw [← flatK_length hk]; exact (List.getElem?_eq_some_iff.1 hu).1
    have e : (⟨b, off, none⟩ : Addr).add j = ⟨b, off + j, none⟩ := by unfold Addr.add; split <;> simp_all
    have e2 : j / k * k + j % k = j := by rw [Nat.mul_comm]; exact Nat.div_add_mod j k
    have hlt : j / k < xs.length := (Nat.div_lt_iff_lt_mul hk0).2 hj
    have h1 := hc (j / k) hlt (j % k) u (by rw [← flatK_get hk xs (j / k) (j % k) hlt (Nat.mod_lt _ hk0), e2, hu])
    rw [e]
    rwa [Nat.add_assoc, e2] at h1
theorem Blk.rowK [Inhabited α] (hk : ∀ x, (enc x).length = k) {w : World} {g : Nat} {l : List α} (h : Blk 0 w g (flatK enc l)) : RowX enc k w (some ⟨g, 0, none⟩) l := by
  refine .inr ⟨g, 0, rfl, h.1, fun i hi j v e => ?_⟩
  have hj : j < k := by have := (List.getElem?_eq_some_iff.1 e).1; rw [hk] at this; exact this
  rw [Nat.zero_add, h.rule, flatK_get hk l i j hi hj]
  exact e
theorem owns_rowK [Inhabited α] (hk : ∀ x, (enc x).length = k) {w : World} {b : Nat} {e : TypeId} {A : Option Addr} {cap : Nat} {l : List α} (h : w.ownsRow b e k (.slice A l.length cap) l.length (flatK enc l)) : RowX enc k w A l := by
  rcases h.2 with ⟨_, h0⟩ | ⟨g, cap', cur, hv, _, hg, hn, hc, hcs, htk⟩
  · exact .inl (List.eq_nil_of_length_eq_zero h0)
  · simp only [Value.slice.injEq] at hv
    obtain ⟨rfl, -, rfl⟩ := hv
    refine .inr ⟨g, 0, rfl, (Array.getElem?_eq_some_iff.1 hg).1, fun i hi j v e => ?_⟩
    have hj : j < k := by have := (List.getElem?_eq_some_iff.1 e).1; rw [hk] at this; exact this
    have h1 := flatK_get hk l i j hi hj
    have hlt : i * k + j < l.length * k := by
      have : (i + 1) * k ≤ l.length * k := Nat.mul_le_mul_right k hi
      rw [Nat.add_mul] at this
      omega
    rw [e, ← htk, List.getElem?_take_of_lt hlt] at h1
    rw [Nat.zero_add]
    simp only [World.cell?, hg]
    simpa using h1
/-- A row of its own, appended to. -/
def rowKI (enc : α → List Value) (k : Nat) (v : Value) (e : TypeId) (l : List α) : Item := rowI v e k l.length (flatK enc l)
variable {w0 w w' : World} {L : List Item}
theorem Env.rowK (h : Env w0 L w) (i : Nat) {v : Value} {e : TypeId} {l : List α} (hi : L[i]? = some (rowKI enc k v e l)) : w.ownsRow 0 e k v l.length (flatK enc l) := h.get i hi
theorem Env.cellsK [Inhabited α] (hk : ∀ x, (enc x).length = k) (h : Env w0 L w) (i : Nat) {A : Option Addr} {n cap : Nat} {e : TypeId} {l : List α} (hn : n = l.length) (hi : L[i]? = some (rowKI enc k (.slice A n cap) e l)) : RowX enc k w A l := by subst hn; exact owns_rowK hk (h.rowK i hi)
theorem Env.addEmptyK (h : Env w0 L w) (n : Nat) (hn : w.heap.size = n) (e : TypeId) : Env w0 (rowKI enc k (.slice (some ⟨n, 0, none⟩) 0 0) e [] :: L) (w.alloc (.cells #[] e)) := by
  subst hn
  have ho : (w.alloc (.cells #[] e)).ownsRow w.heap.size e k (.slice (some ⟨w.heap.size, 0, none⟩) 0 0) 0 (flatK enc []) := ⟨by simp [flatK], .inr ⟨w.heap.size, 0, #[], rfl, Nat.le_refl _, heap_alloc_new w _, Nat.le_refl _, by simp, by simp, by simp [flatK]⟩⟩
  exact h.add (rowKI enc k (.slice (some ⟨w.heap.size, 0, none⟩) 0 0) e []) ((Below.refl _ _).alloc (Nat.le_refl _) _) (ownsRow_base ho (Nat.zero_le _)) fun k hk => ho.lt k hk
/-- A row appended to a row of its own. -/
theorem Env.appendK [Inhabited α] (hk : ∀ x, (enc x).length = k) (hk0 : 0 < k) (hone : ∀ x, ∀ u ∈ enc x, u.oneCell' = true) {P : Program} (h : Env w0 L w) (i : Nat) {v : Value} {e : TypeId} {l xs : List α} (hi : L[i]? = some (rowKI enc k v e l)) (t ty : TypeId) (ht : P.underlying t = some (.slice e))
    {zz : Value} {bytes : Nat} (hzz0 : zz.cells.size = k) (hinfo : (P.info? e).map (fun i => (i.zero, i.size, i.bytes)) = some (some zz, k, bytes))
    {A : Option Addr} (c : Nat) (hx : RowX enc k w A xs) (hA : A = none → xs = []) (hz : l.length + xs.length ≤ maxLen) (hby : (l.length + xs.length) * bytes ≤ 140737488355328) :
    ∃ A' c' w', (Builtin.append_ #[t, t] ty #[v, .slice A xs.length c]).run P w = .ok (.slice A' (l.length + xs.length) c') w' ∧ Env w0 (L.set i (rowKI enc k (.slice A' (l.length + xs.length) c') e (l ++ xs))) w' := by
  obtain ⟨i0, hi0, hzz⟩ := Option.map_eq_some_iff.1 hinfo
  simp only [Prod.mk.injEq] at hzz
  obtain ⟨hz0, hs, hb⟩ := hzz
  have hown := h.rowK i hi
  obtain ⟨v', w', hrun, ho, hg, hv⟩ := run_append_rows (P := P) t ty 0 e i0 zz k bytes ht hi0 hz0 hs hb hzz0 hk0 w v l.length (flatK enc l) hown A xs.length c (flatK enc xs) (flatK_length hk xs)
    (by
      cases A with
      | none =>
        left
        have := hA rfl
        subst this
        exact ⟨rfl, rfl⟩
      | some ad => exact .inr ⟨ad, rfl, RowX.news hk hk0 hx⟩) (fun u hu => by
        obtain ⟨x, _, hx2⟩ := List.mem_flatMap.1 hu
        exact hone x u hx2) hz hby (Nat.zero_le _)
  obtain ⟨A', c', rfl⟩ := ownsRow_slice ho
  have hst : Step (fun k => v.ownBlock = some k) (fun k => (Value.slice A' (l.length + xs.length) c').ownBlock = some k) w w' := ⟨(Turn.refl _ w).grown hg fun k _ e => e, fun k hk => by
    rcases hv with e | e
    · exact .inl (by rw [← e]; exact hk)
    · right
      rw [e] at hk
      cases hk
      exact Nat.le_refl _⟩
  refine ⟨A', c', w', hrun, h.step i (rowKI enc k _ e (l ++ xs)) hi hst ?_ ?_⟩
  · show w'.ownsRow 0 e k _ (l ++ xs).length (flatK enc (l ++ xs))
    rw [List.length_append, flatK_append]
    exact ho
  · exact ownsRow_lt ho
end
end Go.Proofs.YtmifdkbpbkafjaaGreatDoor
