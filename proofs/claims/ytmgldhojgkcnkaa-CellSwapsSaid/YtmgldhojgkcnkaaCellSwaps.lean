/- CellSwaps: of swaps of one place from one word to others, one behind the other, the first alone is done, unless a word that was swapped in is that again; of additions each answers the sum of all ahead of it: so the law answers true, for every input. -/
import Derived.Test.YtmgldhojgkcnkaaCellE
import Derived.Test.YtmgldhojgkcnkaaLaw
import Derived.Test.YtmgldhojgkcnkaaOpenRows
import Derived.Test.YtmgldhojgkcnkaaOpenFlat
import Derived.Test.YtmgldhojgkcnkaaRows
namespace Go.Proofs.Ytmgldhojgkcnkaa.cellSwaps
open Go.ChangeShapes Go.WideShapes Go.ChangeAt Go.RowKit Go.Maps

theorem wrapU_in (n : Int) : InU (IntKind.u64.wrap n) := by rw [IntKind.wrap_u64]; unfold InU; omega
theorem fifth (v : World) (a b c d e : Int) : (Instr.field 32 (.agg #[.int .i64 a, .int .i64 b, .int .i64 c, .int .i64 d, .int .i64 e]) 4).run Try.prog v = .ok (.int .i64 e) v := by kernel_rfl
theorem third (v : World) (a b c d e : Int) : (Instr.field 32 (.agg #[.int .i64 a, .int .i64 b, .int .i64 c, .int .i64 d, .int .i64 e]) 2).run Try.prog v = .ok (.int .i64 c) v := by kernel_rfl
/-- The sum of the first k, round 2^64. -/
def sumU (zs : List Int) (k : Nat) : Int := (zs.take k).foldl (fun s z => IntKind.u64.wrap (s + z)) 0
theorem sumU_succ {zs : List Int} {k : Nat} (h : k < zs.length) : sumU zs (k + 1) = IntKind.u64.wrap (sumU zs k + zs.getD k 0) := by
  unfold sumU
  rw [List.take_add_one, List.getElem?_eq_getElem h, Option.toList_some, List.foldl_append]
  simp [h]

set_option maxRecDepth 100000 in
set_option maxHeartbeats 3200000 in
theorem walk (a b d o : Int) (zs : List Int) (A : Option Addr) (cap : Nat) (hx : Wf (a, b, d)) (ho : InU o) (hz : ∀ z ∈ zs, InU z) (hlen : zs.length ≤ 9223372036854775807) (w : World)
    (hr : zs = [] ∨ ∃ blk off, A = some ⟨blk, off, none⟩ ∧ blk < w.heap.size ∧ ∀ i, i < zs.length → w.cell? ⟨blk, off + i, none⟩ = some (.int .u64 (zs.getD i 0))) :
    Calls Try.prog 6 #[.agg #[.int .i64 a, .int .i64 b, .int .i64 d], .int .u64 o, .slice A zs.length cap] w fun e w' => e = .returned (.bool true) ∧ Below w.heap.size w w' := by
  have hE := (Env.start w).box w.heap.size rfl [.int .i64 a, .int .i64 b, .int .i64 d] 34
  have HX := Lib.hid hx
  have HO := Lib.hid ho
  have HZ := Lib.hid hz
  have HR := Lib.hid hr
  have HM : Hid (∀ k : Nat, k ≤ 1000 → k < maxLen) := Lib.hid fun k hk => by unfold maxLen; omega
  clear hx ho hz hr
  go_enter Try.func6, Try.ntmps6
  go_wp2_with fail
  refine (awake4 _).mono ?_
  rintro e w1 ⟨rfl, hb⟩
  replace hE := hE.over hb
  clear hb
  obtain ⟨B, hBw⟩ : ∃ B, B = w.heap.size := ⟨_, rfl⟩
  rw [← hBw] at hE HR ⊢
  have HBW := Lib.hid hBw
  clear hBw
  by_cases h50 : 50 < zs.length
  · have hb50 : decide (50 < (zs.length : Int)) = true := by simp; omega
    go_wp2
    go_ret
    exact ⟨rfl, HBW.out ▸ hE.below⟩
  · have hb50 : decide (50 < (zs.length : Int)) = false := by simp; omega
    have hB : B ≤ w1.heap.size := by have := hE.boxLt 0 rfl; omega
    clear hb50
    go_wp2_with fail
    refine (new_any w1).mono ?_
    rintro e w2 ⟨rfl, hC, hb⟩
    replace hE := hE.made hC (Nat.le_refl _) hb
    clear hC hb
    generalize w1.heap.size = c at *
    have r := hE.rule 1 rfl
    go_wp2_with fail
    refine (store_any a b d o HX.out HO.out (HM.out _ (by omega)) (hE.cell 0 rfl)).mono ?_
    rintro e w3 ⟨rfl, F3, hC, hs⟩
    replace hE := hE.turn 0 rfl hC hs
    simp only [List.set_cons_succ, List.set_cons_zero] at hE
    clear hC hs
    clear r
    go_wp2_with fail
    go_loopw [8, 9] (fun dn i wr => ∃ (k : Nat) (v : Int) (F : Nat → Prop) (q : Cnt), k ≤ zs.length ∧ i = .int .i64 k ∧ dn = .bool (decide (v ≠ o)) ∧ q.w = k ∧ Env w [cellI c F (upd (fun _ => 0) (a, b, d) v) q (k + 1), boxI B [.int .i64 a, .int .i64 b, .int .i64 d]] wr) (fun _ i _ => zs.length - (intOf i).toNat)
    case atStart => exact ⟨0, o, F3, _, by omega, rfl, by simp, rfl, hE⟩
    case round =>
      obtain ⟨k, v, F, q, hk, rfl, rfl, hq, hEr⟩ := hrel
      clear hE
      by_cases hlt : k < zs.length
      · rcases HR.out with hz0 | ⟨blk, off, rfl, hbw, hc⟩
        · rw [hz0] at hlt; simp at hlt
        have hzk : InU (zs.getD k 0) := by
          have := HZ.out (zs.getD k 0) (by simp [hlt])
          exact this
        have hcell : ∀ w', Below w.heap.size w w' → w'.cell? ⟨blk, off + k, none⟩ = some (.int .u64 (zs.getD k 0)) := fun w' hb => by
          rw [hb.cell (p := ⟨blk, off + k, none⟩) (by have := HBW.out; simp; omega)]; exact hc k hlt
        clear hc
        generalize zs.getD k 0 = z at *
        go_wp2_with fail
        refine Ord.wp_chain [7] (fun w' => Blk 0 w' B [.int .i64 a, .int .i64 b, .int .i64 d] ∧ w'.cell? ⟨blk, off + k, none⟩ = some (.int .u64 z)) (fun j w' => ∃ F', Env w [cellI c F' (if j = 0 then upd (fun _ => 0) (a, b, d) v else swf (upd (fun _ => 0) (a, b, d) v) (a, b, d) o z) (if j = 0 then q else swq q (decide (v = o))) (if j = 0 then k + 1 else k + 2), boxI B [.int .i64 a, .int .i64 b, .int .i64 d]] w') (by kernel_rfl) (by kernel_rfl) (by kernel_rfl) ⟨(hEr.get 1 rfl : Blk 0 wr B _).drew, hcell _ hEr.drew.below⟩ ⟨F, hEr.drew⟩ (fun hT => ?_)
        have hT9 := Lib.hid hT
        clear hT
        repeat (first
          | (refine Ord.ch_value (v := ?_) hT9.out (by decide) (by rfl) ?_ ?_; rotate_left; (focus (intro w5 hS; have r := hS.1.rule; have r2 := hS.2; go_simp <;> with_reducible rfl)); (try simp only [Act.put, List.setIfInBounds_toArray, List.set_cons_zero, List.set_cons_succ]))
          | (refine Ord.ch_off hT9.out (by decide) (by rfl) ?_; (try simp only [Act.put, List.setIfInBounds_toArray, List.set_cons_zero, List.set_cons_succ])))
        refine Ord.ch_turn (v := .bool (decide (v = o))) 0 hT9.out rfl (by decide) (Or.inl rfl) (by rfl) ?_ ?_
        · rintro w5 hC5 ⟨F5, hA5⟩
          simp only [if_true] at hA5
          go_simp
          simp only [Ord.LandsIn]
          refine (swap_any a b d o z HX.out hzk (HM.out _ (by omega)) (hA5.cell 0 rfl)).mono ?_
          rintro e w6 ⟨rfl, F6, hC, hs⟩
          rw [upd_same]
          rw [upd_same] at hC
          have hE6 := hA5.turn 0 rfl hC hs
          refine ⟨rfl, ⟨hE6.get 1 rfl, hcell _ hE6.below⟩, F6, ?_⟩
          simpa using hE6
        (try simp only [Act.put, List.setIfInBounds_toArray, List.set_cons_zero, List.set_cons_succ])
        repeat (first
          | (refine Ord.ch_value (v := ?_) hT9.out (by decide) (by rfl) ?_ ?_; rotate_left; (focus (intro w5 hS; skip; go_simp <;> with_reducible rfl)); (try simp only [Act.put, List.setIfInBounds_toArray, List.set_cons_zero, List.set_cons_succ]))
          | (refine Ord.ch_off hT9.out (by decide) (by rfl) ?_; (try simp only [Act.put, List.setIfInBounds_toArray, List.set_cons_zero, List.set_cons_succ])))
        refine Ord.InText.nil fun w5 hS => ?_
        clear hT9
        obtain ⟨hC9, hA9⟩ := Ord.chain_end hS
        clear hS
        obtain ⟨F6, hA9⟩ := hA9
        obtain ⟨hb9, hc9⟩ := hC9
        have r := Blk.rule hb9
        simp only [List.length_cons, List.length_nil, Nat.zero_add, Nat.one_ne_zero, if_false] at hA9
        by_cases hv : v = o
        · subst hv
          have hdec : (decide (v = v)) = true := by simp
          have hdec2 : (decide (v ≠ v)) = false := by simp
          rw [hdec] at hA9 ⊢
          rw [hdec2]
          clear hdec hdec2
          go_wp2
          rw [show swf (upd (fun _ => 0) (a, b, d) v) (a, b, d) v z = upd (fun _ => 0) (a, b, d) z by simp [swf, upd_same, upd_upd]] at hA9
          refine ⟨⟨k + 1, z, F6, swq q true, by omega, by simp, ?_, ?_, hA9⟩, by simp [intOf]; omega⟩
          · congr 1; simp [bne, Bool.beq_eq_decide_eq]
          · simp only [swq]; rw [hq]; rw [w64 _ (by omega)]; simp
        · have hdec : (decide (v = o)) = false := by simp [hv]
          have hdec2 : (decide (v ≠ o)) = true := by simp [hv]
          rw [hdec] at hA9 ⊢
          rw [hdec2]
          have HV := Lib.hid hv
          clear hdec hdec2 hv
          go_wp2
          rw [show swf (upd (fun _ => 0) (a, b, d) v) (a, b, d) o z = upd (fun _ => 0) (a, b, d) v by simp [swf, upd_same, HV.out]] at hA9
          refine ⟨⟨k + 1, v, F6, swq q false, by omega, by simp, ?_, ?_, hA9⟩, by simp [intOf]; omega⟩
          · simp [HV.out]
          · simp only [swq]; rw [hq]; rw [w64 _ (by omega)]; simp
      · have hke : k = zs.length := by omega
        subst hke
        go_wp2_with fail
        refine (new_any wr).mono ?_
        rintro e w5 ⟨rfl, hC, hb⟩
        replace hEr := hEr.made hC (Nat.le_refl _) hb
        clear hC hb
        generalize wr.heap.size = c2 at *
        go_wp2_with fail
        go_loopw [12, 13] (fun sm i wr2 => ∃ (k : Nat) (F2 : Nat → Prop) (q2 : Cnt), k ≤ zs.length ∧ i = .int .i64 k ∧ sm = .int .u64 (sumU zs k) ∧ q2.a = k ∧ Env w [cellI c2 F2 (upd (fun _ => 0) (a, b, d) (sumU zs k)) q2 k, cellI c F (upd (fun _ => 0) (a, b, d) v) q (zs.length + 1), boxI B [.int .i64 a, .int .i64 b, .int .i64 d]] wr2) (fun _ i _ => zs.length - (intOf i).toNat)
        case atStart => exact ⟨0, _, _, by omega, rfl, rfl, rfl, by rw [show sumU zs 0 = 0 from rfl, show upd (fun _ => 0) (a, b, d) 0 = fun _ => 0 from upd_self (fun _ => 0) (a, b, d)]; exact hEr⟩
        case round =>
          obtain ⟨k, F2, q2, hk2, rfl, rfl, hq2, hE2⟩ := hrel
          clear hEr
          by_cases hlt2 : k < zs.length
          · have hsu := Lib.hid (sumU_succ hlt2)
            rcases HR.out with hz0 | ⟨blk, off, rfl, hbw, hc⟩
            · rw [hz0] at hlt2; simp at hlt2
            have hcell : ∀ w', Below w.heap.size w w' → w'.cell? ⟨blk, off + k, none⟩ = some (.int .u64 (zs.getD k 0)) := fun w' hb => by
              rw [hb.cell (p := ⟨blk, off + k, none⟩) (by have := HBW.out; simp; omega)]; exact hc k hlt2
            clear hc
            generalize zs.getD k 0 = z at *
            generalize sumU zs k = s at *
            go_wp2_with fail
            refine Ord.wp_chain [6] (fun w' => Blk 0 w' B [.int .i64 a, .int .i64 b, .int .i64 d] ∧ w'.cell? ⟨blk, off + k, none⟩ = some (.int .u64 z)) (fun j w' => ∃ F', Env w [cellI c2 F' (if j = 0 then upd (fun _ => 0) (a, b, d) s else upd (fun _ => 0) (a, b, d) (IntKind.u64.wrap (s + z))) (if j = 0 then q2 else { q2 with a := wrap64 (q2.a + 1) }) (if j = 0 then k else k + 1), cellI c F (upd (fun _ => 0) (a, b, d) v) q (zs.length + 1), boxI B [.int .i64 a, .int .i64 b, .int .i64 d]] w') (by kernel_rfl) (by kernel_rfl) (by kernel_rfl) ⟨(hE2.get 2 rfl : Blk 0 wr B _).drew, hcell _ hE2.drew.below⟩ ⟨F2, hE2.drew⟩ (fun hT => ?_)
            have hT9 := Lib.hid hT
            clear hT
            repeat (first
              | (refine Ord.ch_value (v := ?_) hT9.out (by decide) (by rfl) ?_ ?_; rotate_left; (focus (intro w5 hS; have r := hS.1.rule; have r2 := hS.2; go_simp <;> with_reducible rfl)); (try simp only [Act.put, List.setIfInBounds_toArray, List.set_cons_zero, List.set_cons_succ]))
              | (refine Ord.ch_off hT9.out (by decide) (by rfl) ?_; (try simp only [Act.put, List.setIfInBounds_toArray, List.set_cons_zero, List.set_cons_succ])))
            refine Ord.ch_turn (v := .int .u64 s) 0 hT9.out rfl (by decide) (Or.inl rfl) (by rfl) ?_ ?_
            · rintro w6 hC5 ⟨F5, hA5⟩
              simp only [if_true] at hA5
              go_simp
              simp only [Ord.LandsIn]
              refine (add_any a b d z HX.out (HM.out _ (by omega)) (hA5.cell 0 rfl)).mono ?_
              rintro e w7 ⟨rfl, F6, hC, hs⟩
              rw [upd_same]
              rw [upd_same, upd_upd] at hC
              have hE6 := hA5.turn 0 rfl hC hs
              refine ⟨rfl, ⟨hE6.get 2 rfl, hcell _ hE6.below⟩, F6, ?_⟩
              rw [hq2] at hE6
              simpa [hq2] using hE6
            (try simp only [Act.put, List.setIfInBounds_toArray, List.set_cons_zero, List.set_cons_succ])
            repeat (first
              | (refine Ord.ch_value (v := ?_) hT9.out (by decide) (by rfl) ?_ ?_; rotate_left; (focus (intro w5 hS; skip; go_simp <;> with_reducible rfl)); (try simp only [Act.put, List.setIfInBounds_toArray, List.set_cons_zero, List.set_cons_succ]))
              | (refine Ord.ch_off hT9.out (by decide) (by rfl) ?_; (try simp only [Act.put, List.setIfInBounds_toArray, List.set_cons_zero, List.set_cons_succ])))
            refine Ord.InText.nil fun w5 hS => ?_
            clear hT9
            obtain ⟨hC9, hA9⟩ := Ord.chain_end hS
            clear hS
            obtain ⟨F6, hA9⟩ := hA9
            obtain ⟨hb9, hc9⟩ := hC9
            simp only [List.length_cons, List.length_nil, Nat.zero_add, Nat.one_ne_zero, if_false] at hA9
            have hA10 := Lib.hid hA9
            clear hA9 hcell
            go_wp2
            refine ⟨⟨k + 1, F6, _, by omega, by simp, by rw [hsu.out], ?_, by rw [hsu.out]; exact hA10.out⟩, by simp [intOf]; omega⟩
            simp only
            rw [hq2, w64 _ (by omega)]
            simp
          · have hke : k = zs.length := by omega
            subst hke
            have r := hE2.rule 2 rfl
            go_wp2_with fail
            refine (peek_any a b d HX.out (hE2.cell 0 rfl)).mono ?_
            rintro e w6 ⟨rfl, hb⟩
            replace hE2 := hE2.over hb
            rw [upd_same]
            clear hb r
            go_wp2_with fail
            refine (count_any (hE2.cell 0 rfl)).mono ?_
            rintro e w7 ⟨rfl, hb⟩
            replace hE2 := hE2.over hb
            clear hb
            have h5 := fifth
            rw [hq2]
            go_wp2_with fail
            refine (count_any (hE2.cell 1 rfl)).mono ?_
            rintro e w8 ⟨rfl, hb⟩
            replace hE2 := hE2.over hb
            clear hb h5
            have h3 := third
            rw [hq]
            go_wp2
            go_ret
            exact ⟨rfl, HBW.out ▸ hE2.below⟩

theorem cellsWord : Try.prog.cellsOf 35 = 1 := by kernel_rfl

theorem own : ownKnob Try.prog.godebug = none := by kernel_rfl
theorem laidOut : laidOutB Try.prog = true := by kernel_rfl

set_option maxRecDepth 100000 in
theorem lifted (os : Os) (started : os.Started) (H : Type) (enc : TypeId × Value → H) :
    ReturnsInHanded {} Try.checked os 6 .any (Rows.cellSwapsSpec.pre6 enc Try.prog Try.f6 Rows.cellSwapsRow.domain false) (Rows.cellSwapsSpec.post enc Try.prog Try.f6 false true false false) := by
  refine returnsInHanded_of_change (C := Try.checked) own started (by kernel_rfl) Try.func6
    (ChangeSpec.witness6 (enc := enc) (C := Try.checked) false ⟨#[], #[.agg #[.int .i64 0, .int .i64 0, .int .i64 0], .int .u64 0, .slice none 0 0], []⟩ 8 (by kernel_rfl) (by kernel_rfl) (by kernel_rfl) (by kernel_rfl)) ?_
  intro W base args ds gs before hval0 hW hcnd _
  have hval : ∀ (j : Nat) t v, Try.f6.params[j]? = some t → args[j]? = some v → Value.okWide Try.prog W .any base t v := hval0
  have hW' := hW
  obtain ⟨p, q, hA0, hV, rfl, hfz, hnd⟩ := hW
  have hA : DataW.TrodAll enc Try.prog W 0 (fun _ => true) true Try.f6.params.toList args.toList ds p := hA0
  rw [Try.params6] at hA hval
  obtain ⟨v0, vs0, d0, ds0, p0, q0, hargs, rfl, rfl, g0, r0⟩ := trodAll_cons hA
  obtain ⟨v1, vs1, d1, ds1, p1, q1, rfl, rfl, rfl, g1, r1⟩ := trodAll_cons r0
  obtain ⟨v2, vs2, d2, ds2, p2, q2, rfl, rfl, rfl, g2, r2⟩ := trodAll_cons r1
  obtain ⟨rfl, rfl, rfl⟩ := trodAll_nil r2
  obtain rfl : args = #[v0, v1, v2] := by cases args; simp_all
  obtain ⟨rfl, rfl⟩ := trodVars_none hV
  obtain ⟨cs0, rfl, z0, H0⟩ := open_flat (ss := [.num .i64, .num .i64, .num .i64]) Try.underlying34 (by kernel_rfl) (by kernel_rfl) ⟨Try.underlying3, Try.underlying3, Try.underlying3, trivial⟩ (hval 0 34 v0 rfl rfl) g0
  obtain ⟨l0, rfl, z0⟩ := list_of z0
  obtain ⟨x0_0, x0_1, x0_2, rfl⟩ := list3 z0
  obtain ⟨_, e, a0_0, rfl, w0_0⟩ := H0 0 _ rfl
  obtain rfl : x0_0 = .int .i64 a0_0 := by simpa using e
  clear e
  have h0_0 := i64_in w0_0
  obtain ⟨_, e, a0_1, rfl, w0_1⟩ := H0 1 _ rfl
  obtain rfl : x0_1 = .int .i64 a0_1 := by simpa using e
  clear e
  have h0_1 := i64_in w0_1
  obtain ⟨_, e, a0_2, rfl, w0_2⟩ := H0 2 _ rfl
  obtain rfl : x0_2 = .int .i64 a0_2 := by simpa using e
  clear e
  have h0_2 := i64_in w0_2
  clear H0
  obtain ⟨a1, rfl, rfl, rfl, w1⟩ := open_int Try.underlying35 (hval 1 35 v1 rfl rfl) g1
  have h1 := u64_in w1
  obtain ⟨A2, n2, cap2, rfl⟩ := okWide_slice Try.underlying52 (hval 2 52 v2 rfl rfl)
  obtain ⟨zs2, rfl, h2, w2, row2⟩ := open_num_row Try.underlying52 Try.underlying35 cellsWord g2 (fun x hx => hW'.lt x (by simp [hx]))
  unfold maxLen at h2
  clear hA0 hval0
  refine (walk a0_0 a0_1 a0_2 a1 zs2 A2 cap2 ⟨h0_0, h0_1, h0_2⟩ h1 (fun z hz => u64_in (w2 z hz)) h2 W row2).mono fun e W' ⟨he, hg⟩ => ?_
  subst he
  exact ⟨_, rfl, law_post laidOut (by kernel_rfl) (by kernel_rfl) Try.underlying4 rfl rfl hW' hg⟩

theorem over : Rows.cellSwapsRow.holds Try.pinned (OpenSpec.ofChange Rows.cellSwapsSpec) :=
  OpenClaim.holds_of_wide 6 Try.f6 rfl rfl rfl rfl rfl rfl rfl ⟨rfl, rfl, rfl, rfl, rfl⟩ rfl rfl rfl rfl rfl (by kernel_rfl) Try.func6 (by kernel_rfl)
    (of_decide_eq_true (by kernel_rfl)) (by unfold Func.isWrapper; first | (rw [if_pos (by decide +kernel)]; kernel_rfl) | (rw [if_neg (by decide +kernel)]; exact ⟨rfl, rfl⟩))
    (fun os started H enc _ => lifted os started H enc)

/-- THE STATEMENT. -/
theorem proved : Rows.CellSwapsSaid := over
#print axioms proved
end Go.Proofs.Ytmgldhojgkcnkaa.cellSwaps
