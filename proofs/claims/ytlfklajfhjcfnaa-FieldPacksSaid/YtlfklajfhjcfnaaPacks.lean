/- FieldPacks: of every row of fields and numbers (up to 70 each), field.Apart, Pack and Unpack answer what the document's answers are, so the law answers true, for every input, without a condition. -/
import Derived.Test.YtlfklajfhjcfnaaCover
import Derived.Test.YtlfklajfhjcfnaaFieldH
import Derived.Test.YtlfklajfhjcfnaaLaw
import Derived.Test.YtlfklajfhjcfnaaOpenRows
import Derived.Deep.RegionHeld3
import Derived.Deep.AppendLies
namespace Go.Proofs.Ytlfklajfhjcfnaa.fieldPacks
open Go.ChangeShapes Go.WideShapes Go.ChangeAt Go.RowKit

theorem own : ownKnob Try.prog.godebug = none := by kernel_rfl
theorem laidOut : laidOutB Try.prog = true := by kernel_rfl
theorem info_ref : (Try.prog.info? 26).map (fun i => (i.zero, i.size, i.bytes)) = some (some (.agg #[.int .i64 0, .int .i64 0]), 2, 16) := by kernel_rfl

theorem keep_two {w w' : World} {b o o2 : Nat} {x y : Value} (c0 : w.cell? ⟨b, o, none⟩ = some x) (c1 : w.cell? ⟨b, o2, none⟩ = some y) (hb : b < w.heap.size) (h : Below w.heap.size w w') :
    w'.cell? ⟨b, o, none⟩ = some x ∧ w'.cell? ⟨b, o2, none⟩ = some y ∧ Below w.heap.size w w' :=
  ⟨by rw [h.cell (p := ⟨b, o, none⟩) hb]; exact c0, by rw [h.cell (p := ⟨b, o2, none⟩) hb]; exact c1, h⟩
theorem keep_three {w w' : World} {b o o2 b' o' : Nat} {x y z : Value} (c0 : w.cell? ⟨b, o, none⟩ = some x) (c1 : w.cell? ⟨b, o2, none⟩ = some y) (c2 : w.cell? ⟨b', o', none⟩ = some z) (hb : b < w.heap.size) (hb' : b' < w.heap.size) (h : Below w.heap.size w w') :
    w'.cell? ⟨b, o, none⟩ = some x ∧ w'.cell? ⟨b, o2, none⟩ = some y ∧ w'.cell? ⟨b', o', none⟩ = some z ∧ Below w.heap.size w w' :=
  ⟨by rw [h.cell (p := ⟨b, o, none⟩) hb]; exact c0, by rw [h.cell (p := ⟨b, o2, none⟩) hb]; exact c1, by rw [h.cell (p := ⟨b', o', none⟩) hb']; exact c2, h⟩
theorem take_flat {fs : List (Int × Int)} {k : Nat} (h : k < fs.length) : flat (fs.take (k + 1)) = flat (fs.take k) ++ [.int .i64 (fs.getD k (0, 0)).1, .int .i64 (fs.getD k (0, 0)).2] := by
  rw [List.take_succ_eq_append_getElem h, flat_snoc, List.getD_eq_getElem?_getD, List.getElem?_eq_getElem h]
  rfl

set_option maxRecDepth 100000 in
set_option maxHeartbeats 3200000 in
theorem walk (A N : Option Addr) (cap cap' : Nat) (fs : List (Int × Int)) (ns : List Int) (x : Int) (hx0 : 0 ≤ x) (hx1 : x ≤ 18446744073709551615) (w : World) (hr : FldRow w A fs) (hf : Fits fs) (hr' : NumRow w N ns) (hf' : Words ns) :
    Calls Try.prog 4 #[.slice A fs.length cap, .slice N ns.length cap', .int .u64 x] w fun e w' => e = .returned (.bool true) ∧ Below w.heap.size w w' := by
  obtain ⟨i0, hi, hz0, hz1, hz2⟩ := info_parts info_ref
  by_cases hn : fs.length ≤ 70
  · by_cases hn' : ns.length ≤ 70
    · go_enter Try.func4, Try.ntmps4
      go_wp2_with fail
      refine (awake_any _).mono ?_
      rintro e w1 ⟨rfl, hb1⟩
      have hown0 : (w1.alloc (.cells #[] 26)).ownsRow w.heap.size 26 2 (.slice (some ⟨w1.heap.size, 0, none⟩) 0 0) 0 [] := World.ownsRow_lit w1 #[] 0 hb1.size (by unfold maxLen; omega) rfl
      have hB0 := hb1.alloc hb1.size (.cells #[] 26)
      clear hb1
      go_wp2_with fail
      go_loopw [7, 8] (fun v i wr => ∃ k : Nat, k ≤ fs.length ∧ i = .int .i64 k ∧ wr.ownsRow w.heap.size 26 2 v k (flat (fs.take k)) ∧ Below w.heap.size w wr) (fun _ i _ => fs.length - (intOf i).toNat)
      case atStart => exact ⟨0, by omega, rfl, hown0, hB0⟩
      case round =>
        obtain ⟨k, hk, rfl, hown, hB⟩ := hrel
        clear hown0 hB0
        have hBs := hB.size
        by_cases hlt : k < fs.length
        · rcases hr with hr | ⟨b, off, rfl, hbw, hc⟩
          · rw [hr] at hlt; simp at hlt
          have hcell := hc k hlt
          have htk := take_flat hlt
          generalize fs.getD k (0, 0) = p at *
          obtain ⟨a, l⟩ := p
          obtain ⟨c0, c1⟩ := hcell
          simp only at c0 c1 htk
          have HTK := Lib.hid htk
          have hkI : (k : Int) < (fs.length : Int) := by omega
          have hkI0 : (0 : Int) ≤ (k : Int) := by omega
          clear hc htk hf hf' hr'
          go_wp2_with fail
          go_region_held3 (fun w' => w'.cell? ⟨b, off + k * 2, none⟩ = some (.int .i64 a) ∧ w'.cell? ⟨b, off + k * 2 + 1, none⟩ = some (.int .i64 l) ∧ Below w.heap.size w w')
            (first
              | exact keep_two c0 c1 hbw hB.drew
              | exact keep_two c0 c1 hbw (Below.drew (hB.alloc hBs _))
              | exact keep_two c0 c1 hbw (Below.grown (Below.drew (hB.alloc hBs _)) hgrow (by simp; omega) (fun j hj => (hown.lt _ hj).1)))
            ((refine step_append_lies _ (by rfl) _ _ _ (by rfl) w.heap.size 26 i0 _ 2 16 Try.underlying35 hi hz0 hz1 hz2 rfl (by omega) _ k (flat (fs.take k)) (by rfl) ((hown.alloc _).drew)
                ⟨wr.heap.size, 0, none⟩ 1 1 [.int .i64 a, .int .i64 l] (by rfl) (by rfl) (World.news_of_block (cs := #[.int .i64 a, .int .i64 l]) (t := 26) (fr := (0, 0)) (heap_alloc_new wr _)) (by simp [Value.oneCell'])
                (by omega) (by unfold maxLen; omega) (by omega) (by simp; omega) (wr.heap.size + 1) (by simp) ?_; intro gg cap2 w3 hown1 hgrow hat hlt3))
          go_split_ands
          have hB3 : Below w.heap.size w w3 := by assumption
          rw [← HTK.out] at hown1
          clear hgrow hat hlt3 hown hB c0 c1 hi hz0 hz1 hz2
          go_wp2_with fail
          go_roundw
          case rel => exact ⟨k + 1, by omega, by go_num, hown1, hB3⟩
          case measure => simp [intOf]; omega
        · have hk2 : k = fs.length := by omega
          subst hk2
          rw [List.take_length] at hown
          obtain ⟨A2, cap2, rfl, hrow2⟩ := own_fld hown
          have hrow := hr.below (Nat.le_refl _) hB
          have hnum := hr'.below (Nat.le_refl _) hB
          have hnn : fs.length ≤ 9223372036854775806 := by omega
          clear hown hr hr' hi hz0 hz1 hz2
          go_wp2_with fail
          refine (pack_any A N cap cap' fs ns _ hrow hf hn hnum hf').mono ?_
          rintro e w4 ⟨rfl, hb4⟩
          have hrow4 := hrow.below (Nat.le_refl _) hb4
          have hrow24 := hrow2.below (Nat.le_refl _) hb4
          have hnum4 := hnum.below (Nat.le_refl _) hb4
          have hB4 := hB.trans (hb4.mono hB.size)
          clear hb4 hrow hrow2 hnum hB hBs
          go_wp2_with fail
          refine (refPack_any A2 N cap2 cap' fs ns _ hrow24 hf hn hnum4 hf').mono ?_
          rintro e w5 ⟨rfl, hb5⟩
          have hrow5 := hrow4.below (Nat.le_refl _) hb5
          have hrow25 := hrow24.below (Nat.le_refl _) hb5
          have hB5 := hB4.trans (hb5.mono hB4.size)
          clear hb5 hrow4 hrow24 hnum4 hB4
          go_wp2_with fail
          refine (apart_any A cap fs _ hrow5 hf hnn).mono ?_
          rintro e w6 ⟨rfl, hb6⟩
          have hrow6 := hrow5.below (Nat.le_refl _) hb6
          have hrow26 := hrow25.below (Nat.le_refl _) hb6
          have hB6 := hB5.trans (hb6.mono hB5.size)
          clear hb6 hrow5 hrow25 hB5
          go_wp2_with fail
          refine (refApart_any A2 cap2 fs _ hrow26 hf hnn).mono ?_
          rintro e w7 ⟨rfl, hb7⟩
          have hrow7 := hrow6.below (Nat.le_refl _) hb7
          have hrow27 := hrow26.below (Nat.le_refl _) hb7
          have hB7 := hB6.trans (hb7.mono hB6.size)
          clear hb7 hrow6 hrow26 hB6
          go_wp2_with fail
          refine (unpack_any A cap fs x _ hrow7 hf hn hx0 hx1).mono ?_
          rintro e w8 ⟨A3, cap3, rfl, hnum8, hb8⟩
          have hrow8 := hrow27.below (Nat.le_refl _) hb8
          have hB8 := hB7.trans (hb8.mono hB7.size)
          clear hb8 hrow7 hrow27 hB7
          go_wp2_with fail
          go_loopw [14] (fun i wr => ∃ k : Nat, k ≤ fs.length ∧ i = .int .i64 k ∧ Below w8.heap.size w8 wr) (fun i _ => fs.length - (intOf i).toNat)
          case atStart => exact ⟨0, by omega, rfl, Below.refl _ _⟩
          case round =>
            obtain ⟨k, hk, rfl, hB⟩ := hrel
            by_cases hlt : k < fs.length
            · rcases hrow8 with hr8 | ⟨b, off, rfl, hbw, hc⟩
              · rw [hr8] at hlt; simp at hlt
              have hlg : k < (gets fs x).length := by simpa [gets] using hlt
              rcases hnum8 with hr8 | ⟨b', off', rfl, hbw', hc'⟩
              · rw [hr8] at hlg; simp at hlg
              have hcell := hc k hlt
              have hcell' := hc' k hlg
              have hfi := hf.at_ hlt
              have hgk : (gets fs x).getD k 0 = getI (fs.getD k (0, 0)).1 (fs.getD k (0, 0)).2 x := by simp [gets, hlt]
              rw [hgk] at hcell'
              generalize fs.getD k (0, 0) = p at *
              obtain ⟨a, l⟩ := p
              obtain ⟨⟨-, g1⟩, ⟨g2, -⟩⟩ := hfi
              simp only at g1 g2 hcell'
              obtain ⟨e1, e2, e3, _⟩ := keep_three hcell.1 hcell.2 hcell' hbw hbw' hB
              have hkI : (k : Int) < (fs.length : Int) := by omega
              have hkI0 : (0 : Int) ≤ (k : Int) := by omega
              have hget := Lib.hid (fun w' => refGet_any a l x w' g1 g2 hx0 hx1)
              clear hc hc' hcell hcell' hf hf' hgk hlg
              generalize getI a l x = G at *
              go_wp2_with fail
              refine wp_text (S := fun w' => w'.cell? ⟨b, off + k * 2, none⟩ = some (.int .i64 a) ∧ w'.cell? ⟨b, off + k * 2 + 1, none⟩ = some (.int .i64 l) ∧ w'.cell? ⟨b', off' + k, none⟩ = some (.int .u64 G) ∧ Below w8.heap.size w8 w') (by kernel_rfl) (by kernel_rfl) ?hS (fun hT => ?_)
              case hS => exact ⟨e1, e2, e3, hB.drew⟩
              have HT := Lib.hid hT
              clear hT
              repeat (first
                | (refine text_value (v := ?_) HT.out (by rfl) ?_ ?_; rotate_left; (focus (intro w4 hS; go_simp <;> with_reducible rfl)); (try simp only [Act.put, List.setIfInBounds_toArray, List.set_cons_zero, List.set_cons_succ]))
                | (refine text_off HT.out (by rfl) ?_; (try simp only [Act.put, List.setIfInBounds_toArray, List.set_cons_zero, List.set_cons_succ]))
                | (refine text_call (v := .int .u64 G) (f := 17) (args := #[.agg #[.int .i64 a, .int .i64 l], .int .u64 x]) HT.out (by rfl) ?_ ?_ ?_; (focus (intro w4 hS; go_simp <;> with_reducible rfl)); (focus (intro w4 hS; obtain ⟨s0, s1, s2, s3⟩ := hS; refine (hget.out _).mono ?_; rintro e w5 ⟨rfl, hb5⟩; exact ⟨rfl, ref_keep hb5 s0 s1 s2 s3 hbw hbw'⟩)); (try simp only [Act.put, List.setIfInBounds_toArray, List.set_cons_zero, List.set_cons_succ])))
              refine InText.nil fun w9 hS => ?_
              obtain ⟨-, -, -, hB9⟩ := hS
              clear HT e1 e2 e3 hget hB
              go_wp2_with fail
              go_roundw
              case rel => exact ⟨k + 1, by omega, by go_num, hB9⟩
              case measure => simp [intOf]; omega
            · have hk2 : k = fs.length := by omega
              subst hk2
              go_wp2_with fail
              go_ret
              exact ⟨rfl, hB8.trans (hB.mono hB8.size)⟩
    · go_enter Try.func4, Try.ntmps4
      go_wp2_with fail
      refine (awake_any _).mono ?_
      rintro e w1 ⟨rfl, hb1⟩
      go_wp2_with fail
      go_ret
      exact ⟨rfl, hb1⟩
  · go_enter Try.func4, Try.ntmps4
    go_wp2_with fail
    refine (awake_any _).mono ?_
    rintro e w1 ⟨rfl, hb1⟩
    go_wp2_with fail
    go_ret
    exact ⟨rfl, hb1⟩

theorem cellsInt : Try.prog.cellsOf 3 = 1 := by kernel_rfl

theorem cellsWord : Try.prog.cellsOf 24 = 1 := by kernel_rfl

theorem cellsField : Try.prog.cellsOf 23 = 2 := by kernel_rfl

set_option maxRecDepth 100000 in
theorem lifted (os : Os) (started : os.Started) (H : Type) (enc : TypeId × Value → H) :
    ReturnsInHanded {} Try.checked os 4 .any (Rows.fieldPacksSpec.pre6 enc Try.prog Try.f4 Rows.fieldPacksRow.domain false) (Rows.fieldPacksSpec.post enc Try.prog Try.f4 false true false false) := by
  refine returnsInHanded_of_change (C := Try.checked) own started (by kernel_rfl) Try.func4
    (ChangeSpec.witness6 (enc := enc) (C := Try.checked) false ⟨#[], #[.slice none 0 0, .slice none 0 0, .int .u64 0], []⟩ 8 (by kernel_rfl) (by kernel_rfl) (by kernel_rfl) (by kernel_rfl)) ?_
  intro W base args ds gs before hval0 hW hcnd _
  have hval : ∀ (j : Nat) t v, Try.f4.params[j]? = some t → args[j]? = some v → Value.okWide Try.prog W .any base t v := hval0
  have hW' := hW
  obtain ⟨p, q, hA0, hV, rfl, hfz, hnd⟩ := hW
  have hA : DataW.TrodAll enc Try.prog W 0 (fun _ => true) true Try.f4.params.toList args.toList ds p := hA0
  rw [Try.params4] at hA hval
  obtain ⟨v0, vs0, d0, ds0, p0, q0, hargs, rfl, rfl, g0, r0⟩ := trodAll_cons hA
  obtain ⟨v1, vs1, d1, ds1, p1, q1, rfl, rfl, rfl, g1, r1⟩ := trodAll_cons r0
  obtain ⟨v2, vs2, d2, ds2, p2, q2, rfl, rfl, rfl, g2, r2⟩ := trodAll_cons r1
  obtain ⟨rfl, rfl, rfl⟩ := trodAll_nil r2
  obtain rfl : args = #[v0, v1, v2] := by cases args; simp_all
  obtain ⟨rfl, rfl⟩ := trodVars_none hV
  obtain ⟨a2, rfl, rfl, rfl, w2⟩ := open_int Try.underlying24 (hval 2 24 v2 rfl rfl) g2
  have h2 := u64_in w2
  obtain ⟨A0, n0, cap0, rfl⟩ := okWide_slice Try.underlying33 (hval 0 33 v0 rfl rfl)
  obtain ⟨fs0, rfl, h0, w0, row0⟩ := open_pair_row Try.underlying33 Try.underlying23 cellsField rfl rfl cellsInt cellsInt Try.underlying3 Try.underlying3 g0 (fun x hx => hW'.lt x (by simp [hx]))
  unfold maxLen at h0
  obtain ⟨A1, n1, cap1, rfl⟩ := okWide_slice Try.underlying34 (hval 1 34 v1 rfl rfl)
  obtain ⟨zs1, rfl, h1, w1, row1⟩ := open_num_row Try.underlying34 Try.underlying24 cellsWord g1 (fun x hx => hW'.lt x (by simp [hx]))
  unfold maxLen at h1
  clear hA0 hval0
  refine (walk A0 A1 cap0 cap1 fs0 zs1 a2 h2.1 h2.2 W row0 (fun q hq => ⟨i64_in (w0 q hq).1, i64_in (w0 q hq).2⟩) row1 (fun q hq => u64_in (w1 q hq))).mono fun e W' ⟨he, hg⟩ => ?_
  subst he
  exact ⟨_, rfl, law_post laidOut (by kernel_rfl) (by kernel_rfl) Try.underlying4 rfl rfl hW' hg⟩

theorem over : Rows.fieldPacksRow.holds Try.pinned (OpenSpec.ofChange Rows.fieldPacksSpec) :=
  OpenClaim.holds_of_wide 4 Try.f4 rfl rfl rfl rfl rfl rfl rfl ⟨rfl, rfl, rfl, rfl, rfl⟩ rfl rfl rfl rfl rfl (by kernel_rfl) Try.func4 (by kernel_rfl)
    (of_decide_eq_true (by kernel_rfl)) (by unfold Func.isWrapper; first | (rw [if_pos (by decide +kernel)]; kernel_rfl) | (rw [if_neg (by decide +kernel)]; exact ⟨rfl, rfl⟩))
    (fun os started H enc _ => lifted os started H enc)

/-- THE STATEMENT. -/
theorem proved : Rows.FieldPacksSaid := over
#print axioms proved
end Go.Proofs.Ytlfklajfhjcfnaa.fieldPacks
