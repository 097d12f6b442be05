/- Souls among other things; rows held against each other; answers that the document fixes. -/
import Derived.Test.YtlefhcaoblenaaaSoulB
import Derived.Test.YtlefhcaoblenaaaSoulD
import Derived.Test.YtlefhcaoblenaaaSoulT
namespace Go.Proofs.Ytlefhcaoblenaaa
open Go.RowKit Go.Maps

/-- The births behind one more. -/
def bornL (l : List Int) (x : Int) : List Int := if x < 1 then l else l ++ [x]
def bornV (l : List Int) (x : Int) : Int := if x < 1 then 0 else (l.length : Int) + 1
theorem bornL_length (l : List Int) (x : Int) : (bornL l x).length ≤ l.length + 1 := by unfold bornL; split <;> simp
theorem bornX_any {s : Nat} {F : Nat → Prop} {l : List Int} {w : World} (x : Int) (hx : In64 x) (hl : l.length ≤ 100000) (hS : IsS w s F l) :
    Calls Try.prog 7 #[.pointer (some ⟨s, 0, none⟩), .int .i64 x] w fun e w' => e = .returned (.int .i64 (bornV l x)) ∧ ∃ F', IsS w' s F' (bornL l x) ∧ Step F F' w w' := by
  unfold bornV bornL
  by_cases h : x < 1
  · rw [if_pos h, if_pos h]
    refine (born_low (s := some s) x (.inr h)).mono ?_
    rintro e w' ⟨rfl, rfl⟩
    exact ⟨rfl, F, hS, Step.refl _ _⟩
  · rw [if_neg h, if_neg h]
    exact born_any x hx (by omega) hl hS
theorem rbornX_any {u : Nat} {F : Nat → Prop} {l : List Int} {w : World} (x : Int) (hl : l.length ≤ 100000) (hR : IsR w u F l) :
    Calls Try.prog 8 #[.pointer (some ⟨u, 0, none⟩), .int .i64 x] w fun e w' => e = .returned (.int .i64 (bornV l x)) ∧ ∃ F', IsR w' u F' (bornL l x) ∧ Step F F' w w' := by
  unfold bornV bornL
  by_cases h : x < 1
  · rw [if_pos h, if_pos h]
    refine (rborn_low x h).mono ?_
    rintro e w' ⟨rfl, rfl⟩
    exact ⟨rfl, F, hR, Step.refl _ _⟩
  · rw [if_neg h, if_neg h]
    exact rborn_any x (by omega) hl hR

theorem slots_ex (l : List Int) : ∃ M, SlotsOf l M ∧ M.length ≤ l.length := by
  obtain ⟨h1, h2⟩ := each_spec l
  have hp : ((each l).mergeSort fun x y => decide (x ≤ y)).Perm (each l) := List.mergeSort_perm _ _
  have hnd : ((each l).mergeSort fun x y => decide (x ≤ y)).Nodup := hp.nodup_iff.2 h1
  have hs : ((each l).mergeSort fun x y => decide (x ≤ y)).Pairwise fun a b => decide (a ≤ b) = true := List.pairwise_mergeSort (fun a b c h1 h2 => by simp only [decide_eq_true_eq] at *; omega) (fun a b => by simp only [Bool.or_eq_true, decide_eq_true_eq]; omega) _
  refine ⟨_, ⟨(hs.and hnd).imp fun {a b} h => ?_, fun x => (hp.mem_iff).trans (h2 x)⟩, ?_⟩
  · obtain ⟨h1, h2⟩ := h
    simp only [decide_eq_true_eq] at h1
    omega
  · rw [hp.length_eq]
    clear h1 h2 hp hnd hs
    induction l with
    | nil => exact Nat.le_refl _
    | cons y l ih => unfold each; split <;> simp <;> omega
theorem slots_is {s : Nat} {F : Nat → Prop} {l M : List Int} {w : World} (hM : SlotsOf l M) (hl : l.length ≤ 1000000) (hS : IsS w s F l) :
    Calls Try.prog 17 #[.pointer (some ⟨s, 0, none⟩)] w fun e w' => ∃ A cap, e = .returned (.slice A M.length cap) ∧ w'.ownsRow w.heap.size 3 1 (.slice A M.length cap) M.length (ints M) ∧ Below w.heap.size w w' :=
  (slots_any hl hS).mono fun e w' ⟨A, cap, m, h1, h2, h3, h4⟩ => by
    obtain rfl := hM.eq h2
    exact ⟨A, cap, h1, h3, h4⟩
theorem rslots_is {u : Nat} {F : Nat → Prop} {l M : List Int} {w : World} (hM : SlotsOf l M) (hl : l.length ≤ 100000) (hR : IsR w u F l) :
    Calls Try.prog 18 #[.pointer (some ⟨u, 0, none⟩)] w fun e w' => ∃ A cap, e = .returned (.slice A M.length cap) ∧ w'.ownsRow w.heap.size 3 1 (.slice A M.length cap) M.length (ints M) ∧ Below w.heap.size w w' :=
  (rslots_any hl hR).mono fun e w' ⟨A, cap, m, h1, h2, _, h3, h4⟩ => by
    obtain rfl := hM.eq h2
    exact ⟨A, cap, h1, h3, h4⟩

section
variable {w0 w w' : World} {L : List Item} {s : Nat} {F F' : Nat → Prop} {l l' : List Int}
theorem Env.madeS (h : Env w0 L w) (hC : IsS w' s (fun k => k = s) l) (hc : w.heap.size ≤ s) (hb : Below w.heap.size w w') : Env w0 (soulI s (fun k => k = s) l :: L) w' :=
  h.add (soulI s (fun k => k = s) l) hb hC fun k hk => ⟨by have hk : k = s := hk; omega, hC.lt k hk⟩
theorem Env.soul (h : Env w0 L w) (i : Nat) (hi : L[i]? = some (soulI s F l)) : IsS w s F l := h.get i hi
theorem Env.turnS (h : Env w0 L w) (i : Nat) (hi : L[i]? = some (soulI s F l)) (hC : IsS w' s F' l') (hs : Step F F' w w') : Env w0 (L.set i (soulI s F' l')) w' :=
  h.step i (soulI s F' l') hi hs hC hC.lt
theorem Env.madeR (h : Env w0 L w) (hC : IsR w' s (fun k => k = s) l) (hc : w.heap.size ≤ s) (hb : Below w.heap.size w w') : Env w0 (rowRI s (fun k => k = s) l :: L) w' :=
  h.add (rowRI s (fun k => k = s) l) hb hC fun k hk => ⟨by have hk : k = s := hk; omega, hC.lt k hk⟩
theorem Env.rowR (h : Env w0 L w) (i : Nat) (hi : L[i]? = some (rowRI s F l)) : IsR w s F l := h.get i hi
theorem Env.turnR (h : Env w0 L w) (i : Nat) (hi : L[i]? = some (rowRI s F l)) (hC : IsR w' s F' l') (hs : Step F F' w w') : Env w0 (L.set i (rowRI s F' l')) w' :=
  h.step i (rowRI s F' l') hi hs hC hC.lt
end

set_option maxHeartbeats 1600000 in
theorem ints_any {A B : Option Addr} {ca cb : Nat} {a b : List Int} {w : World} (hla : a.length ≤ 1000000) (hlb : b.length ≤ 1000000) (hA : Cells1 w A a) (hB : Cells1 w B b) :
    Calls Try.prog 13 #[.slice A a.length ca, .slice B b.length cb] w fun e w' => e = .returned (.bool (decide (a = b))) ∧ Below w.heap.size w w' := by
  have hF := (Fr.start w)
  have HA := Lib.hid hA
  have HB := Lib.hid hB
  clear hA hB
  by_cases hl : a.length = b.length
  · have hb0 : ((a.length : Int) != b.length) = false := by rw [bne_eq_false_iff_eq]; omega
    go_enter Try.func13, Try.ntmps13
    go_wp2_with fail
    go_loopw [5] (fun i wr => ∃ k : Nat, k ≤ a.length ∧ i = .int .i64 k ∧ a.take k = b.take k ∧ Fr w [] wr) (fun i _ => a.length - (intOf i).toNat)
    case atStart => exact ⟨0, by omega, rfl, rfl, hF⟩
    case round =>
      obtain ⟨k, hk, rfl, hg, hEr⟩ := hrel
      clear hF
      by_cases hlt : k < a.length
      · rcases HA.out with h0 | ⟨g1, rfl, hg1, hc1⟩
        · rw [h0] at hlt; simp at hlt
        rcases HB.out with h0 | ⟨g2, rfl, hg2, hc2⟩
        · rw [h0] at hl; rw [hl] at hlt; simp at hlt
        have HC : Hid (∀ w', Fr w [] w' → w'.cell? ⟨g1, k, none⟩ = some (.int .i64 (a.getD k 0)) ∧ w'.cell? ⟨g2, k, none⟩ = some (.int .i64 (b.getD k 0))) := Lib.hid fun w' hf => ⟨by rw [hf.below.cell (p := ⟨g1, k, none⟩) hg1]; exact hc1 k hlt, by rw [hf.below.cell (p := ⟨g2, k, none⟩) hg2]; exact hc2 k (by omega)⟩
        have hn : a.take (k + 1) = b.take (k + 1) ↔ a.getD k 0 = b.getD k 0 := by
          have hkb : k < b.length := by omega
          rw [List.take_succ_eq_append_getElem hlt, List.take_succ_eq_append_getElem hkb, hg, List.append_right_inj]
          simp [hlt, hkb]
        have hn2 : a = b → a.getD k 0 = b.getD k 0 := fun e => by rw [e]
        clear hc1 hc2
        generalize a.getD k 0 = x at *
        generalize b.getD k 0 = y at *
        have HN := Lib.hid hn
        have HN2 := Lib.hid hn2
        clear hn hn2
        have HL := Lib.hid hl
        have hF := hEr
        clear hEr
        have i1 : (0 : Int) ≤ (k : Int) ∧ (k : Int) < (a.length : Int) := by omega
        have i2 : (0 : Int) ≤ (k : Int) ∧ (k : Int) < (b.length : Int) := by omega
        by_cases hxy : x = y
        · have hb1 : (x != y) = false := by simpa using hxy
          have HXY := Lib.hid hxy
          clear hxy
          go_wp2_with fail
          refine wp_text (S := Fr w []) (by kernel_rfl) (by kernel_rfl) ?hS (fun hT => ?_)
          case hS => exact Fr.drew hF
          have hT9 := Lib.hid hT
          clear hT hF
          repeat (first
            | (refine text_value (v := ?_) hT9.out (by rfl) ?_ ?_; rotate_left; (focus (intro w5 hS; obtain ⟨c0, c1⟩ := HC.out _ hS; go_simp <;> with_reducible rfl)); (try simp only [Act.put, List.setIfInBounds_toArray, List.set_cons_zero, List.set_cons_succ]))
            | (refine text_off hT9.out (by rfl) ?_; (try simp only [Act.put, List.setIfInBounds_toArray, List.set_cons_zero, List.set_cons_succ]))
            | (refine text_call (v := ?_) (f := ?_) (args := ?_) hT9.out (by rfl) ?_ ?_ ?_; rotate_left 3; (focus (intro w5 hS; obtain ⟨c0, c1⟩ := HC.out _ hS; go_simp; constructor <;> with_reducible rfl)); (focus (intro w5 hS; (first | fail))); (try simp only [Act.put, List.setIfInBounds_toArray, List.set_cons_zero, List.set_cons_succ])))
          refine InText.nil fun w5 hF => ?_
          clear hT9
          go_wp2_with fail
          exact ⟨⟨k + 1, by omega, by simp, HN.out.2 HXY.out, hF⟩, by simp [intOf]; omega⟩
        · have hb1 : (x != y) = true := by simpa using hxy
          have HXY := Lib.hid hxy
          clear hxy
          go_wp2_with fail
          refine wp_text (S := Fr w []) (by kernel_rfl) (by kernel_rfl) ?hS (fun hT => ?_)
          case hS => exact Fr.drew hF
          have hT9 := Lib.hid hT
          clear hT hF
          repeat (first
            | (refine text_value (v := ?_) hT9.out (by rfl) ?_ ?_; rotate_left; (focus (intro w5 hS; obtain ⟨c0, c1⟩ := HC.out _ hS; go_simp <;> with_reducible rfl)); (try simp only [Act.put, List.setIfInBounds_toArray, List.set_cons_zero, List.set_cons_succ]))
            | (refine text_off hT9.out (by rfl) ?_; (try simp only [Act.put, List.setIfInBounds_toArray, List.set_cons_zero, List.set_cons_succ]))
            | (refine text_call (v := ?_) (f := ?_) (args := ?_) hT9.out (by rfl) ?_ ?_ ?_; rotate_left 3; (focus (intro w5 hS; obtain ⟨c0, c1⟩ := HC.out _ hS; go_simp; constructor <;> with_reducible rfl)); (focus (intro w5 hS; (first | fail))); (try simp only [Act.put, List.setIfInBounds_toArray, List.set_cons_zero, List.set_cons_succ])))
          refine InText.nil fun w5 hF => ?_
          clear hT9
          go_wp2_with fail
          go_ret
          exact ⟨ret_bool (by symm; rw [decide_eq_false_iff_not]; exact fun e => HXY.out (HN2.out e)), hF.below⟩
      · go_wp2_with fail
        have : k = a.length := by omega
        subst this
        go_ret
        refine ⟨ret_bool ?_, hEr.below⟩
        symm
        rw [decide_eq_true_iff]
        rwa [List.take_length, hl, List.take_length] at hg
  · have hb0 : ((a.length : Int) != b.length) = true := by rw [bne_iff_ne]; omega
    go_enter Try.func13, Try.ntmps13
    go_wp2
    go_ret
    exact ⟨ret_bool (by symm; rw [decide_eq_false_iff_not]; exact fun e => hl (by rw [e])), hF.below⟩

set_option maxHeartbeats 3200000 in
theorem awake6 (w : World) : Calls Try.prog 5 #[] w fun e w' => e = .returned (.bool true) ∧ Below w.heap.size w w' := by
  have hE := Env.start w
  have h5 : Hid (In64 5) := Lib.hid (by unfold In64; omega)
  have h3 : Hid (In64 3) := Lib.hid (by unfold In64; omega)
  have h2 : Hid (In64 2) := Lib.hid (by unfold In64; omega)
  go_enter Try.func5, Try.ntmps5
  go_wp2_with fail
  refine (new_any w).mono ?_
  rintro e w1 ⟨rfl, hC, hb⟩
  replace hE := hE.madeS hC (Nat.le_refl _) hb
  clear hC hb
  generalize w.heap.size = s at *
  go_wp2_with fail
  refine (born_any 5 h5.out (by omega) (by simp) (hE.soul 0 rfl)).mono ?_
  rintro e w2 ⟨rfl, F2, hC, hs⟩
  replace hE := hE.turnS 0 rfl hC hs
  simp only [List.set_cons_succ, List.set_cons_zero] at hE
  clear hC hs
  go_wp2_with fail
  refine (born_any 3 h3.out (by omega) (by simp) (hE.soul 0 rfl)).mono ?_
  rintro e w3 ⟨rfl, F3, hC, hs⟩
  replace hE := hE.turnS 0 rfl hC hs
  simp only [List.set_cons_succ, List.set_cons_zero] at hE
  clear hC hs
  go_wp2_with fail
  refine (born_any 5 h5.out (by omega) (by simp) (hE.soul 0 rfl)).mono ?_
  rintro e w4 ⟨rfl, F4, hC, hs⟩
  replace hE := hE.turnS 0 rfl hC hs
  simp only [List.set_cons_succ, List.set_cons_zero] at hE
  clear hC hs
  simp only [List.nil_append, List.cons_append, List.length_cons, List.length_nil]
  simp only [List.nil_append, List.cons_append] at hE
  go_wp2_with fail
  refine (now_any 5 h5.out (by simp) (hE.soul 0 rfl)).mono ?_
  rintro e w5 ⟨rfl, rfl⟩
  rw [show nowL [5, 3, 5] 5 = 3 by decide]
  go_wp2_with fail
  refine (is_any 5 3 h5.out (by simp) (hE.soul 0 rfl)).mono ?_
  rintro e w6 ⟨rfl, hb⟩
  rw [show decide ((3 : Int) ≠ 0 ∧ nowL [5, 3, 5] 5 = 3) = true by decide]
  replace hE := hE.over hb
  clear hb
  go_wp2_with fail
  refine (is_any 5 1 h5.out (by simp) (hE.soul 0 rfl)).mono ?_
  rintro e w7 ⟨rfl, hb⟩
  rw [show decide ((1 : Int) ≠ 0 ∧ nowL [5, 3, 5] 5 = 1) = false by decide]
  replace hE := hE.over hb
  clear hb
  go_wp2_with fail
  refine (slotOf_any 2 h2.out (by simp) (hE.soul 0 rfl)).mono ?_
  rintro e w8 ⟨rfl, rfl⟩
  rw [show slotL [5, 3, 5] 2 = 3 by decide]
  go_wp2_with fail
  refine (count_any (by simp) (hE.soul 0 rfl)).mono ?_
  rintro e w9 ⟨rfl, rfl⟩
  simp only [List.length_cons, List.length_nil]
  go_wp2_with fail
  refine (born_low (s := some s) 0 (.inr (by omega))).mono ?_
  rintro e w10 ⟨rfl, rfl⟩
  go_wp2
  go_ret
  exact ⟨rfl, hE.below⟩
end Go.Proofs.Ytlefhcaoblenaaa
