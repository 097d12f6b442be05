/- Whether two shared cells have the same words. -/
import Derived.Test.YtmihfpdbaagjnaaCellC
namespace Go.Proofs.Ytmihfpdbaagjnaa
open Go.RowKit Go.Maps Go.Shelf
set_option maxRecDepth 100000

/-- What has come of the first map has been found in the second. -/
def GoodP (D : DataW Unit) (f g : Plc → Int) (left : Lit → Bool) : Prop := ∀ x, Wf x → Maps.has D (kl x) = true → left (kl x) = false → g x = f x

open Classical in
noncomputable def sameB (f g : Plc → Int) : Bool := decide (f = g)
theorem sameB_yes {f g : Plc → Int} (h : f = g) : sameB f g = true := by simp [sameB, h]
theorem sameB_no {f g : Plc → Int} (h : f ≠ g) : sameB f g = false := by simp [sameB, h]

set_option maxRecDepth 100000 in
set_option maxHeartbeats 3200000 in
theorem equal_some {b : Nat} {D : DataW Unit} {mp2 : Option Nat} {f g : Plc → Int} {n1 n2 : Nat} {w : World} (h1 : w.ownsMap Try.prog 41 (plainElem (H := Unit) Try.prog 37) b n1 D) (hr : ReadsF D f) (hM2 : MapIs w mp2 g n2) :
    Calls Try.prog 51 #[.map (some b), .map mp2] w fun e w' => e = .returned (.bool (sameB f g)) ∧ w.grownBy w' none := by
  obtain ⟨ss, hs1, l1⟩ := MapIs.count (w := w) (mp := some b) (f := f) (n := n1) (.inr ⟨b, D, rfl, h1, hr⟩)
  obtain ⟨tt, hs2, l2⟩ := hM2.count
  unfold msz at l1 l2
  have HS1 := Lib.hid hs1
  have HS2 := Lib.hid hs2
  clear hs1 hs2
  generalize hres : sameB f g = res
  have RES := Lib.hid hres
  clear hres
  by_cases hsz : ss.length = tt.length
  · rw [← hsz] at l2
    go_enter Try.func51, Try.ntmps51
    go_wp2_with (first
      | (at_range; refine wpList_range_own _ rfl _ 89 rfl 41 37 keyPlace Try.underlying89 _ b n1 _ rfl h1 ?_; intro w0 hrg0 hg0 hs0)
      | go_in)
    go_frame
    go_loopw [6] (fun _ wr => ∃ (left : Lit → Bool) (cnt : Nat), wr.ranges Try.prog 41 (plainElem (H := Unit) Try.prog 37) b w.heap.size n1 D left cnt ∧ MapIs wr mp2 g n2 ∧ w.grownBy wr none ∧ GoodP D f g left)
      (fun _ wr => wr.rangeLeft b w.heap.size)
    case atStart => exact ⟨_, _, hrg0, hM2.kept fun b' e => hg0.block b' (hM2.lt b' e) (by simp), hg0, fun x _ h2 h3 => by rw [h2] at h3; cases h3⟩
    case round =>
      obtain ⟨left, cnt, hrg, hM, hgw, hG⟩ := hrel
      clear l1 l2
      go_wp2_with (first
        | (at_next; refine wpList_next_ranges _ rfl _ rfl 41 keyPlace (plainElem (H := Unit) Try.prog 37) (fun x : Plc => Value.agg #[.int .i64 x.1, .int .i64 x.2.1, .int .i64 x.2.2]) (Value.int .u64) (fun key kl hk => by obtain ⟨x, _, hx, _⟩ := key_inv hk; exact ⟨x, hx⟩) (fun v y hv => by obtain ⟨c, rfl, _⟩ := plainElem_int_inv Try.underlying37 hv; exact ⟨c, rfl⟩) b w.heap.size n1 _ _ _ rfl hrg ?_ ?_)
        | go_in)
      · intro _ hl0
        go_wp2
        go_ret
        refine ⟨ret_bool ?_, hgw⟩
        rw [← RES.out]
        refine (sameB_yes (same_of HS1.out HS2.out hsz fun x hx => ?_)).symm
        have hw : Wf x := by
          refine Classical.byContradiction fun hw => hx (hr.words.out x hw)
        exact hG x hw (by rw [hr.has' x hw]; simpa using hx) (hl0 _)
      · intro xa xb xc c kx yd yp w2 cnt2 hkey hlk hv hat hrg2 hlt hg2 hs2 hen
        obtain ⟨x, hx', ex, rfl⟩ := key_inv hkey
        obtain ⟨ya, yb, yc⟩ := x
        have ex' := pv_inj (x := (xa, xb, xc)) ex
        obtain ⟨rfl, rfl, rfl⟩ : xa = ya ∧ xb = yb ∧ xc = yc := by simpa using ex'
        clear ex ex'
        have hfx : f (xa, xb, xc) = c := by
          obtain ⟨c', ec, hyd, _⟩ := plainElem_int_inv Try.underlying37 hv
          obtain rfl : c = c' := by simpa using ec
          have e1 := hr.at' _ hx'
          rw [hat] at e1
          have e2 := congrArg Prod.fst hyd
          simp only at e2
          rw [e2] at e1
          simp [wd] at e1
          exact e1.symm
        have hf0 : c ≠ 0 := by
          have h3 := hr.has' _ hx'
          rw [has_true_of_atKey hat, hfx] at h3
          simpa using h3.symm
        have hM2' : MapIs (w2.alloc (.cells #[.int .i64 xa, .int .i64 xb, .int .i64 xc] 41)) mp2 g n2 := (hM.kept fun b' e => hg2.block b' (hM.lt b' e) (fun e2 => by cases e2; have := hM2.lt _ e; omega)).more _
        have hl := hM2'.look2 hx'
        simp only [pv] at hl
        have hgw2 : w.grownBy (w2.alloc (.cells #[.int .i64 xa, .int .i64 xb, .int .i64 xc] 41)) none := (hgw.andThen hg2 (fun j e => by cases e; exact .inl (Nat.le_refl _))).andThen (World.grownBy_alloc w2 _ none) (fun j e => by cases e)
        have hrg2' := hrg2.alloc (.cells #[.int .i64 xa, .int .i64 xb, .int .i64 xc] 41)
        have hcnt := Lib.hid hrg.left_eq
        have HLT := Lib.hid hlt
        have HG := Lib.hid hG
        have HAT := Lib.hid hat
        clear hs2 hlt hG hat hrg hrg0 hg0 hv hkey hlk
        by_cases hgx : g (xa, xb, xc) = c
        · rw [hgx] at hl
          have hcb : (decide (c ≠ 0)) = true := by simpa using hf0
          rw [hcb] at hl
          clear hcb hf0
          go_wp2
          go_roundw
          case rel =>
            refine ⟨_, cnt2, hrg2', hM2', hgw2, fun y hy h2 h3 => ?_⟩
            by_cases e : y = (xa, xb, xc)
            · rw [e, hgx, hfx]
            · refine HG.out y hy h2 ?_
              have hne : kl y ≠ kl (xa, xb, xc) := fun e' => e (kl_inj hy hx' e')
              simpa [sameKey_ne hne] using h3
          case measure => rw [hrg2'.left_eq, hcnt.out]; exact HLT.out
        · have hbad : sameB f g = false := sameB_no fun e => hgx (by rw [← e]; exact hfx)
          by_cases hg0' : g (xa, xb, xc) = 0
          · rw [hg0'] at hl
            have hcb : (decide ((0 : Int) ≠ 0)) = false := by simp
            rw [hcb] at hl
            clear hcb
            go_wp2
            go_ret
            exact ⟨ret_bool (by rw [← RES.out, hbad]), hgw2⟩
          · generalize g (xa, xb, xc) = v at *
            have hcb : (decide (v ≠ 0)) = true := by simpa using hg0'
            rw [hcb] at hl
            have hcv : (c != v) = true := by simp; exact fun e => hgx e.symm
            clear hcb hg0' hf0
            go_wp2
            go_ret
            exact ⟨ret_bool (by rw [← RES.out, hbad]), hgw2⟩
  · have hne : ¬ ((ss.length : Int) = tt.length) := fun e => hsz (by exact_mod_cast e)
    go_enter Try.func51, Try.ntmps51
    go_wp2
    go_ret
    refine ⟨ret_bool ?_, World.grownBy.refl _ _⟩
    rw [← RES.out]
    exact (sameB_no fun e => hsz (same_len HS1.out (by rw [e]; exact HS2.out))).symm

set_option maxRecDepth 100000 in
set_option maxHeartbeats 1600000 in
theorem equal_none {mp2 : Option Nat} {g : Plc → Int} {n2 : Nat} {w : World} (hM2 : MapIs w mp2 g n2) :
    Calls Try.prog 51 #[.map none, .map mp2] w fun e w' => e = .returned (.bool (sameB (fun _ => 0) g)) ∧ w.grownBy w' none := by
  obtain ⟨tt, hs2, l2⟩ := hM2.count
  have hnil : OpsF (fun _ => 0) [] := ⟨List.nodup_nil, by simp⟩
  have l1 : ∀ ty, (Builtin.len_ #[89] ty #[.map none]).run Try.prog w = .ok (.int .i64 0) w := fun ty => Maps.len_nil Try.underlying89 ty
  unfold msz at l2
  have hrg := run_range_nilMap (P := Try.prog) w 89 _ _ Try.underlying89
  have hnx : ∀ ty, (Instr.next (.pointer (some ⟨w.heap.size, 0, none⟩)) false ty).run Try.prog (w.alloc (.mapIter none 0 #[] 0)) = _ := fun ty => run_next_nilMap _ ty 0 0 #[]
  have HS2 := Lib.hid hs2
  clear hs2 hM2
  by_cases hsz : tt.length = 0
  · rw [hsz] at l2
    have htt : tt = [] := List.eq_nil_of_length_eq_zero hsz
    go_enter Try.func51, Try.ntmps51
    go_wp2
    refine wp_loop_rounds 1 ?_
    rw [rounds_succ]
    go_wp2
    go_ret
    refine ⟨ret_bool (sameB_yes (same_of hnil HS2.out (by simp [hsz]) fun x hx => absurd rfl hx)).symm, World.grownBy_alloc w _ none⟩
  · have hne : ¬ ((0 : Int) = tt.length) := by omega
    go_enter Try.func51, Try.ntmps51
    go_wp2
    go_ret
    refine ⟨ret_bool (sameB_no fun e => hsz ?_).symm, World.grownBy.refl _ _⟩
    exact (same_len hnil (by rw [e]; exact HS2.out)).symm

theorem equal_any {mp1 mp2 : Option Nat} {f g : Plc → Int} {n1 n2 : Nat} {w : World} (hM1 : MapIs w mp1 f n1) (hM2 : MapIs w mp2 g n2) :
    Calls Try.prog 51 #[.map mp1, .map mp2] w fun e w' => e = .returned (.bool (sameB f g)) ∧ Below w.heap.size w w' := by
  have hb : ∀ {w' : World}, w.grownBy w' none → Below w.heap.size w w' := fun hg => (Below.refl _ w).grown hg (Nat.le_refl _) fun k e => by cases e
  rcases hM1 with ⟨rfl, rfl⟩ | ⟨b, D, rfl, ho, hr⟩
  · exact (equal_none hM2).mono fun e w' h => ⟨h.1, hb h.2⟩
  · exact (equal_some ho hr hM2).mono fun e w' h => ⟨h.1, hb h.2⟩

set_option maxHeartbeats 1600000 in
theorem same_any {c1 c2 n1 n2 : Nat} {F1 F2 : Nat → Prop} {f g : Plc → Int} {q1 q2 : Cnt} {w : World} (hC1 : IsC w c1 F1 f q1 n1) (hC2 : IsC w c2 F2 g q2 n2) :
    Calls Try.prog 27 #[.pointer (some ⟨c1, 0, none⟩), .pointer (some ⟨c2, 0, none⟩)] w fun e w' => e = .returned (.bool (sameB f g)) ∧ Below w.heap.size w w' := by
  obtain ⟨mp1, hb1, hm1, hF1⟩ := hC1
  obtain ⟨mp2, hb2, hm2, hF2⟩ := hC2
  have hk : Hid (∀ w', MapIs w' mp1 f n1 → MapIs w' mp2 g n2 → Calls Try.prog 51 #[.map mp1, .map mp2] w' fun e w'' => e = .returned (.bool (sameB f g)) ∧ Below w'.heap.size w' w'') := Lib.hid fun w' h1 h2 => equal_any h1 h2
  generalize sameB f g = z at *
  go_enter Try.func27, Try.ntmps27
  go_wp2_with fail
  refine Ord.wp_chain [] (fun w' => (Below w.heap.size w w' ∧ Blk 0 w' c1 (cv mp1 q1) ∧ Blk 0 w' c2 (cv mp2 q2)) ∧ MapIs w' mp1 f n1 ∧ MapIs w' mp2 g n2) (fun _ _ => True) (by kernel_rfl) (by kernel_rfl) (by kernel_rfl) ⟨⟨(Below.refl _ _).drew, hb1.drew, hb2.drew⟩, hm1.drew, hm2.drew⟩ trivial (fun hT => ?_)
  have hT9 := Lib.hid hT
  clear hT
  repeat (first
    | (refine Ord.ch_value (v := ?_) hT9.out (by decide) (by rfl) ?_ ?_; rotate_left; (focus (intro w5 hS; have r := hS.1.2.1.rule; have r2 := hS.1.2.2.rule; unfold cv at r r2; go_simp <;> with_reducible rfl)); (try simp only [Act.put, List.setIfInBounds_toArray, List.set_cons_zero, List.set_cons_succ]))
    | (refine Ord.ch_off hT9.out (by decide) (by rfl) ?_; (try simp only [Act.put, List.setIfInBounds_toArray, List.set_cons_zero, List.set_cons_succ])))
  refine Ord.ch_call (v := .bool z) (f := 51) (args := #[.map mp1, .map mp2]) hT9.out (by decide) (by rfl) ?_ ?_ ?_
  · intro w5 hS
    go_simp
  · intro w5 hS
    refine (hk.out _ hS.2.1 hS.2.2).mono ?_
    rintro e w6 ⟨rfl, hb6⟩
    exact ⟨rfl, ⟨⟨hS.1.1.trans (hb6.mono hS.1.1.size), hS.1.2.1.kept hb6.size (hb6.block _ hS.1.2.1.1), hS.1.2.2.kept hb6.size (hb6.block _ hS.1.2.2.1)⟩, hS.2.1.kept fun b e => hb6.block b (hS.2.1.lt b e), hS.2.2.kept fun b e => hb6.block b (hS.2.2.lt b e)⟩, fun _ h => h⟩
  (try simp only [Act.put, List.setIfInBounds_toArray, List.set_cons_zero, List.set_cons_succ])
  repeat (first
    | (refine Ord.ch_value (v := ?_) hT9.out (by decide) (by rfl) ?_ ?_; rotate_left; (focus (intro w5 hS; skip; go_simp <;> with_reducible rfl)); (try simp only [Act.put, List.setIfInBounds_toArray, List.set_cons_zero, List.set_cons_succ]))
    | (refine Ord.ch_off hT9.out (by decide) (by rfl) ?_; (try simp only [Act.put, List.setIfInBounds_toArray, List.set_cons_zero, List.set_cons_succ])))
  refine Ord.InText.nil fun w5 hS => ?_
  clear hT9
  obtain ⟨hC9, hA9⟩ := Ord.chain_end hS
  clear hS
  go_wp2
  go_ret
  exact ⟨rfl, hC9.1.1⟩

set_option maxHeartbeats 400000 in
theorem same_nil (p : Option Addr) (w : World) : Calls Try.prog 27 #[.pointer p, .pointer none] w fun e w' => e = .returned (.bool p.isNone) ∧ w' = w := by
  cases p
  all_goals
    go_enter Try.func27, Try.ntmps27
    go_wp2
    go_ret
    exact ⟨rfl, rfl⟩
end Go.Proofs.Ytmihfpdbaagjnaa
