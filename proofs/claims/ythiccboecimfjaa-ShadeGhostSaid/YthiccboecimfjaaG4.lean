/- What is proved on the way to the statement, part 4 of 5: contracts of the functions, among other things in memory. -/
import Derived.Test.YthiccboecimfjaaG3
import Derived.WalkKit
import Derived.ProofKit
import Derived.OpenShut
import Derived.Deep.SlicePairs
import Derived.SizedLaws
import Derived.Lib.SliceRun
import Derived.Test.YthiccboecimfjaaChecked
import Derived.Lib.SmallJoins

/- Whether two shared cells have the same words. -/
namespace Go.Proofs.Ythiccboecimfjaa
open Go.RowKit Go.Maps Go.Shelf
set_option maxRecDepth 100000

/-- What has come of the first map has been found in the second. -/
def GoodP (D : DataW Unit) (f g : Plc → Int) (left : Lit → Bool) : Prop := ∀ x, Wf x → Maps.has D (kl x) = true → left (kl x) = false → g x = f x

open Classical in
noncomputable def sameB (f g : Plc → Int) : Bool := decide (f = g)
theorem sameB_yes {f g : Plc → Int} (h : f = g) : sameB f g = true := by simp [sameB, h]
theorem sameB_no {f g : Plc → Int} (h : f ≠ g) : sameB f g = false := by simp [sameB, h]

set_option maxRecDepth 100000 in
set_option maxHeartbeats 3200000 in
theorem equal_some {b : Nat} {D : DataW Unit} {mp2 : Option Nat} {f g : Plc → Int} {n1 n2 : Nat} {w : World} (h1 : w.ownsMap Try.prog 44 (plainElem (H := Unit) Try.prog 40) b n1 D) (hr : ReadsF D f) (hM2 : MapIs w mp2 g n2) :
    Calls Try.prog 51 #[.map (some b), .map mp2] w fun e w' => e = .returned (.bool (sameB f g)) ∧ w.grownBy w' none := by
  obtain ⟨ss, hs1, l1⟩ := MapIs.count (w := w) (mp := some b) (f := f) (n := n1) (.inr ⟨b, D, rfl, h1, hr⟩)
  obtain ⟨tt, hs2, l2⟩ := hM2.count
  unfold msz at l1 l2
  have HS1 := Lib.hid hs1
  have HS2 := Lib.hid hs2
  clear hs1 hs2
  generalize hres : sameB f g = res
  have RES := Lib.hid hres
  clear hres
  by_cases hsz : ss.length = tt.length
  · rw [← hsz] at l2
    go_enter Try.func51, Try.ntmps51
    go_wp2_with (first
      | (at_range; refine wpList_range_own _ rfl _ 87 rfl 44 40 keyPlace Try.underlying87 _ b n1 _ rfl h1 ?_; intro w0 hrg0 hg0 hs0)
      | go_in)
    go_frame
    go_loopw [6] (fun _ wr => ∃ (left : Lit → Bool) (cnt : Nat), wr.ranges Try.prog 44 (plainElem (H := Unit) Try.prog 40) b w.heap.size n1 D left cnt ∧ MapIs wr mp2 g n2 ∧ w.grownBy wr none ∧ GoodP D f g left)
      (fun _ wr => wr.rangeLeft b w.heap.size)
    case atStart => exact ⟨_, _, hrg0, hM2.kept fun b' e => hg0.block b' (hM2.lt b' e) (by simp), hg0, fun x _ h2 h3 => by rw [h2] at h3; cases h3⟩
    case round =>
      obtain ⟨left, cnt, hrg, hM, hgw, hG⟩ := hrel
      clear l1 l2
      go_wp2_with (first
        | (at_next; refine wpList_next_ranges _ rfl _ rfl 44 keyPlace (plainElem (H := Unit) Try.prog 40) (fun x : Plc => Value.agg #[.int .i64 x.1, .int .i64 x.2.1, .int .i64 x.2.2]) (Value.int .u64) (fun key kl hk => by obtain ⟨x, _, hx, _⟩ := key_inv hk; exact ⟨x, hx⟩) (fun v y hv => by obtain ⟨c, rfl, _⟩ := plainElem_int_inv Try.underlying40 hv; exact ⟨c, rfl⟩) b w.heap.size n1 _ _ _ rfl hrg ?_ ?_)
        | go_in)
      · intro _ hl0
        go_wp2
        go_ret
        refine ⟨ret_bool ?_, hgw⟩
        rw [← RES.out]
        refine (sameB_yes (same_of HS1.out HS2.out hsz fun x hx => ?_)).symm
        have hw : Wf x := by
          refine Classical.byContradiction fun hw => hx (hr.words.out x hw)
        exact hG x hw (by rw [hr.has' x hw]; simpa using hx) (hl0 _)
      · intro xa xb xc c kx yd yp w2 cnt2 hkey hlk hv hat hrg2 hlt hg2 hs2 hen
        obtain ⟨x, hx', ex, rfl⟩ := key_inv hkey
        obtain ⟨ya, yb, yc⟩ := x
        have ex' := pv_inj (x := (xa, xb, xc)) ex
        obtain ⟨rfl, rfl, rfl⟩ : xa = ya ∧ xb = yb ∧ xc = yc := by simpa using ex'
        clear ex ex'
        have hfx : f (xa, xb, xc) = c := by
          obtain ⟨c', ec, hyd, _⟩ := plainElem_int_inv Try.underlying40 hv
          obtain rfl : c = c' := by simpa using ec
          have e1 := hr.at' _ hx'
          rw [hat] at e1
          have e2 := congrArg Prod.fst hyd
          simp only at e2
          rw [e2] at e1
          simp [wd] at e1
          exact e1.symm
        have hf0 : c ≠ 0 := by
          have h3 := hr.has' _ hx'
          rw [has_true_of_atKey hat, hfx] at h3
          simpa using h3.symm
        have hM2' : MapIs (w2.alloc (.cells #[.int .i64 xa, .int .i64 xb, .int .i64 xc] 44)) mp2 g n2 := (hM.kept fun b' e => hg2.block b' (hM.lt b' e) (fun e2 => by cases e2; have := hM2.lt _ e; omega)).more _
        have hl := hM2'.look2 hx'
        simp only [pv] at hl
        have hgw2 : w.grownBy (w2.alloc (.cells #[.int .i64 xa, .int .i64 xb, .int .i64 xc] 44)) none := (hgw.andThen hg2 (fun j e => by cases e; exact .inl (Nat.le_refl _))).andThen (World.grownBy_alloc w2 _ none) (fun j e => by cases e)
        have hrg2' := hrg2.alloc (.cells #[.int .i64 xa, .int .i64 xb, .int .i64 xc] 44)
        have hcnt := Lib.hid hrg.left_eq
        have HLT := Lib.hid hlt
        have HG := Lib.hid hG
        have HAT := Lib.hid hat
        clear hs2 hlt hG hat hrg hrg0 hg0 hv hkey hlk
        by_cases hgx : g (xa, xb, xc) = c
        · rw [hgx] at hl
          have hcb : (decide (c ≠ 0)) = true := by simpa using hf0
          rw [hcb] at hl
          clear hcb hf0
          go_wp2
          go_roundw
          case rel =>
            refine ⟨_, cnt2, hrg2', hM2', hgw2, fun y hy h2 h3 => ?_⟩
            by_cases e : y = (xa, xb, xc)
            · rw [e, hgx, hfx]
            · refine HG.out y hy h2 ?_
              have hne : kl y ≠ kl (xa, xb, xc) := fun e' => e (kl_inj hy hx' e')
              simpa [sameKey_ne hne] using h3
          case measure => rw [hrg2'.left_eq, hcnt.out]; exact HLT.out
        · have hbad : sameB f g = false := sameB_no fun e => hgx (by rw [← e]; exact hfx)
          by_cases hg0' : g (xa, xb, xc) = 0
          · rw [hg0'] at hl
            have hcb : (decide ((0 : Int) ≠ 0)) = false := by simp
            rw [hcb] at hl
            clear hcb
            go_wp2
            go_ret
            exact ⟨ret_bool (by rw [← RES.out, hbad]), hgw2⟩
          · generalize g (xa, xb, xc) = v at *
            have hcb : (decide (v ≠ 0)) = true := by simpa using hg0'
            rw [hcb] at hl
            have hcv : (c != v) = true := by simp; exact fun e => hgx e.symm
            clear hcb hg0' hf0
            go_wp2
            go_ret
            exact ⟨ret_bool (by rw [← RES.out, hbad]), hgw2⟩
  · have hne : ¬ ((ss.length : Int) = tt.length) := fun e => hsz (by exact_mod_cast e)
    go_enter Try.func51, Try.ntmps51
    go_wp2
    go_ret
    refine ⟨ret_bool ?_, World.grownBy.refl _ _⟩
    rw [← RES.out]
    exact (sameB_no fun e => hsz (same_len HS1.out (by rw [e]; exact HS2.out))).symm

set_option maxRecDepth 100000 in
set_option maxHeartbeats 1600000 in
theorem equal_none {mp2 : Option Nat} {g : Plc → Int} {n2 : Nat} {w : World} (hM2 : MapIs w mp2 g n2) :
    Calls Try.prog 51 #[.map none, .map mp2] w fun e w' => e = .returned (.bool (sameB (fun _ => 0) g)) ∧ w.grownBy w' none := by
  obtain ⟨tt, hs2, l2⟩ := hM2.count
  have hnil : OpsF (fun _ => 0) [] := ⟨List.nodup_nil, by simp⟩
  have l1 : ∀ ty, (Builtin.len_ #[87] ty #[.map none]).run Try.prog w = .ok (.int .i64 0) w := fun ty => Maps.len_nil Try.underlying87 ty
  unfold msz at l2
  have hrg := run_range_nilMap (P := Try.prog) w 87 _ _ Try.underlying87
  have hnx : ∀ ty, (Instr.next (.pointer (some ⟨w.heap.size, 0, none⟩)) false ty).run Try.prog (w.alloc (.mapIter none 0 #[] 0)) = _ := fun ty => run_next_nilMap _ ty 0 0 #[]
  have HS2 := Lib.hid hs2
  clear hs2 hM2
  by_cases hsz : tt.length = 0
  · rw [hsz] at l2
    have htt : tt = [] := List.eq_nil_of_length_eq_zero hsz
    go_enter Try.func51, Try.ntmps51
    go_wp2
    refine wp_loop_rounds 1 ?_
    rw [rounds_succ]
    go_wp2
    go_ret
    refine ⟨ret_bool (sameB_yes (same_of hnil HS2.out (by simp [hsz]) fun x hx => absurd rfl hx)).symm, World.grownBy_alloc w _ none⟩
  · have hne : ¬ ((0 : Int) = tt.length) := by omega
    go_enter Try.func51, Try.ntmps51
    go_wp2
    go_ret
    refine ⟨ret_bool (sameB_no fun e => hsz ?_).symm, World.grownBy.refl _ _⟩
    exact (same_len hnil (by rw [e]; exact HS2.out)).symm

theorem equal_any {mp1 mp2 : Option Nat} {f g : Plc → Int} {n1 n2 : Nat} {w : World} (hM1 : MapIs w mp1 f n1) (hM2 : MapIs w mp2 g n2) :
    Calls Try.prog 51 #[.map mp1, .map mp2] w fun e w' => e = .returned (.bool (sameB f g)) ∧ Below w.heap.size w w' := by
  have hb : ∀ {w' : World}, w.grownBy w' none → Below w.heap.size w w' := fun hg => (Below.refl _ w).grown hg (Nat.le_refl _) fun k e => by cases e
  rcases hM1 with ⟨rfl, rfl⟩ | ⟨b, D, rfl, ho, hr⟩
  · exact (equal_none hM2).mono fun e w' h => ⟨h.1, hb h.2⟩
  · exact (equal_some ho hr hM2).mono fun e w' h => ⟨h.1, hb h.2⟩

set_option maxHeartbeats 1600000 in
theorem same_any {c1 c2 n1 n2 : Nat} {F1 F2 : Nat → Prop} {f g : Plc → Int} {q1 q2 : Cnt} {w : World} (hC1 : IsC w c1 F1 f q1 n1) (hC2 : IsC w c2 F2 g q2 n2) :
    Calls Try.prog 26 #[.pointer (some ⟨c1, 0, none⟩), .pointer (some ⟨c2, 0, none⟩)] w fun e w' => e = .returned (.bool (sameB f g)) ∧ Below w.heap.size w w' := by
  obtain ⟨mp1, hb1, hm1, hF1⟩ := hC1
  obtain ⟨mp2, hb2, hm2, hF2⟩ := hC2
  have hk : Hid (∀ w', MapIs w' mp1 f n1 → MapIs w' mp2 g n2 → Calls Try.prog 51 #[.map mp1, .map mp2] w' fun e w'' => e = .returned (.bool (sameB f g)) ∧ Below w'.heap.size w' w'') := Lib.hid fun w' h1 h2 => equal_any h1 h2
  generalize sameB f g = z at *
  go_enter Try.func26, Try.ntmps26
  go_wp2_with fail
  refine Ord.wp_chain [] (fun w' => (Below w.heap.size w w' ∧ Blk 0 w' c1 (cv mp1 q1) ∧ Blk 0 w' c2 (cv mp2 q2)) ∧ MapIs w' mp1 f n1 ∧ MapIs w' mp2 g n2) (fun _ _ => True) (by kernel_rfl) (by kernel_rfl) (by kernel_rfl) ⟨⟨(Below.refl _ _).drew, hb1.drew, hb2.drew⟩, hm1.drew, hm2.drew⟩ trivial (fun hT => ?_)
  have hT9 := Lib.hid hT
  clear hT
  repeat (first
    | (refine Ord.ch_value (v := ?_) hT9.out (by decide) (by rfl) ?_ ?_; rotate_left; (focus (intro w5 hS; have r := hS.1.2.1.rule; have r2 := hS.1.2.2.rule; unfold cv at r r2; go_simp <;> with_reducible rfl)); (try simp only [Act.put, List.setIfInBounds_toArray, List.set_cons_zero, List.set_cons_succ]))
    | (refine Ord.ch_off hT9.out (by decide) (by rfl) ?_; (try simp only [Act.put, List.setIfInBounds_toArray, List.set_cons_zero, List.set_cons_succ])))
  refine Ord.ch_call (v := .bool z) (f := 51) (args := #[.map mp1, .map mp2]) hT9.out (by decide) (by rfl) ?_ ?_ ?_
  · intro w5 hS
    go_simp
  · intro w5 hS
    refine (hk.out _ hS.2.1 hS.2.2).mono ?_
    rintro e w6 ⟨rfl, hb6⟩
    exact ⟨rfl, ⟨⟨hS.1.1.trans (hb6.mono hS.1.1.size), hS.1.2.1.kept hb6.size (hb6.block _ hS.1.2.1.1), hS.1.2.2.kept hb6.size (hb6.block _ hS.1.2.2.1)⟩, hS.2.1.kept fun b e => hb6.block b (hS.2.1.lt b e), hS.2.2.kept fun b e => hb6.block b (hS.2.2.lt b e)⟩, fun _ h => h⟩
  (try simp only [Act.put, List.setIfInBounds_toArray, List.set_cons_zero, List.set_cons_succ])
  repeat (first
    | (refine Ord.ch_value (v := ?_) hT9.out (by decide) (by rfl) ?_ ?_; rotate_left; (focus (intro w5 hS; skip; go_simp <;> with_reducible rfl)); (try simp only [Act.put, List.setIfInBounds_toArray, List.set_cons_zero, List.set_cons_succ]))
    | (refine Ord.ch_off hT9.out (by decide) (by rfl) ?_; (try simp only [Act.put, List.setIfInBounds_toArray, List.set_cons_zero, List.set_cons_succ])))
  refine Ord.InText.nil fun w5 hS => ?_
  clear hT9
  obtain ⟨hC9, hA9⟩ := Ord.chain_end hS
  clear hS
  go_wp2
  go_ret
  exact ⟨rfl, hC9.1.1⟩

set_option maxHeartbeats 400000 in
theorem same_nil (p : Option Addr) (w : World) : Calls Try.prog 26 #[.pointer p, .pointer none] w fun e w' => e = .returned (.bool p.isNone) ∧ w' = w := by
  cases p
  all_goals
    go_enter Try.func26, Try.ntmps26
    go_wp2
    go_ret
    exact ⟨rfl, rfl⟩
end Go.Proofs.Ythiccboecimfjaa

/- The plain world: a copy of its cells. -/
namespace Go.Proofs.Ythiccboecimfjaa
open Go.RowKit Go.Maps
set_option maxRecDepth 100000

theorem cells_w {w0 w : World} {L : List Item} {p c n : Nat} {F : Nat → Prop} {f : Plc → Int} {q : Cnt} (i j : Nat) (hE : Env w0 L w) (hi : L[i]? = some (wbox p c)) (hj : L[j]? = some (cellI c F f q n)) :
    Calls Try.prog 52 #[.pointer (some ⟨p, 0, none⟩)] w fun e w' => ∃ c' F', e = .returned (.pointer (some ⟨c', 0, none⟩)) ∧ Env w0 (cellI c' F' f ⟨0, 0, 0, 0, 0⟩ n :: L) w' := by
  go_enter Try.func52, Try.ntmps52
  go_wp2_with fail
  refine (kept_any (hE.wblk i hi)).mono ?_
  rintro e w1 ⟨rfl, rfl⟩
  go_wp2_with fail
  refine (copy_any (hE.cell j hj)).mono ?_
  rintro e w2 ⟨c', F', rfl, hC, hF, hb⟩
  go_wp2
  go_ret
  exact ⟨c', F', rfl, hE.made2 hC hF hb⟩
end Go.Proofs.Ythiccboecimfjaa

/- The plain world, watched: what is loaded, and swapped; a copy of its cells. -/
namespace Go.Proofs.Ythiccboecimfjaa
open Go.RowKit Go.Maps
set_option maxRecDepth 100000

/-- The fields of a value. -/
theorem valWord (v : World) (a b : Int) (d : Bool) : (Instr.field 42 (.agg #[.int .u64 a, .int .i64 b, .bool d]) 0).run Try.prog v = .ok (.int .u64 a) v := by kernel_rfl
theorem valStale (v : World) (a b : Int) (d : Bool) : (Instr.field 42 (.agg #[.int .u64 a, .int .i64 b, .bool d]) 2).run Try.prog v = .ok (.bool d) v := by kernel_rfl

section
variable {w0 w : World} {L : List Item} {g p s c n m : Nat} {mp : Option Nat} {S F : Nat → Prop} {h f : Plc → Int} {l : List Int} {q : Cnt} {st fa : Int}
theorem cells_g (i : Nat) (hE : Env w0 L w) (hg : L[i]? = some (boxI g (gv p mp s st fa))) (hw : L[i + 3]? = some (wbox p c)) (hc : L[i + 4]? = some (cellI c F f q n)) :
    Calls Try.prog 27 #[.pointer (some ⟨g, 0, none⟩)] w fun e w' => ∃ c' F', e = .returned (.pointer (some ⟨c', 0, none⟩)) ∧ Env w0 (cellI c' F' f ⟨0, 0, 0, 0, 0⟩ n :: L) w' := by
  go_enter Try.func27, Try.ntmps27
  go_wp2_with fail
  refine (watched_any (hE.gblk i hg)).mono ?_
  rintro e w1 ⟨rfl, rfl⟩
  go_wp2_with fail
  refine (cells_w (i + 3) (i + 4) hE hw hc).mono ?_
  rintro e w2 ⟨c', F', rfl, hE2⟩
  go_wp2
  go_ret
  exact ⟨c', F', rfl, hE2⟩

set_option maxHeartbeats 1600000 in
theorem load_g (x y z d : Int) (hx : Wf (x, y, z)) (hl : l.length ≤ 1000000) (i : Nat) (hE : Env w0 L w) (hg : L[i]? = some (boxI g (gv p mp s st fa))) (hh : L[i + 1]? = some (leadsI mp h m)) (hs : L[i + 2]? = some (soulI s S l)) (hw : L[i + 3]? = some (wbox p c)) (hc : L[i + 4]? = some (cellI c F f q n)) :
    Calls Try.prog 19 #[.pointer (some ⟨g, 0, none⟩), .agg #[.int .i64 x, .int .i64 y, .int .i64 z, .int .i64 d]] w fun e w' => e = .returned (.agg #[.int .u64 (f (x, y, z)), .int .i64 (h (x, y, z)), .bool (stB l x y d)]) ∧ Env w0 ((L.set i (boxI g (gv p mp s (if stB l x y d = true then wrap64 (st + 1) else st) fa))).set (i + 4) (cellI c F f { q with l := wrap64 (q.l + 1) } n)) w' := by
  replace hE := (hE.box w.heap.size rfl [.int .i64 x, .int .i64 y, .int .i64 z, .int .i64 d] 46).box (w.heap.size + 1) (by simp) [.int .u64 0, .int .i64 0, .bool false] 42
  have HX := Lib.hid hx
  clear hx
  generalize hst : stB l x y d = t
  generalize hsz : (if t = true then wrap64 (st + 1) else st) = sz
  have HST := Lib.hid hst
  have HSZ := Lib.hid hsz
  clear hst hsz
  go_enter Try.func19, Try.ntmps19
  go_upto_region 3 with fail
  generalize (w.alloc _).alloc _ = w1 at *
  generalize w.heap.size + 1 = Y at *
  generalize w.heap.size = X at *
  have r0 := hE.rule 1 rfl
  go_wp2_with fail
  refine (isStale_any x y z d HX.out.2.1 hl (i + 2) (i + 4) hE hg hs).mono ?_
  rintro e1 w2 ⟨rfl, hb⟩
  rw [HST.out]
  replace hE := hE.over hb
  clear r0 hb
  have r2 := hE.rule (i + 2) hg
  have z2 := hE.thaw (i + 2) hg 3 (by simp [gv])
  have hP := hE.put (i + 2) hg (j := 3) (by simp [gv]) (.int .i64 (wrap64 (st + 1)))
  have HP : Hid (Env w0 (boxI Y [.int .u64 0, .int .i64 0, .bool false] :: boxI X [.int .i64 x, .int .i64 y, .int .i64 z, .int .i64 d] :: L.set i (boxI g (gv p mp s (wrap64 (st + 1)) fa))) (w2.setCell ⟨g, 3, none⟩ (.int .i64 (wrap64 (st + 1))))) := Lib.hid hP
  have HP0 : Hid (Env w0 (boxI Y [.int .u64 0, .int .i64 0, .bool false] :: boxI X [.int .i64 x, .int .i64 y, .int .i64 z, .int .i64 d] :: L.set i (boxI g (gv p mp s st fa))) w2) := Lib.hid (by rw [setSelf hg]; exact hE)
  clear hP hE
  unfold gv at r2
  clear HST
  cases t
  case' false =>
    go_upto_region 6 with fail
    have hE := HP0.out
    have ez : st = sz := by simpa using HSZ.out
    clear r2 z2 HP HP0
    rw [ez] at hE
    clear ez
    generalize w2 = w3 at *
  case' true =>
    go_upto_region 6 with fail
    have hE := HP.out
    have ez : wrap64 (st + 1) = sz := by simpa using HSZ.out
    clear r2 z2 HP HP0
    generalize World.setCell _ _ _ = w3 at *
    rw [ez] at hE
    clear ez
  case false =>
    have hg1 : (L.set i (boxI g (gv p mp s sz fa)))[i]? = some (boxI g (gv p mp s sz fa)) := wself hg
    have hh1 : (L.set i (boxI g (gv p mp s sz fa)))[i + 1]? = some (leadsI mp h m) := wset (j := i) (by omega) hh
    have hw1 : (L.set i (boxI g (gv p mp s sz fa)))[i + 3]? = some (wbox p c) := wset (j := i) (by omega) hw
    have hc1 : (L.set i (boxI g (gv p mp s sz fa)))[i + 4]? = some (cellI c F f q n) := wset (j := i) (by omega) hc
    have hg2 : ((L.set i (boxI g (gv p mp s sz fa))).set (i + 4) (cellI c F f { q with l := wrap64 (q.l + 1) } n))[i]? = some (boxI g (gv p mp s sz fa)) := wset (j := i + 4) (by omega) hg1
    have hh2 : ((L.set i (boxI g (gv p mp s sz fa))).set (i + 4) (cellI c F f { q with l := wrap64 (q.l + 1) } n))[i + 1]? = some (leadsI mp h m) := wset (j := i + 4) (by omega) hh1
    clear HSZ
    generalize hL1 : L.set i (boxI g (gv p mp s sz fa)) = L1 at *
    have HL1 := Lib.hid hL1
    clear hL1
    refine Ord.wp_chain [5, 16] (fun w' => Blk 0 w' X [.int .i64 x, .int .i64 y, .int .i64 z, .int .i64 d] ∧ Blk 0 w' g (gv p mp s sz fa) ∧ LeadsIs w' mp h m) (Stage [Env w0 (boxI Y [.int .u64 0, .int .i64 0, .bool false] :: boxI X [.int .i64 x, .int .i64 y, .int .i64 z, .int .i64 d] :: L1), Env w0 (boxI Y [.int .u64 0, .int .i64 0, .bool false] :: boxI X [.int .i64 x, .int .i64 y, .int .i64 z, .int .i64 d] :: L1.set (i + 4) (cellI c F f { q with l := wrap64 (q.l + 1) } n)), Env w0 (boxI Y [.int .u64 (f (x, y, z)), .int .i64 (h (x, y, z)), .bool false] :: boxI X [.int .i64 x, .int .i64 y, .int .i64 z, .int .i64 d] :: L1.set (i + 4) (cellI c F f { q with l := wrap64 (q.l + 1) } n))]) (by kernel_rfl) (by kernel_rfl) (by kernel_rfl) ⟨hE.drew.get 1 rfl, hE.drew.get (i + 2) hg1, hE.drew.get (i + 3) hh1⟩ ⟨_, rfl, hE.drew⟩ (fun hT => ?_)
    have hT9 := Lib.hid hT
    clear hT
    repeat (first
      | (refine Ord.ch_value (v := ?_) hT9.out (by decide) (by rfl) ?_ ?_; rotate_left; (focus (intro w5 hS; have r0 := hS.1.rule; have r2 := hS.2.1.rule; unfold gv at r2; have hl := hS.2.2.look HX.out; simp only [pv] at hl; go_simp <;> with_reducible rfl)); (try simp only [Act.put, List.setIfInBounds_toArray, List.set_cons_zero, List.set_cons_succ]))
      | (refine Ord.ch_off hT9.out (by decide) (by rfl) ?_; (try simp only [Act.put, List.setIfInBounds_toArray, List.set_cons_zero, List.set_cons_succ])))
    refine Ord.ch_turn (v := .agg #[.int .u64 (f (x, y, z)), .int .i64 0, .bool false]) 0 hT9.out rfl (by decide) (Or.inl rfl) (by rfl) ?_ ?_
    · rintro w5 hC5 ⟨P5, hP5, hA5⟩
      cases hP5
      skip
      go_simp
      simp only [Ord.LandsIn]
      refine (load_w x y z d HX.out (i + 5) (i + 6) (by omega) hA5 hw1 hc1).mono ?_
      rintro e6 w6 ⟨rfl, hE6⟩; exact ⟨rfl, ⟨hE6.get 1 rfl, hE6.get (i + 2) hg2, hE6.get (i + 3) hh2⟩, _, rfl, hE6⟩
    (try simp only [Act.put, List.setIfInBounds_toArray, List.set_cons_zero, List.set_cons_succ])
    repeat (first
      | (refine Ord.ch_value (v := ?_) hT9.out (by decide) (by rfl) ?_ ?_; rotate_left; (focus (intro w5 hS; have r0 := hS.1.rule; have r2 := hS.2.1.rule; unfold gv at r2; have hl := hS.2.2.look HX.out; simp only [pv] at hl; have hf := valWord; go_simp <;> with_reducible rfl)); (try simp only [Act.put, List.setIfInBounds_toArray, List.set_cons_zero, List.set_cons_succ]))
      | (refine Ord.ch_off hT9.out (by decide) (by rfl) ?_; (try simp only [Act.put, List.setIfInBounds_toArray, List.set_cons_zero, List.set_cons_succ])))
    refine Ord.ch_turn (v := undef) 1 hT9.out rfl (by decide) (Or.inr ⟨_, rfl, by kernel_rfl⟩) (by rfl) ?_ ?_
    · rintro w5 hC5 ⟨P5, hP5, hA5⟩
      cases hP5
      have r := hA5.rule 0 rfl
      have ff := hA5.thaw 0 rfl
      have f0 := ff 0 (by simp)
      have f1 := ff 1 (by simp)
      have f2 := ff 2 (by simp)
      clear ff
      go_simp
      have hE6 := hA5.put3 0 rfl (.int .u64 (f (x, y, z))) (.int .i64 (h (x, y, z))) (.bool false)
      exact ⟨rfl, ⟨hE6.get 1 rfl, hE6.get (i + 2) hg2, hE6.get (i + 3) hh2⟩, _, rfl, hE6⟩
    (try simp only [Act.put, List.setIfInBounds_toArray, List.set_cons_zero, List.set_cons_succ])
    repeat (first
      | (refine Ord.ch_value (v := ?_) hT9.out (by decide) (by rfl) ?_ ?_; rotate_left; (focus (intro w5 hS; skip; go_simp <;> with_reducible rfl)); (try simp only [Act.put, List.setIfInBounds_toArray, List.set_cons_zero, List.set_cons_succ]))
      | (refine Ord.ch_off hT9.out (by decide) (by rfl) ?_; (try simp only [Act.put, List.setIfInBounds_toArray, List.set_cons_zero, List.set_cons_succ])))
    refine Ord.InText.nil fun w5 hS => ?_
    clear hT9
    obtain ⟨hC9, hA9⟩ := Ord.chain_end hS
    clear hS
    obtain ⟨P9, hP9, hA9⟩ := hA9
    cases hP9
    have q9 := hA9.rule 0 rfl
    go_wp2
    exact bodyPost_ret (v := .agg #[.int .u64 (f (x, y, z)), .int .i64 (h (x, y, z)), .bool false]) (by simp [results, Try.results19, go_sem, q9]) rfl ⟨rfl, by rw [HL1.out]; exact hA9.sub (.cons _ (.cons _ (List.Sublist.refl _)))⟩
  case true =>
    have hg1 : (L.set i (boxI g (gv p mp s sz fa)))[i]? = some (boxI g (gv p mp s sz fa)) := wself hg
    have hh1 : (L.set i (boxI g (gv p mp s sz fa)))[i + 1]? = some (leadsI mp h m) := wset (j := i) (by omega) hh
    have hw1 : (L.set i (boxI g (gv p mp s sz fa)))[i + 3]? = some (wbox p c) := wset (j := i) (by omega) hw
    have hc1 : (L.set i (boxI g (gv p mp s sz fa)))[i + 4]? = some (cellI c F f q n) := wset (j := i) (by omega) hc
    have hg2 : ((L.set i (boxI g (gv p mp s sz fa))).set (i + 4) (cellI c F f { q with l := wrap64 (q.l + 1) } n))[i]? = some (boxI g (gv p mp s sz fa)) := wset (j := i + 4) (by omega) hg1
    have hh2 : ((L.set i (boxI g (gv p mp s sz fa))).set (i + 4) (cellI c F f { q with l := wrap64 (q.l + 1) } n))[i + 1]? = some (leadsI mp h m) := wset (j := i + 4) (by omega) hh1
    clear HSZ
    generalize hL1 : L.set i (boxI g (gv p mp s sz fa)) = L1 at *
    have HL1 := Lib.hid hL1
    clear hL1
    refine Ord.wp_chain [5, 16] (fun w' => Blk 0 w' X [.int .i64 x, .int .i64 y, .int .i64 z, .int .i64 d] ∧ Blk 0 w' g (gv p mp s sz fa) ∧ LeadsIs w' mp h m) (Stage [Env w0 (boxI Y [.int .u64 0, .int .i64 0, .bool false] :: boxI X [.int .i64 x, .int .i64 y, .int .i64 z, .int .i64 d] :: L1), Env w0 (boxI Y [.int .u64 0, .int .i64 0, .bool false] :: boxI X [.int .i64 x, .int .i64 y, .int .i64 z, .int .i64 d] :: L1.set (i + 4) (cellI c F f { q with l := wrap64 (q.l + 1) } n)), Env w0 (boxI Y [.int .u64 (f (x, y, z)), .int .i64 (h (x, y, z)), .bool true] :: boxI X [.int .i64 x, .int .i64 y, .int .i64 z, .int .i64 d] :: L1.set (i + 4) (cellI c F f { q with l := wrap64 (q.l + 1) } n))]) (by kernel_rfl) (by kernel_rfl) (by kernel_rfl) ⟨hE.drew.get 1 rfl, hE.drew.get (i + 2) hg1, hE.drew.get (i + 3) hh1⟩ ⟨_, rfl, hE.drew⟩ (fun hT => ?_)
    have hT9 := Lib.hid hT
    clear hT
    repeat (first
      | (refine Ord.ch_value (v := ?_) hT9.out (by decide) (by rfl) ?_ ?_; rotate_left; (focus (intro w5 hS; have r0 := hS.1.rule; have r2 := hS.2.1.rule; unfold gv at r2; have hl := hS.2.2.look HX.out; simp only [pv] at hl; go_simp <;> with_reducible rfl)); (try simp only [Act.put, List.setIfInBounds_toArray, List.set_cons_zero, List.set_cons_succ]))
      | (refine Ord.ch_off hT9.out (by decide) (by rfl) ?_; (try simp only [Act.put, List.setIfInBounds_toArray, List.set_cons_zero, List.set_cons_succ])))
    refine Ord.ch_turn (v := .agg #[.int .u64 (f (x, y, z)), .int .i64 0, .bool false]) 0 hT9.out rfl (by decide) (Or.inl rfl) (by rfl) ?_ ?_
    · rintro w5 hC5 ⟨P5, hP5, hA5⟩
      cases hP5
      skip
      go_simp
      simp only [Ord.LandsIn]
      refine (load_w x y z d HX.out (i + 5) (i + 6) (by omega) hA5 hw1 hc1).mono ?_
      rintro e6 w6 ⟨rfl, hE6⟩; exact ⟨rfl, ⟨hE6.get 1 rfl, hE6.get (i + 2) hg2, hE6.get (i + 3) hh2⟩, _, rfl, hE6⟩
    (try simp only [Act.put, List.setIfInBounds_toArray, List.set_cons_zero, List.set_cons_succ])
    repeat (first
      | (refine Ord.ch_value (v := ?_) hT9.out (by decide) (by rfl) ?_ ?_; rotate_left; (focus (intro w5 hS; have r0 := hS.1.rule; have r2 := hS.2.1.rule; unfold gv at r2; have hl := hS.2.2.look HX.out; simp only [pv] at hl; have hf := valWord; go_simp <;> with_reducible rfl)); (try simp only [Act.put, List.setIfInBounds_toArray, List.set_cons_zero, List.set_cons_succ]))
      | (refine Ord.ch_off hT9.out (by decide) (by rfl) ?_; (try simp only [Act.put, List.setIfInBounds_toArray, List.set_cons_zero, List.set_cons_succ])))
    refine Ord.ch_turn (v := undef) 1 hT9.out rfl (by decide) (Or.inr ⟨_, rfl, by kernel_rfl⟩) (by rfl) ?_ ?_
    · rintro w5 hC5 ⟨P5, hP5, hA5⟩
      cases hP5
      have r := hA5.rule 0 rfl
      have ff := hA5.thaw 0 rfl
      have f0 := ff 0 (by simp)
      have f1 := ff 1 (by simp)
      have f2 := ff 2 (by simp)
      clear ff
      go_simp
      have hE6 := hA5.put3 0 rfl (.int .u64 (f (x, y, z))) (.int .i64 (h (x, y, z))) (.bool true)
      exact ⟨rfl, ⟨hE6.get 1 rfl, hE6.get (i + 2) hg2, hE6.get (i + 3) hh2⟩, _, rfl, hE6⟩
    (try simp only [Act.put, List.setIfInBounds_toArray, List.set_cons_zero, List.set_cons_succ])
    repeat (first
      | (refine Ord.ch_value (v := ?_) hT9.out (by decide) (by rfl) ?_ ?_; rotate_left; (focus (intro w5 hS; skip; go_simp <;> with_reducible rfl)); (try simp only [Act.put, List.setIfInBounds_toArray, List.set_cons_zero, List.set_cons_succ]))
      | (refine Ord.ch_off hT9.out (by decide) (by rfl) ?_; (try simp only [Act.put, List.setIfInBounds_toArray, List.set_cons_zero, List.set_cons_succ])))
    refine Ord.InText.nil fun w5 hS => ?_
    clear hT9
    obtain ⟨hC9, hA9⟩ := Ord.chain_end hS
    clear hS
    obtain ⟨P9, hP9, hA9⟩ := hA9
    cases hP9
    have q9 := hA9.rule 0 rfl
    go_wp2
    exact bodyPost_ret (v := .agg #[.int .u64 (f (x, y, z)), .int .i64 (h (x, y, z)), .bool true]) (by simp [results, Try.results19, go_sem, q9]) rfl ⟨rfl, by rw [HL1.out]; exact hA9.sub (.cons _ (.cons _ (List.Sublist.refl _)))⟩
set_option maxHeartbeats 3200000 in
theorem swap_g (x y z d o oe v e : Int) (ob b : Bool) (hx : Wf (x, y, z)) (hv : InU v) (he : In64 e) (hn : n < maxLen) (hm : m < maxLen) (hl : l.length ≤ 1000000) (i : Nat) (hE : Env w0 L w) (hg : L[i]? = some (boxI g (gv p mp s st fa))) (hh : L[i + 1]? = some (leadsI mp h m)) (hs : L[i + 2]? = some (soulI s S l)) (hw : L[i + 3]? = some (wbox p c)) (hc : L[i + 4]? = some (cellI c F f q n)) :
    Calls Try.prog 21 #[.pointer (some ⟨g, 0, none⟩), .agg #[.int .i64 x, .int .i64 y, .int .i64 z, .int .i64 d], .agg #[.int .u64 o, .int .i64 oe, .bool ob], .agg #[.int .u64 v, .int .i64 e, .bool b]] w fun e' w' => e' = .returned (.bool (decide (f (x, y, z) = o))) ∧ ∃ mp' F', Env w0 (((L.set (i + 4) (cellI c F' (swf f (x, y, z) o v) (swq q (decide (f (x, y, z) = o))) (n + 1))).set i (boxI g (gv p mp' s st (if f (x, y, z) = o then faS l x y d (ob || b) fa else fa)))).set (i + 1) (leadsI mp' (if f (x, y, z) = o then upd h (x, y, z) e else h) (m + 1))) w' := by
  replace hE := (((hE.box w.heap.size rfl [.int .i64 x, .int .i64 y, .int .i64 z, .int .i64 d] 46).box (w.heap.size + 1) (by simp) [.int .u64 o, .int .i64 oe, .bool ob] 42).box (w.heap.size + 1 + 1) (by simp) [.int .u64 v, .int .i64 e, .bool b] 42)
  have HX := Lib.hid hx
  have HE := Lib.hid he
  have HV := Lib.hid hv
  clear hx he hv
  generalize hdo : decide (f (x, y, z) = o) = D
  generalize hfz : (if f (x, y, z) = o then faS l x y d (ob || b) fa else fa) = fz
  generalize hhz : (if f (x, y, z) = o then upd h (x, y, z) e else h) = hz
  have HDO := Lib.hid hdo
  have HFZ := Lib.hid hfz
  have HHZ := Lib.hid hhz
  clear hdo hfz hhz
  go_enter Try.func21, Try.ntmps21
  go_wp2_with fail
  generalize ((w.alloc _).alloc _).alloc _ = w1 at *
  generalize w.heap.size + 1 + 1 = Z at *
  generalize w.heap.size + 1 = Y at *
  generalize w.heap.size = X at *
  refine Ord.wp_chain [10] (fun w' => Blk 0 w' X [.int .i64 x, .int .i64 y, .int .i64 z, .int .i64 d] ∧ Blk 0 w' Y [.int .u64 o, .int .i64 oe, .bool ob] ∧ Blk 0 w' Z [.int .u64 v, .int .i64 e, .bool b] ∧ Blk 0 w' g (gv p mp s st fa)) (Stage [Env w0 (boxI Z [.int .u64 v, .int .i64 e, .bool b] :: boxI Y [.int .u64 o, .int .i64 oe, .bool ob] :: boxI X [.int .i64 x, .int .i64 y, .int .i64 z, .int .i64 d] :: L), fun w' => ∃ F', Env w0 (boxI Z [.int .u64 v, .int .i64 e, .bool b] :: boxI Y [.int .u64 o, .int .i64 oe, .bool ob] :: boxI X [.int .i64 x, .int .i64 y, .int .i64 z, .int .i64 d] :: L.set (i + 4) (cellI c F' (swf f (x, y, z) o v) (swq q D) (n + 1))) w']) (by kernel_rfl) (by kernel_rfl) (by kernel_rfl) ⟨hE.drew.get 2 rfl, hE.drew.get 1 rfl, hE.drew.get 0 rfl, hE.drew.get (i + 3) hg⟩ ⟨_, rfl, hE.drew⟩ (fun hT => ?_)
  have hT9 := Lib.hid hT
  clear hT
  repeat (first
    | (refine Ord.ch_value (v := ?_) hT9.out (by decide) (by rfl) ?_ ?_; rotate_left; (focus (intro w5 hS; have r0 := hS.1.rule; have r1 := hS.2.1.rule; have r3 := hS.2.2.1.rule; have r2 := hS.2.2.2.rule; unfold gv at r2; go_simp <;> with_reducible rfl)); (try simp only [Act.put, List.setIfInBounds_toArray, List.set_cons_zero, List.set_cons_succ]))
    | (refine Ord.ch_off hT9.out (by decide) (by rfl) ?_; (try simp only [Act.put, List.setIfInBounds_toArray, List.set_cons_zero, List.set_cons_succ])))
  refine Ord.ch_turn (v := .bool D) 0 hT9.out rfl (by decide) (Or.inl rfl) (by rfl) ?_ ?_
  · rintro w5 hC5 ⟨P5, hP5, hA5⟩
    cases hP5
    skip
    go_simp
    simp only [Ord.LandsIn]
    refine (swap_w x y z d o oe v e ob b HX.out HV.out hn (i + 6) (i + 7) (by omega) hA5 hw hc).mono ?_
    rintro e6 w6 ⟨rfl, F6, hE6⟩; rw [HDO.out] at hE6 ⊢; exact ⟨rfl, ⟨hE6.get 2 rfl, hE6.get 1 rfl, hE6.get 0 rfl, hE6.get (i + 3) (wset (j := i + 4) (by omega) hg)⟩, _, rfl, F6, hE6⟩
  (try simp only [Act.put, List.setIfInBounds_toArray, List.set_cons_zero, List.set_cons_succ])
  repeat (first
    | (refine Ord.ch_value (v := ?_) hT9.out (by decide) (by rfl) ?_ ?_; rotate_left; (focus (intro w5 hS; skip; go_simp <;> with_reducible rfl)); (try simp only [Act.put, List.setIfInBounds_toArray, List.set_cons_zero, List.set_cons_succ]))
    | (refine Ord.ch_off hT9.out (by decide) (by rfl) ?_; (try simp only [Act.put, List.setIfInBounds_toArray, List.set_cons_zero, List.set_cons_succ])))
  refine Ord.InText.nil fun w5 hS => ?_
  clear hT9
  obtain ⟨hC9, hA9⟩ := Ord.chain_end hS
  clear hS
  obtain ⟨P9, hP9, hA9⟩ := hA9
  cases hP9
  obtain ⟨F9, hA9⟩ := hA9
  clear hC9 hE
  have hg1 := wset (j := i + 4) (b := cellI c F9 (swf f (x, y, z) o v) (swq q D) (n + 1)) (by omega) hg
  have hh1 := wset (j := i + 4) (b := cellI c F9 (swf f (x, y, z) o v) (swq q D) (n + 1)) (by omega) hh
  have hs1 := wset (j := i + 4) (b := cellI c F9 (swf f (x, y, z) o v) (swq q D) (n + 1)) (by omega) hs
  generalize hL1 : L.set (i + 4) (cellI c F9 (swf f (x, y, z) o v) (swq q D) (n + 1)) = L1 at *
  have HL1 := Lib.hid hL1
  clear hL1
  cases D
  · have hno : ¬ f (x, y, z) = o := of_decide_eq_false HDO.out
    have e1 : fa = fz := by have := HFZ.out; rwa [if_neg hno] at this
    have e2 : h = hz := by have := HHZ.out; rwa [if_neg hno] at this
    subst e1 e2
    go_wp2_with fail
    go_ret
    refine ⟨rfl, mp, F9, ?_⟩
    have hE6 := hA9.sub (.cons _ (.cons _ (.cons _ (List.Sublist.refl _))))
    have hE7 := hE6.turnL (i + 1) hh1 ((hE6.leads (i + 1) hh1).mono (Nat.le_succ m)) (Turn.refl _ _)
    rw [HL1.out, setSelf hg1]
    exact hE7
  · have hyes : f (x, y, z) = o := of_decide_eq_true HDO.out
    have e1 : faS l x y d (ob || b) fa = fz := by have := HFZ.out; rwa [if_pos hyes] at this
    have e2 : upd h (x, y, z) e = hz := by have := HHZ.out; rwa [if_pos hyes] at this
    have E1 := Lib.hid e1
    have E2 := Lib.hid e2
    clear e1 e2
    have r0 := hA9.rule 0 rfl
    have r1 := hA9.rule 1 rfl
    have r3 := hA9.rule 2 rfl
    have cW := fun sb => written_g x y z d v e b sb HX.out HE.out hm hl (i + 3) hA9 hg1 hh1 hs1
    have CW := Lib.hid cW
    clear cW
    cases ob
    all_goals
      go_wp2_with fail
      refine (CW.out _).mono ?_
      rintro e6 w6 ⟨rfl, mp6, hE6⟩
      clear r0 r1 r3 hA9 CW
      go_wp2
      go_ret
      refine ⟨rfl, mp6, F9, ?_⟩
      have hE7 := hE6.sub (.cons _ (.cons _ (.cons _ (List.Sublist.refl _))))
      have e3 := E1.out
      rw [E2.out] at hE7
      rw [HL1.out, ← e3]
      exact hE7
end
end Go.Proofs.Ythiccboecimfjaa

/- Slices that come in, opened once: of numbers; of structs of two numbers. -/
namespace Go.Proofs.Ythiccboecimfjaa
open Go.RowKit Go.WideShapes Go.ChangeShapes Go.ChangeAt Go.Deep
set_option maxRecDepth 100000

section
variable {H : Type} {enc : TypeId × Value → H} {P : Program} {W : World}

theorem open_num_row {t e : TypeId} {k : IntKind} {A : Option Addr} {len cap : Nat} {d : DataW H} {p : List MemPlace} (ht : P.underlying t = some (.slice e)) (he : P.underlying e = some (.int k)) (hc : P.cellsOf e = 1)
    (h : DataW.Trod enc P W 0 (fun _ => true) true t (.slice A len cap) d p) (hlt : ∀ x ∈ p, x.block < W.heap.size) :
    ∃ zs : List Int, zs.length = len ∧ len ≤ maxLen ∧ (∀ n ∈ zs, (Lit.int k n).wf = true) ∧ (zs = [] ∨ ∃ b off, A = some ⟨b, off, none⟩ ∧ b < W.heap.size ∧ ∀ i, i < zs.length → W.cell? ⟨b, off + i, none⟩ = some (.int k (zs.getD i 0))) := by
  obtain ⟨fuel, hf⟩ := h
  rcases open_ints ht he hc hf with ⟨hcs, hx⟩ | ⟨a, len', cap', zs, hcs, _, hl, hm, hz, hx, hcell, hwz⟩
  · simp [Value.cells] at hcs
    obtain ⟨rfl, rfl, rfl⟩ := hcs
    exact ⟨[], rfl, Nat.zero_le _, by simp, Or.inl rfl⟩
  · simp [Value.cells] at hcs
    obtain ⟨rfl, rfl, rfl⟩ := hcs
    simp only [Prod.mk.injEq] at hx
    obtain ⟨rfl, rfl⟩ := hx
    simp only [if_true] at hz
    refine ⟨zs.take len, by simp; omega, by omega, fun n hn => hwz n (List.mem_of_mem_take hn), ?_⟩
    by_cases h0 : len = 0
    · left; subst h0; simp
    · right
      obtain ⟨b, off, spot⟩ := a
      have hspot : spot = none := by simpa [Addr.add] using World.cell?_spot (hcell 0 (by omega))
      subst hspot
      refine ⟨b, off, rfl, hlt (.cell b off) (MemPlace.mem_row.2 ⟨0, by omega, by simp⟩), fun i hi => ?_⟩
      have hi' : i < len := by simp at hi; omega
      have := hcell i (by omega)
      rw [add_plain] at this
      rw [this]
      simp [hi']

def numOf' : Value → Int | .int _ n => n | _ => 0

theorem open_pair_row {t e : TypeId} {k : IntKind} {f0 f1 : Field} {A : Option Addr} {len cap : Nat} {d : DataW H} {p : List MemPlace} (ht : P.underlying t = some (.slice e)) (he : P.underlying e = some (.struct #[f0, f1]))
    (ce : P.cellsOf e = 2) (o0 : f0.offset = 0) (o1 : f1.offset = 1) (c0 : P.cellsOf f0.type = 1) (c1 : P.cellsOf f1.type = 1) (u0 : P.underlying f0.type = some (.int k)) (u1 : P.underlying f1.type = some (.int k))
    (h : DataW.Trod enc P W 0 (fun _ => true) true t (.slice A len cap) d p) (hlt : ∀ x ∈ p, x.block < W.heap.size) :
    ∃ fs : List (Int × Int), fs.length = len ∧ len ≤ maxLen ∧ (∀ q ∈ fs, (Lit.int k q.1).wf = true ∧ (Lit.int k q.2).wf = true) ∧
      (fs = [] ∨ ∃ b off, A = some ⟨b, off, none⟩ ∧ b < W.heap.size ∧ ∀ i, i < fs.length → W.cell? ⟨b, off + i * 2, none⟩ = some (.int k (fs.getD i (0, 0)).1) ∧ W.cell? ⟨b, off + i * 2 + 1, none⟩ = some (.int k (fs.getD i (0, 0)).2)) := by
  obtain ⟨fuel, hf⟩ := h
  rcases open_slice_pairs ht he ce o0 o1 c0 c1 hf with ⟨hcs, hx⟩ | ⟨a, len', cap', m, n, V0, V1, D0, D1, P0, P1, hcs, _, hl, hm, hmm, hx, hall⟩
  · simp [Value.cells] at hcs
    obtain ⟨rfl, rfl, rfl⟩ := hcs
    exact ⟨[], rfl, Nat.zero_le _, by simp, Or.inl rfl⟩
  · simp [Value.cells] at hcs
    obtain ⟨rfl, rfl, rfl⟩ := hcs
    simp only [Prod.mk.injEq] at hx
    obtain ⟨rfl, rfl⟩ := hx
    simp only [if_true] at hmm
    subst hmm
    have each : ∀ i, i < m → (∃ x, V0 i = .int k x ∧ (Lit.int k x).wf = true) ∧ ∃ x, V1 i = .int k x ∧ (Lit.int k x).wf = true := fun i hi => by
      obtain ⟨_, _, h3, h4⟩ := hall i hi
      obtain ⟨x, e0, _, w0⟩ := DataW.trod_int u0 h3
      obtain ⟨y, e1, _, w1⟩ := DataW.trod_int u1 h4
      simp at e0 e1
      exact ⟨⟨x, e0, w0⟩, ⟨y, e1, w1⟩⟩
    refine ⟨(List.range len).map fun i => (numOf' (V0 i), numOf' (V1 i)), by simp, by omega, ?_, ?_⟩
    · intro q hq
      obtain ⟨i, hi, rfl⟩ := List.mem_map.1 hq
      have hi' := List.mem_range.1 hi
      obtain ⟨⟨x, e0, w0⟩, ⟨y, e1, w1⟩⟩ := each i (by omega)
      rw [e0, e1]
      exact ⟨w0, w1⟩
    · by_cases h0 : len = 0
      · left; subst h0; simp
      · right
        obtain ⟨b, off, spot⟩ := a
        have hspot : spot = none := by simpa [Addr.add] using World.cell?_spot (hall 0 (by omega)).1
        subst hspot
        refine ⟨b, off, rfl, hlt (.cell b off) (List.mem_append_left _ (MemPlace.mem_row.2 ⟨0, by omega, by simp⟩)), fun i hi => ?_⟩
        have hi' : i < len := by simpa using hi
        obtain ⟨h1, h2, _, _⟩ := hall i (by omega)
        obtain ⟨⟨x, e0, _⟩, ⟨y, e1, _⟩⟩ := each i (by omega)
        rw [add_plain] at h1 h2
        rw [Nat.add_assoc, h1, h2, e0, e1]
        simp [hi', e0, e1, numOf']
end
end Go.Proofs.Ythiccboecimfjaa

/- Rows of words: that came in, the call's own; slices.Clone of one. General. -/
namespace Go.Proofs.Ythiccboecimfjaa
open Go.RowKit Go.Maps Go.WideShapes Go.ChangeShapes Go.ChangeAt Go.Deep
set_option maxRecDepth 100000

/-- Words in a row. -/
def wordsV (zs : List Int) : List Value := zs.map (Value.int .u64)
theorem wordsV_length (zs : List Int) : (wordsV zs).length = zs.length * 1 := by simp [wordsV]
def wordsI (v : Value) (zs : List Int) : Item := rowI v 40 1 zs.length (wordsV zs)
theorem infoWord : (Try.prog.info? 40).map (fun i => (i.zero, i.size, i.bytes)) = some (some (.int .u64 0), 1, 8) := by kernel_rfl
/-- Words that came in. -/
def InWords (w : World) (A : Option Addr) (zs : List Int) : Prop := zs = [] ∨ ∃ b off, A = some ⟨b, off, none⟩ ∧ b < w.heap.size ∧ ∀ i, i < zs.length → w.cell? ⟨b, off + i, none⟩ = some (.int .u64 (zs.getD i 0))
theorem InWords.below {w w' : World} {A : Option Addr} {zs : List Int} (h : InWords w A zs) (hb : Below w.heap.size w w') : InWords w' A zs := by
  rcases h with h | ⟨b, off, rfl, hl, hc⟩
  · exact .inl h
  · exact .inr ⟨b, off, rfl, Nat.lt_of_lt_of_le hl hb.size, fun i hi => by rw [hb.cell (p := ⟨b, off + i, none⟩) hl]; exact hc i hi⟩
theorem InWords.news {w : World} {ad : Addr} {zs : List Int} (h : InWords w (some ad) zs) : ∀ j u, (wordsV zs)[j]? = some u → w.cell? (ad.add j) = some u := by
  rcases h with rfl | ⟨b, off, he, hl, hc⟩
  · intro j u hu
    simp [wordsV] at hu
  · intro j u hu
    cases he
    have hj : j < zs.length := by
      have := (List.getElem?_eq_some_iff.1 hu).1
      simpa [wordsV] using this
    have e : (⟨b, off, none⟩ : Addr).add j = ⟨b, off + j, none⟩ := by unfold Addr.add; split <;> simp_all
    rw [e, hc j hj]
    simp only [wordsV, List.getElem?_map] at hu
    rw [List.getElem?_eq_getElem hj] at hu
    simp only [Option.map_some, Option.some.injEq] at hu
    rw [← hu]
    simp [hj]
/-- What the cells of such a row hold. -/
def CellsU (w : World) (A : Option Addr) (zs : List Int) : Prop := zs = [] ∨ ∃ g, A = some ⟨g, 0, none⟩ ∧ g < w.heap.size ∧ ∀ i, i < zs.length → w.cell? ⟨g, i, none⟩ = some (.int .u64 (zs.getD i 0))
theorem cellsU {w : World} {b : Nat} {A : Option Addr} {cap : Nat} {zs : List Int} (h : w.ownsRow b 40 1 (.slice A zs.length cap) zs.length (wordsV zs)) : CellsU w A zs := by
  rcases h.2 with ⟨_, h0⟩ | ⟨g, cap', cur, hv, _, hg, hn, hc, hcs, htk⟩
  · exact .inl (List.eq_nil_of_length_eq_zero h0)
  · simp only [Value.slice.injEq] at hv
    obtain ⟨rfl, -, rfl⟩ := hv
    refine .inr ⟨g, rfl, (Array.getElem?_eq_some_iff.1 hg).1, fun j hj => ?_⟩
    have h1 : (wordsV zs)[j]? = some (.int .u64 (zs.getD j 0)) := by simp [wordsV, hj]
    rw [← h1, ← htk, List.getElem?_take_of_lt (by omega)]
    simp [World.cell?, hg]

section
variable {w0 w w' : World} {L : List Item}
theorem Env.words (h : Env w0 L w) (i : Nat) {v : Value} {zs : List Int} (hi : L[i]? = some (wordsI v zs)) : w.ownsRow 0 40 1 v zs.length (wordsV zs) := h.get i hi
theorem Env.wordCells (h : Env w0 L w) (i : Nat) {A : Option Addr} {n cap : Nat} {zs : List Int} (hn : n = zs.length) (hi : L[i]? = some (wordsI (.slice A n cap) zs)) : CellsU w A zs := by subst hn; exact cellsU (h.words i hi)
theorem Env.addWords (h : Env w0 L w) {v : Value} {zs : List Int} (ho : w'.ownsRow w.heap.size 40 1 v zs.length (wordsV zs)) (hb : Below w.heap.size w w') : Env w0 (wordsI v zs :: L) w' :=
  h.add (wordsI v zs) hb (ownsRow_base ho (Nat.zero_le _)) fun k hk => ho.lt k hk
end

/-- Words appended to an empty row that has been made. -/
theorem run_append_words {w : World} {A : Option Addr} {cap : Nat} {zs : List Int} (hz : zs.length * 8 ≤ 140737488351232) (hr : InWords w A zs) :
    ∃ A' cap' w2, (Builtin.append_ #[22, 22] 22 #[.slice (some ⟨w.heap.size, 0, none⟩) 0 0, .slice A zs.length cap]).run Try.prog (w.alloc (.cells #[] 40)) = .ok (.slice A' zs.length cap') w2 ∧
      w2.ownsRow w.heap.size 40 1 (.slice A' zs.length cap') zs.length (wordsV zs) ∧ Below w.heap.size w w2 := by
  obtain ⟨i0, hi, hz0, hz1, hz2⟩ := info_parts infoWord
  have hown0 : (w.alloc (.cells #[] 40)).ownsRow w.heap.size 40 1 (.slice (some ⟨w.heap.size, 0, none⟩) 0 0) 0 [] := ⟨rfl, .inr ⟨w.heap.size, 0, #[], rfl, Nat.le_refl _, heap_alloc_new w _, Nat.le_refl _, Nat.zero_le _, rfl, rfl⟩⟩
  have hr' : InWords (w.alloc (.cells #[] 40)) A zs := hr.below ((Below.refl _ _).alloc (Nat.le_refl _) _)
  have hnews : (A = none ∧ zs.length = 0) ∨ ∃ ad, A = some ad ∧ ∀ j u, (wordsV zs)[j]? = some u → (w.alloc (.cells #[] 40)).cell? (ad.add j) = some u := by
    rcases A with _ | ad
    · left
      rcases hr with rfl | ⟨_, _, h, _⟩
      · exact ⟨rfl, rfl⟩
      · cases h
    · exact .inr ⟨ad, rfl, hr'.news⟩
  obtain ⟨v', w2, hrun, hown2, hgrow, hv'⟩ := run_append_rows (P := Try.prog) 22 22 w.heap.size 40 i0 (.int .u64 0) 1 8 Try.underlying22 hi hz0 hz1 hz2 rfl (by decide) _ _ 0 [] hown0 A zs.length cap (wordsV zs) (wordsV_length zs)
    hnews (fun x hx => by obtain ⟨o, _, rfl⟩ := List.mem_map.1 hx; rfl) (by simp [maxLen]; omega) (by omega) (by simp)
  simp only [Nat.zero_add, List.nil_append] at hown2
  obtain ⟨A', cap2, rfl⟩ := ownsRow_slice hown2
  exact ⟨A', cap2, w2, hrun, hown2, ((Below.refl _ w).alloc (Nat.le_refl _) _).grown hgrow (by simp) (by intro k hk; simp [Value.ownBlock] at hk; omega)⟩

set_option maxHeartbeats 800000 in
/-- slices.Clone of words. -/
theorem cloneW_any {w : World} {A : Option Addr} {cap : Nat} {zs : List Int} (hz : zs.length * 8 ≤ 140737488351232) (hr : InWords w A zs) :
    Calls Try.prog 30 #[.slice A zs.length cap] w fun e w' => ∃ A' cap', e = .returned (.slice A' zs.length cap') ∧ w'.ownsRow w.heap.size 40 1 (.slice A' zs.length cap') zs.length (wordsV zs) ∧ Below w.heap.size w w' := by
  have q22 : ∀ (w : World) (a : Option Addr) (n c n' c' : Nat), (binOp .eql 22 (.slice a n c) (.slice none n' c')).run Try.prog w = .ok (.bool a.isNone) w := fun w a n c n' c' => Lib.run_eql_slice_nil w _ _ a n c n' c' Try.underlying22
  rcases A with _ | ad
  · have hm0 : zs = [] := by
      rcases hr with h | ⟨_, _, h, _⟩
      · exact h
      · cases h
    subst hm0
    go_enter Try.func30, Try.ntmps30
    go_wp2
    go_ret
    exact ⟨none, 0, rfl, World.ownsRow_nil _ _ _ _, Below.refl _ _⟩
  · obtain ⟨A', cap2, w2, hrun, hown2, hb⟩ := run_append_words (cap := cap) hz hr
    go_enter Try.func30, Try.ntmps30
    go_wp2_with (first | (at_builtin; refine wpList_append_run rfl _ _ 22 rfl hrun rfl rfl ?_))
    go_ret
    exact ⟨A', cap2, rfl, hown2, hb⟩

section
variable {H : Type} {enc : TypeId × Value → H} {P : Program} {W : World}
/-- How many there are, by what they read as. -/
theorem num_row_size {t e : TypeId} {k : IntKind} {A : Option Addr} {len cap j : Nat} {d : DataW H} {p : List MemPlace} {ts : List TypeId} {ds : List (DataW H)} (ht : P.underlying t = some (.slice e)) (he : P.underlying e = some (.int k)) (hc : P.cellsOf e = 1) (hby : P.bytesOf e = 8)
    (h : DataW.Trod enc P W 0 (fun _ => true) true t (.slice A len cap) d p) (hsz : (DataW.weightsEach P ts ds).all (· ≤ reachBytes) = true) (hts : ts[j]? = some t) (hds : ds[j]? = some d) : len * 8 ≤ 140737488351232 := by
  obtain ⟨fuel, hf⟩ := h
  rcases open_ints ht he hc hf with ⟨hcs, _⟩ | ⟨a, len', cap', zs, hcs, _, hl, _, hz, hx, _⟩
  · simp [Value.cells] at hcs
    obtain ⟨_, rfl, _⟩ := hcs
    omega
  · simp [Value.cells] at hcs
    obtain ⟨_, rfl, rfl⟩ := hcs
    simp only [Prod.mk.injEq] at hx
    obtain ⟨rfl, _⟩ := hx
    have := sized_slice hsz hts hds ht
    rw [hby] at this
    simp only [lits, List.length_map, List.length_take, List.length_drop, reachBytes] at this
    simp only [if_true] at hz
    omega
end
end Go.Proofs.Ythiccboecimfjaa

/- A memory that tells anything of those who aren't any more: what it is in memory; its small functions; New. -/
namespace Go.Proofs.Ythiccboecimfjaa
open Go.RowKit Go.Maps
set_option maxRecDepth 100000

/-- A shade's cells. -/
def sv (g : Nat) (v : Value) : List Value := [.pointer (some ⟨g, 0, none⟩), v]
/-- The word of the load that was stale n-th, from 0 on. -/
def lastW (zs : List Int) (n : Nat) : Int := if zs.length = 0 then 0 else zs.getD (n % zs.length) 0
/-- What a load answers: the word, whom it leads to. -/
def ldW (zs : List Int) (t : Bool) (n : Nat) (a : Int) : Int := if t = true then lastW zs n else a
def ldI (t : Bool) (a : Int) : Int := if t = true then 0 else a

section
variable {w0 w : World} {L : List Item} {b g p s c n m : Nat} {mp : Option Nat} {S F : Nat → Prop} {h f : Plc → Int} {l zs : List Int} {q : Cnt} {st fa : Int} {v : Value}
theorem watched_s {w : World} (hb : Blk 0 w b (sv g v)) :
    Calls Try.prog 37 #[.pointer (some ⟨b, 0, none⟩)] w fun e w' => e = .returned (.pointer (some ⟨g, 0, none⟩)) ∧ w' = w := by
  have r := hb.rule
  unfold sv at r
  go_enter Try.func37, Try.ntmps37
  go_wp2
  go_ret
  exact ⟨rfl, rfl⟩
theorem Env.sblk (hE : Env w0 L w) (i : Nat) (hi : L[i]? = some (boxI b (sv g v))) : Blk 0 w b (sv g v) := hE.get i hi
theorem told_s {w : World} (hb : Blk 0 w b (sv g v)) (hg : Blk 0 w g (gv p mp s st fa)) :
    Calls Try.prog 8 #[.pointer (some ⟨b, 0, none⟩)] w fun e w' => e = .returned (.int .i64 st) ∧ w' = w := by
  go_enter Try.func8, Try.ntmps8
  go_wp2_with fail
  refine (watched_s hb).mono ?_
  rintro e w1 ⟨rfl, rfl⟩
  go_wp2_with fail
  refine (stale_any hg).mono ?_
  rintro e w1 ⟨rfl, rfl⟩
  go_wp2
  go_ret
  exact ⟨rfl, rfl⟩
theorem faults_s {w : World} (hb : Blk 0 w b (sv g v)) (hg : Blk 0 w g (gv p mp s st fa)) :
    Calls Try.prog 9 #[.pointer (some ⟨b, 0, none⟩)] w fun e w' => e = .returned (.int .i64 fa) ∧ w' = w := by
  go_enter Try.func9, Try.ntmps9
  go_wp2_with fail
  refine (watched_s hb).mono ?_
  rintro e w1 ⟨rfl, rfl⟩
  go_wp2_with fail
  refine (faults_any hg).mono ?_
  rintro e w1 ⟨rfl, rfl⟩
  go_wp2
  go_ret
  exact ⟨rfl, rfl⟩

set_option maxHeartbeats 800000 in
theorem new_s {A : Option Addr} {cap : Nat} (hz : zs.length * 8 ≤ 140737488351232) (hE : Env w0 L w) (hr : InWords w A zs) :
    Calls Try.prog 6 #[.slice A zs.length cap] w fun e w' => ∃ b g p s c v, e = .returned (.pointer (some ⟨b, 0, none⟩)) ∧ Env w0 (boxI b (sv g v) :: wordsI v zs :: boxI g (gv p none s 0 0) :: leadsI none (fun _ => 0) 0 :: soulI s (fun k => k = s) [] :: wbox p c :: cellI c (fun k => k = c) (fun _ => 0) ⟨0, 0, 0, 0, 0⟩ 0 :: L) w' ∧ Below w.heap.size w w' := by
  go_enter Try.func6, Try.ntmps6
  go_wp2_with fail
  refine (new_g hE).mono ?_
  rintro e w1 ⟨g, p, s, c, rfl, hE, hb⟩
  go_wp2_with fail
  refine (cloneW_any hz (hr.below hb)).mono ?_
  rintro e w2 ⟨A', cap', rfl, ho, hb2⟩
  replace hE := hE.addWords ho hb2
  have hB := hb.trans (hb2.mono hb.size)
  clear ho hb hb2
  replace hE := hE.box w2.heap.size rfl (sv g (.slice A' zs.length cap')) 69
  go_wp2
  go_ret
  exact ⟨_, _, _, _, _, _, rfl, hE, hB.alloc hB.size _⟩
end
end Go.Proofs.Ythiccboecimfjaa

/- A memory that tells anything of those who aren't any more: the word of a stale load; a load. -/
namespace Go.Proofs.Ythiccboecimfjaa
open Go.RowKit Go.Maps
set_option maxRecDepth 100000

theorem tmod_nat (n k : Nat) : Int.tmod (n : Int) (k : Int) = ((n % k : Nat) : Int) := rfl

section
variable {w0 w : World} {L : List Item} {b g p s c n m : Nat} {mp : Option Nat} {S F : Nat → Prop} {h f : Plc → Int} {l zs : List Int} {q : Cnt} {st fa : Int} {v : Value}
set_option maxHeartbeats 1600000 in
theorem last_s (t : Nat) (ht : t ≤ 1000000) (i : Nat) (hE : Env w0 L w) (hs : L[i]? = some (boxI b (sv g v))) (hr : L[i + 1]? = some (wordsI v zs)) (hg : L[i + 2]? = some (boxI g (gv p mp s ((t : Int) + 1) fa))) (hz : zs.length ≤ 9223372036854775807) :
    Calls Try.prog 38 #[.pointer (some ⟨b, 0, none⟩)] w fun e w' => e = .returned (.int .u64 (lastW zs t)) ∧ Below w.heap.size w w' := by
  obtain ⟨A, cap, rfl⟩ := ownsRow_slice (hE.words (i + 1) hr)
  have rS := hE.rule i hs
  unfold sv at rS
  by_cases h0 : zs.length = 0
  · have e0 : lastW zs t = 0 := if_pos h0
    rw [e0]
    have hb0 : ((zs.length : Int) == 0) = true := by simp [h0]
    go_enter Try.func38, Try.ntmps38
    go_wp2
    go_ret
    exact ⟨rfl, Below.refl _ _⟩
  · have hb0 : ((zs.length : Int) == 0) = false := by rw [beq_eq_false_iff_ne]; omega
    have e0 : lastW zs t = zs.getD (t % zs.length) 0 := if_neg h0
    rw [e0]
    obtain hnil | ⟨g', rfl, hg', hc⟩ := hE.wordCells (i + 1) rfl hr
    · rw [hnil] at h0; simp at h0
    have hk := Nat.mod_lt t (Nat.pos_of_ne_zero h0)
    have hw2 := tmod_nat t zs.length
    have HC : Hid (∀ w', Below w.heap.size w w' → w'.cell? ⟨g', t % zs.length, none⟩ = some (.int .u64 (zs.getD (t % zs.length) 0))) := Lib.hid fun w' hb => by rw [hb.cell (p := ⟨g', t % zs.length, none⟩) hg']; exact hc _ hk
    generalize zs.getD (t % zs.length) 0 = a at *
    generalize t % zs.length = k at *
    have hw1 : IntKind.i64.wrap (t : Int) = (t : Int) := by rw [wrap_i, w64 _ (by omega)]
    have hin0 : (0 : Int) ≤ (k : Int) := by omega
    have hin1 : (k : Int) < (zs.length : Int) := by omega
    have hb1 : ((zs.length : Int) == 0) = false := hb0
    clear hc e0
    go_enter Try.func38, Try.ntmps38
    go_wp2_with fail
    refine Ord.wp_chain [] (fun w' => Env w0 L w' ∧ Below w.heap.size w w') (fun _ _ => True) (by kernel_rfl) (by kernel_rfl) (by kernel_rfl) ⟨hE.drew, (Below.refl _ _).drew⟩ trivial (fun hT => ?_)
    have hT9 := Lib.hid hT
    clear hT
    repeat (first
      | (refine Ord.ch_value (v := ?_) hT9.out (by decide) (by rfl) ?_ ?_; rotate_left; (focus (intro w5 hS; have r := hS.1.rule i hs; unfold sv at r; have hc := HC.out _ hS.2; go_simp <;> with_reducible rfl)); (try simp only [Act.put, List.setIfInBounds_toArray, List.set_cons_zero, List.set_cons_succ]))
      | (refine Ord.ch_off hT9.out (by decide) (by rfl) ?_; (try simp only [Act.put, List.setIfInBounds_toArray, List.set_cons_zero, List.set_cons_succ]))
      | (refine Ord.ch_call (v := ?_) (f := ?_) (args := ?_) hT9.out (by decide) (by rfl) ?_ ?_ ?_; rotate_left 3; (focus (intro w5 hS; have r := hS.1.rule i hs; unfold sv at r; have hc := HC.out _ hS.2; go_simp; constructor <;> with_reducible rfl)); (focus (intro w5 hS; (first | (with_reducible refine (told_s (hS.1.sblk i hs) (hS.1.gblk (i + 2) hg)).mono ?_; rintro e w6 ⟨rfl, rfl⟩; constructor; with_reducible rfl; exact ⟨hS, fun _ h => h⟩)))); (try simp only [Act.put, List.setIfInBounds_toArray, List.set_cons_zero, List.set_cons_succ])))
    refine Ord.InText.nil fun w5 hS => ?_
    clear hT9
    obtain ⟨hC9, hA9⟩ := Ord.chain_end hS
    clear hS
    go_wp2
    go_ret
    exact ⟨rfl, hC9.2⟩

/-- How many loads were stale. -/
def stN (t : Bool) (k : Nat) : Nat := if t = true then k + 1 else k
set_option maxHeartbeats 3200000 in
theorem load_s (x y z d : Int) (k : Nat) (hx : Wf (x, y, z)) (hk : k ≤ 100000) (hl : l.length ≤ 1000000) (hz : zs.length ≤ 9223372036854775807) (i : Nat) (hE : Env w0 L w) (hb : L[i]? = some (boxI b (sv g v))) (hr : L[i + 1]? = some (wordsI v zs)) (hg : L[i + 2]? = some (boxI g (gv p mp s (k : Nat) fa))) (hh : L[i + 3]? = some (leadsI mp h m)) (hs : L[i + 4]? = some (soulI s S l)) (hw : L[i + 5]? = some (wbox p c)) (hc : L[i + 6]? = some (cellI c F f q n)) :
    Calls Try.prog 11 #[.pointer (some ⟨b, 0, none⟩), .agg #[.int .i64 x, .int .i64 y, .int .i64 z, .int .i64 d]] w fun e w' => e = .returned (.agg #[.int .u64 (ldW zs (stB l x y d) k (f (x, y, z))), .int .i64 (ldI (stB l x y d) (h (x, y, z))), .bool (stB l x y d)]) ∧ Env w0 ((L.set (i + 2) (boxI g (gv p mp s (stN (stB l x y d) k : Nat) fa))).set (i + 6) (cellI c F f { q with l := wrap64 (q.l + 1) } n)) w' := by
  replace hE := (hE.box w.heap.size rfl [.int .i64 x, .int .i64 y, .int .i64 z, .int .i64 d] 46).box (w.heap.size + 1) (by simp) [.int .u64 0, .int .i64 0, .bool false] 42
  have HX := Lib.hid hx
  clear hx
  have hst : (if stB l x y d = true then wrap64 ((k : Int) + 1) else (k : Int)) = ((stN (stB l x y d) k : Nat) : Int) := by
    unfold stN
    split
    · rw [w64 _ (by omega)]; rfl
    · rfl
  have HST := Lib.hid hst
  clear hst
  have cL := fun (M : List Item) (w' : World) (j : Nat) (hE : Env w0 M w') => load_g (w0 := w0) (L := M) (w := w') (g := g) (p := p) (s := s) (c := c) (n := n) (m := m) (mp := mp) (S := S) (F := F) (h := h) (f := f) (l := l) (q := q) (st := k) (fa := fa) x y z d HX.out hl j hE
  rw [HST.out] at cL
  have CL := Lib.hid cL
  clear cL HST
  obtain ⟨t, ht⟩ : ∃ t, stB l x y d = t := ⟨_, rfl⟩
  rw [ht] at CL
  rw [ht]
  clear ht
  generalize hsz : ((stN t k : Nat) : Int) = sz at *
  have HSZ := Lib.hid hsz
  clear hsz
  obtain ⟨q', hq'⟩ : ∃ q', ({ q with l := wrap64 (q.l + 1) } : Cnt) = q' := ⟨_, rfl⟩
  rw [hq'] at CL ⊢
  clear hq'
  go_enter Try.func11, Try.ntmps11
  go_wp2_with fail
  generalize (w.alloc _).alloc _ = w1 at *
  generalize w.heap.size + 1 = Y at *
  generalize w.heap.size = X at *
  refine OrdF.wp_float [?_, ?_, ?_, ?_, OrdF.Ptr, ?_] [3, 5] 4 (fun w' => Blk 0 w' X [.int .i64 x, .int .i64 y, .int .i64 z, .int .i64 d] ∧ Blk 0 w' b (sv g v)) (OrdF.AF w0 [.int .u64 0, .int .i64 0, .bool false] (OrdF.Sta [fun M zs => M = boxI Y [.int .u64 0, .int .i64 0, .bool false] :: boxI X [.int .i64 x, .int .i64 y, .int .i64 z, .int .i64 d] :: L ∧ zs = [.int .u64 0, .int .i64 0, .bool false], fun M zs => M = boxI Y [.int .u64 0, .int .i64 0, .bool false] :: boxI X [.int .i64 x, .int .i64 y, .int .i64 z, .int .i64 d] :: (L.set (i + 2) (boxI g (gv p mp s sz fa))).set (i + 6) (cellI c F f q' n) ∧ zs = [.int .u64 0, .int .i64 0, .bool false], fun M zs => M = boxI Y [.int .u64 0, .int .i64 0, .bool false] :: boxI X [.int .i64 x, .int .i64 y, .int .i64 z, .int .i64 d] :: (L.set (i + 2) (boxI g (gv p mp s sz fa))).set (i + 6) (cellI c F f q' n) ∧ zs = [.int .u64 (f (x, y, z)), .int .i64 (h (x, y, z)), .bool t]])) (by kernel_rfl) (by kernel_rfl) (by kernel_rfl) ⟨hE.drew.get 1 rfl, hE.drew.get (i + 2) hb⟩ ⟨_, _, ⟨_, rfl, rfl, rfl⟩, .inl ⟨rfl, rfl, hE.drew⟩⟩ (fun hT => ?_)
  rotate_left 5
  have hT9 := Lib.hid hT
  clear hT
  repeat (first
    | (focus (refine OrdF.in_value (v := ?_) hT9.out (by decide) (by decide) ?_ (by rfl) ?_ ?_; rotate_left 2; (focus (intro w5 hS; have r := hS.1.rule; go_simp <;> with_reducible rfl)); rotate_right; (focus rfl); (try simp only [Act.put, List.setIfInBounds_toArray, List.set_cons_zero, List.set_cons_succ])))
    | (focus (refine OrdF.in_off hT9.out (by decide) (by decide) ?_ (by rfl) ?_; (focus rfl); (try simp only [Act.put, List.setIfInBounds_toArray, List.set_cons_zero, List.set_cons_succ]))))
  focus (refine OrdF.in_call (v := .pointer (some ⟨g, 0, none⟩)) (f := ?_) (args := ?_) hT9.out (by decide) (by decide) ?_ (by rfl) ?_ ?_ ?_; rotate_left 2; (focus rfl); (focus (intro w5 hS; skip; go_simp; constructor <;> with_reducible rfl)); (focus (intro w5 hS; refine (watched_s hS.2).mono ?_; rintro e w6 ⟨rfl, rfl⟩; exact ⟨rfl, hS, fun _ _ h => h⟩)); (try simp only [Act.put, List.setIfInBounds_toArray, List.set_cons_zero, List.set_cons_succ]))
  repeat (first
    | (focus (refine OrdF.in_value (v := ?_) hT9.out (by decide) (by decide) ?_ (by rfl) ?_ ?_; rotate_left 2; (focus (intro w5 hS; have r := hS.1.rule; go_simp <;> with_reducible rfl)); rotate_right; (focus rfl); (try simp only [Act.put, List.setIfInBounds_toArray, List.set_cons_zero, List.set_cons_succ])))
    | (focus (refine OrdF.in_off hT9.out (by decide) (by decide) ?_ (by rfl) ?_; (focus rfl); (try simp only [Act.put, List.setIfInBounds_toArray, List.set_cons_zero, List.set_cons_succ]))))
  refine OrdF.in_turn OrdF.Ptr rfl (fun u => u = .agg #[.int .u64 (f (x, y, z)), .int .i64 (h (x, y, z)), .bool t]) (.agg #[.int .u64 (f (x, y, z)), .int .i64 (h (x, y, z)), .bool t]) rfl hT9.out rfl (by decide) (by decide) (by rfl) ?_ (.inl rfl) (by rfl) ?_ ?_
  · rfl
  · rintro fo5 w5 _ hC5 ⟨M5, z5, ⟨P5, hP5, hM5⟩, hA5⟩
    cases hP5
    obtain ⟨rfl, rfl⟩ := hM5
    skip
    go_simp
    simp only [Ord3.Lands]
    rcases hA5 with ⟨rfl, -, hE5⟩ | ⟨n5, rfl, hE5⟩
    · refine (CL.out _ _ (i + 4) hE5 hg hh hs hw hc).mono ?_
      rintro e w6 ⟨rfl, hE6⟩; exact ⟨_, rfl, rfl, ⟨hE6.get 1 rfl, hE6.get (i + 2) (wset (j := i + 6) (by omega) (wset (j := i + 2) (by omega) hb))⟩, _, _, ⟨_, rfl, rfl, rfl⟩, .inl ⟨rfl, rfl, hE6⟩⟩
    · refine (CL.out _ _ (i + 5) hE5 hg hh hs hw hc).mono ?_
      rintro e w6 ⟨rfl, hE6⟩; exact ⟨_, rfl, rfl, ⟨hE6.get 2 rfl, hE6.get (i + 3) (wset (j := i + 6) (by omega) (wset (j := i + 2) (by omega) hb))⟩, _, _, ⟨_, rfl, rfl, rfl⟩, .inr ⟨n5, rfl, hE6⟩⟩
  rintro _ rfl
  (try simp only [Act.put, List.setIfInBounds_toArray, List.set_cons_zero, List.set_cons_succ])
  repeat (first
    | (focus (refine OrdF.in_value (v := ?_) hT9.out (by decide) (by decide) ?_ (by rfl) ?_ ?_; rotate_left 2; (focus (intro w5 hS; have r := hS.1.rule; go_simp <;> with_reducible rfl)); rotate_right; (focus rfl); (try simp only [Act.put, List.setIfInBounds_toArray, List.set_cons_zero, List.set_cons_succ])))
    | (focus (refine OrdF.in_off hT9.out (by decide) (by decide) ?_ (by rfl) ?_; (focus rfl); (try simp only [Act.put, List.setIfInBounds_toArray, List.set_cons_zero, List.set_cons_succ]))))
  refine OrdF.in_float OrdF.Ptr (.pointer (some ⟨0, 0, none⟩)) ⟨0, rfl⟩ hT9.out rfl (by decide) ?_ (by rfl) ?_ ?_
  · rfl
  · intro w5 κs5 hC5 hA5
    go_simp
    simp only [Ord3.Lands]
    exact ⟨⟨_, rfl⟩, ⟨hC5.1.more _, hC5.2.more _⟩, hA5.up _⟩
  rintro _ ⟨V, rfl⟩
  (try simp only [Act.put, List.setIfInBounds_toArray, List.set_cons_zero, List.set_cons_succ])
  refine OrdF.in_turn_late (by kernel_rfl) (by decide) (by decide) (fun u => u = undef) (undef) rfl hT9.out rfl (by decide) (by rfl) ?_ (.inr ⟨_, 3, [], rfl, by kernel_rfl, by kernel_rfl, rfl⟩) (by rfl) ?_ ?_
  · rfl
  · rintro w5 hC5 ⟨M5, z5, ⟨P5, hP5, hM5⟩, ⟨hn5, _⟩ | ⟨n5, hn5, hE5⟩⟩
    · cases hn5
    cases hn5
    cases hP5
    obtain ⟨rfl, rfl⟩ := hM5
    have r := hE5.rule 0 rfl; have ff := hE5.thaw 0 rfl; have f0 := ff 0 (by simp); have f1 := ff 1 (by simp); have f2 := ff 2 (by simp); clear ff
    go_simp
    have hE6 := hE5.put3 0 rfl (.int .u64 (f (x, y, z))) (.int .i64 (h (x, y, z))) (.bool t); exact ⟨rfl, ⟨hE6.get 2 rfl, hE6.get (i + 3) (wset (j := i + 6) (by omega) (wset (j := i + 2) (by omega) hb))⟩, _, _, ⟨_, rfl, rfl, rfl⟩, .inr ⟨_, rfl, hE6⟩⟩
  rintro _ rfl
  (try simp only [Act.put, List.setIfInBounds_toArray, List.set_cons_zero, List.set_cons_succ])
  refine OrdF.in_nil rfl (by decide) (by decide) ?_
  rintro w5 hC5 ⟨M5, z5, ⟨P5, hP5, hM5⟩, ⟨hn5, _⟩ | ⟨n5, hn5, hE5⟩⟩
  · cases hn5
  cases hn5
  cases hP5
  obtain ⟨rfl, rfl⟩ := hM5
  clear hT9
  clear hC5 hE
  have hb1 : ((L.set (i + 2) (boxI g (gv p mp s sz fa))).set (i + 6) (cellI c F f q' n))[i]? = some (boxI b (sv g v)) := wset (j := i + 6) (by omega) (wset (j := i + 2) (by omega) hb)
  have hr1 : ((L.set (i + 2) (boxI g (gv p mp s sz fa))).set (i + 6) (cellI c F f q' n))[i + 1]? = some (wordsI v zs) := wset (j := i + 6) (by omega) (wset (j := i + 2) (by omega) hr)
  have hg1 : ((L.set (i + 2) (boxI g (gv p mp s sz fa))).set (i + 6) (cellI c F f q' n))[i + 2]? = some (boxI g (gv p mp s sz fa)) := wset (j := i + 6) (by omega) (wself hg)
  generalize hL2 : (L.set (i + 2) (boxI g (gv p mp s sz fa))).set (i + 6) (cellI c F f q' n) = L2 at *
  have HL2 := Lib.hid hL2
  clear hL2
  have ff := hE5.thaw 1 rfl
  have f0 := ff 0 (by simp)
  have f1 := ff 1 (by simp)
  have f2 := ff 2 (by simp)
  have r0 := hE5.rule 0 rfl
  have r1 := hE5.rule 1 rfl
  cases t
  · have hE6 := hE5.put3 1 rfl (.int .u64 (f (x, y, z))) (.int .i64 (h (x, y, z))) (.bool false)
    simp only [List.set_cons_succ, List.set_cons_zero] at hE6
    have q9 := hE6.rule 1 rfl
    clear ff
    go_wp2
    exact bodyPost_ret (v := .agg #[.int .u64 (f (x, y, z)), .int .i64 (h (x, y, z)), .bool false]) (by simp [results, Try.results11, go_sem, q9]) rfl ⟨rfl, by rw [HL2.out]; exact hE6.sub (.cons _ (.cons _ (.cons _ (List.Sublist.refl _))))⟩
  · have es : sz = (k : Int) + 1 := by have := HSZ.out; simp [stN] at this; omega
    subst es
    clear ff f0 f1 f2 r1
    go_wp2_with fail
    refine (last_s k (by omega) (i + 3) hE5 hb1 hr1 hg1 hz).mono ?_
    rintro e w6 ⟨rfl, hb6⟩
    clear r0
    replace hE5 := hE5.over hb6
    have hE6 := hE5.put3 1 rfl (.int .u64 (lastW zs k)) (.int .i64 0) (.bool true)
    simp only [List.set_cons_succ, List.set_cons_zero] at hE6
    have ff := hE5.thaw 1 rfl
    have f0 := ff 0 (by simp)
    have f1 := ff 1 (by simp)
    have f2 := ff 2 (by simp)
    have r1 := hE5.rule 1 rfl
    have q9 := hE6.rule 1 rfl
    clear ff
    go_wp2
    exact bodyPost_ret (v := .agg #[.int .u64 (lastW zs k), .int .i64 0, .bool true]) (by simp [results, Try.results11, go_sem, q9]) rfl ⟨rfl, by rw [HL2.out]; exact hE6.sub (.cons _ (.cons _ (.cons _ (List.Sublist.refl _))))⟩
end
end Go.Proofs.Ythiccboecimfjaa

/- A memory that tells anything of those who aren't any more: all else is the watched world's. -/
namespace Go.Proofs.Ythiccboecimfjaa
open Go.RowKit Go.Maps
set_option maxRecDepth 100000

section
variable {w0 w : World} {L : List Item} {u g p s c n m : Nat} {mp : Option Nat} {S F : Nat → Prop} {h f : Plc → Int} {l : List Int} {q : Cnt} {st fa : Int} {vr : Value}
theorem born_s (x : Int) (hx : In64 x) (hl : l.length ≤ 100000) (i : Nat) (hE : Env w0 L w) (hb : L[i]? = some (boxI u (sv g vr))) (hg : L[i + 2]? = some (boxI g (gv p mp s st fa))) (hs : L[i + 4]? = some (soulI s S l)) :
    Calls Try.prog 14 #[.pointer (some ⟨u, 0, none⟩), .int .i64 x] w fun e w' => e = .returned (.int .i64 (bornV l x)) ∧ ∃ S', Env w0 (L.set (i + 4) (soulI s S' (bornL l x))) w' := by
  go_enter Try.func14, Try.ntmps14
  go_wp2_with fail
  refine (watched_s (hE.sblk i hb)).mono ?_
  rintro e w1 ⟨rfl, rfl⟩
  go_wp2_with fail
  refine (born_g x hx hl (i + 2) hE hg hs).mono ?_
  rintro e w2 ⟨rfl, S', hE⟩
  go_wp2
  go_ret
  exact ⟨rfl, S', hE⟩

theorem cells_s (i : Nat) (hE : Env w0 L w) (hb : L[i]? = some (boxI u (sv g vr))) (hg : L[i + 2]? = some (boxI g (gv p mp s st fa))) (hw : L[i + 5]? = some (wbox p c)) (hc : L[i + 6]? = some (cellI c F f q n)) :
    Calls Try.prog 17 #[.pointer (some ⟨u, 0, none⟩)] w fun e w' => ∃ c' F', e = .returned (.pointer (some ⟨c', 0, none⟩)) ∧ Env w0 (cellI c' F' f ⟨0, 0, 0, 0, 0⟩ n :: L) w' := by
  go_enter Try.func17, Try.ntmps17
  go_wp2_with fail
  refine (watched_s (hE.sblk i hb)).mono ?_
  rintro e w1 ⟨rfl, rfl⟩
  go_wp2_with fail
  refine (cells_g (i + 2) hE hg hw hc).mono ?_
  rintro e w2 ⟨c', F', rfl, hE2⟩
  go_wp2
  go_ret
  exact ⟨c', F', rfl, hE2⟩

set_option maxHeartbeats 1600000 in
theorem count_s (i : Nat) (hE : Env w0 L w) (hb : L[i]? = some (boxI u (sv g vr))) (hg : L[i + 2]? = some (boxI g (gv p mp s st fa))) (hw : L[i + 5]? = some (wbox p c)) (hc : L[i + 6]? = some (cellI c F f q n)) :
    Calls Try.prog 16 #[.pointer (some ⟨u, 0, none⟩)] w fun e w' => e = .returned (.agg #[.int .i64 q.l, .int .i64 q.s, .int .i64 q.w, .int .i64 q.f, .int .i64 q.a]) ∧ Below w.heap.size w w' := by
  have hb0 := (Below.refl w.heap.size w).alloc (Nat.le_refl _) (.cells #[.int .i64 0, .int .i64 0, .int .i64 0, .int .i64 0, .int .i64 0] 58)
  replace hE := hE.box w.heap.size rfl [.int .i64 0, .int .i64 0, .int .i64 0, .int .i64 0, .int .i64 0] 58
  go_enter Try.func16, Try.ntmps16
  go_wp2_with fail
  refine (watched_s (hE.sblk (i + 1) hb)).mono ?_
  rintro e w1 ⟨rfl, rfl⟩
  go_wp2_with fail
  refine (count_g (i + 3) hE hg hw hc).mono ?_
  rintro e w2 ⟨rfl, hb2⟩
  have hE2 := hE.over hb2
  have f5 := hE2.thaw 0 rfl
  have f0 := f5 0 (by simp)
  have f1 := f5 1 (by simp)
  have f2 := f5 2 (by simp)
  have f3 := f5 3 (by simp)
  have f4 := f5 4 (by simp)
  have r := hE2.rule 0 rfl
  have hB := hb0.trans (hb2.mono hb0.size)
  clear f5
  go_wp2
  have hP := hE2.put5 0 rfl (.int .i64 q.l) (.int .i64 q.s) (.int .i64 q.w) (.int .i64 q.f) (.int .i64 q.a)
  have q9 := hP.rule 0 rfl
  refine bodyPost_ret (v := .agg #[.int .i64 q.l, .int .i64 q.s, .int .i64 q.w, .int .i64 q.f, .int .i64 q.a]) (by simp [results, Try.results16, go_sem, q9]) rfl ⟨rfl, ?_⟩
  exact ((((hB.setCell (Nat.le_refl _) _).setCell (Nat.le_refl _) _).setCell (Nat.le_refl _) _).setCell (Nat.le_refl _) _).setCell (Nat.le_refl _) _

set_option maxHeartbeats 1600000 in
theorem peek_s (x y z : Int) (hx : Wf (x, y, z)) (i : Nat) (hE : Env w0 L w) (hb : L[i]? = some (boxI u (sv g vr))) (hg : L[i + 2]? = some (boxI g (gv p mp s st fa))) (hw : L[i + 5]? = some (wbox p c)) (hc : L[i + 6]? = some (cellI c F f q n)) :
    Calls Try.prog 15 #[.pointer (some ⟨u, 0, none⟩), .agg #[.int .i64 x, .int .i64 y, .int .i64 z]] w fun e w' => e = .returned (.int .u64 (f (x, y, z))) ∧ Below w.heap.size w w' := by
  have hb0 := (Below.refl w.heap.size w).alloc (Nat.le_refl _) (.cells #[.int .i64 x, .int .i64 y, .int .i64 z] 44)
  replace hE := hE.box w.heap.size rfl [.int .i64 x, .int .i64 y, .int .i64 z] 44
  have HX := Lib.hid hx
  clear hx
  go_enter Try.func15, Try.ntmps15
  go_wp2_with fail
  obtain ⟨X, hXw⟩ : ∃ X, X = w.heap.size := ⟨_, rfl⟩
  rw [← hXw] at hE ⊢
  have HXW := Lib.hid hXw
  clear hXw
  have hb1 : (boxI X [.int .i64 x, .int .i64 y, .int .i64 z] :: L)[i + 1]? = some (boxI u (sv g vr)) := hb
  have hg1 : (boxI X [.int .i64 x, .int .i64 y, .int .i64 z] :: L)[i + 3]? = some (boxI g (gv p mp s st fa)) := hg
  have hw1 : (boxI X [.int .i64 x, .int .i64 y, .int .i64 z] :: L)[i + 6]? = some (wbox p c) := hw
  have hc1 : (boxI X [.int .i64 x, .int .i64 y, .int .i64 z] :: L)[i + 7]? = some (cellI c F f q n) := hc
  refine Ord.wp_chain [] (fun w' => Env w0 (boxI X [.int .i64 x, .int .i64 y, .int .i64 z] :: L) w' ∧ Below w.heap.size w w') (fun _ _ => True) (by kernel_rfl) (by kernel_rfl) (by kernel_rfl) ⟨hE.drew, hb0.drew⟩ trivial (fun hT => ?_)
  have hT9 := Lib.hid hT
  clear hT
  repeat (first
    | (refine Ord.ch_value (v := ?_) hT9.out (by decide) (by rfl) ?_ ?_; rotate_left; (focus (intro w5 hS; have r := hS.1.rule 0 rfl; go_simp <;> with_reducible rfl)); (try simp only [Act.put, List.setIfInBounds_toArray, List.set_cons_zero, List.set_cons_succ]))
    | (refine Ord.ch_off hT9.out (by decide) (by rfl) ?_; (try simp only [Act.put, List.setIfInBounds_toArray, List.set_cons_zero, List.set_cons_succ]))
    | (refine Ord.ch_call (v := ?_) (f := ?_) (args := ?_) hT9.out (by decide) (by rfl) ?_ ?_ ?_; rotate_left 3; (focus (intro w5 hS; have r := hS.1.rule 0 rfl; go_simp; constructor <;> with_reducible rfl)); (focus (intro w5 hS; (first | (with_reducible refine (watched_s (hS.1.sblk (i + 1) hb1)).mono ?_; rintro e w6 ⟨rfl, rfl⟩; constructor; with_reducible rfl; exact ⟨hS, fun _ h => h⟩) | (with_reducible refine (peek_g x y z HX.out (i + 3) hS.1 hg1 hw1 hc1).mono ?_; rintro e w6 ⟨rfl, hb6⟩; constructor; with_reducible rfl; exact ⟨⟨hS.1.over hb6, hS.2.trans (hb6.mono hS.2.size)⟩, fun _ h => h⟩)))); (try simp only [Act.put, List.setIfInBounds_toArray, List.set_cons_zero, List.set_cons_succ])))
  refine Ord.InText.nil fun w5 hS => ?_
  clear hT9
  obtain ⟨hC9, hA9⟩ := Ord.chain_end hS
  clear hS
  go_wp2
  go_ret
  exact ⟨rfl, hC9.2⟩

set_option maxHeartbeats 1600000 in
theorem store_s (x y z d v e : Int) (b : Bool) (hx : Wf (x, y, z)) (hv : InU v) (he : In64 e) (hn : n < maxLen) (hm : m < maxLen) (hl : l.length ≤ 1000000) (i : Nat) (hE : Env w0 L w) (hb : L[i]? = some (boxI u (sv g vr))) (hg : L[i + 2]? = some (boxI g (gv p mp s st fa))) (hh : L[i + 3]? = some (leadsI mp h m)) (hs : L[i + 4]? = some (soulI s S l)) (hw : L[i + 5]? = some (wbox p c)) (hc : L[i + 6]? = some (cellI c F f q n)) :
    Calls Try.prog 10 #[.pointer (some ⟨u, 0, none⟩), .agg #[.int .i64 x, .int .i64 y, .int .i64 z, .int .i64 d], .agg #[.int .u64 v, .int .i64 e, .bool b]] w fun e' w' => e' = .returned (.tuple #[]) ∧ ∃ mp' F', Env w0 (((L.set (i + 6) (cellI c F' (upd f (x, y, z) v) { q with s := wrap64 (q.s + 1) } (n + 1))).set (i + 2) (boxI g (gv p mp' s st (faS l x y d b fa)))).set (i + 3) (leadsI mp' (upd h (x, y, z) e) (m + 1))) w' := by
  replace hE := ((hE.box (w.heap.size) rfl [.int .i64 x, .int .i64 y, .int .i64 z, .int .i64 d] 46).box (w.heap.size + 1) (by simp) [.int .u64 v, .int .i64 e, .bool b] 42)
  have HX := Lib.hid hx
  have HE := Lib.hid he
  have HV := Lib.hid hv
  clear hx he hv
  go_enter Try.func10, Try.ntmps10
  go_wp2_with fail
  generalize (w.alloc _).alloc _ = w1 at *
  generalize w.heap.size + 1 = Y at *
  generalize w.heap.size = X at *
  refine Ord.wp_chain [4] (fun w' => Blk 0 w' X [.int .i64 x, .int .i64 y, .int .i64 z, .int .i64 d] ∧ Blk 0 w' Y [.int .u64 v, .int .i64 e, .bool b] ∧ Blk 0 w' u (sv g vr)) (Stage [Env w0 (boxI Y [.int .u64 v, .int .i64 e, .bool b] :: boxI X [.int .i64 x, .int .i64 y, .int .i64 z, .int .i64 d] :: L), fun w' => ∃ mp' F', Env w0 (boxI Y [.int .u64 v, .int .i64 e, .bool b] :: boxI X [.int .i64 x, .int .i64 y, .int .i64 z, .int .i64 d] :: ((L.set (i + 6) (cellI c F' (upd f (x, y, z) v) { q with s := wrap64 (q.s + 1) } (n + 1))).set (i + 2) (boxI g (gv p mp' s st (faS l x y d b fa)))).set (i + 3) (leadsI mp' (upd h (x, y, z) e) (m + 1))) w']) (by kernel_rfl) (by kernel_rfl) (by kernel_rfl) ⟨hE.drew.get 1 rfl, hE.drew.get 0 rfl, hE.drew.get (i + 2) hb⟩ ⟨_, rfl, hE.drew⟩ (fun hT => ?_)
  have hT9 := Lib.hid hT
  clear hT
  repeat (first
    | (refine Ord.ch_value (v := ?_) hT9.out (by decide) (by rfl) ?_ ?_; rotate_left; (focus (intro w5 hS; have r0 := hS.1.rule; have r1 := hS.2.1.rule; go_simp <;> with_reducible rfl)); (try simp only [Act.put, List.setIfInBounds_toArray, List.set_cons_zero, List.set_cons_succ]))
    | (refine Ord.ch_off hT9.out (by decide) (by rfl) ?_; (try simp only [Act.put, List.setIfInBounds_toArray, List.set_cons_zero, List.set_cons_succ]))
    | (refine Ord.ch_call (v := ?_) (f := ?_) (args := ?_) hT9.out (by decide) (by rfl) ?_ ?_ ?_; rotate_left 3; (focus (intro w5 hS; have r0 := hS.1.rule; have r1 := hS.2.1.rule; go_simp; constructor <;> with_reducible rfl)); (focus (intro w5 hS; (first | (with_reducible refine (watched_s hS.2.2).mono ?_; rintro e w6 ⟨rfl, rfl⟩; constructor; with_reducible rfl; exact ⟨hS, fun _ h => h⟩)))); (try simp only [Act.put, List.setIfInBounds_toArray, List.set_cons_zero, List.set_cons_succ])))
  refine Ord.ch_turn (v := .tuple #[]) 0 hT9.out rfl (by decide) (Or.inl rfl) (by rfl) ?_ ?_
  · rintro w5 hC5 ⟨P5, hP5, hA5⟩
    cases hP5
    skip
    go_simp
    simp only [Ord.LandsIn]
    refine (store_g x y z d v e b HX.out HV.out HE.out hn hm hl (i + 4) hA5 hg hh hs hw hc).mono ?_
    rintro e6 w6 ⟨rfl, mp', F', hE6⟩; exact ⟨rfl, ⟨hE6.get 1 rfl, hE6.get 0 rfl, hE6.get (i + 2) (wset (j := i + 3) (by omega) (wset (j := i + 2) (by omega) (wset (j := i + 6) (by omega) (hb))))⟩, _, rfl, mp', F', hE6⟩
  (try simp only [Act.put, List.setIfInBounds_toArray, List.set_cons_zero, List.set_cons_succ])
  repeat (first
    | (refine Ord.ch_value (v := ?_) hT9.out (by decide) (by rfl) ?_ ?_; rotate_left; (focus (intro w5 hS; skip; go_simp <;> with_reducible rfl)); (try simp only [Act.put, List.setIfInBounds_toArray, List.set_cons_zero, List.set_cons_succ]))
    | (refine Ord.ch_off hT9.out (by decide) (by rfl) ?_; (try simp only [Act.put, List.setIfInBounds_toArray, List.set_cons_zero, List.set_cons_succ])))
  refine Ord.InText.nil fun w5 hS => ?_
  clear hT9
  obtain ⟨hC9, hA9⟩ := Ord.chain_end hS
  clear hS
  obtain ⟨P9, hP9, hA9⟩ := hA9
  cases hP9
  obtain ⟨mp', F', hA9⟩ := hA9
  clear hC9
  go_wp2
  (first | go_end0 | refine bodyPost_ret (results_none rfl _ _ _) rfl ?_)
  exact ⟨rfl, mp', F', hA9.sub (.cons _ (.cons _ (List.Sublist.refl _)))⟩

set_option maxHeartbeats 1600000 in
theorem swap_s (x y z d o oe v e : Int) (ob b : Bool) (hx : Wf (x, y, z)) (hv : InU v) (he : In64 e) (hn : n < maxLen) (hm : m < maxLen) (hl : l.length ≤ 1000000) (i : Nat) (hE : Env w0 L w) (hb : L[i]? = some (boxI u (sv g vr))) (hg : L[i + 2]? = some (boxI g (gv p mp s st fa))) (hh : L[i + 3]? = some (leadsI mp h m)) (hs : L[i + 4]? = some (soulI s S l)) (hw : L[i + 5]? = some (wbox p c)) (hc : L[i + 6]? = some (cellI c F f q n)) :
    Calls Try.prog 12 #[.pointer (some ⟨u, 0, none⟩), .agg #[.int .i64 x, .int .i64 y, .int .i64 z, .int .i64 d], .agg #[.int .u64 o, .int .i64 oe, .bool ob], .agg #[.int .u64 v, .int .i64 e, .bool b]] w fun e' w' => e' = .returned (.bool (decide (f (x, y, z) = o))) ∧ ∃ mp' F', Env w0 (((L.set (i + 6) (cellI c F' (swf f (x, y, z) o v) (swq q (decide (f (x, y, z) = o))) (n + 1))).set (i + 2) (boxI g (gv p mp' s st (if f (x, y, z) = o then faS l x y d (ob || b) fa else fa)))).set (i + 3) (leadsI mp' (if f (x, y, z) = o then upd h (x, y, z) e else h) (m + 1))) w' := by
  replace hE := (((hE.box (w.heap.size) rfl [.int .i64 x, .int .i64 y, .int .i64 z, .int .i64 d] 46).box (w.heap.size + 1) (by simp) [.int .u64 o, .int .i64 oe, .bool ob] 42).box (w.heap.size + 1 + 1) (by simp) [.int .u64 v, .int .i64 e, .bool b] 42)
  have HX := Lib.hid hx
  have HE := Lib.hid he
  have HV := Lib.hid hv
  clear hx he hv
  generalize hdo : decide (f (x, y, z) = o) = D
  generalize hfz : (if f (x, y, z) = o then faS l x y d (ob || b) fa else fa) = fz
  generalize hhz : (if f (x, y, z) = o then upd h (x, y, z) e else h) = hz
  have cS := fun (M : List Item) (w' : World) (j : Nat) (hE : Env w0 M w') => swap_g (w0 := w0) (L := M) (w := w') (g := g) (p := p) (s := s) (c := c) (n := n) (m := m) (mp := mp) (S := S) (F := F) (h := h) (f := f) (l := l) (q := q) (st := st) (fa := fa) x y z d o oe v e ob b HX.out HV.out HE.out hn hm hl j hE
  rw [hdo, hfz, hhz] at cS
  have CS := Lib.hid cS
  clear hdo hfz hhz cS
  go_enter Try.func12, Try.ntmps12
  go_wp2_with fail
  generalize ((w.alloc _).alloc _).alloc _ = w1 at *
  generalize w.heap.size + 1 + 1 = Z at *
  generalize w.heap.size + 1 = Y at *
  generalize w.heap.size = X at *
  refine Ord.wp_chain [5] (fun w' => Blk 0 w' X [.int .i64 x, .int .i64 y, .int .i64 z, .int .i64 d] ∧ Blk 0 w' Y [.int .u64 o, .int .i64 oe, .bool ob] ∧ Blk 0 w' Z [.int .u64 v, .int .i64 e, .bool b] ∧ Blk 0 w' u (sv g vr)) (Stage [Env w0 (boxI Z [.int .u64 v, .int .i64 e, .bool b] :: boxI Y [.int .u64 o, .int .i64 oe, .bool ob] :: boxI X [.int .i64 x, .int .i64 y, .int .i64 z, .int .i64 d] :: L), fun w' => ∃ mp' F', Env w0 (boxI Z [.int .u64 v, .int .i64 e, .bool b] :: boxI Y [.int .u64 o, .int .i64 oe, .bool ob] :: boxI X [.int .i64 x, .int .i64 y, .int .i64 z, .int .i64 d] :: ((L.set (i + 6) (cellI c F' (swf f (x, y, z) o v) (swq q D) (n + 1))).set (i + 2) (boxI g (gv p mp' s st fz))).set (i + 3) (leadsI mp' hz (m + 1))) w']) (by kernel_rfl) (by kernel_rfl) (by kernel_rfl) ⟨hE.drew.get 2 rfl, hE.drew.get 1 rfl, hE.drew.get 0 rfl, hE.drew.get (i + 3) hb⟩ ⟨_, rfl, hE.drew⟩ (fun hT => ?_)
  have hT9 := Lib.hid hT
  clear hT
  repeat (first
    | (refine Ord.ch_value (v := ?_) hT9.out (by decide) (by rfl) ?_ ?_; rotate_left; (focus (intro w5 hS; have r0 := hS.1.rule; have r1 := hS.2.1.rule; have r2 := hS.2.2.1.rule; go_simp <;> with_reducible rfl)); (try simp only [Act.put, List.setIfInBounds_toArray, List.set_cons_zero, List.set_cons_succ]))
    | (refine Ord.ch_off hT9.out (by decide) (by rfl) ?_; (try simp only [Act.put, List.setIfInBounds_toArray, List.set_cons_zero, List.set_cons_succ]))
    | (refine Ord.ch_call (v := ?_) (f := ?_) (args := ?_) hT9.out (by decide) (by rfl) ?_ ?_ ?_; rotate_left 3; (focus (intro w5 hS; have r0 := hS.1.rule; have r1 := hS.2.1.rule; have r2 := hS.2.2.1.rule; go_simp; constructor <;> with_reducible rfl)); (focus (intro w5 hS; (first | (with_reducible refine (watched_s hS.2.2.2).mono ?_; rintro e w6 ⟨rfl, rfl⟩; constructor; with_reducible rfl; exact ⟨hS, fun _ h => h⟩)))); (try simp only [Act.put, List.setIfInBounds_toArray, List.set_cons_zero, List.set_cons_succ])))
  refine Ord.ch_turn (v := .bool D) 0 hT9.out rfl (by decide) (Or.inl rfl) (by rfl) ?_ ?_
  · rintro w5 hC5 ⟨P5, hP5, hA5⟩
    cases hP5
    skip
    go_simp
    simp only [Ord.LandsIn]
    refine (CS.out _ _ (i + 5) hA5 hg hh hs hw hc).mono ?_
    rintro e6 w6 ⟨rfl, mp', F', hE6⟩; exact ⟨rfl, ⟨hE6.get 2 rfl, hE6.get 1 rfl, hE6.get 0 rfl, hE6.get (i + 3) (wset (j := i + 3) (by omega) (wset (j := i + 2) (by omega) (wset (j := i + 6) (by omega) (hb))))⟩, _, rfl, mp', F', hE6⟩
  (try simp only [Act.put, List.setIfInBounds_toArray, List.set_cons_zero, List.set_cons_succ])
  repeat (first
    | (refine Ord.ch_value (v := ?_) hT9.out (by decide) (by rfl) ?_ ?_; rotate_left; (focus (intro w5 hS; skip; go_simp <;> with_reducible rfl)); (try simp only [Act.put, List.setIfInBounds_toArray, List.set_cons_zero, List.set_cons_succ]))
    | (refine Ord.ch_off hT9.out (by decide) (by rfl) ?_; (try simp only [Act.put, List.setIfInBounds_toArray, List.set_cons_zero, List.set_cons_succ])))
  refine Ord.InText.nil fun w5 hS => ?_
  clear hT9
  obtain ⟨hC9, hA9⟩ := Ord.chain_end hS
  clear hS
  obtain ⟨P9, hP9, hA9⟩ := hA9
  cases hP9
  obtain ⟨mp', F', hA9⟩ := hA9
  clear hC9
  go_wp2
  go_ret
  exact ⟨rfl, mp', F', hA9.sub (.cons _ (.cons _ (.cons _ (List.Sublist.refl _))))⟩

set_option maxHeartbeats 1600000 in
theorem add_s (x y z d v : Int) (hx : Wf (x, y, z)) (hn : n < maxLen) (i : Nat) (hE : Env w0 L w) (hb : L[i]? = some (boxI u (sv g vr))) (hg : L[i + 2]? = some (boxI g (gv p mp s st fa))) (hw : L[i + 5]? = some (wbox p c)) (hc : L[i + 6]? = some (cellI c F f q n)) :
    Calls Try.prog 13 #[.pointer (some ⟨u, 0, none⟩), .agg #[.int .i64 x, .int .i64 y, .int .i64 z, .int .i64 d], .int .u64 v] w fun e' w' => e' = .returned (.int .u64 (f (x, y, z))) ∧ ∃ F', Env w0 (L.set (i + 6) (cellI c F' (upd f (x, y, z) (IntKind.u64.wrap (f (x, y, z) + v))) { q with a := wrap64 (q.a + 1) } (n + 1))) w' := by
  replace hE := (hE.box (w.heap.size) rfl [.int .i64 x, .int .i64 y, .int .i64 z, .int .i64 d] 46)
  have HX := Lib.hid hx
  clear hx
  go_enter Try.func13, Try.ntmps13
  go_wp2_with fail
  generalize w.alloc _ = w1 at *
  generalize w.heap.size = X at *
  refine Ord.wp_chain [4] (fun w' => Blk 0 w' X [.int .i64 x, .int .i64 y, .int .i64 z, .int .i64 d] ∧ Blk 0 w' u (sv g vr)) (Stage [Env w0 (boxI X [.int .i64 x, .int .i64 y, .int .i64 z, .int .i64 d] :: L), fun w' => ∃ F', Env w0 (boxI X [.int .i64 x, .int .i64 y, .int .i64 z, .int .i64 d] :: L.set (i + 6) (cellI c F' (upd f (x, y, z) (IntKind.u64.wrap (f (x, y, z) + v))) { q with a := wrap64 (q.a + 1) } (n + 1))) w']) (by kernel_rfl) (by kernel_rfl) (by kernel_rfl) ⟨hE.drew.get 0 rfl, hE.drew.get (i + 1) hb⟩ ⟨_, rfl, hE.drew⟩ (fun hT => ?_)
  have hT9 := Lib.hid hT
  clear hT
  repeat (first
    | (refine Ord.ch_value (v := ?_) hT9.out (by decide) (by rfl) ?_ ?_; rotate_left; (focus (intro w5 hS; have r0 := hS.1.rule; go_simp <;> with_reducible rfl)); (try simp only [Act.put, List.setIfInBounds_toArray, List.set_cons_zero, List.set_cons_succ]))
    | (refine Ord.ch_off hT9.out (by decide) (by rfl) ?_; (try simp only [Act.put, List.setIfInBounds_toArray, List.set_cons_zero, List.set_cons_succ]))
    | (refine Ord.ch_call (v := ?_) (f := ?_) (args := ?_) hT9.out (by decide) (by rfl) ?_ ?_ ?_; rotate_left 3; (focus (intro w5 hS; have r0 := hS.1.rule; go_simp; constructor <;> with_reducible rfl)); (focus (intro w5 hS; (first | (with_reducible refine (watched_s hS.2).mono ?_; rintro e w6 ⟨rfl, rfl⟩; constructor; with_reducible rfl; exact ⟨hS, fun _ h => h⟩)))); (try simp only [Act.put, List.setIfInBounds_toArray, List.set_cons_zero, List.set_cons_succ])))
  refine Ord.ch_turn (v := .int .u64 (f (x, y, z))) 0 hT9.out rfl (by decide) (Or.inl rfl) (by rfl) ?_ ?_
  · rintro w5 hC5 ⟨P5, hP5, hA5⟩
    cases hP5
    skip
    go_simp
    simp only [Ord.LandsIn]
    refine (add_g x y z d v HX.out hn (i + 3) hA5 hg hw hc).mono ?_
    rintro e6 w6 ⟨rfl, F', hE6⟩; exact ⟨rfl, ⟨hE6.get 0 rfl, hE6.get (i + 1) (wset (j := i + 6) (by omega) (hb))⟩, _, rfl, F', hE6⟩
  (try simp only [Act.put, List.setIfInBounds_toArray, List.set_cons_zero, List.set_cons_succ])
  repeat (first
    | (refine Ord.ch_value (v := ?_) hT9.out (by decide) (by rfl) ?_ ?_; rotate_left; (focus (intro w5 hS; skip; go_simp <;> with_reducible rfl)); (try simp only [Act.put, List.setIfInBounds_toArray, List.set_cons_zero, List.set_cons_succ]))
    | (refine Ord.ch_off hT9.out (by decide) (by rfl) ?_; (try simp only [Act.put, List.setIfInBounds_toArray, List.set_cons_zero, List.set_cons_succ])))
  refine Ord.InText.nil fun w5 hS => ?_
  clear hT9
  obtain ⟨hC9, hA9⟩ := Ord.chain_end hS
  clear hS
  obtain ⟨P9, hP9, hA9⟩ := hA9
  cases hP9
  obtain ⟨F', hA9⟩ := hA9
  clear hC9
  go_wp2
  go_ret
  exact ⟨rfl, F', hA9.sub (.cons _ (List.Sublist.refl _))⟩
end
end Go.Proofs.Ythiccboecimfjaa

/- Contracts of layer 5: a slot's place. -/
namespace Go.Proofs.Ythiccboecimfjaa
open Go.RowKit
set_option maxRecDepth 100000

set_option maxHeartbeats 400000 in
theorem placeOf_any (y z : Int) (w : World) : Calls Try.prog 29 #[.int .i64 y, .int .i64 z] w fun e w' => e = .returned (.agg #[.int .i64 5, .int .i64 y, .int .i64 z]) ∧ Below w.heap.size w w' := by
  go_enter Try.func29, Try.ntmps29
  go_wp2
  exact bodyPost_ret (v := .agg #[.int .i64 5, .int .i64 y, .int .i64 z]) (by simp [results, Try.results29, go_sem]) rfl ⟨rfl, (Below.refl _ _).alloc (Nat.le_refl _) _⟩
end Go.Proofs.Ythiccboecimfjaa

/- A memory that tells anything: answers that the document fixes. -/
namespace Go.Proofs.Ythiccboecimfjaa
open Go.RowKit Go.Maps
set_option maxRecDepth 100000

set_option maxHeartbeats 3200000 in
theorem awake10 (w : World) : Calls Try.prog 5 #[] w fun e w' => e = .returned (.bool true) ∧ Below w.heap.size w w' := by
  have hE := Env.start w
  have h1 : Hid (In64 1) := Lib.hid (by unfold In64; omega)
  have h0 : Hid (In64 0) := Lib.hid (by unfold In64; omega)
  have HW : Hid (Wf (5, 1, 3)) := Lib.hid ⟨show In64 5 by unfold In64; omega, show In64 1 by unfold In64; omega, show In64 3 by unfold In64; omega⟩
  have HM : Hid (∀ n : Nat, n ≤ 10 → n < maxLen) := Lib.hid fun n hn => by unfold maxLen; omega
  replace hE := hE.box w.heap.size rfl [.int .u64 7, .int .u64 8] 40
  have hr : InWords (w.alloc (.cells #[.int .u64 7, .int .u64 8] 40)) (some ⟨w.heap.size, 0, none⟩) [7, 8] := .inr ⟨w.heap.size, 0, rfl, by simp, fun i hi => by
    rw [Nat.zero_add, hE.rule 0 rfl i]
    simp at hi
    rcases i with _ | _ | i
    · rfl
    · rfl
    · omega⟩
  have cN := new_s (zs := [7, 8]) (cap := 2) (by decide) hE hr
  go_enter Try.func5, Try.ntmps5
  go_wp2_with fail
  refine cN.mono ?_
  clear cN hr
  rintro e w1 ⟨u, g, p, s, c, v, rfl, hE, hb⟩
  clear hb
  replace hE := hE.sub (.cons_cons _ (.cons_cons _ (.cons_cons _ (.cons_cons _ (.cons_cons _ (.cons_cons _ (.cons_cons _ (.cons _ (List.Sublist.refl _)))))))))
  go_wp2_with fail
  refine (placeOf_any 1 3 _).mono ?_
  rintro e w2 ⟨rfl, hb⟩
  replace hE := hE.over hb
  clear hb
  go_wp2_with fail
  refine (born_s 1 h1.out (by simp) 0 hE rfl rfl rfl).mono ?_
  rintro e w3 ⟨rfl, S3, hE⟩
  rw [show bornV [] 1 = 1 by decide]
  rw [show bornL [] 1 = [1] by decide] at hE
  simp only [List.set_cons_succ, List.set_cons_zero] at hE
  replace hE := hE.box w3.heap.size rfl [.int .i64 5, .int .i64 1, .int .i64 3, .int .i64 1] 46
  go_upto_region 3 with fail
  generalize w3.alloc _ = w4 at *
  generalize w3.heap.size = A at *
  have rA := hE.rule 0 rfl
  go_wp2_with fail
  refine (store_s 5 1 3 1 5 0 false HW.out (by unfold InU; omega) h0.out (HM.out 0 (by omega)) (HM.out 0 (by omega)) (by simp) 1 hE rfl rfl rfl rfl rfl rfl).mono ?_
  rintro e w5 ⟨rfl, mp5, F5, hE⟩
  rw [show faS [1] 5 1 1 false 0 = 0 by decide] at hE
  simp only [List.set_cons_succ, List.set_cons_zero] at hE
  clear rA
  have rA := hE.rule 0 rfl
  go_wp2_with fail
  refine (load_s 5 1 3 1 0 HW.out (by omega) (by simp) (by simp) 1 hE rfl rfl rfl rfl rfl rfl rfl).mono ?_
  rintro e w6 ⟨rfl, hE⟩
  rw [upd_same, upd_same, show stB [1] 5 1 1 = false by decide]
  rw [show stB [1] 5 1 1 = false by decide] at hE
  rw [show ldW [7, 8] false 0 5 = 5 from rfl, show ldI false 0 = 0 from rfl]
  simp only [List.set_cons_succ, List.set_cons_zero] at hE
  rw [show stN false 0 = 0 from rfl] at hE
  clear rA
  replace hE := hE.box w6.heap.size rfl [.int .u64 5, .int .i64 0, .bool false] 42
  go_upto_region 5 with fail
  generalize w6.alloc _ = w7 at *
  generalize w6.heap.size = U at *
  go_wp2_with fail
  refine (born_s 1 h1.out (by simp) 2 hE rfl rfl rfl).mono ?_
  rintro e w8 ⟨rfl, S8, hE⟩
  rw [show bornL [1] 1 = [1, 1] by decide] at hE
  simp only [List.set_cons_succ, List.set_cons_zero] at hE
  have hst : stB [1, 1] 5 1 1 = true := by decide
  have HST := Lib.hid hst
  clear hst
  have rA := hE.rule 1 rfl
  go_wp2_with fail
  refine (load_s 5 1 3 1 0 HW.out (by omega) (by simp) (by simp) 2 hE rfl rfl rfl rfl rfl rfl rfl).mono ?_
  rintro e w20 ⟨rfl, hE⟩
  rw [HST.out] at hE ⊢
  rw [show ∀ a, ldW [7, 8] true 0 a = 7 from fun _ => rfl, show ∀ a, ldI true a = 0 from fun _ => rfl]
  simp only [List.set_cons_succ, List.set_cons_zero] at hE
  rw [show stN true 0 = 1 from rfl] at hE
  clear rA
  replace hE := hE.box w20.heap.size rfl [.int .u64 7, .int .i64 0, .bool true] 42
  go_upto_region 7 with fail
  generalize w20.alloc _ = v0 at *
  generalize w20.heap.size = Y0 at *
  have rA := hE.rule 2 rfl
  go_wp2_with fail
  refine (load_s 5 1 3 1 1 HW.out (by omega) (by simp) (by simp) 3 hE rfl rfl rfl rfl rfl rfl rfl).mono ?_
  rintro e w21 ⟨rfl, hE⟩
  rw [HST.out] at hE ⊢
  rw [show ∀ a, ldW [7, 8] true 1 a = 8 from fun _ => rfl, show ∀ a, ldI true a = 0 from fun _ => rfl]
  simp only [List.set_cons_succ, List.set_cons_zero] at hE
  rw [show stN true 1 = 2 from rfl] at hE
  clear rA
  replace hE := hE.box w21.heap.size rfl [.int .u64 8, .int .i64 0, .bool true] 42
  go_upto_region 8 with fail
  generalize w21.alloc _ = v1 at *
  generalize w21.heap.size = Y1 at *
  have rA := hE.rule 3 rfl
  go_wp2_with fail
  refine (load_s 5 1 3 1 2 HW.out (by omega) (by simp) (by simp) 4 hE rfl rfl rfl rfl rfl rfl rfl).mono ?_
  rintro e w22 ⟨rfl, hE⟩
  rw [HST.out] at hE ⊢
  rw [show ∀ a, ldW [7, 8] true 2 a = 7 from fun _ => rfl, show ∀ a, ldI true a = 0 from fun _ => rfl]
  simp only [List.set_cons_succ, List.set_cons_zero] at hE
  rw [show stN true 2 = 3 from rfl] at hE
  clear rA
  replace hE := hE.box w22.heap.size rfl [.int .u64 7, .int .i64 0, .bool true] 42
  go_upto_region 9 with fail
  generalize w22.alloc _ = v2 at *
  generalize w22.heap.size = Y2 at *
  have rA := hE.rule 4 rfl
  have rU := hE.rule 3 rfl
  have rX := hE.rule 2 rfl
  have rY := hE.rule 1 rfl
  have rZ := hE.rule 0 rfl
  go_wp2_with fail
  refine (told_s (hE.sblk 5 rfl) (hE.gblk 7 rfl)).mono ?_
  rintro e w12 ⟨rfl, rfl⟩
  go_wp2_with fail
  refine (faults_s (hE.sblk 5 rfl) (hE.gblk 7 rfl)).mono ?_
  rintro e w13 ⟨rfl, rfl⟩
  go_wp2_with fail
  refine (peek_s 5 1 3 HW.out 5 hE rfl rfl rfl rfl).mono ?_
  rintro e w16 ⟨rfl, hb⟩
  rw [upd_same]
  replace hE := hE.over hb
  go_wp2
  go_ret
  exact ⟨rfl, hE.below⟩
end Go.Proofs.Ythiccboecimfjaa

/- A struct by value whose fields are numbers and bools, of however many fields: opened. -/
namespace Go.Proofs.Ythiccboecimfjaa
open Go.RowKit Go.WideShapes Go.ChangeShapes Go.ChangeAt Go.Deep
set_option maxRecDepth 100000

inductive Sca | num (k : IntKind) | boo
/-- A field's type is of that form; a value is. -/
def Sca.fits (P : Program) (t : TypeId) : Sca → Prop
  | .num k => P.underlying t = some (.int k)
  | .boo => P.underlying t = some .bool
def Sca.ok (v : Value) : Sca → Prop
  | .num k => ∃ n, v = .int k n ∧ (Lit.int k n).wf = true
  | .boo => ∃ b, v = .bool b
def FitAll (P : Program) : List Field → List Sca → Prop
  | [], [] => True
  | f :: fs, s :: ss => s.fits P f.type ∧ FitAll P fs ss
  | _, _ => False
theorem FitAll.length {P : Program} : ∀ {fs : List Field} {ss : List Sca}, FitAll P fs ss → fs.length = ss.length
  | [], [], _ => rfl
  | _ :: _, _ :: _, h => by simp [FitAll.length h.2]
theorem FitAll.get {P : Program} : ∀ {fs : List Field} {ss : List Sca}, FitAll P fs ss → ∀ {i : Nat} {s : Sca}, ss[i]? = some s → ∃ f, fs[i]? = some f ∧ s.fits P f.type := by
  intro fs
  induction fs with
  | nil =>
    intro ss h i s e
    cases ss with
    | nil => simp at e
    | cons x ss => exact absurd h (by simp [FitAll])
  | cons f fs ih =>
    intro ss h i s e
    cases ss with
    | nil => exact absurd h (by simp [FitAll])
    | cons x ss =>
      cases i with
      | zero =>
        simp at e
        subst e
        exact ⟨f, rfl, h.1⟩
      | succ i =>
        obtain ⟨f', hf, hs⟩ := ih h.2 (i := i) (by simpa using e)
        exact ⟨f', by simpa using hf, hs⟩

section
variable {H : Type} {enc : TypeId × Value → H} {P : Program} {w : World} {base : Nat} {spare : Nat → Bool} {held : Bool}
theorem open_flat {r : Reach} {b0 : Nat} {t : TypeId} {fs : Array Field} {ss : List Sca} {v : Value} {d : DataW H} {p : List MemPlace} (hs : P.underlying t = some (.struct fs)) (hone : oneCellFields P fs = true) (hC : P.cellsOf t = ss.length) (hfit : FitAll P fs.toList ss)
    (hv : Value.okWide P w r b0 t v) (h : DataW.Trod enc P w base spare held t v d p) :
    ∃ cs : Array Value, v = .agg cs ∧ cs.size = ss.length ∧ ∀ (i : Nat) (s : Sca), ss[i]? = some s → ∃ x, cs[i]? = some x ∧ s.ok x := by
  obtain ⟨cs, rfl, hsz⟩ := okWide_struct hs hv
  obtain ⟨fuel, hf⟩ := h
  obtain ⟨xs, n, -, -, hl, hlen, hall⟩ := DataW.trod_struct hs hf
  refine ⟨cs, rfl, hsz.trans hC, fun i s e => ?_⟩
  obtain ⟨f, hfi, hfs⟩ := hfit.get e
  have hfi' : fs[i]? = some f := by simpa using hfi
  obtain ⟨o, k⟩ := hone_of hone i f hfi'
  have hi : i < cs.size := by
    have : i < ss.length := by
      rcases Nat.lt_or_ge i ss.length with hh | hh
      · exact hh
      · rw [List.getElem?_eq_none hh] at e; cases e
    omega
  have hx : xs[i]? ≠ none := by
    have := (Array.getElem?_eq_some_iff.1 hfi').1
    rw [List.getElem?_eq_getElem (by omega)]
    simp
  have ht := hall i f hfi'
  have hcell : ((Value.agg cs).cells.toList.drop f.offset).take (P.cellsOf f.type) = [cs[i]] := by
    rw [o, k]
    show (cs.toList.drop i).take 1 = _
    have hi' : i < cs.toList.length := by simpa using hi
    rw [List.drop_eq_getElem_cons hi']
    simp
  rw [hcell] at ht
  obtain ⟨y, hy⟩ := Option.ne_none_iff_exists'.1 hx
  rw [hy] at ht
  refine ⟨cs[i], by simp [hi], ?_⟩
  cases s with
  | num k =>
    obtain ⟨n, e1, -, wf⟩ := DataW.trod_int hfs ht
    exact ⟨n, by simpa using e1, wf⟩
  | boo =>
    obtain ⟨b, e1, -⟩ := DataW.trod_bool hfs ht
    exact ⟨b, by simpa using e1⟩
end
theorem list_of {α : Type} {cs : Array α} {n : Nat} (h : cs.size = n) : ∃ l : List α, cs = l.toArray ∧ l.length = n := ⟨cs.toList, rfl, by simpa using h⟩
theorem list2 {α : Type} {l : List α} (h : l.length = 2) : ∃ a b, l = [a, b] := by
  match l, h with
  | [a, b], _ => exact ⟨a, b, rfl⟩
theorem list3 {α : Type} {l : List α} (h : l.length = 3) : ∃ a b c, l = [a, b, c] := by
  match l, h with
  | [a, b, c], _ => exact ⟨a, b, c, rfl⟩
theorem list4 {α : Type} {l : List α} (h : l.length = 4) : ∃ a b c d, l = [a, b, c, d] := by
  match l, h with
  | [a, b, c, d], _ => exact ⟨a, b, c, d, rfl⟩
theorem list5 {α : Type} {l : List α} (h : l.length = 5) : ∃ a b c d e, l = [a, b, c, d, e] := by
  match l, h with
  | [a, b, c, d, e], _ => exact ⟨a, b, c, d, e, rfl⟩
theorem list6 {α : Type} {l : List α} (h : l.length = 6) : ∃ a b c d e f, l = [a, b, c, d, e, f] := by
  match l, h with
  | [a, b, c, d, e, f], _ => exact ⟨a, b, c, d, e, f, rfl⟩
end Go.Proofs.Ythiccboecimfjaa
