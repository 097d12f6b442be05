/- AllocNil: of nothing there is nothing, and who holds a slot comes to no other one: so the law answers true, for every op and slot, where package link's three variables hold what the program's text lays in them (tied). -/
import Derived.Test.YtmifdkbpbkafjaaDoorE5
import Derived.LoopN
import Derived.Test.YtmifdkbpbkafjaaDoorTie
import Derived.LaidMore
import Derived.Stop.Joined
import Derived.Test.YtmifdkbpbkafjaaDoorCards
import Derived.SevenTiedAt

/- Allocs: the link behind what was loaded; the row p4. -/
namespace Go.Proofs.YtmifdkbpbkafjaaDoor
open Go.RowKit Go.Maps
set_option maxRecDepth 100000

theorem AF_over {w0 w w' : World} {z0 : List Value} {St : List Value → List Item → List Value → Prop} {κs : List Value} {fo : Option Value} (h : OrdF.AF w0 z0 St κs fo w) (hb : Below w.heap.size w w') : OrdF.AF w0 z0 St κs fo w' := by
  obtain ⟨L, zs, hst, ⟨h1, h2, hE⟩ | ⟨n, hn, hE⟩⟩ := h
  · exact ⟨L, zs, hst, .inl ⟨h1, h2, hE.over hb⟩⟩
  · exact ⟨L, zs, hst, .inr ⟨n, hn, hE.over hb⟩⟩
theorem nextW_in (x s : Int) (hx : InU x) : InU (nextW x s) := by
  have h1 := verI_in x
  unfold nextW InU
  cases hs : isS s
  · simp
  · have h2 : 0 ≤ s ∧ s ≤ 8388607 := by simpa [isS] using hs
    by_cases h : verI x = 1099511627775
    · simp [h]
    · rw [if_pos rfl, if_neg h]
      unfold wordI
      split
      · simp only [bitI, Bool.false_eq_true, if_false]
        omega
      · omega
set_option maxHeartbeats 800000 in
theorem behind_any (x d s i : Int) (t : Bool) (hx : InU x) (w : World) (hg : Glo w) : Calls Tryd.prog 83 #[.agg #[.int .u64 x, .int .i64 d, .bool t], .agg #[.int .i64 s, .int .i64 i]] w fun e w' => e = .returned (.agg #[.int .u64 (nextW x s), .int .i64 i, .bool false]) ∧ Below w.heap.size w w' := by
  have hE := (((Env.start w).box w.heap.size rfl [.int .u64 x, .int .i64 d, .bool t] 70).box (w.heap.size + 1) (by simp) [.int .i64 s, .int .i64 i] 35).box (w.heap.size + 1 + 1) (by simp) [.int .u64 0, .int .i64 0, .bool false] 70
  have r0 := hE.rule 2 rfl
  have r1 := hE.rule 1 rfl
  have hn := fun (v : World) (hv : Below w.heap.size w v) => next_any x s v (hg.keep' hv) hx.1 hx.2
  obtain ⟨y, hy⟩ : ∃ y, nextW x s = y := ⟨_, rfl⟩
  simp only [hy] at hn ⊢
  have HN := Lib.hid hn
  clear hx hg hn hy
  go_enter Tryd.func83, Tryd.ntmps83
  go_wp2_with fail
  refine (HN.out _ hE.below).mono ?_
  rintro o w1 ⟨rfl, hb⟩
  replace hE := hE.over hb
  clear hb r0 r1
  have r1 := hE.rule 1 rfl
  have r2 := hE.rule 0 rfl
  have f := hE.thaw 0 rfl
  have f0 := f 0 (by simp)
  have f1 := f 1 (by simp)
  have f2 := f 2 (by simp)
  have hP := hE.put3 0 rfl (.int .u64 y) (.int .i64 i) (.bool false)
  have q := hP.rule 0 rfl
  clear f HN hE
  go_wp2_with fail
  exact bodyPost_ret (v := .agg #[.int .u64 y, .int .i64 i, .bool false]) (by simp [results, Tryd.results83, go_sem, q]) rfl ⟨rfl, hP.below⟩

section
variable {w0 w : World} {R : List Item} {a : Nat} {S : ST} {M : MA}
set_option maxHeartbeats 3200000 in
theorem takeNo_a (x : Int) (hfx : S.f (2, 0, 0) = x) (hxh : x ≠ M.h) (hh : InU M.h) (hn : InU M.n) (hg : Glo w0) (hm : S.m < maxLen) (hE : Env w0 (boxI a (av S.c M) :: LT S R) w) :
    Calls Tryd.prog 81 #[.pointer (some ⟨a, 0, none⟩), .iface 26 (.pointer (some ⟨S.p, 0, none⟩))] w fun o w' => o = .returned (.int .i64 0) ∧ ∃ G', Env w0 (boxI a (av S.c { M with nx := nxA a 3 }) :: LT { S with G := G', f := swf S.f (2, 0, 0) M.h (nextW M.h (slotI M.n)), qc := swq S.qc (decide (S.f (2, 0, 0) = M.h)), m := S.m + 1 } R) w' := by
  have hmf := makeF
  have hah := ahead_swap
  have HD : Hid (decide (S.f (2, 0, 0) = M.h) = false) := Lib.hid (by rw [hfx]; simpa using hxh)
  have hbh := fun (v : World) (hv : Below w0.heap.size w0 v) => behind_any M.h 0 (slotI M.n) 0 false hh v (hg.keep' hv)
  have hni := nextW_in M.h (slotI M.n) hh
  obtain ⟨y, hy⟩ : ∃ y, nextW M.h (slotI M.n) = y := ⟨_, rfl⟩
  rw [hy] at hni ⊢
  simp only [hy] at hbh
  have HNI := Lib.hid hni
  have HBH := Lib.hid hbh
  clear hy hni hbh
  have HLE := Lib.hid fun (v : World) (hv : Below w0.heap.size w0 v) => lead_c M.n 0 false v hn (hg.keep' hv)
  clear hfx hxh
  go_enter Tryd.func81, Tryd.ntmps81
  go_wp2_with fail
  refine OrdF.wp_float [?_, ?_, ?_, ?_, ?_, ?_, ?_, ?_, ?_, ?_, OrdF.Ptr, ?_] [11] 10 (fun v => Below w0.heap.size w0 v ∧ Blk 0 v a (av S.c M)) (OrdF.AF w0 [.int .u64 0, .int .i64 0, .bool false] (OrdF.Sta [fun N zs => N = boxI a (av S.c M) :: LT S R ∧ zs = [.int .u64 0, .int .i64 0, .bool false], fun N zs => N = boxI a (av S.c M) :: LT S R ∧ zs = [.int .u64 y, .int .i64 0, .bool false]])) (by kernel_rfl) (by kernel_rfl) (by kernel_rfl) ⟨hE.drew.below, hE.drew.get 0 rfl⟩ ⟨_, _, ⟨_, rfl, rfl, rfl⟩, .inl ⟨rfl, rfl, hE.drew⟩⟩ (fun hT => ?_)
  rotate_left 11
  have hT9 := Lib.hid hT
  clear hT
  repeat (first
    | (focus (refine OrdF.in_value (v := ?_) hT9.out (by decide) (by decide) ?_ (by rfl) ?_ ?_; rotate_left 2; (focus (intro w5 hS; have r := hS.2.rule; unfold av at r; go_simp <;> with_reducible rfl)); rotate_right; (focus rfl); (try simp only [Act.put, List.setIfInBounds_toArray, List.set_cons_zero, List.set_cons_succ])))
    | (focus (refine OrdF.in_off hT9.out (by decide) (by decide) ?_ (by rfl) ?_; (focus rfl); (try simp only [Act.put, List.setIfInBounds_toArray, List.set_cons_zero, List.set_cons_succ]))))
  focus (refine OrdF.in_call (v := .agg #[.int .i64 (slotI M.n), .int .i64 0]) (f := ?_) (args := ?_) hT9.out (by decide) (by decide) ?_ (by rfl) ?_ ?_ ?_; rotate_left 2; (focus rfl); (focus (intro w5 hS; skip; go_simp; constructor <;> with_reducible rfl)); (focus (intro w5 hS; refine (HLE.out _ hS.1).mono ?_; rintro e w6 ⟨rfl, hb6⟩; exact ⟨rfl, ⟨hS.1.trans (hb6.mono hS.1.size), hS.2.under hb6⟩, fun _ _ h => AF_over h hb6⟩)); (try simp only [Act.put, List.setIfInBounds_toArray, List.set_cons_zero, List.set_cons_succ]))
  focus (refine OrdF.in_call (v := .agg #[.int .u64 y, .int .i64 0, .bool false]) (f := ?_) (args := ?_) hT9.out (by decide) (by decide) ?_ (by rfl) ?_ ?_ ?_; rotate_left 2; (focus rfl); (focus (intro w5 hS; skip; go_simp; constructor <;> with_reducible rfl)); (focus (intro w5 hS; refine (HBH.out _ hS.1).mono ?_; rintro e w6 ⟨rfl, hb6⟩; exact ⟨rfl, ⟨hS.1.trans (hb6.mono hS.1.size), hS.2.under hb6⟩, fun _ _ h => AF_over h hb6⟩)); (try simp only [Act.put, List.setIfInBounds_toArray, List.set_cons_zero, List.set_cons_succ]))
  refine OrdF.in_float OrdF.Ptr (.pointer (some ⟨0, 0, none⟩)) ⟨0, rfl⟩ hT9.out rfl (by decide) ?_ (by rfl) ?_ ?_
  · rfl
  · intro w5 κs5 hC5 hA5
    go_simp
    simp only [Ord3.Lands]
    exact ⟨⟨_, rfl⟩, ⟨hC5.1.alloc hC5.1.size _, hC5.2.more _⟩, hA5.up _⟩
  rintro _ ⟨V, rfl⟩
  (try simp only [Act.put, List.setIfInBounds_toArray, List.set_cons_zero, List.set_cons_succ])
  refine OrdF.in_turn_late (by kernel_rfl) (by decide) (by decide) (fun u => u = undef) (undef) rfl hT9.out rfl (by decide) (by rfl) ?_ (.inl rfl) (by rfl) ?_ ?_
  · rfl
  · rintro w5 hC5 ⟨M5, z5, ⟨P5, hP5, hM5⟩, ⟨hn5, _⟩ | ⟨n5, hn5, hE5⟩⟩
    · cases hn5
    cases hn5
    cases hP5
    obtain ⟨rfl, rfl⟩ := hM5
    have r := hE5.rule 0 rfl; have ff := hE5.thaw 0 rfl; have f0 := ff 0 (by simp); have f1 := ff 1 (by simp); have f2 := ff 2 (by simp); clear ff
    go_simp
    have hE6 := hE5.put3 0 rfl (.int .u64 y) (.int .i64 0) (.bool false); exact ⟨rfl, ⟨hE6.below, hE6.get 1 rfl⟩, _, _, ⟨_, rfl, rfl, rfl⟩, .inr ⟨_, rfl, hE6⟩⟩
  rintro _ rfl
  (try simp only [Act.put, List.setIfInBounds_toArray, List.set_cons_zero, List.set_cons_succ])
  refine OrdF.in_nil rfl (by decide) (by decide) ?_
  rintro w5 hC5 ⟨M5, z5, ⟨P5, hP5, hM5⟩, ⟨hn5, _⟩ | ⟨n5, hn5, hE5⟩⟩
  · cases hn5
  cases hn5
  cases hP5
  obtain ⟨rfl, rfl⟩ := hM5
  clear hT9
  clear HBH HLE
  have rV := hE5.rule 0 rfl
  have r := hE5.rule 1 rfl
  unfold av at r
  have f := hE5.thaw 0 rfl 2 (by simp)
  go_wp2_with fail
  have hE6 := hE5.put 0 rfl (j := 2) (by simp) (.bool false)
  clear r rV f hE5 hE
  generalize w5.setCell _ _ = w6 at *
  replace hE6 : Env w0 (boxI V [.int .u64 y, .int .i64 0, .bool false] :: boxI a (av S.c M) :: LT S R) w6 := hE6
  refine Ord.wp_chain [11] (fun v => Blk 0 v a (av S.c M) ∧ Blk 0 v V [.int .u64 y, .int .i64 0, .bool false]) (fun k w' => ∃ G5, Env w0 (boxI V [.int .u64 y, .int .i64 0, .bool false] :: boxI a (av S.c M) :: LT (if k = 0 then S else { S with G := G5, f := swf S.f (2, 0, 0) M.h y, qc := swq S.qc (decide (S.f (2, 0, 0) = M.h)), m := S.m + 1 }) R) w') (by kernel_rfl) (by kernel_rfl) (by kernel_rfl) ⟨hE6.drew.get 1 rfl, hE6.drew.get 0 rfl⟩ ⟨S.G, hE6.drew⟩ (fun hT => ?_)
  have hT9 := Lib.hid hT
  clear hT
  repeat (first
    | (refine Ord.ch_value (v := ?_) hT9.out (by decide) (by rfl) ?_ ?_; rotate_left; (focus (intro w5 hS; have r := hS.1.rule; have r1 := hS.2.rule; unfold av at r; go_simp <;> with_reducible rfl)); (try simp only [Act.put, List.setIfInBounds_toArray, List.set_cons_zero, List.set_cons_succ]))
    | (refine Ord.ch_off hT9.out (by decide) (by rfl) ?_; (try simp only [Act.put, List.setIfInBounds_toArray, List.set_cons_zero, List.set_cons_succ]))
    | (refine Ord.ch_call (v := ?_) (f := ?_) (args := ?_) hT9.out (by decide) (by rfl) ?_ ?_ ?_; rotate_left 3; (focus (intro w5 hS; have r := hS.1.rule; have r1 := hS.2.rule; unfold av at r; go_simp; constructor <;> with_reducible rfl)); (focus (intro w5 hS; (first | (with_reducible refine (pool_any _).mono ?_; rintro e w6 ⟨rfl, hb6⟩; constructor; with_reducible rfl; exact ⟨⟨hS.1.under hb6, hS.2.under hb6⟩, fun k h => h.elim fun G5 h => ⟨G5, h.over hb6⟩⟩) | (with_reducible refine (shared_any _ _ _ _).mono ?_; rintro e w6 ⟨rfl, hb6⟩; constructor; with_reducible rfl; exact ⟨⟨hS.1.under hb6, hS.2.under hb6⟩, fun k h => h.elim fun G5 h => ⟨G5, h.over hb6⟩⟩)))); (try simp only [Act.put, List.setIfInBounds_toArray, List.set_cons_zero, List.set_cons_succ])))
  refine Ord.ch_turn (v := .bool false) 0 hT9.out rfl (by decide) (Or.inl rfl) (by rfl) ?_ ?_
  · rintro w5 hC5 ⟨G5, hA5⟩
    simp only [if_true] at hA5
    go_simp
    rw [method_swap]
    simp only [Result.andThen_ok]
    go_simp
    simp only [Ord.LandsIn]
    have hsw := swap_w 2 0 0 0 M.h 0 y 0 false false (by unfold Wf In64; simp) HNI.out hm 4 5 (by decide) hA5 rfl rfl
    rw [HD.out] at hsw
    refine hsw.mono ?_
    rintro e w6 ⟨rfl, G6, hE6⟩
    rw [HD.out]
    exact ⟨rfl, ⟨hE6.get 1 rfl, hE6.get 0 rfl⟩, G6, hE6⟩
  (try simp only [Act.put, List.setIfInBounds_toArray, List.set_cons_zero, List.set_cons_succ])
  repeat (first
    | (refine Ord.ch_value (v := ?_) hT9.out (by decide) (by rfl) ?_ ?_; rotate_left; (focus (intro w5 hS; skip; go_simp <;> with_reducible rfl)); (try simp only [Act.put, List.setIfInBounds_toArray, List.set_cons_zero, List.set_cons_succ]))
    | (refine Ord.ch_off hT9.out (by decide) (by rfl) ?_; (try simp only [Act.put, List.setIfInBounds_toArray, List.set_cons_zero, List.set_cons_succ])))
  refine Ord.InText.nil fun w5 hS => ?_
  clear hT9
  obtain ⟨hC9, hA9⟩ := Ord.chain_end hS
  clear hS
  obtain ⟨G9, hA9⟩ := hA9
  clear hC9
  simp only [List.length_cons, List.length_nil, Nat.zero_add, Nat.one_ne_zero, if_false] at hA9
  have r := hA9.rule 1 rfl
  unfold av at r
  go_wp2_with fail
  refine (goOn_m 1 _ _ _ (by simp [av]) hA9 rfl).mono ?_
  rintro o w7 ⟨rfl, hE7⟩
  go_wp2_with fail
  go_ret
  exact ⟨rfl, G9, hE7.sub (.cons _ (List.Sublist.refl _))⟩
set_option maxHeartbeats 3200000 in
theorem takeYes_a (hfx : S.f (2, 0, 0) = M.h) (hr : InU M.r) (hl : S.ql.length + 1 ≤ 1048576) (hh : InU M.h) (hn : InU M.n) (hg : Glo w0) (hm : S.m < maxLen) (hE : Env w0 (boxI a (av S.c M) :: LT S R) w) :
    Calls Tryd.prog 81 #[.pointer (some ⟨a, 0, none⟩), .iface 26 (.pointer (some ⟨S.p, 0, none⟩))] w fun o w' => o = .returned (.int .i64 (decS (S.ql ++ [(slotI M.h, epI M.r, 0)]) S.ce S.cl)) ∧ ∃ nx k' F' G', (decP (S.ql ++ [(slotI M.h, epI M.r, 0)]) S.ce S.cl ≠ 0 → nx = nxA a (decP (S.ql ++ [(slotI M.h, epI M.r, 0)]) S.ce S.cl)) ∧ Rm S.kq (S.ql.length + 1) k' ∧ Env w0 (boxI a (av S.c { M with nx := nx }) :: LT { S with G := G', f := swf S.f (2, 0, 0) M.h (nextW M.h (slotI M.n)), qc := swq S.qc (decide (S.f (2, 0, 0) = M.h)), m := S.m + 1, ql := S.ql ++ [(slotI M.h, epI M.r, 0)], kq := k', F := F' } R) w' := by
  have hmf := makeF
  have hah := ahead_swap
  have HD : Hid (decide (S.f (2, 0, 0) = M.h) = true) := Lib.hid (by rw [hfx]; simp)
  have hlh := fun (v : World) (hv : Below w0.heap.size w0 v) => lead_c M.h 0 false v hh (hg.keep' hv)
  have hbh := fun (v : World) (hv : Below w0.heap.size w0 v) => behind_any M.h 0 (slotI M.n) 0 false hh v (hg.keep' hv)
  have hni := nextW_in M.h (slotI M.n) hh
  obtain ⟨y, hy⟩ : ∃ y, nextW M.h (slotI M.n) = y := ⟨_, rfl⟩
  rw [hy] at hni ⊢
  simp only [hy] at hbh
  have HNI := Lib.hid hni
  have HBH := Lib.hid hbh
  clear hy hni hbh
  obtain ⟨sl, hsl⟩ : ∃ sl, slotI M.h = sl := ⟨_, rfl⟩
  rw [hsl]
  simp only [hsl] at hlh
  have HLH := Lib.hid hlh
  have HRR := Lib.hid hr
  clear hsl hlh hr
  have HLE := Lib.hid fun (v : World) (hv : Below w0.heap.size w0 v) => lead_c M.n 0 false v hn (hg.keep' hv)
  clear hfx
  go_enter Tryd.func81, Tryd.ntmps81
  go_wp2_with fail
  refine OrdF.wp_float [?_, ?_, ?_, ?_, ?_, ?_, ?_, ?_, ?_, ?_, OrdF.Ptr, ?_] [11] 10 (fun v => Below w0.heap.size w0 v ∧ Blk 0 v a (av S.c M)) (OrdF.AF w0 [.int .u64 0, .int .i64 0, .bool false] (OrdF.Sta [fun N zs => N = boxI a (av S.c M) :: LT S R ∧ zs = [.int .u64 0, .int .i64 0, .bool false], fun N zs => N = boxI a (av S.c M) :: LT S R ∧ zs = [.int .u64 y, .int .i64 0, .bool false]])) (by kernel_rfl) (by kernel_rfl) (by kernel_rfl) ⟨hE.drew.below, hE.drew.get 0 rfl⟩ ⟨_, _, ⟨_, rfl, rfl, rfl⟩, .inl ⟨rfl, rfl, hE.drew⟩⟩ (fun hT => ?_)
  rotate_left 11
  have hT9 := Lib.hid hT
  clear hT
  repeat (first
    | (focus (refine OrdF.in_value (v := ?_) hT9.out (by decide) (by decide) ?_ (by rfl) ?_ ?_; rotate_left 2; (focus (intro w5 hS; have r := hS.2.rule; unfold av at r; go_simp <;> with_reducible rfl)); rotate_right; (focus rfl); (try simp only [Act.put, List.setIfInBounds_toArray, List.set_cons_zero, List.set_cons_succ])))
    | (focus (refine OrdF.in_off hT9.out (by decide) (by decide) ?_ (by rfl) ?_; (focus rfl); (try simp only [Act.put, List.setIfInBounds_toArray, List.set_cons_zero, List.set_cons_succ]))))
  focus (refine OrdF.in_call (v := .agg #[.int .i64 (slotI M.n), .int .i64 0]) (f := ?_) (args := ?_) hT9.out (by decide) (by decide) ?_ (by rfl) ?_ ?_ ?_; rotate_left 2; (focus rfl); (focus (intro w5 hS; skip; go_simp; constructor <;> with_reducible rfl)); (focus (intro w5 hS; refine (HLE.out _ hS.1).mono ?_; rintro e w6 ⟨rfl, hb6⟩; exact ⟨rfl, ⟨hS.1.trans (hb6.mono hS.1.size), hS.2.under hb6⟩, fun _ _ h => AF_over h hb6⟩)); (try simp only [Act.put, List.setIfInBounds_toArray, List.set_cons_zero, List.set_cons_succ]))
  focus (refine OrdF.in_call (v := .agg #[.int .u64 y, .int .i64 0, .bool false]) (f := ?_) (args := ?_) hT9.out (by decide) (by decide) ?_ (by rfl) ?_ ?_ ?_; rotate_left 2; (focus rfl); (focus (intro w5 hS; skip; go_simp; constructor <;> with_reducible rfl)); (focus (intro w5 hS; refine (HBH.out _ hS.1).mono ?_; rintro e w6 ⟨rfl, hb6⟩; exact ⟨rfl, ⟨hS.1.trans (hb6.mono hS.1.size), hS.2.under hb6⟩, fun _ _ h => AF_over h hb6⟩)); (try simp only [Act.put, List.setIfInBounds_toArray, List.set_cons_zero, List.set_cons_succ]))
  refine OrdF.in_float OrdF.Ptr (.pointer (some ⟨0, 0, none⟩)) ⟨0, rfl⟩ hT9.out rfl (by decide) ?_ (by rfl) ?_ ?_
  · rfl
  · intro w5 κs5 hC5 hA5
    go_simp
    simp only [Ord3.Lands]
    exact ⟨⟨_, rfl⟩, ⟨hC5.1.alloc hC5.1.size _, hC5.2.more _⟩, hA5.up _⟩
  rintro _ ⟨V, rfl⟩
  (try simp only [Act.put, List.setIfInBounds_toArray, List.set_cons_zero, List.set_cons_succ])
  refine OrdF.in_turn_late (by kernel_rfl) (by decide) (by decide) (fun u => u = undef) (undef) rfl hT9.out rfl (by decide) (by rfl) ?_ (.inl rfl) (by rfl) ?_ ?_
  · rfl
  · rintro w5 hC5 ⟨M5, z5, ⟨P5, hP5, hM5⟩, ⟨hn5, _⟩ | ⟨n5, hn5, hE5⟩⟩
    · cases hn5
    cases hn5
    cases hP5
    obtain ⟨rfl, rfl⟩ := hM5
    have r := hE5.rule 0 rfl; have ff := hE5.thaw 0 rfl; have f0 := ff 0 (by simp); have f1 := ff 1 (by simp); have f2 := ff 2 (by simp); clear ff
    go_simp
    have hE6 := hE5.put3 0 rfl (.int .u64 y) (.int .i64 0) (.bool false); exact ⟨rfl, ⟨hE6.below, hE6.get 1 rfl⟩, _, _, ⟨_, rfl, rfl, rfl⟩, .inr ⟨_, rfl, hE6⟩⟩
  rintro _ rfl
  (try simp only [Act.put, List.setIfInBounds_toArray, List.set_cons_zero, List.set_cons_succ])
  refine OrdF.in_nil rfl (by decide) (by decide) ?_
  rintro w5 hC5 ⟨M5, z5, ⟨P5, hP5, hM5⟩, ⟨hn5, _⟩ | ⟨n5, hn5, hE5⟩⟩
  · cases hn5
  cases hn5
  cases hP5
  obtain ⟨rfl, rfl⟩ := hM5
  clear hT9
  clear HBH HLE
  have rV := hE5.rule 0 rfl
  have r := hE5.rule 1 rfl
  unfold av at r
  have f := hE5.thaw 0 rfl 2 (by simp)
  go_wp2_with fail
  have hE6 := hE5.put 0 rfl (j := 2) (by simp) (.bool false)
  clear r rV f hE5 hE
  generalize w5.setCell _ _ = w6 at *
  replace hE6 : Env w0 (boxI V [.int .u64 y, .int .i64 0, .bool false] :: boxI a (av S.c M) :: LT S R) w6 := hE6
  refine Ord.wp_chain [11] (fun v => Blk 0 v a (av S.c M) ∧ Blk 0 v V [.int .u64 y, .int .i64 0, .bool false]) (fun k w' => ∃ G5, Env w0 (boxI V [.int .u64 y, .int .i64 0, .bool false] :: boxI a (av S.c M) :: LT (if k = 0 then S else { S with G := G5, f := swf S.f (2, 0, 0) M.h y, qc := swq S.qc (decide (S.f (2, 0, 0) = M.h)), m := S.m + 1 }) R) w') (by kernel_rfl) (by kernel_rfl) (by kernel_rfl) ⟨hE6.drew.get 1 rfl, hE6.drew.get 0 rfl⟩ ⟨S.G, hE6.drew⟩ (fun hT => ?_)
  have hT9 := Lib.hid hT
  clear hT
  repeat (first
    | (refine Ord.ch_value (v := ?_) hT9.out (by decide) (by rfl) ?_ ?_; rotate_left; (focus (intro w5 hS; have r := hS.1.rule; have r1 := hS.2.rule; unfold av at r; go_simp <;> with_reducible rfl)); (try simp only [Act.put, List.setIfInBounds_toArray, List.set_cons_zero, List.set_cons_succ]))
    | (refine Ord.ch_off hT9.out (by decide) (by rfl) ?_; (try simp only [Act.put, List.setIfInBounds_toArray, List.set_cons_zero, List.set_cons_succ]))
    | (refine Ord.ch_call (v := ?_) (f := ?_) (args := ?_) hT9.out (by decide) (by rfl) ?_ ?_ ?_; rotate_left 3; (focus (intro w5 hS; have r := hS.1.rule; have r1 := hS.2.rule; unfold av at r; go_simp; constructor <;> with_reducible rfl)); (focus (intro w5 hS; (first | (with_reducible refine (pool_any _).mono ?_; rintro e w6 ⟨rfl, hb6⟩; constructor; with_reducible rfl; exact ⟨⟨hS.1.under hb6, hS.2.under hb6⟩, fun k h => h.elim fun G5 h => ⟨G5, h.over hb6⟩⟩) | (with_reducible refine (shared_any _ _ _ _).mono ?_; rintro e w6 ⟨rfl, hb6⟩; constructor; with_reducible rfl; exact ⟨⟨hS.1.under hb6, hS.2.under hb6⟩, fun k h => h.elim fun G5 h => ⟨G5, h.over hb6⟩⟩)))); (try simp only [Act.put, List.setIfInBounds_toArray, List.set_cons_zero, List.set_cons_succ])))
  refine Ord.ch_turn (v := .bool true) 0 hT9.out rfl (by decide) (Or.inl rfl) (by rfl) ?_ ?_
  · rintro w5 hC5 ⟨G5, hA5⟩
    simp only [if_true] at hA5
    go_simp
    rw [method_swap]
    simp only [Result.andThen_ok]
    go_simp
    simp only [Ord.LandsIn]
    have hsw := swap_w 2 0 0 0 M.h 0 y 0 false false (by unfold Wf In64; simp) HNI.out hm 4 5 (by decide) hA5 rfl rfl
    rw [HD.out] at hsw
    refine hsw.mono ?_
    rintro e w6 ⟨rfl, G6, hE6⟩
    rw [HD.out]
    exact ⟨rfl, ⟨hE6.get 1 rfl, hE6.get 0 rfl⟩, G6, hE6⟩
  (try simp only [Act.put, List.setIfInBounds_toArray, List.set_cons_zero, List.set_cons_succ])
  repeat (first
    | (refine Ord.ch_value (v := ?_) hT9.out (by decide) (by rfl) ?_ ?_; rotate_left; (focus (intro w5 hS; skip; go_simp <;> with_reducible rfl)); (try simp only [Act.put, List.setIfInBounds_toArray, List.set_cons_zero, List.set_cons_succ]))
    | (refine Ord.ch_off hT9.out (by decide) (by rfl) ?_; (try simp only [Act.put, List.setIfInBounds_toArray, List.set_cons_zero, List.set_cons_succ])))
  refine Ord.InText.nil fun w5 hS => ?_
  clear hT9
  obtain ⟨hC9, hA9⟩ := Ord.chain_end hS
  clear hS
  obtain ⟨G9, hA9⟩ := hA9
  clear hC9
  simp only [List.length_cons, List.length_nil, Nat.zero_add, Nat.one_ne_zero, if_false] at hA9
  have r := hA9.rule 1 rfl
  unfold av at r
  go_wp2_with fail
  refine (HLH.out _ hA9.below).mono ?_
  rintro o w7 ⟨rfl, hb⟩
  replace hA9 := hA9.over hb
  have hE8 := (hA9.sub (.cons _ (List.Sublist.refl _))).box w7.heap.size rfl [.int .i64 sl, .int .i64 0] 35
  clear hb r hA9 HLH
  go_wp2_with fail
  generalize w7.alloc _ = w8 at *
  generalize w7.heap.size = Y at *
  have hE9 := hE8.perm (L' := boxI a (av S.c M) :: LT ({ S with G := G9, f := swf S.f (2, 0, 0) M.h y, qc := swq S.qc (decide (S.f (2, 0, 0) = M.h)), m := S.m + 1 } : ST) (boxI Y [.int .i64 sl, .int .i64 0] :: R)) (List.perm_middle (l₁ := [boxI a (av S.c M), _, _, _, _])).symm
  clear hE8
  refine Ord.wp_chain [11] (fun v => (∃ nx, Blk 0 v a (av S.c { M with nx := nx })) ∧ Blk 0 v Y [.int .i64 sl, .int .i64 0]) (fun k w' => ∃ nx k' F', (k ≠ 0 → (decP (S.ql ++ [(sl, epI M.r, 0)]) S.ce S.cl ≠ 0 → nx = nxA a (decP (S.ql ++ [(sl, epI M.r, 0)]) S.ce S.cl)) ∧ Rm S.kq (S.ql.length + 1) k') ∧ Env w0 (boxI a (av S.c { M with nx := nx }) :: LT (if k = 0 then ({ S with G := G9, f := swf S.f (2, 0, 0) M.h y, qc := swq S.qc (decide (S.f (2, 0, 0) = M.h)), m := S.m + 1 } : ST) else { S with G := G9, f := swf S.f (2, 0, 0) M.h y, qc := swq S.qc (decide (S.f (2, 0, 0) = M.h)), m := S.m + 1, ql := S.ql ++ [(sl, epI M.r, 0)], kq := k', F := F' }) (boxI Y [.int .i64 sl, .int .i64 0] :: R)) w') (by kernel_rfl) (by kernel_rfl) (by kernel_rfl) ⟨⟨M.nx, hE9.drew.get 0 rfl⟩, hE9.drew.get 5 rfl⟩ ⟨M.nx, 0, S.F, fun h => absurd rfl h, hE9.drew⟩ (fun hT => ?_)
  have hT9 := Lib.hid hT
  clear hT
  repeat (first
    | (refine Ord.ch_value (v := ?_) hT9.out (by decide) (by rfl) ?_ ?_; rotate_left; (focus (intro w5 hS; obtain ⟨⟨nx9, hS1⟩, hS2⟩ := hS; have r := hS1.rule; have r1 := hS2.rule; unfold av at r; go_simp <;> with_reducible rfl)); (try simp only [Act.put, List.setIfInBounds_toArray, List.set_cons_zero, List.set_cons_succ]))
    | (refine Ord.ch_off hT9.out (by decide) (by rfl) ?_; (try simp only [Act.put, List.setIfInBounds_toArray, List.set_cons_zero, List.set_cons_succ]))
    | (refine Ord.ch_call (v := ?_) (f := ?_) (args := ?_) hT9.out (by decide) (by rfl) ?_ ?_ ?_; rotate_left 3; (focus (intro w5 hS; obtain ⟨⟨nx9, hS1⟩, hS2⟩ := hS; have r := hS1.rule; have r1 := hS2.rule; unfold av at r; go_simp; constructor <;> with_reducible rfl)); (focus (intro w5 hS; (first | (with_reducible refine (epochOf_any _ _ _ HRR.out _).mono ?_; rintro e w6 ⟨rfl, hb6⟩; constructor; with_reducible rfl; exact ⟨⟨hS.1.elim fun nx9 h => ⟨nx9, h.under hb6⟩, hS.2.under hb6⟩, fun k h => h.elim fun nx8 h => h.elim fun k8 h => h.elim fun F8 h => ⟨nx8, k8, F8, h.1, h.2.over hb6⟩⟩)))); (try simp only [Act.put, List.setIfInBounds_toArray, List.set_cons_zero, List.set_cons_succ])))
  refine Ord.ch_turn (v := .int .i64 (decS (S.ql ++ [(sl, epI M.r, 0)]) S.ce S.cl)) 0 hT9.out rfl (by decide) (Or.inl rfl) (by rfl) ?_ ?_
  · rintro w5 hC5 ⟨nx5, k5, F5, -, hA5⟩
    obtain ⟨⟨nx9, hS1⟩, hS2⟩ := hC5
    simp only [if_true] at hA5
    go_simp
    simp only [Ord.LandsIn]
    refine (came_a (S := ({ S with G := G9, f := swf S.f (2, 0, 0) M.h y, qc := swq S.qc (decide (S.f (2, 0, 0) = M.h)), m := S.m + 1 } : ST)) sl (epI M.r) hl hA5).mono ?_
    rintro e w6 ⟨rfl, nx, k', F', hnx, hrm, hE6⟩
    exact ⟨rfl, ⟨⟨_, hE6.get 0 rfl⟩, hE6.get 5 rfl⟩, nx, k', ⟨hnx, hrm⟩, F', hE6⟩
  (try simp only [Act.put, List.setIfInBounds_toArray, List.set_cons_zero, List.set_cons_succ])
  repeat (first
    | (refine Ord.ch_value (v := ?_) hT9.out (by decide) (by rfl) ?_ ?_; rotate_left; (focus (intro w5 hS; skip; go_simp <;> with_reducible rfl)); (try simp only [Act.put, List.setIfInBounds_toArray, List.set_cons_zero, List.set_cons_succ]))
    | (refine Ord.ch_off hT9.out (by decide) (by rfl) ?_; (try simp only [Act.put, List.setIfInBounds_toArray, List.set_cons_zero, List.set_cons_succ])))
  refine Ord.InText.nil fun w5 hS => ?_
  clear hT9
  obtain ⟨hC9, hA9⟩ := Ord.chain_end hS
  clear hS
  obtain ⟨nx, k', F', hc9, hA9⟩ := hA9
  obtain ⟨hnx, hrm⟩ := hc9 (by decide)
  simp only [List.length_cons, List.length_nil, Nat.zero_add, Nat.one_ne_zero, if_false] at hA9
  clear hC9 hc9
  go_wp2_with fail
  go_ret
  exact ⟨rfl, nx, k', F', G9, hnx, hrm, hA9.sub (.cons_cons _ (.cons_cons _ (.cons_cons _ (.cons_cons _ (.cons_cons _ (.cons _ (List.Sublist.refl _)))))))⟩
end
end Go.Proofs.YtmifdkbpbkafjaaDoor

/- Retires: what they are in memory; contracts of NewRetire, their rows and Step. -/
namespace Go.Proofs.YtmifdkbpbkafjaaDoor
open Go.RowKit Go.Maps
set_option maxRecDepth 100000

/-- A Retire's cells: of slot s; e is what was loaded. -/
def rtv (c : Nat) (nx : Value) (s e : Int) : List Value := [.pointer (some ⟨c, 0, none⟩), nx, .int .i64 s, .int .i64 0, .int .u64 e, .int .i64 0, .bool false]
def fnR (pc : Nat) : Nat := if pc = 0 then 26 else 48
def nxR (a pc : Nat) : Value := .func (.func (fnR pc)) #[.pointer (some ⟨a, 0, none⟩)] #[]
theorem enters_fnR (pc : Nat) (ar : Array Value) (v : World) : (callFunc (fnR pc) ar).run Tryd.prog v = .ok (.enter (fnR pc) ar) v := by
  unfold fnR
  split
  all_goals kernel_rfl

section
variable {w0 w : World} {R : List Item} {a : Nat} {S : ST} {nx : Value} {s e : Int}
set_option maxHeartbeats 800000 in
theorem step_r (pc : Nat) (u : Value) (Q : Ending → World → Prop) (hE : Env w0 (boxI a (rtv S.c nx s e) :: LT S R) w) (hnx : nx = nxR a pc)
    (hc : Calls Tryd.prog (fnR pc) #[.pointer (some ⟨a, 0, none⟩), u] w fun e w' => ∃ s, e = .returned (.int .i64 s) ∧ Q (.returned (.int .i64 s)) w') :
    Calls Tryd.prog 10 #[.pointer (some ⟨a, 0, none⟩), u] w Q := by
  have hn : w.cell? ⟨a, 1, none⟩ = some (.func (.func (fnR pc)) #[.pointer (some ⟨a, 0, none⟩)] #[]) := by
    have := hE.rule 0 rfl 1
    rw [this, show (rtv S.c nx s e)[1]? = some nx from rfl, hnx]
    rfl
  have hst := step_m (fnR pc) (enters_fnR pc) u _ (fun o w' => ∃ s, o = .returned (.int .i64 s) ∧ Q (.returned (.int .i64 s)) w') hn (hc.mono fun e w' ⟨s, he, hq⟩ => ⟨s, he, s, rfl, hq⟩)
  have HST := Lib.hid hst
  clear hst hc
  go_enter Tryd.func10, Tryd.ntmps10
  go_wp2_with fail
  refine HST.out.mono ?_
  rintro o w1 ⟨s, rfl, hQ⟩
  go_wp2_with fail
  exact hQ
theorem step_ry {st : Int} {Y : World → Prop} (pc : Nat) (u : Value) (hE : Env w0 (boxI a (rtv S.c nx s e) :: LT S R) w) (hnx : nx = nxR a pc)
    (hc : Calls Tryd.prog (fnR pc) #[.pointer (some ⟨a, 0, none⟩), u] w fun o w' => o = .returned (.int .i64 st) ∧ Y w') :
    Calls Tryd.prog 10 #[.pointer (some ⟨a, 0, none⟩), u] w fun o w' => o = .returned (.int .i64 st) ∧ Y w' :=
  step_r pc u _ hE hnx (hc.mono fun _ _ h => ⟨st, h.1, rfl, h.2⟩)
theorem stepNil_r (u : Value) (w : World) : Calls Tryd.prog 10 #[.pointer none, u] w fun o w' => o = .returned (.int .i64 1) ∧ w' = w := by
  go_enter Tryd.func10, Tryd.ntmps10
  go_wp2
  go_ret
  exact ⟨rfl, rfl⟩
theorem newNil_r (d i : Int) (w : World) : Calls Tryd.prog 7 #[.pointer none, .agg #[.int .i64 d, .int .i64 i]] w fun o w' => o = .returned (.pointer none) ∧ Below w.heap.size w w' := by
  go_enter Tryd.func7, Tryd.ntmps7
  go_wp2
  go_ret
  exact ⟨rfl, (Below.refl _ _).alloc (Nat.le_refl _) _⟩
set_option maxHeartbeats 1600000 in
theorem new_r (d : Int) {L : List Item} {c : Nat} (hE : Env w0 L w) :
    Calls Tryd.prog 7 #[.pointer (some ⟨c, 0, none⟩), .agg #[.int .i64 d, .int .i64 0]] w fun o w' => ∃ a, o = .returned (.pointer (some ⟨a, 0, none⟩)) ∧ Env w0 (boxI a (rtv c (nxR a 0) d 0) :: L) w' := by
  have hmf := makeF
  have hE0 := hE.box w.heap.size rfl [.int .i64 d, .int .i64 0] 35
  have hE2 := hE0.box (w.heap.size + 1) (by simp) (rtv c (nxR (w.heap.size + 1) 0) d 0) 76
  have hE1 := hE0.box (w.heap.size + 1) (by simp) (rtv c .nilFunc d 0) 76
  have r0 := hE1.rule 1 rfl
  have r1 := hE1.rule 0 rfl
  unfold rtv at r1
  have f1 := hE1.thaw 0 rfl 1 (by simp [rtv])
  unfold rtv at f1
  clear hE hE0 hE1
  go_enter Tryd.func7, Tryd.ntmps7
  go_wp2_with fail
  go_ret
  exact ⟨_, rfl, hE2.sub (.cons_cons _ (.cons _ (List.Sublist.refl _)))⟩
set_option maxHeartbeats 1600000 in
theorem loadEpoch_r (x : Int) (hfx : S.f (1, 0, 0) = x) (hE : Env w0 (boxI a (rtv S.c nx s e) :: LT S R) w) :
    Calls Tryd.prog 26 #[.pointer (some ⟨a, 0, none⟩), .iface 26 (.pointer (some ⟨S.p, 0, none⟩))] w fun o w' => o = .returned (.int .i64 0) ∧ Env w0 (boxI a (rtv S.c (nxR a 1) s x) :: LT { S with qc := { S.qc with l := wrap64 (S.qc.l + 1) } } R) w' := by
  have hmf := makeF
  have hah := ahead_load
  have HX := Lib.hid hfx
  clear hfx
  go_enter Tryd.func26, Tryd.ntmps26
  go_wp2_with fail
  refine Ord.wp_chain [7, 10] (fun _ => True) (fun k w' => Env w0 (pick3 (boxI a (rtv S.c nx s e) :: LT S R) (boxI a (rtv S.c nx s e) :: LT { S with qc := { S.qc with l := wrap64 (S.qc.l + 1) } } R) (boxI a (rtv S.c nx s x) :: LT { S with qc := { S.qc with l := wrap64 (S.qc.l + 1) } } R) k) w') (by kernel_rfl) (by kernel_rfl) (by kernel_rfl) trivial hE.drew (fun hT => ?_)
  have hT9 := Lib.hid hT
  clear hT
  repeat (first
    | (refine Ord.ch_value (v := ?_) hT9.out (by decide) (by rfl) ?_ ?_; rotate_left; (focus (intro w5 hS; skip; go_simp <;> with_reducible rfl)); (try simp only [Act.put, List.setIfInBounds_toArray, List.set_cons_zero, List.set_cons_succ]))
    | (refine Ord.ch_off hT9.out (by decide) (by rfl) ?_; (try simp only [Act.put, List.setIfInBounds_toArray, List.set_cons_zero, List.set_cons_succ]))
    | (refine Ord.ch_call (v := ?_) (f := ?_) (args := ?_) hT9.out (by decide) (by rfl) ?_ ?_ ?_; rotate_left 3; (focus (intro w5 hS; skip; go_simp; constructor <;> with_reducible rfl)); (focus (intro w5 hS; (first | (with_reducible refine (epoch_any _).mono ?_; rintro e w6 ⟨rfl, hb6⟩; constructor; with_reducible rfl; exact ⟨trivial, fun k h => h.over hb6⟩) | (with_reducible refine (shared_any _ _ _ _).mono ?_; rintro e w6 ⟨rfl, hb6⟩; constructor; with_reducible rfl; exact ⟨trivial, fun k h => h.over hb6⟩)))); (try simp only [Act.put, List.setIfInBounds_toArray, List.set_cons_zero, List.set_cons_succ])))
  refine Ord.ch_turn (v := .agg #[.int .u64 x, .int .i64 0, .bool false]) 0 hT9.out rfl (by decide) (Or.inl rfl) (by rfl) ?_ ?_
  · rintro w5 hC5 hA5
    replace hA5 : Env w0 (boxI a (rtv S.c nx s e) :: LT S R) w5 := hA5
    go_simp
    rw [method_load]
    simp only [Result.andThen_ok]
    go_simp
    simp only [Ord.LandsIn]
    have hl := load_w 1 0 0 0 (by unfold Wf In64; simp) 3 4 (by decide) hA5 rfl rfl
    rw [HX.out] at hl
    refine hl.mono ?_
    rintro e w6 ⟨rfl, hE6⟩
    exact ⟨rfl, hE6⟩
  (try simp only [Act.put, List.setIfInBounds_toArray, List.set_cons_zero, List.set_cons_succ])
  repeat (first
    | (refine Ord.ch_value (v := ?_) hT9.out (by decide) (by rfl) ?_ ?_; rotate_left; (focus (intro w5 hS; skip; go_simp <;> with_reducible rfl)); (try simp only [Act.put, List.setIfInBounds_toArray, List.set_cons_zero, List.set_cons_succ]))
    | (refine Ord.ch_off hT9.out (by decide) (by rfl) ?_; (try simp only [Act.put, List.setIfInBounds_toArray, List.set_cons_zero, List.set_cons_succ])))
  refine Ord.ch_turn (v := undef) 1 hT9.out rfl (by decide) (Or.inr ⟨_, rfl, by kernel_rfl⟩) (by rfl) ?_ ?_
  · rintro w5 hC5 hA5
    replace hA5 : Env w0 (boxI a (rtv S.c nx s e) :: LT { S with qc := { S.qc with l := wrap64 (S.qc.l + 1) } } R) w5 := hA5
    have r := hA5.rule 0 rfl
    unfold rtv at r
    have f6 := hA5.thaw 0 rfl 4 (by simp [rtv])
    have f7 := hA5.thaw 0 rfl 5 (by simp [rtv])
    have f8 := hA5.thaw 0 rfl 6 (by simp [rtv])
    go_simp
    have h9 := ((hA5.put 0 rfl (j := 4) (by simp [rtv]) (.int .u64 x)).put 0 rfl (j := 5) (by simp [rtv]) (.int .i64 0)).put 0 rfl (j := 6) (by simp [rtv]) (.bool false)
    exact ⟨rfl, h9⟩
  (try simp only [Act.put, List.setIfInBounds_toArray, List.set_cons_zero, List.set_cons_succ])
  repeat (first
    | (refine Ord.ch_value (v := ?_) hT9.out (by decide) (by rfl) ?_ ?_; rotate_left; (focus (intro w5 hS; skip; go_simp <;> with_reducible rfl)); (try simp only [Act.put, List.setIfInBounds_toArray, List.set_cons_zero, List.set_cons_succ]))
    | (refine Ord.ch_off hT9.out (by decide) (by rfl) ?_; (try simp only [Act.put, List.setIfInBounds_toArray, List.set_cons_zero, List.set_cons_succ])))
  refine Ord.InText.nil fun w5 hS => ?_
  clear hT9
  obtain ⟨hC9, hA9⟩ := Ord.chain_end hS
  clear hS
  replace hA9 : Env w0 (boxI a (rtv S.c nx s x) :: LT { S with qc := { S.qc with l := wrap64 (S.qc.l + 1) } } R) w5 := hA9
  have r := hA9.rule 0 rfl
  unfold rtv at r
  go_wp2_with fail
  refine (goOn_m 0 _ _ _ (by simp [rtv]) hA9 rfl).mono ?_
  rintro o w7 ⟨rfl, hE7⟩
  go_wp2_with fail
  go_ret
  exact ⟨rfl, hE7⟩

set_option maxHeartbeats 3200000 in
theorem store_r (he : InU e) (hs : In64 s) (hm : S.m < maxLen) (hl : S.ql.length + 1 ≤ 1048576) (hE : Env w0 (boxI a (rtv S.c nx s e) :: LT S R) w) :
    Calls Tryd.prog 48 #[.pointer (some ⟨a, 0, none⟩), .iface 26 (.pointer (some ⟨S.p, 0, none⟩))] w fun o w' => o = .returned (.int .i64 1) ∧ ∃ k' F' G', Rm S.kq (S.ql.length + 1) k' ∧ Env w0 (LT { S with G := G', f := upd S.f (5, s, 1) e, qc := { S.qc with s := wrap64 (S.qc.s + 1) }, m := S.m + 1, ql := S.ql ++ [(s, epI e, 0)], kq := k', F := F' } R) w' := by
  have hmf := makeF
  have hah := ahead_store
  have HWF : Hid (Wf (5, s, 1)) := Lib.hid (by unfold Wf; exact ⟨by unfold In64; simp, hs, by unfold In64; simp⟩)
  have HIE := Lib.hid he
  clear he hs
  go_enter Tryd.func48, Tryd.ntmps48
  go_wp2_with fail
  refine Ord.wp_chain [13] (fun v => Blk 0 v a (rtv S.c nx s e)) (fun k w' => ∃ G5, Env w0 (boxI a (rtv S.c nx s e) :: LT (if k = 0 then S else { S with G := G5, f := upd S.f (5, s, 1) e, qc := { S.qc with s := wrap64 (S.qc.s + 1) }, m := S.m + 1 }) R) w') (by kernel_rfl) (by kernel_rfl) (by kernel_rfl) (hE.drew.get 0 rfl) ⟨S.G, hE.drew⟩ (fun hT => ?_)
  have hT9 := Lib.hid hT
  clear hT
  repeat (first
    | (refine Ord.ch_value (v := ?_) hT9.out (by decide) (by rfl) ?_ ?_; rotate_left; (focus (intro w5 hS; have r := hS.rule; unfold rtv at r; go_simp <;> with_reducible rfl)); (try simp only [Act.put, List.setIfInBounds_toArray, List.set_cons_zero, List.set_cons_succ]))
    | (refine Ord.ch_off hT9.out (by decide) (by rfl) ?_; (try simp only [Act.put, List.setIfInBounds_toArray, List.set_cons_zero, List.set_cons_succ]))
    | (refine Ord.ch_call (v := ?_) (f := ?_) (args := ?_) hT9.out (by decide) (by rfl) ?_ ?_ ?_; rotate_left 3; (focus (intro w5 hS; have r := hS.rule; unfold rtv at r; go_simp; constructor <;> with_reducible rfl)); (focus (intro w5 hS; (first | (with_reducible refine (part_any _ _ _ _).mono ?_; rintro e w6 ⟨rfl, hb6⟩; constructor; with_reducible rfl; exact ⟨hS.under hb6, fun k h => h.elim fun G5 h => ⟨G5, h.over hb6⟩⟩)))); (try simp only [Act.put, List.setIfInBounds_toArray, List.set_cons_zero, List.set_cons_succ])))
  refine Ord.ch_turn (v := .tuple #[]) 0 hT9.out rfl (by decide) (Or.inl rfl) (by rfl) ?_ ?_
  · rintro w5 hC5 ⟨G5, hA5⟩
    simp only [if_true] at hA5
    go_simp
    rw [method_store]
    simp only [Result.andThen_ok]
    go_simp
    simp only [Ord.LandsIn]
    refine (store_w 5 s 1 0 e 0 false HWF.out HIE.out hm 3 4 (by decide) hA5 rfl rfl).mono ?_
    rintro e w6 ⟨rfl, G6, hE6⟩
    exact ⟨rfl, hE6.get 0 rfl, G6, hE6⟩
  (try simp only [Act.put, List.setIfInBounds_toArray, List.set_cons_zero, List.set_cons_succ])
  repeat (first
    | (refine Ord.ch_value (v := ?_) hT9.out (by decide) (by rfl) ?_ ?_; rotate_left; (focus (intro w5 hS; skip; go_simp <;> with_reducible rfl)); (try simp only [Act.put, List.setIfInBounds_toArray, List.set_cons_zero, List.set_cons_succ]))
    | (refine Ord.ch_off hT9.out (by decide) (by rfl) ?_; (try simp only [Act.put, List.setIfInBounds_toArray, List.set_cons_zero, List.set_cons_succ])))
  refine Ord.InText.nil fun w5 hS => ?_
  clear hT9
  obtain ⟨hC9, hA9⟩ := Ord.chain_end hS
  clear hS
  obtain ⟨G9, hA9⟩ := hA9
  simp only [List.length_cons, List.length_nil, Nat.zero_add, Nat.one_ne_zero, if_false] at hA9
  clear hC9 hE
  go_wp2_with fail
  refine Ord3.wp_chain [?_, ?_, ?_, ?_, ?_, ?_, ?_, ?_, ?_, ?_, ?_, ?_, ?_, ?_, ?_, ?_, ?_, ?_, ?_, ?_, ?_, ?_, ?_, ?_] [22, 23] (fun w' => Blk 0 w' a (rtv S.c nx s e) ∧ Blk 0 w' S.c (crv S.ck S.cs S.cb S.ch S.cl S.ce S.cr S.hs 0 S.q)) (Ord3.Stage fun κs => [Env w0 (boxI a (rtv S.c nx s e) :: LT { S with G := G9, f := upd S.f (5, s, 1) e, qc := { S.qc with s := wrap64 (S.qc.s + 1) }, m := S.m + 1 } R), fun w' => ∃ z, κs.getD 0 undef = .slice (some ⟨z, 0, none⟩) 1 1 ∧ Env w0 (boxI z [.int .i64 s, .int .i64 (epI e), .int .i64 0] :: boxI a (rtv S.c nx s e) :: LT { S with G := G9, f := upd S.f (5, s, 1) e, qc := { S.qc with s := wrap64 (S.qc.s + 1) }, m := S.m + 1 } R) w', fun w' => ∃ k', Rm S.kq (S.ql.length + 1) k' ∧ ∃ F' z, Env w0 (boxI z [.int .i64 s, .int .i64 (epI e), .int .i64 0] :: boxI a (rtv S.c nx s e) :: LT { S with G := G9, f := upd S.f (5, s, 1) e, qc := { S.qc with s := wrap64 (S.qc.s + 1) }, m := S.m + 1, ql := S.ql ++ [(s, epI e, 0)], kq := k', F := F' } R) w']) (by kernel_rfl) (by kernel_rfl) (by kernel_rfl) ⟨hA9.drew.get 0 rfl, hA9.drew.get 1 rfl⟩ ⟨_, rfl, hA9.drew⟩ (fun hT => ?_)
  rotate_left 24
  have hT9 := Lib.hid hT
  clear hT
  repeat (first
    | (focus (refine Ord3.in_value (v := ?_) hT9.out (by decide) ?_ (by rfl) ?_ ?_; rotate_left 2; (focus (intro w5 hS; have r1 := Blk.rule hS.1; unfold rtv at r1; go_simp <;> with_reducible rfl)); rotate_right; (focus rfl); (try simp only [Act.put, List.setIfInBounds_toArray, List.set_cons_zero, List.set_cons_succ])))
    | (focus (refine Ord3.in_off hT9.out (by decide) ?_ (by rfl) ?_; (focus rfl); (try simp only [Act.put, List.setIfInBounds_toArray, List.set_cons_zero, List.set_cons_succ])))
    | (focus (refine Ord3.in_call (v := ?_) (f := ?_) (args := ?_) hT9.out (by decide) ?_ (by rfl) ?_ ?_ ?_; rotate_left 4; (focus (intro w5 hS; have r1 := Blk.rule hS.1; unfold rtv at r1; go_simp; constructor <;> with_reducible rfl)); (focus (intro w5 hS; (first | (with_reducible refine (queue_c hS.2).mono ?_; rintro o w6 ⟨rfl, rfl⟩; constructor; with_reducible rfl; exact ⟨hS, fun _ h => h⟩) | (with_reducible refine (epochOf_any _ _ _ HIE.out _).mono ?_; rintro o w6 ⟨rfl, hb6⟩; constructor; with_reducible rfl; exact ⟨⟨hS.1.under hb6, hS.2.under hb6⟩, fun κs h => Ord3.Stage.three h (fun h => h.over hb6) (fun h => h.elim fun z h => ⟨z, h.1, h.2.over hb6⟩) (fun h => h.elim fun k h => ⟨k, h.1, h.2.elim fun F h => ⟨F, h.elim fun z h => ⟨z, h.over hb6⟩⟩⟩)⟩)))); rotate_right; (focus rfl); (try simp only [Act.put, List.setIfInBounds_toArray, List.set_cons_zero, List.set_cons_succ]))))
  refine Ord3.in_turn (fun u => ∃ z, u = .slice (some ⟨z, 0, none⟩) 1 1) _ ⟨0, rfl⟩ hT9.out rfl (by decide) (by rfl) ?_ (Or.inl rfl) (by rfl) ?_ ?_
  · rfl
  · rintro w7 hC7 ⟨P7, hP7, hA7⟩
    cases hP7
    go_simp
    simp only [Ord3.Lands]
    have hE8 := hA7.box w7.heap.size rfl [.int .i64 s, .int .i64 (epI e), .int .i64 0] 92
    exact ⟨⟨_, rfl⟩, ⟨hE8.get 1 rfl, hE8.get 2 rfl⟩, _, rfl, w7.heap.size, rfl, hE8⟩
  rintro _ ⟨z9, rfl⟩
  (try simp only [Act.put, List.setIfInBounds_toArray, List.set_cons_zero, List.set_cons_succ])
  refine Ord3.in_turn (fun u => u = .int .i64 0) _ rfl hT9.out rfl (by decide) (by rfl) ?_ (Or.inr ⟨_, 22, [], rfl, by kernel_rfl, by kernel_rfl, rfl⟩) (by rfl) ?_ ?_
  · rfl
  · rintro w7 hC7 ⟨P7, hP7, hA7⟩
    cases hP7
    obtain ⟨z8, he, hA7⟩ := hA7
    cases he
    go_simp
    simp only [Ord3.Lands]
    have hA : Row3 w7 (some ⟨z9, 0, none⟩) [(s, epI e, 0)] := Blk.row3 (l := [(s, epI e, 0)]) (hA7.get 0 rfl)
    refine (push_any (l := S.ql) (xs := [(s, epI e, 0)]) (A := some ⟨z9, 0, none⟩) (cap := 1) (by simp; omega) hA (fun _ b hb hFb => ?_) (hA7.queue 3 rfl)).mono ?_
    · obtain ⟨off, he⟩ := hb
      cases he
      exact (hA7.off (i := 0) (j := 3) rfl rfl (by omega)) z9 rfl hFb
    rintro o w8 ⟨rfl, k8, F8, hrm, hQ8, hs8⟩
    have hE8 := hA7.turnQ 3 rfl hQ8 hs8
    exact ⟨_, rfl, rfl, ⟨hE8.get 1 rfl, hE8.get 2 rfl⟩, _, rfl, k8, by simpa using hrm, F8, z9, hE8⟩
  rintro _ rfl
  (try simp only [Act.put, List.setIfInBounds_toArray, List.set_cons_zero, List.set_cons_succ])
  refine Ord3.in_nil rfl ?_
  rintro w9 hC9 ⟨P9, hP9, hA8⟩
  cases hP9
  obtain ⟨k8, hrm, F8, z8, hA8⟩ := hA8
  clear hT9 hC9 hA9
  have hE9 := hA8.sub (.cons _ (List.Sublist.refl _))
  have r := hE9.rule 0 rfl
  unfold rtv at r
  go_wp2_with fail
  refine (end_m 0 1 (by simp [rtv]) hE9 rfl).mono ?_
  rintro o w10 ⟨rfl, nx', hE10⟩
  go_wp2_with fail
  go_ret
  exact ⟨rfl, k8, F8, G9, hrm, hE10.sub (.cons _ (List.Sublist.refl _))⟩
end
end Go.Proofs.YtmifdkbpbkafjaaDoor

/- Allocs: the program is awake. -/
namespace Go.Proofs.YtmifdkbpbkafjaaDoor
open Go.RowKit Go.Maps
set_option maxRecDepth 100000

theorem list14 (s : Int) (w : World) : Calls Tryd.prog 15 #[.int .i64 s] w fun o w' => o = .returned (.agg #[.int .i64 1, .int .i64 s, .int .i64 0, .int .i64 1, .int .i64 100]) ∧ Below w.heap.size w w' := by
  go_enter Tryd.func15, Tryd.ntmps15
  go_wp2
  exact bodyPost_ret (v := .agg #[.int .i64 1, .int .i64 s, .int .i64 0, .int .i64 1, .int .i64 100]) (by simp [results, Tryd.results15, go_sem]) rfl ⟨rfl, (Below.refl _ _).alloc (Nat.le_refl _) _⟩

set_option maxHeartbeats 3200000 in
theorem awake14 (w : World) (hg : Glo w) : Calls Tryd.prog 4 #[] w fun o w' => o = .returned (.bool true) ∧ Below w.heap.size w w' := by
  have hE := Env.start w
  have hM : ∀ k : Nat, k ≤ 100 → k < maxLen := fun k hk => by unfold maxLen; omega
  have HM := Lib.hid hM
  have HC4 := Lib.hid (show chkI 1 4 0 1 100 = 0 by decide)
  have HG := Lib.hid hg
  clear hM hg
  go_enter Tryd.func4, Tryd.ntmps4
  go_wp2_with fail
  refine (new_w hE).mono ?_
  rintro o w1 ⟨p, cc, rfl, hE, hb⟩
  clear hb
  go_wp2_with fail
  refine (start_w 0 1 (by decide) (HM.out _ (by omega)) hE rfl rfl).mono ?_
  rintro o w2 ⟨rfl, F2, hE⟩
  simp only [List.set_cons_succ, List.set_cons_zero] at hE
  go_wp2_with fail
  refine (list14 4 _).mono ?_
  rintro o w3 ⟨rfl, hb⟩
  replace hE := hE.over hb
  clear hb
  go_wp2_with fail
  refine (newYes_c 1 4 0 1 100 HC4.out hE).mono ?_
  rintro o w4 ⟨c, q, F, rfl, hE⟩
  go_wp2_with fail
  refine (check_w 1 (upd_same _ _ _) 0 2 3 (by decide) (by decide) hE rfl rfl rfl).mono ?_
  rintro o w5 ⟨rfl, hE⟩
  simp only [List.set_cons_succ, List.set_cons_zero] at hE
  rw [show epI 1 = 1 by decide] at hE
  generalize hf5 : upd (fun _ => 0) (1, 0, 0) 1 = f5 at hE
  have HF5 := Lib.hid hf5
  clear hf5
  generalize hq5 : ({ l := _, s := _, w := _, f := _, a := _ } : Cnt) = q5 at hE
  clear hq5
  go_wp2_with fail
  refine (new_a (S := { c := c, q := q, p := p, cc := cc, ck := 1, cs := 4, cb := 0, ch := 1, cl := 100, ce := 1, cr := 0, hs := 0, F := F, ql := [], kq := 2, G := F2, f := f5, qc := q5, m := 0 + 1 }) _ 9 _ _ rfl hE).mono ?_
  rintro o w6 (⟨h, -⟩ | ⟨-, a, rfl, hE⟩)
  · exact absurd (show (2 : Nat) = 0 from h) (by decide)
  replace hE : Env w (boxI a (av c { nx := nxA a 2, left := .slice none 0 0, k := 1, key := 9, val := 0, lv := 0, h := 0, n := 0, r := 0, s := 0 }) :: LT { c := c, q := q, p := p, cc := cc, ck := 1, cs := 4, cb := 0, ch := 1, cl := 100, ce := 1, cr := 0, hs := 0, F := F, ql := [], kq := 2, G := F2, f := f5, qc := q5, m := 0 + 1 } []) w6 := hE
  have h30 : f5 (3, 0, 0) = 0 := by rw [← HF5.out]; simp [upd]
  have H30 := Lib.hid h30
  clear h30
  go_wp2_with fail
  refine wp_loop_rounds 5 ?_
  rw [rounds_succ]
  go_wp2_with fail
  refine (step_ay (S := { c := c, q := q, p := p, cc := cc, ck := 1, cs := 4, cb := 0, ch := 1, cl := 100, ce := 1, cr := 0, hs := 0, F := F, ql := [], kq := 2, G := F2, f := f5, qc := q5, m := 0 + 1 }) (M := { nx := nxA a 2, left := .slice none 0 0, k := 1, key := 9, val := 0, lv := 0, h := 0, n := 0, r := 0, s := 0 }) 2 _ hE rfl (freshYes_a (S := { c := c, q := q, p := p, cc := cc, ck := 1, cs := 4, cb := 0, ch := 1, cl := 100, ce := 1, cr := 0, hs := 0, F := F, ql := [], kq := 2, G := F2, f := f5, qc := q5, m := 0 + 1 }) (M := { nx := nxA a 2, left := .slice none 0 0, k := 1, key := 9, val := 0, lv := 0, h := 0, n := 0, r := 0, s := 0 }) 0 H30.out (by simp) (by decide) (show (0 : Int) < 4 by decide) (show (4 : Int) ≤ 9223372036854775806 by decide) (HM.out 1 (by omega)) hE)).mono ?_
  rintro o w7 ⟨rfl, nx, k7, F7, G7, hnx, -, hE7⟩
  rw [show nx = nxA a 10 from hnx (show (10 : Nat) ≠ 0 by decide)] at hE7
  clear hnx
  rw [show decS ([] ++ [((0 : Int) + 1, (0 : Int), (0 : Int))]) 1 100 = 0 from rfl]
  generalize hf : upd f5 (3, 0, 0) (IntKind.u64.wrap (0 + 1)) = f7 at *
  have HF7 := Lib.hid hf
  clear hf
  generalize hq : ({ l := _, s := _, w := _, f := _, a := _ } : Cnt) = q7 at hE7
  clear hq
  replace hE7 : Env w (boxI a (av c { nx := nxA a 10, left := .slice none 0 0, k := 1, key := 9, val := 0, lv := 0, h := 0, n := 0, r := 0, s := 0 }) :: LT { c := c, q := q, p := p, cc := cc, ck := 1, cs := 4, cb := 0, ch := 1, cl := 100, ce := 1, cr := 0, hs := 0, F := F7, ql := [(1, 0, 0)], kq := k7, G := G7, f := f7, qc := q7, m := 2 } []) w7 := hE7
  go_wp2_with fail
  rw [rounds_succ]
  go_wp2_with fail
  refine (step_ay (S := { c := c, q := q, p := p, cc := cc, ck := 1, cs := 4, cb := 0, ch := 1, cl := 100, ce := 1, cr := 0, hs := 0, F := F7, ql := [(1, 0, 0)], kq := k7, G := G7, f := f7, qc := q7, m := 2 }) (M := { nx := nxA a 10, left := .slice none 0 0, k := 1, key := 9, val := 0, lv := 0, h := 0, n := 0, r := 0, s := 0 }) 10 _ hE7 rfl (birth_a (S := { c := c, q := q, p := p, cc := cc, ck := 1, cs := 4, cb := 0, ch := 1, cl := 100, ce := 1, cr := 0, hs := 0, F := F7, ql := [(1, 0, 0)], kq := k7, G := G7, f := f7, qc := q7, m := 2 }) (M := { nx := nxA a 10, left := .slice none 0 0, k := 1, key := 9, val := 0, lv := 0, h := 0, n := 0, r := 0, s := 0 }) 1 0 [] rfl (show (1 : Int) ≤ 1 ∧ (1 : Int) ≤ 4 by decide) (show (4 : Int) ≤ 9223372036854775806 by decide) rfl (show (0 : Int) ≤ 1 ∧ (1 : Int) ≤ 9223372036854775807 by decide) (HM.out 2 (by omega)) hE7)).mono ?_
  rintro o w8 ⟨rfl, g, cg, G8, hcg, hE8⟩
  generalize hf : upd f7 (5, 1, 0) 1 = f8 at *
  have HF8 := Lib.hid hf
  clear hf
  generalize hq : ({ l := _, s := _, w := _, f := _, a := _ } : Cnt) = q8 at hE8
  clear hq
  replace hcg : 3 ≤ cg := hcg
  replace hE8 : Env w (boxI a (av c { nx := nxA a 11, left := .slice (some ⟨g, 2, none⟩) 2 (cg - 1), k := 1, key := 9, val := 0, lv := 0, h := 0, n := 0, r := 0, s := 1 }) :: LT { c := c, q := q, p := p, cc := cc, ck := 1, cs := 4, cb := 0, ch := 1, cl := 100, ce := 1, cr := 0, hs := 1, F := F7, ql := [], kq := k7, G := G8, f := f8, qc := q8, m := 3 } (lieI g (flat2 (wordsA 1 1 9 0 (IntKind.u64.wrap 0))) :: [])) w8 := hE8
  go_wp2_with fail
  rw [rounds_succ]
  go_wp2_with fail
  refine (step_ay (S := { c := c, q := q, p := p, cc := cc, ck := 1, cs := 4, cb := 0, ch := 1, cl := 100, ce := 1, cr := 0, hs := 1, F := F7, ql := [], kq := k7, G := G8, f := f8, qc := q8, m := 3 }) (M := { nx := nxA a 11, left := .slice (some ⟨g, 2, none⟩) 2 (cg - 1), k := 1, key := 9, val := 0, lv := 0, h := 0, n := 0, r := 0, s := 1 }) 11 _ hE8 rfl (store_a (S := { c := c, q := q, p := p, cc := cc, ck := 1, cs := 4, cb := 0, ch := 1, cl := 100, ce := 1, cr := 0, hs := 1, F := F7, ql := [], kq := k7, G := G8, f := f8, qc := q8, m := 3 }) (M := { nx := nxA a 11, left := .slice (some ⟨g, 2, none⟩) 2 (cg - 1), k := 1, key := 9, val := 0, lv := 0, h := 0, n := 0, r := 0, s := 1 }) g 2 1 (cg - 1) 1 0 (by omega) (by unfold In64; decide) (by unfold InU; decide) (show In64 1 by unfold In64; decide) (HM.out 3 (by omega)) rfl rfl rfl hE8)).mono ?_
  rintro o w9 ⟨rfl, nx, left, G9, hnl, hE9⟩
  obtain ⟨rfl, rfl⟩ := hnl (by decide)
  rw [show (if 1 = 0 then (1 : Int) else 0) = 0 from rfl]
  generalize hf : upd f8 (5, 1, 1) 0 = f9 at *
  have HF9 := Lib.hid hf
  clear hf
  generalize hq : ({ l := _, s := _, w := _, f := _, a := _ } : Cnt) = q9 at hE9
  clear hq
  replace hE9 : Env w (boxI a (av c { nx := nxA a 11, left := .slice (some ⟨g, 4, none⟩) 1 (cg - 1 - 1), k := 1, key := 9, val := 0, lv := 0, h := 0, n := 0, r := 0, s := 1 }) :: LT { c := c, q := q, p := p, cc := cc, ck := 1, cs := 4, cb := 0, ch := 1, cl := 100, ce := 1, cr := 0, hs := 1, F := F7, ql := [], kq := k7, G := G9, f := f9, qc := q9, m := 4 } (lieI g (flat2 (wordsA 1 1 9 0 (IntKind.u64.wrap 0))) :: [])) w9 := hE9
  go_wp2_with fail
  rw [rounds_succ]
  go_wp2_with fail
  refine (step_ay (S := { c := c, q := q, p := p, cc := cc, ck := 1, cs := 4, cb := 0, ch := 1, cl := 100, ce := 1, cr := 0, hs := 1, F := F7, ql := [], kq := k7, G := G9, f := f9, qc := q9, m := 4 }) (M := { nx := nxA a 11, left := .slice (some ⟨g, 4, none⟩) 1 (cg - 1 - 1), k := 1, key := 9, val := 0, lv := 0, h := 0, n := 0, r := 0, s := 1 }) 11 _ hE9 rfl (store_a (S := { c := c, q := q, p := p, cc := cc, ck := 1, cs := 4, cb := 0, ch := 1, cl := 100, ce := 1, cr := 0, hs := 1, F := F7, ql := [], kq := k7, G := G9, f := f9, qc := q9, m := 4 }) (M := { nx := nxA a 11, left := .slice (some ⟨g, 4, none⟩) 1 (cg - 1 - 1), k := 1, key := 9, val := 0, lv := 0, h := 0, n := 0, r := 0, s := 1 }) g 4 0 (cg - 1 - 1) 3 9 (by omega) (by unfold In64; decide) (by unfold InU; decide) (show In64 1 by unfold In64; decide) (HM.out 4 (by omega)) rfl rfl rfl hE9)).mono ?_
  rintro o w10 ⟨rfl, nx, left, G10, hnl, hE10⟩
  clear hnl
  rw [show (if 0 = 0 then (1 : Int) else 0) = 1 from rfl]
  generalize hf : upd f9 (5, 1, 3) 9 = f10 at *
  have HF10 := Lib.hid hf
  clear hf
  generalize hq : ({ l := _, s := _, w := _, f := _, a := _ } : Cnt) = q10 at hE10
  clear hq
  replace hE10 := hE10.sub (L' := LT { c := c, q := q, p := p, cc := cc, ck := 1, cs := 4, cb := 0, ch := 1, cl := 100, ce := 1, cr := 0, hs := 1, F := F7, ql := [], kq := k7, G := G10, f := f10, qc := q10, m := 5 } []) (.cons _ (.cons_cons _ (.cons_cons _ (.cons_cons _ (.cons_cons _ (.cons _ (List.Sublist.refl _)))))))
  go_wp2_with fail
  rw [rounds_succ]
  go_wp2_with fail
  refine (held_c (hE10.get 0 rfl)).mono ?_
  rintro o w11 ⟨rfl, hb⟩
  replace hE10 := hE10.over hb
  have hE11 := (hE10.box w11.heap.size rfl [.int .i64 1, .int .i64 0] 35).perm (L' := LT { c := c, q := q, p := p, cc := cc, ck := 1, cs := 4, cb := 0, ch := 1, cl := 100, ce := 1, cr := 0, hs := 1, F := F7, ql := [], kq := k7, G := G10, f := f10, qc := q10, m := 5 } [boxI w11.heap.size [.int .i64 1, .int .i64 0]]) (List.perm_middle (l₁ := [_, _, _, _])).symm
  clear hb hE10
  have rY := hE11.rule 4 rfl
  go_wp2_with fail
  generalize w11.alloc _ = w12 at *
  generalize w11.heap.size = Y at *
  refine (new_r 1 hE11).mono ?_
  rintro o w13 ⟨r, rfl, hE13⟩
  clear rY hE11
  go_wp2_with fail
  refine (step_ry (S := { c := c, q := q, p := p, cc := cc, ck := 1, cs := 4, cb := 0, ch := 1, cl := 100, ce := 1, cr := 0, hs := 1, F := F7, ql := [], kq := k7, G := G10, f := f10, qc := q10, m := 5 }) 0 _ hE13 rfl (loadEpoch_r (S := { c := c, q := q, p := p, cc := cc, ck := 1, cs := 4, cb := 0, ch := 1, cl := 100, ce := 1, cr := 0, hs := 1, F := F7, ql := [], kq := k7, G := G10, f := f10, qc := q10, m := 5 }) 1 (show f10 (1, 0, 0) = 1 by rw [← HF10.out, ← HF9.out, ← HF8.out, ← HF7.out, ← HF5.out]; simp [upd]) hE13)).mono ?_
  rintro o w14 ⟨rfl, hE14⟩
  clear hE13
  generalize hq : ({ l := _, s := _, w := _, f := _, a := _ } : Cnt) = q14 at hE14
  clear hq
  replace hE14 : Env w (boxI r (rtv c (nxR r 1) 1 1) :: LT { c := c, q := q, p := p, cc := cc, ck := 1, cs := 4, cb := 0, ch := 1, cl := 100, ce := 1, cr := 0, hs := 1, F := F7, ql := [], kq := k7, G := G10, f := f10, qc := q14, m := 5 } [boxI Y [.int .i64 1, .int .i64 0]]) w14 := hE14
  go_wp2_with fail
  refine (step_ry (S := { c := c, q := q, p := p, cc := cc, ck := 1, cs := 4, cb := 0, ch := 1, cl := 100, ce := 1, cr := 0, hs := 1, F := F7, ql := [], kq := k7, G := G10, f := f10, qc := q14, m := 5 }) 1 _ hE14 rfl (store_r (S := { c := c, q := q, p := p, cc := cc, ck := 1, cs := 4, cb := 0, ch := 1, cl := 100, ce := 1, cr := 0, hs := 1, F := F7, ql := [], kq := k7, G := G10, f := f10, qc := q14, m := 5 }) (show InU 1 by unfold InU; decide) (show In64 1 by unfold In64; decide) (HM.out 5 (by omega)) (by simp) hE14)).mono ?_
  rintro o w15 ⟨rfl, k15, F15, G15, -, hE15⟩
  clear hE14
  generalize hq : ({ l := _, s := _, w := _, f := _, a := _ } : Cnt) = q15 at hE15
  clear hq
  replace hE15 : Env w (LT { c := c, q := q, p := p, cc := cc, ck := 1, cs := 4, cb := 0, ch := 1, cl := 100, ce := 1, cr := 0, hs := 1, F := F15, ql := [(1, 1, 0)], kq := k15, G := G15, f := (upd f10 (5, 1, 1) 1), qc := q15, m := 6 } [boxI Y [.int .i64 1, .int .i64 0]]) w15 := hE15
  generalize hf15 : upd f10 (5, 1, 1) 1 = f15 at *
  have HF15 := Lib.hid hf15
  clear hf15
  have HP1 : Hid (∀ v, Env w (LT { c := c, q := q, p := p, cc := cc, ck := 1, cs := 4, cb := 0, ch := 1, cl := 100, ce := 1, cr := 0, hs := 1, F := F15, ql := [(1, 1, 0)], kq := k15, G := G15, f := f15, qc := q15, m := 6 } [boxI Y [.int .i64 1, .int .i64 0]]) v → Calls Tryd.prog 20 #[.pointer (some ⟨p, 0, none⟩), .agg #[.int .i64 5, .int .i64 1, .int .i64 3]] v fun e w' => e = .returned (.int .u64 9) ∧ Below v.heap.size v w') := Lib.hid fun v hv => by
    have h := peek_w 5 1 3 (by unfold Wf In64; simp) 2 3 hv rfl rfl
    dsimp only at h
    rw [show f15 (5, 1, 3) = 9 by rw [← HF15.out, ← HF10.out, ← HF9.out, ← HF8.out, ← HF7.out, ← HF5.out]; simp [upd]] at h
    exact h
  have HP2 : Hid (∀ v, Env w (LT { c := c, q := q, p := p, cc := cc, ck := 1, cs := 4, cb := 0, ch := 1, cl := 100, ce := 1, cr := 0, hs := 1, F := F15, ql := [(1, 1, 0)], kq := k15, G := G15, f := f15, qc := q15, m := 6 } [boxI Y [.int .i64 1, .int .i64 0]]) v → Calls Tryd.prog 20 #[.pointer (some ⟨p, 0, none⟩), .agg #[.int .i64 5, .int .i64 1, .int .i64 1]] v fun e w' => e = .returned (.int .u64 1) ∧ Below v.heap.size v w') := Lib.hid fun v hv => by
    have h := peek_w 5 1 1 (by unfold Wf In64; simp) 2 3 hv rfl rfl
    dsimp only at h
    rw [show f15 (5, 1, 1) = 1 by rw [← HF15.out, ← HF10.out, ← HF9.out, ← HF8.out, ← HF7.out, ← HF5.out]; simp [upd]] at h
    exact h
  have HFI : Hid (∀ v, Env w (LT { c := c, q := q, p := p, cc := cc, ck := 1, cs := 4, cb := 0, ch := 1, cl := 100, ce := 1, cr := 0, hs := 1, F := F15, ql := [(1, 1, 0)], kq := k15, G := G15, f := f15, qc := q15, m := 6 } [boxI Y [.int .i64 1, .int .i64 0]]) v → Calls Tryd.prog 23 #[.pointer (some ⟨q, 0, none⟩), .int .i64 1] v fun e w' => e = .returned (.int .i64 0) ∧ Below v.heap.size v w') := Lib.hid fun v hv => find_any (l := [(1, 1, 0)]) 1 (hv.queue 1 rfl)
  replace hE15 : Env w (LT { c := c, q := q, p := p, cc := cc, ck := 1, cs := 4, cb := 0, ch := 1, cl := 100, ce := 1, cr := 0, hs := 1, F := F15, ql := [(1, 1, 0)], kq := k15, G := G15, f := f15, qc := q15, m := 6 } [boxI Y [.int .i64 1, .int .i64 0]]) w15 := hE15
  have rY := hE15.rule 4 rfl
  go_wp2_with (first
    | (with_reducible refine (placeOf_any _ _ _).mono ?_; rintro o w16 ⟨rfl, hb⟩; replace hE15 := hE15.over hb; clear hb rY; have rY := hE15.rule 4 rfl)
    | (with_reducible refine (HP1.out _ hE15).mono ?_; rintro o w16 ⟨rfl, hb⟩; replace hE15 := hE15.over hb; clear hb rY; have rY := hE15.rule 4 rfl)
    | (with_reducible refine (HP2.out _ hE15).mono ?_; rintro o w16 ⟨rfl, hb⟩; replace hE15 := hE15.over hb; clear hb rY; have rY := hE15.rule 4 rfl)
    | (with_reducible refine (HFI.out _ hE15).mono ?_; rintro o w16 ⟨rfl, hb⟩; replace hE15 := hE15.over hb; clear hb rY; have rY := hE15.rule 4 rfl)
    | (refine (queue_c (hE15.get 0 rfl)).mono ?_; rintro o w16 ⟨rfl, rfl⟩))
  go_ret
  exact ⟨ret_bool (by simp), hE15.below⟩
end Go.Proofs.YtmifdkbpbkafjaaDoor

/- Gives of nothing. -/
namespace Go.Proofs.YtmifdkbpbkafjaaDoor
open Go.RowKit Go.Maps
set_option maxRecDepth 100000

theorem stepNil_g (u : Value) (w : World) : Calls Tryd.prog 11 #[.pointer none, u] w fun o w' => o = .returned (.int .i64 1) ∧ w' = w := by
  go_enter Tryd.func11, Tryd.ntmps11
  go_wp2
  go_ret
  exact ⟨rfl, rfl⟩
theorem givenNil_g (w : World) : Calls Tryd.prog 12 #[.pointer none] w fun o w' => o = .returned (.int .i64 0) ∧ w' = w := by
  go_enter Tryd.func12, Tryd.ntmps12
  go_wp2
  go_ret
  exact ⟨rfl, rfl⟩
theorem newNil_g (w : World) : Calls Tryd.prog 8 #[.pointer none] w fun o w' => o = .returned (.pointer none) ∧ w' = w := by
  go_enter Tryd.func8, Tryd.ntmps8
  go_wp2
  go_ret
  exact ⟨rfl, rfl⟩
end Go.Proofs.YtmifdkbpbkafjaaDoor

/- What the condition on the package's variables gives: the three fields stand in them; and that the program's own start meets it. -/
namespace Go.Proofs.YtmifdkbpbkafjaaDoor
open Go.ChangeShapes Go.WideShapes Go.ChangeAt Go.RowKit
set_option maxRecDepth 100000

section
variable {P : Program} {w : World}
theorem cell_lt {b o : Nat} {v : Value} (h : w.cell? ⟨b, o, none⟩ = some v) : b < w.heap.size := by
  rcases Nat.lt_or_ge b w.heap.size with h' | h'
  · exact h'
  · simp [World.cell?, Array.getElem?_eq_none h'] at h
/-- The head of a list of laid variables: a struct of two ints. -/
theorem laid_pair {n : String} {g : Nat} {t k : TypeId} {f0 f1 : Field} {a b : Int} {r : List (String × DataW Unit)} {ps : List MemPlace}
    (h : DataW.LaidVars P w ((n, .agg [.lit (.int .i64 a), .lit (.int .i64 b)]) :: r) ps) (hg : P.globalNamed n = some g) (ht : (P.globals[g]?).map (·.type) = some t)
    (hs : P.underlying t = some (.struct #[f0, f1])) (hc : P.cellsOf t = 2) (h0 : f0.offset = 0) (h1 : f1.offset = 1) (hk0 : f0.type = k) (hk1 : f1.type = k) (hk : P.cellsOf k = 1) (hi : P.underlying k = some (.int .i64)) :
    w.cell? ⟨g, 0, none⟩ = some (.int .i64 a) ∧ w.cell? ⟨g, 1, none⟩ = some (.int .i64 b) ∧ ∃ q, DataW.LaidVars P w r q := by
  obtain ⟨g', t', cs, fuel, p, q, hg', ht', hv, hd, hr, -⟩ := h
  obtain rfl := Option.some.inj (hg.symm.trans hg')
  obtain rfl := Option.some.inj (ht.symm.trans ht')
  obtain ⟨xs, m, -, hx, hl, hn, hel⟩ := DataW.trod_struct hs hd
  have e0 := hel 0 f0 rfl
  have e1 := hel 1 f1 rfl
  rw [h0, hk0, hk] at e0
  rw [h1, hk1, hk] at e1
  obtain ⟨l⟩ := cs
  rw [hc] at hl
  match l, hl, xs, hn, hx, e0, e1, hv with
  | [c0, c1], _, [x0, x1], _, hx, e0, e1, hv =>
    simp only [Prod.mk.injEq, List.map_cons, List.map_nil, DataW.agg.injEq, List.cons.injEq] at hx
    obtain ⟨n0, s0, y0, -⟩ := DataW.trod_int hi (show DataW.trod _ P w 0 _ false m k [c0] = some x0 from e0)
    obtain ⟨n1, s1, y1, -⟩ := DataW.trod_int hi (show DataW.trod _ P w 0 _ false m k [c1] = some x1 from e1)
    simp at s0 s1
    subst s0 s1
    have k0 := hx.1.1
    have k1 := hx.1.2.1
    rw [y0] at k0
    rw [y1] at k1
    simp at k0 k1
    subst k0 k1
    exact ⟨by rw [World.var?_cell hg hv 0]; rfl, by rw [World.var?_cell hg hv 1]; rfl, q, hr⟩
end

def laid3 : List (String × DataW Unit) := [("revenant/link.versionPart", Rows.laid_revenant_link_versionPart), ("revenant/link.slotPart", Rows.laid_revenant_link_slotPart), ("revenant/link.markPart", Rows.laid_revenant_link_markPart)]

/-- What the condition gives the walks. -/
theorem glo_of_laid {W : World} (h : laidMetH Tryd.prog laid3 W) : Glo W := by
  rw [MakeChecks.laidMetH_plain _ _ _ (by kernel_rfl)] at h
  obtain ⟨ps, h, -, -⟩ := h
  obtain ⟨a0, a1, q1, h⟩ := laid_pair (g := 1) (t := 129) (k := 3) h (by kernel_rfl) (by kernel_rfl) Tryd.underlying129 (by kernel_rfl) rfl rfl rfl rfl (by kernel_rfl) Tryd.underlying3
  obtain ⟨b0, b1, q2, h⟩ := laid_pair (g := 0) (t := 129) (k := 3) h (by kernel_rfl) (by kernel_rfl) Tryd.underlying129 (by kernel_rfl) rfl rfl rfl rfl (by kernel_rfl) Tryd.underlying3
  obtain ⟨c0, c1, q3, h⟩ := laid_pair (g := 2) (t := 129) (k := 3) h (by kernel_rfl) (by kernel_rfl) Tryd.underlying129 (by kernel_rfl) rfl rfl rfl rfl (by kernel_rfl) Tryd.underlying3
  exact ⟨⟨a0, a1⟩, ⟨b0, b1⟩, ⟨c0, c1⟩, cell_lt a0, cell_lt b0, cell_lt c0⟩

/-- The program's own start meets the condition. -/
theorem door_met (os : Os) (args : Array Value) : laidMetH Tryd.prog laid3 ((World.doorLaid Tryd.prog 24 os).forCall (fun _ _ => 0) ⟨#[], args, []⟩).memory :=
  laidMetH_of_parts3 (fuel := 8) (laidMet_of_run' 8 (by kernel_rfl) (by kernel_rfl)) (by kernel_rfl) (by kernel_rfl)
end Go.Proofs.YtmifdkbpbkafjaaDoor

namespace Go.Proofs.YtmifdkbpbkafjaaDoor.allocNil
open Go.ChangeShapes Go.WideShapes Go.ChangeAt Go.RowKit Go.Joins Go.Maps
set_option maxRecDepth 100000

set_option maxRecDepth 100000 in
set_option maxHeartbeats 6400000 in
theorem walk (k key val lv s : Int) (w : World) (hg : Glo w) :
    Calls Tryd.prog 3 #[.agg #[.int .i64 k, .int .u64 key, .int .u64 val, .int .i64 lv], .int .i64 s] w fun e w' => e = .returned (.bool true) ∧ Below w.heap.size w w' := by
  have HG := Lib.hid hg
  have HC9 := Lib.hid (show chkI 1 9 0 1 100 = 0 by decide)
  clear hg
  have hE := (Env.start w).box w.heap.size rfl [.int .i64 k, .int .u64 key, .int .u64 val, .int .i64 lv] 24
  obtain ⟨r9, hr9, hr0, hr1⟩ := cut_u1 s 9 (by decide) (by decide)
  go_enter Tryd.func3, Tryd.ntmps3
  go_wp2_with fail
  refine (awake14 _ (HG.out.keep' hE.below)).mono ?_
  rintro o w1 ⟨rfl, hb⟩
  replace hE := hE.over hb
  clear hb
  go_wp2_with fail
  refine (new_w hE).mono ?_
  rintro o w2 ⟨p, cc, rfl, hE, hb⟩
  clear hb
  have r0 := hE.rule 2 rfl
  have hcnt : ∀ x, Env w [wbox p cc, cellI cc (fun k => k = cc) (fun _ => 0) ⟨0, 0, 0, 0, 0⟩ 0, boxI w.heap.size [.int .i64 k, .int .u64 key, .int .u64 val, .int .i64 lv]] x → Calls Tryd.prog 13 #[.pointer (some ⟨p, 0, none⟩)] x fun o w' => o = .returned (.agg #[.int .i64 0, .int .i64 0, .int .i64 0, .int .i64 0, .int .i64 0]) ∧ Below x.heap.size x w' := fun x hx => count_w 0 1 hx rfl rfl
  have HCNT := Lib.hid hcnt
  clear hcnt
  go_upto_region 9 with fail
  go_wp2_with (first
    | (refine (newNil_a _ _ _ _ _).mono ?_; rintro o w8 ⟨rfl, hb⟩; replace hE := hE.over hb; clear hb r0; have r0 := hE.rule 2 rfl)
    | (refine (newNil_r _ _ _).mono ?_; rintro o w8 ⟨rfl, hb⟩; replace hE := hE.over hb; clear hb r0; have r0 := hE.rule 2 rfl)
    | (refine (newNil_g _).mono ?_; rintro o w8 ⟨rfl, rfl⟩)
    | (refine (stepNil_a _ _).mono ?_; rintro o w8 ⟨rfl, rfl⟩)
    | (refine (stepNil_r _ _).mono ?_; rintro o w8 ⟨rfl, rfl⟩)
    | (refine (stepNil_g _ _).mono ?_; rintro o w8 ⟨rfl, rfl⟩)
    | (refine (givenNil_g _).mono ?_; rintro o w8 ⟨rfl, rfl⟩)
    | (refine (HCNT.out _ hE).mono ?_; rintro o w8 ⟨rfl, hb⟩; replace hE := hE.over hb; clear hb r0; have r0 := hE.rule 2 rfl))
  clear r0 HCNT
  refine (list14 9 _).mono ?_
  rintro o w3 ⟨rfl, hb⟩
  replace hE := hE.over hb
  clear hb
  go_wp2_with fail
  refine (newYes_c 1 9 0 1 100 HC9.out hE).mono ?_
  rintro o w4 ⟨c, q, F, rfl, hE⟩
  go_wp2_with fail
  refine (holdYes_c r9 0 rfl ⟨hr0, hr1⟩ 0 hE rfl).mono ?_
  rintro o w5 ⟨rfl, hE⟩
  simp only [List.set_cons_succ, List.set_cons_zero] at hE
  have r0 := hE.rule 4 rfl
  go_wp2_with fail
  refine (newHeld_a (S := { c := c, q := q, p := p, cc := cc, ck := 1, cs := 9, cb := 0, ch := 1, cl := 100, ce := 0, cr := 0, hs := r9, F := F, ql := [], kq := 2, G := (fun k => k = cc), f := (fun _ => 0), qc := ⟨0, 0, 0, 0, 0⟩, m := 0 }) _ _ _ _ (by dsimp only; omega) hE).mono ?_
  rintro o w6 ⟨rfl, hE⟩
  clear r0
  go_wp2_with fail
  go_ret
  exact ⟨ret_bool (by simp), hE.below⟩

theorem own : ownKnob Tryd.prog.godebug = none := by kernel_rfl
theorem laidOut : laidOutB Tryd.prog = true := by kernel_rfl

set_option maxRecDepth 100000 in
theorem lifted (os : Os) (started : os.Started) (H : Type) (enc : TypeId × Value → H) :
    ReturnsInHanded {} Tryd.checked os 3 .any (fun w args => (Rows.allocNilSpec.pre enc Tryd.prog Tryd.f3 [] false w args ∧ laidMetH Tryd.prog laid3 w) ∧ sizedMet enc Tryd.prog Tryd.f3 (OpenSpec.ofChange Rows.allocNilSpec) false w args)
      (Rows.allocNilSpec.post enc Tryd.prog Tryd.f3 false true false false) := by
  refine returnsInHanded_of_change_and (C := Tryd.checked) (X := fun w _ => laidMetH Tryd.prog laid3 w) (fun _ _ _ hh h => h.of_heap hh) own started (by kernel_rfl) Tryd.func3
    (ChangeSpec.witness_shaped (enc := enc) (C := Tryd.checked) (os := os) (X := fun w _ => laidMetH Tryd.prog laid3 w) false (World.doorLaid Tryd.prog 24 os) #[.agg #[.int .i64 0, .int .u64 0, .int .u64 0, .int .i64 0], .int .i64 0] 8 rfl (World.shaped_of_RefB (by kernel_rfl) (by kernel_rfl)) (by kernel_rfl) (by kernel_rfl) (by kernel_rfl) (door_met os _)) ?_
  intro W base args ds gs before hval0 hW _ _ hL _
  have hval : ∀ (j : Nat) t v, Tryd.f3.params[j]? = some t → args[j]? = some v → Value.okWide Tryd.prog W .any base t v := hval0
  have hW' := hW
  obtain ⟨p, q, hA0, hV, rfl, hfz, hnd⟩ := hW
  have hA : DataW.TrodAll enc Tryd.prog W 0 (fun _ => true) true Tryd.f3.params.toList args.toList ds p := hA0
  rw [Tryd.params3] at hA hval
  obtain ⟨v0, vs0, d0, ds0, p0, q0, hargs, rfl, rfl, g0, r0⟩ := trodAll_cons hA
  obtain ⟨v1, vs1, d1, ds1, p1, q1, rfl, rfl, rfl, g1, r1⟩ := trodAll_cons r0
  obtain ⟨rfl, rfl, rfl⟩ := trodAll_nil r1
  obtain rfl : args = #[v0, v1] := by cases args; simp_all
  obtain ⟨rfl, rfl⟩ := trodVars_none hV
  obtain ⟨a1, rfl, rfl, rfl, w1⟩ := open_int Tryd.underlying3 (hval 1 3 v1 rfl rfl) g1
  have h1 := i64_in w1
  obtain ⟨cs0, rfl, z0, H0⟩ := open_flat (ss := [.num .i64, .num .u64, .num .u64, .num .i64]) Tryd.underlying24 (by kernel_rfl) (by kernel_rfl) ⟨Tryd.underlying3, Tryd.underlying22, Tryd.underlying22, Tryd.underlying3, trivial⟩ (hval 0 24 v0 rfl rfl) g0
  obtain ⟨l0, rfl, z0⟩ := list_of z0
  obtain ⟨x0_0, x0_1, x0_2, x0_3, rfl⟩ := list4 z0
  obtain ⟨_, e, a0_0, rfl, w0_0⟩ := H0 0 _ rfl
  obtain rfl : x0_0 = .int .i64 a0_0 := by simpa using e
  clear e
  have h0_0 := i64_in w0_0
  obtain ⟨_, e, a0_1, rfl, w0_1⟩ := H0 1 _ rfl
  obtain rfl : x0_1 = .int .u64 a0_1 := by simpa using e
  clear e
  have h0_1 := u64_in w0_1
  obtain ⟨_, e, a0_2, rfl, w0_2⟩ := H0 2 _ rfl
  obtain rfl : x0_2 = .int .u64 a0_2 := by simpa using e
  clear e
  have h0_2 := u64_in w0_2
  obtain ⟨_, e, a0_3, rfl, w0_3⟩ := H0 3 _ rfl
  obtain rfl : x0_3 = .int .i64 a0_3 := by simpa using e
  clear e
  have h0_3 := i64_in w0_3
  clear H0
  clear hA0 hval0
  have hG := glo_of_laid hL
  refine (walk a0_0 a0_1 a0_2 a0_3 a1 W hG).mono fun e W' ⟨he, hg⟩ => ?_
  subst he
  exact ⟨_, rfl, law_post laidOut (by kernel_rfl) (by kernel_rfl) Tryd.underlying4 rfl rfl hW' hg⟩

theorem over : Rows.allocNilRow.holds Tryd.pinned (OpenSpec.ofChange Rows.allocNilSpec) :=
  OpenClaim.holds_of_wide 3 Tryd.f3 rfl rfl rfl rfl rfl rfl rfl ⟨rfl, rfl, rfl, rfl, rfl⟩ rfl rfl rfl rfl rfl (by kernel_rfl) Tryd.func3 (by kernel_rfl)
    (of_decide_eq_true (by kernel_rfl)) (by unfold Func.isWrapper; first | (rw [if_pos (by decide +kernel)]; kernel_rfl) | (rw [if_neg (by decide +kernel)]; exact ⟨rfl, rfl⟩))
    (fun os started H enc _ => lifted os started H enc)

/-- THE STATEMENT. -/
theorem proved : Rows.AllocNilCardSaid :=
  Claim7.holds_tied_plain_at .later [] [.wider, .wider, .wider] true _ false
    over (fun _ h => by cases h) (by kernel_rfl) (fun _ h => by cases h) allocNil_row_tie rfl ⟨rfl, rfl⟩ (by kernel_rfl) rfl
    (fun f fn hf hfn => by
      obtain rfl : f = 3 := Option.some.inj ((show Tryd.prog.funcNamed "revenant/revenantlaw14.AllocNil" = some 3 by kernel_rfl).symm.trans hf) |>.symm
      obtain rfl : fn = Tryd.f3 := (Option.some.inj (Tryd.func3.symm.trans hfn)).symm
      exact ⟨by kernel_rfl, fun j t ht => by
        rw [Tryd.params3] at ht
        have hm : t ∈ [24, 3] := by simpa using Array.mem_of_getElem? ht
        have hall : ([24, 3].all fun u => !Tryd.prog.wantsStandIn u) = true := by kernel_rfl
        exact (show Tryd.prog.wantsStandIn t = false by simpa using List.all_eq_true.1 hall t hm)⟩)
    (by kernel_rfl)
#print axioms proved
end Go.Proofs.YtmifdkbpbkafjaaDoor.allocNil
