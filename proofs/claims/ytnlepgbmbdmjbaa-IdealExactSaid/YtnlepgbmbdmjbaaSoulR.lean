/- The reference's souls: births in a row: Born, All, Now. -/
import Derived.Test.YtnlepgbmbdmjbaaSoulM
import Derived.Test.YtnlepgbmbdmjbaaOwn
import Derived.Test.YtnlepgbmbdmjbaaSeq
import Derived.LoopN
namespace Go.Proofs.Ytnlepgbmbdmjbaa
open Go.RowKit
set_option maxRecDepth 100000

/-- Block u is the reference's souls: the row l. -/
def IsR (w : World) (u : Nat) (F : Nat → Prop) (l : List Int) : Prop :=
  ∃ v, Blk 0 w u [v] ∧ w.ownsRow 0 3 1 v l.length (ints l) ∧ v.ownBlock ≠ some u ∧ ∀ k, F k ↔ (k = u ∨ v.ownBlock = some k)
section
variable {w w' : World} {u : Nat} {F : Nat → Prop} {l : List Int}
theorem IsR.lt (h : IsR w u F l) : ∀ k, F k → k < w.heap.size := by
  obtain ⟨v, hb, ho, hne, hF⟩ := h
  intro k hk
  rcases (hF k).1 hk with rfl | e
  · exact hb.1
  · exact ownsRow_lt ho k e
theorem IsR.loc (h : IsR w u F l) (hk : ∀ k, F k → w'.heap[k]? = w.heap[k]?) (hs : w.heap.size ≤ w'.heap.size) : IsR w' u F l := by
  obtain ⟨v, hb, ho, hne, hF⟩ := h
  exact ⟨v, hb.kept hs (hk u ((hF u).2 (.inl rfl))), ownsRow_kept ho fun k e => hk k ((hF k).2 (.inr e)), hne, hF⟩
theorem IsR.over (h : IsR w u F l) (hb : Below w.heap.size w w') : IsR w' u F l := h.loc (fun k hk => hb.block k (h.lt k hk)) hb.size
def rowRI (u : Nat) (F : Nat → Prop) (l : List Int) : Item where
  F := F
  says := fun w => IsR w u F l
  loc := fun _ _ h hk hs => h.loc hk hs
theorem IsR.laid (h : IsR w u F l) : ∃ A cap, Blk 0 w u [Value.slice A l.length cap] ∧ w.ownsRow 0 3 1 (.slice A l.length cap) l.length (ints l) ∧ (Value.slice A l.length cap).ownBlock ≠ some u ∧ ∀ k, F k ↔ (k = u ∨ (Value.slice A l.length cap).ownBlock = some k) := by
  obtain ⟨v, hb, ho, hne, hF⟩ := h
  obtain ⟨A, cap, rfl⟩ := ownsRow_slice ho
  exact ⟨A, cap, hb, ho, hne, hF⟩
theorem IsR.full (h : IsR w u F l) : ∃ A cap, (∀ i, w.cell? ⟨u, i, none⟩ = [Value.slice A l.length cap][i]?) ∧ u < w.heap.size ∧ Cells1 w A l := by
  obtain ⟨v, hb, ho, hne, hF⟩ := h
  obtain ⟨A, cap, rfl⟩ := ownsRow_slice ho
  exact ⟨A, cap, hb.rule, hb.1, cells1 ho⟩
/-- A row that has been boxed. -/
theorem IsR.new (w : World) : IsR (w.alloc (.cells #[.slice none 0 0] 32)) w.heap.size (fun k => k = w.heap.size) [] :=
  ⟨.slice none 0 0, Blk.new 0 w [.slice none 0 0] _, World.ownsRow_nil _ _ _ _, by simp [Value.ownBlock], fun k => by simp [Value.ownBlock]⟩
end

set_option maxHeartbeats 800000 in
theorem rborn_low {u : Nat} {o : Nat} {w : World} (x : Int) (hx : x < 1) :
    Calls Try.prog 35 #[.pointer (some ⟨u, o, none⟩), .int .i64 x] w fun e w' => e = .returned (.int .i64 0) ∧ w' = w := by
  have hb : decide (x < 1) = true := by simp [hx]
  go_enter Try.func35, Try.ntmps35
  go_wp2
  go_ret
  exact ⟨rfl, rfl⟩

set_option maxHeartbeats 1600000 in
theorem rborn_at {u o : Nat} {vs : List Value} {A : Option Addr} {c : Nat} {l : List Int} {w : World} (x : Int) (h1 : 1 ≤ x) (hl : l.length ≤ 100000) (hb : Blk 0 w u vs) (hvo : vs[o]? = some (.slice A l.length c)) (ho : w.ownsRow 0 3 1 (.slice A l.length c) l.length (ints l)) (hne : (Value.slice A l.length c).ownBlock ≠ some u) :
    Calls Try.prog 35 #[.pointer (some ⟨u, o, none⟩), .int .i64 x] w fun e w' => e = .returned (.int .i64 ((l.length : Int) + 1)) ∧ ∃ A' c', Blk 0 w' u (vs.set o (.slice A' (l ++ [x]).length c')) ∧ w'.ownsRow 0 3 1 (.slice A' (l ++ [x]).length c') (l ++ [x]).length (ints (l ++ [x])) ∧
      Turn (fun k => k = u ∨ (Value.slice A l.length c).ownBlock = some k) w w' ∧ ∀ k, (Value.slice A' (l ++ [x]).length c').ownBlock = some k → (Value.slice A l.length c).ownBlock = some k ∨ w.heap.size ≤ k := by
  have hol : o < vs.length := (List.getElem?_eq_some_iff.1 hvo).1
  obtain ⟨i0, hi0, hz0, hz1, hz2⟩ := info_parts infoInt
  obtain ⟨g, cap, W2, hrun, ho2, hgr, hg, hgl⟩ := run_append_lies (P := Try.prog) (w.alloc (.cells #[.int .i64 x] 3)) 30 30 0 3 i0 (.int .i64 0) 1 8 Try.underlying30 hi0 hz0 hz1 hz2 rfl (by decide) _ l.length (ints l) (ho.alloc _)
    ⟨w.heap.size, 0, none⟩ 1 1 [.int .i64 x] rfl (cells_new _ _ _) (by simp [Value.oneCell']) (by omega) (by simp [maxLen]; omega) (by omega) (by simp) _ rfl
  have t2 : Turn (fun k => (Value.slice A l.length c).ownBlock = some k) w W2 := ((Turn.refl _ w).alloc _).grown hgr fun k _ e => e
  have hg' : (Value.slice A l.length c).ownBlock = some g ∨ w.heap.size ≤ g := by
    rcases hg with h | h
    · exact .inl h
    · right; rw [h]; simp
  have hul := hb.1
  have hgu : g ≠ u := by
    rintro rfl
    rcases hg' with h | h
    · exact hne h
    · omega
  have hb2 : Blk 0 W2 u vs := hb.kept t2.size (t2.block u hul hne)
  have r0 : w.cell? ⟨u, o, none⟩ = some (.slice A l.length c) := by rw [hb.rule o, hvo]
  have r2 : W2.cell? ⟨u, o, none⟩ = some (.slice A l.length c) := by rw [hb2.rule o, hvo]
  have z2 := hb2.thaw o hol
  have hu2 := hb2.1
  have hx1 : decide (x < 1) = false := by simp; omega
  have hb3 := hb2.set (i := o) hol (.slice (some ⟨g, 0, none⟩) (l.length + 1) cap)
  have hEND : Hid (∃ A' c', Blk 0 (W2.setCell ⟨u, o, none⟩ (.slice (some ⟨g, 0, none⟩) (l.length + 1) cap)) u (vs.set o (.slice A' (l ++ [x]).length c')) ∧ (W2.setCell ⟨u, o, none⟩ (.slice (some ⟨g, 0, none⟩) (l.length + 1) cap)).ownsRow 0 3 1 (.slice A' (l ++ [x]).length c') (l ++ [x]).length (ints (l ++ [x])) ∧
      Turn (fun k => k = u ∨ (Value.slice A l.length c).ownBlock = some k) w (W2.setCell ⟨u, o, none⟩ (.slice (some ⟨g, 0, none⟩) (l.length + 1) cap)) ∧ ∀ k, (Value.slice A' (l ++ [x]).length c').ownBlock = some k → (Value.slice A l.length c).ownBlock = some k ∨ w.heap.size ≤ k) := by
    refine Lib.hid ⟨some ⟨g, 0, none⟩, cap, by rw [List.length_append]; exact hb3, ?_, (t2.mono (T' := fun k => k = u ∨ (Value.slice A l.length c).ownBlock = some k) fun k _ e => .inr e).setCell (p := ⟨u, o, none⟩) (fun _ => .inl rfl) _, fun k e => ?_⟩
    · rw [List.length_append, ints_append]
      exact ownsRow_setCell_other ho2 (by simp [Value.ownBlock, hgu]) _
    · have : k = g := by simpa [Value.ownBlock, eq_comm] using e
      subst this
      exact hg'
  have HRUN := Lib.hid hrun
  clear ho hne hvo ho2 hgr hg t2 hg' hrun hb hb2 hb3
  go_enter Try.func35, Try.ntmps35
  go_wp2_with (first | (at_builtin; refine wpList_append_run rfl _ _ 30 rfl HRUN.out rfl rfl ?_))
  go_ret
  exact ⟨ret_int (by simp), hEND.out⟩

theorem rborn_any {u : Nat} {F : Nat → Prop} {l : List Int} {w : World} (x : Int) (h1 : 1 ≤ x) (hl : l.length ≤ 100000) (hR : IsR w u F l) :
    Calls Try.prog 35 #[.pointer (some ⟨u, 0, none⟩), .int .i64 x] w fun e w' => e = .returned (.int .i64 ((l.length : Int) + 1)) ∧ ∃ F', IsR w' u F' (l ++ [x]) ∧ Step F F' w w' := by
  obtain ⟨A, c, hb, ho, hne, hF⟩ := hR.laid
  refine (rborn_at x h1 hl hb rfl ho hne).mono ?_
  rintro e w' ⟨he, A', c', h2, h3, h4, h5⟩
  have hu : u < w.heap.size := hb.1
  refine ⟨he, fun k => k = u ∨ (Value.slice A' (l ++ [x]).length c').ownBlock = some k, ⟨_, h2, h3, fun e => ?_, fun k => Iff.rfl⟩, h4.mono fun k _ e => (hF k).2 e, fun k hk => ?_⟩
  · rcases h5 u e with h | h
    · exact hne h
    · omega
  · rcases hk with rfl | hk
    · exact .inl ((hF _).2 (.inl rfl))
    · rcases h5 k hk with h | h
      · exact .inl ((hF _).2 (.inr h))
      · exact .inr h

theorem ids_take {l : List Int} {k : Nat} (hk : k < l.length) (x : Int) : ids (l.take (k + 1)) x = ids (l.take k) x ++ (if l.getD k 0 = x then [(k : Int) + 1] else []) := by
  rw [List.take_succ_eq_append_getElem hk, ids_snoc]
  have e : l.getD k 0 = l[k] := by simp [hk]
  rw [e, List.length_take, Nat.min_eq_left (Nat.le_of_lt hk)]

set_option maxRecDepth 100000 in
set_option maxHeartbeats 1600000 in
theorem rall_at {u o : Nat} {vs : List Value} {A : Option Addr} {c : Nat} {l : List Int} {w : World} (x : Int) (hl : l.length ≤ 100000) (hb : Blk 0 w u vs) (hvo : vs[o]? = some (.slice A l.length c)) (ho : w.ownsRow 0 3 1 (.slice A l.length c) l.length (ints l)) :
    Calls Try.prog 49 #[.pointer (some ⟨u, o, none⟩), .int .i64 x] w fun e w' => ∃ g cap, e = .returned (.slice (some ⟨g, 0, none⟩) (ids l x).length cap) ∧ w'.ownsRow w.heap.size 3 1 (.slice (some ⟨g, 0, none⟩) (ids l x).length cap) (ids l x).length (ints (ids l x)) ∧ Below w.heap.size w w' := by
  have r0 : w.cell? ⟨u, o, none⟩ = some (.slice A l.length c) := by rw [hb.rule o, hvo]
  have hul := hb.1
  have hrow := cells1 ho
  have HROW := Lib.hid hrow
  have HB : Hid (∀ w', Below w.heap.size w w' → w'.cell? ⟨u, o, none⟩ = some (.slice A l.length c)) := Lib.hid fun w' hb => by rw [hb.cell (p := ⟨u, o, none⟩) hul]; exact r0
  have hE := (Env.start w).addEmpty w.heap.size rfl
  clear hrow r0 hb hvo ho
  go_enter Try.func49, Try.ntmps49
  go_wp2_with fail
  go_loopw [5, 6] (fun v i wr => ∃ (k g cap : Nat), k ≤ l.length ∧ i = .int .i64 k ∧ v = .slice (some ⟨g, 0, none⟩) (ids (l.take k) x).length cap ∧ Env w [intsI (.slice (some ⟨g, 0, none⟩) (ids (l.take k) x).length cap) (ids (l.take k) x)] wr) (fun _ i _ => l.length - (intOf i).toNat)
  case atStart => exact ⟨0, w.heap.size, 0, by omega, rfl, rfl, hE⟩
  case round =>
    obtain ⟨k, g, cap, hk, rfl, rfl, hEr⟩ := hrel
    clear hE
    have ru := HB.out _ hEr.below
    by_cases hlt : k < l.length
    · rcases HROW.out with h0 | ⟨g0, rfl, hgl, hc⟩
      · rw [h0] at hlt; simp at hlt
      have hck : wr.cell? ⟨g0, k, none⟩ = some (.int .i64 (l.getD k 0)) := by rw [hEr.below.cell (p := ⟨g0, k, none⟩) hgl]; exact hc k hlt
      have HT := Lib.hid (ids_take hlt x)
      have hlen : (ids (l.take k) x).length ≤ k := by have := ids_length_le (l.take k) x; simp at this; omega
      obtain ⟨m1, hm1⟩ : ∃ m1, ids (l.take (k + 1)) x = m1 := ⟨_, rfl⟩
      rw [hm1] at HT
      have HM1 := Lib.hid hm1
      clear hc hm1
      generalize l.getD k 0 = z at *
      by_cases hz : z = x
      · subst hz
        obtain ⟨g1, cap1, w1, hrun, hE1, hst⟩ := hEr.append1 0 rfl ((k : Int) + 1) (by omega) wr.heap.size rfl
        have HRUN := Lib.hid hrun
        have hw : wrap64 ((k : Int) + 1) = (k : Int) + 1 := w64 _ (by omega)
        have hT := HT.out
        rw [if_pos rfl] at hT
        clear hrun hst
        go_wp2_with (first | (at_builtin; refine wpList_append_run rfl _ _ 30 rfl HRUN.out rfl rfl ?_))
        exact ⟨⟨k + 1, g1, cap1, by omega, by simp, by rw [HM1.out, hT]; simp, by rw [HM1.out, hT]; simpa using hE1⟩, by simp [intOf]; omega⟩
      · have hb : (z == x) = false := by simpa using hz
        have hT := HT.out
        rw [if_neg hz, List.append_nil] at hT
        clear hz
        go_wp2_with fail
        exact ⟨⟨k + 1, g, cap, by omega, by simp, by rw [HM1.out, hT], by rw [HM1.out, hT]; exact hEr⟩, by simp [intOf]; omega⟩
    · have hke : k = l.length := by omega
      subst hke
      rw [List.take_length] at hEr ⊢
      go_wp2_with fail
      go_ret
      refine ⟨g, cap, rfl, ?_, hEr.below⟩
      have h0 := hEr.row 0 rfl
      have hge := ((hEr.2.2 _ (List.mem_singleton.2 rfl)).2 g rfl).1
      refine ⟨h0.1, h0.2.imp id fun ⟨g', c', cur, h1, _, h3⟩ => ?_⟩
      simp only [Value.slice.injEq, Option.some.injEq, Addr.mk.injEq, and_true, true_and] at h1
      obtain ⟨rfl, rfl⟩ := h1
      exact ⟨g, cap, cur, rfl, hge, h3⟩

theorem rall_any {u : Nat} {F : Nat → Prop} {l : List Int} {w : World} (x : Int) (hl : l.length ≤ 100000) (hR : IsR w u F l) :
    Calls Try.prog 49 #[.pointer (some ⟨u, 0, none⟩), .int .i64 x] w fun e w' => ∃ g cap, e = .returned (.slice (some ⟨g, 0, none⟩) (ids l x).length cap) ∧ w'.ownsRow w.heap.size 3 1 (.slice (some ⟨g, 0, none⟩) (ids l x).length cap) (ids l x).length (ints (ids l x)) ∧ Below w.heap.size w w' := by
  obtain ⟨A, c, hb, ho, _, _⟩ := hR.laid
  exact rall_at x hl hb rfl ho

set_option maxHeartbeats 1600000 in
theorem rnow_at {u o : Nat} {vs : List Value} {A : Option Addr} {c : Nat} {l : List Int} {w : World} (x : Int) (hl : l.length ≤ 100000) (hb : Blk 0 w u vs) (hvo : vs[o]? = some (.slice A l.length c)) (ho : w.ownsRow 0 3 1 (.slice A l.length c) l.length (ints l)) :
    Calls Try.prog 36 #[.pointer (some ⟨u, o, none⟩), .int .i64 x] w fun e w' => e = .returned (.int .i64 (nowL l x)) ∧ Below w.heap.size w w' := by
  have c0 := rall_at x hl hb hvo ho
  have hidl := ids_length_le l x
  have hnow : nowL l x = (ids l x).getLastD 0 := rfl
  rw [hnow]
  generalize ids l x = m at c0 hidl hnow ⊢
  go_enter Try.func36, Try.ntmps36
  go_wp2_with fail
  refine c0.mono ?_
  rintro e w1 ⟨g, cap, rfl, ho1, hb1⟩
  have hc := cells1 ho1
  clear c0 ho1 hnow hvo ho hb
  by_cases h0 : m.length = 0
  · have hm : m = [] := List.eq_nil_of_length_eq_zero h0
    subst hm
    go_wp2
    go_ret
    exact ⟨rfl, hb1⟩
  · rcases hc with rfl | ⟨g', hgg, hg, hc⟩
    · simp at h0
    obtain rfl : g = g' := by simpa using hgg
    have hlast := hc (m.length - 1) (by omega)
    have e1 : m.getLastD 0 = m.getD (m.length - 1) 0 := by
      rcases m with _ | ⟨a, m⟩
      · simp at h0
      · rw [List.getLastD_cons]
        simp [List.getD, List.getLastD_eq_getLast?, List.getLast?_eq_getElem?]
        cases m <;> simp
    have E1 := Lib.hid e1
    clear e1
    generalize m.getD (m.length - 1) 0 = z at *
    have hb0 : ((m.length : Int) == 0) = false := by rw [beq_eq_false_iff_ne]; omega
    have hw : wrap64 ((m.length : Int) - 1) = ((m.length - 1 : Nat) : Int) := by rw [w64 _ (by omega)]; omega
    have hin : (0 : Int) ≤ ((m.length - 1 : Nat) : Int) ∧ ((m.length - 1 : Nat) : Int) < m.length := by omega
    clear hc
    go_wp2
    go_ret
    exact ⟨ret_int E1.out.symm, hb1⟩
theorem rnow_any {u : Nat} {F : Nat → Prop} {l : List Int} {w : World} (x : Int) (hl : l.length ≤ 100000) (hR : IsR w u F l) :
    Calls Try.prog 36 #[.pointer (some ⟨u, 0, none⟩), .int .i64 x] w fun e w' => e = .returned (.int .i64 (nowL l x)) ∧ Below w.heap.size w w' := by
  obtain ⟨A, c, hb, ho, _, _⟩ := hR.laid
  exact rnow_at x hl hb rfl ho
end Go.Proofs.Ytnlepgbmbdmjbaa
