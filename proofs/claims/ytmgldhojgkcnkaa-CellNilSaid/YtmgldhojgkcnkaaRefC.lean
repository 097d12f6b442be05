/- The reference's words in a row: Swap, Less. -/
import Derived.Test.YtmgldhojgkcnkaaRefB
namespace Go.Proofs.Ytmgldhojgkcnkaa
open Go.RowKit Go.Maps Go.Sort

theorem IsU.over {w w' : World} {u : Nat} {F : Nat → Prop} {l : List OneR} (h : IsU w u F l) (hb : Below w.heap.size w w') : IsU w' u F l := (refI u F l).loc w w' h (fun k hk => hb.block k (h.lt k hk)) hb.size
theorem Step.of_below {w w' : World} (F : Nat → Prop) (hb : Below w.heap.size w w') : Step F F w w' := ⟨Turn.of_below hb, fun _ h => .inl h⟩

def swL (l : List OneR) (x : Plc) (o v : Int) : List OneR := if getL l x = o then setL l x v else l
set_option maxHeartbeats 1600000 in
theorem refSwap_any {u : Nat} {F : Nat → Prop} {l : List OneR} {w : World} (a b d o v : Int) (hl : l.length ≤ 1000000) (hU : IsU w u F l) :
    Calls Try.prog 27 #[.pointer (some ⟨u, 0, none⟩), .agg #[.int .i64 a, .int .i64 b, .int .i64 d], .int .u64 o, .int .u64 v] w fun e w' => e = .returned (.bool (decide (getL l (a, b, d) = o))) ∧ ∃ F', IsU w' u F' (swL l (a, b, d) o v) ∧ Step F F' w w' := by
  have hE := (Fr.start w).push w.heap.size rfl [.int .i64 a, .int .i64 b, .int .i64 d] 34
  have r := hE.rule 0 rfl
  have HU := Lib.hid hU
  go_enter Try.func27, Try.ntmps27
  go_wp2_with fail
  refine (refGet_any a b d hl (HU.out.over hE.below)).mono ?_
  rintro e w1 ⟨rfl, hb⟩
  replace hE := hE.over hb
  have hb0 := hE.below
  clear hb r
  by_cases hg : getL l (a, b, d) = o
  · have r := hE.rule 0 rfl
    have hg' : decide (getL l (a, b, d) = o) = true := by simp [hg]
    go_wp2_with fail
    refine (refSet_any a b d v hl (HU.out.over hb0)).mono ?_
    rintro e w2 ⟨rfl, F', hU2, hs⟩
    go_wp2
    go_ret
    exact ⟨by rw [hg']; rfl, F', by rw [swL, if_pos hg]; exact hU2, (Step.of_below F hb0).trans hs⟩
  · have r := hE.rule 0 rfl
    have hg' : decide (getL l (a, b, d) = o) = false := by simp [hg]
    go_wp2_with fail
    go_ret
    exact ⟨by rw [hg']; rfl, F, by rw [swL, if_neg hg]; exact HU.out.over hb0, Step.of_below F hb0⟩

set_option maxHeartbeats 1600000 in
theorem less_any (x y z a b d : Int) (w : World) :
    Calls Try.prog 31 #[.agg #[.int .i64 x, .int .i64 y, .int .i64 z], .agg #[.int .i64 a, .int .i64 b, .int .i64 d]] w fun e w' => e = .returned (.bool (ltOf cmpP (x, y, z) (a, b, d))) ∧ Below w.heap.size w w' := by
  have hE := ((Fr.start w).push w.heap.size rfl [.int .i64 x, .int .i64 y, .int .i64 z] 34).push (w.heap.size + 1) (by simp) [.int .i64 a, .int .i64 b, .int .i64 d] 34
  have r := hE.rule 0 rfl
  have r1 := hE.rule 1 rfl
  have hL : ltOf cmpP (x, y, z) (a, b, d) = if x ≠ a then decide (x < a) else if y ≠ b then decide (y < b) else decide (z < d) := by
    have h := ltP (x, y, z) (a, b, d)
    rw [Bool.eq_iff_iff, h]
    split
    · simp; omega
    · split
      · simp; omega
      · simp; omega
  rw [hL]
  go_enter Try.func31, Try.ntmps31
  by_cases h1 : x = a
  · subst h1
    by_cases h2 : y = b
    · subst h2
      go_wp2_with fail
      go_ret
      exact ⟨by simp, hE.below⟩
    · go_wp2_with fail
      go_ret
      exact ⟨by simp [h2], hE.below⟩
  · go_wp2_with fail
    go_ret
    exact ⟨by simp [h1], hE.below⟩

/-- A row appended to a row of ours: what is appended is nothing, or cells behind an address. -/
theorem run_append_rows {P : Program} (t ty : TypeId) (base : Nat) (e : TypeId) (i : TypeInfo) (z : Value) (size bytes : Nat) (ht : P.underlying t = some (.slice e)) (hi : P.info? e = some i) (hz : i.zero = some z)
    (hsize : i.size = size) (hby : i.bytes = bytes) (hzs : z.cells.size = size) (hsz : 0 < size) (w : World)
    (v : Value) (n : Nat) (xs : List Value) (hown : w.ownsRow base e size v n xs) (A : Option Addr) (m c : Nat) (news : List Value) (hl : news.length = m * size)
    (hnews : (A = none ∧ m = 0) ∨ ∃ ad, A = some ad ∧ ∀ j u, news[j]? = some u → w.cell? (ad.add j) = some u) (h1 : ∀ u ∈ news, u.oneCell' = true)
    (h63 : n + m ≤ maxLen) (hbytes : (n + m) * bytes ≤ 140737488355328) (hbase : base ≤ w.heap.size) :
    ∃ v' w', (Builtin.append_ #[t, t] ty #[v, .slice A m c]).run P w = .ok v' w' ∧ w'.ownsRow base e size v' (n + m) (xs ++ news) ∧ w.grownBy w' v.ownBlock ∧ (v'.ownBlock = v.ownBlock ∨ v'.ownBlock = some w.heap.size) := by
  rcases hnews with ⟨rfl, rfl⟩ | ⟨ad, rfl, hn⟩
  · have h0 : news = [] := List.eq_nil_of_length_eq_zero (by simpa using hl)
    subst h0
    refine ⟨v, w, ?_, by simpa using hown, ⟨rfl, rfl, rfl, Nat.le_refl _, fun _ _ _ => rfl⟩, .inl rfl⟩
    rcases hown.2 with ⟨rfl, rfl⟩ | ⟨g, cap, cur, rfl, hb, hg, hnc, hcm, hcs, htk⟩
    · simp [Builtin.append_, run_underlying ht, sizeOf, typeInfo, hi, Builtin.lenOf, Builtin.firstCells]
    · simp [Builtin.append_, run_underlying ht, sizeOf, typeInfo, hi, Builtin.lenOf, Builtin.firstCells, hnc, storeCells]
  · obtain ⟨v', w', hr, h2, h3, _, h5⟩ := run_append_own_at (P := P) w base t ty e i z size bytes ht hi hz hsize hby hzs hsz v n xs hown ad m c news hl hn h1 h63 hbytes hbase
    exact ⟨v', w', hr, h2, h3, h5⟩

theorem wpList_append_run {P : Program} {ops : Array Oper} {rest : List Oper} {o : Oper} {a : Act} {w : World} {Q : Exit → Act → World → Prop} (hgd : o.guard = none) (s x : Operand) (t : TypeId) (ho : o.op = .call { callee := .builtin .append, args := #[s, x], argTypes := #[t, t] })
    {vs vx r : Value} {w' : World} (hr : (Builtin.append_ #[t, t] o.type #[vs, vx]).run P w = .ok r w') (hs : a.eval s = vs) (hx : a.eval x = vx) (h : wpList P ops Q rest (a.put o.dst r) w') : wpList P ops Q (o :: rest) a w :=
  wpList_plain hgd fun K hK => by
    unfold Oper.wp
    rw [run_call_append s x t ho hs hx hr]
    exact hK _ _ h

theorem ownsRow_base {w : World} {b b' : Nat} {e : TypeId} {s n : Nat} {v : Value} {xs : List Value} (h : w.ownsRow b e s v n xs) (hb : b' ≤ b) : w.ownsRow b' e s v n xs :=
  ⟨h.1, h.2.imp id fun ⟨g, cap, cur, h1, h2, h3⟩ => ⟨g, cap, cur, h1, Nat.le_trans hb h2, h3⟩⟩
theorem ownsRow_slice {w : World} {b : Nat} {e : TypeId} {s n : Nat} {v : Value} {xs : List Value} (h : w.ownsRow b e s v n xs) : ∃ A c, v = .slice A n c := by
  rcases h.2 with ⟨rfl, rfl⟩ | ⟨g, cap, cur, rfl, _⟩
  · exact ⟨_, _, rfl⟩
  · exact ⟨_, _, rfl⟩
set_option maxHeartbeats 1600000 in
theorem refCopy_any {u : Nat} {F : Nat → Prop} {l : List OneR} {w : World} (hl : l.length ≤ 1000000) (hU : IsU w u F l) :
    Calls Try.prog 13 #[.pointer (some ⟨u, 0, none⟩)] w fun e w' => ∃ u' F', e = .returned (.pointer (some ⟨u', 0, none⟩)) ∧ IsU w' u' F' l ∧ Below w.heap.size w w' ∧ ∀ k, F' k → w.heap.size ≤ k := by
  obtain ⟨A, cap, hblk, hown, hsep, hF⟩ := hU.full
  have hul := hblk.1
  obtain ⟨i0, hi, hz0, hz1, hz2⟩ := info_parts infoOne
  have r : ∀ i, (w.alloc (.cells #[] 60)).cell? ⟨u, i, none⟩ = [Value.slice A l.length cap][i]? := (hblk.more _).rule
  have hown0 : (w.alloc (.cells #[] 60)).ownsRow w.heap.size 60 4 (.slice (some ⟨w.heap.size, 0, none⟩) 0 0) 0 [] := ⟨rfl, .inr ⟨w.heap.size, 0, #[], rfl, Nat.le_refl _, heap_alloc_new w _, Nat.le_refl _, Nat.zero_le _, rfl, rfl⟩⟩
  obtain ⟨v', w2, hrun, hown2, hgrow, hv'⟩ := run_append_rows (P := Try.prog) 27 27 w.heap.size 60 i0 (.agg #[.int .i64 0, .int .i64 0, .int .i64 0, .int .u64 0]) 4 32 Try.underlying27 hi hz0 hz1 hz2 rfl (by decide) _ _ 0 [] hown0 A l.length cap (flatO l) (flatO_length l)
    (by
      rcases hown.2 with ⟨hv, h0⟩ | ⟨g, cap', cur, hv, _⟩
      · left
        simp only [Value.slice.injEq] at hv
        exact ⟨hv.1, h0⟩
      · right
        simp only [Value.slice.injEq] at hv
        refine ⟨⟨g, 0, none⟩, hv.1, ?_⟩
        have := hown.alloc (.cells #[] 60)
        exact this.cells (by rw [hv.1]; rfl))
    (fun x hx => by
      obtain ⟨o, _, ho⟩ := List.mem_flatMap.1 hx
      simp [encO] at ho
      rcases ho with rfl | rfl | rfl | rfl <;> rfl) (by simp [maxLen]; omega) (by omega) (by simp)
  simp only [Nat.zero_add, List.nil_append] at hown2
  obtain ⟨A', cap', rfl⟩ := ownsRow_slice hown2
  go_enter Try.func13, Try.ntmps13
  go_wp2_with (first | (at_builtin; refine wpList_append_run rfl _ _ 27 rfl hrun rfl rfl ?_))
  go_ret
  have hsz : w.heap.size + 1 ≤ w2.heap.size := by simpa using hgrow.size
  refine ⟨w2.heap.size, fun k => k = w2.heap.size ∨ (Value.slice A' l.length cap').ownBlock = some k, rfl, ⟨_, Blk.new 0 w2 _ _, (ownsRow_base hown2 (Nat.zero_le _)).alloc _, fun e => ?_, fun k => Iff.rfl⟩, ?_, ?_⟩
  · have := (hown2.lt _ e).2
    omega
  · exact ((((Turn.refl (fun _ => False) w).alloc _).grown hgrow (fun k hk e => by cases e; exact absurd hk (Nat.lt_irrefl _))).alloc _).to_below
  · rintro k (rfl | e)
    · omega
    · exact (hown2.lt _ e).1
end Go.Proofs.Ytmgldhojgkcnkaa
