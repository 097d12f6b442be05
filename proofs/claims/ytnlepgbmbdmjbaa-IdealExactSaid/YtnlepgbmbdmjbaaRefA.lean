/- The reference's words in a row: what they are in memory; their contracts. -/
import Derived.Test.YtnlepgbmbdmjbaaCellI
import Derived.Test.YtnlepgbmbdmjbaaOwn
import Derived.Deep.AppendLies
namespace Go.Proofs.Ytnlepgbmbdmjbaa
open Go.RowKit Go.Maps
set_option maxRecDepth 100000

abbrev OneR := Plc × Int
def encO (e : OneR) : List Value := [.int .i64 e.1.1, .int .i64 e.1.2.1, .int .i64 e.1.2.2, .int .u64 e.2]
def flatO (l : List OneR) : List Value := l.flatMap encO
def getL : List OneR → Plc → Int
  | [], _ => 0
  | e :: l, x => if e.1 = x then e.2 else getL l x
def setL : List OneR → Plc → Int → List OneR
  | [], x, v => [(x, v)]
  | e :: l, x, v => if e.1 = x then (e.1, v) :: l else e :: setL l x v
theorem getL_set (x : Plc) (v : Int) : ∀ l : List OneR, getL (setL l x v) = upd (getL l) x v
  | [] => by funext y; simp only [setL, getL, upd]; split <;> split <;> simp_all
  | e :: l => by
    funext y
    by_cases h : e.1 = x
    · simp only [setL, if_pos h, getL, upd]
      by_cases hy : y = x
      · simp [hy, h]
      · have : ¬ e.1 = y := fun e' => hy (by rw [← e', h])
        simp [hy, this]
    · simp only [setL, if_neg h, getL, getL_set x v l]
      by_cases hy : e.1 = y
      · have : ¬ y = x := fun e' => h (by rw [hy, e'])
        simp [hy, upd, this]
      · simp [hy, upd]
theorem setL_keys (x : Plc) (v : Int) : ∀ l : List OneR, (setL l x v).map (·.1) = if x ∈ l.map (·.1) then l.map (·.1) else l.map (·.1) ++ [x]
  | [] => by simp [setL]
  | e :: l => by
    by_cases h : e.1 = x
    · simp [setL, h]
    · have ih := setL_keys x v l
      have h' : ¬ x = e.1 := fun e' => h e'.symm
      simp only [setL, if_neg h, List.map_cons, ih, List.mem_cons, h', false_or]
      split <;> simp
theorem setL_nodup {x : Plc} {v : Int} {l : List OneR} (h : (l.map (·.1)).Nodup) : ((setL l x v).map (·.1)).Nodup := by
  rw [setL_keys]
  split
  · exact h
  · rename_i hx
    exact List.nodup_append.2 ⟨h, by simp, fun a ha b hb e => hx (by simp at hb; rw [← hb, ← e]; exact ha)⟩
theorem setL_length (x : Plc) (v : Int) (l : List OneR) : (setL l x v).length ≤ l.length + 1 := by
  have := congrArg List.length (setL_keys x v l)
  simp only [List.length_map] at this
  rw [this]
  split <;> simp
theorem flatO_length (l : List OneR) : (flatO l).length = l.length * 4 := by
  induction l with
  | nil => rfl
  | cons x l ih => simp [flatO, encO] at *; omega
def dO : OneR := ((0, 0, 0), 0)
theorem flatO_get (l : List OneR) : ∀ (j c : Nat), j < l.length → c < 4 → (flatO l)[j * 4 + c]? = (encO (l.getD j dO))[c]? := by
  induction l with
  | nil => intro j c h; simp at h
  | cons x l ih =>
    intro j c hj hc
    have e : flatO (x :: l) = encO x ++ flatO l := by simp [flatO]
    cases j with
    | zero => rw [e, List.getElem?_append_left (by simp [encO]; omega)]; simp
    | succ j =>
      rw [e, List.getElem?_append_right (by simp [encO]; omega)]
      have := ih j c (by simpa using hj) hc
      have e2 : (j + 1) * 4 + c - (encO x).length = j * 4 + c := by simp [encO]; omega
      rw [e2, this]
      simp

/-- Block u is the reference's cells: the row l. -/
def IsU (w : World) (u : Nat) (F : Nat → Prop) (l : List OneR) : Prop :=
  ∃ v, Blk 0 w u [v] ∧ w.ownsRow 0 89 4 v l.length (flatO l) ∧ v.ownBlock ≠ some u ∧ ∀ k, F k ↔ (k = u ∨ v.ownBlock = some k)
theorem IsU.lt {w : World} {u : Nat} {F : Nat → Prop} {l : List OneR} (h : IsU w u F l) : ∀ k, F k → k < w.heap.size := by
  obtain ⟨v, hb, ho, hne, hF⟩ := h
  intro k hk
  rcases (hF k).1 hk with rfl | e
  · exact hb.1
  · exact ownsRow_lt ho k e
def refI (u : Nat) (F : Nat → Prop) (l : List OneR) : Item where
  F := F
  says := fun w => IsU w u F l
  loc := fun w1 w2 h hk hs => by
    obtain ⟨v, hb, ho, hne, hF⟩ := h
    exact ⟨v, hb.kept hs (hk u ((hF u).2 (.inl rfl))), ownsRow_kept ho fun k e => hk k ((hF k).2 (.inr e)), hne, hF⟩
/-- The slice, written out: what its cells hold. -/
theorem IsU.full {w : World} {u : Nat} {F : Nat → Prop} {l : List OneR} (h : IsU w u F l) : ∃ A cap, Blk 0 w u [Value.slice A l.length cap] ∧ w.ownsRow 0 89 4 (Value.slice A l.length cap) l.length (flatO l) ∧ (Value.slice A l.length cap).ownBlock ≠ some u ∧ ∀ k, F k ↔ (k = u ∨ (Value.slice A l.length cap).ownBlock = some k) := by
  obtain ⟨v, hb, ho, hne, hF⟩ := h
  rcases ho.2 with ⟨hv, h0⟩ | ⟨g, cap, cur, hv, rest⟩
  · have hl0 : l = [] := List.eq_nil_of_length_eq_zero h0
    subst hl0
    subst hv
    exact ⟨none, 0, hb, ho, hne, hF⟩
  · subst hv
    exact ⟨some ⟨g, 0, none⟩, cap, hb, ho, hne, hF⟩
theorem ownsRow_words {w : World} {l : List OneR} {A : Option Addr} {cap : Nat} (ho : w.ownsRow 0 89 4 (Value.slice A l.length cap) l.length (flatO l)) :
    l = [] ∨ ∃ g, A = some ⟨g, 0, none⟩ ∧ g < w.heap.size ∧ ∀ j, j < l.length → w.cell? ⟨g, j * 4, none⟩ = some (.int .i64 (l.getD j dO).1.1) ∧ w.cell? ⟨g, j * 4 + 1, none⟩ = some (.int .i64 (l.getD j dO).1.2.1) ∧
      w.cell? ⟨g, j * 4 + 2, none⟩ = some (.int .i64 (l.getD j dO).1.2.2) ∧ w.cell? ⟨g, j * 4 + 3, none⟩ = some (.int .u64 (l.getD j dO).2) := by
  rcases ho.2 with ⟨hv, h0⟩ | ⟨g, cap', cur, hv, _, hg, hn, hc, hcs, htk⟩
  · exact .inl (List.eq_nil_of_length_eq_zero h0)
  · simp only [Value.slice.injEq] at hv
    obtain ⟨rfl, -, rfl⟩ := hv
    refine .inr ⟨g, rfl, (Array.getElem?_eq_some_iff.1 hg).1, fun j hj => ?_⟩
    have each : ∀ c, c < 4 → w.cell? ⟨g, j * 4 + c, none⟩ = (encO (l.getD j dO))[c]? := fun c hc4 => by
      rw [← flatO_get l j c hj hc4, ← htk, List.getElem?_take_of_lt (by omega)]
      simp [World.cell?, hg]
    exact ⟨each 0 (by omega), each 1 (by omega), each 2 (by omega), each 3 (by omega)⟩
theorem IsU.row {w : World} {u : Nat} {F : Nat → Prop} {l : List OneR} (h : IsU w u F l) : ∃ A cap, (∀ i, w.cell? ⟨u, i, none⟩ = [Value.slice A l.length cap][i]?) ∧ u < w.heap.size ∧
    (l = [] ∨ ∃ g, A = some ⟨g, 0, none⟩ ∧ g < w.heap.size ∧ ∀ j, j < l.length → w.cell? ⟨g, j * 4, none⟩ = some (.int .i64 (l.getD j dO).1.1) ∧ w.cell? ⟨g, j * 4 + 1, none⟩ = some (.int .i64 (l.getD j dO).1.2.1) ∧
      w.cell? ⟨g, j * 4 + 2, none⟩ = some (.int .i64 (l.getD j dO).1.2.2) ∧ w.cell? ⟨g, j * 4 + 3, none⟩ = some (.int .u64 (l.getD j dO).2)) := by
  obtain ⟨A, cap, hb, ho, hne, hF⟩ := h.full
  exact ⟨A, cap, hb.rule, hb.1, ownsRow_words ho⟩

set_option maxHeartbeats 1600000 in
theorem refGet_at {u o : Nat} {vs : List Value} {A : Option Addr} {cap : Nat} {l : List OneR} {w : World} (a b d : Int) (hl : l.length ≤ 1000000) (hb : Blk 0 w u vs) (hvo : vs[o]? = some (.slice A l.length cap)) (hown : w.ownsRow 0 89 4 (.slice A l.length cap) l.length (flatO l)) :
    Calls Try.prog 32 #[.pointer (some ⟨u, o, none⟩), .agg #[.int .i64 a, .int .i64 b, .int .i64 d]] w fun e w' => e = .returned (.int .u64 (getL l (a, b, d))) ∧ Below w.heap.size w w' := by
  have hrow := ownsRow_words hown
  have r0 : w.cell? ⟨u, o, none⟩ = some (.slice A l.length cap) := by rw [hb.rule o, hvo]
  have hul := hb.1
  have hE := (Fr.start w).push w.heap.size rfl [.int .i64 a, .int .i64 b, .int .i64 d] 39
  have HROW := Lib.hid hrow
  have HR0 := Lib.hid r0
  clear hrow r0 hb hvo hown
  go_enter Try.func32, Try.ntmps32
  go_wp2_with fail
  go_loopw [5] (fun i wr => ∃ k : Nat, k ≤ l.length ∧ i = .int .i64 k ∧ getL l (a, b, d) = getL (l.drop k) (a, b, d) ∧ Fr w [(w.heap.size, [.int .i64 a, .int .i64 b, .int .i64 d])] wr) (fun i _ => l.length - (intOf i).toNat)
  case atStart => exact ⟨0, by omega, rfl, rfl, hE⟩
  case round =>
    obtain ⟨k, hk, rfl, hg, hEr⟩ := hrel
    clear hE
    have hB : ∀ w', Below w.heap.size w w' → w'.cell? ⟨u, o, none⟩ = some (.slice A l.length cap) := fun w' hb => by rw [hb.cell (p := ⟨u, o, none⟩) hul]; exact HR0.out
    have ru := hB _ hEr.below
    by_cases hlt : k < l.length
    · rcases HROW.out with h0 | ⟨g, rfl, hgl, hc⟩
      · rw [h0] at hlt; simp at hlt
      obtain ⟨c0, c1, c2, c3⟩ := hc k hlt
      have hdrop : l.drop k = l.getD k dO :: l.drop (k + 1) := by
        rw [List.drop_eq_getElem_cons hlt]; simp [hlt]
      rw [hdrop] at hg
      clear hdrop hc
      generalize l.getD k dO = o at *
      obtain ⟨⟨x, y, z⟩, v⟩ := o
      simp only at c0 c1 c2 c3
      have HC : Hid (∀ w', Below w.heap.size w w' → (w'.cell? ⟨g, k * 4, none⟩ = some (.int .i64 x) ∧ w'.cell? ⟨g, k * 4 + 1, none⟩ = some (.int .i64 y) ∧ w'.cell? ⟨g, k * 4 + 2, none⟩ = some (.int .i64 z) ∧ w'.cell? ⟨g, k * 4 + 3, none⟩ = some (.int .u64 v))) := Lib.hid fun w' hb => by
        refine ⟨?_, ?_, ?_, ?_⟩
        · rw [hb.cell (p := ⟨g, k * 4, none⟩) hgl]; exact c0
        · rw [hb.cell (p := ⟨g, k * 4 + 1, none⟩) hgl]; exact c1
        · rw [hb.cell (p := ⟨g, k * 4 + 2, none⟩) hgl]; exact c2
        · rw [hb.cell (p := ⟨g, k * 4 + 3, none⟩) hgl]; exact c3
      clear c0 c1 c2 c3
      have HG := Lib.hid hg
      have HB := Lib.hid hB
      clear hg hB
      go_wp2_with fail
      refine Ord.wp_chain [] (fun w' => Fr w [(w.heap.size, [.int .i64 a, .int .i64 b, .int .i64 d])] w') (fun _ _ => True) (by kernel_rfl) (by kernel_rfl) (by kernel_rfl) hEr.drew trivial (fun hT => ?_)
      have hT9 := Lib.hid hT
      clear hT
      repeat (first
        | (refine Ord.ch_value (v := ?_) hT9.out (by decide) (by rfl) ?_ ?_; rotate_left; (focus (intro w5 hS; have r := hS.rule 0 rfl; have r1 := HB.out _ hS.below; obtain ⟨c0, c1, c2, c3⟩ := HC.out _ hS.below; go_simp <;> with_reducible rfl)); (try simp only [Act.put, List.setIfInBounds_toArray, List.set_cons_zero, List.set_cons_succ]))
        | (refine Ord.ch_off hT9.out (by decide) (by rfl) ?_; (try simp only [Act.put, List.setIfInBounds_toArray, List.set_cons_zero, List.set_cons_succ])))
      refine Ord.ch_value (v := .bool (decide ((x, y, z) = (a, b, d)))) hT9.out (by decide) (by rfl) ?_ ?_
      · intro w5 hS
        clear hS HC HB HG HROW HR0
        by_cases e1 : x = a <;> by_cases e2 : y = b <;> by_cases e3 : z = d <;> simp [e1, e2, e3] <;> go_simp
      (try simp only [Act.put, List.setIfInBounds_toArray, List.set_cons_zero, List.set_cons_succ])
      refine Ord.InText.nil fun w5 hS => ?_
      clear hT9
      obtain ⟨hEr, hC⟩ := Ord.chain_end hS
      clear hS
      clear hC
      have r := hEr.rule 0 rfl
      have r1 := HB.out _ hEr.below
      obtain ⟨c0, c1, c2, c3⟩ := HC.out _ hEr.below
      by_cases hp : (x, y, z) = (a, b, d)
      · rw [decide_eq_true hp]
        go_wp2_with fail
        go_ret
        exact ⟨by rw [HG.out]; simp [getL, hp], hEr.below⟩
      · rw [decide_eq_false hp]
        go_wp2_with fail
        exact ⟨⟨k + 1, by omega, rfl, by rw [HG.out]; simp [getL, hp], hEr⟩, by simp [intOf]; omega⟩
    · go_wp2_with fail
      have : k = l.length := by omega
      subst this
      go_ret
      exact ⟨by rw [hg]; simp [getL], hEr.below⟩
theorem refGet_any {u : Nat} {F : Nat → Prop} {l : List OneR} {w : World} (a b d : Int) (hl : l.length ≤ 1000000) (hU : IsU w u F l) :
    Calls Try.prog 32 #[.pointer (some ⟨u, 0, none⟩), .agg #[.int .i64 a, .int .i64 b, .int .i64 d]] w fun e w' => e = .returned (.int .u64 (getL l (a, b, d))) ∧ Below w.heap.size w w' := by
  obtain ⟨A, cap, hb, ho, _, _⟩ := hU.full
  exact refGet_at a b d hl hb rfl ho
end Go.Proofs.Ytnlepgbmbdmjbaa
