/- MixHalves: of every key, and number of buckets up to 32, a key's bucket of twice as many is twice its bucket, or one more: so the law answers true, for every input, without a condition. -/
import Derived.Test.YtnopnnjkabkbaaaF1
import Derived.WalkKit
import Derived.ProofKit
import Derived.OpenShut
import Derived.Test.YtnopnnjkabkbaaaRows

/- Structs of three ints: what their cells hold; rows of them that a call reads, its own, blocks of them, new ones. General. -/
namespace Go.Proofs.Ytnopnnjkabkbaaa
open Go.RowKit Go.Maps Go.Deep
set_option maxRecDepth 100000

abbrev Trip := Int × Int × Int
def enc3 (x : Trip) : List Value := [.int .i64 x.1, .int .i64 x.2.1, .int .i64 x.2.2]
def tv (x : Trip) : Value := .agg #[.int .i64 x.1, .int .i64 x.2.1, .int .i64 x.2.2]
def t0 : Trip := (0, 0, 0)
theorem t0_default : (default : Trip) = t0 := rfl
def flat3 (l : List Trip) : List Value := l.flatMap enc3
theorem flat3_length (l : List Trip) : (flat3 l).length = l.length * 3 := by
  induction l with
  | nil => rfl
  | cons x l ih => simp [flat3, enc3] at *; omega
theorem flat3_append (l m : List Trip) : flat3 (l ++ m) = flat3 l ++ flat3 m := by simp [flat3]
theorem flat3_get (l : List Trip) : ∀ (j c : Nat), j < l.length → c < 3 → (flat3 l)[j * 3 + c]? = (enc3 (l.getD j t0))[c]? := by
  induction l with
  | nil => intro j c h; simp at h
  | cons x l ih =>
    intro j c hj hc
    have e : flat3 (x :: l) = enc3 x ++ flat3 l := by simp [flat3]
    cases j with
    | zero => rw [e, List.getElem?_append_left (by simp [enc3]; omega)]; simp
    | succ j =>
      rw [e, List.getElem?_append_right (by simp [enc3]; omega)]
      have := ih j c (by simpa using hj) hc
      have e2 : (j + 1) * 3 + c - (enc3 x).length = j * 3 + c := by simp [enc3]; omega
      rw [e2, this]
      simp
theorem flat3_set (x : Trip) : ∀ (l : List Trip) (k : Nat), k < l.length → flat3 (l.set k x) = (((flat3 l).set (k * 3) (.int .i64 x.1)).set (k * 3 + 1) (.int .i64 x.2.1)).set (k * 3 + 2) (.int .i64 x.2.2)
  | [], k, h => by simp at h
  | y :: l, k, h => by
    have e : ∀ (z : Trip) (m : List Trip), flat3 (z :: m) = .int .i64 z.1 :: .int .i64 z.2.1 :: .int .i64 z.2.2 :: flat3 m := fun z m => by simp [flat3, enc3]
    cases k with
    | zero => simp [e]
    | succ k =>
      have ih := flat3_set x l k (by simpa using h)
      rw [List.set_cons_succ, e, e, ih]
      rw [show (k + 1) * 3 = k * 3 + 3 by omega]
      simp
theorem flat3_zero (n : Nat) : flat3 (List.replicate n t0) = List.replicate (n * 3) (.int .i64 0) := by
  induction n with
  | zero => rfl
  | succ n ih =>
    have e : flat3 (List.replicate (n + 1) t0) = enc3 t0 ++ flat3 (List.replicate n t0) := by simp [flat3, List.replicate_succ]
    rw [e, ih, show (n + 1) * 3 = n * 3 + 3 by omega]
    simp [enc3, t0, List.replicate_succ]

/-! ### rows that are read -/
theorem at3 {w : World} {b o : Nat} {x y z : Int} (h : CellsAt w b o (enc3 (x, y, z))) : w.cell? ⟨b, o, none⟩ = some (.int .i64 x) ∧ w.cell? ⟨b, o + 1, none⟩ = some (.int .i64 y) ∧ w.cell? ⟨b, o + 2, none⟩ = some (.int .i64 z) :=
  ⟨h 0 _ rfl, h 1 _ rfl, h 2 _ rfl⟩
/-- A row of such, wherever it lies. -/
abbrev Row3 (w : World) (A : Option Addr) (xs : List Trip) : Prop := RowX enc3 3 w A xs
/-- Its block. -/
def In3 (A : Option Addr) (k : Nat) : Prop := ∃ off, A = some ⟨k, off, none⟩
theorem CellsAt.kept {w w' : World} {b o : Nat} {vs : List Value} (h : CellsAt w b o vs) (hb : w'.heap[b]? = w.heap[b]?) : CellsAt w' b o vs := fun j v e => by
  rw [World.cell?_of_block (w := w) hb]; exact h j v e
theorem Row3.kept {w w' : World} {A : Option Addr} {xs : List Trip} (h : Row3 w A xs) (hk : ∀ k, In3 A k → w'.heap[k]? = w.heap[k]?) (hs : w.heap.size ≤ w'.heap.size) : Row3 w' A xs := by
  rcases h with h | ⟨b, off, rfl, hl, hc⟩
  · exact .inl h
  · exact .inr ⟨b, off, rfl, Nat.lt_of_lt_of_le hl hs, fun i hi => (hc i hi).kept (hk b ⟨off, rfl⟩)⟩
theorem Blk.row3 {w : World} {g : Nat} {l : List Trip} (h : Blk 0 w g (flat3 l)) : Row3 w (some ⟨g, 0, none⟩) l := by
  refine .inr ⟨g, 0, rfl, h.1, fun i hi j v e => ?_⟩
  have hj : j < 3 := by have := (List.getElem?_eq_some_iff.1 e).1; simpa [enc3] using this
  rw [Nat.zero_add, h.rule, flat3_get l i j hi hj, ← t0_default]
  exact e
theorem owns_row3 {w : World} {b : Nat} {e : TypeId} {A : Option Addr} {cap : Nat} {l : List Trip} (h : w.ownsRow b e 3 (.slice A l.length cap) l.length (flat3 l)) : Row3 w A l := by
  rcases h.2 with ⟨_, h0⟩ | ⟨g, cap', cur, hv, _, hg, hn, hc, hcs, htk⟩
  · exact .inl (List.eq_nil_of_length_eq_zero h0)
  · simp only [Value.slice.injEq] at hv
    obtain ⟨rfl, -, rfl⟩ := hv
    refine .inr ⟨g, 0, rfl, (Array.getElem?_eq_some_iff.1 hg).1, fun i hi j v e => ?_⟩
    have hj : j < 3 := by have := (List.getElem?_eq_some_iff.1 e).1; simpa [enc3] using this
    have h1 := flat3_get l i j hi hj
    rw [← t0_default, e, ← htk, List.getElem?_take_of_lt (by omega)] at h1
    rw [Nat.zero_add]
    simp only [World.cell?, hg]
    simpa using h1
theorem Row3.nil {w : World} : Row3 w none [] := .inl rfl
theorem Row3.news {w : World} {ad : Addr} {xs : List Trip} (h : Row3 w (some ad) xs) : ∀ j u, (flat3 xs)[j]? = some u → w.cell? (ad.add j) = some u := by
  intro j u hu
  rcases h with rfl | ⟨b, off, he, hl, hc⟩
  · simp [flat3] at hu
  · cases he
    have hj : j < xs.length * 3 := by rw [← flat3_length]; exact (List.getElem?_eq_some_iff.1 hu).1
    have e : (⟨b, off, none⟩ : Addr).add j = ⟨b, off + j, none⟩ := by unfold Addr.add; split <;> simp_all
    have e2 : j / 3 * 3 + j % 3 = j := by omega
    have h1 := hc (j / 3) (by omega) (j % 3) u (by rw [t0_default, ← flat3_get xs (j / 3) (j % 3) (by omega) (Nat.mod_lt _ (by omega)), e2, hu])
    rw [e]
    rwa [Nat.add_assoc, e2] at h1
theorem flat3_one (l : List Trip) : ∀ u ∈ flat3 l, u.oneCell' = true := fun x hx => by
  obtain ⟨o, _, ho⟩ := List.mem_flatMap.1 hx
  simp [enc3] at ho
  rcases ho with rfl | rfl | rfl <;> rfl

/-! ### a block of them: one written; a new one -/
theorem Blk.set3 {m n k : Nat} {l : List Trip} {w : World} (h : Blk m w n (flat3 l)) (hk : k < l.length) (x : Trip) :
    Blk m (((w.setCell ⟨n, k * 3, none⟩ (.int .i64 x.1)).setCell ⟨n, k * 3 + 1, none⟩ (.int .i64 x.2.1)).setCell ⟨n, k * 3 + 2, none⟩ (.int .i64 x.2.2)) n (flat3 (l.set k x)) := by
  rw [flat3_set x l k hk]
  have hl := flat3_length l
  exact ((h.set (by omega) _).set (by simp; omega) _).set (by simp; omega) _
theorem made3 (n : Nat) : madeCells (tv t0).cells (n * 3) = (flat3 (List.replicate n t0)).toArray := by
  rw [flat3_zero]
  apply Array.ext
  · simp [size_madeCells]
  · intro i h1 h2
    have : i % 3 = 0 ∨ i % 3 = 1 ∨ i % 3 = 2 := by omega
    simp only [madeCells, Array.getElem_map, Array.getElem_range, tv, t0, Value.cells, List.getElem_toArray, List.getElem_replicate]
    rcases this with h | h | h <;> simp [h]
theorem run_make3 {P : Program} (t e : TypeId) (ht : P.underlying t = some (.slice e)) (hinfo : (P.info? e).map (fun i => (i.zero, i.size, i.bytes)) = some (some (tv t0), 3, 24))
    (kl kc : IntKind) (n : Nat) (hn : n ≤ 1099511627776) (w : World) :
    (Instr.makeSlice t (.int kl (n : Int)) (.int kc (n : Int))).run P w = .ok (.slice (some ⟨w.heap.size, 0, none⟩) n n) (w.alloc (.cells (flat3 (List.replicate n t0)).toArray e)) := by
  obtain ⟨i, hi, hzz⟩ := Option.map_eq_some_iff.1 hinfo
  simp only [Prod.mk.injEq] at hzz
  obtain ⟨hz, hs, hb⟩ := hzz
  have hr := run_make (P := P) w t e i (tv t0) ht hi hz kl kc n n (by omega) (Int.le_refl _) (by rw [hb]; omega) (by omega)
  simp only [Int.toNat_natCast, hs, made3] at hr
  exact hr
theorem wpList_make3 {P : Program} (w : World) {ops : Array Oper} {rest : List Oper} {o : Oper} {a : Act} {Q : Exit → Act → World → Prop}
    (hg : o.guard = none) (l c : Operand) (t : TypeId) (hop : o.op = Op.makeSlice t l c)
    (e : TypeId) (ht : P.underlying t = some (.slice e)) (hinfo : (P.info? e).map (fun i => (i.zero, i.size, i.bytes)) = some (some (tv t0), 3, 24))
    (kl kc : IntKind) (N M : Int) (n : Nat) (hl : a.eval l = .int kl N) (hc : a.eval c = .int kc M) (hN : N = (n : Int)) (hM : M = (n : Int)) (hn : n ≤ 1099511627776)
    (hK : wpList P ops Q rest (a.put o.dst (.slice (some ⟨w.heap.size, 0, none⟩) n n)) (w.alloc (.cells (flat3 (List.replicate n t0)).toArray e))) :
    wpList P ops Q (o :: rest) a w := by
  refine wpList_plain hg fun K hK' => ?_
  subst hN
  subst hM
  have hrun := run_make3 (P := P) t e ht hinfo kl kc n hn w
  unfold Oper.wp
  simp [execOp, hop, hl, hc, hrun, Result.andThen]
  exact hK' _ _ hK

/-! ### among others -/
section
variable {w0 w w' : World} {L : List Item}
/-- A row of its own, appended to. -/
def row3I (v : Value) (e : TypeId) (l : List Trip) : Item := rowI v e 3 l.length (flat3 l)
theorem Env.row3 (h : Env w0 L w) (i : Nat) {v : Value} {e : TypeId} {l : List Trip} (hi : L[i]? = some (row3I v e l)) : w.ownsRow 0 e 3 v l.length (flat3 l) := h.get i hi
theorem Env.cells3 (h : Env w0 L w) (i : Nat) {A : Option Addr} {n cap : Nat} {e : TypeId} {l : List Trip} (hn : n = l.length) (hi : L[i]? = some (row3I (.slice A n cap) e l)) : Row3 w A l := by subst hn; exact owns_row3 (h.row3 i hi)
theorem Env.addRow3 (h : Env w0 L w) {v : Value} {e : TypeId} {l : List Trip} (ho : w'.ownsRow w.heap.size e 3 v l.length (flat3 l)) (hb : Below w.heap.size w w') : Env w0 (row3I v e l :: L) w' :=
  h.add (row3I v e l) hb (ownsRow_base ho (Nat.zero_le _)) fun k hk => ho.lt k hk
theorem Env.addEmpty3 (h : Env w0 L w) (n : Nat) (hn : w.heap.size = n) (e : TypeId) : Env w0 (row3I (.slice (some ⟨n, 0, none⟩) 0 0) e [] :: L) (w.alloc (.cells #[] e)) := by
  subst hn
  exact h.addRow3 (v := .slice (some ⟨w.heap.size, 0, none⟩) 0 0) (l := []) ⟨rfl, .inr ⟨w.heap.size, 0, #[], rfl, Nat.le_refl _, heap_alloc_new w _, Nat.le_refl _, Nat.zero_le _, rfl, rfl⟩⟩ ((Below.refl _ _).alloc (Nat.le_refl _) _)
theorem Env.addNone3 (h : Env w0 L w) (e : TypeId) : Env w0 (row3I (.slice none 0 0) e [] :: L) w :=
  h.add (row3I (.slice none 0 0) e []) (Below.refl _ _) (World.ownsRow_nil _ _ _ _) fun k hk => by cases hk
/-- A row appended to a row of its own. -/
theorem Env.append3 {P : Program} (h : Env w0 L w) (i : Nat) {v : Value} {e : TypeId} {l xs : List Trip} (hi : L[i]? = some (row3I v e l)) (t ty : TypeId) (ht : P.underlying t = some (.slice e)) (hinfo : (P.info? e).map (fun i => (i.zero, i.size, i.bytes)) = some (some (tv t0), 3, 24))
    {A : Option Addr} (c : Nat) (hx : Row3 w A xs) (hz : l.length + xs.length ≤ 1048576) :
    ∃ A' c' w', (Builtin.append_ #[t, t] ty #[v, .slice A xs.length c]).run P w = .ok (.slice A' (l.length + xs.length) c') w' ∧ Env w0 (L.set i (row3I (.slice A' (l.length + xs.length) c') e (l ++ xs))) w' ∧ Step (fun k => v.ownBlock = some k) (fun k => (Value.slice A' (l.length + xs.length) c').ownBlock = some k) w w' := by
  obtain ⟨i0, hi0, hzz⟩ := Option.map_eq_some_iff.1 hinfo
  simp only [Prod.mk.injEq] at hzz
  obtain ⟨hz0, hs, hb⟩ := hzz
  have hown := h.row3 i hi
  obtain ⟨v', w', hrun, ho, hg, hv⟩ := run_append_rows (P := P) t ty 0 e i0 (tv t0) 3 24 ht hi0 hz0 hs hb rfl (by decide) w v l.length (flat3 l) hown A xs.length c (flat3 xs) (flat3_length xs)
    (by
      cases A with
      | none =>
        left
        rcases hx with rfl | ⟨b, off, he, _⟩
        · exact ⟨rfl, rfl⟩
        · cases he
      | some ad => exact .inr ⟨ad, rfl, Row3.news hx⟩) (flat3_one xs) (by simp [maxLen]; omega) (by omega) (Nat.zero_le _)
  obtain ⟨A', c', rfl⟩ := ownsRow_slice ho
  have hst : Step (fun k => v.ownBlock = some k) (fun k => (Value.slice A' (l.length + xs.length) c').ownBlock = some k) w w' := ⟨(Turn.refl _ w).grown hg fun k _ e => e, fun k hk => by
    rcases hv with e | e
    · exact .inl (by rw [← e]; exact hk)
    · right
      rw [e] at hk
      cases hk
      exact Nat.le_refl _⟩
  refine ⟨A', c', w', hrun, h.step i (row3I _ e (l ++ xs)) hi hst ?_ ?_, hst⟩
  · show w'.ownsRow 0 e 3 _ (l ++ xs).length (flat3 (l ++ xs))
    rw [List.length_append, flat3_append]
    exact ho
  · exact ownsRow_lt ho
/-- .. its length told of the whole. -/
theorem Env.append3' {P : Program} (h : Env w0 L w) (i : Nat) {v : Value} {e : TypeId} {l xs : List Trip} (hi : L[i]? = some (row3I v e l)) (t ty : TypeId) (ht : P.underlying t = some (.slice e)) (hinfo : (P.info? e).map (fun i => (i.zero, i.size, i.bytes)) = some (some (tv t0), 3, 24))
    {A : Option Addr} {n : Nat} (c : Nat) (hn : n = xs.length) (hx : Row3 w A xs) (hz : l.length + xs.length ≤ 1048576) :
    ∃ A' c' w', (Builtin.append_ #[t, t] ty #[v, .slice A n c]).run P w = .ok (.slice A' (l ++ xs).length c') w' ∧ Env w0 (L.set i (row3I (.slice A' (l ++ xs).length c') e (l ++ xs))) w' := by
  subst hn
  obtain ⟨A', c', w', h1, h2, -⟩ := h.append3 i hi t ty ht hinfo c hx hz
  rw [← List.length_append] at h1 h2
  exact ⟨A', c', w', h1, h2⟩
/-- What stands first takes another one's place. -/
theorem Env.into (j : Nat) {a : Item} (h : Env w0 (a :: L) w) : Env w0 (L.set j a) w := by
  rcases Nat.lt_or_ge j L.length with hj | hj
  · have hp : (L.set j a).Perm (a :: L.eraseIdx j) := by
      rw [List.set_eq_take_append_cons_drop, if_pos hj, List.eraseIdx_eq_take_drop_succ]
      exact List.perm_middle
    have h1 : Env w0 (a :: L.eraseIdx j) w := h.sub (.cons_cons _ (List.eraseIdx_sublist L j))
    exact ⟨h1.1, (hp.symm.pairwise_iff (fun h => Off.symm h)).1 h1.2.1, fun b hb => h1.2.2 b (hp.mem_iff.1 hb)⟩
  · rw [List.set_eq_of_length_le hj]
    exact h.sub (.cons _ (List.Sublist.refl _))
/-- A row that this call neither made nor turns. -/
theorem Env.seen3 (h : Env w0 L w) {A : Option Addr} {xs : List Trip} (hr : Row3 w0 A xs) : Row3 w A xs := RowX.below hr h.below
end
end Go.Proofs.Ytnopnnjkabkbaaa

/- make([]int, n): one new block of n zeros; how many of a row are of a kind, step by step. General. -/
namespace Go.Proofs.Ytnopnnjkabkbaaa
open Go.RowKit
set_option maxRecDepth 100000

theorem madeI (z : Value) (hz : z.cells = #[z]) (n : Nat) : madeCells z.cells (n * 1) = (List.replicate n z).toArray := by
  apply Array.ext
  · simp [size_madeCells]
  · intro i h1 h2
    simp only [madeCells, hz, Array.getElem_map, Array.getElem_range, List.getElem_toArray, List.getElem_replicate, List.size_toArray, List.length_cons, List.length_nil]
    simp [Nat.mod_one]
theorem run_makeI {P : Program} (z : Value) (hz : z.cells = #[z]) (t e : TypeId) (ht : P.underlying t = some (.slice e)) (hinfo : (P.info? e).map (fun i => (i.zero, i.size, i.bytes)) = some (some z, 1, 8))
    (kl kc : IntKind) (n : Nat) (hn : n ≤ 1099511627776) (w : World) :
    (Instr.makeSlice t (.int kl (n : Int)) (.int kc (n : Int))).run P w = .ok (.slice (some ⟨w.heap.size, 0, none⟩) n n) (w.alloc (.cells (List.replicate n z).toArray e)) := by
  obtain ⟨i, hi, hzz⟩ := Option.map_eq_some_iff.1 hinfo
  simp only [Prod.mk.injEq] at hzz
  obtain ⟨hz0, hs, hb⟩ := hzz
  have hr := run_make (P := P) w t e i z ht hi hz0 kl kc n n (by omega) (Int.le_refl _) (by rw [hb]; omega) (by omega)
  simp only [Int.toNat_natCast, hs, madeI z hz] at hr
  exact hr
theorem wpList_makeI {P : Program} (w : World) {ops : Array Oper} {rest : List Oper} {o : Oper} {a : Act} {Q : Exit → Act → World → Prop}
    (hg : o.guard = none) (l c : Operand) (t : TypeId) (hop : o.op = Op.makeSlice t l c) (z : Value) (hz : z.cells = #[z])
    (e : TypeId) (ht : P.underlying t = some (.slice e)) (hinfo : (P.info? e).map (fun i => (i.zero, i.size, i.bytes)) = some (some z, 1, 8))
    (kl kc : IntKind) (N M : Int) (n : Nat) (hl : a.eval l = .int kl N) (hc : a.eval c = .int kc M) (hN : N = (n : Int)) (hM : M = (n : Int)) (hn : n ≤ 1099511627776)
    (hK : wpList P ops Q rest (a.put o.dst (.slice (some ⟨w.heap.size, 0, none⟩) n n)) (w.alloc (.cells (List.replicate n z).toArray e))) :
    wpList P ops Q (o :: rest) a w := by
  refine wpList_plain hg fun K hK' => ?_
  subst hN
  subst hM
  have hrun := run_makeI (P := P) z hz t e ht hinfo kl kc n hn w
  unfold Oper.wp
  simp [execOp, hop, hl, hc, hrun, Result.andThen]
  exact hK' _ _ hK

/-- How many of a row are sent to i. -/
def howM (f : Int → Int) (zs : List Int) (i : Int) : Nat := zs.countP fun z => decide (f z = i)
theorem howM_le (f : Int → Int) (zs : List Int) (i : Int) : howM f zs i ≤ zs.length := List.countP_le_length
theorem howM_nil (f : Int → Int) (i : Int) : howM f [] i = 0 := rfl
theorem howM_step (f : Int → Int) {zs : List Int} {k : Nat} (hk : k < zs.length) (i : Int) : howM f (zs.take (k + 1)) i = howM f (zs.take k) i + if f (zs.getD k 0) = i then 1 else 0 := by
  rw [List.take_succ_eq_append_getElem hk]
  unfold howM
  rw [List.countP_append]
  have : zs.getD k 0 = zs[k] := by simp [hk]
  rw [this]
  by_cases h : f zs[k] = i <;> simp [h]
/-- .. for each i below R, as cells. -/
def howV (f : Int → Int) (zs : List Int) (R : Nat) : List Value := (List.range R).map fun (i : Nat) => .int .i64 ((howM f zs (i : Int) : Nat) : Int)
theorem howV_length (f : Int → Int) (zs : List Int) (R : Nat) : (howV f zs R).length = R := by simp [howV]
theorem howV_get (f : Int → Int) (zs : List Int) {R i : Nat} (hi : i < R) : (howV f zs R)[i]? = some (.int .i64 (howM f zs (i : Int) : Nat)) := by simp [howV, hi]
theorem howV_nil (f : Int → Int) (R : Nat) : howV f [] R = List.replicate R (.int .i64 0) := by
  apply List.ext_getElem
  · simp [howV]
  · intro i h1 h2
    simp [howV, howM_nil]
theorem howV_step (f : Int → Int) {zs : List Int} {k p R : Nat} (hk : k < zs.length) (hp : f (zs.getD k 0) = (p : Int)) : (howV f (zs.take k) R).set p (.int .i64 ((howM f (zs.take k) (p : Int) : Nat) + 1)) = howV f (zs.take (k + 1)) R := by
  apply List.ext_getElem
  · simp [howV]
  · intro i h1 h2
    rw [List.getElem_set]
    simp only [howV, List.getElem_map, List.getElem_range, howM_step f hk, hp]
    by_cases h : p = i
    · subst h
      simp
    · have : ¬ ((p : Int) = (i : Int)) := by omega
      simp [h, this]
end Go.Proofs.Ytnopnnjkabkbaaa

/- Contracts of layer 12: Spread. -/
namespace Go.Proofs.Ytnopnnjkabkbaaa
open Go.RowKit
set_option maxRecDepth 100000

theorem infoInt : (Try.prog.info? 3).map (fun i => (i.zero, i.size, i.bytes)) = some (some (.int .i64 0), 1, 8) := by kernel_rfl
/-- Keys that came in. -/
def InKeys (w : World) (A : Option Addr) (zs : List Int) : Prop := zs = [] ∨ ∃ b off, A = some ⟨b, off, none⟩ ∧ b < w.heap.size ∧ ∀ i, i < zs.length → w.cell? ⟨b, off + i, none⟩ = some (.int .u64 (zs.getD i 0))
theorem bkI_lt {k s b h l : Int} (x : Int) {R : Nat} (hR : rootsI k s b h l = (R : Int)) (h0 : R ≠ 0) : 0 ≤ bkI k s b h l x ∧ bkI k s b h l x < R := by
  unfold rootsI at hR
  split at hR
  · next hc =>
    have hy := chk_yes hc
    unfold bkI
    by_cases h2 : k = 2
    · rw [if_pos h2] at hR
      rw [if_pos ⟨h2, hc⟩]
      have := buI_in x (n := b) (by omega)
      omega
    · rw [if_neg (fun h => h2 h.1)]
      omega
  · omega
theorem roots_nat (k s b h l : Int) : ∃ R : Nat, rootsI k s b h l = (R : Int) ∧ R ≤ 64 := by
  refine ⟨(rootsI k s b h l).toNat, ?_⟩
  unfold rootsI
  split
  · next hc =>
    have hy := chk_yes hc
    split <;> omega
  · omega
set_option maxRecDepth 100000 in
set_option maxHeartbeats 1600000 in
theorem spread_any (k s b h l : Int) {A : Option Addr} {cap : Nat} {zs : List Int} {w : World} (hA : InKeys w A zs) (hu : ∀ z ∈ zs, InU z) (hn : zs.length ≤ 9223372036854775806) :
    Calls Try.prog 13 #[.agg #[.int .i64 k, .int .i64 s, .int .i64 b, .int .i64 h, .int .i64 l], .slice A zs.length cap] w fun e w' =>
      ∃ (R : Nat) (C : Option Addr), rootsI k s b h l = (R : Int) ∧ e = .returned (.slice C R R) ∧ Below w.heap.size w w' ∧ (R ≠ 0 → ∃ g, C = some ⟨g, 0, none⟩ ∧ w.heap.size ≤ g ∧ Blk w.heap.size w' g (howV (bkI k s b h l) zs R)) := by
  have hF := (Fr.start w).push w.heap.size rfl [.int .i64 k, .int .i64 s, .int .i64 b, .int .i64 h, .int .i64 l] 24
  have r := hF.rule 0 rfl
  obtain ⟨R, hR, hR64⟩ := roots_nat k s b h l
  have HR := Lib.hid hR
  have HL := fun x => Lib.hid (bkI_lt x hR)
  clear hR
  go_enter Try.func13, Try.ntmps13
  go_wp2_with fail
  refine (roots_any _ _ _ _ _ _).mono ?_
  rintro e w1 ⟨rfl, hb⟩
  replace hF := hF.over hb
  have hn1 := hF.lt 0 rfl
  clear hb r
  rw [HR.out]
  cases hb0 : ((R : Int) == 0)
  rotate_left
  · go_wp2_with (refine wpList_makeI _ rfl _ _ 32 rfl (.int .i64 0) rfl 3 Try.underlying32 infoInt .i64 .i64 _ _ R rfl rfl rfl rfl (by omega) ?_)
    go_ret
    have hR0 : (R : Int) = 0 := by simp_all
    have hR1 : R = 0 := by omega
    subst hR1
    exact ⟨0, none, HR.out, rfl, hF.below.alloc (by omega) _, fun h => absurd rfl h⟩
  · go_wp2_with (refine wpList_makeI _ rfl _ _ 32 rfl (.int .i64 0) rfl 3 Try.underlying32 infoInt .i64 .i64 _ _ R rfl rfl rfl rfl (by omega) ?_)
    have hR1 : R ≠ 0 := by intro e; subst e; simp_all
    have hlt := fun x => Lib.hid ((HL x).out hR1)
    replace hF := hF.push w1.heap.size rfl (List.replicate R (.int .i64 0)) 3
    rw [show (List.replicate R (Value.int .i64 0)).toArray = Array.replicate R (Value.int .i64 0) by simp] at hF
    rw [← howV_nil (bkI k s b h l) R] at hF
    generalize w1.alloc (.cells (Array.replicate R (.int .i64 0)) 3) = w2 at *
    generalize w1.heap.size = N at *
    go_loopw [16] (fun i wr => ∃ j : Nat, j ≤ zs.length ∧ i = .int .i64 j ∧ Fr w [(N, howV (bkI k s b h l) (zs.take j) R), (w.heap.size, [.int .i64 k, .int .i64 s, .int .i64 b, .int .i64 h, .int .i64 l])] wr) (fun i _ => zs.length - (intOf i).toNat)
    case atStart => exact ⟨0, by omega, rfl, hF⟩
    case round =>
      obtain ⟨j, hj, rfl, hF⟩ := hrel
      by_cases hjl : j < zs.length
      · have hbj : decide ((j : Int) < zs.length) = true := by simp; omega
        rcases hA with rfl | ⟨g, off, rfl, hg, hc⟩
        · simp at hjl
        have hcj : wr.cell? ⟨g, off + j, none⟩ = some (.int .u64 (zs.getD j 0)) := by rw [hF.below.cell (p := ⟨g, off + j, none⟩) hg]; exact hc j hjl
        have hz : InU (zs.getD j 0) := by
          have : zs.getD j 0 = zs[j] := by simp [hjl]
          rw [this]
          exact hu _ (List.getElem_mem _)
        have HZ := Lib.hid hz
        obtain ⟨p, hp, hpR⟩ : ∃ p : Nat, bkI k s b h l (zs.getD j 0) = (p : Int) ∧ p < R := ⟨(bkI k s b h l (zs.getD j 0)).toNat, by have := (hlt (zs.getD j 0)).out; omega, by have := (hlt (zs.getD j 0)).out; omega⟩
        have HP := Lib.hid hp
        have HS := Lib.hid (howV_step (R := R) (f := bkI k s b h l) hjl hp)
        have HM := Lib.hid (howM_le (bkI k s b h l) (zs.take j) p)
        have r := hF.rule 1 rfl
        clear hc hz hp
        generalize zs.getD j 0 = z at *
        go_wp2_with fail
        refine (bucket_any _ _ _ _ _ HZ.out _).mono ?_
        rintro e w3 ⟨rfl, hb⟩
        replace hF := hF.over hb
        clear hb r
        rw [HP.out]
        have rp := hF.rule 0 rfl p
        rw [howV_get _ _ hpR] at rp
        have fp := hF.thaw 0 rfl (by omega) p (by rw [howV_length]; exact hpR)
        have hM : (howM (bkI k s b h l) (zs.take j) p : Int) ≤ 9223372036854775806 := by have := HM.out; simp at this; omega
        have hM0 : (0 : Int) ≤ (howM (bkI k s b h l) (zs.take j) p : Nat) := Int.natCast_nonneg _
        have hP := fun (u : Value) => hF.put (by omega) (by intro x hx; simp at hx; rw [hx]; simp; omega) p (by rw [howV_length]; exact hpR) u
        generalize hMM : ((howM (bkI k s b h l) (zs.take j) p : Nat) : Int) = M at *
        have hw := w64 (M + 1) (by omega)
        have HMM := Lib.hid hMM
        clear hMM
        go_wp2
        go_roundw
        case rel =>
          refine ⟨j + 1, by omega, by simp, ?_⟩
          rw [← HS.out]
          exact hP _
        case measure => simp [intOf]; omega
      · have : j = zs.length := by omega
        subst this
        rw [List.take_length] at hF
        have hbj : decide ((zs.length : Int) < zs.length) = false := by simp
        go_wp2
        go_ret
        exact ⟨R, _, HR.out, rfl, hF.below, fun _ => ⟨N, rfl, by omega, hF.2 _ (List.mem_cons_self ..)⟩⟩
end Go.Proofs.Ytnopnnjkabkbaaa

/- Layer 12: awake: answers that the document fixes by number. -/
namespace Go.Proofs.Ytnopnnjkabkbaaa
open Go.RowKit
set_option maxRecDepth 100000

theorem keys2 (w : World) (a b : Int) : InKeys (w.alloc (.cells #[.int .u64 a, .int .u64 b] 22)) (some ⟨w.heap.size, 0, none⟩) [a, b] := by
  refine .inr ⟨_, 0, rfl, by simp, fun i hi => ?_⟩
  have hi2 : i = 0 ∨ i = 1 := by simp at hi; omega
  rcases hi2 with rfl | rfl <;> simp
set_option maxRecDepth 100000 in
set_option maxHeartbeats 1600000 in
theorem awake12 (w : World) : Calls Try.prog 7 #[] w fun e w' => e = .returned (.bool true) ∧ Below w.heap.size w w' := by
  have m0 : Hid (mixI 0 = 0) := Lib.hid (by decide +kernel)
  have m1 : Hid (mixI 1 ≠ 1) := Lib.hid (by decide +kernel)
  have hF := Fr.start w
  go_enter Try.func7, Try.ntmps7
  go_wp2_with fail
  refine (mix_any ⟨by decide, by decide⟩ _).mono ?_
  rintro e w1 ⟨rfl, rfl⟩
  rw [m0.out]
  go_wp2_with fail
  refine (mix_any ⟨by decide, by decide⟩ _).mono ?_
  rintro e w1 ⟨rfl, rfl⟩
  have n1 : (mixI 1 != 1) = true := by simpa using m1.out
  generalize mixI 1 = M1 at *
  go_wp2_with fail
  refine (invert_any ⟨by decide, by decide⟩ _).mono ?_
  rintro e w1 ⟨y, rfl, hy, rfl⟩
  rw [hy.lit (by decide) (z := 1) (by decide) ⟨by decide, by decide⟩]
  clear hy
  go_wp2_with fail
  refine (invert_any ⟨by decide, by decide⟩ _).mono ?_
  rintro e w1 ⟨y, rfl, hy, rfl⟩
  rw [hy.lit (by decide) (z := 12297829382473034411) (by decide) ⟨by decide, by decide⟩]
  clear hy
  go_wp2_with fail
  refine (invert_any ⟨by decide, by decide⟩ _).mono ?_
  rintro e w1 ⟨y, rfl, hy, rfl⟩
  rw [hy.2.1 (by decide)]
  clear hy
  go_wp2_with fail
  refine (mix_any ⟨by decide, by decide⟩ _).mono ?_
  rintro e w1 ⟨rfl, rfl⟩
  go_wp2_with fail
  refine (unmix_any (mixI_in 5) _).mono ?_
  rintro e w1 ⟨rfl, rfl⟩
  rw [unmI_mixI ⟨by decide, by decide⟩]
  go_wp2_with fail
  refine (hash_any _ _).mono ?_
  rintro e w1 ⟨rfl, hb⟩
  replace hF := hF.over hb
  clear hb
  go_wp2_with fail
  refine (bucket_any _ _ _ _ _ ⟨by decide, by decide⟩ _).mono ?_
  rintro e w2 ⟨rfl, hb⟩
  replace hF := hF.over hb
  clear hb
  rw [show bkI 2 1 64 1 2 0 = 0 by unfold bkI buI; rw [m0.out]; decide]
  go_wp2_with fail
  refine (hash_any _ _).mono ?_
  rintro e w3 ⟨rfl, hb⟩
  replace hF := hF.over hb
  clear hb
  go_wp2_with fail
  replace hF := hF.more (.cells #[.int .u64 1, .int .u64 2] 22)
  refine (spread_any 2 1 7 1 2 (zs := [1, 2]) (keys2 _ 1 2) (by intro z hz; simp at hz; rcases hz with rfl | rfl <;> exact ⟨by decide, by decide⟩) (by decide)).mono ?_
  rintro e w4 ⟨R, C, hR, rfl, hb, -⟩
  replace hF := hF.over hb
  clear hb
  have hR7 : R = 7 := by
    have h7 : rootsI 2 1 7 1 2 = 7 := by decide
    rw [h7] at hR
    omega
  subst hR7
  clear hR
  go_wp2
  go_ret
  exact ⟨rfl, hF.below⟩
end Go.Proofs.Ytnopnnjkabkbaaa

/- What closes every law's row: it answers true, and below the old heap nothing has turned: so each argument reads as it did, whatever its type. -/
namespace Go.Proofs.Ytnopnnjkabkbaaa
open Go.RowKit Go.WideShapes Go.ChangeShapes Go.ChangeAt
set_option maxRecDepth 100000

section
variable {H : Type} {enc : TypeId × Value → H} {P : Program}
/-- The arguments' places lie below the heap's end: each reads behind the call as it did. -/
theorem args_stay (hl : laidOutB P = true) {W W' : World} (hb : Below W.heap.size W W') : ∀ (ts : List TypeId) (_ : (ts.all fun t => P.readableRec t && decide (t < P.types.size)) = true) (vs : List Value) (ds : List (DataW H)) (ps : List MemPlace),
    DataW.TrodAll enc P W 0 (fun _ => true) true ts vs ds ps → (∀ x ∈ ps, x.block < W.heap.size) → DataW.TrodAll enc P W' 0 (fun b => decide (b < W.heap.size)) true ts vs ds ps := by
  intro ts
  induction ts with
  | nil =>
    intro _ vs ds ps h _
    obtain ⟨rfl, rfl, rfl⟩ := trodAll_nil h
    exact trodAll_mk0
  | cons t ts ih =>
    intro hts vs ds ps h hlt
    rw [List.all_cons, Bool.and_eq_true, Bool.and_eq_true] at hts
    obtain ⟨v, vs', d, ds', p, q, rfl, rfl, rfl, h0, r0⟩ := trodAll_cons h
    exact trodAll_cons_mk (Below.trod hl hts.1.1 (of_decide_eq_true hts.1.2) h0 hb fun x hx => hlt x (List.mem_append_left _ hx))
      (ih hts.2 _ _ _ r0 fun x hx => hlt x (List.mem_append_right _ hx))

/-- The post of a law that answered true. -/
theorem law_post {f : Func} {s : ChangeSpec} {W W' : World} {args : Array Value} {ds : List (DataW H)} {before : List MemPlace} {tb : TypeId}
    (hl : laidOutB P = true) (hts : (f.params.toList.all fun t => P.readableRec t && decide (t < P.types.size)) = true) (hres : f.resultTypes = #[tb]) (htb : P.underlying tb = some .bool)
    (hv : s.vars = []) (hfn : s.fn H (ds ++ []) = { results := [.lit (.bool true)], args := ds })
    (hW : DataW.Whole enc P f.params.toList s.vars false W args.toList ds [] before) (hb : Below W.heap.size W W') :
    s.post enc P f false true false false W args (.bool true) W' := by
  have hlt : ∀ p ∈ before, p.block < W.heap.size := fun p hp => hW.lt p hp
  have hW2 := hW
  obtain ⟨p, q, hA, hV, rfl, hz, hn⟩ := hW2
  have hq : q = [] := by rw [hv] at hV; exact (trodVars_none hV).2
  subst hq
  refine ⟨ds, [], _, [], p, [], hW, ?_, ?_, ?_, World.keptBut_mono (fun x hx => ⟨hx, Or.inr (Or.inl (by simpa using hx))⟩) (hb.frame (· ∈ p ++ [])), fun h => by cases h⟩
  · rw [hfn, hres]
    exact trodAll_mk1 (shut_bool htb _)
  · rw [hfn]
    exact args_stay hl hb _ hts _ _ _ hA fun x hx => hlt x (by simpa using hx)
  · rw [hfn, hv]
    exact rfl
end

theorem u64_in {n : Int} (h : (Lit.int .u64 n).wf = true) : 0 ≤ n ∧ n ≤ 18446744073709551615 := by
  simpa [Lit.wf, IntKind.min, IntKind.max, IntKind.signed, IntKind.bits] using h
theorem i64_in {n : Int} (h : (Lit.int .i64 n).wf = true) : -9223372036854775808 ≤ n ∧ n ≤ 9223372036854775807 := by
  simpa [Lit.wf, IntKind.min, IntKind.max, IntKind.signed, IntKind.bits] using h
end Go.Proofs.Ytnopnnjkabkbaaa

namespace Go.Proofs.Ytnopnnjkabkbaaa.mixHalves
open Go.ChangeShapes Go.WideShapes Go.ChangeAt Go.RowKit
set_option maxRecDepth 100000

theorem hash_ok {n : Int} (h : 1 ≤ n ∧ n ≤ 64) : chkI 2 1 n 1 2 = 0 := chk_zero (by omega) (by unfold Cfg; omega)
theorem hash_bk {n : Int} (h : 1 ≤ n ∧ n ≤ 64) (x : Int) : bkI 2 1 n 1 2 x = buI n x := bkI_yes rfl (hash_ok h)
set_option maxRecDepth 100000 in
set_option maxHeartbeats 1600000 in
theorem walk (x n : Int) (hx : InU x) (_hn : -9223372036854775808 ≤ n ∧ n ≤ 9223372036854775807) (w : World) :
    Calls Try.prog 6 #[.int .u64 x, .int .i64 n] w fun e w' => e = .returned (.bool true) ∧ Below w.heap.size w w' := by
  have HX := Lib.hid hx
  clear hx
  obtain ⟨m, hm, m0, m1⟩ := cut_u1 n 32 (by decide) (by decide)
  have hw : wrap64 (2 * m) = 2 * m := w64 _ (by omega)
  have B1 := Lib.hid (buI_in x (n := m) (by omega))
  have B2 := Lib.hid (buI_in x (n := 2 * m) (by omega))
  have B3 := Lib.hid (buI_half x (n := m) (by omega))
  have K1 := Lib.hid (hash_bk (n := m) (by omega) x)
  have K2 := Lib.hid (hash_bk (n := 2 * m) (by omega) x)
  have HM := Lib.hid hm
  have hF := Fr.start w
  go_enter Try.func6, Try.ntmps6
  go_wp2_with fail
  refine (awake12 _).mono ?_
  rintro e w1 ⟨rfl, hb⟩
  replace hF := hF.over hb
  clear hb
  go_wp2_with fail
  refine (hash_any _ _).mono ?_
  rintro e w1 ⟨rfl, hb⟩
  replace hF := hF.over hb
  clear hb
  go_wp2_with fail
  refine (bucket_any _ _ _ _ _ HX.out _).mono ?_
  rintro e w1 ⟨rfl, hb⟩
  replace hF := hF.over hb
  clear hb
  rw [K1.out]
  go_wp2_with fail
  refine (hash_any _ _).mono ?_
  rintro e w1 ⟨rfl, hb⟩
  replace hF := hF.over hb
  clear hb
  go_wp2_with fail
  refine (bucket_any _ _ _ _ _ HX.out _).mono ?_
  rintro e w1 ⟨rfl, hb⟩
  replace hF := hF.over hb
  clear hb
  rw [K2.out]
  have b1 := B1.out
  have b2 := B2.out
  have b3 := B3.out
  generalize buI m x = p at *
  generalize buI (2 * m) x = q at *
  have c1 : decide (0 ≤ p) = true := by simp; omega
  have c2 : decide (p < m) = true := by simp; omega
  have c3 : q.tdiv 2 = p := by rw [Int.tdiv_eq_ediv_of_nonneg b2.1]; exact b3
  have c4 := w64 p (by omega)
  clear b1 b2 b3
  go_wp2
  go_ret
  refine ⟨ret_bool ?_, hF.below⟩
  simp [c3, c4]

theorem own : ownKnob Try.prog.godebug = none := by kernel_rfl
theorem laidOut : laidOutB Try.prog = true := by kernel_rfl

set_option maxRecDepth 100000 in
theorem lifted (os : Os) (started : os.Started) (H : Type) (enc : TypeId × Value → H) :
    ReturnsInHanded {} Try.checked os 6 .any (Rows.mixHalvesSpec.pre6 enc Try.prog Try.f6 Rows.mixHalvesRow.domain false) (Rows.mixHalvesSpec.post enc Try.prog Try.f6 false true false false) := by
  refine returnsInHanded_of_change (C := Try.checked) own started (by kernel_rfl) Try.func6
    (ChangeSpec.witness6 (enc := enc) (C := Try.checked) false ⟨#[], #[.int .u64 0, .int .i64 0], []⟩ 8 (by kernel_rfl) (by kernel_rfl) (by kernel_rfl) (by kernel_rfl)) ?_
  intro W base args ds gs before hval0 hW hcnd _
  have hval : ∀ (j : Nat) t v, Try.f6.params[j]? = some t → args[j]? = some v → Value.okWide Try.prog W .any base t v := hval0
  have hW' := hW
  obtain ⟨p, q, hA0, hV, rfl, hfz, hnd⟩ := hW
  have hA : DataW.TrodAll enc Try.prog W 0 (fun _ => true) true Try.f6.params.toList args.toList ds p := hA0
  rw [Try.params6] at hA hval
  obtain ⟨v0, vs0, d0, ds0, p0, q0, hargs, rfl, rfl, g0, r0⟩ := trodAll_cons hA
  obtain ⟨v1, vs1, d1, ds1, p1, q1, rfl, rfl, rfl, g1, r1⟩ := trodAll_cons r0
  obtain ⟨rfl, rfl, rfl⟩ := trodAll_nil r1
  obtain rfl : args = #[v0, v1] := by cases args; simp_all
  obtain ⟨rfl, rfl⟩ := trodVars_none hV
  obtain ⟨a0, rfl, rfl, rfl, w0⟩ := open_int Try.underlying22 (hval 0 22 v0 rfl rfl) g0
  have h0 := u64_in w0
  obtain ⟨a1, rfl, rfl, rfl, w1⟩ := open_int Try.underlying3 (hval 1 3 v1 rfl rfl) g1
  have h1 := i64_in w1
  clear hA0 hval0
  refine (walk a0 a1 h0 h1 W).mono fun e W' ⟨he, hg⟩ => ?_
  subst he
  exact ⟨_, rfl, law_post laidOut (by kernel_rfl) (by kernel_rfl) Try.underlying4 rfl rfl hW' hg⟩

theorem over : Rows.mixHalvesRow.holds Try.pinned (OpenSpec.ofChange Rows.mixHalvesSpec) :=
  OpenClaim.holds_of_wide 6 Try.f6 rfl rfl rfl rfl rfl rfl rfl ⟨rfl, rfl, rfl, rfl, rfl⟩ rfl rfl rfl rfl rfl (by kernel_rfl) Try.func6 (by kernel_rfl)
    (of_decide_eq_true (by kernel_rfl)) (by unfold Func.isWrapper; first | (rw [if_pos (by decide +kernel)]; kernel_rfl) | (rw [if_neg (by decide +kernel)]; exact ⟨rfl, rfl⟩))
    (fun os started H enc _ => lifted os started H enc)

/-- THE STATEMENT. -/
theorem proved : Rows.MixHalvesSaid := over
#print axioms proved
end Go.Proofs.Ytnopnnjkabkbaaa.mixHalves
