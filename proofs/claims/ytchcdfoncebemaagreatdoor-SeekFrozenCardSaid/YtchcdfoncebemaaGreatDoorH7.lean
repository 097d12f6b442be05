/- What is proved on the way to the statement, part 7 of 11: contracts of the functions, among other things in memory. -/
import Derived.Test.YtchcdfoncebemaaGreatDoorH6
import Derived.LoopIn
import Derived.Shelf.SlSortCmp.Insertion
import Derived.Sort.Statements

/- Rows of the call's own, of structs of k cells each: appended to, read. General. -/
namespace Go.Proofs.YtchcdfoncebemaaGreatDoor
open Go.RowKit Go.Maps
set_option maxRecDepth 100000

section
variable {α : Type} {enc : α → List Value} {k : Nat}
def flatK (enc : α → List Value) (l : List α) : List Value := l.flatMap enc
theorem flatK_length (hk : ∀ x, (enc x).length = k) (l : List α) : (flatK enc l).length = l.length * k := by
  induction l with
  | nil => simp [flatK]
  | cons x l ih =>
    have e : flatK enc (x :: l) = enc x ++ flatK enc l := by simp [flatK]
    rw [e, List.length_append, ih, hk, List.length_cons, Nat.add_mul]
    omega
theorem flatK_append (a b : List α) : flatK enc (a ++ b) = flatK enc a ++ flatK enc b := by simp [flatK]
theorem flatK_get [Inhabited α] (hk : ∀ x, (enc x).length = k) : ∀ (l : List α) (j c : Nat), j < l.length → c < k → (flatK enc l)[j * k + c]? = (enc (l.getD j default))[c]? := by
  intro l
  induction l with
  | nil => intro j c h; simp at h
  | cons x l ih =>
    intro j c hj hc
    have e : flatK enc (x :: l) = enc x ++ flatK enc l := by simp [flatK]
    cases j with
    | zero => rw [e, List.getElem?_append_left (by rw [hk]; omega)]; simp
    | succ j =>
      have e3 : (j + 1) * k = j * k + k := by rw [Nat.add_mul, Nat.one_mul]
      rw [e, List.getElem?_append_right (by rw [hk]; omega)]
      have := ih j c (by simpa using hj) hc
      have e2 : (j + 1) * k + c - (enc x).length = j * k + c := by rw [hk]; omega
      rw [e2, this]
      simp
theorem RowX.news [Inhabited α] (hk : ∀ x, (enc x).length = k) (hk0 : 0 < k) {w : World} {ad : Addr} {xs : List α} (h : RowX enc k w (some ad) xs) : ∀ j u, (flatK enc xs)[j]? = some u → w.cell? (ad.add j) = some u := by
  intro j u hu
  rcases h with rfl | ⟨b, off, he, hl, hc⟩
  · simp [flatK] at hu
  · cases he
    have hj : j < xs.length * k := by rw [← flatK_length hk]; exact (List.getElem?_eq_some_iff.1 hu).1
    have e : (⟨b, off, none⟩ : Addr).add j = ⟨b, off + j, none⟩ := by unfold Addr.add; split <;> simp_all
    have e2 : j / k * k + j % k = j := by rw [Nat.mul_comm]; exact Nat.div_add_mod j k
    have hlt : j / k < xs.length := (Nat.div_lt_iff_lt_mul hk0).2 hj
    have h1 := hc (j / k) hlt (j % k) u (by rw [← flatK_get hk xs (j / k) (j % k) hlt (Nat.mod_lt _ hk0), e2, hu])
    rw [e]
    rwa [Nat.add_assoc, e2] at h1
theorem Blk.rowK [Inhabited α] (hk : ∀ x, (enc x).length = k) {w : World} {g : Nat} {l : List α} (h : Blk 0 w g (flatK enc l)) : RowX enc k w (some ⟨g, 0, none⟩) l := by
  refine .inr ⟨g, 0, rfl, h.1, fun i hi j v e => ?_⟩
  have hj : j < k := by have := (List.getElem?_eq_some_iff.1 e).1; rw [hk] at this; exact this
  rw [Nat.zero_add, h.rule, flatK_get hk l i j hi hj]
  exact e
theorem owns_rowK [Inhabited α] (hk : ∀ x, (enc x).length = k) {w : World} {b : Nat} {e : TypeId} {A : Option Addr} {cap : Nat} {l : List α} (h : w.ownsRow b e k (.slice A l.length cap) l.length (flatK enc l)) : RowX enc k w A l := by
  rcases h.2 with ⟨_, h0⟩ | ⟨g, cap', cur, hv, _, hg, hn, hc, hcs, htk⟩
  · exact .inl (List.eq_nil_of_length_eq_zero h0)
  · simp only [Value.slice.injEq] at hv
    obtain ⟨rfl, -, rfl⟩ := hv
    refine .inr ⟨g, 0, rfl, (Array.getElem?_eq_some_iff.1 hg).1, fun i hi j v e => ?_⟩
    have hj : j < k := by have := (List.getElem?_eq_some_iff.1 e).1; rw [hk] at this; exact this
    have h1 := flatK_get hk l i j hi hj
    have hlt : i * k + j < l.length * k := by
      have : (i + 1) * k ≤ l.length * k := Nat.mul_le_mul_right k hi
      rw [Nat.add_mul] at this
      omega
    rw [e, ← htk, List.getElem?_take_of_lt hlt] at h1
    rw [Nat.zero_add]
    simp only [World.cell?, hg]
    simpa using h1
/-- A row of its own, appended to. -/
def rowKI (enc : α → List Value) (k : Nat) (v : Value) (e : TypeId) (l : List α) : Item := rowI v e k l.length (flatK enc l)
variable {w0 w w' : World} {L : List Item}
theorem Env.rowK (h : Env w0 L w) (i : Nat) {v : Value} {e : TypeId} {l : List α} (hi : L[i]? = some (rowKI enc k v e l)) : w.ownsRow 0 e k v l.length (flatK enc l) := h.get i hi
theorem Env.cellsK [Inhabited α] (hk : ∀ x, (enc x).length = k) (h : Env w0 L w) (i : Nat) {A : Option Addr} {n cap : Nat} {e : TypeId} {l : List α} (hn : n = l.length) (hi : L[i]? = some (rowKI enc k (.slice A n cap) e l)) : RowX enc k w A l := by subst hn; exact owns_rowK hk (h.rowK i hi)
theorem Env.addEmptyK (h : Env w0 L w) (n : Nat) (hn : w.heap.size = n) (e : TypeId) : Env w0 (rowKI enc k (.slice (some ⟨n, 0, none⟩) 0 0) e [] :: L) (w.alloc (.cells #[] e)) := by
  subst hn
  have ho : (w.alloc (.cells #[] e)).ownsRow w.heap.size e k (.slice (some ⟨w.heap.size, 0, none⟩) 0 0) 0 (flatK enc []) := ⟨by simp [flatK], .inr ⟨w.heap.size, 0, #[], rfl, Nat.le_refl _, heap_alloc_new w _, Nat.le_refl _, by simp, by simp, by simp [flatK]⟩⟩
  exact h.add (rowKI enc k (.slice (some ⟨w.heap.size, 0, none⟩) 0 0) e []) ((Below.refl _ _).alloc (Nat.le_refl _) _) (ownsRow_base ho (Nat.zero_le _)) fun k hk => ho.lt k hk
/-- A row appended to a row of its own. -/
theorem Env.appendK [Inhabited α] (hk : ∀ x, (enc x).length = k) (hk0 : 0 < k) (hone : ∀ x, ∀ u ∈ enc x, u.oneCell' = true) {P : Program} (h : Env w0 L w) (i : Nat) {v : Value} {e : TypeId} {l xs : List α} (hi : L[i]? = some (rowKI enc k v e l)) (t ty : TypeId) (ht : P.underlying t = some (.slice e))
    {zz : Value} {bytes : Nat} (hzz0 : zz.cells.size = k) (hinfo : (P.info? e).map (fun i => (i.zero, i.size, i.bytes)) = some (some zz, k, bytes))
    {A : Option Addr} (c : Nat) (hx : RowX enc k w A xs) (hA : A = none → xs = []) (hz : l.length + xs.length ≤ maxLen) (hby : (l.length + xs.length) * bytes ≤ 140737488355328) :
    ∃ A' c' w', (Builtin.append_ #[t, t] ty #[v, .slice A xs.length c]).run P w = .ok (.slice A' (l.length + xs.length) c') w' ∧ Env w0 (L.set i (rowKI enc k (.slice A' (l.length + xs.length) c') e (l ++ xs))) w' := by
  obtain ⟨i0, hi0, hzz⟩ := Option.map_eq_some_iff.1 hinfo
  simp only [Prod.mk.injEq] at hzz
  obtain ⟨hz0, hs, hb⟩ := hzz
  have hown := h.rowK i hi
  obtain ⟨v', w', hrun, ho, hg, hv⟩ := run_append_rows (P := P) t ty 0 e i0 zz k bytes ht hi0 hz0 hs hb hzz0 hk0 w v l.length (flatK enc l) hown A xs.length c (flatK enc xs) (flatK_length hk xs)
    (by
      cases A with
      | none =>
        left
        have := hA rfl
        subst this
        exact ⟨rfl, rfl⟩
      | some ad => exact .inr ⟨ad, rfl, RowX.news hk hk0 hx⟩) (fun u hu => by
        obtain ⟨x, _, hx2⟩ := List.mem_flatMap.1 hu
        exact hone x u hx2) hz hby (Nat.zero_le _)
  obtain ⟨A', c', rfl⟩ := ownsRow_slice ho
  have hst : Step (fun k => v.ownBlock = some k) (fun k => (Value.slice A' (l.length + xs.length) c').ownBlock = some k) w w' := ⟨(Turn.refl _ w).grown hg fun k _ e => e, fun k hk => by
    rcases hv with e | e
    · exact .inl (by rw [← e]; exact hk)
    · right
      rw [e] at hk
      cases hk
      exact Nat.le_refl _⟩
  refine ⟨A', c', w', hrun, h.step i (rowKI enc k _ e (l ++ xs)) hi hst ?_ ?_⟩
  · show w'.ownsRow 0 e k _ (l ++ xs).length (flatK enc (l ++ xs))
    rw [List.length_append, flatK_append]
    exact ho
  · exact ownsRow_lt ho
end
end Go.Proofs.YtchcdfoncebemaaGreatDoor

/- The contract of nodes: slots that can be, each once. -/
namespace Go.Proofs.YtchcdfoncebemaaGreatDoor
open Go.RowKit Go.Maps
set_option maxRecDepth 100000

theorem encN_len (x : Nd) : (encN x).length = 4 := rfl
theorem encN_one (x : Nd) : ∀ u ∈ encN x, u.oneCell' = true := by intro u hu; simp [encN] at hu; rcases hu with rfl | rfl | rfl | rfl <;> rfl
theorem infoNd : (Tryz.prog.info? 87).map (fun i => (i.zero, i.size, i.bytes)) = some (some (.agg #[.int .i64 0, .int .u64 0, .int .u64 0, .bool false]), 4, 32) := by kernel_rfl

section
variable {w0 w : World} {L : List Item}
set_option maxHeartbeats 6400000 in
theorem nodes_t (A : Option Addr) (cap : Nat) (xs : List NdI) (hxl : xs.length ≤ 9223372036854775807) (hok : ∀ r ∈ xs, OkNdI r) (hrow : RowX encNdI 4 w0 A xs) (hE : Env w0 L w) :
    Calls Tryz.prog 9 #[.slice A xs.length cap] w fun o w' => ∃ (g : Option Addr) (c : Nat) (ns : List Nd), o = .returned (.slice g ns.length c) ∧ ns.length ≤ 40 ∧ (∀ n ∈ ns, NdOk n) ∧ (ns.map (·.s)).Nodup ∧ Env w0 (rowKI encN 4 (.slice g ns.length c) 87 ns :: L) w' := by
  have hE1 := hE.addEmptyK (enc := encN) (k := 4) w.heap.size rfl 87
  have HROW := Lib.hid hrow
  have HOK := Lib.hid hok
  clear hrow hok hE
  go_enter Tryz.func9, Tryz.ntmps9
  go_wp2_with (first | (refine list_usedM rfl rfl rfl rfl rfl _ _ rfl rfl rfl ?_; intro w2 hu))
  have hs1 : (w.alloc (.cells #[] 87)).heap.size = w.heap.size + 1 := by simp
  rw [hs1] at hu
  have hE := hE1.usedM hs1 hu
  clear hu hE1 hs1
  generalize w.heap.size = B0 at *
  go_loopw [3, 5] (fun ov iv wr => ∃ (j : Nat) (ns : List Nd) (g : Option Addr) (c : Nat) (T : Nat → Bool), ov = .slice g ns.length c ∧ iv = .int .i64 j ∧ j ≤ xs.length ∧ j ≤ 40 ∧ ns.length ≤ j ∧ Hid ((∀ n ∈ ns, NdOk n ∧ T n.s.toNat = true) ∧ (ns.map (·.s)).Nodup) ∧ Env w0 (usedMI (B0 + 1) T :: rowKI encN 4 (.slice g ns.length c) 87 ns :: L) wr) (fun _ iv _ => 40 - (intOf iv).toNat)
  case atStart => exact ⟨0, [], _, 0, _, rfl, rfl, Nat.zero_le _, by omega, Nat.le_refl _, Lib.hid ⟨by simp, by simp⟩, hE⟩
  case round =>
    clear hE
    obtain ⟨j, ns, g, c, T, rfl, rfl, hj, hj4, hnl, hinv, hE⟩ := hrel
    by_cases hlt : j < xs.length
    · by_cases hlt4 : j < 40
      · have hb1 : decide ((j : Int) < (xs.length : Int)) = true := by simp; omega
        have hb2 : decide ((j : Int) < 40) = true := by simp; omega
        have hlt1 : (j : Int) < (xs.length : Int) := by omega
        rcases HROW.out with h0 | ⟨g0, off, rfl, hgl, hc⟩
        · rw [h0] at hlt; simp at hlt
        obtain ⟨x, hx⟩ : ∃ x, xs.getD j default = x := ⟨_, rfl⟩
        have hxo : OkNdI x := HOK.out x (by rw [← hx, List.getD_eq_getElem?_getD, List.getElem?_eq_getElem hlt]; exact List.getElem_mem hlt)
        have hcj := (hc j hlt).below hE.below hgl
        rw [hx] at hcj
        obtain ⟨s, key, val, mb⟩ := x
        obtain ⟨c0, c1, c2, c3⟩ := at_NdI hcj
        obtain ⟨r, hr, hr0, hr1⟩ := cut_u1 s 1000 (by decide) (by decide)
        obtain ⟨t, rfl⟩ : ∃ t : Nat, r = (t : Int) := ⟨r.toNat, by omega⟩
        have htl : t < 1001 := by omega
        have ht2 : (t : Int) < 1001 := by omega
        obtain ⟨-, hk, hv⟩ := hxo
        dsimp only at hk hv
        have HOKN : Hid (NdOk ⟨(t : Int), key, val, mb⟩) := Lib.hid ⟨⟨hr0, hr1⟩, hk, hv⟩
        have hE6 := hE.box wr.heap.size rfl [.int .i64 t, .int .u64 key, .int .u64 val, .bool mb] 87
        have hus := ((show (usedMI (B0 + 1) T).says _ from hE6.get 1 rfl).2 t htl)
        obtain ⟨hus1, hus2⟩ := hus
        clear hx hcj hc hk hv hr0 hr1
        cases hT : T t
        · rw [hT] at hus1
          have hE8 := hE6.markM 1 rfl htl
          simp only [List.set_cons_succ, List.set_cons_zero] at hE8
          have r8 := hE8.rule 0 rfl
          have hE9 := hE8.box (wr.heap.size + 1) (by simp) (encN ⟨(t : Int), key, val, mb⟩) 87
          obtain ⟨A9, c9, w9, hrun, hE10⟩ := hE9.appendK (xs := [(⟨(t : Int), key, val, mb⟩ : Nd)]) encN_len (by decide) encN_one 3 rfl 22 22 Tryz.underlying22 rfl infoNd 1 (Blk.rowK (enc := encN) (k := 4) encN_len (l := [(⟨(t : Int), key, val, mb⟩ : Nd)]) (show Blk 0 _ _ (flatK encN [(⟨(t : Int), key, val, mb⟩ : Nd)]) from hE9.get 0 rfl)) (fun h => by cases h) (by unfold maxLen; simp; omega) (by simp; omega)
          have HRUN := Lib.hid hrun
          have HINV : Hid ((∀ n ∈ ns ++ [(⟨(t : Int), key, val, mb⟩ : Nd)], NdOk n ∧ (fun k => T k || decide (k = t)) n.s.toNat = true) ∧ ((ns ++ [(⟨(t : Int), key, val, mb⟩ : Nd)]).map (·.s)).Nodup) := Lib.hid (by
            obtain ⟨h1, h2⟩ := hinv.out
            refine ⟨fun n hn => ?_, ?_⟩
            · rcases List.mem_append.1 hn with hn | hn
              · exact ⟨(h1 n hn).1, by simp [(h1 n hn).2]⟩
              · simp only [List.mem_singleton] at hn
                subst hn
                exact ⟨HOKN.out, by simp⟩
            · rw [List.map_append, List.nodup_append]
              refine ⟨h2, by simp, ?_⟩
              intro a ha b hb hab
              simp only [List.map_cons, List.map_nil, List.mem_singleton] at hb
              subst hab hb
              obtain ⟨n, hn, he⟩ := List.mem_map.1 ha
              have h3 := (h1 n hn).2
              rw [he] at h3
              rw [show ((t : Int)).toNat = t from by simp, hT] at h3
              exact absurd h3 (by simp))
          clear hrun hE9 hE hinv
          go_wp2_with (first | (at_builtin; refine wpList_append_run rfl _ _ 22 rfl HRUN.out rfl rfl ?_))
          refine ⟨⟨j + 1, ns ++ [⟨(t : Int), key, val, mb⟩], A9, c9, (fun k => T k || decide (k = t)), by simp, by simp, by omega, by omega, by simp; omega, HINV, ?_⟩, by simp [intOf]; omega⟩
          have h9 := hE10.sub (.cons _ (.cons _ (List.Sublist.refl _)))
          simpa using h9
        · rw [hT] at hus1
          go_wp2_with fail
          exact ⟨⟨j + 1, ns, g, c, T, rfl, by simp, by omega, by omega, by omega, hinv, hE6.sub (.cons _ (List.Sublist.refl _))⟩, by simp [intOf]; omega⟩
      · have hb1 : decide ((j : Int) < (xs.length : Int)) = true := by simp; omega
        have hb2 : decide ((j : Int) < 40) = false := by simp; omega
        go_wp2_with fail
        go_ret
        exact ⟨g, c, ns, rfl, by omega, fun n hn => (hinv.out.1 n hn).1, hinv.out.2, hE.sub (.cons _ (List.Sublist.refl _))⟩
    · have hb1 : decide ((j : Int) < (xs.length : Int)) = false := by simp; omega
      go_wp2_with fail
      go_ret
      exact ⟨g, c, ns, rfl, by omega, fun n hn => (hinv.out.1 n hn).1, hinv.out.2, hE.sub (.cons _ (List.Sublist.refl _))⟩
end
end Go.Proofs.YtchcdfoncebemaaGreatDoor

/- The contract of sorted: slots that can be, each once. -/
namespace Go.Proofs.YtchcdfoncebemaaGreatDoor
open Go.RowKit Go.Maps
set_option maxRecDepth 100000

theorem flatN_set : ∀ (l : List Nd) (j : Nat) (a : Nd), j < l.length → flatK encN (l.set j a) = ((((flatK encN l).set (j * 4) (.int .i64 a.s)).set (j * 4 + 1) (.int .u64 a.key)).set (j * 4 + 2) (.int .u64 a.val)).set (j * 4 + 3) (.bool a.mb)
  | [], j, a, h => absurd h (by simp)
  | n :: r, 0, a, _ => by simp [flatK, encN]
  | n :: r, j + 1, a, h => by
    have ih := flatN_set r j a (by simpa using h)
    have e : ∀ l, flatK encN (n :: l) = .int .i64 n.s :: .int .u64 n.key :: .int .u64 n.val :: .bool n.mb :: flatK encN l := fun l => by simp [flatK, encN]
    rw [List.set_cons_succ, e, e, ih]
    simp only [show (j + 1) * 4 = j * 4 + 4 by omega, show j * 4 + 4 + 1 = j * 4 + 1 + 4 by omega, show j * 4 + 4 + 2 = j * 4 + 2 + 4 by omega, show j * 4 + 4 + 3 = j * 4 + 3 + 4 by omega]
    rfl
theorem flatN_mark : ∀ (l : List Nd) (j : Nat), j < l.length → flatK encN (l.set j { l.getD j default with mb := true }) = (flatK encN l).set (j * 4 + 3) (.bool true)
  | [], j, h => absurd h (by simp)
  | n :: r, 0, _ => by simp [flatK, encN]
  | n :: r, j + 1, h => by
    have ih := flatN_mark r j (by simpa using h)
    have e : ∀ l, flatK encN (n :: l) = .int .i64 n.s :: .int .u64 n.key :: .int .u64 n.val :: .bool n.mb :: flatK encN l := fun l => by simp [flatK, encN]
    rw [List.set_cons_succ, e, e, List.getD_cons_succ, ih]
    simp only [show (j + 1) * 4 + 3 = j * 4 + 3 + 4 by omega]
    rfl
/-- Two that stand side by side change places. -/
def swpN (l : List Nd) (t : Nat) : List Nd := (l.set (t + 1) (l.getD t default)).set t (l.getD (t + 1) default)
theorem swpN_perm : ∀ (l : List Nd) (t : Nat), t + 1 < l.length → (swpN l t).Perm l
  | [], _, h => absurd h (by simp)
  | [_], _, h => absurd h (by simp)
  | a :: b :: r, 0, _ => by simpa [swpN] using List.Perm.swap a b r
  | a :: b :: r, t + 1, h => by
    have := swpN_perm (b :: r) t (by simpa using h)
    exact this.cons a
theorem swpN_length (l : List Nd) (t : Nat) : (swpN l t).length = l.length := by simp [swpN]
/-- Slots that can be, each once. -/
def GoodN (ns : List Nd) : Prop := (∀ n ∈ ns, NdOk n) ∧ (ns.map (·.s)).Nodup
theorem GoodN.perm {a b : List Nd} (h : GoodN b) (hp : a.Perm b) : GoodN a := ⟨fun n hn => h.1 n (hp.mem_iff.1 hn), (hp.map (·.s)).nodup_iff.2 h.2⟩
theorem mark_slots : ∀ (l : List Nd) (j : Nat), (l.set j { l.getD j default with mb := true }).map (·.s) = l.map (·.s)
  | [], _ => rfl
  | _ :: _, 0 => rfl
  | n :: r, j + 1 => by
    have := mark_slots r j
    simpa using this
theorem mark_ok : ∀ (l : List Nd) (j : Nat), (∀ n ∈ l, NdOk n) → ∀ n ∈ l.set j { l.getD j default with mb := true }, NdOk n
  | [], _, h => h
  | a :: r, 0, h => fun n hn => by
    rcases List.mem_cons.1 hn with e | e
    · rw [e]; exact h a (List.mem_cons_self ..)
    · exact h n (List.mem_cons_of_mem _ e)
  | a :: r, j + 1, h => fun n hn => by
    rcases List.mem_cons.1 hn with e | e
    · rw [e]; exact h a (List.mem_cons_self ..)
    · exact mark_ok r j (fun m hm => h m (List.mem_cons_of_mem _ hm)) n e
theorem GoodN.mark {l : List Nd} (h : GoodN l) (j : Nat) : GoodN (l.set j { l.getD j default with mb := true }) := ⟨mark_ok l j h.1, by rw [mark_slots]; exact h.2⟩

section
variable {w0 w : World} {L : List Item}
/-- One of a row is written. -/
theorem Env.setN (h : Env w0 L w) (i : Nat) {g cap n : Nat} {e : TypeId} {l : List Nd} (hn : n = l.length) (hi : L[i]? = some (rowKI encN 4 (.slice (some ⟨g, 0, none⟩) n cap) e l)) {j : Nat} (hj : j < l.length) (a : Nd) :
    Env w0 (L.set i (rowKI encN 4 (.slice (some ⟨g, 0, none⟩) n cap) e (l.set j a))) ((((w.setCell ⟨g, j * 4, none⟩ (.int .i64 a.s)).setCell ⟨g, j * 4 + 1, none⟩ (.int .u64 a.key)).setCell ⟨g, j * 4 + 2, none⟩ (.int .u64 a.val)).setCell ⟨g, j * 4 + 3, none⟩ (.bool a.mb)) := by
  subst hn
  have ho := h.rowK i hi
  refine h.step i (rowKI encN 4 (.slice (some ⟨g, 0, none⟩) l.length cap) e (l.set j a)) hi ⟨((((Turn.refl (fun k => (Value.slice (some ⟨g, 0, none⟩) l.length cap).ownBlock = some k) w).setCell (p := ⟨g, j * 4, none⟩) (fun _ => rfl) _).setCell (p := ⟨g, j * 4 + 1, none⟩) (fun _ => rfl) _).setCell (p := ⟨g, j * 4 + 2, none⟩) (fun _ => rfl) _).setCell (p := ⟨g, j * 4 + 3, none⟩) (fun _ => rfl) _, fun k hk => .inl hk⟩ ?_ fun k hk => by
    have := h.lt i hi k hk
    simpa using this
  show World.ownsRow _ 0 e 4 _ (l.set j a).length (flatK encN (l.set j a))
  rw [flatN_set l j a hj, List.length_set]
  exact ((((ho.stored _ _).1.stored _ _).1.stored _ _).1.stored _ _).1
theorem Env.markN (h : Env w0 L w) (i : Nat) {g cap n : Nat} {e : TypeId} {l : List Nd} (hn : n = l.length) (hi : L[i]? = some (rowKI encN 4 (.slice (some ⟨g, 0, none⟩) n cap) e l)) {j : Nat} (hj : j < l.length) :
    Env w0 (L.set i (rowKI encN 4 (.slice (some ⟨g, 0, none⟩) n cap) e (l.set j { l.getD j default with mb := true }))) (w.setCell ⟨g, j * 4 + 3, none⟩ (.bool true)) := by
  subst hn
  have ho := h.rowK i hi
  refine h.step i (rowKI encN 4 (.slice (some ⟨g, 0, none⟩) l.length cap) e (l.set j { l.getD j default with mb := true })) hi ⟨(Turn.refl (fun k => (Value.slice (some ⟨g, 0, none⟩) l.length cap).ownBlock = some k) w).setCell (p := ⟨g, j * 4 + 3, none⟩) (fun _ => rfl) _, fun k hk => .inl hk⟩ ?_ fun k hk => by
    have := h.lt i hi k hk
    simpa using this
  show World.ownsRow _ 0 e 4 _ (l.set j { l.getD j default with mb := true }).length (flatK encN (l.set j { l.getD j default with mb := true }))
  rw [flatN_mark l j hj, List.length_set]
  exact (ho.stored _ _).1
/-- Where a row lies that holds something. -/
theorem Env.atN (h : Env w0 L w) (i : Nat) {A : Option Addr} {n cap : Nat} {e : TypeId} {l : List Nd} (hn : n = l.length) (hi : L[i]? = some (rowKI encN 4 (.slice A n cap) e l)) (h0 : 0 < n) : ∃ g, A = some ⟨g, 0, none⟩ := by
  subst hn
  rcases (h.rowK i hi).2 with ⟨-, h9⟩ | ⟨g, _, _, hv, _⟩
  · omega
  · simp only [Value.slice.injEq] at hv
    exact ⟨g, hv.1⟩
theorem Env.cellN (h : Env w0 L w) (i : Nat) {g n cap : Nat} {e : TypeId} {l : List Nd} (hn : n = l.length) (hi : L[i]? = some (rowKI encN 4 (.slice (some ⟨g, 0, none⟩) n cap) e l)) {j : Nat} (hj : j < l.length) {x : Nd} (hx : l.getD j default = x) :
    w.cell? ⟨g, j * 4, none⟩ = some (.int .i64 x.s) ∧ w.cell? ⟨g, j * 4 + 1, none⟩ = some (.int .u64 x.key) ∧ w.cell? ⟨g, j * 4 + 2, none⟩ = some (.int .u64 x.val) ∧ w.cell? ⟨g, j * 4 + 3, none⟩ = some (.bool x.mb) := by
  rcases h.cellsK encN_len i hn hi with h0 | ⟨g', off', h9, -, hc⟩
  · rw [h0] at hj; exact absurd hj (by simp)
  · cases h9
    have := at4N (hc j hj)
    rw [hx, Nat.zero_add] at this
    exact this

set_option maxHeartbeats 6400000 in
theorem sorted_t (A : Option Addr) (cap : Nat) (xs : List NdI) (hxl : xs.length ≤ 9223372036854775807) (hok : ∀ r ∈ xs, OkNdI r) (hrow : RowX encNdI 4 w0 A xs) (hE : Env w0 L w) :
    Calls Tryz.prog 34 #[.slice A xs.length cap] w fun o w' => ∃ (g : Option Addr) (c : Nat) (ns : List Nd), o = .returned (.slice g ns.length c) ∧ ns.length ≤ 40 ∧ GoodN ns ∧ Env w0 (rowKI encN 4 (.slice g ns.length c) 87 ns :: L) w' := by
  have HN := Lib.hid (nodes_t A cap xs hxl hok hrow hE)
  clear hok hrow hE hxl
  go_enter Tryz.func34, Tryz.ntmps34
  go_wp2_with fail
  refine HN.out.mono ?_
  rintro o w1 ⟨g, c, ns0, rfl, hn40, hnok, hnd, hE⟩
  have HG0 : Hid (GoodN ns0) := Lib.hid ⟨hnok, hnd⟩
  obtain ⟨N, hN⟩ : ∃ N, ns0.length = N := ⟨_, rfl⟩
  rw [hN] at hE hn40 ⊢
  have HN0 := Lib.hid hN
  clear hnok hnd HN hN
  go_wp2_with fail
  go_loopw [4] (fun iv wr => ∃ (j : Nat) (ns : List Nd), iv = .int .i64 j ∧ j ≤ 41 ∧ Hid (ns.length = N) ∧ Hid (GoodN ns) ∧ Env w0 (rowKI encN 4 (.slice g N c) 87 ns :: L) wr) (fun iv _ => 41 - (intOf iv).toNat)
  case atStart => exact ⟨1, ns0, rfl, by omega, HN0, HG0, hE⟩
  case round =>
    clear hE HG0 HN0
    obtain ⟨j, ns, rfl, hj, hns, hg, hE⟩ := hrel
    by_cases hlt : j < N
    · have hb1 : decide ((j : Int) < (N : Int)) = true := by simp; omega
      obtain ⟨b, rfl⟩ := hE.atN 0 hns.out.symm rfl (by omega)
      go_wp2_with fail
      go_loopw [5] (fun kv wr => ∃ (t : Nat) (ns : List Nd), kv = .int .i64 t ∧ t < N ∧ Hid (ns.length = N) ∧ Hid (GoodN ns) ∧ Env w0 (rowKI encN 4 (.slice (some ⟨b, 0, none⟩) N c) 87 ns :: L) wr) (fun kv _ => (intOf kv).toNat)
      case atStart => exact ⟨j, ns, rfl, hlt, hns, hg, hE⟩
      case round =>
        clear hE hg hns
        obtain ⟨t, ns, rfl, ht, hns, hg, hE⟩ := hrel
        rcases Nat.eq_zero_or_pos t with rfl | ht0
        · have hb2 : decide (((0 : Nat) : Int) > 0) = false := rfl
          have hb3 : decide ((0 : Int) > 0) = false := rfl
          go_wp2_with fail
          refine wp_text (S := (Env w0 (rowKI encN 4 (.slice (some ⟨b, 0, none⟩) N c) 87 ns :: L))) (by kernel_rfl) (by kernel_rfl) hE.drew (fun hT => ?_)
          have hT9 := Lib.hid hT
          clear hT
          repeat (first
            | (refine text_value (v := ?_) hT9.out (by rfl) ?_ ?_; rotate_left; (focus (intro w5 hS; skip; go_simp <;> with_reducible rfl)); (try simp only [Act.put, List.setIfInBounds_toArray, List.set_cons_zero, List.set_cons_succ]))
            | (refine text_off hT9.out (by rfl) ?_; (try simp only [Act.put, List.setIfInBounds_toArray, List.set_cons_zero, List.set_cons_succ]))
            | (refine text_call (v := ?_) (f := ?_) (args := ?_) hT9.out (by rfl) ?_ ?_ ?_; rotate_left 3; (focus (intro w5 hS; skip; go_simp; constructor <;> with_reducible rfl)); (focus (intro w5 hS; (first | fail))); (try simp only [Act.put, List.setIfInBounds_toArray, List.set_cons_zero, List.set_cons_succ])))
          refine InText.nil fun w5 hS5 => ?_
          clear hT9
          go_wp2_with fail
          exact ⟨⟨j + 1, ns, by simp, by omega, hns, hg, hS5⟩, by simp [intOf]; omega⟩
        · obtain ⟨s, rfl⟩ : ∃ s, t = s + 1 := ⟨t - 1, by omega⟩
          have hb2 : decide (((s : Int) + 1) > 0) = true := by rw [decide_eq_true_iff]; omega
          have hsN : s < N := by omega
          have hs1 : (s : Int) < (N : Int) := by omega
          have hs2 : (s : Int) + 1 < (N : Int) := by omega
          have hq2 : (0 : Int) ≤ (s : Int) + 1 := by omega
          have hq3 : s + 1 < N := ht
          have hq4 : (s : Int) ≤ (N : Int) := by omega
          obtain ⟨x, hx⟩ : ∃ x, ns.getD (s + 1) default = x := ⟨_, rfl⟩
          obtain ⟨y, hy⟩ : ∃ y, ns.getD s default = y := ⟨_, rfl⟩
          have HA : Hid (∀ v, Env w0 (rowKI encN 4 (.slice (some ⟨b, 0, none⟩) N c) 87 ns :: L) v → v.cell? ⟨b, (s + 1) * 4, none⟩ = some (.int .i64 x.s) ∧ v.cell? ⟨b, (s + 1) * 4 + 1, none⟩ = some (.int .u64 x.key) ∧ v.cell? ⟨b, (s + 1) * 4 + 2, none⟩ = some (.int .u64 x.val) ∧ v.cell? ⟨b, (s + 1) * 4 + 3, none⟩ = some (.bool x.mb)) := Lib.hid fun v hv => hv.cellN 0 hns.out.symm rfl (by rw [hns.out]; exact ht) hx
          have HB : Hid (∀ v, Env w0 (rowKI encN 4 (.slice (some ⟨b, 0, none⟩) N c) 87 ns :: L) v → v.cell? ⟨b, s * 4, none⟩ = some (.int .i64 y.s) ∧ v.cell? ⟨b, s * 4 + 1, none⟩ = some (.int .u64 y.key) ∧ v.cell? ⟨b, s * 4 + 2, none⟩ = some (.int .u64 y.val) ∧ v.cell? ⟨b, s * 4 + 3, none⟩ = some (.bool y.mb)) := Lib.hid fun v hv => hv.cellN 0 hns.out.symm rfl (by rw [hns.out]; exact hsN) hy
          have HX := Lib.hid hx
          have HY := Lib.hid hy
          have hwk : IntKind.i64.wrap (s : Int) = (s : Int) := by rw [IntKind.wrap_i64]; omega
          have hwj : wrap64 (s : Int) = (s : Int) := w64 _ (by omega)
          clear hx hy
          obtain ⟨xs9, xk, xv, xm⟩ := x
          obtain ⟨ys9, yk, yv, ym⟩ := y
          dsimp only at HA HB
          obtain ⟨q, hq⟩ : ∃ q, decide (xk < yk) = q := ⟨_, rfl⟩
          go_wp2_with fail
          refine wp_text (S := (Env w0 (rowKI encN 4 (.slice (some ⟨b, 0, none⟩) N c) 87 ns :: L))) (by kernel_rfl) (by kernel_rfl) hE.drew (fun hT => ?_)
          have hT9 := Lib.hid hT
          clear hT
          repeat (first
            | (refine text_value (v := ?_) hT9.out (by rfl) ?_ ?_; rotate_left; (focus (intro w5 hS; obtain ⟨a0, a1, a2, a3⟩ := HA.out _ hS; obtain ⟨b0, b1, b2, b3⟩ := HB.out _ hS; go_simp <;> with_reducible rfl)); (try simp only [Act.put, List.setIfInBounds_toArray, List.set_cons_zero, List.set_cons_succ]))
            | (refine text_off hT9.out (by rfl) ?_; (try simp only [Act.put, List.setIfInBounds_toArray, List.set_cons_zero, List.set_cons_succ]))
            | (refine text_call (v := ?_) (f := ?_) (args := ?_) hT9.out (by rfl) ?_ ?_ ?_; rotate_left 3; (focus (intro w5 hS; obtain ⟨a0, a1, a2, a3⟩ := HA.out _ hS; obtain ⟨b0, b1, b2, b3⟩ := HB.out _ hS; go_simp; constructor <;> with_reducible rfl)); (focus (intro w5 hS; (first | fail))); (try simp only [Act.put, List.setIfInBounds_toArray, List.set_cons_zero, List.set_cons_succ])))
          refine InText.nil fun w5 hS5 => ?_
          clear hT9
          obtain ⟨a0, a1, a2, a3⟩ := HA.out _ hS5
          obtain ⟨b0, b1, b2, b3⟩ := HB.out _ hS5
          cases q
          · go_wp2_with fail
            exact ⟨⟨j + 1, ns, by simp, by omega, hns, hg, hS5⟩, by simp [intOf]; omega⟩
          · have hown := hS5.rowK 0 rfl
            rw [hns.out] at hown
            have hb5 : b < w5.heap.size := (hown.lt b rfl).2
            have zW : ∀ i, w5.frozen? ⟨b, i, none⟩ = false := fun i => hown.frozenAt i
            clear hown
            go_wp2_with fail
            have h1 := hS5.setN 0 hns.out.symm rfl (j := s + 1) (by rw [hns.out]; exact ht) ⟨ys9, yk, yv, ym⟩
            have h2 := h1.setN 0 (by simp [hns.out]) rfl (j := s) (by rw [List.length_set, hns.out]; exact hsN) ⟨xs9, xk, xv, xm⟩
            have h3 := h2.over ((Below.refl _ _).alloc (Nat.le_refl _) (.cells #[.int .i64 xs9, .int .u64 xk, .int .u64 xv, .bool xm] 87))
            have hsw : swpN ns s = (ns.set (s + 1) ⟨ys9, yk, yv, ym⟩).set s ⟨xs9, xk, xv, xm⟩ := by unfold swpN; rw [HX.out, HY.out]
            refine ⟨⟨s, swpN ns s, rfl, hsN, Lib.hid (by rw [swpN_length]; exact hns.out), Lib.hid (hg.out.perm (swpN_perm ns s (by rw [hns.out]; exact ht))), ?_⟩, by simp [intOf]⟩
            rw [hsw]
            exact h3
    · have hb1 : decide ((j : Int) < (N : Int)) = false := by simp; omega
      go_wp2_with fail
      go_loopw [7] (fun iv wr => ∃ (j : Nat) (ns : List Nd), iv = .int .i64 j ∧ 1 ≤ j ∧ j ≤ 41 ∧ Hid (ns.length = N) ∧ Hid (GoodN ns) ∧ Env w0 (rowKI encN 4 (.slice g N c) 87 ns :: L) wr) (fun iv _ => 41 - (intOf iv).toNat)
      case atStart => exact ⟨1, ns, rfl, by omega, by omega, hns, hg, hE⟩
      case round =>
        clear hE hg hns hb1 hlt hj
        obtain ⟨j1, ns, rfl, hj0, hj, hns, hg, hE⟩ := hrel
        by_cases hlt : j1 < N
        · obtain ⟨s, rfl⟩ : ∃ s, j1 = s + 1 := ⟨j1 - 1, by omega⟩
          have hb1 : decide (((s : Int) + 1) < (N : Int)) = true := by rw [decide_eq_true_iff]; omega
          obtain ⟨b, rfl⟩ := hE.atN 0 hns.out.symm rfl (by omega)
          have hsN : s < N := by omega
          have hs1 : (s : Int) < (N : Int) := by omega
          have hs2 : (s : Int) + 1 < (N : Int) := by omega
          have hq2 : (0 : Int) ≤ (s : Int) + 1 := by omega
          have hq3 : s + 1 < N := hlt
          have hq4 : (s : Int) ≤ (N : Int) := by omega
          obtain ⟨x, hx⟩ : ∃ x, ns.getD (s + 1) default = x := ⟨_, rfl⟩
          obtain ⟨y, hy⟩ : ∃ y, ns.getD s default = y := ⟨_, rfl⟩
          have HA : Hid (∀ v, Env w0 (rowKI encN 4 (.slice (some ⟨b, 0, none⟩) N c) 87 ns :: L) v → v.cell? ⟨b, (s + 1) * 4, none⟩ = some (.int .i64 x.s) ∧ v.cell? ⟨b, (s + 1) * 4 + 1, none⟩ = some (.int .u64 x.key) ∧ v.cell? ⟨b, (s + 1) * 4 + 2, none⟩ = some (.int .u64 x.val) ∧ v.cell? ⟨b, (s + 1) * 4 + 3, none⟩ = some (.bool x.mb)) := Lib.hid fun v hv => hv.cellN 0 hns.out.symm rfl (by rw [hns.out]; exact hlt) hx
          have HB : Hid (∀ v, Env w0 (rowKI encN 4 (.slice (some ⟨b, 0, none⟩) N c) 87 ns :: L) v → v.cell? ⟨b, s * 4, none⟩ = some (.int .i64 y.s) ∧ v.cell? ⟨b, s * 4 + 1, none⟩ = some (.int .u64 y.key) ∧ v.cell? ⟨b, s * 4 + 2, none⟩ = some (.int .u64 y.val) ∧ v.cell? ⟨b, s * 4 + 3, none⟩ = some (.bool y.mb)) := Lib.hid fun v hv => hv.cellN 0 hns.out.symm rfl (by rw [hns.out]; exact hsN) hy
          have hwk : IntKind.i64.wrap (s : Int) = (s : Int) := by rw [IntKind.wrap_i64]; omega
          have hwj : wrap64 (s : Int) = (s : Int) := w64 _ (by omega)
          clear hx hy
          obtain ⟨xs9, xk, xv, xm⟩ := x
          obtain ⟨ys9, yk, yv, ym⟩ := y
          dsimp only at HA HB
          obtain ⟨q, hq⟩ : ∃ q, (xk == yk) = q := ⟨_, rfl⟩
          go_wp2_with fail
          refine wp_text (S := (Env w0 (rowKI encN 4 (.slice (some ⟨b, 0, none⟩) N c) 87 ns :: L))) (by kernel_rfl) (by kernel_rfl) hE.drew (fun hT => ?_)
          have hT9 := Lib.hid hT
          clear hT
          repeat (first
            | (refine text_value (v := ?_) hT9.out (by rfl) ?_ ?_; rotate_left; (focus (intro w5 hS; obtain ⟨a0, a1, a2, a3⟩ := HA.out _ hS; obtain ⟨b0, b1, b2, b3⟩ := HB.out _ hS; go_simp <;> with_reducible rfl)); (try simp only [Act.put, List.setIfInBounds_toArray, List.set_cons_zero, List.set_cons_succ]))
            | (refine text_off hT9.out (by rfl) ?_; (try simp only [Act.put, List.setIfInBounds_toArray, List.set_cons_zero, List.set_cons_succ]))
            | (refine text_call (v := ?_) (f := ?_) (args := ?_) hT9.out (by rfl) ?_ ?_ ?_; rotate_left 3; (focus (intro w5 hS; obtain ⟨a0, a1, a2, a3⟩ := HA.out _ hS; obtain ⟨b0, b1, b2, b3⟩ := HB.out _ hS; go_simp; constructor <;> with_reducible rfl)); (focus (intro w5 hS; (first | fail))); (try simp only [Act.put, List.setIfInBounds_toArray, List.set_cons_zero, List.set_cons_succ])))
          refine InText.nil fun w5 hS5 => ?_
          clear hT9
          cases q
          · go_wp2_with fail
            exact ⟨⟨s + 1 + 1, ns, by simp, by omega, by omega, hns, hg, hS5⟩, by simp [intOf]; omega⟩
          · have hown := hS5.rowK 0 rfl
            rw [hns.out] at hown
            have hb5 : b < w5.heap.size := (hown.lt b rfl).2
            have zW : ∀ i, w5.frozen? ⟨b, i, none⟩ = false := fun i => hown.frozenAt i
            obtain ⟨b0, b1, b2, b3⟩ := HB.out _ hS5
            clear hown
            go_wp2_with fail
            have h1 := hS5.markN 0 hns.out.symm rfl (j := s) (by rw [hns.out]; exact hsN)
            exact ⟨⟨s + 1 + 1, ns.set s { ns.getD s default with mb := true }, by simp, by omega, by omega, Lib.hid (by rw [List.length_set]; exact hns.out), Lib.hid (hg.out.mark s), h1⟩, by simp [intOf]; omega⟩
        · have hb1 : decide ((j1 : Int) < (N : Int)) = false := by rw [decide_eq_false_iff_not]; omega
          go_wp2_with fail
          go_ret
          have hnn := hns.out
          subst hnn
          exact ⟨g, c, ns, rfl, hn40, hg.out, hE⟩
end
end Go.Proofs.YtchcdfoncebemaaGreatDoor

/- The reference's thread: contracts. -/
namespace Go.Proofs.YtchcdfoncebemaaGreatDoor
open Go.RowKit Go.Maps
set_option maxRecDepth 100000

section
variable {w0 w : World} {L : List Item} {u m n c : Nat} {F : Nat → Prop} {ml : List OneR} {A : Option Addr} {k s b h l e N hs r : Int}
set_option maxHeartbeats 1600000 in
theorem rcheck_w (x : Int) (hmx : getL ml (1, 0, 0) = x) (hx : InU x) (hml : ml.length ≤ 1000000) (i j : Nat) (hE : Env w0 L w) (hi : L[i]? = some (boxI u (urv k s b h l e A n c N hs r))) (hj : L[j]? = some (refI m F ml)) :
    Calls Tryz.prog 29 #[.pointer (some ⟨u, 0, none⟩), .pointer (some ⟨m, 0, none⟩)] w fun o w' => o = .returned (.tuple #[]) ∧ Env w0 (L.set i (boxI u (urv k s b h l (epI x) A n c N hs r))) w' := by
  have hil : i < L.length := (List.getElem?_eq_some_iff.1 hi).1
  unfold InU at hx
  have hq : (x ≤ 9223372036854775807 ∧ epI x = x ∧ decide (x < 9223372036854775808) = true) ∨ (9223372036854775807 < x ∧ epI x = 0 ∧ decide (x < 9223372036854775808) = false) := by
    unfold epI
    by_cases h : x ≤ 9223372036854775807
    · left; refine ⟨h, by rw [if_pos h], by simp; omega⟩
    · right; refine ⟨by omega, by rw [if_neg h], by simp; omega⟩
  generalize epI x = y at *
  have HQ := Lib.hid hq
  have HX := Lib.hid hx
  clear hq hx
  go_enter Tryz.func29, Tryz.ntmps29
  go_wp2_with fail
  refine (epoch13_any _).mono ?_
  rintro o w1 ⟨rfl, hb⟩
  replace hE := hE.over hb
  clear hb
  go_wp2_with fail
  refine (refGet_any 1 0 0 hml (hE.ref j hj)).mono ?_
  rintro o w2 ⟨rfl, hb⟩
  rw [hmx]
  replace hE := hE.over hb
  clear hb
  have rc := hE.rule i hi
  have ff := hE.thaw i hi
  have f5 := ff 5 (by simp [urv])
  clear ff
  unfold urv at rc
  rcases HQ.out with ⟨q0, q1, q2⟩ | ⟨q0, q1, q2⟩
  · have hw : wrap64 x = x := w64 _ (by have := HX.out; omega)
    subst q1
    clear HQ HX
    go_wp2_with fail
    go_end0
    have hE1 := hE.put i hi (j := 5) (by simp [urv]) (.int .i64 0)
    have hE2 := hE1.put i (by rw [List.getElem?_set_self hil]) (j := 5) (by simp [urv]) (.int .i64 y)
    rw [List.set_set] at hE2
    exact ⟨rfl, hE2⟩
  · subst q1
    clear HQ HX
    go_wp2_with fail
    go_end0
    exact ⟨rfl, hE.put i hi (j := 5) (by simp [urv]) (.int .i64 0)⟩

end
end Go.Proofs.YtchcdfoncebemaaGreatDoor

/- The reference's thread: contracts. -/
namespace Go.Proofs.YtchcdfoncebemaaGreatDoor
open Go.RowKit Go.Maps
set_option maxRecDepth 100000

theorem ok_wrap {x e : Int} (hx : InU x) (h0 : 0 ≤ e) (h1 : e ≤ 9223372036854775807) : (x == IntKind.u64.wrap e) = okB x e := by
  unfold InU at hx
  have hw : IntKind.u64.wrap e = e := by rw [IntKind.wrap_u64]; omega
  rw [hw]
  unfold okB epB epI
  by_cases h : x ≤ 9223372036854775807
  · simp [h]
  · simp [h]; omega
section
variable {w0 w : World} {L : List Item} {u m n c : Nat} {F : Nat → Prop} {ml : List OneR} {A : Option Addr} {k s b h l e N hs r : Int}
set_option maxHeartbeats 1600000 in
theorem rvalid_w (x : Int) (hmx : getL ml (1, 0, 0) = x) (hx : InU x) (h0 : 0 ≤ e) (h1 : e ≤ 9223372036854775807) (hml : ml.length ≤ 1000000) (i j : Nat) (hE : Env w0 L w) (hi : L[i]? = some (boxI u (urv k s b h l e A n c N hs r))) (hj : L[j]? = some (refI m F ml)) :
    Calls Tryz.prog 65 #[.pointer (some ⟨u, 0, none⟩), .pointer (some ⟨m, 0, none⟩)] w fun o w' => o = .returned (.bool (okB x e)) ∧ Env w0 (L.set i (boxI u (urv k s b h l e A n c N hs (if okB x e then r else wrap64 (r + 1))))) w' := by
  have hok := ok_wrap hx h0 h1
  have hsame : ∀ w', Env w0 L w' → Env w0 (L.set i (boxI u (urv k s b h l e A n c N hs r))) w' := fun w' h => by
    rw [set_same hi]; exact h
  have HS := Lib.hid hsame
  clear hsame hx
  generalize hR : (if okB x e then r else wrap64 (r + 1)) = R
  generalize okB x e = B at *
  have HR := Lib.hid hR
  have HCB : Hid (∀ v, Env w0 L v → ∀ z, v.cell? ⟨u, z, none⟩ = (urv k s b h l e A n c N hs r)[z]?) := Lib.hid fun v hv => hv.rule i hi
  unfold urv at HCB
  have HGC : Hid (∀ v, Env w0 L v → Calls Tryz.prog 50 #[.pointer (some ⟨m, 0, none⟩), .agg #[.int .i64 1, .int .i64 0, .int .i64 0]] v fun o w' => o = .returned (.int .u64 x) ∧ Below v.heap.size v w') := Lib.hid fun v hv => by
    have := refGet_any 1 0 0 hml (hv.ref j hj)
    rw [hmx] at this
    exact this
  have HOK := Lib.hid hok
  clear hR hok hmx
  go_enter Tryz.func65, Tryz.ntmps65
  go_wp2_with fail
  have hok := HOK.out
  refine wp_text (S := (Env w0 L)) (by kernel_rfl) (by kernel_rfl) hE.drew (fun hT => ?_)
  have hT9 := Lib.hid hT
  clear hT
  repeat (first
    | (refine text_value (v := ?_) hT9.out (by rfl) ?_ ?_; rotate_left; (focus (intro w5 hS; have r1 := HCB.out _ hS; go_simp <;> with_reducible rfl)); (try simp only [Act.put, List.setIfInBounds_toArray, List.set_cons_zero, List.set_cons_succ]))
    | (refine text_off hT9.out (by rfl) ?_; (try simp only [Act.put, List.setIfInBounds_toArray, List.set_cons_zero, List.set_cons_succ]))
    | (refine text_call (v := ?_) (f := ?_) (args := ?_) hT9.out (by rfl) ?_ ?_ ?_; rotate_left 3; (focus (intro w5 hS; have r1 := HCB.out _ hS; go_simp; constructor <;> with_reducible rfl)); (focus (intro w5 hS; (first | (with_reducible refine (epoch13_any _).mono ?_; rintro o w6 ⟨rfl, hb5⟩; constructor; with_reducible rfl; exact hS.over hb5) | (with_reducible refine (HGC.out _ hS).mono ?_; rintro o w6 ⟨rfl, hb5⟩; constructor; with_reducible rfl; exact hS.over hb5)))); (try simp only [Act.put, List.setIfInBounds_toArray, List.set_cons_zero, List.set_cons_succ])))
  refine InText.nil fun w5 hS5 => ?_
  clear hT9
  clear hE
  have HE := Lib.hid hS5
  clear hS5
  cases B
  · have HR2 := HR.out
    simp only [Bool.false_eq_true, if_false] at HR2
    subst HR2
    have hE := HE.out
    have r1 := HCB.out _ hE
    have ff := hE.thaw i hi
    have f9 := ff 9 (by simp [urv])
    clear ff HOK HR
    go_wp2_with fail
    go_ret
    exact ⟨rfl, hE.put i hi (j := 9) (by simp [urv]) (.int .i64 (wrap64 (r + 1)))⟩
  · have HR2 := HR.out
    simp only [if_true] at HR2
    subst HR2
    clear HOK
    go_wp2_with fail
    go_ret
    exact ⟨rfl, HS.out _ HE.out⟩
end
end Go.Proofs.YtchcdfoncebemaaGreatDoor

/- The reference's Cell, Slot. -/
namespace Go.Proofs.YtchcdfoncebemaaGreatDoor
open Go.RowKit Go.Maps
set_option maxRecDepth 100000

theorem rslot_of (v : World) (m : Bool) (s b : Int) : (Instr.field 131 (.agg #[.bool m, .int .i64 s, .int .i64 b]) 1).run Tryz.prog v = .ok (.int .i64 s) v := by kernel_rfl
theorem slot13_any (x : Int) (hx : InU x) (w : World) : Calls Tryz.prog 62 #[.int .u64 x] w fun e w' => e = .returned (.int .i64 (slotI x)) ∧ Below w.heap.size w w' := by
  have h := rslot_of
  have hr := refOf_any x w hx.1 hx.2
  obtain ⟨s, hs⟩ : ∃ s, slotI x = s := ⟨_, rfl⟩
  rw [hs] at hr ⊢
  have HR := Lib.hid hr
  clear hx hr hs
  go_enter Tryz.func62, Tryz.ntmps62
  go_wp2_with fail
  refine HR.out.mono ?_
  rintro e w1 ⟨rfl, hb⟩
  go_wp2_with fail
  go_ret
  exact ⟨rfl, hb⟩
end Go.Proofs.YtchcdfoncebemaaGreatDoor

/- The reference's words in a row: Swap, Less. -/

namespace Go.Proofs.YtchcdfoncebemaaGreatDoor
open Go.RowKit Go.Maps
set_option maxRecDepth 100000

def swL (l : List OneR) (x : Plc) (o v : Int) : List OneR := if getL l x = o then setL l x v else l
set_option maxHeartbeats 1600000 in
theorem refSwap_any {u : Nat} {F : Nat → Prop} {l : List OneR} {w : World} (a b d o v : Int) (hl : l.length ≤ 1000000) (hU : IsU w u F l) :
    Calls Tryz.prog 63 #[.pointer (some ⟨u, 0, none⟩), .agg #[.int .i64 a, .int .i64 b, .int .i64 d], .int .u64 o, .int .u64 v] w fun e w' => e = .returned (.bool (decide (getL l (a, b, d) = o))) ∧ ∃ F', IsU w' u F' (swL l (a, b, d) o v) ∧ Step F F' w w' := by
  have hE := (Fr.start w).push w.heap.size rfl [.int .i64 a, .int .i64 b, .int .i64 d] 58
  have r := hE.rule 0 rfl
  have HU := Lib.hid hU
  go_enter Tryz.func63, Tryz.ntmps63
  go_wp2_with fail
  refine (refGet_any a b d hl (HU.out.over hE.below)).mono ?_
  rintro e w1 ⟨rfl, hb⟩
  replace hE := hE.over hb
  have hb0 := hE.below
  clear hb r
  by_cases hg : getL l (a, b, d) = o
  · have r := hE.rule 0 rfl
    have hg' : decide (getL l (a, b, d) = o) = true := by simp [hg]
    go_wp2_with fail
    refine (refSet_any a b d v hl (HU.out.over hb0)).mono ?_
    rintro e w2 ⟨rfl, F', hU2, hs⟩
    go_wp2
    go_ret
    exact ⟨by rw [hg']; rfl, F', by rw [swL, if_pos hg]; exact hU2, (Step.of_below F hb0).trans hs⟩
  · have r := hE.rule 0 rfl
    have hg' : decide (getL l (a, b, d) = o) = false := by simp [hg]
    go_wp2_with fail
    go_ret
    exact ⟨by rw [hg']; rfl, F, by rw [swL, if_neg hg]; exact HU.out.over hb0, Step.of_below F hb0⟩

end Go.Proofs.YtchcdfoncebemaaGreatDoor

/- The order of places; the library's sort at it. -/
namespace Go.Proofs.YtchcdfoncebemaaGreatDoor
open Go.RowKit Go.Maps Go.Shelf Go.Sort
set_option maxRecDepth 100000

/-- How two places stand. -/
def orI (a b c : Int) : Int := if a ≠ 0 then a else if b ≠ 0 then b else c
def cmpP (x y : Plc) : Int := orI (Lib.compareInt x.1 y.1) (Lib.compareInt x.2.1 y.2.1) (Lib.compareInt x.2.2 y.2.2)
theorem cmp_neg (a b : Int) : Lib.compareInt a b < 0 ↔ a < b := by unfold Lib.compareInt; split <;> (try split) <;> omega
theorem cmp_zero (a b : Int) : Lib.compareInt a b = 0 ↔ a = b := by unfold Lib.compareInt; split <;> (try split) <;> omega
theorem ltP (x y : Plc) : ltOf cmpP x y = true ↔ x.1 < y.1 ∨ (x.1 = y.1 ∧ (x.2.1 < y.2.1 ∨ (x.2.1 = y.2.1 ∧ x.2.2 < y.2.2))) := by
  have h1 := cmp_neg x.1 y.1
  have h2 := cmp_neg x.2.1 y.2.1
  have h3 := cmp_neg x.2.2 y.2.2
  have z1 := cmp_zero x.1 y.1
  have z2 := cmp_zero x.2.1 y.2.1
  have e : ltOf cmpP x y = true ↔ cmpP x y < 0 := by simp [ltOf]
  rw [e]
  unfold cmpP orI
  split
  · rename_i h; rw [h1]; rw [ne_eq, z1] at h; omega
  · rename_i h
    have h := z1.1 (by simpa using h)
    split
    · rename_i k; rw [h2]; rw [ne_eq, z2] at k; omega
    · rename_i k
      have k := z2.1 (by simpa using k)
      rw [h3]; omega
theorem ltP_false (x y : Plc) : ltOf cmpP x y = false ↔ ¬ (x.1 < y.1 ∨ (x.1 = y.1 ∧ (x.2.1 < y.2.1 ∨ (x.2.1 = y.2.1 ∧ x.2.2 < y.2.2)))) := by rw [← ltP, Bool.not_eq_true]
theorem swoP : SWO (ltOf cmpP) where
  irrefl x := by rw [ltP_false]; omega
  trans x y z h1 h2 := by rw [ltP] at *; omega
  ntrans x y z h1 h2 := by rw [ltP_false] at *; omega
theorem totP (x y : Plc) (h1 : ltOf cmpP x y = false) (h2 : ltOf cmpP y x = false) : x = y := by
  rw [ltP_false] at *
  obtain ⟨a, b, c⟩ := x
  obtain ⟨a', b', c'⟩ := y
  simp only [Prod.mk.injEq]
  simp only at h1 h2
  omega

/-- A place's cells. -/
def encP (x : Plc) : List Value := [.int .i64 x.1, .int .i64 x.2.1, .int .i64 x.2.2]
end Go.Proofs.YtchcdfoncebemaaGreatDoor

/- The keys of a map of words, collected: each once, in whatever order; then sorted: Places. -/
namespace Go.Proofs.YtchcdfoncebemaaGreatDoor
open Go.RowKit Go.Maps Go.Shelf Go.Sort
set_option maxRecDepth 100000

attribute [local go_sem] Oper.semAt_some

def flatP (l : List Plc) : List Value := l.flatMap encP
theorem flatP_snoc (l : List Plc) (x : Plc) : flatP (l ++ [x]) = flatP l ++ encP x := by simp [flatP]
theorem flatP_length (l : List Plc) : (flatP l).length = l.length * 3 := by
  induction l with
  | nil => rfl
  | cons x l ih => simp [flatP, encP] at *; omega
theorem infoPlace : (Tryz.prog.info? 58).map (fun i => (i.zero, i.size, i.bytes)) = some (some (.agg #[.int .i64 0, .int .i64 0, .int .i64 0]), 3, 24) := by kernel_rfl
end Go.Proofs.YtchcdfoncebemaaGreatDoor

/- Places: those whose words aren't 0, in their order. -/
namespace Go.Proofs.YtchcdfoncebemaaGreatDoor
open Go.RowKit Go.Maps Go.Shelf Go.Sort
set_option maxRecDepth 100000

/-! ### rows of places -/
def z3 : Plc := (0, 0, 0)
/-- v is a slice of just those places. -/
def RowP (w : World) (v : Value) (l : List Plc) : Prop :=
  (l = [] ∧ v = .slice none 0 0) ∨ ∃ g cap, v = .slice (some ⟨g, 0, none⟩) l.length cap ∧ g < w.heap.size ∧ ∀ j, j < l.length →
    w.cell? ⟨g, j * 3, none⟩ = some (.int .i64 (l.getD j z3).1) ∧ w.cell? ⟨g, j * 3 + 1, none⟩ = some (.int .i64 (l.getD j z3).2.1) ∧ w.cell? ⟨g, j * 3 + 2, none⟩ = some (.int .i64 (l.getD j z3).2.2)
theorem RowP.over {w w' : World} {v : Value} {l : List Plc} {T : Nat → Prop} (h : RowP w v l) (ht : Turn T w w') (hT : ∀ g len cap, v = .slice (some ⟨g, 0, none⟩) len cap → ¬ T g) : RowP w' v l := by
  rcases h with h | ⟨g, cap, hv, hg, hc⟩
  · exact .inl h
  · have hb := ht.block g hg (hT g _ cap hv)
    exact .inr ⟨g, cap, hv, Nat.lt_of_lt_of_le hg ht.size, fun j hj => by
      obtain ⟨h1, h2, h3⟩ := hc j hj
      refine ⟨?_, ?_, ?_⟩
      · rw [World.cell?_of_block (w := w) hb]; exact h1
      · rw [World.cell?_of_block (w := w) hb]; exact h2
      · rw [World.cell?_of_block (w := w) hb]; exact h3⟩

theorem flatP_get (l : List Plc) : ∀ (j c : Nat), j < l.length → c < 3 → (flatP l)[j * 3 + c]? = (encP (l.getD j z3))[c]? := by
  induction l with
  | nil => intro j c h; simp at h
  | cons x l ih =>
    intro j c hj hc
    have e : flatP (x :: l) = encP x ++ flatP l := by simp [flatP]
    cases j with
    | zero => rw [e, List.getElem?_append_left (by simp [encP]; omega)]; simp
    | succ j =>
      rw [e, List.getElem?_append_right (by simp [encP]; omega)]
      have := ih j c (by simpa using hj) hc
      have e2 : (j + 1) * 3 + c - (encP x).length = j * 3 + c := by simp [encP]; omega
      rw [e2, this]
      simp

def Rising (l : List Plc) : Prop := l.Pairwise fun x y => ltOf cmpP x y = true
theorem rising_eq : ∀ {l m : List Plc}, Rising l → Rising m → (∀ x, x ∈ l ↔ x ∈ m) → l = m
  | [], [], _, _, _ => rfl
  | [], y :: m, _, _, h => by have := (h y).2 (by simp); simp at this
  | x :: l, [], _, _, h => by have := (h x).1 (by simp); simp at this
  | x :: l, y :: m, h1, h2, h => by
    obtain ⟨a1, a2⟩ := List.pairwise_cons.1 h1
    obtain ⟨b1, b2⟩ := List.pairwise_cons.1 h2
    have no : ∀ a b : Plc, ltOf cmpP a b = true → ltOf cmpP b a = true → False := fun a b p q => by
      have := swoP.trans _ _ _ p q
      rw [swoP.irrefl] at this
      cases this
    have hxy : x = y := by
      rcases List.mem_cons.1 ((h x).1 (by simp)) with e | hx
      · exact e
      · rcases List.mem_cons.1 ((h y).2 (by simp)) with e | hy
        · exact e.symm
        · exact (no x y (a1 y hy) (b1 x hx)).elim
    subst hxy
    rw [rising_eq a2 b2 fun z => ⟨fun hz => by
      rcases List.mem_cons.1 ((h z).1 (by simp [hz])) with e | h'
      · subst e; exact (no _ _ (a1 _ hz) (a1 _ hz)).elim
      · exact h', fun hz => by
      rcases List.mem_cons.1 ((h z).2 (by simp [hz])) with e | h'
      · subst e; exact (no _ _ (b1 _ hz) (b1 _ hz)).elim
      · exact h'⟩]
/-- l are the places whose words aren't 0, rising. -/
def PlacesOf (f : Plc → Int) (l : List Plc) : Prop := Rising l ∧ ∀ x, x ∈ l ↔ f x ≠ 0
theorem PlacesOf.eq {f : Plc → Int} {l m : List Plc} (h : PlacesOf f l) (k : PlacesOf f m) : l = m := rising_eq h.1 k.1 fun x => (h.2 x).trans (k.2 x).symm
/-- The one place whose word isn't 0. -/
theorem places_one {x : Plc} {v : Int} (hv : v ≠ 0) {l : List Plc} (h : PlacesOf (upd (fun _ => 0) x v) l) : l.length = 1 := by
  have h1 : PlacesOf (upd (fun _ => 0) x v) [x] := ⟨List.pairwise_singleton _ _, fun y => by unfold upd; split <;> simp_all⟩
  rw [h.eq h1]; rfl

theorem RowP.len {w : World} {v : Value} {l : List Plc} (h : RowP w v l) : ∃ a cap, v = .slice a l.length cap := by
  rcases h with ⟨rfl, rfl⟩ | ⟨g, cap, rfl, _⟩
  · exact ⟨_, _, rfl⟩
  · exact ⟨_, _, rfl⟩
theorem RowP.below {w w' : World} {v : Value} {l : List Plc} (h : RowP w v l) (hb : Below w.heap.size w w') : RowP w' v l := h.over (Turn.of_below hb : Turn (fun _ => False) w w') fun _ _ _ _ e => e
end Go.Proofs.YtchcdfoncebemaaGreatDoor

/- The reference's words in a row: Swap, Less. -/
namespace Go.Proofs.YtchcdfoncebemaaGreatDoor
open Go.RowKit Go.Maps Go.Sort
set_option maxRecDepth 100000

set_option maxHeartbeats 1600000 in
theorem less_any (x y z a b d : Int) (w : World) :
    Calls Tryz.prog 74 #[.agg #[.int .i64 x, .int .i64 y, .int .i64 z], .agg #[.int .i64 a, .int .i64 b, .int .i64 d]] w fun e w' => e = .returned (.bool (ltOf cmpP (x, y, z) (a, b, d))) ∧ Below w.heap.size w w' := by
  have hE := ((Fr.start w).push w.heap.size rfl [.int .i64 x, .int .i64 y, .int .i64 z] 58).push (w.heap.size + 1) (by simp) [.int .i64 a, .int .i64 b, .int .i64 d] 58
  have r := hE.rule 0 rfl
  have r1 := hE.rule 1 rfl
  have hL : ltOf cmpP (x, y, z) (a, b, d) = if x ≠ a then decide (x < a) else if y ≠ b then decide (y < b) else decide (z < d) := by
    have h := ltP (x, y, z) (a, b, d)
    rw [Bool.eq_iff_iff, h]
    split
    · simp; omega
    · split
      · simp; omega
      · simp; omega
  rw [hL]
  go_enter Tryz.func74, Tryz.ntmps74
  by_cases h1 : x = a
  · subst h1
    by_cases h2 : y = b
    · subst h2
      go_wp2_with fail
      go_ret
      exact ⟨by simp, hE.below⟩
    · go_wp2_with fail
      go_ret
      exact ⟨by simp [h2], hE.below⟩
  · go_wp2_with fail
    go_ret
    exact ⟨by simp [h1], hE.below⟩



end Go.Proofs.YtchcdfoncebemaaGreatDoor

/- The reference's words among other things; counts as cells. -/
namespace Go.Proofs.YtchcdfoncebemaaGreatDoor
open Go.RowKit Go.Maps
set_option maxRecDepth 100000

/-- Counts in five cells. -/
def bv (t : Cnt) : List Value := [.int .i64 t.l, .int .i64 t.s, .int .i64 t.w, .int .i64 t.f, .int .i64 t.a]
theorem swf_getL (l : List OneR) (x : Plc) (o v : Int) : swf (getL l) x o v = getL (swL l x o v) := by
  unfold swf swL
  split
  · rw [getL_set]
  · rfl
theorem LOk.sw {l : List OneR} {N : Nat} (h : LOk l N) (x : Plc) (o v : Int) : LOk (swL l x o v) (N + 1) := by
  unfold swL; split
  · exact h.set x v
  · exact h.more
end Go.Proofs.YtchcdfoncebemaaGreatDoor

/- The reference's lanes: their small functions. -/
namespace Go.Proofs.YtchcdfoncebemaaGreatDoor
open Go.RowKit Go.Maps
set_option maxRecDepth 100000

/-- A reference's lane's cells. -/
def rlC (lv key : Int) (vs : Bool) (x y z pc W X K V C : Int) (fd : Bool) : List Value := [.int .i64 x, .int .i64 y, .int .i64 z, .int .i64 lv, .int .u64 key, .bool vs, .int .i64 pc, .int .u64 W, .int .u64 X, .int .u64 K, .int .u64 V, .int .i64 C, .bool fd]
/-- A reference's thread's cells: those of the statements' structure. -/
def ruC (e ro : Int) : List Value := urv 2 1000 3 1 1073741824 e none 0 0 0 0 ro

section
variable {w : World} {b : Nat} {lv key : Int} {vs fd : Bool} {x y z pc W X K V C : Int}

set_option maxHeartbeats 1600000 in
theorem next_r (hlv : 0 ≤ lv ∧ lv ≤ 1000000) (hb : Blk 0 w b (rlC lv key vs x y z pc W X K V C fd)) : Calls Tryz.prog 61 #[.pointer (some ⟨b, 0, none⟩)] w fun e w' => e = .returned (.agg #[.int .i64 5, .int .i64 C, .int .i64 (7 + lv)]) ∧ Below w.heap.size w w' := by
  have hal := hb.1
  have hX := hb.more (.cells [.int .i64 0, .int .i64 0, .int .i64 0].toArray 58)
  have hZ := Blk.new 0 w [.int .i64 0, .int .i64 0, .int .i64 0] 58
  have hE := (Below.refl w.heap.size w).alloc (Nat.le_refl _) (.cells [.int .i64 0, .int .i64 0, .int .i64 0].toArray 58)
  have hw7 : wrap64 (7 + lv) = 7 + lv := w64 _ (by omega)
  have hw8 : IntKind.i64.wrap (7 + lv) = 7 + lv := by rw [wrap_i]; exact hw7
  have HW := Lib.hid hw7
  clear hb hlv hw7
  go_enter Tryz.func61, Tryz.ntmps61
  go_wp2_with fail
  refine Ord.wp_chain [10] (fun w' => Below w.heap.size w w' ∧ Blk 0 w' b (rlC lv key vs x y z pc W X K V C fd)) (fun j w' => Blk 0 w' w.heap.size (if j = 0 then [.int .i64 0, .int .i64 0, .int .i64 0] else [.int .i64 5, .int .i64 C, .int .i64 (7 + lv)])) (by kernel_rfl) (by kernel_rfl) (by kernel_rfl) ⟨hE.drew, hX.drew⟩ hZ.drew (fun hT => ?_)
  have hT9 := Lib.hid hT
  clear hT
  repeat (first
    | (refine Ord.ch_value (v := ?_) hT9.out (by decide) (by rfl) ?_ ?_; rotate_left; (focus (intro w5 hS; have r := Blk.rule hS.2; unfold rlC at r; go_simp <;> with_reducible rfl)); (try simp only [Act.put, List.setIfInBounds_toArray, List.set_cons_zero, List.set_cons_succ]))
    | (refine Ord.ch_off hT9.out (by decide) (by rfl) ?_; (try simp only [Act.put, List.setIfInBounds_toArray, List.set_cons_zero, List.set_cons_succ]))
    | (refine Ord.ch_call (v := ?_) (f := ?_) (args := ?_) hT9.out (by decide) (by rfl) ?_ ?_ ?_; rotate_left 3; (focus (intro w5 hS; have r := Blk.rule hS.2; unfold rlC at r; go_simp; constructor <;> with_reducible rfl)); (focus (intro w5 hS; (first | (with_reducible refine (cell13_any _ _ _).mono ?_; rintro o w6 ⟨rfl, hb6⟩; constructor; with_reducible rfl; exact ⟨⟨hS.1.trans (hb6.mono hS.1.size), hS.2.under hb6⟩, fun _ h => h.under hb6⟩)))); (try simp only [Act.put, List.setIfInBounds_toArray, List.set_cons_zero, List.set_cons_succ])))
  refine Ord.ch_turn (v := undef) 0 hT9.out rfl (by decide) (Or.inl rfl) (by rfl) ?_ ?_
  · rintro w5 hS hA2
    simp only [if_true] at hA2
    have r := hA2.rule
    have f0 := hA2.thaw 0 (by simp)
    have f1 := hA2.thaw 1 (by simp)
    have f2 := hA2.thaw 2 (by simp)
    have hz := hS.1.size
    go_simp
    refine ⟨rfl, ⟨?_, ?_⟩, ?_⟩
    · exact below_set (below_set (below_set hS.1 hz (by omega) _) (by simp; omega) (by omega) _) (by simp; omega) (by omega) _
    · exact ((hS.2.off (by omega) _).off (by omega) _).off (by omega) _
    · exact ((hA2.set (i := 0) (by simp) _).set (i := 1) (by simp) _).set (i := 2) (by simp) _
  (try simp only [Act.put, List.setIfInBounds_toArray, List.set_cons_zero, List.set_cons_succ])
  repeat (first
    | (refine Ord.ch_value (v := ?_) hT9.out (by decide) (by rfl) ?_ ?_; rotate_left; (focus (intro w5 hS; skip; go_simp <;> with_reducible rfl)); (try simp only [Act.put, List.setIfInBounds_toArray, List.set_cons_zero, List.set_cons_succ]))
    | (refine Ord.ch_off hT9.out (by decide) (by rfl) ?_; (try simp only [Act.put, List.setIfInBounds_toArray, List.set_cons_zero, List.set_cons_succ])))
  refine Ord.InText.nil fun w5 hS => ?_
  clear hT9
  obtain ⟨hC9, hA9⟩ := Ord.chain_end hS
  clear hS
  have q := hA9.rule
  simp only [show ¬ [10].length = 0 by decide, if_false] at q
  go_wp2
  exact bodyPost_ret (v := .agg #[.int .i64 5, .int .i64 C, .int .i64 (7 + lv)]) (by simp [results, Tryz.results61, go_sem, q]) rfl ⟨rfl, hC9.1⟩
end

section
variable {w0 w : World} {L : List Item} {b : Nat} {lv key : Int} {vs fd : Bool} {x y z pc W X K V C : Int}
set_option maxHeartbeats 1600000 in
theorem come_r (v : Int) (hv : InU v) (hE : Env w0 (boxI b (rlC lv key vs x y z pc W X K V C fd) :: L) w) :
    Calls Tryz.prog 64 #[.pointer (some ⟨b, 0, none⟩), .int .u64 v] w fun o w' => o = .returned (.int .i64 (cS v)) ∧ Env w0 (boxI b (rlC lv key vs x y z 3 v 0 K V (slotI v) fd) :: L) w' := by
  have hs13 := fun (u : World) => slot13_any v hv u
  obtain ⟨s, hs⟩ : ∃ s, slotI v = s := ⟨_, rfl⟩
  have hcs : cS v = if s = 0 then 1 else 0 := by unfold cS; rw [hs]
  rw [hcs, hs]
  simp only [hs] at hs13
  have HS := Lib.hid hs13
  clear hs hcs hs13 hv
  have r := hE.rule 0 rfl
  unfold rlC at r
  have f7 := hE.thaw 0 rfl 7 (by simp [rlC])
  have f8 := hE.thaw 0 rfl 8 (by simp [rlC])
  have hP := (hE.put 0 rfl (j := 7) (by simp [rlC]) (.int .u64 v)).put 0 rfl (j := 8) (by simp [rlC]) (.int .u64 0)
  replace hP : Env w0 (boxI b (rlC lv key vs x y z pc v 0 K V C fd) :: L) _ := hP
  go_enter Tryz.func64, Tryz.ntmps64
  go_wp2_with fail
  refine (HS.out _).mono ?_
  rintro o w1 ⟨rfl, hb⟩
  have hE1 := hP.over hb
  clear hb r f7 f8 hP hE
  have r := hE1.rule 0 rfl
  unfold rlC at r
  have f11 := hE1.thaw 0 rfl 11 (by simp [rlC])
  have f6 := hE1.thaw 0 rfl 6 (by simp [rlC])
  have hP := (hE1.put 0 rfl (j := 11) (by simp [rlC]) (.int .i64 s)).put 0 rfl (j := 6) (by simp [rlC]) (.int .i64 3)
  replace hP : Env w0 (boxI b (rlC lv key vs x y z 3 v 0 K V s fd) :: L) _ := hP
  by_cases h0 : s = 0
  · subst h0
    go_wp2_with fail
    go_ret
    exact ⟨rfl, hP⟩
  · have hsb : (s == 0) = false := by simpa using h0
    have H0 := Lib.hid h0
    clear h0
    go_wp2_with fail
    go_ret
    exact ⟨rfl, hP⟩
set_option maxHeartbeats 1600000 in
theorem holds2a_r (hm : markB W = true) (hv : InU W) (hE : Env w0 (boxI b (rlC lv key vs x y z 2 W X K V C fd) :: L) w) :
    Calls Tryz.prog 66 #[.pointer (some ⟨b, 0, none⟩)] w fun o w' => o = .returned (.int .i64 2) ∧ Env w0 (boxI b (rlC lv key vs x y z 2 W X K V C fd) :: L) w' := by
  have h1 := rmarked_any W w hv
  rw [hm] at h1
  have r := hE.rule 0 rfl
  unfold rlC at r
  clear hm hv
  go_enter Tryz.func66, Tryz.ntmps66
  go_wp2_with fail
  refine h1.mono ?_
  rintro o w1 ⟨rfl, hb⟩
  go_wp2_with fail
  go_ret
  exact ⟨rfl, hE.over hb⟩
set_option maxHeartbeats 1600000 in
theorem holds2b_r (hm : markB W = false) (hv : InU W) (hE : Env w0 (boxI b (rlC lv key vs x y z 2 W X K V C fd) :: L) w) :
    Calls Tryz.prog 66 #[.pointer (some ⟨b, 0, none⟩)] w fun o w' => o = .returned (.int .i64 (cS W)) ∧ Env w0 (boxI b (rlC lv key vs x y z 3 W 0 K V (slotI W) fd) :: L) w' := by
  have h1 := rmarked_any W w hv
  rw [hm] at h1
  have r := hE.rule 0 rfl
  unfold rlC at r
  have HV := Lib.hid hv
  clear hm hv
  go_enter Tryz.func66, Tryz.ntmps66
  go_wp2_with fail
  refine h1.mono ?_
  rintro o w1 ⟨rfl, hb⟩
  replace hE := hE.over hb
  clear hb r
  have r := hE.rule 0 rfl
  unfold rlC at r
  go_wp2_with fail
  refine (come_r W HV.out hE).mono ?_
  rintro o w2 ⟨rfl, hE2⟩
  go_wp2_with fail
  go_ret
  exact ⟨rfl, hE2⟩
set_option maxHeartbeats 1600000 in
theorem holds4_r (hv : InU X) (hE : Env w0 (boxI b (rlC lv key vs x y z 4 W X K V C fd) :: L) w) :
    Calls Tryz.prog 66 #[.pointer (some ⟨b, 0, none⟩)] w fun o w' => o = .returned (.int .i64 0) ∧ Env w0 (boxI b (rlC lv key vs x y z (if markB X then 5 else 6) W X K V C fd) :: L) w' := by
  obtain ⟨mk, hmk⟩ : ∃ mk, markB X = mk := ⟨_, rfl⟩
  have h1 := fun (u : World) => rmarked_any X u hv
  simp only [hmk] at h1
  rw [hmk]
  have H1 := Lib.hid h1
  have r := hE.rule 0 rfl
  unfold rlC at r
  have f6 := hE.thaw 0 rfl 6 (by simp [rlC])
  have hP := hE.put 0 rfl (j := 6) (by simp [rlC]) (.int .i64 6)
  replace hP : Env w0 (boxI b (rlC lv key vs x y z 6 W X K V C fd) :: L) _ := hP
  clear hmk hv h1
  go_enter Tryz.func66, Tryz.ntmps66
  go_wp2_with fail
  refine (H1.out _).mono ?_
  rintro o w1 ⟨rfl, hb⟩
  replace hP := hP.over hb
  clear hb r f6
  cases mk
  · go_wp2_with fail
    go_ret
    exact ⟨rfl, hP⟩
  · have r := hP.rule 0 rfl
    unfold rlC at r
    have f6 := hP.thaw 0 rfl 6 (by simp [rlC])
    have hQ := hP.put 0 rfl (j := 6) (by simp [rlC]) (.int .i64 5)
    go_wp2_with fail
    go_ret
    exact ⟨rfl, hQ⟩
set_option maxHeartbeats 1600000 in
theorem holds7a_r (hk : K < key) (hlv : 0 ≤ lv ∧ lv ≤ 1000000) (hv : InU X) (hE : Env w0 (boxI b (rlC lv key vs x y z 7 W X K V C fd) :: L) w) :
    Calls Tryz.prog 66 #[.pointer (some ⟨b, 0, none⟩)] w fun o w' => o = .returned (.int .i64 (cS X)) ∧ Env w0 (boxI b (rlC lv key vs 5 C (7 + lv) 3 X 0 K V (slotI X) fd) :: L) w' := by
  have hkb : decide (K < key) = true := by simpa using hk
  have r := hE.rule 0 rfl
  unfold rlC at r
  have HV := Lib.hid hv
  clear hv hk
  go_enter Tryz.func66, Tryz.ntmps66
  go_wp2_with fail
  clear r
  refine wp_text (S := (Env w0 (boxI b (rlC lv key vs x y z 7 W X K V C fd) :: L))) (by kernel_rfl) (by kernel_rfl) hE.drew (fun hT => ?_)
  have hT9 := Lib.hid hT
  clear hT
  repeat (first
    | (refine text_value (v := ?_) hT9.out (by rfl) ?_ ?_; rotate_left; (focus (intro w5 hS; have r := hS.rule 0 rfl; unfold rlC at r; go_simp <;> with_reducible rfl)); (try simp only [Act.put, List.setIfInBounds_toArray, List.set_cons_zero, List.set_cons_succ]))
    | (refine text_off hT9.out (by rfl) ?_; (try simp only [Act.put, List.setIfInBounds_toArray, List.set_cons_zero, List.set_cons_succ]))
    | (refine text_call (v := ?_) (f := ?_) (args := ?_) hT9.out (by rfl) ?_ ?_ ?_; rotate_left 3; (focus (intro w5 hS; have r := hS.rule 0 rfl; unfold rlC at r; go_simp; constructor <;> with_reducible rfl)); (focus (intro w5 hS; (first | fail))); (try simp only [Act.put, List.setIfInBounds_toArray, List.set_cons_zero, List.set_cons_succ])))
  refine InText.nil fun w5 hS5 => ?_
  clear hT9
  clear hE
  go_wp2_with fail
  refine (next_r hlv (hS5.get 0 rfl)).mono ?_
  rintro o w6 ⟨rfl, hb⟩
  have hE := hS5.over hb
  clear hS5 hb
  have r := hE.rule 0 rfl
  unfold rlC at r
  have g0 := hE.thaw 0 rfl 0 (by simp [rlC])
  have g1 := hE.thaw 0 rfl 1 (by simp [rlC])
  have g2 := hE.thaw 0 rfl 2 (by simp [rlC])
  have hP := ((hE.put 0 rfl (j := 0) (by simp [rlC]) (.int .i64 5)).put 0 rfl (j := 1) (by simp [rlC]) (.int .i64 C)).put 0 rfl (j := 2) (by simp [rlC]) (.int .i64 (7 + lv))
  replace hP : Env w0 (boxI b (rlC lv key vs 5 C (7 + lv) 7 W X K V C fd) :: L) _ := hP
  have r9 := hP.rule 0 rfl
  unfold rlC at r9
  go_wp2_with fail
  refine (come_r X HV.out hP).mono ?_
  rintro o w2 ⟨rfl, hE2⟩
  go_wp2_with fail
  go_ret
  exact ⟨rfl, hE2⟩

set_option maxHeartbeats 1600000 in
theorem holds7b_r (hk : K = key) (hE : Env w0 (boxI b (rlC lv key false x y z 7 W X K V C fd) :: L) w) :
    Calls Tryz.prog 66 #[.pointer (some ⟨b, 0, none⟩)] w fun o w' => o = .returned (.int .i64 1) ∧ Env w0 (boxI b (rlC lv key false x y z 7 W X K V C true) :: L) w' := by
  have hkb : decide (K < key) = false := by simp; omega
  have hkq : (K == key) = true := by simpa using hk
  clear hk
  have r := hE.rule 0 rfl
  unfold rlC at r
  go_enter Tryz.func66, Tryz.ntmps66
  go_wp2_with fail
  clear r
  refine wp_text (S := (Env w0 (boxI b (rlC lv key false x y z 7 W X K V C fd) :: L))) (by kernel_rfl) (by kernel_rfl) hE.drew (fun hT => ?_)
  have hT9 := Lib.hid hT
  clear hT
  repeat (first
    | (refine text_value (v := ?_) hT9.out (by rfl) ?_ ?_; rotate_left; (focus (intro w5 hS; have r := hS.rule 0 rfl; unfold rlC at r; go_simp <;> with_reducible rfl)); (try simp only [Act.put, List.setIfInBounds_toArray, List.set_cons_zero, List.set_cons_succ]))
    | (refine text_off hT9.out (by rfl) ?_; (try simp only [Act.put, List.setIfInBounds_toArray, List.set_cons_zero, List.set_cons_succ]))
    | (refine text_call (v := ?_) (f := ?_) (args := ?_) hT9.out (by rfl) ?_ ?_ ?_; rotate_left 3; (focus (intro w5 hS; have r := hS.rule 0 rfl; unfold rlC at r; go_simp; constructor <;> with_reducible rfl)); (focus (intro w5 hS; (first | fail))); (try simp only [Act.put, List.setIfInBounds_toArray, List.set_cons_zero, List.set_cons_succ])))
  refine InText.nil fun w5 hS5 => ?_
  clear hT9
  clear hE
  go_wp2_with fail
  have hE := hS5
  clear hS5
  refine wp_text (S := (Env w0 (boxI b (rlC lv key false x y z 7 W X K V C fd) :: L))) (by kernel_rfl) (by kernel_rfl) hE.drew (fun hT => ?_)
  have hT9 := Lib.hid hT
  clear hT
  repeat (first
    | (refine text_value (v := ?_) hT9.out (by rfl) ?_ ?_; rotate_left; (focus (intro w5 hS; have r := hS.rule 0 rfl; unfold rlC at r; go_simp <;> with_reducible rfl)); (try simp only [Act.put, List.setIfInBounds_toArray, List.set_cons_zero, List.set_cons_succ]))
    | (refine text_off hT9.out (by rfl) ?_; (try simp only [Act.put, List.setIfInBounds_toArray, List.set_cons_zero, List.set_cons_succ]))
    | (refine text_call (v := ?_) (f := ?_) (args := ?_) hT9.out (by rfl) ?_ ?_ ?_; rotate_left 3; (focus (intro w5 hS; have r := hS.rule 0 rfl; unfold rlC at r; go_simp; constructor <;> with_reducible rfl)); (focus (intro w5 hS; (first | fail))); (try simp only [Act.put, List.setIfInBounds_toArray, List.set_cons_zero, List.set_cons_succ])))
  refine InText.nil fun w5 hS5 => ?_
  clear hT9
  clear hE
  have r := hS5.rule 0 rfl
  unfold rlC at r
  have f12 := hS5.thaw 0 rfl 12 (by simp [rlC])
  have hP := hS5.put 0 rfl (j := 12) (by simp [rlC]) (.bool true)
  replace hP : Env w0 (boxI b (rlC lv key false x y z 7 W X K V C true) :: L) _ := hP
  go_wp2_with fail
  go_ret
  exact ⟨rfl, hP⟩

set_option maxHeartbeats 1600000 in
theorem holds7c_r (hk : K = key) (hE : Env w0 (boxI b (rlC lv key true x y z 7 W X K V C fd) :: L) w) :
    Calls Tryz.prog 66 #[.pointer (some ⟨b, 0, none⟩)] w fun o w' => o = .returned (.int .i64 0) ∧ Env w0 (boxI b (rlC lv key true x y z 8 W X K V C true) :: L) w' := by
  have hkb : decide (K < key) = false := by simp; omega
  have hkq : (K == key) = true := by simpa using hk
  clear hk
  have r := hE.rule 0 rfl
  unfold rlC at r
  go_enter Tryz.func66, Tryz.ntmps66
  go_wp2_with fail
  clear r
  refine wp_text (S := (Env w0 (boxI b (rlC lv key true x y z 7 W X K V C fd) :: L))) (by kernel_rfl) (by kernel_rfl) hE.drew (fun hT => ?_)
  have hT9 := Lib.hid hT
  clear hT
  repeat (first
    | (refine text_value (v := ?_) hT9.out (by rfl) ?_ ?_; rotate_left; (focus (intro w5 hS; have r := hS.rule 0 rfl; unfold rlC at r; go_simp <;> with_reducible rfl)); (try simp only [Act.put, List.setIfInBounds_toArray, List.set_cons_zero, List.set_cons_succ]))
    | (refine text_off hT9.out (by rfl) ?_; (try simp only [Act.put, List.setIfInBounds_toArray, List.set_cons_zero, List.set_cons_succ]))
    | (refine text_call (v := ?_) (f := ?_) (args := ?_) hT9.out (by rfl) ?_ ?_ ?_; rotate_left 3; (focus (intro w5 hS; have r := hS.rule 0 rfl; unfold rlC at r; go_simp; constructor <;> with_reducible rfl)); (focus (intro w5 hS; (first | fail))); (try simp only [Act.put, List.setIfInBounds_toArray, List.set_cons_zero, List.set_cons_succ])))
  refine InText.nil fun w5 hS5 => ?_
  clear hT9
  clear hE
  go_wp2_with fail
  have hE := hS5
  clear hS5
  refine wp_text (S := (Env w0 (boxI b (rlC lv key true x y z 7 W X K V C fd) :: L))) (by kernel_rfl) (by kernel_rfl) hE.drew (fun hT => ?_)
  have hT9 := Lib.hid hT
  clear hT
  repeat (first
    | (refine text_value (v := ?_) hT9.out (by rfl) ?_ ?_; rotate_left; (focus (intro w5 hS; have r := hS.rule 0 rfl; unfold rlC at r; go_simp <;> with_reducible rfl)); (try simp only [Act.put, List.setIfInBounds_toArray, List.set_cons_zero, List.set_cons_succ]))
    | (refine text_off hT9.out (by rfl) ?_; (try simp only [Act.put, List.setIfInBounds_toArray, List.set_cons_zero, List.set_cons_succ]))
    | (refine text_call (v := ?_) (f := ?_) (args := ?_) hT9.out (by rfl) ?_ ?_ ?_; rotate_left 3; (focus (intro w5 hS; have r := hS.rule 0 rfl; unfold rlC at r; go_simp; constructor <;> with_reducible rfl)); (focus (intro w5 hS; (first | fail))); (try simp only [Act.put, List.setIfInBounds_toArray, List.set_cons_zero, List.set_cons_succ])))
  refine InText.nil fun w5 hS5 => ?_
  clear hT9
  clear hE
  have r := hS5.rule 0 rfl
  unfold rlC at r
  have f12 := hS5.thaw 0 rfl 12 (by simp [rlC])
  have hP := hS5.put 0 rfl (j := 12) (by simp [rlC]) (.bool true)
  replace hP : Env w0 (boxI b (rlC lv key true x y z 7 W X K V C true) :: L) _ := hP
  have f6 := hS5.thaw 0 rfl 6 (by simp [rlC])
  have hQ := hP.put 0 rfl (j := 6) (by simp [rlC]) (.int .i64 8)
  go_wp2_with fail
  go_ret
  exact ⟨rfl, hQ⟩

set_option maxHeartbeats 1600000 in
theorem holds7d_r (hk : key < K) (hE : Env w0 (boxI b (rlC lv key vs x y z 7 W X K V C fd) :: L) w) :
    Calls Tryz.prog 66 #[.pointer (some ⟨b, 0, none⟩)] w fun o w' => o = .returned (.int .i64 1) ∧ Env w0 (boxI b (rlC lv key vs x y z 7 W X K V C fd) :: L) w' := by
  have hkb : decide (K < key) = false := by simp; omega
  have hkq : (K == key) = false := by simp; omega
  clear hk
  have r := hE.rule 0 rfl
  unfold rlC at r
  go_enter Tryz.func66, Tryz.ntmps66
  go_wp2_with fail
  clear r
  refine wp_text (S := (Env w0 (boxI b (rlC lv key vs x y z 7 W X K V C fd) :: L))) (by kernel_rfl) (by kernel_rfl) hE.drew (fun hT => ?_)
  have hT9 := Lib.hid hT
  clear hT
  repeat (first
    | (refine text_value (v := ?_) hT9.out (by rfl) ?_ ?_; rotate_left; (focus (intro w5 hS; have r := hS.rule 0 rfl; unfold rlC at r; go_simp <;> with_reducible rfl)); (try simp only [Act.put, List.setIfInBounds_toArray, List.set_cons_zero, List.set_cons_succ]))
    | (refine text_off hT9.out (by rfl) ?_; (try simp only [Act.put, List.setIfInBounds_toArray, List.set_cons_zero, List.set_cons_succ]))
    | (refine text_call (v := ?_) (f := ?_) (args := ?_) hT9.out (by rfl) ?_ ?_ ?_; rotate_left 3; (focus (intro w5 hS; have r := hS.rule 0 rfl; unfold rlC at r; go_simp; constructor <;> with_reducible rfl)); (focus (intro w5 hS; (first | fail))); (try simp only [Act.put, List.setIfInBounds_toArray, List.set_cons_zero, List.set_cons_succ])))
  refine InText.nil fun w5 hS5 => ?_
  clear hT9
  clear hE
  go_wp2_with fail
  have hE := hS5
  clear hS5
  refine wp_text (S := (Env w0 (boxI b (rlC lv key vs x y z 7 W X K V C fd) :: L))) (by kernel_rfl) (by kernel_rfl) hE.drew (fun hT => ?_)
  have hT9 := Lib.hid hT
  clear hT
  repeat (first
    | (refine text_value (v := ?_) hT9.out (by rfl) ?_ ?_; rotate_left; (focus (intro w5 hS; have r := hS.rule 0 rfl; unfold rlC at r; go_simp <;> with_reducible rfl)); (try simp only [Act.put, List.setIfInBounds_toArray, List.set_cons_zero, List.set_cons_succ]))
    | (refine text_off hT9.out (by rfl) ?_; (try simp only [Act.put, List.setIfInBounds_toArray, List.set_cons_zero, List.set_cons_succ]))
    | (refine text_call (v := ?_) (f := ?_) (args := ?_) hT9.out (by rfl) ?_ ?_ ?_; rotate_left 3; (focus (intro w5 hS; have r := hS.rule 0 rfl; unfold rlC at r; go_simp; constructor <;> with_reducible rfl)); (focus (intro w5 hS; (first | fail))); (try simp only [Act.put, List.setIfInBounds_toArray, List.set_cons_zero, List.set_cons_succ])))
  refine InText.nil fun w5 hS5 => ?_
  clear hT9
  clear hE
  go_wp2_with fail
  go_ret
  exact ⟨rfl, hS5⟩

set_option maxHeartbeats 1600000 in
theorem holds9_r (hE : Env w0 (boxI b (rlC lv key vs x y z 9 W X K V C fd) :: L) w) :
    Calls Tryz.prog 66 #[.pointer (some ⟨b, 0, none⟩)] w fun o w' => o = .returned (.int .i64 1) ∧ Env w0 (boxI b (rlC lv key vs x y z 9 W X K V C fd) :: L) w' := by
  have r := hE.rule 0 rfl
  unfold rlC at r
  go_enter Tryz.func66, Tryz.ntmps66
  go_wp2_with fail
  clear r
  refine wp_text (S := (Env w0 (boxI b (rlC lv key vs x y z 9 W X K V C fd) :: L))) (by kernel_rfl) (by kernel_rfl) hE.drew (fun hT => ?_)
  have hT9 := Lib.hid hT
  clear hT
  repeat (first
    | (refine text_value (v := ?_) hT9.out (by rfl) ?_ ?_; rotate_left; (focus (intro w5 hS; have r := hS.rule 0 rfl; unfold rlC at r; go_simp <;> with_reducible rfl)); (try simp only [Act.put, List.setIfInBounds_toArray, List.set_cons_zero, List.set_cons_succ]))
    | (refine text_off hT9.out (by rfl) ?_; (try simp only [Act.put, List.setIfInBounds_toArray, List.set_cons_zero, List.set_cons_succ]))
    | (refine text_call (v := ?_) (f := ?_) (args := ?_) hT9.out (by rfl) ?_ ?_ ?_; rotate_left 3; (focus (intro w5 hS; have r := hS.rule 0 rfl; unfold rlC at r; go_simp; constructor <;> with_reducible rfl)); (focus (intro w5 hS; (first | fail))); (try simp only [Act.put, List.setIfInBounds_toArray, List.set_cons_zero, List.set_cons_succ])))
  refine InText.nil fun w5 hS5 => ?_
  clear hT9
  clear hE
  go_wp2_with fail
  have hE := hS5
  clear hS5
  refine wp_text (S := (Env w0 (boxI b (rlC lv key vs x y z 9 W X K V C fd) :: L))) (by kernel_rfl) (by kernel_rfl) hE.drew (fun hT => ?_)
  have hT9 := Lib.hid hT
  clear hT
  repeat (first
    | (refine text_value (v := ?_) hT9.out (by rfl) ?_ ?_; rotate_left; (focus (intro w5 hS; have r := hS.rule 0 rfl; unfold rlC at r; go_simp <;> with_reducible rfl)); (try simp only [Act.put, List.setIfInBounds_toArray, List.set_cons_zero, List.set_cons_succ]))
    | (refine text_off hT9.out (by rfl) ?_; (try simp only [Act.put, List.setIfInBounds_toArray, List.set_cons_zero, List.set_cons_succ]))
    | (refine text_call (v := ?_) (f := ?_) (args := ?_) hT9.out (by rfl) ?_ ?_ ?_; rotate_left 3; (focus (intro w5 hS; have r := hS.rule 0 rfl; unfold rlC at r; go_simp; constructor <;> with_reducible rfl)); (focus (intro w5 hS; (first | fail))); (try simp only [Act.put, List.setIfInBounds_toArray, List.set_cons_zero, List.set_cons_succ])))
  refine InText.nil fun w5 hS5 => ?_
  clear hT9
  clear hE
  go_wp2_with fail
  go_ret
  exact ⟨rfl, hS5⟩

end
end Go.Proofs.YtchcdfoncebemaaGreatDoor
