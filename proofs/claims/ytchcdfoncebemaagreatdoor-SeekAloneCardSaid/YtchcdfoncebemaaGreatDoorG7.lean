/- What is proved on the way to the statement, part 7 of 9: contracts of the functions, among other things in memory. -/
import Derived.Test.YtchcdfoncebemaaGreatDoorG6
import Derived.LoopIn
import Derived.Shelf.SlSortCmp.Insertion
import Derived.Sort.Statements

/- Rows of the call's own, of structs of k cells each: appended to, read. General. -/
namespace Go.Proofs.YtchcdfoncebemaaGreatDoor
open Go.RowKit Go.Maps
set_option maxRecDepth 100000

section
variable {α : Type} {enc : α → List Value} {k : Nat}
def flatK (enc : α → List Value) (l : List α) : List Value := l.flatMap enc
theorem flatK_length (hk : ∀ x, (enc x).length = k) (l : List α) : (flatK enc l).length = l.length * k := by
  induction l with
  | nil => simp [flatK]
  | cons x l ih =>
    have e : flatK enc (x :: l) = enc x ++ flatK enc l := by simp [flatK]
    rw [e, List.length_append, ih, hk, List.length_cons, Nat.add_mul]
    omega
theorem flatK_append (a b : List α) : flatK enc (a ++ b) = flatK enc a ++ flatK enc b := by simp [flatK]
theorem flatK_get [Inhabited α] (hk : ∀ x, (enc x).length = k) : ∀ (l : List α) (j c : Nat), j < l.length → c < k → (flatK enc l)[j * k + c]? = (enc (l.getD j default))[c]? := by
  intro l
  induction l with
  | nil => intro j c h; simp at h
  | cons x l ih =>
    intro j c hj hc
    have e : flatK enc (x :: l) = enc x ++ flatK enc l := by simp [flatK]
    cases j with
    | zero => rw [e, List.getElem?_append_left (by rw [hk]; omega)]; simp
    | succ j =>
      have e3 : (j + 1) * k = j * k + k := by rw [Nat.add_mul, Nat.one_mul]
      rw [e, List.getElem?_append_right (by rw [hk]; omega)]
      have := ih j c (by simpa using hj) hc
      have e2 : (j + 1) * k + c - (enc x).length = j * k + c := by rw [hk]; omega
      rw [e2, this]
      simp
theorem RowX.news [Inhabited α] (hk : ∀ x, (enc x).length = k) (hk0 : 0 < k) {w : World} {ad : Addr} {xs : List α} (h : RowX enc k w (some ad) xs) : ∀ j u, (flatK enc xs)[j]? = some u → w.cell? (ad.add j) = some u := by
  intro j u hu
  rcases h with rfl | ⟨b, off, he, hl, hc⟩
  · simp [flatK] at hu
  · cases he
    have hj : j < xs.length * k := by rw [← flatK_length hk]; exact (List.getElem?_eq_some_iff.1 hu).1
    have e : (⟨b, off, none⟩ : Addr).add j = ⟨b, off + j, none⟩ := by unfold Addr.add; split <;> simp_all
    have e2 : j / k * k + j % k = j := by rw [Nat.mul_comm]; exact Nat.div_add_mod j k
    have hlt : j / k < xs.length := (Nat.div_lt_iff_lt_mul hk0).2 hj
    have h1 := hc (j / k) hlt (j % k) u (by rw [← flatK_get hk xs (j / k) (j % k) hlt (Nat.mod_lt _ hk0), e2, hu])
    rw [e]
    rwa [Nat.add_assoc, e2] at h1
theorem Blk.rowK [Inhabited α] (hk : ∀ x, (enc x).length = k) {w : World} {g : Nat} {l : List α} (h : Blk 0 w g (flatK enc l)) : RowX enc k w (some ⟨g, 0, none⟩) l := by
  refine .inr ⟨g, 0, rfl, h.1, fun i hi j v e => ?_⟩
  have hj : j < k := by have := (List.getElem?_eq_some_iff.1 e).1; rw [hk] at this; exact this
  rw [Nat.zero_add, h.rule, flatK_get hk l i j hi hj]
  exact e
theorem owns_rowK [Inhabited α] (hk : ∀ x, (enc x).length = k) {w : World} {b : Nat} {e : TypeId} {A : Option Addr} {cap : Nat} {l : List α} (h : w.ownsRow b e k (.slice A l.length cap) l.length (flatK enc l)) : RowX enc k w A l := by
  rcases h.2 with ⟨_, h0⟩ | ⟨g, cap', cur, hv, _, hg, hn, hc, hcs, htk⟩
  · exact .inl (List.eq_nil_of_length_eq_zero h0)
  · simp only [Value.slice.injEq] at hv
    obtain ⟨rfl, -, rfl⟩ := hv
    refine .inr ⟨g, 0, rfl, (Array.getElem?_eq_some_iff.1 hg).1, fun i hi j v e => ?_⟩
    have hj : j < k := by have := (List.getElem?_eq_some_iff.1 e).1; rw [hk] at this; exact this
    have h1 := flatK_get hk l i j hi hj
    have hlt : i * k + j < l.length * k := by
      have : (i + 1) * k ≤ l.length * k := Nat.mul_le_mul_right k hi
      rw [Nat.add_mul] at this
      omega
    rw [e, ← htk, List.getElem?_take_of_lt hlt] at h1
    rw [Nat.zero_add]
    simp only [World.cell?, hg]
    simpa using h1
/-- A row of its own, appended to. -/
def rowKI (enc : α → List Value) (k : Nat) (v : Value) (e : TypeId) (l : List α) : Item := rowI v e k l.length (flatK enc l)
variable {w0 w w' : World} {L : List Item}
theorem Env.rowK (h : Env w0 L w) (i : Nat) {v : Value} {e : TypeId} {l : List α} (hi : L[i]? = some (rowKI enc k v e l)) : w.ownsRow 0 e k v l.length (flatK enc l) := h.get i hi
theorem Env.cellsK [Inhabited α] (hk : ∀ x, (enc x).length = k) (h : Env w0 L w) (i : Nat) {A : Option Addr} {n cap : Nat} {e : TypeId} {l : List α} (hn : n = l.length) (hi : L[i]? = some (rowKI enc k (.slice A n cap) e l)) : RowX enc k w A l := by subst hn; exact owns_rowK hk (h.rowK i hi)
theorem Env.addEmptyK (h : Env w0 L w) (n : Nat) (hn : w.heap.size = n) (e : TypeId) : Env w0 (rowKI enc k (.slice (some ⟨n, 0, none⟩) 0 0) e [] :: L) (w.alloc (.cells #[] e)) := by
  subst hn
  have ho : (w.alloc (.cells #[] e)).ownsRow w.heap.size e k (.slice (some ⟨w.heap.size, 0, none⟩) 0 0) 0 (flatK enc []) := ⟨by simp [flatK], .inr ⟨w.heap.size, 0, #[], rfl, Nat.le_refl _, heap_alloc_new w _, Nat.le_refl _, by simp, by simp, by simp [flatK]⟩⟩
  exact h.add (rowKI enc k (.slice (some ⟨w.heap.size, 0, none⟩) 0 0) e []) ((Below.refl _ _).alloc (Nat.le_refl _) _) (ownsRow_base ho (Nat.zero_le _)) fun k hk => ho.lt k hk
/-- A row appended to a row of its own. -/
theorem Env.appendK [Inhabited α] (hk : ∀ x, (enc x).length = k) (hk0 : 0 < k) (hone : ∀ x, ∀ u ∈ enc x, u.oneCell' = true) {P : Program} (h : Env w0 L w) (i : Nat) {v : Value} {e : TypeId} {l xs : List α} (hi : L[i]? = some (rowKI enc k v e l)) (t ty : TypeId) (ht : P.underlying t = some (.slice e))
    {zz : Value} {bytes : Nat} (hzz0 : zz.cells.size = k) (hinfo : (P.info? e).map (fun i => (i.zero, i.size, i.bytes)) = some (some zz, k, bytes))
    {A : Option Addr} (c : Nat) (hx : RowX enc k w A xs) (hA : A = none → xs = []) (hz : l.length + xs.length ≤ maxLen) (hby : (l.length + xs.length) * bytes ≤ 140737488355328) :
    ∃ A' c' w', (Builtin.append_ #[t, t] ty #[v, .slice A xs.length c]).run P w = .ok (.slice A' (l.length + xs.length) c') w' ∧ Env w0 (L.set i (rowKI enc k (.slice A' (l.length + xs.length) c') e (l ++ xs))) w' := by
  obtain ⟨i0, hi0, hzz⟩ := Option.map_eq_some_iff.1 hinfo
  simp only [Prod.mk.injEq] at hzz
  obtain ⟨hz0, hs, hb⟩ := hzz
  have hown := h.rowK i hi
  obtain ⟨v', w', hrun, ho, hg, hv⟩ := run_append_rows (P := P) t ty 0 e i0 zz k bytes ht hi0 hz0 hs hb hzz0 hk0 w v l.length (flatK enc l) hown A xs.length c (flatK enc xs) (flatK_length hk xs)
    (by
      cases A with
      | none =>
        left
        have := hA rfl
        subst this
        exact ⟨rfl, rfl⟩
      | some ad => exact .inr ⟨ad, rfl, RowX.news hk hk0 hx⟩) (fun u hu => by
        obtain ⟨x, _, hx2⟩ := List.mem_flatMap.1 hu
        exact hone x u hx2) hz hby (Nat.zero_le _)
  obtain ⟨A', c', rfl⟩ := ownsRow_slice ho
  have hst : Step (fun k => v.ownBlock = some k) (fun k => (Value.slice A' (l.length + xs.length) c').ownBlock = some k) w w' := ⟨(Turn.refl _ w).grown hg fun k _ e => e, fun k hk => by
    rcases hv with e | e
    · exact .inl (by rw [← e]; exact hk)
    · right
      rw [e] at hk
      cases hk
      exact Nat.le_refl _⟩
  refine ⟨A', c', w', hrun, h.step i (rowKI enc k _ e (l ++ xs)) hi hst ?_ ?_⟩
  · show w'.ownsRow 0 e k _ (l ++ xs).length (flatK enc (l ++ xs))
    rw [List.length_append, flatK_append]
    exact ho
  · exact ownsRow_lt ho
end
end Go.Proofs.YtchcdfoncebemaaGreatDoor

/- The contract of nodes: slots that can be, each once. -/
namespace Go.Proofs.YtchcdfoncebemaaGreatDoor
open Go.RowKit Go.Maps
set_option maxRecDepth 100000

theorem encN_len (x : Nd) : (encN x).length = 4 := rfl
theorem encN_one (x : Nd) : ∀ u ∈ encN x, u.oneCell' = true := by intro u hu; simp [encN] at hu; rcases hu with rfl | rfl | rfl | rfl <;> rfl
theorem infoNd : (Tryz.prog.info? 87).map (fun i => (i.zero, i.size, i.bytes)) = some (some (.agg #[.int .i64 0, .int .u64 0, .int .u64 0, .bool false]), 4, 32) := by kernel_rfl

section
variable {w0 w : World} {L : List Item}
set_option maxHeartbeats 6400000 in
theorem nodes_t (A : Option Addr) (cap : Nat) (xs : List NdI) (hxl : xs.length ≤ 9223372036854775807) (hok : ∀ r ∈ xs, OkNdI r) (hrow : RowX encNdI 4 w0 A xs) (hE : Env w0 L w) :
    Calls Tryz.prog 9 #[.slice A xs.length cap] w fun o w' => ∃ (g : Option Addr) (c : Nat) (ns : List Nd), o = .returned (.slice g ns.length c) ∧ ns.length ≤ 40 ∧ (∀ n ∈ ns, NdOk n) ∧ (ns.map (·.s)).Nodup ∧ Env w0 (rowKI encN 4 (.slice g ns.length c) 87 ns :: L) w' := by
  have hE1 := hE.addEmptyK (enc := encN) (k := 4) w.heap.size rfl 87
  have HROW := Lib.hid hrow
  have HOK := Lib.hid hok
  clear hrow hok hE
  go_enter Tryz.func9, Tryz.ntmps9
  go_wp2_with (first | (refine list_usedM rfl rfl rfl rfl rfl _ _ rfl rfl rfl ?_; intro w2 hu))
  have hs1 : (w.alloc (.cells #[] 87)).heap.size = w.heap.size + 1 := by simp
  rw [hs1] at hu
  have hE := hE1.usedM hs1 hu
  clear hu hE1 hs1
  generalize w.heap.size = B0 at *
  go_loopw [3, 5] (fun ov iv wr => ∃ (j : Nat) (ns : List Nd) (g : Option Addr) (c : Nat) (T : Nat → Bool), ov = .slice g ns.length c ∧ iv = .int .i64 j ∧ j ≤ xs.length ∧ j ≤ 40 ∧ ns.length ≤ j ∧ Hid ((∀ n ∈ ns, NdOk n ∧ T n.s.toNat = true) ∧ (ns.map (·.s)).Nodup) ∧ Env w0 (usedMI (B0 + 1) T :: rowKI encN 4 (.slice g ns.length c) 87 ns :: L) wr) (fun _ iv _ => 40 - (intOf iv).toNat)
  case atStart => exact ⟨0, [], _, 0, _, rfl, rfl, Nat.zero_le _, by omega, Nat.le_refl _, Lib.hid ⟨by simp, by simp⟩, hE⟩
  case round =>
    clear hE
    obtain ⟨j, ns, g, c, T, rfl, rfl, hj, hj4, hnl, hinv, hE⟩ := hrel
    by_cases hlt : j < xs.length
    · by_cases hlt4 : j < 40
      · have hb1 : decide ((j : Int) < (xs.length : Int)) = true := by simp; omega
        have hb2 : decide ((j : Int) < 40) = true := by simp; omega
        have hlt1 : (j : Int) < (xs.length : Int) := by omega
        rcases HROW.out with h0 | ⟨g0, off, rfl, hgl, hc⟩
        · rw [h0] at hlt; simp at hlt
        obtain ⟨x, hx⟩ : ∃ x, xs.getD j default = x := ⟨_, rfl⟩
        have hxo : OkNdI x := HOK.out x (by rw [← hx, List.getD_eq_getElem?_getD, List.getElem?_eq_getElem hlt]; exact List.getElem_mem hlt)
        have hcj := (hc j hlt).below hE.below hgl
        rw [hx] at hcj
        obtain ⟨s, key, val, mb⟩ := x
        obtain ⟨c0, c1, c2, c3⟩ := at_NdI hcj
        obtain ⟨r, hr, hr0, hr1⟩ := cut_u1 s 1000 (by decide) (by decide)
        obtain ⟨t, rfl⟩ : ∃ t : Nat, r = (t : Int) := ⟨r.toNat, by omega⟩
        have htl : t < 1001 := by omega
        have ht2 : (t : Int) < 1001 := by omega
        obtain ⟨-, hk, hv⟩ := hxo
        dsimp only at hk hv
        have HOKN : Hid (NdOk ⟨(t : Int), key, val, mb⟩) := Lib.hid ⟨⟨hr0, hr1⟩, hk, hv⟩
        have hE6 := hE.box wr.heap.size rfl [.int .i64 t, .int .u64 key, .int .u64 val, .bool mb] 87
        have hus := ((show (usedMI (B0 + 1) T).says _ from hE6.get 1 rfl).2 t htl)
        obtain ⟨hus1, hus2⟩ := hus
        clear hx hcj hc hk hv hr0 hr1
        cases hT : T t
        · rw [hT] at hus1
          have hE8 := hE6.markM 1 rfl htl
          simp only [List.set_cons_succ, List.set_cons_zero] at hE8
          have r8 := hE8.rule 0 rfl
          have hE9 := hE8.box (wr.heap.size + 1) (by simp) (encN ⟨(t : Int), key, val, mb⟩) 87
          obtain ⟨A9, c9, w9, hrun, hE10⟩ := hE9.appendK (xs := [(⟨(t : Int), key, val, mb⟩ : Nd)]) encN_len (by decide) encN_one 3 rfl 22 22 Tryz.underlying22 rfl infoNd 1 (Blk.rowK (enc := encN) (k := 4) encN_len (l := [(⟨(t : Int), key, val, mb⟩ : Nd)]) (show Blk 0 _ _ (flatK encN [(⟨(t : Int), key, val, mb⟩ : Nd)]) from hE9.get 0 rfl)) (fun h => by cases h) (by unfold maxLen; simp; omega) (by simp; omega)
          have HRUN := Lib.hid hrun
          have HINV : Hid ((∀ n ∈ ns ++ [(⟨(t : Int), key, val, mb⟩ : Nd)], NdOk n ∧ (fun k => T k || decide (k = t)) n.s.toNat = true) ∧ ((ns ++ [(⟨(t : Int), key, val, mb⟩ : Nd)]).map (·.s)).Nodup) := Lib.hid (by
            obtain ⟨h1, h2⟩ := hinv.out
            refine ⟨fun n hn => ?_, ?_⟩
            · rcases List.mem_append.1 hn with hn | hn
              · exact ⟨(h1 n hn).1, by simp [(h1 n hn).2]⟩
              · simp only [List.mem_singleton] at hn
                subst hn
                exact ⟨HOKN.out, by simp⟩
            · rw [List.map_append, List.nodup_append]
              refine ⟨h2, by simp, ?_⟩
              intro a ha b hb hab
              simp only [List.map_cons, List.map_nil, List.mem_singleton] at hb
              subst hab hb
              obtain ⟨n, hn, he⟩ := List.mem_map.1 ha
              have h3 := (h1 n hn).2
              rw [he] at h3
              rw [show ((t : Int)).toNat = t from by simp, hT] at h3
              exact absurd h3 (by simp))
          clear hrun hE9 hE hinv
          go_wp2_with (first | (at_builtin; refine wpList_append_run rfl _ _ 22 rfl HRUN.out rfl rfl ?_))
          refine ⟨⟨j + 1, ns ++ [⟨(t : Int), key, val, mb⟩], A9, c9, (fun k => T k || decide (k = t)), by simp, by simp, by omega, by omega, by simp; omega, HINV, ?_⟩, by simp [intOf]; omega⟩
          have h9 := hE10.sub (.cons _ (.cons _ (List.Sublist.refl _)))
          simpa using h9
        · rw [hT] at hus1
          go_wp2_with fail
          exact ⟨⟨j + 1, ns, g, c, T, rfl, by simp, by omega, by omega, by omega, hinv, hE6.sub (.cons _ (List.Sublist.refl _))⟩, by simp [intOf]; omega⟩
      · have hb1 : decide ((j : Int) < (xs.length : Int)) = true := by simp; omega
        have hb2 : decide ((j : Int) < 40) = false := by simp; omega
        go_wp2_with fail
        go_ret
        exact ⟨g, c, ns, rfl, by omega, fun n hn => (hinv.out.1 n hn).1, hinv.out.2, hE.sub (.cons _ (List.Sublist.refl _))⟩
    · have hb1 : decide ((j : Int) < (xs.length : Int)) = false := by simp; omega
      go_wp2_with fail
      go_ret
      exact ⟨g, c, ns, rfl, by omega, fun n hn => (hinv.out.1 n hn).1, hinv.out.2, hE.sub (.cons _ (List.Sublist.refl _))⟩
end
end Go.Proofs.YtchcdfoncebemaaGreatDoor

/- The contract of sorted: slots that can be, each once. -/
namespace Go.Proofs.YtchcdfoncebemaaGreatDoor
open Go.RowKit Go.Maps
set_option maxRecDepth 100000

theorem flatN_set : ∀ (l : List Nd) (j : Nat) (a : Nd), j < l.length → flatK encN (l.set j a) = ((((flatK encN l).set (j * 4) (.int .i64 a.s)).set (j * 4 + 1) (.int .u64 a.key)).set (j * 4 + 2) (.int .u64 a.val)).set (j * 4 + 3) (.bool a.mb)
  | [], j, a, h => absurd h (by simp)
  | n :: r, 0, a, _ => by simp [flatK, encN]
  | n :: r, j + 1, a, h => by
    have ih := flatN_set r j a (by simpa using h)
    have e : ∀ l, flatK encN (n :: l) = .int .i64 n.s :: .int .u64 n.key :: .int .u64 n.val :: .bool n.mb :: flatK encN l := fun l => by simp [flatK, encN]
    rw [List.set_cons_succ, e, e, ih]
    simp only [show (j + 1) * 4 = j * 4 + 4 by omega, show j * 4 + 4 + 1 = j * 4 + 1 + 4 by omega, show j * 4 + 4 + 2 = j * 4 + 2 + 4 by omega, show j * 4 + 4 + 3 = j * 4 + 3 + 4 by omega]
    rfl
theorem flatN_mark : ∀ (l : List Nd) (j : Nat), j < l.length → flatK encN (l.set j { l.getD j default with mb := true }) = (flatK encN l).set (j * 4 + 3) (.bool true)
  | [], j, h => absurd h (by simp)
  | n :: r, 0, _ => by simp [flatK, encN]
  | n :: r, j + 1, h => by
    have ih := flatN_mark r j (by simpa using h)
    have e : ∀ l, flatK encN (n :: l) = .int .i64 n.s :: .int .u64 n.key :: .int .u64 n.val :: .bool n.mb :: flatK encN l := fun l => by simp [flatK, encN]
    rw [List.set_cons_succ, e, e, List.getD_cons_succ, ih]
    simp only [show (j + 1) * 4 + 3 = j * 4 + 3 + 4 by omega]
    rfl
/-- Two that stand side by side change places. -/
def swpN (l : List Nd) (t : Nat) : List Nd := (l.set (t + 1) (l.getD t default)).set t (l.getD (t + 1) default)
theorem swpN_perm : ∀ (l : List Nd) (t : Nat), t + 1 < l.length → (swpN l t).Perm l
  | [], _, h => absurd h (by simp)
  | [_], _, h => absurd h (by simp)
  | a :: b :: r, 0, _ => by simpa [swpN] using List.Perm.swap a b r
  | a :: b :: r, t + 1, h => by
    have := swpN_perm (b :: r) t (by simpa using h)
    exact this.cons a
theorem swpN_length (l : List Nd) (t : Nat) : (swpN l t).length = l.length := by simp [swpN]
/-- Slots that can be, each once. -/
def GoodN (ns : List Nd) : Prop := (∀ n ∈ ns, NdOk n) ∧ (ns.map (·.s)).Nodup
theorem GoodN.perm {a b : List Nd} (h : GoodN b) (hp : a.Perm b) : GoodN a := ⟨fun n hn => h.1 n (hp.mem_iff.1 hn), (hp.map (·.s)).nodup_iff.2 h.2⟩
theorem mark_slots : ∀ (l : List Nd) (j : Nat), (l.set j { l.getD j default with mb := true }).map (·.s) = l.map (·.s)
  | [], _ => rfl
  | _ :: _, 0 => rfl
  | n :: r, j + 1 => by
    have := mark_slots r j
    simpa using this
theorem mark_ok : ∀ (l : List Nd) (j : Nat), (∀ n ∈ l, NdOk n) → ∀ n ∈ l.set j { l.getD j default with mb := true }, NdOk n
  | [], _, h => h
  | a :: r, 0, h => fun n hn => by
    rcases List.mem_cons.1 hn with e | e
    · rw [e]; exact h a (List.mem_cons_self ..)
    · exact h n (List.mem_cons_of_mem _ e)
  | a :: r, j + 1, h => fun n hn => by
    rcases List.mem_cons.1 hn with e | e
    · rw [e]; exact h a (List.mem_cons_self ..)
    · exact mark_ok r j (fun m hm => h m (List.mem_cons_of_mem _ hm)) n e
theorem GoodN.mark {l : List Nd} (h : GoodN l) (j : Nat) : GoodN (l.set j { l.getD j default with mb := true }) := ⟨mark_ok l j h.1, by rw [mark_slots]; exact h.2⟩

section
variable {w0 w : World} {L : List Item}
/-- One of a row is written. -/
theorem Env.setN (h : Env w0 L w) (i : Nat) {g cap n : Nat} {e : TypeId} {l : List Nd} (hn : n = l.length) (hi : L[i]? = some (rowKI encN 4 (.slice (some ⟨g, 0, none⟩) n cap) e l)) {j : Nat} (hj : j < l.length) (a : Nd) :
    Env w0 (L.set i (rowKI encN 4 (.slice (some ⟨g, 0, none⟩) n cap) e (l.set j a))) ((((w.setCell ⟨g, j * 4, none⟩ (.int .i64 a.s)).setCell ⟨g, j * 4 + 1, none⟩ (.int .u64 a.key)).setCell ⟨g, j * 4 + 2, none⟩ (.int .u64 a.val)).setCell ⟨g, j * 4 + 3, none⟩ (.bool a.mb)) := by
  subst hn
  have ho := h.rowK i hi
  refine h.step i (rowKI encN 4 (.slice (some ⟨g, 0, none⟩) l.length cap) e (l.set j a)) hi ⟨((((Turn.refl (fun k => (Value.slice (some ⟨g, 0, none⟩) l.length cap).ownBlock = some k) w).setCell (p := ⟨g, j * 4, none⟩) (fun _ => rfl) _).setCell (p := ⟨g, j * 4 + 1, none⟩) (fun _ => rfl) _).setCell (p := ⟨g, j * 4 + 2, none⟩) (fun _ => rfl) _).setCell (p := ⟨g, j * 4 + 3, none⟩) (fun _ => rfl) _, fun k hk => .inl hk⟩ ?_ fun k hk => by
    have := h.lt i hi k hk
    simpa using this
  show World.ownsRow _ 0 e 4 _ (l.set j a).length (flatK encN (l.set j a))
  rw [flatN_set l j a hj, List.length_set]
  exact ((((ho.stored _ _).1.stored _ _).1.stored _ _).1.stored _ _).1
theorem Env.markN (h : Env w0 L w) (i : Nat) {g cap n : Nat} {e : TypeId} {l : List Nd} (hn : n = l.length) (hi : L[i]? = some (rowKI encN 4 (.slice (some ⟨g, 0, none⟩) n cap) e l)) {j : Nat} (hj : j < l.length) :
    Env w0 (L.set i (rowKI encN 4 (.slice (some ⟨g, 0, none⟩) n cap) e (l.set j { l.getD j default with mb := true }))) (w.setCell ⟨g, j * 4 + 3, none⟩ (.bool true)) := by
  subst hn
  have ho := h.rowK i hi
  refine h.step i (rowKI encN 4 (.slice (some ⟨g, 0, none⟩) l.length cap) e (l.set j { l.getD j default with mb := true })) hi ⟨(Turn.refl (fun k => (Value.slice (some ⟨g, 0, none⟩) l.length cap).ownBlock = some k) w).setCell (p := ⟨g, j * 4 + 3, none⟩) (fun _ => rfl) _, fun k hk => .inl hk⟩ ?_ fun k hk => by
    have := h.lt i hi k hk
    simpa using this
  show World.ownsRow _ 0 e 4 _ (l.set j { l.getD j default with mb := true }).length (flatK encN (l.set j { l.getD j default with mb := true }))
  rw [flatN_mark l j hj, List.length_set]
  exact (ho.stored _ _).1
/-- Where a row lies that holds something. -/
theorem Env.atN (h : Env w0 L w) (i : Nat) {A : Option Addr} {n cap : Nat} {e : TypeId} {l : List Nd} (hn : n = l.length) (hi : L[i]? = some (rowKI encN 4 (.slice A n cap) e l)) (h0 : 0 < n) : ∃ g, A = some ⟨g, 0, none⟩ := by
  subst hn
  rcases (h.rowK i hi).2 with ⟨-, h9⟩ | ⟨g, _, _, hv, _⟩
  · omega
  · simp only [Value.slice.injEq] at hv
    exact ⟨g, hv.1⟩
theorem Env.cellN (h : Env w0 L w) (i : Nat) {g n cap : Nat} {e : TypeId} {l : List Nd} (hn : n = l.length) (hi : L[i]? = some (rowKI encN 4 (.slice (some ⟨g, 0, none⟩) n cap) e l)) {j : Nat} (hj : j < l.length) {x : Nd} (hx : l.getD j default = x) :
    w.cell? ⟨g, j * 4, none⟩ = some (.int .i64 x.s) ∧ w.cell? ⟨g, j * 4 + 1, none⟩ = some (.int .u64 x.key) ∧ w.cell? ⟨g, j * 4 + 2, none⟩ = some (.int .u64 x.val) ∧ w.cell? ⟨g, j * 4 + 3, none⟩ = some (.bool x.mb) := by
  rcases h.cellsK encN_len i hn hi with h0 | ⟨g', off', h9, -, hc⟩
  · rw [h0] at hj; exact absurd hj (by simp)
  · cases h9
    have := at4N (hc j hj)
    rw [hx, Nat.zero_add] at this
    exact this

set_option maxHeartbeats 6400000 in
theorem sorted_t (A : Option Addr) (cap : Nat) (xs : List NdI) (hxl : xs.length ≤ 9223372036854775807) (hok : ∀ r ∈ xs, OkNdI r) (hrow : RowX encNdI 4 w0 A xs) (hE : Env w0 L w) :
    Calls Tryz.prog 34 #[.slice A xs.length cap] w fun o w' => ∃ (g : Option Addr) (c : Nat) (ns : List Nd), o = .returned (.slice g ns.length c) ∧ ns.length ≤ 40 ∧ GoodN ns ∧ Env w0 (rowKI encN 4 (.slice g ns.length c) 87 ns :: L) w' := by
  have HN := Lib.hid (nodes_t A cap xs hxl hok hrow hE)
  clear hok hrow hE hxl
  go_enter Tryz.func34, Tryz.ntmps34
  go_wp2_with fail
  refine HN.out.mono ?_
  rintro o w1 ⟨g, c, ns0, rfl, hn40, hnok, hnd, hE⟩
  have HG0 : Hid (GoodN ns0) := Lib.hid ⟨hnok, hnd⟩
  obtain ⟨N, hN⟩ : ∃ N, ns0.length = N := ⟨_, rfl⟩
  rw [hN] at hE hn40 ⊢
  have HN0 := Lib.hid hN
  clear hnok hnd HN hN
  go_wp2_with fail
  go_loopw [4] (fun iv wr => ∃ (j : Nat) (ns : List Nd), iv = .int .i64 j ∧ j ≤ 41 ∧ Hid (ns.length = N) ∧ Hid (GoodN ns) ∧ Env w0 (rowKI encN 4 (.slice g N c) 87 ns :: L) wr) (fun iv _ => 41 - (intOf iv).toNat)
  case atStart => exact ⟨1, ns0, rfl, by omega, HN0, HG0, hE⟩
  case round =>
    clear hE HG0 HN0
    obtain ⟨j, ns, rfl, hj, hns, hg, hE⟩ := hrel
    by_cases hlt : j < N
    · have hb1 : decide ((j : Int) < (N : Int)) = true := by simp; omega
      obtain ⟨b, rfl⟩ := hE.atN 0 hns.out.symm rfl (by omega)
      go_wp2_with fail
      go_loopw [5] (fun kv wr => ∃ (t : Nat) (ns : List Nd), kv = .int .i64 t ∧ t < N ∧ Hid (ns.length = N) ∧ Hid (GoodN ns) ∧ Env w0 (rowKI encN 4 (.slice (some ⟨b, 0, none⟩) N c) 87 ns :: L) wr) (fun kv _ => (intOf kv).toNat)
      case atStart => exact ⟨j, ns, rfl, hlt, hns, hg, hE⟩
      case round =>
        clear hE hg hns
        obtain ⟨t, ns, rfl, ht, hns, hg, hE⟩ := hrel
        rcases Nat.eq_zero_or_pos t with rfl | ht0
        · have hb2 : decide (((0 : Nat) : Int) > 0) = false := rfl
          have hb3 : decide ((0 : Int) > 0) = false := rfl
          go_wp2_with fail
          refine wp_text (S := (Env w0 (rowKI encN 4 (.slice (some ⟨b, 0, none⟩) N c) 87 ns :: L))) (by kernel_rfl) (by kernel_rfl) hE.drew (fun hT => ?_)
          have hT9 := Lib.hid hT
          clear hT
          repeat (first
            | (refine text_value (v := ?_) hT9.out (by rfl) ?_ ?_; rotate_left; (focus (intro w5 hS; skip; go_simp <;> with_reducible rfl)); (try simp only [Act.put, List.setIfInBounds_toArray, List.set_cons_zero, List.set_cons_succ]))
            | (refine text_off hT9.out (by rfl) ?_; (try simp only [Act.put, List.setIfInBounds_toArray, List.set_cons_zero, List.set_cons_succ]))
            | (refine text_call (v := ?_) (f := ?_) (args := ?_) hT9.out (by rfl) ?_ ?_ ?_; rotate_left 3; (focus (intro w5 hS; skip; go_simp; constructor <;> with_reducible rfl)); (focus (intro w5 hS; (first | fail))); (try simp only [Act.put, List.setIfInBounds_toArray, List.set_cons_zero, List.set_cons_succ])))
          refine InText.nil fun w5 hS5 => ?_
          clear hT9
          go_wp2_with fail
          exact ⟨⟨j + 1, ns, by simp, by omega, hns, hg, hS5⟩, by simp [intOf]; omega⟩
        · obtain ⟨s, rfl⟩ : ∃ s, t = s + 1 := ⟨t - 1, by omega⟩
          have hb2 : decide (((s : Int) + 1) > 0) = true := by rw [decide_eq_true_iff]; omega
          have hsN : s < N := by omega
          have hs1 : (s : Int) < (N : Int) := by omega
          have hs2 : (s : Int) + 1 < (N : Int) := by omega
          have hq2 : (0 : Int) ≤ (s : Int) + 1 := by omega
          have hq3 : s + 1 < N := ht
          have hq4 : (s : Int) ≤ (N : Int) := by omega
          obtain ⟨x, hx⟩ : ∃ x, ns.getD (s + 1) default = x := ⟨_, rfl⟩
          obtain ⟨y, hy⟩ : ∃ y, ns.getD s default = y := ⟨_, rfl⟩
          have HA : Hid (∀ v, Env w0 (rowKI encN 4 (.slice (some ⟨b, 0, none⟩) N c) 87 ns :: L) v → v.cell? ⟨b, (s + 1) * 4, none⟩ = some (.int .i64 x.s) ∧ v.cell? ⟨b, (s + 1) * 4 + 1, none⟩ = some (.int .u64 x.key) ∧ v.cell? ⟨b, (s + 1) * 4 + 2, none⟩ = some (.int .u64 x.val) ∧ v.cell? ⟨b, (s + 1) * 4 + 3, none⟩ = some (.bool x.mb)) := Lib.hid fun v hv => hv.cellN 0 hns.out.symm rfl (by rw [hns.out]; exact ht) hx
          have HB : Hid (∀ v, Env w0 (rowKI encN 4 (.slice (some ⟨b, 0, none⟩) N c) 87 ns :: L) v → v.cell? ⟨b, s * 4, none⟩ = some (.int .i64 y.s) ∧ v.cell? ⟨b, s * 4 + 1, none⟩ = some (.int .u64 y.key) ∧ v.cell? ⟨b, s * 4 + 2, none⟩ = some (.int .u64 y.val) ∧ v.cell? ⟨b, s * 4 + 3, none⟩ = some (.bool y.mb)) := Lib.hid fun v hv => hv.cellN 0 hns.out.symm rfl (by rw [hns.out]; exact hsN) hy
          have HX := Lib.hid hx
          have HY := Lib.hid hy
          have hwk : IntKind.i64.wrap (s : Int) = (s : Int) := by rw [IntKind.wrap_i64]; omega
          have hwj : wrap64 (s : Int) = (s : Int) := w64 _ (by omega)
          clear hx hy
          obtain ⟨xs9, xk, xv, xm⟩ := x
          obtain ⟨ys9, yk, yv, ym⟩ := y
          dsimp only at HA HB
          obtain ⟨q, hq⟩ : ∃ q, decide (xk < yk) = q := ⟨_, rfl⟩
          go_wp2_with fail
          refine wp_text (S := (Env w0 (rowKI encN 4 (.slice (some ⟨b, 0, none⟩) N c) 87 ns :: L))) (by kernel_rfl) (by kernel_rfl) hE.drew (fun hT => ?_)
          have hT9 := Lib.hid hT
          clear hT
          repeat (first
            | (refine text_value (v := ?_) hT9.out (by rfl) ?_ ?_; rotate_left; (focus (intro w5 hS; obtain ⟨a0, a1, a2, a3⟩ := HA.out _ hS; obtain ⟨b0, b1, b2, b3⟩ := HB.out _ hS; go_simp <;> with_reducible rfl)); (try simp only [Act.put, List.setIfInBounds_toArray, List.set_cons_zero, List.set_cons_succ]))
            | (refine text_off hT9.out (by rfl) ?_; (try simp only [Act.put, List.setIfInBounds_toArray, List.set_cons_zero, List.set_cons_succ]))
            | (refine text_call (v := ?_) (f := ?_) (args := ?_) hT9.out (by rfl) ?_ ?_ ?_; rotate_left 3; (focus (intro w5 hS; obtain ⟨a0, a1, a2, a3⟩ := HA.out _ hS; obtain ⟨b0, b1, b2, b3⟩ := HB.out _ hS; go_simp; constructor <;> with_reducible rfl)); (focus (intro w5 hS; (first | fail))); (try simp only [Act.put, List.setIfInBounds_toArray, List.set_cons_zero, List.set_cons_succ])))
          refine InText.nil fun w5 hS5 => ?_
          clear hT9
          obtain ⟨a0, a1, a2, a3⟩ := HA.out _ hS5
          obtain ⟨b0, b1, b2, b3⟩ := HB.out _ hS5
          cases q
          · go_wp2_with fail
            exact ⟨⟨j + 1, ns, by simp, by omega, hns, hg, hS5⟩, by simp [intOf]; omega⟩
          · have hown := hS5.rowK 0 rfl
            rw [hns.out] at hown
            have hb5 : b < w5.heap.size := (hown.lt b rfl).2
            have zW : ∀ i, w5.frozen? ⟨b, i, none⟩ = false := fun i => hown.frozenAt i
            clear hown
            go_wp2_with fail
            have h1 := hS5.setN 0 hns.out.symm rfl (j := s + 1) (by rw [hns.out]; exact ht) ⟨ys9, yk, yv, ym⟩
            have h2 := h1.setN 0 (by simp [hns.out]) rfl (j := s) (by rw [List.length_set, hns.out]; exact hsN) ⟨xs9, xk, xv, xm⟩
            have h3 := h2.over ((Below.refl _ _).alloc (Nat.le_refl _) (.cells #[.int .i64 xs9, .int .u64 xk, .int .u64 xv, .bool xm] 87))
            have hsw : swpN ns s = (ns.set (s + 1) ⟨ys9, yk, yv, ym⟩).set s ⟨xs9, xk, xv, xm⟩ := by unfold swpN; rw [HX.out, HY.out]
            refine ⟨⟨s, swpN ns s, rfl, hsN, Lib.hid (by rw [swpN_length]; exact hns.out), Lib.hid (hg.out.perm (swpN_perm ns s (by rw [hns.out]; exact ht))), ?_⟩, by simp [intOf]⟩
            rw [hsw]
            exact h3
    · have hb1 : decide ((j : Int) < (N : Int)) = false := by simp; omega
      go_wp2_with fail
      go_loopw [7] (fun iv wr => ∃ (j : Nat) (ns : List Nd), iv = .int .i64 j ∧ 1 ≤ j ∧ j ≤ 41 ∧ Hid (ns.length = N) ∧ Hid (GoodN ns) ∧ Env w0 (rowKI encN 4 (.slice g N c) 87 ns :: L) wr) (fun iv _ => 41 - (intOf iv).toNat)
      case atStart => exact ⟨1, ns, rfl, by omega, by omega, hns, hg, hE⟩
      case round =>
        clear hE hg hns hb1 hlt hj
        obtain ⟨j1, ns, rfl, hj0, hj, hns, hg, hE⟩ := hrel
        by_cases hlt : j1 < N
        · obtain ⟨s, rfl⟩ : ∃ s, j1 = s + 1 := ⟨j1 - 1, by omega⟩
          have hb1 : decide (((s : Int) + 1) < (N : Int)) = true := by rw [decide_eq_true_iff]; omega
          obtain ⟨b, rfl⟩ := hE.atN 0 hns.out.symm rfl (by omega)
          have hsN : s < N := by omega
          have hs1 : (s : Int) < (N : Int) := by omega
          have hs2 : (s : Int) + 1 < (N : Int) := by omega
          have hq2 : (0 : Int) ≤ (s : Int) + 1 := by omega
          have hq3 : s + 1 < N := hlt
          have hq4 : (s : Int) ≤ (N : Int) := by omega
          obtain ⟨x, hx⟩ : ∃ x, ns.getD (s + 1) default = x := ⟨_, rfl⟩
          obtain ⟨y, hy⟩ : ∃ y, ns.getD s default = y := ⟨_, rfl⟩
          have HA : Hid (∀ v, Env w0 (rowKI encN 4 (.slice (some ⟨b, 0, none⟩) N c) 87 ns :: L) v → v.cell? ⟨b, (s + 1) * 4, none⟩ = some (.int .i64 x.s) ∧ v.cell? ⟨b, (s + 1) * 4 + 1, none⟩ = some (.int .u64 x.key) ∧ v.cell? ⟨b, (s + 1) * 4 + 2, none⟩ = some (.int .u64 x.val) ∧ v.cell? ⟨b, (s + 1) * 4 + 3, none⟩ = some (.bool x.mb)) := Lib.hid fun v hv => hv.cellN 0 hns.out.symm rfl (by rw [hns.out]; exact hlt) hx
          have HB : Hid (∀ v, Env w0 (rowKI encN 4 (.slice (some ⟨b, 0, none⟩) N c) 87 ns :: L) v → v.cell? ⟨b, s * 4, none⟩ = some (.int .i64 y.s) ∧ v.cell? ⟨b, s * 4 + 1, none⟩ = some (.int .u64 y.key) ∧ v.cell? ⟨b, s * 4 + 2, none⟩ = some (.int .u64 y.val) ∧ v.cell? ⟨b, s * 4 + 3, none⟩ = some (.bool y.mb)) := Lib.hid fun v hv => hv.cellN 0 hns.out.symm rfl (by rw [hns.out]; exact hsN) hy
          have hwk : IntKind.i64.wrap (s : Int) = (s : Int) := by rw [IntKind.wrap_i64]; omega
          have hwj : wrap64 (s : Int) = (s : Int) := w64 _ (by omega)
          clear hx hy
          obtain ⟨xs9, xk, xv, xm⟩ := x
          obtain ⟨ys9, yk, yv, ym⟩ := y
          dsimp only at HA HB
          obtain ⟨q, hq⟩ : ∃ q, (xk == yk) = q := ⟨_, rfl⟩
          go_wp2_with fail
          refine wp_text (S := (Env w0 (rowKI encN 4 (.slice (some ⟨b, 0, none⟩) N c) 87 ns :: L))) (by kernel_rfl) (by kernel_rfl) hE.drew (fun hT => ?_)
          have hT9 := Lib.hid hT
          clear hT
          repeat (first
            | (refine text_value (v := ?_) hT9.out (by rfl) ?_ ?_; rotate_left; (focus (intro w5 hS; obtain ⟨a0, a1, a2, a3⟩ := HA.out _ hS; obtain ⟨b0, b1, b2, b3⟩ := HB.out _ hS; go_simp <;> with_reducible rfl)); (try simp only [Act.put, List.setIfInBounds_toArray, List.set_cons_zero, List.set_cons_succ]))
            | (refine text_off hT9.out (by rfl) ?_; (try simp only [Act.put, List.setIfInBounds_toArray, List.set_cons_zero, List.set_cons_succ]))
            | (refine text_call (v := ?_) (f := ?_) (args := ?_) hT9.out (by rfl) ?_ ?_ ?_; rotate_left 3; (focus (intro w5 hS; obtain ⟨a0, a1, a2, a3⟩ := HA.out _ hS; obtain ⟨b0, b1, b2, b3⟩ := HB.out _ hS; go_simp; constructor <;> with_reducible rfl)); (focus (intro w5 hS; (first | fail))); (try simp only [Act.put, List.setIfInBounds_toArray, List.set_cons_zero, List.set_cons_succ])))
          refine InText.nil fun w5 hS5 => ?_
          clear hT9
          cases q
          · go_wp2_with fail
            exact ⟨⟨s + 1 + 1, ns, by simp, by omega, by omega, hns, hg, hS5⟩, by simp [intOf]; omega⟩
          · have hown := hS5.rowK 0 rfl
            rw [hns.out] at hown
            have hb5 : b < w5.heap.size := (hown.lt b rfl).2
            have zW : ∀ i, w5.frozen? ⟨b, i, none⟩ = false := fun i => hown.frozenAt i
            obtain ⟨b0, b1, b2, b3⟩ := HB.out _ hS5
            clear hown
            go_wp2_with fail
            have h1 := hS5.markN 0 hns.out.symm rfl (j := s) (by rw [hns.out]; exact hsN)
            exact ⟨⟨s + 1 + 1, ns.set s { ns.getD s default with mb := true }, by simp, by omega, by omega, Lib.hid (by rw [List.length_set]; exact hns.out), Lib.hid (hg.out.mark s), h1⟩, by simp [intOf]; omega⟩
        · have hb1 : decide ((j1 : Int) < (N : Int)) = false := by rw [decide_eq_false_iff_not]; omega
          go_wp2_with fail
          go_ret
          have hnn := hns.out
          subst hnn
          exact ⟨g, c, ns, rfl, hn40, hg.out, hE⟩
end
end Go.Proofs.YtchcdfoncebemaaGreatDoor

/- A search alone, by plain mathematics: chains, and how they go. -/
namespace Go.Proofs.YtchcdfoncebemaaGreatDoor
open Go.RowKit Go.Maps
set_option maxRecDepth 100000

/-- The link's cell of a slot. -/
def lkP (s : Int) : Plc := (5, s, 7)
/-- What was gone along: from a place to a place. -/
def Seg (f : Plc → Int) : Plc → List Nd → Plc → Prop
  | p, [], q => p = q
  | p, n :: r, q => slotI (f p) = n.s ∧ Seg f (lkP n.s) r q
/-- What lies ahead. -/
def Ch (f : Plc → Int) : Plc → List Nd → Prop
  | p, [] => slotI (f p) = 0
  | p, n :: r => slotI (f p) = n.s ∧ f (5, n.s, 3) = n.key ∧ f (5, n.s, 4) = n.val ∧ markB (f (lkP n.s)) = n.mb ∧ Ch f (lkP n.s) r
/-- A list's slots. -/
def Sl (f : Plc → Int) : Plc → List Nd → Prop
  | p, [] => slotI (f p) = 0
  | p, n :: r => slotI (f p) = n.s ∧ Sl f (lkP n.s) r
theorem lkP_inj {a b : Int} (h : a ≠ b) : lkP a ≠ lkP b := fun e => h (by unfold lkP at e; simpa using e)
theorem lkP_key (a b : Int) : ((5, a, 3) : Plc) ≠ lkP b := fun e => by unfold lkP at e; simp at e
theorem lkP_val (a b : Int) : ((5, a, 4) : Plc) ≠ lkP b := fun e => by unfold lkP at e; simp at e
theorem Ch.sl {f : Plc → Int} : ∀ {ns : List Nd} {p : Plc}, Ch f p ns → Sl f p ns
  | [], _, h => h
  | _ :: _, _, ⟨h1, _, _, _, h2⟩ => ⟨h1, h2.sl⟩
theorem Seg.sl {f : Plc → Int} : ∀ {ds ns : List Nd} {p q : Plc}, Seg f p ds q → Sl f q ns → Sl f p (ds ++ ns)
  | [], _, _, _, h, h2 => by cases h; exact h2
  | _ :: _, _, _, _, ⟨h1, h3⟩, h2 => ⟨h1, h3.sl h2⟩
theorem Seg.snoc {f : Plc → Int} {n : Nd} : ∀ {ds : List Nd} {p q : Plc}, Seg f p ds q → slotI (f q) = n.s → Seg f p (ds ++ [n]) (lkP n.s)
  | [], _, _, h, h2 => by cases h; exact ⟨h2, rfl⟩
  | _ :: _, _, _, ⟨h1, h3⟩, h2 => ⟨h1, h3.snoc h2⟩
theorem Seg.ends {f : Plc → Int} : ∀ {ds : List Nd} {p q : Plc}, Seg f p ds q → q = p ∨ ∃ d ∈ ds, q = lkP d.s
  | [], _, _, h => .inl h.symm
  | d :: _, _, _, ⟨_, h3⟩ => by
    rcases h3.ends with h | ⟨d', hd, h⟩
    · exact .inr ⟨d, List.mem_cons_self .., h⟩
    · exact .inr ⟨d', List.mem_cons_of_mem _ hd, h⟩
theorem Seg.upd {f : Plc → Int} {v : Int} : ∀ {ds : List Nd} {p q : Plc}, Seg f p ds q → (ds.map (·.s)).Nodup → (∀ d ∈ ds, p ≠ lkP d.s) → Seg (upd f q v) p ds q
  | [], _, _, h, _, _ => h
  | d :: r, p, q, ⟨h1, h3⟩, hn, hp => by
    rw [List.map_cons, List.nodup_cons] at hn
    have hpq : p ≠ q := by
      rcases h3.ends with h | ⟨d', hd, h⟩
      · rw [h]; exact hp d (List.mem_cons_self ..)
      · rw [h]; exact hp d' (List.mem_cons_of_mem _ hd)
    refine ⟨by rw [upd_other f v hpq]; exact h1, h3.upd hn.2 fun d' hd => lkP_inj fun e => hn.1 ?_⟩
    rw [e]
    exact List.mem_map.2 ⟨d', hd, rfl⟩
/-- A cell that is not a link's. -/
def NoKV (q : Plc) : Prop := ∀ s : Int, ((5, s, 3) : Plc) ≠ q ∧ ((5, s, 4) : Plc) ≠ q
theorem noKV_lk (s : Int) : NoKV (lkP s) := fun _ => ⟨lkP_key _ _, lkP_val _ _⟩
theorem noKV_root (k : Int) : NoKV (4, 0, k) := fun _ => ⟨by simp, by simp⟩
theorem Ch.other {f g : Plc → Int} : ∀ {ns : List Nd} {p : Plc}, Ch f p ns → g p = f p → (∀ n ∈ ns, g (5, n.s, 3) = f (5, n.s, 3) ∧ g (5, n.s, 4) = f (5, n.s, 4) ∧ g (lkP n.s) = f (lkP n.s)) → Ch g p ns
  | [], _, h, hp, _ => by show slotI _ = 0; rw [hp]; exact h
  | n :: r, _, ⟨h1, h2, h3, h4, h5⟩, hp, ha => by
    obtain ⟨a1, a2, a3⟩ := ha n (List.mem_cons_self ..)
    exact ⟨by rw [hp]; exact h1, by rw [a1]; exact h2, by rw [a2]; exact h3, by rw [a3]; exact h4, h5.other a3 fun m hm => ha m (List.mem_cons_of_mem _ hm)⟩
/-- A marked head is cut off. -/
theorem Ch.cut {f : Plc → Int} {q : Plc} {n : Nd} {r : List Nd} {v : Int} (h : Ch f q (n :: r)) (hq : NoKV q) (hv : slotI v = slotI (f (lkP n.s))) (hr : ∀ m ∈ r, lkP m.s ≠ q) : Ch (upd f q v) q r := by
  obtain ⟨-, -, -, -, h5⟩ := h
  have ho : ∀ m ∈ r, upd f q v (5, m.s, 3) = f (5, m.s, 3) ∧ upd f q v (5, m.s, 4) = f (5, m.s, 4) ∧ upd f q v (lkP m.s) = f (lkP m.s) := fun m hm => ⟨upd_other f v (hq m.s).1, upd_other f v (hq m.s).2, upd_other f v (hr m hm)⟩
  match r, h5, ho with
  | [], h5, _ =>
    show slotI _ = 0
    rw [upd_same, hv]
    exact h5
  | m :: t, ⟨g1, g2, g3, g4, g5⟩, ho =>
    obtain ⟨a1, a2, a3⟩ := ho m (List.mem_cons_self ..)
    exact ⟨by rw [upd_same, hv]; exact g1, by rw [a1]; exact g2, by rw [a2]; exact g3, by rw [a3]; exact g4, g5.other a3 fun x hx => ho x (List.mem_cons_of_mem _ hx)⟩

/-- What is left of a list. -/
def wantN (key : Int) : List Nd → List Nd
  | [] => []
  | n :: r => if n.mb then wantN key r else if n.key < key then n :: wantN key r else n :: r
/-- The first without a mark that is not below. -/
def hitN (key : Int) : List Nd → Option Nd
  | [] => none
  | n :: r => if n.mb then hitN key r else if n.key < key then hitN key r else some n
def fdN (key : Int) (o : Option Nd) : Bool := match o with | none => false | some n => decide (n.key = key)
def vlN (o : Option Nd) : Int := match o with | none => 0 | some n => n.val

/-- How a list lies that is gone along. -/
structure Lies (f : Plc → Int) (k : Int) (q : Plc) (ds ns : List Nd) : Prop where
  ep : f (1, 0, 0) = 9
  seg : Seg f (4, 0, k) ds q
  ch : Ch f q ns
  nd : ((ds ++ ns).map (·.s)).Nodup
  rg : ∀ n ∈ ds ++ ns, 1 ≤ n.s ∧ n.s ≤ 1000
theorem Lies.noKV {f : Plc → Int} {k : Int} {q : Plc} {ds ns : List Nd} (h : Lies f k q ds ns) : NoKV q := by
  rcases h.seg.ends with e | ⟨d, -, e⟩
  · rw [e]; exact noKV_root k
  · rw [e]; exact noKV_lk _
theorem Lies.noep {f : Plc → Int} {k : Int} {q : Plc} {ds ns : List Nd} (h : Lies f k q ds ns) : ((1, 0, 0) : Plc) ≠ q := by
  rcases h.seg.ends with e | ⟨d, -, e⟩
  · rw [e]; simp
  · rw [e]; simp [lkP]
theorem Lies.cut {f : Plc → Int} {k : Int} {q : Plc} {ds r : List Nd} {n : Nd} {v : Int} (h : Lies f k q ds (n :: r)) (hv : slotI v = slotI (f (lkP n.s))) : Lies (upd f q v) k q ds r := by
  have hnd := h.nd
  rw [List.map_append, List.nodup_append, List.map_cons, List.nodup_cons] at hnd
  obtain ⟨n1, ⟨n2, n3⟩, n4⟩ := hnd
  refine ⟨by rw [upd_other f v h.noep]; exact h.ep, h.seg.upd n1 fun d _ => by simp [lkP], h.ch.cut h.noKV hv fun m hm e => ?_, ?_, fun m hm => h.rg m ?_⟩
  · rcases h.seg.ends with e1 | ⟨d, hd, e1⟩
    · rw [e1] at e; simp [lkP] at e
    · rw [e1] at e
      refine n4 d.s (List.mem_map.2 ⟨d, hd, rfl⟩) m.s (List.mem_cons_of_mem _ (List.mem_map.2 ⟨m, hm, rfl⟩)) ?_
      exact Classical.byContradiction fun h9 => lkP_inj h9 e.symm
  · rw [List.map_append, List.nodup_append]
    exact ⟨n1, n3, fun a ha b hb => n4 a ha b (List.mem_cons_of_mem _ hb)⟩
  · rcases List.mem_append.1 hm with hm | hm
    · exact List.mem_append_left _ hm
    · exact List.mem_append_right _ (List.mem_cons_of_mem _ hm)
theorem Lies.pass {f : Plc → Int} {k : Int} {q : Plc} {ds r : List Nd} {n : Nd} (h : Lies f k q ds (n :: r)) : Lies f k (lkP n.s) (ds ++ [n]) r :=
  ⟨h.ep, h.seg.snoc h.ch.1, h.ch.2.2.2.2, by rw [List.append_assoc]; exact h.nd, by rw [List.append_assoc]; exact h.rg⟩

/-- How a lane stands, alone, at a list; how many steps it has at most. -/
def La (k key : Int) (L : Lm) (f : Plc → Int) (ds ns : List Nd) (mu : Nat) : Prop :=
  Lies f k L.p ds ns ∧ (
    (L.pc = 0 ∧ ds = [] ∧ markB (f L.p) = false ∧ mu = 5 * ns.length + 5) ∨
    (L.pc = 2 ∧ ds = [] ∧ markB (f L.p) = false ∧ L.W = f L.p ∧ mu = 5 * ns.length + 4) ∨
    (L.W = f L.p ∧ ∃ n r, ns = n :: r ∧ L.C = n.s ∧ (
      (L.pc = 3 ∧ mu = 5 * ns.length + 3) ∨
      (L.pc = 4 ∧ L.X = f (lkP n.s) ∧ mu = 5 * ns.length + 2) ∨
      (L.pc = 5 ∧ L.X = f (lkP n.s) ∧ n.mb = true ∧ mu = 5 * ns.length + 1) ∨
      (L.pc = 6 ∧ L.X = f (lkP n.s) ∧ n.mb = false ∧ mu = 5 * ns.length + 1) ∨
      (L.pc = 7 ∧ L.X = f (lkP n.s) ∧ n.mb = false ∧ L.K = n.key ∧ mu = 5 * ns.length) ∨
      (L.pc = 8 ∧ n.mb = false ∧ n.key = key ∧ mu = 5 * ns.length - 1) ∨
      (L.pc = 9 ∧ n.mb = false ∧ n.key = key ∧ L.V = n.val ∧ mu = 5 * ns.length - 2))))
/-- How a search stands. -/
def Al (k key : Int) (T : Sm) (f : Plc → Int) (ds ns : List Nd) (mu : Nat) : Prop :=
  (T.on = false ∧ ds = [] ∧ Lies f k (4, 0, k) ds ns ∧ markB (f (4, 0, k)) = false ∧ mu = 5 * ns.length + 6) ∨ (T.on = true ∧ T.e = 9 ∧ La k key T.L f ds ns mu)
/-- What is left, and what is found, of both. -/
def Left (key : Int) (ds ns : List Nd) : List Nd × Option Nd := (ds ++ wantN key ns, hitN key ns)
/-- How it ends. -/
def AlEnd (k key : Int) (vs : Bool) (L : Lm) (f : Plc → Int) (w : List Nd × Option Nd) : Prop := Sl f (4, 0, k) w.1 ∧ L.fd = fdN key w.2 ∧ (vs = true → L.fd = true → L.V = vlN w.2)
end Go.Proofs.YtchcdfoncebemaaGreatDoor

/- A search alone, by plain mathematics: each step. -/
namespace Go.Proofs.YtchcdfoncebemaaGreatDoor
open Go.RowKit Go.Maps
set_option maxRecDepth 100000

/-- It comes to a link. -/
theorem come_al {k key : Int} {vs : Bool} {L : Lm} {f : Plc → Int} {ds ns : List Nd} {W : Int} (hl : Lies f k L.p ds ns) (hW : W = f L.p) (hfd : L.fd = false) :
    ((comeM L W).1 = 0 ∧ La k key (comeM L W).2 f ds ns (5 * ns.length + 3)) ∨ ((comeM L W).1 = 1 ∧ AlEnd k key vs (comeM L W).2 f (Left key ds ns)) := by
  match ns, hl with
  | [], hl =>
    right
    have h0 : slotI W = 0 := by rw [hW]; exact hl.ch
    unfold comeM
    rw [if_pos h0]
    exact ⟨rfl, hl.seg.sl hl.ch.sl, hfd, fun _ h => absurd (h.symm.trans hfd) (by simp)⟩
  | n :: r, hl =>
    left
    have h1 : slotI W = n.s := by rw [hW]; exact hl.ch.1
    have h2 := (hl.rg n (List.mem_append_right _ (List.mem_cons_self ..))).1
    unfold comeM
    rw [if_neg (by rw [h1]; omega)]
    exact ⟨rfl, hl, .inr (.inr ⟨hW, n, r, rfl, h1, .inl ⟨rfl, rfl⟩⟩)⟩
theorem Left.marked {key : Int} {ds r : List Nd} {n : Nd} (h : n.mb = true) : Left key ds (n :: r) = Left key ds r := by simp [Left, wantN, hitN, h]
theorem Left.passed {key : Int} {ds r : List Nd} {n : Nd} (h : n.mb = false) (hk : n.key < key) : Left key ds (n :: r) = Left key (ds ++ [n]) r := by simp [Left, wantN, hitN, h, hk]
theorem Left.hit {key : Int} {ds r : List Nd} {n : Nd} (h : n.mb = false) (hk : ¬ n.key < key) : Left key ds (n :: r) = (ds ++ n :: r, some n) := by simp [Left, wantN, hitN, h, hk]
theorem okB_of {f : Plc → Int} (h : f (1, 0, 0) = 9) : okB (f (1, 0, 0)) 9 = true := by rw [h]; decide

theorem la_step {k key : Int} {vs : Bool} {L : Lm} {f : Plc → Int} {ds ns : List Nd} {mu : Nat} (hL : LmOk L) (h : La k key L f ds ns mu) :
    ((laneM 0 key vs 9 L f).1 = 0 ∧ ∃ ds' ns' mu', La k key (laneM 0 key vs 9 L f).2.1 (laneM 0 key vs 9 L f).2.2 ds' ns' mu' ∧ mu' < mu ∧ Left key ds' ns' = Left key ds ns) ∨
    ((laneM 0 key vs 9 L f).1 = 1 ∧ AlEnd k key vs (laneM 0 key vs 9 L f).2.1 (laneM 0 key vs 9 L f).2.2 (Left key ds ns)) := by
  obtain ⟨hl, h⟩ := h
  have hok := okB_of hl.ep
  rcases h with ⟨hpc, hds, hmk, hmu⟩ | ⟨hpc, hds, hmk, hW, hmu⟩ | ⟨hW, n, r, hns, hC, h⟩
  · have hM : laneM 0 key vs 9 L f = (0, { L with W := f L.p, pc := 2 }, f) := by simp [laneM, hpc]
    rw [hM]
    exact .inl ⟨rfl, ds, ns, 5 * ns.length + 4, ⟨hl, .inr (.inl ⟨rfl, hds, hmk, rfl, rfl⟩)⟩, by omega, rfl⟩
  · have hM : laneM 0 key vs 9 L f = ((comeM L L.W).1, (comeM L L.W).2, f) := by
      have : markB L.W = false := by rw [hW]; exact hmk
      simp [laneM, holdsM, hpc, hok, this]
    rw [hM]
    rcases come_al (key := key) (vs := vs) hl hW (hL.fd (by omega)) with ⟨h1, h2⟩ | ⟨h1, h2⟩
    · exact .inl ⟨h1, ds, ns, _, h2, by omega, rfl⟩
    · exact .inr ⟨h1, h2⟩
  · subst hns
    have hch := hl.ch
    obtain ⟨c1, c2, c3, c4, c5⟩ := hch
    have hlk : ((5, L.C, 7 + 0) : Plc) = lkP n.s := by rw [hC]; rfl
    rcases h with ⟨hpc, hmu⟩ | ⟨hpc, hX, hmu⟩ | ⟨hpc, hX, hmb, hmu⟩ | ⟨hpc, hX, hmb, hmu⟩ | ⟨hpc, hX, hmb, hK, hmu⟩ | ⟨hpc, hmb, hk, hmu⟩ | ⟨hpc, hmb, hk, hV, hmu⟩
    · have hM : laneM 0 key vs 9 L f = (0, { L with X := f (lkP n.s), pc := 4 }, f) := by rw [← hlk]; simp [laneM, hpc]
      rw [hM]
      exact .inl ⟨rfl, ds, n :: r, _, ⟨hl, .inr (.inr ⟨hW, n, r, rfl, hC, .inr (.inl ⟨rfl, rfl, rfl⟩)⟩)⟩, by omega, rfl⟩
    · have hM : laneM 0 key vs 9 L f = (0, { L with pc := if markB L.X then 5 else 6 }, f) := by simp [laneM, holdsM, hpc, hok]
      rw [hM]
      have hm2 : markB L.X = n.mb := by rw [hX]; exact c4
      rw [hm2]
      cases hmb : n.mb
      · exact .inl ⟨rfl, ds, n :: r, 5 * (n :: r).length + 1, ⟨hl, .inr (.inr ⟨hW, n, r, rfl, hC, .inr (.inr (.inr (.inl ⟨by simp, hX, hmb, rfl⟩)))⟩)⟩, by omega, rfl⟩
      · exact .inl ⟨rfl, ds, n :: r, 5 * (n :: r).length + 1, ⟨hl, .inr (.inr ⟨hW, n, r, rfl, hC, .inr (.inr (.inl ⟨by simp, hX, hmb, rfl⟩))⟩)⟩, by omega, rfl⟩
    · obtain ⟨v, hv⟩ : ∃ v, wordI false (slotI L.X) 9 = v := ⟨_, rfl⟩
      have hM : laneM 0 key vs 9 L f = ((comeM L v).1, (comeM L v).2, upd f L.p v) := by
        rw [← hv]
        simp [laneM, hpc, hW, swf]
      rw [hM]
      have hsv : slotI v = slotI (f (lkP n.s)) := by
        rw [← hv, hX]
        exact slot_word (isL_mk (slotI_in _).1 (slotI_in _).2 (by decide) (by decide))
      have hl2 := hl.cut hsv
      have hlen : (n :: r).length = r.length + 1 := rfl
      rcases come_al (key := key) (vs := vs) hl2 (upd_same f L.p v).symm (hL.fd (by omega)) with ⟨h1, h2⟩ | ⟨h1, h2⟩
      · exact .inl ⟨h1, ds, r, _, h2, by omega, (Left.marked hmb).symm⟩
      · exact .inr ⟨h1, by rw [Left.marked hmb]; exact h2⟩
    · have hM : laneM 0 key vs 9 L f = (0, { L with K := n.key, pc := 7 }, f) := by rw [← c2, ← hC]; simp [laneM, hpc]
      rw [hM]
      exact .inl ⟨rfl, ds, n :: r, _, ⟨hl, .inr (.inr ⟨hW, n, r, rfl, hC, .inr (.inr (.inr (.inr (.inl ⟨rfl, hX, hmb, rfl, rfl⟩))))⟩)⟩, by omega, rfl⟩
    · have hlen : (n :: r).length = r.length + 1 := rfl
      by_cases hlt : n.key < key
      · have hM : laneM 0 key vs 9 L f = ((comeM { L with p := lkP n.s } L.X).1, (comeM { L with p := lkP n.s } L.X).2, f) := by
          rw [← hlk]
          simp [laneM, holdsM, hpc, hok, hK, hlt]
        rw [hM]
        have hl2 : Lies f k ({ L with p := lkP n.s } : Lm).p (ds ++ [n]) r := hl.pass
        rcases come_al (key := key) (vs := vs) (L := { L with p := lkP n.s }) hl2 hX (hL.fd (by omega)) with ⟨h1, h2⟩ | ⟨h1, h2⟩
        · exact .inl ⟨h1, ds ++ [n], r, _, h2, by omega, (Left.passed hmb hlt).symm⟩
        · exact .inr ⟨h1, by rw [Left.passed hmb hlt]; exact h2⟩
      · have hsl : Sl f (4, 0, k) (ds ++ n :: r) := hl.seg.sl hl.ch.sl
        by_cases heq : n.key = key
        · cases vs
          · have hM : laneM 0 key false 9 L f = (1, { L with fd := true }, f) := by simp [laneM, holdsM, hpc, hok, hK, heq]
            rw [hM, Left.hit hmb hlt]
            exact .inr ⟨rfl, hsl, by simp [fdN, heq], fun h => absurd h (by simp)⟩
          · have hM : laneM 0 key true 9 L f = (0, { L with fd := true, pc := 8 }, f) := by simp [laneM, holdsM, hpc, hok, hK, heq]
            rw [hM]
            exact .inl ⟨rfl, ds, n :: r, _, ⟨hl, .inr (.inr ⟨hW, n, r, rfl, hC, .inr (.inr (.inr (.inr (.inr (.inl ⟨rfl, hmb, heq, rfl⟩)))))⟩)⟩, by omega, rfl⟩
        · have hM : laneM 0 key vs 9 L f = (1, L, f) := by simp [laneM, holdsM, hpc, hok, hK, hlt, heq]
          rw [hM, Left.hit hmb hlt]
          have hf := hL.fd (by omega)
          exact .inr ⟨rfl, hsl, by simp [fdN, heq, hf], fun _ h => absurd (h.symm.trans hf) (by simp)⟩
    · have hlen : (n :: r).length = r.length + 1 := rfl
      have hM : laneM 0 key vs 9 L f = (0, { L with V := n.val, pc := 9 }, f) := by rw [← c3, ← hC]; simp [laneM, hpc]
      rw [hM]
      exact .inl ⟨rfl, ds, n :: r, _, ⟨hl, .inr (.inr ⟨hW, n, r, rfl, hC, .inr (.inr (.inr (.inr (.inr (.inr ⟨rfl, hmb, hk, rfl, rfl⟩)))))⟩)⟩, by omega, rfl⟩
    · have hM : laneM 0 key vs 9 L f = (1, L, f) := by simp [laneM, holdsM, hpc, hok]
      rw [hM, Left.hit hmb (by omega)]
      have hf := hL.ft (by omega)
      exact .inr ⟨rfl, hl.seg.sl hl.ch.sl, by simp [fdN, hk, hf], fun _ _ => hV⟩

/-- Each step of a search that is alone: fewer are left, or it ends as it should. -/
theorem al_step {k key : Int} {vs : Bool} {T : Sm} {f : Plc → Int} {ds ns : List Nd} {mu : Nat} (hT : SmOk T) (h : Al k key T f ds ns mu) :
    ((searchM k key vs T f).1 = 0 ∧ ∃ ds' ns' mu', Al k key (searchM k key vs T f).2.1 (searchM k key vs T f).2.2 ds' ns' mu' ∧ mu' < mu ∧ Left key ds' ns' = Left key ds ns) ∨
    ((searchM k key vs T f).1 = 1 ∧ (searchM k key vs T f).2.1.on = true ∧ AlEnd k key vs (searchM k key vs T f).2.1.L (searchM k key vs T f).2.2 (Left key ds ns)) := by
  rcases h with ⟨hon, hds, hl, hmk, hmu⟩ | ⟨hon, he, h⟩
  · have hM : searchM k key vs T f = (0, { on := true, L := L0 (4, 0, k), e := epI (f (1, 0, 0)), r := T.r }, f) := by unfold searchM; rw [hon]; rfl
    rw [hM]
    exact .inl ⟨rfl, ds, ns, 5 * ns.length + 5, .inr ⟨rfl, by show epI _ = 9; rw [hl.ep]; decide, hl, .inl ⟨rfl, hds, hmk, rfl⟩⟩, by omega, rfl⟩
  · have hM : searchM k key vs T f = (if (laneM 0 key vs 9 T.L f).1 = 1 then 1 else 0, { on := decide ((laneM 0 key vs 9 T.L f).1 ≠ 2), L := (laneM 0 key vs 9 T.L f).2.1, e := T.e, r := rollM T.e T.L f T.r }, (laneM 0 key vs 9 T.L f).2.2) := by unfold searchM; rw [if_pos hon, he]
    rw [hM]
    rcases la_step (vs := vs) (hT hon).1 h with ⟨h1, ds', ns', mu', h2, h3, h4⟩ | ⟨h1, h2⟩
    · exact .inl ⟨by rw [h1]; rfl, ds', ns', mu', .inr ⟨by simp [h1], he, h2⟩, h3, h4⟩
    · exact .inr ⟨by rw [h1]; rfl, by simp [h1], h2⟩

/-- The list as it is laid. -/
theorem setL_at (l : List OneR) (p : Plc) (v : Int) (x : Plc) : getL (setL l p v) x = if x = p then v else getL l x := by rw [getL_set]; rfl
theorem lnk_slot (mk : Bool) {s : Int} (h : 0 ≤ s ∧ s ≤ 1000) : slotI (lnk mk s 9) = s ∧ markB (lnk mk s 9) = mk := by
  have hL : isL s 9 = true := isL_mk h.1 (by omega) (by decide) (by decide)
  unfold lnk markedW
  cases mk
  · exact ⟨slot_word hL, mark_word hL⟩
  · rw [if_pos rfl, if_neg (by rw [mark_word hL]; simp)]
    exact ⟨slot_word hL, mark_word hL⟩
theorem lay_ch : ∀ (ns : List Nd) (p : Plc) (mk : Bool) (l : List OneR), (ns.map (·.s)).Nodup → (∀ n ∈ ns, 1 ≤ n.s ∧ n.s ≤ 1000) → NoKV p → (∀ n ∈ ns, p ≠ lkP n.s) →
    (∀ x, x ≠ p → (∀ n ∈ ns, x ≠ (5, n.s, 3) ∧ x ≠ (5, n.s, 4) ∧ x ≠ lkP n.s) → getL (layL 0 9 ns p mk l) x = getL l x) ∧ Ch (getL (layL 0 9 ns p mk l)) p ns ∧ markB (getL (layL 0 9 ns p mk l) p) = mk
  | [], p, mk, l, _, _, _, _ => by
    have h := lnk_slot mk (s := 0) (by omega)
    refine ⟨fun x hx _ => by show getL (setL _ _ _) x = _; rw [setL_at, if_neg hx], ?_, ?_⟩
    · show slotI (getL (setL _ _ _) p) = 0; rw [setL_at, if_pos rfl]; exact h.1
    · show markB (getL (setL _ _ _) p) = mk; rw [setL_at, if_pos rfl]; exact h.2
  | n :: r, p, mk, l, hn, hr, hp, ho => by
    rw [List.map_cons, List.nodup_cons] at hn
    obtain ⟨hn1, hn2⟩ := hn
    have hnr : ∀ m ∈ r, n.s ≠ m.s := fun m hm e => hn1 (by rw [e]; exact List.mem_map.2 ⟨m, hm, rfl⟩)
    have hnm := hr n (List.mem_cons_self ..)
    have h := lnk_slot mk (s := n.s) (by omega)
    obtain ⟨l3, hl3⟩ : ∃ l3, setL (setL (setL l p (lnk mk n.s 9)) (5, n.s, 3) n.key) (5, n.s, 4) n.val = l3 := ⟨_, rfl⟩
    obtain ⟨i1, i2, i3⟩ := lay_ch r (lkP n.s) n.mb l3 hn2 (fun m hm => hr m (List.mem_cons_of_mem _ hm)) (noKV_lk _) (fun m hm => lkP_inj (hnr m hm))
    have hgo : layL 0 9 (n :: r) p mk l = layL 0 9 r (lkP n.s) n.mb l3 := by rw [← hl3]; rfl
    rw [hgo]
    have h3 : ∀ x, getL l3 x = if x = (5, n.s, 4) then n.val else if x = (5, n.s, 3) then n.key else if x = p then lnk mk n.s 9 else getL l x := fun x => by rw [← hl3, setL_at, setL_at, setL_at]
    have hpp : getL (layL 0 9 r (lkP n.s) n.mb l3) p = lnk mk n.s 9 := by
      rw [i1 p (ho n (List.mem_cons_self ..)) fun m hm => ⟨(hp m.s).1.symm, (hp m.s).2.symm, ho m (List.mem_cons_of_mem _ hm)⟩, h3, if_neg (hp n.s).2.symm, if_neg (hp n.s).1.symm, if_pos rfl]
    have hkk : getL (layL 0 9 r (lkP n.s) n.mb l3) (5, n.s, 3) = n.key := by
      rw [i1 _ (lkP_key _ _) fun m hm => ⟨by simpa using hnr m hm, by simp, lkP_key _ _⟩, h3, if_neg (by simp), if_pos rfl]
    have hvv : getL (layL 0 9 r (lkP n.s) n.mb l3) (5, n.s, 4) = n.val := by
      rw [i1 _ (lkP_val _ _) fun m hm => ⟨by simp, by simpa using hnr m hm, lkP_val _ _⟩, h3, if_pos rfl]
    refine ⟨fun x hx hxo => ?_, ⟨by rw [hpp]; exact h.1, hkk, hvv, i3, i2⟩, by rw [hpp]; exact h.2⟩
    obtain ⟨a1, a2, a3⟩ := hxo n (List.mem_cons_self ..)
    rw [i1 x a3 fun m hm => hxo m (List.mem_cons_of_mem _ hm), h3, if_neg a2, if_neg a1, if_neg hx]
/-- So a search begins. -/
theorem lay_al {k key : Int} {ns : List Nd} (hn : (ns.map (·.s)).Nodup) (hr : ∀ n ∈ ns, NdOk n) : Al k key T0s (getL (layL 0 9 ns (4, 0, k) false (setL [] (1, 0, 0) 9))) [] ns (5 * ns.length + 6) := by
  obtain ⟨h1, h2, h3⟩ := lay_ch ns (4, 0, k) false (setL [] (1, 0, 0) 9) hn (fun n h => (hr n h).1) (noKV_root k) (fun n _ => by simp [lkP])
  refine .inl ⟨rfl, rfl, ⟨?_, rfl, h2, hn, fun n h => (hr n h).1⟩, h3, rfl⟩
  rw [h1 _ (by simp) fun n _ => ⟨by simp, by simp, by simp [lkP]⟩, setL_at, if_pos rfl]
end Go.Proofs.YtchcdfoncebemaaGreatDoor

/- The order of places; the library's sort at it. -/
namespace Go.Proofs.YtchcdfoncebemaaGreatDoor
open Go.RowKit Go.Maps Go.Shelf Go.Sort
set_option maxRecDepth 100000

/-- How two places stand. -/
def orI (a b c : Int) : Int := if a ≠ 0 then a else if b ≠ 0 then b else c
def cmpP (x y : Plc) : Int := orI (Lib.compareInt x.1 y.1) (Lib.compareInt x.2.1 y.2.1) (Lib.compareInt x.2.2 y.2.2)
theorem cmp_neg (a b : Int) : Lib.compareInt a b < 0 ↔ a < b := by unfold Lib.compareInt; split <;> (try split) <;> omega
theorem cmp_zero (a b : Int) : Lib.compareInt a b = 0 ↔ a = b := by unfold Lib.compareInt; split <;> (try split) <;> omega
theorem ltP (x y : Plc) : ltOf cmpP x y = true ↔ x.1 < y.1 ∨ (x.1 = y.1 ∧ (x.2.1 < y.2.1 ∨ (x.2.1 = y.2.1 ∧ x.2.2 < y.2.2))) := by
  have h1 := cmp_neg x.1 y.1
  have h2 := cmp_neg x.2.1 y.2.1
  have h3 := cmp_neg x.2.2 y.2.2
  have z1 := cmp_zero x.1 y.1
  have z2 := cmp_zero x.2.1 y.2.1
  have e : ltOf cmpP x y = true ↔ cmpP x y < 0 := by simp [ltOf]
  rw [e]
  unfold cmpP orI
  split
  · rename_i h; rw [h1]; rw [ne_eq, z1] at h; omega
  · rename_i h
    have h := z1.1 (by simpa using h)
    split
    · rename_i k; rw [h2]; rw [ne_eq, z2] at k; omega
    · rename_i k
      have k := z2.1 (by simpa using k)
      rw [h3]; omega
theorem ltP_false (x y : Plc) : ltOf cmpP x y = false ↔ ¬ (x.1 < y.1 ∨ (x.1 = y.1 ∧ (x.2.1 < y.2.1 ∨ (x.2.1 = y.2.1 ∧ x.2.2 < y.2.2)))) := by rw [← ltP, Bool.not_eq_true]
theorem swoP : SWO (ltOf cmpP) where
  irrefl x := by rw [ltP_false]; omega
  trans x y z h1 h2 := by rw [ltP] at *; omega
  ntrans x y z h1 h2 := by rw [ltP_false] at *; omega
theorem totP (x y : Plc) (h1 : ltOf cmpP x y = false) (h2 : ltOf cmpP y x = false) : x = y := by
  rw [ltP_false] at *
  obtain ⟨a, b, c⟩ := x
  obtain ⟨a', b', c'⟩ := y
  simp only [Prod.mk.injEq]
  simp only at h1 h2
  omega

/-- A place's cells. -/
def encP (x : Plc) : List Value := [.int .i64 x.1, .int .i64 x.2.1, .int .i64 x.2.2]
end Go.Proofs.YtchcdfoncebemaaGreatDoor

/- The keys of a map of words, collected: each once, in whatever order; then sorted: Places. -/
namespace Go.Proofs.YtchcdfoncebemaaGreatDoor
open Go.RowKit Go.Maps Go.Shelf Go.Sort
set_option maxRecDepth 100000

attribute [local go_sem] Oper.semAt_some

def flatP (l : List Plc) : List Value := l.flatMap encP
theorem flatP_snoc (l : List Plc) (x : Plc) : flatP (l ++ [x]) = flatP l ++ encP x := by simp [flatP]
theorem flatP_length (l : List Plc) : (flatP l).length = l.length * 3 := by
  induction l with
  | nil => rfl
  | cons x l ih => simp [flatP, encP] at *; omega
theorem infoPlace : (Tryz.prog.info? 58).map (fun i => (i.zero, i.size, i.bytes)) = some (some (.agg #[.int .i64 0, .int .i64 0, .int .i64 0]), 3, 24) := by kernel_rfl
end Go.Proofs.YtchcdfoncebemaaGreatDoor

/- Places: those whose words aren't 0, in their order. -/
namespace Go.Proofs.YtchcdfoncebemaaGreatDoor
open Go.RowKit Go.Maps Go.Shelf Go.Sort
set_option maxRecDepth 100000

/-! ### rows of places -/
def z3 : Plc := (0, 0, 0)
/-- v is a slice of just those places. -/
def RowP (w : World) (v : Value) (l : List Plc) : Prop :=
  (l = [] ∧ v = .slice none 0 0) ∨ ∃ g cap, v = .slice (some ⟨g, 0, none⟩) l.length cap ∧ g < w.heap.size ∧ ∀ j, j < l.length →
    w.cell? ⟨g, j * 3, none⟩ = some (.int .i64 (l.getD j z3).1) ∧ w.cell? ⟨g, j * 3 + 1, none⟩ = some (.int .i64 (l.getD j z3).2.1) ∧ w.cell? ⟨g, j * 3 + 2, none⟩ = some (.int .i64 (l.getD j z3).2.2)
theorem RowP.over {w w' : World} {v : Value} {l : List Plc} {T : Nat → Prop} (h : RowP w v l) (ht : Turn T w w') (hT : ∀ g len cap, v = .slice (some ⟨g, 0, none⟩) len cap → ¬ T g) : RowP w' v l := by
  rcases h with h | ⟨g, cap, hv, hg, hc⟩
  · exact .inl h
  · have hb := ht.block g hg (hT g _ cap hv)
    exact .inr ⟨g, cap, hv, Nat.lt_of_lt_of_le hg ht.size, fun j hj => by
      obtain ⟨h1, h2, h3⟩ := hc j hj
      refine ⟨?_, ?_, ?_⟩
      · rw [World.cell?_of_block (w := w) hb]; exact h1
      · rw [World.cell?_of_block (w := w) hb]; exact h2
      · rw [World.cell?_of_block (w := w) hb]; exact h3⟩

theorem flatP_get (l : List Plc) : ∀ (j c : Nat), j < l.length → c < 3 → (flatP l)[j * 3 + c]? = (encP (l.getD j z3))[c]? := by
  induction l with
  | nil => intro j c h; simp at h
  | cons x l ih =>
    intro j c hj hc
    have e : flatP (x :: l) = encP x ++ flatP l := by simp [flatP]
    cases j with
    | zero => rw [e, List.getElem?_append_left (by simp [encP]; omega)]; simp
    | succ j =>
      rw [e, List.getElem?_append_right (by simp [encP]; omega)]
      have := ih j c (by simpa using hj) hc
      have e2 : (j + 1) * 3 + c - (encP x).length = j * 3 + c := by simp [encP]; omega
      rw [e2, this]
      simp

def Rising (l : List Plc) : Prop := l.Pairwise fun x y => ltOf cmpP x y = true
theorem rising_eq : ∀ {l m : List Plc}, Rising l → Rising m → (∀ x, x ∈ l ↔ x ∈ m) → l = m
  | [], [], _, _, _ => rfl
  | [], y :: m, _, _, h => by have := (h y).2 (by simp); simp at this
  | x :: l, [], _, _, h => by have := (h x).1 (by simp); simp at this
  | x :: l, y :: m, h1, h2, h => by
    obtain ⟨a1, a2⟩ := List.pairwise_cons.1 h1
    obtain ⟨b1, b2⟩ := List.pairwise_cons.1 h2
    have no : ∀ a b : Plc, ltOf cmpP a b = true → ltOf cmpP b a = true → False := fun a b p q => by
      have := swoP.trans _ _ _ p q
      rw [swoP.irrefl] at this
      cases this
    have hxy : x = y := by
      rcases List.mem_cons.1 ((h x).1 (by simp)) with e | hx
      · exact e
      · rcases List.mem_cons.1 ((h y).2 (by simp)) with e | hy
        · exact e.symm
        · exact (no x y (a1 y hy) (b1 x hx)).elim
    subst hxy
    rw [rising_eq a2 b2 fun z => ⟨fun hz => by
      rcases List.mem_cons.1 ((h z).1 (by simp [hz])) with e | h'
      · subst e; exact (no _ _ (a1 _ hz) (a1 _ hz)).elim
      · exact h', fun hz => by
      rcases List.mem_cons.1 ((h z).2 (by simp [hz])) with e | h'
      · subst e; exact (no _ _ (b1 _ hz) (b1 _ hz)).elim
      · exact h'⟩]
/-- l are the places whose words aren't 0, rising. -/
def PlacesOf (f : Plc → Int) (l : List Plc) : Prop := Rising l ∧ ∀ x, x ∈ l ↔ f x ≠ 0
theorem PlacesOf.eq {f : Plc → Int} {l m : List Plc} (h : PlacesOf f l) (k : PlacesOf f m) : l = m := rising_eq h.1 k.1 fun x => (h.2 x).trans (k.2 x).symm
/-- The one place whose word isn't 0. -/
theorem places_one {x : Plc} {v : Int} (hv : v ≠ 0) {l : List Plc} (h : PlacesOf (upd (fun _ => 0) x v) l) : l.length = 1 := by
  have h1 : PlacesOf (upd (fun _ => 0) x v) [x] := ⟨List.pairwise_singleton _ _, fun y => by unfold upd; split <;> simp_all⟩
  rw [h.eq h1]; rfl

theorem RowP.len {w : World} {v : Value} {l : List Plc} (h : RowP w v l) : ∃ a cap, v = .slice a l.length cap := by
  rcases h with ⟨rfl, rfl⟩ | ⟨g, cap, rfl, _⟩
  · exact ⟨_, _, rfl⟩
  · exact ⟨_, _, rfl⟩
theorem RowP.below {w w' : World} {v : Value} {l : List Plc} (h : RowP w v l) (hb : Below w.heap.size w w') : RowP w' v l := h.over (Turn.of_below hb : Turn (fun _ => False) w w') fun _ _ _ _ e => e
end Go.Proofs.YtchcdfoncebemaaGreatDoor

/- The reference's words in a row: Swap, Less. -/
namespace Go.Proofs.YtchcdfoncebemaaGreatDoor
open Go.RowKit Go.Maps Go.Sort
set_option maxRecDepth 100000

set_option maxHeartbeats 1600000 in
theorem less_any (x y z a b d : Int) (w : World) :
    Calls Tryz.prog 74 #[.agg #[.int .i64 x, .int .i64 y, .int .i64 z], .agg #[.int .i64 a, .int .i64 b, .int .i64 d]] w fun e w' => e = .returned (.bool (ltOf cmpP (x, y, z) (a, b, d))) ∧ Below w.heap.size w w' := by
  have hE := ((Fr.start w).push w.heap.size rfl [.int .i64 x, .int .i64 y, .int .i64 z] 58).push (w.heap.size + 1) (by simp) [.int .i64 a, .int .i64 b, .int .i64 d] 58
  have r := hE.rule 0 rfl
  have r1 := hE.rule 1 rfl
  have hL : ltOf cmpP (x, y, z) (a, b, d) = if x ≠ a then decide (x < a) else if y ≠ b then decide (y < b) else decide (z < d) := by
    have h := ltP (x, y, z) (a, b, d)
    rw [Bool.eq_iff_iff, h]
    split
    · simp; omega
    · split
      · simp; omega
      · simp; omega
  rw [hL]
  go_enter Tryz.func74, Tryz.ntmps74
  by_cases h1 : x = a
  · subst h1
    by_cases h2 : y = b
    · subst h2
      go_wp2_with fail
      go_ret
      exact ⟨by simp, hE.below⟩
    · go_wp2_with fail
      go_ret
      exact ⟨by simp [h2], hE.below⟩
  · go_wp2_with fail
    go_ret
    exact ⟨by simp [h1], hE.below⟩



end Go.Proofs.YtchcdfoncebemaaGreatDoor

/- The reference's places, in their order. -/
namespace Go.Proofs.YtchcdfoncebemaaGreatDoor
open Go.RowKit Go.Maps Go.Sort
set_option maxRecDepth 100000

theorem exch {α : Type} (y0 y1 y2 x0 x1 x2 : α) (D : List α) : ∀ P : List α, ((((((P ++ y0 :: y1 :: y2 :: x0 :: x1 :: x2 :: D).set (P.length + 3) y0).set (P.length + 4) y1).set (P.length + 5) y2).set P.length x0).set (P.length + 1) x1).set (P.length + 2) x2 = P ++ x0 :: x1 :: x2 :: y0 :: y1 :: y2 :: D
  | [] => rfl
  | p :: P => by
    have ih := exch y0 y1 y2 x0 x1 x2 D P
    simp only [List.cons_append, List.length_cons, show P.length + 1 + 3 = P.length + 3 + 1 by omega, show P.length + 1 + 4 = P.length + 4 + 1 by omega, show P.length + 1 + 5 = P.length + 5 + 1 by omega, show P.length + 1 + 2 = P.length + 2 + 1 by omega, List.set_cons_succ]
    rw [ih]
def insAt (m : List Plc) (j : Nat) (x : Plc) : List Plc := m.take j ++ x :: m.drop j
theorem flatP_append (l m : List Plc) : flatP (l ++ m) = flatP l ++ flatP m := by simp [flatP]
theorem insAt_exch (m : List Plc) (j : Nat) (hj : j < m.length) (x : Plc) : ((((((flatP (insAt m (j + 1) x)).set (j * 3 + 3) (.int .i64 (m.getD j z3).1)).set (j * 3 + 4) (.int .i64 (m.getD j z3).2.1)).set (j * 3 + 5) (.int .i64 (m.getD j z3).2.2)).set (j * 3) (.int .i64 x.1)).set (j * 3 + 1) (.int .i64 x.2.1)).set (j * 3 + 2) (.int .i64 x.2.2) = flatP (insAt m j x) := by
  have hlen : (flatP (m.take j)).length = j * 3 := by rw [flatP_length]; simp; omega
  have e1 : flatP (insAt m (j + 1) x) = flatP (m.take j) ++ .int .i64 (m.getD j z3).1 :: .int .i64 (m.getD j z3).2.1 :: .int .i64 (m.getD j z3).2.2 :: .int .i64 x.1 :: .int .i64 x.2.1 :: .int .i64 x.2.2 :: flatP (m.drop (j + 1)) := by
    unfold insAt
    rw [flatP_append, List.take_succ_eq_append_getElem hj, flatP_append]
    simp [flatP, encP, hj]
  have e2 : flatP (insAt m j x) = flatP (m.take j) ++ .int .i64 x.1 :: .int .i64 x.2.1 :: .int .i64 x.2.2 :: .int .i64 (m.getD j z3).1 :: .int .i64 (m.getD j z3).2.1 :: .int .i64 (m.getD j z3).2.2 :: flatP (m.drop (j + 1)) := by
    unfold insAt
    have h0 : m.drop j = m[j] :: m.drop (j + 1) := List.drop_eq_getElem_cons hj
    have h1 : m.getD j z3 = m[j] := by simp [hj]
    rw [flatP_append, h0, h1]
    simp [flatP, encP, -List.getElem_cons_drop]
  rw [e1, e2, ← hlen]
  exact exch _ _ _ _ _ _ _ _
theorem insAt_get_self (m : List Plc) (j : Nat) (hj : j ≤ m.length) (x : Plc) : (insAt m j x).getD j z3 = x := by
  unfold insAt
  rw [List.getD_eq_getElem?_getD, List.getElem?_append_right (by simp; omega)]
  simp [Nat.min_eq_left hj]
theorem insAt_get_prev (m : List Plc) (j : Nat) (hj : j < m.length) (x : Plc) : (insAt m (j + 1) x).getD j z3 = m.getD j z3 := by
  unfold insAt
  rw [List.getD_eq_getElem?_getD, List.getElem?_append_left (by simp; omega)]
  simp [List.getElem?_take]
theorem insAt_length (m : List Plc) (j : Nat) (hj : j ≤ m.length) (x : Plc) : (insAt m j x).length = m.length + 1 := by unfold insAt; simp; omega
theorem rising_insAt {m : List Plc} {j : Nat} {x : Plc} (hm : Rising m) (hj : j ≤ m.length) (hx : x ∉ m) (hd : ∀ y ∈ m.drop j, ltOf cmpP x y = true) (hs : j = 0 ∨ ltOf cmpP x (m.getD (j - 1) z3) = false) : Rising (insAt m j x) := by
  have h1 : Rising (m.take j) := List.Pairwise.sublist (List.take_sublist _ _) hm
  have h2 : Rising (m.drop j) := List.Pairwise.sublist (List.drop_sublist _ _) hm
  have h3 : ∀ y ∈ m.take j, ltOf cmpP y x = true := by
    intro y hy
    obtain ⟨i, hi, rfl⟩ := List.getElem_of_mem hy
    have hi' : i < j := by simp at hi; omega
    rcases hs with rfl | hs
    · omega
    · have hjm : j - 1 < m.length := by omega
      have e : m.getD (j - 1) z3 = m[j - 1] := by simp [hjm]
      rw [e] at hs
      have hlt : ltOf cmpP m[j - 1] x = true := by
        rcases h : ltOf cmpP m[j - 1] x with _ | _
        · exact absurd (totP _ _ hs h) (fun e => hx (e ▸ List.getElem_mem hjm))
        · rfl
      rw [List.getElem_take]
      rcases Nat.lt_or_ge i (j - 1) with hlt2 | hge
      · exact swoP.trans _ _ _ (List.pairwise_iff_getElem.1 hm i (j - 1) (by omega) hjm hlt2) hlt
      · have : i = j - 1 := by omega
        subst this
        exact hlt
  unfold insAt Rising
  refine List.pairwise_append.2 ⟨h1, List.pairwise_cons.2 ⟨hd, h2⟩, fun a ha b hb => ?_⟩
  rcases List.mem_cons.1 hb with rfl | hb
  · exact h3 a ha
  · exact swoP.trans _ _ _ (h3 a ha) (hd b hb)
theorem mem_insAt {m : List Plc} {j : Nat} {x y : Plc} : y ∈ insAt m j x ↔ y = x ∨ y ∈ m := by
  unfold insAt
  conv => rhs; rw [← List.take_append_drop j m]
  simp only [List.mem_append, List.mem_cons]
  constructor
  · rintro (h | h | h)
    · exact .inr (.inl h)
    · exact .inl h
    · exact .inr (.inr h)
  · rintro (h | h | h)
    · exact .inr (.inl h)
    · exact .inl h
    · exact .inr (.inr h)
theorem getL_ne {l : List OneR} (h : (l.map (·.1)).Nodup) (x : Plc) : getL l x ≠ 0 ↔ ∃ v, (x, v) ∈ l ∧ v ≠ 0 := by
  induction l with
  | nil => simp [getL]
  | cons e l ih =>
    rw [List.map_cons, List.nodup_cons] at h
    have ih := ih h.2
    by_cases he : e.1 = x
    · subst he
      simp only [getL, if_true]
      constructor
      · intro hv; exact ⟨e.2, by simp, hv⟩
      · rintro ⟨v, hv, hne⟩
        rcases List.mem_cons.1 hv with e' | e'
        · rw [← e']; exact hne
        · exact absurd (List.mem_map.2 ⟨_, e', rfl⟩) h.1
    · simp only [getL, if_neg he]
      rw [ih]
      constructor
      · rintro ⟨v, hv, hne⟩; exact ⟨v, List.mem_cons_of_mem _ hv, hne⟩
      · rintro ⟨v, hv, hne⟩
        rcases List.mem_cons.1 hv with e' | e'
        · exact absurd (by rw [← e']) he
        · exact ⟨v, e', hne⟩
theorem ownsRow_rowP {w : World} {b : Nat} {v : Value} {m : List Plc} (h : w.ownsRow b 58 3 v m.length (flatP m)) : RowP w v m := by
  rcases h.2 with ⟨hv, h0⟩ | ⟨g, cap, cur, hv, _, hg, hn, hc, hcs, htk⟩
  · exact .inl ⟨List.eq_nil_of_length_eq_zero h0, hv⟩
  · refine .inr ⟨g, cap, hv, (Array.getElem?_eq_some_iff.1 hg).1, fun j hj => ?_⟩
    have each : ∀ c, c < 3 → w.cell? ⟨g, j * 3 + c, none⟩ = (encP (m.getD j z3))[c]? := fun c hc4 => by
      rw [← flatP_get m j c hj hc4, ← htk, List.getElem?_take_of_lt (by omega)]
      simp [World.cell?, hg]
    exact ⟨each 0 (by omega), each 1 (by omega), each 2 (by omega)⟩
end Go.Proofs.YtchcdfoncebemaaGreatDoor

/- The reference's places, in their order: the walk. -/
namespace Go.Proofs.YtchcdfoncebemaaGreatDoor
open Go.RowKit Go.Maps Go.Sort
set_option maxRecDepth 100000

def okM (l : List OneR) (k : Nat) (m : List Plc) : Prop := Rising m ∧ m.length ≤ k ∧ ∀ x, x ∈ m ↔ ∃ v, (x, v) ∈ l.take k ∧ v ≠ 0
theorem okM.skip {l : List OneR} {k : Nat} {m : List Plc} (h : okM l k m) (hk : k < l.length) (h0 : (l.getD k dO).2 = 0) : okM l (k + 1) m := by
  refine ⟨h.1, by have := h.2.1; omega, fun x => ?_⟩
  rw [h.2.2 x, List.take_succ_eq_append_getElem hk]
  have e : l[k].2 = 0 := by simpa [hk] using h0
  constructor
  · rintro ⟨v, hv, hne⟩; exact ⟨v, List.mem_append.2 (.inl hv), hne⟩
  · rintro ⟨v, hv, hne⟩
    rcases List.mem_append.1 hv with hv | hv
    · exact ⟨v, hv, hne⟩
    · rw [← List.mem_singleton.1 hv] at e; exact absurd e hne
theorem okM.new {l : List OneR} {k : Nat} {m : List Plc} (h : okM l k m) (hnd : (l.map (·.1)).Nodup) (hk : k < l.length) : (l.getD k dO).1 ∉ m := by
  intro hx
  obtain ⟨v, hv, _⟩ := (h.2.2 _).1 hx
  obtain ⟨i, hi, he⟩ := List.getElem_of_mem hv
  have hi' : i < k := by simp at hi; omega
  have e1 : l[i].1 = l[k].1 := by
    have : (l.take k)[i] = l[i] := List.getElem_take
    rw [this] at he
    have e2 : l.getD k dO = l[k] := by simp [hk]
    rw [he, ← e2]
  have := (List.pairwise_iff_getElem.1 hnd) i k (by simp; omega) (by simpa using hk) hi'
  simp at this
  exact this e1
theorem okM.put {l : List OneR} {k j : Nat} {m : List Plc} (h : okM l k m) (hk : k < l.length) (h0 : (l.getD k dO).2 ≠ 0) (hj : j ≤ m.length) (hr : Rising (insAt m j (l.getD k dO).1)) : okM l (k + 1) (insAt m j (l.getD k dO).1) := by
  refine ⟨hr, by have := h.2.1; rw [insAt_length m j hj]; omega, fun x => ?_⟩
  have e2 : l.getD k dO = l[k] := by simp [hk]
  rw [mem_insAt, h.2.2 x, List.take_succ_eq_append_getElem hk, e2]
  rw [e2] at h0
  constructor
  · rintro (rfl | ⟨v, hv, hne⟩)
    · exact ⟨l[k].2, List.mem_append.2 (.inr (List.mem_singleton.2 rfl)), h0⟩
    · exact ⟨v, List.mem_append.2 (.inl hv), hne⟩
  · rintro ⟨v, hv, hne⟩
    rcases List.mem_append.1 hv with hv | hv
    · exact .inr ⟨v, hv, hne⟩
    · exact .inl (by rw [← List.mem_singleton.1 hv])

set_option maxRecDepth 100000 in
set_option maxHeartbeats 6400000 in
theorem refPlaces_any {u : Nat} {F : Nat → Prop} {l : List OneR} {w : World} (hl : l.length ≤ 1000000) (hnd : (l.map (·.1)).Nodup) (hU : IsU w u F l) :
    Calls Tryz.prog 49 #[.pointer (some ⟨u, 0, none⟩)] w fun e w' => ∃ m v, e = .returned v ∧ PlacesOf (getL l) m ∧ m.length ≤ l.length ∧ w'.ownsRow w.heap.size 58 3 v m.length (flatP m) ∧ Below w.heap.size w w' := by
  obtain ⟨A, cap, hblk, hown, hsep, hF⟩ := hU.full
  have hrow := ownsRow_words hown
  have hul := hblk.1
  obtain ⟨i0, hi, hz0, hz1, hz2⟩ := info_parts infoPlace
  have HROW := Lib.hid hrow
  have HB : Hid (∀ w', Below w.heap.size w w' → ∀ i, w'.cell? ⟨u, i, none⟩ = [Value.slice A l.length cap][i]?) := Lib.hid fun w' hb i => by rw [hb.cell (p := ⟨u, i, none⟩) hul]; exact hblk.rule i
  clear hrow hblk hown hsep hF
  have hown0 : (w.alloc (.cells #[] 58)).ownsRow w.heap.size 58 3 (.slice (some ⟨w.heap.size, 0, none⟩) 0 0) 0 [] := ⟨rfl, .inr ⟨w.heap.size, 0, #[], rfl, Nat.le_refl _, heap_alloc_new w _, Nat.le_refl _, Nat.zero_le _, rfl, rfl⟩⟩
  have hB0 : Below w.heap.size w (w.alloc (.cells #[] 58)) := (Below.refl _ w).alloc (Nat.le_refl _) _
  go_enter Tryz.func49, Tryz.ntmps49
  go_wp2_with fail
  go_loopw [3, 4] (fun v i wr => ∃ (k : Nat) (m : List Plc), k ≤ l.length ∧ i = .int .i64 k ∧ okM l k m ∧ wr.ownsRow w.heap.size 58 3 v m.length (flatP m) ∧ Below w.heap.size w wr) (fun _ i _ => l.length - (intOf i).toNat)
  case atStart => exact ⟨0, [], by omega, rfl, ⟨List.Pairwise.nil, by simp, by simp⟩, hown0, hB0⟩
  case round =>
    obtain ⟨k, m, hk, rfl, hm, hrw, hBr⟩ := hrel
    have ru := HB.out _ hBr
    clear hown0 hB0
    by_cases hlt : k < l.length
    · rcases HROW.out with h0 | ⟨g, rfl, hgl, hc⟩
      · rw [h0] at hlt; simp at hlt
      obtain ⟨c0, c1, c2, c3⟩ := hc k hlt
      clear hc
      generalize ho : l.getD k dO = o at c0 c1 c2 c3
      obtain ⟨⟨x, y, z⟩, v0⟩ := o
      simp only at c0 c1 c2 c3
      have HC : Hid (∀ w', Below w.heap.size w w' → (w'.cell? ⟨g, k * 4, none⟩ = some (.int .i64 x) ∧ w'.cell? ⟨g, k * 4 + 1, none⟩ = some (.int .i64 y) ∧ w'.cell? ⟨g, k * 4 + 2, none⟩ = some (.int .i64 z) ∧ w'.cell? ⟨g, k * 4 + 3, none⟩ = some (.int .u64 v0))) := Lib.hid fun w' hb => by
        refine ⟨?_, ?_, ?_, ?_⟩
        · rw [hb.cell (p := ⟨g, k * 4, none⟩) hgl]; exact c0
        · rw [hb.cell (p := ⟨g, k * 4 + 1, none⟩) hgl]; exact c1
        · rw [hb.cell (p := ⟨g, k * 4 + 2, none⟩) hgl]; exact c2
        · rw [hb.cell (p := ⟨g, k * 4 + 3, none⟩) hgl]; exact c3
      have HO := Lib.hid ho
      clear c0 c1 c2 c3 ho
      obtain ⟨c0, c1, c2, c3⟩ := HC.out _ hBr
      by_cases hv0 : v0 = 0
      · subst hv0
        go_wp2_with fail
        exact ⟨⟨k + 1, m, by omega, rfl, hm.skip hlt (by rw [HO.out]), hrw, hBr⟩, by simp [intOf]; omega⟩
      · have hml : m.length ≤ k := hm.2.1
        obtain ⟨A3, cap3, rfl⟩ := ownsRow_slice hrw
        obtain ⟨v', w2, hrun, hown2, hgrow, hv'⟩ := run_append_rows (P := Tryz.prog) 102 102 w.heap.size 58 i0 (.agg #[.int .i64 0, .int .i64 0, .int .i64 0]) 3 24 Tryz.underlying102 hi hz0 hz1 hz2 rfl (by decide) _ _ _ _ (hrw.alloc (.cells #[.int .i64 x, .int .i64 y, .int .i64 z] 58)) (some ⟨wr.heap.size, 0, none⟩) 1 1 [.int .i64 x, .int .i64 y, .int .i64 z] rfl
          (.inr ⟨_, rfl, cells_new _ _ _⟩) (by simp [Value.oneCell']) (by simp [maxLen]; omega) (by omega) (by have := hBr.size; simp; omega)
        obtain ⟨b, cap', rfl, hwb, hbl⟩ := hown2.form (by omega)
        have hB2 : Below w.heap.size w w2 := by
          have h1 := hBr.alloc hBr.size (.cells #[.int .i64 x, .int .i64 y, .int .i64 z] 58)
          exact Turn.below h1 (T := fun k => (Value.slice A3 m.length cap3).ownBlock = some k) ⟨hgrow.os, hgrow.tape, hgrow.output, hgrow.size, fun k hk hn => hgrow.block k hk (fun e => hn e.symm)⟩ h1.size fun k hk => (hrw.lt k hk).1
        go_wp2_with (first | (at_builtin; refine wpList_append_run rfl _ _ 102 rfl hrun rfl rfl ?_))
        have hown3 : w2.ownsRow w.heap.size 58 3 (.slice (some ⟨b, 0, none⟩) (m.length + 1) cap') (m.length + 1) (flatP (insAt m m.length (x, y, z))) := by
          have e : flatP (insAt m m.length (x, y, z)) = flatP m ++ [.int .i64 x, .int .i64 y, .int .i64 z] := by unfold insAt; simp [flatP, encP]
          rw [e]; exact hown2
        clear hrun hown2 hgrow hv' hrw c0 c1 c2 c3 ru
        have HM := Lib.hid hm
        clear hm
        go_loopw [5] (fun kk wq => ∃ j : Nat, j ≤ m.length ∧ kk = .int .i64 j ∧ (∀ t ∈ m.drop j, ltOf cmpP (x, y, z) t = true) ∧ wq.ownsRow w.heap.size 58 3 (.slice (some ⟨b, 0, none⟩) (m.length + 1) cap') (m.length + 1) (flatP (insAt m j (x, y, z))) ∧ Below w.heap.size w wq) (fun kk _ => (intOf kk).toNat)
        case atStart => exact ⟨m.length, Nat.le_refl _, by simp, by simp, hown3, hB2⟩
        case round =>
          obtain ⟨j, hj, rfl, hd, ho3, hBq⟩ := hrel
          clear hown3 hB2
          have HC8 : Hid (∀ w6 w7 : World, (w6.ownsRow w.heap.size 58 3 (.slice (some ⟨b, 0, none⟩) (m.length + 1) cap') (m.length + 1) (flatP (insAt m j (x, y, z))) ∧ Below w.heap.size w w6) → Below w6.heap.size w6 w7 → (w7.ownsRow w.heap.size 58 3 (.slice (some ⟨b, 0, none⟩) (m.length + 1) cap') (m.length + 1) (flatP (insAt m j (x, y, z))) ∧ Below w.heap.size w w7)) := Lib.hid fun w6 w7 h hb => ⟨ownsRow_kept h.1 fun k e => hb.block k (h.1.lt k e).2, h.2.trans (hb.mono h.2.size)⟩
          rcases j with _ | j
          · go_wp2_with fail
            refine Ord.wp_chain [] (fun w' => w'.ownsRow w.heap.size 58 3 (.slice (some ⟨b, 0, none⟩) (m.length + 1) cap') (m.length + 1) (flatP (insAt m 0 (x, y, z))) ∧ Below w.heap.size w w') (fun _ _ => True) (by kernel_rfl) (by kernel_rfl) (by kernel_rfl) (And.intro ho3.drew hBq.drew) trivial (fun hT => ?_)
            have hT9 := Lib.hid hT
            clear hT
            repeat (first
              | (refine Ord.ch_value (v := ?_) hT9.out (by decide) (by rfl) ?_ ?_; rotate_left; (focus (intro w5 hS; skip; go_simp <;> with_reducible rfl)); (try simp only [Act.put, List.setIfInBounds_toArray, List.set_cons_zero, List.set_cons_succ]))
              | (refine Ord.ch_off hT9.out (by decide) (by rfl) ?_; (try simp only [Act.put, List.setIfInBounds_toArray, List.set_cons_zero, List.set_cons_succ]))
              | (refine Ord.ch_call (v := ?_) (f := ?_) (args := ?_) hT9.out (by decide) (by rfl) ?_ ?_ ?_; rotate_left 3; (focus (intro w5 hS; skip; go_simp; constructor <;> with_reducible rfl)); (focus (intro w5 hS; (first | fail))); (try simp only [Act.put, List.setIfInBounds_toArray, List.set_cons_zero, List.set_cons_succ])))
            refine Ord.InText.nil fun w5 hS => ?_
            clear hT9
            obtain ⟨hC, hA⟩ := Ord.chain_end hS
            clear hS
            clear hA
            go_wp2_with fail
            have hins := HM.out.put hlt (by rw [HO.out]; exact hv0) hj (by rw [HO.out]; exact rising_insAt HM.out.1 hj (by have := HM.out.new hnd hlt; rwa [HO.out] at this) hd (.inl rfl))
            rw [HO.out] at hins
            exact ⟨⟨k + 1, _, by omega, by simp, hins, by rw [insAt_length m _ hj]; exact hC.1, hC.2⟩, by simp [intOf]; omega⟩
          · have HCELL : Hid (∀ w' : World, w'.ownsRow w.heap.size 58 3 (.slice (some ⟨b, 0, none⟩) (m.length + 1) cap') (m.length + 1) (flatP (insAt m (j + 1) (x, y, z))) →
                (w'.cell? ⟨b, (j + 1) * 3, none⟩ = some (.int .i64 x) ∧ w'.cell? ⟨b, (j + 1) * 3 + 1, none⟩ = some (.int .i64 y) ∧ w'.cell? ⟨b, (j + 1) * 3 + 2, none⟩ = some (.int .i64 z) ∧
                 w'.cell? ⟨b, j * 3, none⟩ = some (.int .i64 (m.getD j z3).1) ∧ w'.cell? ⟨b, j * 3 + 1, none⟩ = some (.int .i64 (m.getD j z3).2.1) ∧ w'.cell? ⟨b, j * 3 + 2, none⟩ = some (.int .i64 (m.getD j z3).2.2))) := Lib.hid fun w' h => by
              have hlen := insAt_length m (j + 1) hj (x, y, z)
              have e1 : ∀ c, c < 3 → w'.cell? ⟨b, (j + 1) * 3 + c, none⟩ = (encP (x, y, z))[c]? := fun c hc => by
                rw [h.cellAt ((j + 1) * 3 + c) (by omega), flatP_get _ _ _ (by omega) hc, insAt_get_self m (j + 1) hj]
              have e2 : ∀ c, c < 3 → w'.cell? ⟨b, j * 3 + c, none⟩ = (encP (m.getD j z3))[c]? := fun c hc => by
                rw [h.cellAt (j * 3 + c) (by omega), flatP_get _ _ _ (by omega) hc, insAt_get_prev m j (by omega)]
              exact ⟨e1 0 (by omega), e1 1 (by omega), e1 2 (by omega), e2 0 (by omega), e2 1 (by omega), e2 2 (by omega)⟩
            obtain ⟨t, ht⟩ : ∃ t, m.getD j z3 = t := ⟨_, rfl⟩
            rw [ht] at HCELL
            obtain ⟨p, q, s⟩ := t
            simp only at HCELL
            have HT := Lib.hid ht
            clear ht
            have q1 : j < m.length := by omega
            have q2 : (0 : Int) ≤ (j : Int) + 1 := by omega
            have q3 : j < m.length + 1 := by omega
            have q4 : j ≤ m.length := by omega
            have q7 : IntKind.i64.wrap (j : Int) = (j : Int) := by rw [IntKind.wrap_i64]; omega
            have q5 : (j : Int) ≤ (m.length : Int) := by omega
            have q6 : (j : Int) < (m.length : Int) + 1 := by omega
            go_wp2_with fail
            refine Ord.wp_chain [] (fun w' => w'.ownsRow w.heap.size 58 3 (.slice (some ⟨b, 0, none⟩) (m.length + 1) cap') (m.length + 1) (flatP (insAt m (j + 1) (x, y, z))) ∧ Below w.heap.size w w') (fun _ _ => True) (by kernel_rfl) (by kernel_rfl) (by kernel_rfl) (And.intro ho3.drew hBq.drew) trivial (fun hT => ?_)
            have hT9 := Lib.hid hT
            clear hT
            repeat (first
              | (refine Ord.ch_value (v := ?_) hT9.out (by decide) (by rfl) ?_ ?_; rotate_left; (focus (intro w5 hS; obtain ⟨c0, c1, c2, c3, c4, c5⟩ := HCELL.out _ hS.1; go_simp <;> with_reducible rfl)); (try simp only [Act.put, List.setIfInBounds_toArray, List.set_cons_zero, List.set_cons_succ]))
              | (refine Ord.ch_off hT9.out (by decide) (by rfl) ?_; (try simp only [Act.put, List.setIfInBounds_toArray, List.set_cons_zero, List.set_cons_succ]))
              | (refine Ord.ch_call (v := ?_) (f := ?_) (args := ?_) hT9.out (by decide) (by rfl) ?_ ?_ ?_; rotate_left 3; (focus (intro w5 hS; obtain ⟨c0, c1, c2, c3, c4, c5⟩ := HCELL.out _ hS.1; go_simp; constructor <;> with_reducible rfl)); (focus (intro w5 hS; (first | (with_reducible refine (less_any _ _ _ _ _ _ _).mono ?_; rintro e w6 ⟨rfl, hb5⟩; constructor; with_reducible rfl; exact ⟨HC8.out _ _ hS hb5, fun _ h => h⟩)))); (try simp only [Act.put, List.setIfInBounds_toArray, List.set_cons_zero, List.set_cons_succ])))
            refine Ord.InText.nil fun w5 hS => ?_
            clear hT9
            obtain ⟨hC, hA⟩ := Ord.chain_end hS
            clear hS
            clear hA
            obtain ⟨c0, c1, c2, c3, c4, c5⟩ := HCELL.out _ hC.1
            by_cases hL : ltOf cmpP (x, y, z) (p, q, s) = true
            · rw [hL]
              have hb5 : b < w5.heap.size := (hC.1.lt b rfl).2
              have hnb : ¬ w5.heap.size = b := by omega
              have hnb' : ¬ b = w5.heap.size := by omega
              have rA : ∀ ob i, (w5.alloc ob).cell? ⟨b, i, none⟩ = w5.cell? ⟨b, i, none⟩ := fun ob i => World.cell?_of_block (Below.heap_alloc _ _ _ hb5)
              have zA : ∀ ob i, (w5.alloc ob).frozen? ⟨b, i, none⟩ = false := fun ob i => (World.frozen?_of_block (Below.heap_alloc _ _ _ hb5)).trans (hC.1.frozenAt i)
              have zW : ∀ i, w5.frozen? ⟨b, i, none⟩ = false := fun i => hC.1.frozenAt i
              go_wp2_with fail
              have hx := insAt_exch m j q1 (x, y, z)
              rw [HT.out] at hx
              simp only at hx
              have hp3 : (j + 1) * 3 = j * 3 + 3 := by omega
              refine ⟨⟨j, by omega, rfl, fun t ht => ?_, ?_, ?_⟩, by simp [intOf]⟩
              · rw [List.drop_eq_getElem_cons q1] at ht
                rcases List.mem_cons.1 ht with rfl | ht
                · have : m[j] = (p, q, s) := by rw [← HT.out]; simp [q1]
                  rw [this]; exact hL
                · exact hd t ht
              · rw [← hx, hp3]
                exact ((((((((hC.1.stored _ _).1).stored _ _).1).stored _ _).1.stored _ _).1.stored _ _).1.stored _ _).1.alloc _
              · exact Turn.below hC.2 (((((((Turn.refl (fun k => k = b) w5).setCell (p := ⟨b, _, none⟩) (fun _ => rfl) _).setCell (p := ⟨b, _, none⟩) (fun _ => rfl) _).setCell (p := ⟨b, _, none⟩) (fun _ => rfl) _).setCell (p := ⟨b, _, none⟩) (fun _ => rfl) _).setCell (p := ⟨b, _, none⟩) (fun _ => rfl) _).setCell (p := ⟨b, _, none⟩) (fun _ => rfl) _ |>.alloc _) hC.2.size fun k hk => by subst hk; exact hwb
            · have hL' : ltOf cmpP (x, y, z) (p, q, s) = false := by simpa using hL
              rw [hL']
              go_wp2_with fail
              have hins := HM.out.put hlt (by rw [HO.out]; exact hv0) hj (by rw [HO.out]; exact rising_insAt HM.out.1 hj (by have := HM.out.new hnd hlt; rwa [HO.out] at this) hd (.inr (by rw [Nat.add_sub_cancel, HT.out]; exact hL')))
              rw [HO.out] at hins
              exact ⟨⟨k + 1, _, by omega, by simp, hins, by rw [insAt_length m _ hj]; exact hC.1, hC.2⟩, by simp [intOf]; omega⟩
    · go_wp2_with fail
      have : k = l.length := by omega
      subst this
      go_ret
      exact ⟨m, _, rfl, ⟨hm.1, fun x => by rw [hm.2.2 x, getL_ne hnd x]; simp⟩, hm.2.1, hrw, hBr⟩
end Go.Proofs.YtchcdfoncebemaaGreatDoor

/- The structure of the statements' lists; a program's memory with the words of the reference's. -/
namespace Go.Proofs.YtchcdfoncebemaaGreatDoor
open Go.RowKit Go.Maps
set_option maxRecDepth 100000

theorem conf15 (w : World) : Calls Tryz.prog 12 #[] w fun o w' => o = .returned (.agg #[.int .i64 2, .int .i64 1000, .int .i64 3, .int .i64 1, .int .i64 1073741824]) ∧ Below w.heap.size w w' := by
  go_enter Tryz.func12, Tryz.ntmps12
  go_wp2
  exact bodyPost_ret (v := .agg #[.int .i64 2, .int .i64 1000, .int .i64 3, .int .i64 1, .int .i64 1073741824]) (by simp [results, Tryz.results12, go_sem]) rfl ⟨rfl, (Below.refl _ _).alloc (Nat.le_refl _) _⟩

/-- A row of places, as a thing. -/
theorem Env.addPl {w0 w w' : World} {L : List Item} {v : Value} {l : List Plc} (h : Env w0 L w) (ho : w'.ownsRow w.heap.size 58 3 v l.length (flatP l)) (hb : Below w.heap.size w w') : Env w0 (rowKI encP 3 v 58 l :: L) w' :=
  h.add (rowKI encP 3 v 58 l) hb (ownsRow_base ho (Nat.zero_le _)) fun k hk => ho.lt k hk
theorem encP_len (x : Plc) : (encP x).length = 3 := rfl
/-- What is laid so far. -/
def laidF (f : Plc → Int) (l : List Plc) : Plc → Int := fun x => if x ∈ l then f x else 0
theorem laidF_nil (f : Plc → Int) : laidF f [] = fun _ => 0 := by funext x; simp [laidF]
theorem laidF_step {f : Plc → Int} {l : List Plc} {j : Nat} (hj : j < l.length) {x : Plc} (hx : l.getD j z3 = x) : laidF f (l.take (j + 1)) = upd (laidF f (l.take j)) x (f x) := by
  have e : l.take (j + 1) = l.take j ++ [x] := by
    rw [List.take_succ_eq_append_getElem hj, ← hx]
    simp [hj]
  funext y
  rw [e]
  unfold laidF upd
  by_cases hy : y = x
  · subst hy; simp
  · simp [hy]
theorem laidF_all {f : Plc → Int} {l : List Plc} (h : PlacesOf f l) : laidF f l = f := by
  funext y
  unfold laidF
  by_cases hy : y ∈ l
  · rw [if_pos hy]
  · rw [if_neg hy]
    exact (Classical.byContradiction fun h0 => hy ((h.2 y).2 (fun e => h0 e.symm)))

section
variable {w0 w : World} {R : List Item} {m : Nat} {FU : Nat → Prop} {ml : List OneR}
set_option maxHeartbeats 6400000 in
theorem laid_t (hml : ml.length ≤ 10000) (hW : Words (getL ml)) (hE : Env w0 (refI m FU ml :: R) w) :
    Calls Tryz.prog 10 #[.pointer (some ⟨m, 0, none⟩)] w fun o w' => ∃ (p cc n : Nat) (G : Nat → Prop), o = .returned (.pointer (some ⟨p, 0, none⟩)) ∧ n ≤ ml.length ∧ Env w0 (wbox p cc :: cellI cc G (getL ml) ⟨0, (n : Int), 0, 0, 0⟩ n :: refI m FU ml :: R) w' := by
  have HW := Lib.hid hW
  have HML := Lib.hid hml
  clear hW hml
  go_enter Tryz.func10, Tryz.ntmps10
  go_wp2_with fail
  refine (new_w hE).mono ?_
  rintro o w1 ⟨p, cc, rfl, hE1, -⟩
  clear hE
  go_wp2_with fail
  refine (refPlaces_any (by have := HML.out; omega) (hE1.ref 2 rfl).nodup (hE1.ref 2 rfl)).mono ?_
  rintro o w2 ⟨pl, v2, rfl, hpl, hpn, ho, hb⟩
  obtain ⟨A, cap, rfl⟩ := ownsRow_slice ho
  have hE2 := hE1.addPl ho hb
  have HPL := Lib.hid hpl
  have hpl1 : pl.length ≤ 10000 := by have := HML.out; omega
  have HPN := Lib.hid hpn
  clear hb ho hE1 hpl hpn
  rw [← laidF_nil (getL ml)] at hE2
  go_wp2_with fail
  go_loopw [5] (fun iv wr => ∃ (j : Nat) (G : Nat → Prop), j ≤ pl.length ∧ iv = .int .i64 j ∧ Env w0 (rowKI encP 3 (.slice A pl.length cap) 58 pl :: wbox p cc :: cellI cc G (laidF (getL ml) (pl.take j)) ⟨0, (j : Int), 0, 0, 0⟩ j :: refI m FU ml :: R) wr) (fun iv _ => pl.length - (intOf iv).toNat)
  case atStart => exact ⟨0, _, Nat.zero_le _, rfl, hE2⟩
  case round =>
    clear hE2
    obtain ⟨j, G, hj, rfl, hE⟩ := hrel
    by_cases hlt : j < pl.length
    · have hb1 : decide ((j : Int) < (pl.length : Int)) = true := by simp; omega
      have hlt1 : (j : Int) < (pl.length : Int) := by omega
      obtain ⟨⟨x, y, z⟩, hx⟩ : ∃ x, pl.getD j z3 = x := ⟨_, rfl⟩
      obtain ⟨g, off, rfl⟩ : ∃ g off, A = some ⟨g, off, none⟩ := by
        rcases hE.cellsK encP_len 0 rfl rfl with h0 | ⟨g, off, h, -⟩
        · rw [h0] at hlt; simp at hlt
        · exact ⟨g, off, h⟩
      have HC : Hid (∀ G f q n v, Env w0 (rowKI encP 3 (.slice (some ⟨g, off, none⟩) pl.length cap) 58 pl :: wbox p cc :: cellI cc G f q n :: refI m FU ml :: R) v → v.cell? ⟨g, off + j * 3, none⟩ = some (.int .i64 x) ∧ v.cell? ⟨g, off + j * 3 + 1, none⟩ = some (.int .i64 y) ∧ v.cell? ⟨g, off + j * 3 + 2, none⟩ = some (.int .i64 z)) := Lib.hid fun G f q n v hv => by
        rcases hv.cellsK encP_len 0 rfl rfl with h0 | ⟨g', off', h, -, hc⟩
        · rw [h0] at hlt; simp at hlt
        · cases h
          have h9 := hc j hlt
          rw [show pl.getD j default = (x, y, z) from hx] at h9
          exact ⟨h9 0 _ rfl, h9 1 _ rfl, h9 2 _ rfl⟩
      obtain ⟨u, hu⟩ : ∃ u, getL ml (x, y, z) = u := ⟨_, rfl⟩
      have HGT : Hid (∀ G f q n v, Env w0 (rowKI encP 3 (.slice (some ⟨g, off, none⟩) pl.length cap) 58 pl :: wbox p cc :: cellI cc G f q n :: refI m FU ml :: R) v → Calls Tryz.prog 50 #[.pointer (some ⟨m, 0, none⟩), .agg #[.int .i64 x, .int .i64 y, .int .i64 z]] v fun e v' => e = .returned (.int .u64 u) ∧ Below v.heap.size v v') := Lib.hid fun G f q n v hv => by
        rw [← hu]
        exact refGet_any x y z (by have := HML.out; omega) (hv.ref 3 rfl)
      have hmem : (x, y, z) ∈ pl := by
        rw [← hx, List.getD_eq_getElem?_getD, List.getElem?_eq_getElem hlt]
        exact List.getElem_mem hlt
      have hwf : Wf (x, y, z) := Classical.byContradiction fun h => ((HPL.out.2 _).1 hmem) (HW.out.out _ h)
      have hui : InU u := by rw [← hu]; exact HW.out.u _
      have hstep : laidF (getL ml) (pl.take (j + 1)) = upd (laidF (getL ml) (pl.take j)) (x, y, z) u := by rw [laidF_step hlt hx, hu]
      have hwj : wrap64 ((j : Int) + 1) = (j : Int) + 1 := w64 _ (by omega)
      have HWF := Lib.hid hwf
      have HUI := Lib.hid hui
      have HSTEP := Lib.hid hstep
      have HWJ := Lib.hid hwj
      clear hmem hwf hui hstep hwj hu hx
      obtain ⟨c0, c1, c2⟩ := HC.out _ _ _ _ _ hE
      go_wp2_with fail
      clear c0 c1 c2
      refine Ord.wp_chain [13] (fun v => ∃ G f q n, Env w0 (rowKI encP 3 (.slice (some ⟨g, off, none⟩) pl.length cap) 58 pl :: wbox p cc :: cellI cc G f q n :: refI m FU ml :: R) v) (fun k w' => ∃ G, Env w0 (rowKI encP 3 (.slice (some ⟨g, off, none⟩) pl.length cap) 58 pl :: wbox p cc :: (if k = 0 then cellI cc G (laidF (getL ml) (pl.take j)) ⟨0, (j : Int), 0, 0, 0⟩ j else cellI cc G (upd (laidF (getL ml) (pl.take j)) (x, y, z) u) ⟨0, wrap64 ((j : Int) + 1), 0, 0, 0⟩ (j + 1)) :: refI m FU ml :: R) w') (by kernel_rfl) (by kernel_rfl) (by kernel_rfl) ⟨_, _, _, _, hE.drew⟩ ⟨_, hE.drew⟩ (fun hT => ?_)
      have hT9 := Lib.hid hT
      clear hT
      repeat (first
        | (refine Ord.ch_value (v := ?_) hT9.out (by decide) (by rfl) ?_ ?_; rotate_left; (focus (intro w5 hS; obtain ⟨G8, f8, q8, n8, hS8⟩ := hS; obtain ⟨c0, c1, c2⟩ := HC.out _ _ _ _ _ hS8; go_simp <;> with_reducible rfl)); (try simp only [Act.put, List.setIfInBounds_toArray, List.set_cons_zero, List.set_cons_succ]))
        | (refine Ord.ch_off hT9.out (by decide) (by rfl) ?_; (try simp only [Act.put, List.setIfInBounds_toArray, List.set_cons_zero, List.set_cons_succ]))
        | (refine Ord.ch_call (v := ?_) (f := ?_) (args := ?_) hT9.out (by decide) (by rfl) ?_ ?_ ?_; rotate_left 3; (focus (intro w5 hS; obtain ⟨G8, f8, q8, n8, hS8⟩ := hS; obtain ⟨c0, c1, c2⟩ := HC.out _ _ _ _ _ hS8; go_simp; constructor <;> with_reducible rfl)); (focus (intro w5 hS; (first | (obtain ⟨G8, f8, q8, n8, hS8⟩ := hS; with_reducible refine (HGT.out _ _ _ _ _ hS8).mono ?_; rintro o w6 ⟨rfl, hb6⟩; constructor; with_reducible rfl; exact ⟨⟨G8, f8, q8, n8, hS8.over hb6⟩, fun k h => h.elim fun G h => ⟨G, h.over hb6⟩⟩)))); (try simp only [Act.put, List.setIfInBounds_toArray, List.set_cons_zero, List.set_cons_succ])))
      refine Ord.ch_turn (v := .tuple #[]) 0 hT9.out rfl (by decide) (Or.inl rfl) (by rfl) ?_ ?_
      · rintro w5 hC5 ⟨G5, hA5⟩
        simp only [if_true] at hA5
        go_simp
        simp only [Ord.LandsIn]
        refine (store_w x y z 0 u 0 false HWF.out HUI.out (by unfold maxLen; omega) 1 2 (by decide) hA5 rfl rfl).mono ?_
        rintro e w6 ⟨rfl, G6, hE6⟩
        exact ⟨rfl, ⟨_, _, _, _, hE6⟩, G6, hE6⟩
      (try simp only [Act.put, List.setIfInBounds_toArray, List.set_cons_zero, List.set_cons_succ])
      refine Ord.InText.nil fun w5 hS => ?_
      clear hT9
      obtain ⟨hC9, hA9⟩ := Ord.chain_end hS
      clear hS
      obtain ⟨G9, hA9⟩ := hA9
      simp only [List.length_cons, List.length_nil, Nat.zero_add, Nat.one_ne_zero, if_false] at hA9
      rw [← HSTEP.out, HWJ.out] at hA9
      clear hC9 hE
      go_wp2_with fail
      exact ⟨⟨j + 1, G9, by omega, by simp, by simpa using hA9⟩, by simp [intOf]; omega⟩
    · have hb1 : decide ((j : Int) < (pl.length : Int)) = false := by simp; omega
      have hjl : j = pl.length := by omega
      have HJL := Lib.hid hjl
      clear hjl
      go_wp2_with fail
      go_ret
      refine ⟨p, cc, j, G, rfl, by have := HPN.out; omega, ?_⟩
      have h9 : laidF (getL ml) (pl.take j) = getL ml := by rw [HJL.out, List.take_length]; exact laidF_all HPL.out
      rw [h9] at hE
      exact hE.sub (.cons _ (List.Sublist.refl _))
end
end Go.Proofs.YtchcdfoncebemaaGreatDoor
