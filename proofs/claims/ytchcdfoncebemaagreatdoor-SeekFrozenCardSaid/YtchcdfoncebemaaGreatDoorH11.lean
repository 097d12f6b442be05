/- SeekFrozen: when the epoch goes on behind a load, whatever is stored at the place that it loads, the search goes on as it would with any other word there: so the law answers true, for every input, where package link's three variables hold what the program's text lays in them (tied). -/
import Derived.Test.YtchcdfoncebemaaGreatDoorH10
import Derived.Test.YtchcdfoncebemaaGreatDoorCards
import Derived.SevenTiedAt
import Derived.Deep.CutBlock
import Derived.Deep.CutRange

namespace Go.Proofs.YtchcdfoncebemaaGreatDoor.seekFrozen
open Go.ChangeShapes Go.WideShapes Go.ChangeAt Go.RowKit Go.Joins Go.Maps
set_option maxRecDepth 100000

theorem who_slot (v : World) (a b : Int) : (Instr.field 69 (.agg #[.int .i64 a, .int .i64 b]) 0).run Tryz.prog v = .ok (.int .i64 a) v := by kernel_rfl
/-- How a search stands ahead of the disturbance. -/
def Pq (T : Sm) (f : Plc → Int) : Prop := (T.on = false ∧ T.e = 0 ∧ T.r = 0 ∧ ∃ ns, Lk 9 f 0 (4, 0, 0) [] ns) ∨ (T.on = true ∧ T.e = 9 ∧ ∃ ds ns mu, Lq 9 0 T.L f ds ns mu)
theorem pq_step {key : Int} {T : Sm} {f : Plc → Int} (h : Pq T f) : ((searchM 0 key false T f).1 = 0 ∧ (searchM 0 key false T f).2.1.on = true ∧ Pq (searchM 0 key false T f).2.1 (searchM 0 key false T f).2.2) ∨ (searchM 0 key false T f).1 = 1 := by
  rcases h with ⟨hoff, he, hr, ns, hl⟩ | ⟨hon, he, ds, ns, mu, h⟩
  · rw [search_off hoff]
    exact .inl ⟨rfl, rfl, .inr ⟨rfl, by show epI _ = 9; rw [hl.ep]; decide, [], ns, _, hl, .inl ⟨rfl, rfl, rfl, rfl⟩⟩⟩
  · rw [search_on hon, he]
    rcases lq_step (key := key) h with ⟨h1, ds', ns', mu', h2, -⟩ | h1
    · exact .inl ⟨by rw [h1]; rfl, by simp [h1], .inr ⟨by simp [h1], rfl, ds', ns', mu', h2⟩⟩
    · exact .inr (by rw [h1]; rfl)
/-- How both stand ahead of it. -/
def Pr (W : World) (R : List Item) (J1 J2 : Js) (j : Nat) (w : World) : Prop :=
  ∃ a b : Sd, a.J = J1 ∧ b.J = J2 ∧ a.f = b.f ∧ a.T = b.T ∧ a.s = 0 ∧ b.s = 0 ∧ a.n ≤ 130 + j ∧ b.n ≤ 130 + j ∧ SmOk a.T ∧ Pq a.T a.f ∧ (a.T.on = false → Blk 0 w J1.sb (srC J1.B.c J1.k J1.key J1.vs (.pointer none))) ∧ TwoE W R a b w
/-- A step of the one, then of the other. -/
theorem pr_step {W : World} {R : List Item} {J1 J2 : Js} {key : Int} {j : Nat} {w : World} (hg : Glo W) (hj : j ≤ 1000) (k1 : J1.k = 0 ∧ J1.key = key ∧ J1.vs = false) (k2 : J2.k = 0 ∧ J2.key = key ∧ J2.vs = false) (h : Pr W R J1 J2 j w) :
    ∃ s, (s = 0 ∨ s = 1) ∧ Calls Tryz.prog 17 #[.pointer (some ⟨J1.sb, 0, none⟩), .iface 33 (.pointer (some ⟨J1.B.p, 0, none⟩))] w fun o w1 => o = .returned (.int .i64 s) ∧ ∃ E : World → Prop, E w1 ∧ ∀ v, E v → Calls Tryz.prog 17 #[.pointer (some ⟨J2.sb, 0, none⟩), .iface 33 (.pointer (some ⟨J2.B.p, 0, none⟩))] v fun o w2 => o = .returned (.int .i64 s) ∧ Below W.heap.size W w2 ∧ (s = 0 → Pr W R J1 J2 (j + 1) w2) := by
  obtain ⟨a, b, rfl, rfl, hf, hT, hs1, hs2, hn1, hn2, hok, hq, hb, hE⟩ := h
  obtain ⟨y1, y2, y3⟩ := k1
  obtain ⟨z1, z2, z3⟩ := k2
  refine ⟨(searchM 0 key false a.T a.f).1, ?_, ?_⟩
  · rcases pq_step (key := key) hq with ⟨h, -⟩ | h
    · exact .inl h
    · exact .inr h
  have h1 := two_step hok hg (by unfold maxLen; omega) hs1 hE
  rw [y1, y2, y3] at h1
  refine h1.mono ?_
  rintro o w1 ⟨rfl, G1, hE1⟩
  refine ⟨rfl, fun v => TwoE W R (a.step G1) b v, hE1, fun v hv => ?_⟩
  have hok2 : SmOk b.T := by rw [← hT]; exact hok
  have h2 := two_step hok2 hg (by unfold maxLen; omega) hs2 hv.symm
  rw [z1, z2, z3, ← hT, ← hf] at h2
  refine h2.mono ?_
  rintro o w2 ⟨rfl, G2, hE2⟩
  refine ⟨rfl, hE2.below, fun h0 => ⟨a.step G1, b.step G2, rfl, rfl, ?_, ?_, ?_, ?_, ?_, ?_, ?_, ?_, ?_, hE2.symm⟩⟩
  · show (searchM a.J.k a.J.key a.J.vs a.T a.f).2.2 = (searchM b.J.k b.J.key b.J.vs b.T b.f).2.2
    rw [y1, y2, y3, z1, z2, z3, hT, hf]
  · show (searchM a.J.k a.J.key a.J.vs a.T a.f).2.1 = (searchM b.J.k b.J.key b.J.vs b.T b.f).2.1
    rw [y1, y2, y3, z1, z2, z3, hT, hf]
  · show (searchM a.J.k a.J.key a.J.vs a.T a.f).1 = 0
    rw [y1, y2, y3]; exact h0
  · show (searchM b.J.k b.J.key b.J.vs b.T b.f).1 = 0
    rw [z1, z2, z3, ← hT, ← hf]; exact h0
  · have := mM_le a.T a.n
    show mM a.T a.n ≤ _
    omega
  · have := mM_le b.T b.n
    show mM b.T b.n ≤ _
    omega
  · show SmOk (searchM a.J.k a.J.key a.J.vs a.T a.f).2.1
    rw [y1, y2, y3]
    exact search_ok (by unfold In64; omega) hok hE.words.u h0
  · show Pq (searchM a.J.k a.J.key a.J.vs a.T a.f).2.1 (searchM a.J.k a.J.key a.J.vs a.T a.f).2.2
    rw [y1, y2, y3]
    rcases pq_step (key := key) hq with ⟨-, -, h⟩ | h
    · exact h
    · rw [h] at h0; exact absurd h0 (by decide)
  · show (searchM a.J.k a.J.key a.J.vs a.T a.f).2.1.on = false → _
    rw [y1, y2, y3]
    intro h9
    rcases pq_step (key := key) hq with ⟨-, h, -⟩ | h
    · rw [h] at h9; exact absurd h9 (by decide)
    · rw [h] at h0; exact absurd h0 (by decide)

section
variable {W w : World} {R : List Item} {a b : Sd} {p : Nat}
/-- The epoch goes on from 9. -/
def eP (a : Sd) (G' : Nat → Prop) : Sd := { a with G := G', f := upd a.f (1, 0, 0) 10, q := { a.q with a := wrap64 (a.q.a + 1) }, n := a.n + 1 }
theorem ad1 (hp : a.J.B.p = p) (h9 : a.f (1, 0, 0) = 9) (hn : a.n < maxLen) (h : TwoE W R a b w) :
    Calls Tryz.prog 40 #[.pointer (some ⟨p, 0, none⟩), .agg #[.int .i64 1, .int .i64 0, .int .i64 0, .int .i64 0], .int .u64 1] w fun o w' => o = .returned (.int .u64 9) ∧ ∃ G', TwoE W R (eP a G') b w' := by
  subst hp
  refine (two_add 1 0 0 0 1 (by unfold Wf In64; simp) hn h).mono ?_
  rintro o w1 ⟨rfl, G', hE⟩
  refine ⟨by rw [h9], G', ?_⟩
  have e : a.add G' (1, 0, 0) 1 = eP a G' := by unfold Sd.add eP; rw [h9]; rfl
  rwa [e] at hE
theorem ad2 (hp : b.J.B.p = p) (h9 : b.f (1, 0, 0) = 9) (hn : b.n < maxLen) (h : TwoE W R a b w) :
    Calls Tryz.prog 40 #[.pointer (some ⟨p, 0, none⟩), .agg #[.int .i64 1, .int .i64 0, .int .i64 0, .int .i64 0], .int .u64 1] w fun o w' => o = .returned (.int .u64 9) ∧ ∃ G', TwoE W R a (eP b G') w' := by
  refine (ad1 hp h9 hn h.symm).mono ?_
  rintro o w1 ⟨rfl, G', hE⟩
  exact ⟨rfl, G', hE.symm⟩
theorem st1 (h : TwoE W R a b w) (hp : a.J.B.p = p) (C n v : Int) (hC : 0 ≤ C ∧ C ≤ 8388607) (h7 : 0 ≤ n ∧ n ≤ 2000000) (hv : InU v) (hn : a.n < maxLen) :
    Calls Tryz.prog 42 #[.pointer (some ⟨p, 0, none⟩), .agg #[.int .i64 5, .int .i64 C, .int .i64 n, .int .i64 0], .agg #[.int .u64 v, .int .i64 0, .bool false]] w fun o w' => o = .returned (.tuple #[]) ∧ ∃ G', TwoE W R (a.put G' (5, C, n) v) b w' := by
  subst hp
  exact two_store 5 C n 0 v 0 false (wf_part hC h7) hv hn h
theorem st2 (h : TwoE W R a b w) (hp : b.J.B.p = p) (C n v : Int) (hC : 0 ≤ C ∧ C ≤ 8388607) (h7 : 0 ≤ n ∧ n ≤ 2000000) (hv : InU v) (hn : b.n < maxLen) :
    Calls Tryz.prog 42 #[.pointer (some ⟨p, 0, none⟩), .agg #[.int .i64 5, .int .i64 C, .int .i64 n, .int .i64 0], .agg #[.int .u64 v, .int .i64 0, .bool false]] w fun o w' => o = .returned (.tuple #[]) ∧ ∃ G', TwoE W R a (b.put G' (5, C, n) v) w' := by
  refine (st1 h.symm hp C n v hC h7 hv hn).mono ?_
  rintro o w1 ⟨rfl, G', hE⟩
  exact ⟨rfl, G', hE.symm⟩
theorem sp1 {sb : Nat} {k key s' : Int} {vs : Bool} {f0 f' : Plc → Int} {T0 T' : Sm} (h : TwoE W R a b w) (hg : Glo W) (hp : a.J.B.p = p ∧ a.J.sb = sb ∧ a.J.k = k ∧ a.J.key = key ∧ a.J.vs = vs) (hT : SmOk a.T) (hn : a.n < maxLen) (hs : a.s = 0) (hf : a.f = f0) (hT0 : a.T = T0) (hq : searchM k key vs T0 f0 = (s', T', f')) :
    Calls Tryz.prog 17 #[.pointer (some ⟨sb, 0, none⟩), .iface 33 (.pointer (some ⟨p, 0, none⟩))] w fun o w' => o = .returned (.int .i64 s') ∧ ∃ G q m, m ≤ a.n + 1 ∧ TwoE W R ⟨a.J, G, f', q, m, s', T'⟩ b w' := by
  obtain ⟨rfl, rfl, rfl, rfl, rfl⟩ := hp
  subst hf hT0
  have h9 := two_step hT hg hn hs h
  refine h9.mono ?_
  rintro o w1 ⟨rfl, G, hE⟩
  unfold Sd.step at hE
  rw [hq] at hE ⊢
  exact ⟨rfl, G, _, _, mM_le _ _, hE⟩
theorem sp2 {sb : Nat} {k key s' : Int} {vs : Bool} {f0 f' : Plc → Int} {T0 T' : Sm} (h : TwoE W R a b w) (hg : Glo W) (hp : b.J.B.p = p ∧ b.J.sb = sb ∧ b.J.k = k ∧ b.J.key = key ∧ b.J.vs = vs) (hT : SmOk b.T) (hn : b.n < maxLen) (hs : b.s = 0) (hf : b.f = f0) (hT0 : b.T = T0) (hq : searchM k key vs T0 f0 = (s', T', f')) :
    Calls Tryz.prog 17 #[.pointer (some ⟨sb, 0, none⟩), .iface 33 (.pointer (some ⟨p, 0, none⟩))] w fun o w' => o = .returned (.int .i64 s') ∧ ∃ G q m, m ≤ b.n + 1 ∧ TwoE W R a ⟨b.J, G, f', q, m, s', T'⟩ w' := by
  refine (sp1 h.symm hg hp hT hn hs hf hT0 hq).mono ?_
  rintro o w1 ⟨rfl, G, q, m, hm, hE⟩
  exact ⟨rfl, G, q, m, hm, hE.symm⟩
end

/-- How both stand behind it. -/
def Zr (W : World) (R : List Item) (J1 J2 : Js) (s : Int) (i : Nat) (w : World) : Prop :=
  ∃ (g : Plc → Int) (Ga Gb : Nat → Prop) (qa qb : Cnt) (na nb : Nat) (T U : Sm), na ≤ 200 + i ∧ nb ≤ 200 + i ∧ Tw T U g ∧ ((s = 1 ∧ T = U ∧ T.on = true) ∨ (s = 0 ∧ SmOk T ∧ SmOk U ∧ ∃ mu, Aq 0 T g mu ∧ i + mu ≤ 208)) ∧ TwoE W R ⟨J1, Ga, g, qa, na, s, T⟩ ⟨J2, Gb, g, qb, nb, s, U⟩ w
theorem zr_step {W w : World} {R : List Item} {J1 J2 : Js} {key : Int} {i sb sb2 p p2 : Nat} (hg : Glo W) (k1 : J1.B.p = p ∧ J1.sb = sb ∧ J1.k = 0 ∧ J1.key = key ∧ J1.vs = false) (k2 : J2.B.p = p2 ∧ J2.sb = sb2 ∧ J2.k = 0 ∧ J2.key = key ∧ J2.vs = false) (h : Zr W R J1 J2 0 i w) :
    i < 208 ∧ ∃ s, (s = 0 ∨ s = 1) ∧ Calls Tryz.prog 17 #[.pointer (some ⟨sb, 0, none⟩), .iface 33 (.pointer (some ⟨p, 0, none⟩))] w fun o w1 => o = .returned (.int .i64 s) ∧ ∃ E : World → Prop, E w1 ∧ ∀ v, E v → Calls Tryz.prog 17 #[.pointer (some ⟨sb2, 0, none⟩), .iface 33 (.pointer (some ⟨p2, 0, none⟩))] v fun o w2 => o = .returned (.int .i64 s) ∧ Zr W R J1 J2 s (i + 1) w2 := by
  obtain ⟨g, Ga, Gb, qa, qb, na, nb, T, U, hna, hnb, htw, ⟨h1, -⟩ | ⟨-, hT, hU, mu, hA, hmu⟩, hE⟩ := h
  · exact absurd h1 (by decide)
  obtain ⟨s1, T1, g1, hq1⟩ : ∃ x y z, searchM 0 key false T g = (x, y, z) := ⟨_, _, _, rfl⟩
  obtain ⟨s2, T2, g2, hq2⟩ : ∃ x y z, searchM 0 key false U g = (x, y, z) := ⟨_, _, _, rfl⟩
  have ht := tw_step (k := 0) (key := key) (vs := false) htw
  have ha := aq_step (key := key) hA
  have hu := hE.words.u
  have o1 := search_ok (k := 0) (key := key) (vs := false) (f := g) (by unfold In64; omega) hT hu
  have o2 := search_ok (k := 0) (key := key) (vs := false) (f := g) (by unfold In64; omega) hU hu
  have n1 := @search_one 0 key false T g
  rw [hq1, hq2] at ht
  rw [hq1] at ha o1 n1
  rw [hq2] at o2
  obtain ⟨t1, t2, t3, t4⟩ := ht
  dsimp only at t1 t2 t3 t4 ha o1 o2 n1
  subst t1 t2
  have hmu0 : i < 208 := by
    rcases hA with ⟨_, _, _, _, h⟩ | ⟨_, ds9, ns9, _, h⟩ | ⟨_, _, _, _, _, ⟨_, h⟩ | ⟨_, h⟩⟩
    · omega
    · rcases h with ⟨_, _, _, h⟩ | ⟨_, _, _, _, h⟩ | ⟨_, n9, r9, hns, _, h⟩
      · omega
      · omega
      · have hl : ns9.length = r9.length + 1 := by rw [hns]; rfl
        rcases h with ⟨_, h⟩ | ⟨_, _, h⟩ | ⟨_, _, h⟩ | ⟨_, _, h⟩ | ⟨_, _, h⟩ <;> omega
    · omega
    · omega
  refine ⟨hmu0, s1, ?_, ?_⟩
  · rcases ha with ⟨h, -⟩ | h
    · exact .inl h
    · exact .inr h
  refine (sp1 hE hg k1 hT (by show na < _; unfold maxLen; omega) rfl rfl rfl hq1).mono ?_
  rintro o w1 ⟨rfl, G1, q1, m1, hm1, hE1⟩
  refine ⟨rfl, fun v => TwoE W R ⟨J1, G1, g1, q1, m1, s1, T1⟩ ⟨J2, Gb, g, qb, nb, 0, U⟩ v, hE1, fun v hv => ?_⟩
  refine (sp2 hv hg k2 hU (by show nb < _; unfold maxLen; omega) rfl rfl rfl hq2).mono ?_
  rintro o w2 ⟨rfl, G2, q2, m2, hm2, hE2⟩
  replace hm1 : m1 ≤ na + 1 := hm1
  replace hm2 : m2 ≤ nb + 1 := hm2
  refine ⟨rfl, g1, G1, G2, q1, q2, m1, m2, T1, T2, by omega, by omega, t3, ?_, hE2⟩
  rcases ha with ⟨h0, mu', h2, h3⟩ | h0
  · exact .inr ⟨h0, o1 h0, o2 h0, mu', h2, by omega⟩
  · refine .inl ⟨h0, ?_, n1 h0⟩
    have := t4 h0
    subst this
    rw [hq1] at hq2
    simp only [Prod.mk.injEq] at hq2
    exact hq2.2.1

set_option maxHeartbeats 12800000 in
theorem walk (xs : List NdI) (A : Option Addr) (cap : Nat) (hl0 : xs.length ≤ 2 ^ 63 - 1) (key ah wa wb : Int) (W : World)
    (hok : ∀ r ∈ xs, OkNdI r) (hrow : RowX encNdI 4 W A xs) (hwa : InU wa) (hwb : InU wb) (hg : Glo W) :
    Calls Tryz.prog 6 #[.slice A xs.length cap, .int .u64 key, .int .i64 ah, .int .u64 wa, .int .u64 wb] W fun e w' => e = .returned (.bool true) ∧ Below W.heap.size W w' := by
  have HG := Lib.hid hg
  have HOK := Lib.hid hok
  have HROW := Lib.hid hrow
  have HWA := Lib.hid hwa
  have HWB := Lib.hid hwb
  have hl : xs.length ≤ 9223372036854775807 := by omega
  have HC := Lib.hid (show chkI 2 1000 3 1 1073741824 = 0 by decide)
  obtain ⟨k, hk, hk0, hk1⟩ := cut_u ah 60 (by decide) (by decide)
  have hE := Env.start W
  clear hg hok hrow hl0 hwa hwb
  go_enter Tryz.func6, Tryz.ntmps6
  go_wp2_with fail
  refine (awake15 _ HG.out).mono ?_
  rintro o w1 ⟨rfl, hb⟩
  replace hE := (hE.over hb).newU w1.heap.size rfl 29
  clear hb
  go_wp2_with fail
  generalize w1.heap.size = m at *
  refine (sorted_t A cap xs hl HOK.out HROW.out hE).mono ?_
  rintro o w2 ⟨g, c2, ns, rfl, hn40, hgood, hE2⟩
  replace hE2 := hE2.perm (List.Perm.swap _ _ _)
  have HN40 := Lib.hid hn40
  have HGOOD := Lib.hid hgood
  clear hE hn40 hgood
  go_wp2_with fail
  refine (lay_t 0 0 9 g c2 ns (by omega) (by omega) (by have := HN40.out; omega) (by simp) (fun F l v hv => hv.cellsK encN_len 1 rfl rfl) hE2).mono ?_
  rintro o w3 ⟨rfl, F3, hE3⟩
  have hwk : Wf (4, 0, 0) := by unfold Wf In64; simp
  have hW3 := words_lay (e := 9) (show (0 : Int) ≤ 0 ∧ (0 : Int) ≤ 1000 by omega) ns (4, 0, 0) false (setL [] (1, 0, 0) 9) HGOOD.out.1 hwk ((show Words (getL []) from Words.zero).setL (by unfold Wf In64; simp) (by simp [InU]))
  have hL3 := layL_length 0 9 ns (4, 0, 0) false (setL [] (1, 0, 0) 9)
  have hL4 := setL_length (1, 0, 0) 9 []
  have hL5 : (layL 0 9 ns (4, 0, 0) false (setL [] (1, 0, 0) 9)).length ≤ 122 := by have := HN40.out; simp at hL4; omega
  have hal := lay_lk (k := 0) HN40.out HGOOD.out.2 HGOOD.out.1
  generalize layL 0 9 ns (4, 0, 0) false (setL [] (1, 0, 0) 9) = ml at *
  have HW3 := Lib.hid hW3
  have HL5 := Lib.hid hL5
  have HAL := Lib.hid hal
  clear hE2 hW3 hL3 hL4 hL5 hwk hal
  obtain ⟨row, hrow9⟩ : ∃ x, rowKI encN 4 (.slice g ns.length c2) 87 ns = x := ⟨_, rfl⟩
  rw [hrow9] at hE3
  clear hrow9
  go_wp2_with fail
  refine (laid_t (by have := HL5.out; omega) HW3.out hE3).mono ?_
  rintro o w4 ⟨p, cc, n4, G4, rfl, hn4, hE4⟩
  have HN4 : Hid (n4 ≤ 122) := Lib.hid (by have := HL5.out; omega)
  replace hE4 := hE4.perm (L' := [refI m F3 ml, wbox p cc, cellI cc G4 (getL ml) ⟨0, (n4 : Int), 0, 0, 0⟩ n4, row]) (perm_of fun z => by simp only [List.count_cons, List.count_nil]; omega)
  clear hE3 hn4
  go_wp2_with fail
  refine (laid_t (by have := HL5.out; omega) HW3.out hE4).mono ?_
  rintro o w5 ⟨p2, cc2, n5, G5, rfl, hn5, hE5⟩
  have HN5 : Hid (n5 ≤ 122) := Lib.hid (by have := HL5.out; omega)
  clear hE4 hn5
  go_wp2_with fail
  refine (conf15 _).mono ?_
  rintro o w6 ⟨rfl, hb⟩
  replace hE5 := hE5.over hb
  clear hb
  go_wp2_with fail
  refine (newYes_c 2 1000 3 1 1073741824 HC.out hE5).mono ?_
  rintro o w7 ⟨c, q, F, rfl, hE7⟩
  clear hE5
  go_wp2_with fail
  refine (newSearch_l c 0 key false hE7).mono ?_
  rintro o w8 ⟨sb, rfl, hE8⟩
  clear hE7
  go_wp2_with fail
  refine (conf15 _).mono ?_
  rintro o w9 ⟨rfl, hb⟩
  replace hE8 := hE8.over hb
  clear hb
  go_wp2_with fail
  refine (newYes_c 2 1000 3 1 1073741824 HC.out hE8).mono ?_
  rintro o w10 ⟨c9, q9, F9, rfl, hE10⟩
  clear hE8
  go_wp2_with fail
  refine (newSearch_l c9 0 key false hE10).mono ?_
  rintro o w11 ⟨sb2, rfl, hE11⟩
  clear hE10
  have hb0 : Blk 0 w11 sb (srC c 0 key false (.pointer none)) := hE11.get 3 rfl
  have hEp := hE11.perm (L' := [boxI sb (srC c 0 key false (.pointer none)), coreI c 2 1000 3 1 1073741824 0 0 0 0 q, queueI q F [] 2] ++ (wbox p cc :: cellI cc G4 (getL ml) ⟨0, (n4 : Int), 0, 0, 0⟩ n4 :: ([boxI sb2 (srC c9 0 key false (.pointer none)), coreI c9 2 1000 3 1 1073741824 0 0 0 0 q9, queueI q9 F9 [] 2] ++ (wbox p2 cc2 :: cellI cc2 G5 (getL ml) ⟨0, (n5 : Int), 0, 0, 0⟩ n5 :: [refI m F3 ml, row])))) (perm_of fun z => by simp only [List.count_append, List.count_cons, List.count_nil]; omega)
  have hP : Pr W [refI m F3 ml, row] ⟨⟨c, q, p, cc, F, 2⟩, sb, 0, 0, m, 0, key, false⟩ ⟨⟨c9, q9, p2, cc2, F9, 2⟩, sb2, 0, 0, m, 0, key, false⟩ 0 w11 :=
    ⟨⟨⟨⟨c, q, p, cc, F, 2⟩, sb, 0, 0, m, 0, key, false⟩, G4, getL ml, ⟨0, (n4 : Int), 0, 0, 0⟩, n4, 0, T0s⟩, ⟨⟨⟨c9, q9, p2, cc2, F9, 2⟩, sb2, 0, 0, m, 0, key, false⟩, G5, getL ml, ⟨0, (n5 : Int), 0, 0, 0⟩, n5, 0, T0s⟩, rfl, rfl, rfl, rfl, rfl, rfl, by have := HN4.out; show n4 ≤ _; omega, by have := HN5.out; show n5 ≤ _; omega, T0s_ok, .inl ⟨rfl, rfl, rfl, ns, HAL.out⟩, fun _ => hb0,
      _, _, ⟨fun G f qc n R w h => SrchR.start (B := ⟨c, q, p, cc, F, 2⟩) h, by simp [T0s], fun h => absurd h (by simp [T0s])⟩, ⟨fun G f qc n R w h => SrchR.start (B := ⟨c9, q9, p2, cc2, F9, 2⟩) h, by simp [T0s], fun h => absurd h (by simp [T0s])⟩, hEp⟩
  clear hE11 hEp hb0
  go_wp2_with fail
  rw [hk]
  obtain ⟨K, rfl⟩ : ∃ K : Nat, k = (K : Int) := ⟨k.toNat, by omega⟩
  clear hk hk0
  generalize hJ1 : (⟨⟨c, q, p, cc, F, 2⟩, sb, 0, 0, m, 0, key, false⟩ : Js) = J1 at hP
  generalize hJ2 : (⟨⟨c9, q9, p2, cc2, F9, 2⟩, sb2, 0, 0, m, 0, key, false⟩ : Js) = J2 at hP
  have e1 : J1.k = 0 ∧ J1.key = key ∧ J1.vs = false ∧ J1.sb = sb ∧ J1.B.p = p ∧ J1.B.c = c := by rw [← hJ1]; exact ⟨rfl, rfl, rfl, rfl, rfl, rfl⟩
  have e2 : J2.k = 0 ∧ J2.key = key ∧ J2.vs = false ∧ J2.sb = sb2 ∧ J2.B.p = p2 ∧ J2.B.c = c9 := by rw [← hJ2]; exact ⟨rfl, rfl, rfl, rfl, rfl, rfl⟩
  have HE1 := Lib.hid e1
  have HE2 := Lib.hid e2
  clear hJ1 hJ2 e1 e2
  go_loopw [18] (fun iv wr => ∃ (j : Nat), iv = .int .i64 j ∧ j ≤ K ∧ Pr W [refI m F3 ml, row] J1 J2 j wr) (fun iv _ => K - (intOf iv).toNat)
  case atStart => exact ⟨0, rfl, Nat.zero_le _, hP⟩
  case round =>
    clear hP
    obtain ⟨j, rfl, hj, hP⟩ := hrel
    by_cases hlt : j < K
    · have hb1 : decide ((j : Int) < (K : Int)) = true := by rw [decide_eq_true_iff]; omega
      obtain ⟨s, hs, hst⟩ := pr_step (key := key) HG.out (by omega) ⟨HE1.out.1, HE1.out.2.1, HE1.out.2.2.1⟩ ⟨HE2.out.1, HE2.out.2.1, HE2.out.2.2.1⟩ hP
      rw [HE1.out.2.2.2.1, HE1.out.2.2.2.2.1, HE2.out.2.2.2.1, HE2.out.2.2.2.2.1] at hst
      have HST := Lib.hid hst
      clear hst hP
      go_wp2_with fail
      refine HST.out.mono ?_
      rintro o w12 ⟨rfl, E, hEw, hEn⟩
      have HEN := Lib.hid hEn
      clear HST hEn
      go_wp2_with fail
      refine (HEN.out _ hEw).mono ?_
      rintro o w13 ⟨rfl, hbel, hnx⟩
      have HNX := Lib.hid hnx
      clear HEN hnx hEw
      rcases hs with rfl | rfl
      · go_wp2_with fail
        exact ⟨⟨j + 1, by simp, by omega, HNX.out (by first | trivial | rfl)⟩, by simp [intOf]; omega⟩
      · go_wp2_with fail
        go_ret
        exact ⟨rfl, hbel⟩
    · have hb1 : decide ((j : Int) < (K : Int)) = false := by rw [decide_eq_false_iff_not]; omega
      have hj60 : j ≤ 60 := by omega
      clear hj
      obtain ⟨a, b, ha, hb, hf, hT, hs1, hs2, hn1, hn2, hok, hq, hbk, hE⟩ := hP
      cases hon : a.T.on
      · have hlg := lane_g (hbk hon)
        rw [HE1.out.2.2.2.1] at hlg
        have HLG := Lib.hid hlg
        have hbel := hE.below
        clear hlg hbk hE ha hb hf hT hs1 hs2 hok hq hon
        go_wp2_with fail
        refine HLG.out.mono ?_
        rintro o w12 ⟨rfl, rfl⟩
        go_wp2_with fail
        go_ret
        exact ⟨rfl, hbel⟩
      · obtain ⟨l, nx, wd, hB1, hB2⟩ := two_lane hon hE
        rw [ha, HE1.out.2.2.2.1] at hB2
        unfold laneV at hB1
        have hLC := (hok hon).1.C
        obtain ⟨C, hC⟩ : ∃ C, a.T.L.C = C := ⟨_, rfl⟩
        rw [hC] at hB1 hLC
        have HC9 := Lib.hid hC
        have HLC := Lib.hid hLC
        have HQ := Lib.hid hq
        have HOK9 := Lib.hid hok
        have HJ := Lib.hid (And.intro ha hb)
        have HFT := Lib.hid (And.intro hf hT)
        have HSS := Lib.hid (And.intro hs1 hs2)
        have HON := Lib.hid hon
        have hws := who_slot
        have HLINK : Hid (∀ (y : Int) (v : World), Calls Tryz.prog 38 #[.int .i64 y, .int .i64 0] v fun e w' => e = .returned (.agg #[.int .i64 5, .int .i64 y, .int .i64 7]) ∧ Below v.heap.size v w') := Lib.hid fun y v => by
          have := link_any y 0 v
          rwa [show wrap64 (7 + 0) = 7 from w64 _ (by omega)] at this
        clear hC hLC hbk hf hT hs1 hs2 hok hq hon ha hb
        by_cases h0 : C = 0
        · subst h0
          go_wp2_with (first
            | (with_reducible refine (lane_g hB2).mono ?_; rintro o w7 ⟨rfl, rfl⟩)
            | (with_reducible refine (who_g hB1).mono ?_; rintro o w7 ⟨rfl, hb⟩; replace hB1 := hB1.under hb; replace hB2 := hB2.under hb; replace hE := hE.over hb; clear hb))
          go_ret
          exact ⟨rfl, hE.below⟩
        · have hz : (C == 0) = false := by simpa using h0
          have hz2 : decide (C = 0) = false := by simpa using h0
          go_wp2_with (first
            | (with_reducible refine (lane_g hB2).mono ?_; rintro o w7 ⟨rfl, rfl⟩)
            | (with_reducible refine (who_g hB1).mono ?_; rintro o w7 ⟨rfl, hb⟩; replace hB1 := hB1.under hb; replace hB2 := hB2.under hb; replace hE := hE.over hb; clear hb))
          refine (placeOf_any C 3 _).mono ?_
          rintro o w14 ⟨rfl, hb⟩
          replace hE := (hE.over hb).box w14.heap.size rfl [.int .i64 5, .int .i64 C, .int .i64 3] 58
          clear hb hB1 hB2
          go_wp2_with fail
          generalize w14.heap.size = P1 at *
          refine (HLINK.out C _).mono ?_
          rintro o w15 ⟨rfl, hb⟩
          replace hE := (hE.over hb).box w15.heap.size rfl [.int .i64 5, .int .i64 C, .int .i64 7] 58
          clear hb HLINK
          go_wp2_with fail
          generalize w15.heap.size = P2 at *
          obtain ⟨M, N, h1, h2, hEL⟩ := hE
          have HM1 := Lib.hid h1
          have HM2 := Lib.hid h2
          obtain ⟨LL, hLL⟩ : ∃ x, M ++ (wbox a.J.B.p a.J.B.cc :: cellI a.J.B.cc a.G a.f a.q a.n :: (N ++ (wbox b.J.B.p b.J.B.cc :: cellI b.J.B.cc b.G b.f b.q b.n :: (boxI P2 [.int .i64 5, .int .i64 C, .int .i64 7] :: boxI P1 [.int .i64 5, .int .i64 C, .int .i64 3] :: [refI m F3 ml, row])))) = x := ⟨_, rfl⟩
          rw [hLL] at hEL
          have HTW : Hid (∀ v, Env W LL v → TwoE W (boxI P2 [.int .i64 5, .int .i64 C, .int .i64 7] :: boxI P1 [.int .i64 5, .int .i64 C, .int .i64 3] :: [refI m F3 ml, row]) a b v) := Lib.hid fun v hv => ⟨M, N, HM1.out, HM2.out, by rw [hLL]; exact hv⟩
          have HB : Hid (∀ v, Env W LL v → Blk 0 v P1 [.int .i64 5, .int .i64 C, .int .i64 3] ∧ Blk 0 v P2 [.int .i64 5, .int .i64 C, .int .i64 7]) := Lib.hid fun v hv => ⟨(HTW.out v hv).blk (i := 1) rfl, (HTW.out v hv).blk (i := 0) rfl⟩
          obtain ⟨u1, hu1⟩ : ∃ u, a.f (5, C, 3) = u := ⟨_, rfl⟩
          obtain ⟨u2, hu2⟩ : ∃ u, a.f (5, C, 7) = u := ⟨_, rfl⟩
          have HPK1 : Hid (∀ v, Env W LL v → Calls Tryz.prog 36 #[.pointer (some ⟨p, 0, none⟩), .agg #[.int .i64 5, .int .i64 C, .int .i64 3]] v fun o w' => o = .returned (.int .u64 u1) ∧ Below v.heap.size v w') := Lib.hid fun v hv => by
            have h9 := two_peek 5 C 3 (wf_part HLC.out (by omega)) (HTW.out v hv)
            rwa [hu1, HJ.out.1, HE1.out.2.2.2.2.1] at h9
          have HPK2 : Hid (∀ v, Env W LL v → Calls Tryz.prog 36 #[.pointer (some ⟨p, 0, none⟩), .agg #[.int .i64 5, .int .i64 C, .int .i64 7]] v fun o w' => o = .returned (.int .u64 u2) ∧ Below v.heap.size v w') := Lib.hid fun v hv => by
            have h9 := two_peek 5 C 7 (wf_part HLC.out (by omega)) (HTW.out v hv)
            rwa [hu2, HJ.out.1, HE1.out.2.2.2.2.1] at h9
          have HU := Lib.hid (And.intro hu1 hu2)
          have HLL := Lib.hid hLL
          clear h1 h2 hLL hu1 hu2
          refine OrdF.wp_float [?_, ?_, ?_, ?_, ?_, ?_, ?_, OrdF.Ptr, ?_] [8] 7 (fun v => Env W LL v) (OrdF.AF W [.int .u64 0, .int .u64 0] (OrdF.Sta [fun N zs => N = LL ∧ zs = [.int .u64 0, .int .u64 0], fun N zs => N = LL ∧ zs = [.int .u64 u1, .int .u64 u2]])) (by kernel_rfl) (by kernel_rfl) (by kernel_rfl) hEL.drew ⟨_, _, ⟨_, rfl, rfl, rfl⟩, .inl ⟨rfl, rfl, hEL.drew⟩⟩ (fun hT => ?_)
          rotate_left 8
          have hT9 := Lib.hid hT
          clear hT
          repeat (first
            | (focus (refine OrdF.in_value (v := ?_) hT9.out (by decide) (by decide) ?_ (by rfl) ?_ ?_; rotate_left 2; (focus (intro w5 hS; have r1 := (HB.out _ hS).1.rule; have r2 := (HB.out _ hS).2.rule; go_simp <;> with_reducible rfl)); rotate_right; (focus rfl); (try simp only [Act.put, List.setIfInBounds_toArray, List.set_cons_zero, List.set_cons_succ])))
            | (focus (refine OrdF.in_off hT9.out (by decide) (by decide) ?_ (by rfl) ?_; (focus rfl); (try simp only [Act.put, List.setIfInBounds_toArray, List.set_cons_zero, List.set_cons_succ]))))
          focus (refine OrdF.in_call (v := .int .u64 u1) (f := ?_) (args := ?_) hT9.out (by decide) (by decide) ?_ (by rfl) ?_ ?_ ?_; rotate_left 2; (focus rfl); (focus (intro w5 hS; skip; go_simp; constructor <;> with_reducible rfl)); (focus (intro w5 hS; refine (HPK1.out _ hS).mono ?_; rintro e w6 ⟨rfl, hb6⟩; exact ⟨rfl, hS.over hb6, fun _ _ h => AF_over h hb6⟩)); (try simp only [Act.put, List.setIfInBounds_toArray, List.set_cons_zero, List.set_cons_succ]))
          repeat (first
            | (focus (refine OrdF.in_value (v := ?_) hT9.out (by decide) (by decide) ?_ (by rfl) ?_ ?_; rotate_left 2; (focus (intro w5 hS; have r1 := (HB.out _ hS).1.rule; have r2 := (HB.out _ hS).2.rule; go_simp <;> with_reducible rfl)); rotate_right; (focus rfl); (try simp only [Act.put, List.setIfInBounds_toArray, List.set_cons_zero, List.set_cons_succ])))
            | (focus (refine OrdF.in_off hT9.out (by decide) (by decide) ?_ (by rfl) ?_; (focus rfl); (try simp only [Act.put, List.setIfInBounds_toArray, List.set_cons_zero, List.set_cons_succ]))))
          focus (refine OrdF.in_call (v := .int .u64 u2) (f := ?_) (args := ?_) hT9.out (by decide) (by decide) ?_ (by rfl) ?_ ?_ ?_; rotate_left 2; (focus rfl); (focus (intro w5 hS; skip; go_simp; constructor <;> with_reducible rfl)); (focus (intro w5 hS; refine (HPK2.out _ hS).mono ?_; rintro e w6 ⟨rfl, hb6⟩; exact ⟨rfl, hS.over hb6, fun _ _ h => AF_over h hb6⟩)); (try simp only [Act.put, List.setIfInBounds_toArray, List.set_cons_zero, List.set_cons_succ]))
          repeat (first
            | (focus (refine OrdF.in_value (v := ?_) hT9.out (by decide) (by decide) ?_ (by rfl) ?_ ?_; rotate_left 2; (focus (intro w5 hS; skip; go_simp <;> with_reducible rfl)); rotate_right; (focus rfl); (try simp only [Act.put, List.setIfInBounds_toArray, List.set_cons_zero, List.set_cons_succ])))
            | (focus (refine OrdF.in_off hT9.out (by decide) (by decide) ?_ (by rfl) ?_; (focus rfl); (try simp only [Act.put, List.setIfInBounds_toArray, List.set_cons_zero, List.set_cons_succ]))))
          refine OrdF.in_float OrdF.Ptr (.pointer (some ⟨0, 0, none⟩)) ⟨0, rfl⟩ hT9.out rfl (by decide) ?_ (by rfl) ?_ ?_
          · rfl
          · intro w5 κs5 hC5 hA5
            go_simp
            simp only [Ord3.Lands]
            exact ⟨⟨_, rfl⟩, hC5.over ((Below.refl _ _).alloc (Nat.le_refl _) _), hA5.up _⟩
          rintro _ ⟨V, rfl⟩
          (try simp only [Act.put, List.setIfInBounds_toArray, List.set_cons_zero, List.set_cons_succ])
          refine OrdF.in_turn_late (by kernel_rfl) (by decide) (by decide) (fun u => u = undef) (undef) rfl hT9.out rfl (by decide) (by rfl) ?_ (.inl rfl) (by rfl) ?_ ?_
          · rfl
          · rintro w5 hC5 ⟨M5, z5, ⟨P5, hP5, hM5⟩, ⟨hn5, _⟩ | ⟨n5, hn5, hE5⟩⟩
            · cases hn5
            cases hn5
            cases hP5
            obtain ⟨rfl, rfl⟩ := hM5
            have ff := hE5.thaw 0 rfl; have f0 := ff 0 (by simp); have f1 := ff 1 (by simp); have r := hE5.rule 0 rfl; clear ff
            go_simp
            have hE6 := (hE5.put 0 rfl (j := 0) (by simp) (.int .u64 u1)).put 0 rfl (j := 1) (by simp) (.int .u64 u2); exact ⟨rfl, hE6.sub (.cons _ (List.Sublist.refl _)), _, _, ⟨_, rfl, rfl, rfl⟩, .inr ⟨_, rfl, hE6⟩⟩
          rintro _ rfl
          (try simp only [Act.put, List.setIfInBounds_toArray, List.set_cons_zero, List.set_cons_succ])
          refine OrdF.in_nil rfl (by decide) (by decide) ?_
          rintro w5 hC5 ⟨M5, z5, ⟨P5, hP5, hM5⟩, ⟨hn5, _⟩ | ⟨n5, hn5, hE5⟩⟩
          · cases hn5
          cases hn5
          cases hP5
          obtain ⟨rfl, rfl⟩ := hM5
          clear hT9
          have hE6 : TwoE W (boxI V [.int .u64 u1, .int .u64 u2] :: boxI P2 [.int .i64 5, .int .i64 C, .int .i64 7] :: boxI P1 [.int .i64 5, .int .i64 C, .int .i64 3] :: [refI m F3 ml, row]) a b w5 := by
            rw [← HLL.out] at hE5
            exact ⟨M, N, HM1.out, HM2.out, hE5.perm (perm_bx M N _ _ _ _ _ _)⟩
          clear hE5 hEL HTW HB HPK1 HPK2 HM1 HM2 HLL hC5
          go_wp2_with fail
          have hpa : a.J.B.p = p := by rw [HJ.out.1]; exact HE1.out.2.2.2.2.1
          have hpb : b.J.B.p = p2 := by rw [HJ.out.2]; exact HE2.out.2.2.2.2.1
          have ha9 : a.f (1, 0, 0) = 9 := by
            rcases HQ.out with ⟨h, -⟩ | ⟨-, -, ds, ns9, mu, h⟩
            · rw [HON.out] at h; exact absurd h (by decide)
            · exact h.1.ep
          have hb9 : b.f (1, 0, 0) = 9 := by rw [← HFT.out.1]; exact ha9
          have HWD := Lib.hid hE6.words
          have HPA := Lib.hid hpa
          have HPB := Lib.hid hpb
          have HA9 := Lib.hid ha9
          have HB9 := Lib.hid hb9
          clear hpa hpb ha9 hb9
          refine (epoch_any _).mono ?_
          rintro o x0 ⟨rfl, hb⟩
          replace hE6 := hE6.over hb
          clear hb
          go_wp2_with fail
          refine (ad1 HPA.out HA9.out (by unfold maxLen; omega) hE6).mono ?_
          rintro o x1 ⟨rfl, G1', hF1⟩
          clear hE6
          have rP1 := (hF1.blk (i := 2) rfl).rule
          have rP2 := (hF1.blk (i := 1) rfl).rule
          have rV := (hF1.blk (i := 0) rfl).rule
          go_wp2_with fail
          refine (epoch_any _).mono ?_
          rintro o x9 ⟨rfl, hb⟩
          replace hF1 := hF1.over hb
          clear hb rP1 rP2 rV
          go_wp2_with fail
          refine (ad2 HPB.out HB9.out (by unfold maxLen; omega) hF1).mono ?_
          rintro o x2 ⟨rfl, G2', hF2⟩
          clear hF1
          have rP1 := (hF2.blk (i := 2) rfl).rule
          have rP2 := (hF2.blk (i := 1) rfl).rule
          have rV := (hF2.blk (i := 0) rfl).rule
          go_wp2_with fail
          refine (st1 hF2 HPA.out C 3 wa HLC.out (by omega) HWA.out (by show a.n + 1 < _; unfold maxLen; omega)).mono ?_
          rintro o x3 ⟨rfl, G3', hF3⟩
          clear hF2 rP1 rP2 rV
          have rP1 := (hF3.blk (i := 2) rfl).rule
          have rP2 := (hF3.blk (i := 1) rfl).rule
          have rV := (hF3.blk (i := 0) rfl).rule
          go_wp2_with fail
          refine (st2 hF3 HPB.out C 3 wb HLC.out (by omega) HWB.out (by show b.n + 1 < _; unfold maxLen; omega)).mono ?_
          rintro o x4 ⟨rfl, G4', hF4⟩
          clear hF3 rP1 rP2 rV
          have rP1 := (hF4.blk (i := 2) rfl).rule
          have rP2 := (hF4.blk (i := 1) rfl).rule
          have rV := (hF4.blk (i := 0) rfl).rule
          go_wp2_with fail
          refine (st1 hF4 HPA.out C 7 _ HLC.out (by omega) (bitsU _ _ _) (by show a.n + 1 + 1 < _; unfold maxLen; omega)).mono ?_
          rintro o x5 ⟨rfl, G5', hF5⟩
          clear hF4 rP1 rP2 rV
          have rP1 := (hF5.blk (i := 2) rfl).rule
          have rP2 := (hF5.blk (i := 1) rfl).rule
          have rV := (hF5.blk (i := 0) rfl).rule
          go_wp2_with fail
          refine (st2 hF5 HPB.out C 7 _ HLC.out (by omega) (bitsU _ _ _) (by show b.n + 1 + 1 < _; unfold maxLen; omega)).mono ?_
          rintro o x6 ⟨rfl, G6', hF6⟩
          clear hF5 rP1 rP2 rV
          have rP1 := (hF6.blk (i := 2) rfl).rule
          have rP2 := (hF6.blk (i := 1) rfl).rule
          have rV := (hF6.blk (i := 0) rfl).rule
          go_wp2_with fail
          obtain ⟨s1, T1, g1, hq1⟩ : ∃ x y z, searchM 0 key false a.T (dsF a.f C wa (bits BinOp.or .u64 wa 9223372036854775808)) = (x, y, z) := ⟨_, _, _, rfl⟩
          obtain ⟨s2, T2, g2, hq2⟩ : ∃ x y z, searchM 0 key false a.T (dsF a.f C wb (bits BinOp.or .u64 wb 9223372036854775808)) = (x, y, z) := ⟨_, _, _, rfl⟩
          have hd : s1 = s2 ∧ bkF a.f g1 C = bkF a.f g2 C ∧ Tw T1 T2 (bkF a.f g1 C) ∧ ((s1 = 1 ∧ T1 = T2) ∨ (s1 = 0 ∧ ∃ mu', Aq 0 T1 (bkF a.f g1 C) mu' ∧ mu' ≤ 208)) := by
            rcases HQ.out with ⟨h, -⟩ | ⟨-, he9, ds, ns9, mu, h⟩
            · rw [HON.out] at h; exact absurd h (by decide)
            · have h9 := dist (key := key) HOK9.out HON.out he9 h (by rw [HC9.out]; exact h0) wa (bits BinOp.or .u64 wa 9223372036854775808) wb (bits BinOp.or .u64 wb 9223372036854775808)
              rw [HC9.out, hq1, hq2] at h9
              exact h9
          obtain ⟨rfl, hd2, hd3, hd4⟩ := hd
          have HD2 := Lib.hid hd2
          have HD3 := Lib.hid hd3
          have HD4 := Lib.hid hd4
          have HQ1 := Lib.hid hq1
          have HQ2 := Lib.hid hq2
          have HKA : Hid (a.J.B.p = p ∧ a.J.sb = sb ∧ a.J.k = 0 ∧ a.J.key = key ∧ a.J.vs = false) := Lib.hid (by rw [HJ.out.1]; exact ⟨HE1.out.2.2.2.2.1, HE1.out.2.2.2.1, HE1.out.1, HE1.out.2.1, HE1.out.2.2.1⟩)
          have HKB : Hid (b.J.B.p = p2 ∧ b.J.sb = sb2 ∧ b.J.k = 0 ∧ b.J.key = key ∧ b.J.vs = false) := Lib.hid (by rw [HJ.out.2]; exact ⟨HE2.out.2.2.2.2.1, HE2.out.2.2.2.1, HE2.out.1, HE2.out.2.1, HE2.out.2.2.1⟩)
          clear hd2 hd3 hd4 hq1 hq2
          have HW6 : Hid (∀ x, InU (dsF a.f C wa (bits BinOp.or .u64 wa 9223372036854775808) x)) := Lib.hid hF6.words.u
          have HW7 : Hid (∀ x, InU (dsF a.f C wb (bits BinOp.or .u64 wb 9223372036854775808) x)) := Lib.hid (by
            have h9 := hF6.symm.words.u
            intro x
            have h8 := h9 x
            show InU (upd (upd (upd a.f _ _) _ _) _ _ x)
            rw [HFT.out.1]
            exact h8)
          refine (sp1 hF6 HG.out HKA.out HOK9.out (by show a.n + 1 + 1 + 1 < _; unfold maxLen; omega) HSS.out.1 rfl rfl HQ1.out).mono ?_
          rintro o x7 ⟨rfl, G7', q7, m7, hm7, hF7⟩
          clear hF6 rP1 rP2 rV
          have rP1 := (hF7.blk (i := 2) rfl).rule
          have rP2 := (hF7.blk (i := 1) rfl).rule
          have rV := (hF7.blk (i := 0) rfl).rule
          go_wp2_with fail
          refine (sp2 hF7 HG.out HKB.out (by show SmOk b.T; rw [← HFT.out.2]; exact HOK9.out) (by show b.n + 1 + 1 + 1 < _; unfold maxLen; omega) HSS.out.2 (by show upd (upd (upd b.f _ _) _ _) _ _ = _; rw [← HFT.out.1]; rfl) (by show b.T = a.T; exact HFT.out.2.symm) HQ2.out).mono ?_
          rintro o x8 ⟨rfl, G8', q8, m8, hm8, hF8⟩
          clear hF7 rP1 rP2 rV
          have rP1 := (hF8.blk (i := 2) rfl).rule
          have rP2 := (hF8.blk (i := 1) rfl).rule
          have rV := (hF8.blk (i := 0) rfl).rule
          go_wp2_with fail
          replace hm7 : m7 ≤ a.n + 1 + 1 + 1 + 1 := hm7
          replace hm8 : m8 ≤ b.n + 1 + 1 + 1 + 1 := hm8
          have hu1 : InU u1 := by rw [← HU.out.1]; exact HWD.out.u _
          have hu2 : InU u2 := by rw [← HU.out.2]; exact HWD.out.u _
          have HU1 := Lib.hid hu1
          have HU2 := Lib.hid hu2
          clear hu1 hu2
          refine (st1 hF8 HPA.out C 3 u1 HLC.out (by omega) HU1.out (by show m7 < _; unfold maxLen; omega)).mono ?_
          rintro o x9 ⟨rfl, G9', hF9⟩
          clear hF8 rP1 rP2 rV
          have rP1 := (hF9.blk (i := 2) rfl).rule
          have rP2 := (hF9.blk (i := 1) rfl).rule
          have rV := (hF9.blk (i := 0) rfl).rule
          go_wp2_with fail
          refine (st2 hF9 HPB.out C 3 u1 HLC.out (by omega) HU1.out (by show m8 < _; unfold maxLen; omega)).mono ?_
          rintro o x10 ⟨rfl, G10', hF10⟩
          clear hF9 rP1 rP2 rV
          have rP1 := (hF10.blk (i := 2) rfl).rule
          have rP2 := (hF10.blk (i := 1) rfl).rule
          have rV := (hF10.blk (i := 0) rfl).rule
          go_wp2_with fail
          refine (st1 hF10 HPA.out C 7 u2 HLC.out (by omega) HU2.out (by show m7 + 1 < _; unfold maxLen; omega)).mono ?_
          rintro o x11 ⟨rfl, G11', hF11⟩
          clear hF10 rP1 rP2 rV
          have rP1 := (hF11.blk (i := 2) rfl).rule
          have rP2 := (hF11.blk (i := 1) rfl).rule
          have rV := (hF11.blk (i := 0) rfl).rule
          go_wp2_with fail
          refine (st2 hF11 HPB.out C 7 u2 HLC.out (by omega) HU2.out (by show m8 + 1 < _; unfold maxLen; omega)).mono ?_
          rintro o x12 ⟨rfl, G12', hF12⟩
          clear hF11 rP1 rP2 rV
          have hZ : ∃ R', Zr W R' J1 J2 s1 0 x12 := by
            have e1 : upd (upd g1 (5, C, 3) u1) (5, C, 7) u2 = bkF a.f g1 C := by rw [← HU.out.1, ← HU.out.2]; rfl
            have e2 : upd (upd g2 (5, C, 3) u1) (5, C, 7) u2 = bkF a.f g1 C := by rw [HD2.out, ← HU.out.1, ← HU.out.2]; rfl
            unfold Sd.put at hF12
            dsimp only at hF12
            have ja : (eP a G1').J = J1 := HJ.out.1
            have jb : (eP b G2').J = J2 := HJ.out.2
            rw [e1, e2, ja, jb] at hF12
            refine ⟨_, bkF a.f g1 C, _, _, _, _, _, _, T1, T2, ?_, ?_, HD3.out, ?_, hF12⟩
            · omega
            · omega
            · have sone := @search_one 0 key false a.T (dsF a.f C wa (bits BinOp.or .u64 wa 9223372036854775808))
              rw [HQ1.out] at sone
              rcases HD4.out with ⟨h1, h2⟩ | ⟨h1, mu', h2, h3⟩
              · exact .inl ⟨h1, h2, sone h1⟩
              · have o1 := search_ok (k := 0) (key := key) (vs := false) (f := dsF a.f C wa (bits BinOp.or .u64 wa 9223372036854775808)) (by unfold In64; omega) HOK9.out HW6.out
                have o2 := search_ok (k := 0) (key := key) (vs := false) (f := dsF a.f C wb (bits BinOp.or .u64 wb 9223372036854775808)) (by unfold In64; omega) HOK9.out HW7.out
                rw [HQ1.out] at o1
                rw [HQ2.out] at o2
                exact .inr ⟨h1, o1 h1, o2 h1, mu', h2, by omega⟩
          have hs01 : s1 = 0 ∨ s1 = 1 := by
            rcases HD4.out with ⟨h, -⟩ | ⟨h, -⟩
            · exact .inr h
            · exact .inl h
          obtain ⟨R', hZ⟩ := hZ
          have K1 : Hid (J1.B.p = p ∧ J1.sb = sb ∧ J1.k = 0 ∧ J1.key = key ∧ J1.vs = false) := Lib.hid ⟨HE1.out.2.2.2.2.1, HE1.out.2.2.2.1, HE1.out.1, HE1.out.2.1, HE1.out.2.2.1⟩
          have K2 : Hid (J2.B.p = p2 ∧ J2.sb = sb2 ∧ J2.k = 0 ∧ J2.key = key ∧ J2.vs = false) := Lib.hid ⟨HE2.out.2.2.2.2.1, HE2.out.2.2.2.1, HE2.out.1, HE2.out.2.1, HE2.out.2.2.1⟩
          clear hF12
          go_wp2_with fail
          go_loopw [24, 25, 26] (fun xv yv iv wr => ∃ (s : Int) (i : Nat), xv = .int .i64 s ∧ yv = .int .i64 s ∧ iv = .int .i64 i ∧ (s = 0 ∨ s = 1) ∧ i ≤ 300 ∧ Zr W R' J1 J2 s i wr) (fun _ _ iv _ => 500 - (intOf iv).toNat)
          case atStart => exact ⟨s1, 0, rfl, rfl, rfl, hs01, by omega, hZ⟩
          case round =>
            clear hZ hs01
            obtain ⟨s, i, rfl, rfl, rfl, hs, hi, hZ⟩ := hrel
            have hi5 : i < 500 := by omega
            have hb1 : decide ((i : Int) < 500) = true := by rw [decide_eq_true_iff]; omega
            rcases hs with rfl | rfl
            · obtain ⟨hi2, s9, hs9, hst⟩ := zr_step HG.out K1.out K2.out hZ
              have HST := Lib.hid hst
              clear hst hZ
              go_wp2_with fail
              refine HST.out.mono ?_
              rintro o y1 ⟨rfl, E, hEw, hEn⟩
              have HEN := Lib.hid hEn
              clear HST hEn
              go_wp2_with fail
              refine (HEN.out _ hEw).mono ?_
              rintro o y2 ⟨rfl, hZ⟩
              clear HEN hEw
              go_wp2_with fail
              exact ⟨⟨s9, i + 1, rfl, rfl, by simp, hs9, by omega, hZ⟩, by simp [intOf]; omega⟩
            · obtain ⟨g0, Ga, Gb, qa, qb, na, nb, T, U, -, -, -, ⟨-, hTU, hTon⟩ | ⟨h1, -⟩, hE⟩ := hZ
              rotate_left
              · exact absurd h1 (by decide)
              subst hTU
              obtain ⟨l1, nx1, wd1, hA1, hA2⟩ := two_lane hTon hE
              obtain ⟨l2, nx2, wd2, hB1, hB2⟩ := two_lane hTon hE.symm
              dsimp only at hA1 hA2 hB1 hB2
              rw [K1.out.2.1] at hA2
              rw [K2.out.2.1] at hB2
              unfold laneV at hA1 hB1
              have hbel := hE.below
              clear hE hTon
              generalize T.L.p.1 = a1 at *
              generalize T.L.p.2.1 = a2 at *
              generalize T.L.p.2.2 = a3 at *
              generalize pfS 1 T.L = fd at *
              generalize T.L.C = C9 at *
              go_wp2_with (first
                | (with_reducible refine (lane_g hA2).mono ?_; rintro o w7 ⟨rfl, rfl⟩)
                | (with_reducible refine (lane_g hB2).mono ?_; rintro o w7 ⟨rfl, rfl⟩)
                | (with_reducible refine (found_g hA1).mono ?_; rintro o w7 ⟨rfl, rfl⟩)
                | (with_reducible refine (found_g hB1).mono ?_; rintro o w7 ⟨rfl, rfl⟩)
                | (with_reducible refine (who_g hA1).mono ?_; rintro o w7 ⟨rfl, hb⟩; replace hA1 := hA1.under hb; replace hA2 := hA2.under hb; replace hB1 := hB1.under hb; replace hB2 := hB2.under hb; replace hbel := hbel.trans (hb.mono hbel.size); clear hb)
                | (with_reducible refine (who_g hB1).mono ?_; rintro o w7 ⟨rfl, hb⟩; replace hA1 := hA1.under hb; replace hA2 := hA2.under hb; replace hB1 := hB1.under hb; replace hB2 := hB2.under hb; replace hbel := hbel.trans (hb.mono hbel.size); clear hb)
                | (with_reducible refine (at_g hA1).mono ?_; rintro o w7 ⟨rfl, hb⟩; replace hA1 := hA1.under hb; replace hA2 := hA2.under hb; replace hB1 := hB1.under hb; replace hB2 := hB2.under hb; replace hbel := hbel.trans (hb.mono hbel.size); clear hb)
                | (with_reducible refine (at_g hB1).mono ?_; rintro o w7 ⟨rfl, hb⟩; replace hA1 := hA1.under hb; replace hA2 := hA2.under hb; replace hB1 := hB1.under hb; replace hB2 := hB2.under hb; replace hbel := hbel.trans (hb.mono hbel.size); clear hb))
              go_ret
              exact ⟨rfl, hbel⟩

theorem own : ownKnob Tryz.prog.godebug = none := by kernel_rfl
theorem laidOut : laidOutB Tryz.prog = true := by kernel_rfl

set_option maxRecDepth 100000 in
theorem lifted (os : Os) (started : os.Started) (H : Type) (enc : TypeId × Value → H) :
    ReturnsInHanded {} Tryz.checked os 6 .any (fun w args => (Rows.seekFrozenSpec.pre enc Tryz.prog Tryz.f6 [] false w args ∧ laidMetH Tryz.prog laid3 w) ∧ sizedMet enc Tryz.prog Tryz.f6 (OpenSpec.ofChange Rows.seekFrozenSpec) false w args)
      (Rows.seekFrozenSpec.post enc Tryz.prog Tryz.f6 false true false false) := by
  refine returnsInHanded_of_change_and (C := Tryz.checked) (X := fun w _ => laidMetH Tryz.prog laid3 w) (fun _ _ _ hh h => h.of_heap hh) own started (by kernel_rfl) Tryz.func6
    (ChangeSpec.witness_shaped (enc := enc) (C := Tryz.checked) (os := os) (X := fun w _ => laidMetH Tryz.prog laid3 w) false (World.doorLaid Tryz.prog 24 os) #[.slice none 0 0, .int .u64 0, .int .i64 0, .int .u64 0, .int .u64 0] 8 rfl (World.shaped_of_RefB (by kernel_rfl) (by kernel_rfl)) (by kernel_rfl) (by kernel_rfl) (by kernel_rfl) (door_met os _)) ?_
  intro W base args ds gs before hval0 hW _ _ hL _
  have hval : ∀ (j : Nat) t v, Tryz.f6.params[j]? = some t → args[j]? = some v → Value.okWide Tryz.prog W .any base t v := hval0
  have hW' := hW
  obtain ⟨p, q, hA0, hV, rfl, hfz, hnd⟩ := hW
  have hA : DataW.TrodAll enc Tryz.prog W 0 (fun _ => true) true Tryz.f6.params.toList args.toList ds p := hA0
  rw [Tryz.params6] at hA hval
  obtain ⟨v0, vs0, d0, ds0, p0, q0, hargs, rfl, rfl, g0, r0⟩ := trodAll_cons hA
  obtain ⟨v1, vs1, d1, ds1, p1, q1, rfl, rfl, rfl, g1, r1⟩ := trodAll_cons r0
  obtain ⟨v2, vs2, d2, ds2, p2, q2, rfl, rfl, rfl, g2, r2⟩ := trodAll_cons r1
  obtain ⟨v3, vs3, d3, ds3, p3, q3, rfl, rfl, rfl, g3, r3⟩ := trodAll_cons r2
  obtain ⟨v4, vs4, d4, ds4, p4, q4, rfl, rfl, rfl, g4, r4⟩ := trodAll_cons r3
  obtain ⟨rfl, rfl, rfl⟩ := trodAll_nil r4
  obtain rfl : args = #[v0, v1, v2, v3, v4] := by cases args; simp_all
  obtain ⟨rfl, rfl⟩ := trodVars_none hV
  obtain ⟨a1, rfl, rfl, rfl, w1⟩ := open_int Tryz.underlying23 (hval 1 23 v1 rfl rfl) g1
  have h1 := u64_in w1
  obtain ⟨a2, rfl, rfl, rfl, w2⟩ := open_int Tryz.underlying3 (hval 2 3 v2 rfl rfl) g2
  have h2 := i64_in w2
  obtain ⟨a3, rfl, rfl, rfl, w3⟩ := open_int Tryz.underlying23 (hval 3 23 v3 rfl rfl) g3
  have h3 := u64_in w3
  obtain ⟨a4, rfl, rfl, rfl, w4⟩ := open_int Tryz.underlying23 (hval 4 23 v4 rfl rfl) g4
  have h4 := u64_in w4
  obtain ⟨A0, n0, cap0, rfl⟩ := okWide_slice Tryz.underlying22 (hval 0 22 v0 rfl rfl)
  obtain ⟨zs0, rfl, h0, w0, row0⟩ := open_NdI g0 (fun x hx => hW'.lt x (by simp [hx]))
  unfold maxLen at h0
  clear hA0 hval0
  have hG := glo_of_laid hL
  refine (walk zs0 A0 cap0 h0 a1 a2 a3 a4 W w0 row0 h3 h4 hG).mono fun e W' ⟨he, hg⟩ => ?_
  subst he
  exact ⟨_, rfl, law_post laidOut (by kernel_rfl) (by kernel_rfl) Tryz.underlying4 rfl rfl hW' hg⟩

theorem over : Rows.seekFrozenRow.holds Tryz.pinned (OpenSpec.ofChange Rows.seekFrozenSpec) :=
  OpenClaim.holds_of_wide 6 Tryz.f6 rfl rfl rfl rfl rfl rfl rfl ⟨rfl, rfl, rfl, rfl, rfl⟩ rfl rfl rfl rfl rfl (by kernel_rfl) Tryz.func6 (by kernel_rfl)
    (of_decide_eq_true (by kernel_rfl)) (by unfold Func.isWrapper; first | (rw [if_pos (by decide +kernel)]; kernel_rfl) | (rw [if_neg (by decide +kernel)]; exact ⟨rfl, rfl⟩))
    (fun os started H enc _ => lifted os started H enc)

/-- THE STATEMENT. -/
theorem proved : Rows.SeekFrozenCardSaid :=
  Claim7.holds_tied_plain_at .later [] [.wider, .wider, .wider] true _ true
    over (fun _ h => by cases h) (by kernel_rfl) (fun _ h => by cases h) seekFrozen_row_tie rfl ⟨rfl, rfl⟩ (by kernel_rfl) rfl
    (fun f fn hf hfn => by
      obtain rfl : f = 6 := Option.some.inj ((show Tryz.prog.funcNamed "revenant/revenantlaw15.SeekFrozen" = some 6 by kernel_rfl).symm.trans hf) |>.symm
      obtain rfl : fn = Tryz.f6 := (Option.some.inj (Tryz.func6.symm.trans hfn)).symm
      exact ⟨by kernel_rfl, fun j t ht => by
        rw [Tryz.params6] at ht
        have hm : t ∈ [22, 23, 3, 23, 23] := by simpa using Array.mem_of_getElem? ht
        have hall : ([22, 23, 3, 23, 23].all fun u => !Tryz.prog.wantsStandIn u) = true := by kernel_rfl
        exact (show Tryz.prog.wantsStandIn t = false by simpa using List.all_eq_true.1 hall t hm)⟩)
    (by kernel_rfl)
#print axioms proved
end Go.Proofs.YtchcdfoncebemaaGreatDoor.seekFrozen
