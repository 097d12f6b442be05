/- SeekAlone: a search that goes on alone ends soon, finds the key if and only if a slot without a mark has it, and cuts off what it met that was marked, and nothing else: so the law answers true, for every input, where package link's three variables hold what the program's text lays in them (tied). -/
import Derived.Test.YtchcdfoncebemaaGreatDoorG8
import Derived.Test.YtchcdfoncebemaaGreatDoorCards
import Derived.SevenTiedAt
import Derived.Deep.CutBlock
import Derived.Deep.CutRange

namespace Go.Proofs.YtchcdfoncebemaaGreatDoor.seekAlone
open Go.ChangeShapes Go.WideShapes Go.ChangeAt Go.RowKit Go.Joins Go.Maps
set_option maxRecDepth 100000

/-- What is collected so far. -/
def Col (key : Int) (ns : List Nd) (j : Nat) (wl : List Nd) (past fnd : Bool) (val : Int) : Prop :=
  (past = false ∧ wl ++ wantN key (ns.drop j) = wantN key ns ∧ hitN key (ns.drop j) = hitN key ns ∧ fnd = false ∧ val = 0) ∨
  (past = true ∧ wl ++ ns.drop j = wantN key ns ∧ fnd = fdN key (hitN key ns) ∧ val = vlN (hitN key ns))
theorem drop_at {ns : List Nd} {j : Nat} (h : j < ns.length) {x : Nd} (hx : ns.getD j default = x) : ns.drop j = x :: ns.drop (j + 1) := by
  rw [List.drop_eq_getElem_cons h, ← hx]
  simp [h]
theorem Col.start (key : Int) (ns : List Nd) : Col key ns 0 [] false false 0 := .inl ⟨rfl, rfl, rfl, rfl, rfl⟩
theorem Col.done {key : Int} {ns : List Nd} {wl : List Nd} {past fnd : Bool} {val : Int} (h : Col key ns ns.length wl past fnd val) : wl = wantN key ns ∧ fnd = fdN key (hitN key ns) ∧ val = vlN (hitN key ns) := by
  rcases h with ⟨-, h1, h2, h3, h4⟩ | ⟨-, h1, h3, h4⟩
  · rw [List.drop_length] at h1 h2
    refine ⟨by rw [← h1]; simp [wantN], ?_, ?_⟩
    · rw [← h2]; exact h3
    · rw [← h2]; exact h4
  · rw [List.drop_length] at h1
    exact ⟨by rw [← h1]; simp, h3, h4⟩
theorem Col.skip {key : Int} {ns : List Nd} {j : Nat} {wl : List Nd} {fnd : Bool} {val : Int} {x : Nd} (h : Col key ns j wl false fnd val) (hj : j < ns.length) (hx : ns.getD j default = x) (hm : x.mb = true) : Col key ns (j + 1) wl false fnd val := by
  rcases h with ⟨-, h1, h2, h3, h4⟩ | ⟨h0, -⟩
  · rw [drop_at hj hx] at h1 h2
    simp only [wantN, hitN, hm, if_true] at h1 h2
    exact .inl ⟨rfl, h1, h2, h3, h4⟩
  · exact absurd h0 (by decide)
theorem Col.go {key : Int} {ns : List Nd} {j : Nat} {wl : List Nd} {fnd : Bool} {val : Int} {x : Nd} (h : Col key ns j wl false fnd val) (hj : j < ns.length) (hx : ns.getD j default = x) (hm : x.mb = false) (hk : x.key < key) : Col key ns (j + 1) (wl ++ [x]) false fnd val := by
  rcases h with ⟨-, h1, h2, h3, h4⟩ | ⟨h0, -⟩
  · rw [drop_at hj hx] at h1 h2
    simp only [wantN, hitN, hm, if_pos hk, Bool.false_eq_true, if_false] at h1 h2
    exact .inl ⟨rfl, by rw [← h1]; simp, h2, h3, h4⟩
  · exact absurd h0 (by decide)
theorem Col.hit {key : Int} {ns : List Nd} {j : Nat} {wl : List Nd} {fnd : Bool} {val : Int} {x : Nd} (h : Col key ns j wl false fnd val) (hj : j < ns.length) (hx : ns.getD j default = x) (hm : x.mb = false) (hk : ¬ x.key < key) : Col key ns (j + 1) (wl ++ [x]) true (x.key == key) x.val := by
  rcases h with ⟨-, h1, h2, h3, h4⟩ | ⟨h0, -⟩
  · rw [drop_at hj hx] at h1 h2
    simp only [wantN, hitN, hm, if_neg hk, Bool.false_eq_true, if_false] at h1 h2
    exact .inr ⟨rfl, by rw [← h1]; simp, by rw [← h2]; rfl, by rw [← h2]; rfl⟩
  · exact absurd h0 (by decide)
theorem Col.rest {key : Int} {ns : List Nd} {j : Nat} {wl : List Nd} {fnd : Bool} {val : Int} {x : Nd} (h : Col key ns j wl true fnd val) (hj : j < ns.length) (hx : ns.getD j default = x) : Col key ns (j + 1) (wl ++ [x]) true fnd val := by
  rcases h with ⟨h0, -⟩ | ⟨-, h1, h3, h4⟩
  · exact absurd h0 (by decide)
  · rw [drop_at hj hx] at h1
    exact .inr ⟨rfl, by rw [← h1]; simp, h3, h4⟩
/-- How it stands between its steps. -/
def Mid (W : World) (R : List Item) (sb : Nat) (key : Int) (B : Bs) (N : Nat) (lf : List Nd × Option Nd) (st : Int) (n : Nat) (w : World) : Prop :=
  ∃ (m : Nat) (G : Nat → Prop) (f : Plc → Int) (qc : Cnt) (T : Sm), m ≤ 130 + n ∧ SrchR W R sb 1 key true (mkS B G f qc m T.e T.r) st T w ∧
    ((st = 0 ∧ SmOk T ∧ ∃ ds ns mu, Al 1 key T f ds ns mu ∧ n + mu ≤ 5 * N + 6 ∧ Left key ds ns = lf) ∨ (st = 1 ∧ n ≤ 5 * N + 6 ∧ T.on = true ∧ AlEnd 1 key true T.L f lf))
theorem mid_step {W : World} {R : List Item} {sb : Nat} {key : Int} {B : Bs} {N : Nat} {lf : List Nd × Option Nd} {n : Nat} {w : World} (hg : Glo W) (hn : n ≤ 100000) (h : Mid W R sb key B N lf 0 n w) :
    Calls Tryz.prog 17 #[.pointer (some ⟨sb, 0, none⟩), .iface 33 (.pointer (some ⟨B.p, 0, none⟩))] w fun o w' => ∃ st, o = .returned (.int .i64 st) ∧ (st = 0 ∨ st = 1) ∧ Mid W R sb key B N lf st (n + 1) w' := by
  obtain ⟨m, G, f, qc, T, hm, hR, ⟨-, hT, ds, ns, mu, hA, hmu, hlf⟩ | ⟨h1, -⟩⟩ := h
  · refine (search_k hT hg (by unfold maxLen; omega) hR).mono ?_
    rintro o w1 ⟨rfl, G', hR'⟩
    have hm2 := mM_le T m
    have hW := hR.words
    rcases al_step (vs := true) hT hA with ⟨h1, ds', ns', mu', h2, h3, h4⟩ | ⟨h1, h2, h3⟩
    · refine ⟨_, rfl, .inl h1, mM T m, G', _, _, _, by omega, hR', .inl ⟨h1, search_ok (by unfold In64; omega) hT hW.u h1, ds', ns', mu', h2, by omega, h4.trans hlf⟩⟩
    · rw [hlf] at h3
      refine ⟨_, rfl, .inr h1, mM T m, G', _, _, _, by omega, hR', .inr ⟨h1, ?_, h2, h3⟩⟩
      rcases hA with ⟨-, -, -, -, h9⟩ | ⟨hon, -, -, h9⟩
      · omega
      · have : 1 ≤ mu := by
          rcases h9 with ⟨_, _, _, h⟩ | ⟨_, _, _, _, h⟩ | ⟨_, n9, r9, hns, _, h⟩
          · omega
          · omega
          · have hl : ns.length = r9.length + 1 := by rw [hns]; rfl
            rcases h with ⟨_, h⟩ | ⟨_, _, h⟩ | ⟨_, _, _, h⟩ | ⟨_, _, _, h⟩ | ⟨_, _, _, _, h⟩ | ⟨_, _, _, h⟩ | ⟨_, _, _, _, h⟩ <;> omega
        omega
  · exact absurd h1 (by decide)

set_option maxHeartbeats 12800000 in
theorem walk (xs : List NdI) (A : Option Addr) (cap : Nat) (hl0 : xs.length ≤ 2 ^ 63 - 1) (key : Int) (W : World)
    (hok : ∀ r ∈ xs, OkNdI r) (hrow : RowX encNdI 4 W A xs) (hg : Glo W) :
    Calls Tryz.prog 5 #[.slice A xs.length cap, .int .u64 key] W fun e w' => e = .returned (.bool true) ∧ Below W.heap.size W w' := by
  have HG := Lib.hid hg
  have HOK := Lib.hid hok
  have HROW := Lib.hid hrow
  have hl : xs.length ≤ 9223372036854775807 := by omega
  have HC := Lib.hid (show chkI 2 1000 3 1 1073741824 = 0 by decide)
  have hE := Env.start W
  clear hg hok hrow hl0
  go_enter Tryz.func5, Tryz.ntmps5
  go_wp2_with fail
  refine (awake15 _ HG.out).mono ?_
  rintro o w1 ⟨rfl, hb⟩
  replace hE := (hE.over hb).newU w1.heap.size rfl 29
  clear hb
  go_wp2_with fail
  generalize w1.heap.size = m at *
  refine (sorted_t A cap xs hl HOK.out HROW.out hE).mono ?_
  rintro o w2 ⟨g, c2, ns, rfl, hn40, hgood, hE2⟩
  replace hE2 := hE2.perm (List.Perm.swap _ _ _)
  have HN40 := Lib.hid hn40
  have HGOOD := Lib.hid hgood
  clear hE hn40 hgood
  go_wp2_with fail
  refine (lay_t 1 0 9 g c2 ns (by omega) (by omega) (by have := HN40.out; omega) (by simp) (fun F l v hv => hv.cellsK encN_len 1 rfl rfl) hE2).mono ?_
  rintro o w3 ⟨rfl, F3, hE3⟩
  have hwk : Wf (4, 0, 1) := by unfold Wf In64; simp
  have hW3 := words_lay (e := 9) (show (0 : Int) ≤ 0 ∧ (0 : Int) ≤ 1000 by omega) ns (4, 0, 1) false (setL [] (1, 0, 0) 9) HGOOD.out.1 hwk ((show Words (getL []) from Words.zero).setL (by unfold Wf In64; simp) (by simp [InU]))
  have hL3 := layL_length 0 9 ns (4, 0, 1) false (setL [] (1, 0, 0) 9)
  have hL4 := setL_length (1, 0, 0) 9 []
  have hL5 : (layL 0 9 ns (4, 0, 1) false (setL [] (1, 0, 0) 9)).length ≤ 122 := by have := HN40.out; simp at hL4; omega
  have hal := lay_al (k := 1) (key := key) HGOOD.out.2 HGOOD.out.1
  generalize layL 0 9 ns (4, 0, 1) false (setL [] (1, 0, 0) 9) = ml at *
  have HW3 := Lib.hid hW3
  have HL5 := Lib.hid hL5
  have HAL := Lib.hid hal
  clear hE2 hW3 hL3 hL4 hL5 hwk hal
  go_wp2_with fail
  refine (laid_t (by have := HL5.out; omega) HW3.out hE3).mono ?_
  rintro o w4 ⟨p, cc, n4, G4, rfl, hn4, hE4⟩
  have HN4 : Hid (n4 ≤ 122) := Lib.hid (by have := HL5.out; omega)
  clear hE3 hn4
  go_wp2_with fail
  refine (conf15 _).mono ?_
  rintro o w5 ⟨rfl, hb⟩
  replace hE4 := hE4.over hb
  clear hb
  go_wp2_with fail
  refine (newYes_c 2 1000 3 1 1073741824 HC.out hE4).mono ?_
  rintro o w6 ⟨c, q, F, rfl, hE6⟩
  clear hE4
  go_wp2_with fail
  refine (newSearch_l c 1 key true hE6).mono ?_
  rintro o w9 ⟨sb, rfl, hE9⟩
  clear hE6
  obtain ⟨N, hN⟩ : ∃ N, ns.length = N := ⟨_, rfl⟩
  rw [hN] at hE9 ⊢
  have hN40 : N ≤ 40 := by have := HN40.out; omega
  have HN := Lib.hid hN
  have hM : Mid W [refI m F3 ml, rowKI encN 4 (.slice g N c2) 87 ns] sb key ⟨c, q, p, cc, F, 2⟩ N (Left key [] ns) 0 0 w9 :=
    ⟨n4, G4, getL ml, ⟨0, (n4 : Int), 0, 0, 0⟩, T0s, by have := HN4.out; omega, SrchR.start (B := ⟨c, q, p, cc, F, 2⟩) hE9, .inl ⟨rfl, T0s_ok, [], ns, _, HAL.out, by rw [hN]; omega, rfl⟩⟩
  clear hE9 hN HN40
  have hw8 : wrap64 (8 * (N : Int)) = 8 * (N : Int) := w64 _ (by omega)
  have hw9 : wrap64 (8 * (N : Int) + 8) = 8 * (N : Int) + 8 := w64 _ (by omega)
  go_wp2_with fail
  go_loopw [9, 10] (fun sv nv wr => ∃ (st : Int) (n : Nat), sv = .int .i64 st ∧ nv = .int .i64 n ∧ (st = 0 ∨ st = 1) ∧ n ≤ 8 * N + 8 ∧ Mid W [refI m F3 ml, rowKI encN 4 (.slice g N c2) 87 ns] sb key ⟨c, q, p, cc, F, 2⟩ N (Left key [] ns) st n wr) (fun _ nv _ => 400 - (intOf nv).toNat)
  case atStart => exact ⟨0, 0, rfl, rfl, .inl rfl, by omega, hM⟩
  case round =>
    clear hM
    obtain ⟨st, n, rfl, rfl, hst, hn, hM⟩ := hrel
    rcases hst with rfl | rfl
    · have hlt : n < 8 * N + 8 := by
        obtain ⟨_, _, _, _, _, _, _, ⟨-, -, _, _, mu, -, hmu, -⟩ | ⟨h1, -⟩⟩ := hM
        · omega
        · exact absurd h1 (by decide)
      have hb1 : decide ((n : Int) < 8 * (N : Int) + 8) = true := by rw [decide_eq_true_iff]; omega
      have hst := Lib.hid (mid_step HG.out (by omega) hM)
      clear hM
      go_wp2_with fail
      refine hst.out.mono ?_
      rintro o w10 ⟨st, rfl, hst2, hM2⟩
      clear hst
      go_wp2_with fail
      exact ⟨⟨st, n + 1, rfl, by simp, hst2, by omega, hM2⟩, by simp [intOf]; omega⟩
    · obtain ⟨m2, G, f, qc, T, hm2, hR, ⟨h1, -⟩ | ⟨-, hn2, hon, hEnd⟩⟩ := hM
      · exact absurd h1 (by decide)
      obtain ⟨-, -, ⟨hoff, -⟩ | ⟨-, a, nx, wd, B1, B2, -, hE⟩⟩ := hR
      · rw [hon] at hoff; exact absurd hoff (by decide)
      have hb1 : decide ((n : Int) < 8 * (N : Int) + 8) = true := by rw [decide_eq_true_iff]; omega
      have HEND := Lib.hid hEnd
      have hgt : decide ((n : Int) > 128512) = false := by rw [decide_eq_false_iff_not]; omega
      have HALN : Hid (∀ v, Calls Tryz.prog 35 #[.agg #[.int .i64 2, .int .i64 1000, .int .i64 3, .int .i64 1, .int .i64 1073741824]] v fun e w' => e = .returned (.int .i64 128512) ∧ Below v.heap.size v w') := Lib.hid fun v => by
        have h9 := alone_any 2 1000 3 1 1073741824 v
        rwa [show aloneI 2 1000 3 1 1073741824 = 128512 by decide] at h9
      have HWF : Hid (Words f) := Lib.hid (hE.cell 6 rfl).words
      clear hEnd hon hw8 hw9
      go_wp2_with fail
      refine (conf15 _).mono ?_
      rintro o w10 ⟨rfl, hb⟩
      replace hE := hE.over hb
      clear hb
      go_wp2_with fail
      refine (HALN.out _).mono ?_
      rintro o w11 ⟨rfl, hb⟩
      replace hE := hE.over hb
      clear hb HALN
      go_wp2_with fail
      clear hb1 hgt hn hn2 HC
      obtain ⟨Te, hTe⟩ : ∃ L, T.L = L := ⟨_, rfl⟩
      rw [hTe] at hE HEND
      obtain ⟨⟨x9, y9, z9⟩, pc9, W9, X9, K9, V9, C9, fd9⟩ := Te
      clear hTe
      replace hE : Env W (boxI a (laneC c 0 key true nx 1 x9 y9 z9 W9 C9 X9 wd fd9 V9) :: B1 :: B2 :: LT (mkS ⟨c, q, p, cc, F, 2⟩ G f qc m2 T.e T.r) (boxI sb (srC c 1 key true (.pointer (some ⟨a, 0, none⟩))) :: [refI m F3 ml, rowKI encN 4 (.slice g N c2) 87 ns])) w11 := hE
      obtain ⟨X, hX⟩ : ∃ X, (boxI a (laneC c 0 key true nx 1 x9 y9 z9 W9 C9 X9 wd fd9 V9) :: B1 :: B2 :: LT (mkS ⟨c, q, p, cc, F, 2⟩ G f qc m2 T.e T.r) (boxI sb (srC c 1 key true (.pointer (some ⟨a, 0, none⟩))) :: [refI m F3 ml, rowKI encN 4 (.slice g N c2) 87 ns])) = X := ⟨_, rfl⟩
      have HX0 : X[0]? = some (boxI a (laneC c 0 key true nx 1 x9 y9 z9 W9 C9 X9 wd fd9 V9)) := by rw [← hX]; rfl
      have HX5 : X[5]? = some (wbox p cc) := by rw [← hX]; rfl
      have HX6 : X[6]? = some (cellI cc G f qc m2) := by rw [← hX]; rfl
      have HX7 : X[7]? = some (boxI sb (srC c 1 key true (.pointer (some ⟨a, 0, none⟩)))) := by rw [← hX]; rfl
      have HX9 : X[9]? = some (rowKI encN 4 (.slice g N c2) 87 ns) := by rw [← hX]; rfl
      rw [hX] at hE
      clear hX
      have hE1 := hE.addEmptyK (enc := encN) (k := 4) w11.heap.size rfl 87
      clear hE
      generalize w11.heap.size = Wb at *
      go_loopw [11, 12, 13, 14, 15] (fun wv fv pv vv iv wr => ∃ (j : Nat) (wl : List Nd) (A9 : Option Addr) (c9 : Nat) (past fnd : Bool) (val : Int), wv = .slice A9 wl.length c9 ∧ fv = .bool fnd ∧ pv = .bool past ∧ vv = .int .u64 val ∧ iv = .int .i64 j ∧ j ≤ N ∧ wl.length ≤ j ∧ Hid (Col key ns j wl past fnd val) ∧ Env W (rowKI encN 4 (.slice A9 wl.length c9) 87 wl :: X) wr) (fun _ _ _ _ iv _ => N - (intOf iv).toNat)
      case atStart => exact ⟨0, [], _, 0, false, false, 0, rfl, rfl, rfl, rfl, rfl, Nat.zero_le _, Nat.le_refl _, Lib.hid (Col.start _ _), hE1⟩
      case round =>
        clear hE1
        obtain ⟨j, wl, A9, c9, past, fnd, val, rfl, rfl, rfl, rfl, rfl, hj, hwl, hcol, hE⟩ := hrel
        by_cases hlt : j < N
        · have hb1 : decide ((j : Int) < (N : Int)) = true := by rw [decide_eq_true_iff]; omega
          have hlt1 : (j : Int) < (N : Int) := by omega
          obtain ⟨b, rfl⟩ := hE.atN 10 HN.out.symm HX9 (by omega)
          obtain ⟨x, hx⟩ : ∃ x, ns.getD j default = x := ⟨_, rfl⟩
          obtain ⟨a0, a1, a2, a3⟩ := hE.cellN 10 HN.out.symm HX9 (by rw [HN.out]; exact hlt) hx
          have HX := Lib.hid hx
          have hjn : j < ns.length := by rw [HN.out]; exact hlt
          have HJN := Lib.hid hjn
          clear hx hjn
          obtain ⟨xs9, xk, xv, xm⟩ := x
          dsimp only at a0 a1 a2 a3
          cases past
          · cases xm
            · have hE9 := hE.box wr.heap.size rfl (encN ⟨xs9, xk, xv, false⟩) 87
              obtain ⟨A8, c8, w8, hrun, hE10⟩ := hE9.appendK (xs := [(⟨xs9, xk, xv, false⟩ : Nd)]) encN_len (by decide) encN_one 1 rfl 22 22 Tryz.underlying22 rfl infoNd 1 (Blk.rowK (enc := encN) (k := 4) encN_len (l := [(⟨xs9, xk, xv, false⟩ : Nd)]) (show Blk 0 _ _ (flatK encN [(⟨xs9, xk, xv, false⟩ : Nd)]) from hE9.get 0 rfl)) (fun h => by cases h) (by unfold maxLen; simp; omega) (by simp; omega)
              have HRUN := Lib.hid hrun
              obtain ⟨d0, d1, d2, d3⟩ := hE10.cellN 11 HN.out.symm HX9 (by rw [HN.out]; exact hlt) HX.out
              dsimp only at d0 d1 d2 d3
              replace hE10 : Env W (rowKI encN 4 (.slice A8 (wl ++ [(⟨xs9, xk, xv, false⟩ : Nd)]).length c8) 87 (wl ++ [(⟨xs9, xk, xv, false⟩ : Nd)]) :: X) w8 := by
                have h9 := hE10.sub (.cons _ (List.Sublist.refl _))
                simpa using h9
              clear hrun hE9 hE
              by_cases hk : xk < key
              · have hk1 : decide (key ≤ xk) = false := by rw [decide_eq_false_iff_not]; omega
                have hk2 : decide (xk ≥ key) = false := hk1
                go_wp2_with (first | (at_builtin; refine wpList_append_run rfl _ _ 22 rfl HRUN.out rfl rfl ?_))
                exact ⟨⟨j + 1, _, A8, c8, false, fnd, val, by simp, rfl, rfl, rfl, by simp, by omega, by simp; omega, Lib.hid (hcol.out.go HJN.out HX.out rfl hk), hE10⟩, by simp [intOf]; omega⟩
              · have hk1 : decide (key ≤ xk) = true := by rw [decide_eq_true_iff]; omega
                have hk2 : decide (xk ≥ key) = true := hk1
                go_wp2_with (first | (at_builtin; refine wpList_append_run rfl _ _ 22 rfl HRUN.out rfl rfl ?_))
                exact ⟨⟨j + 1, _, A8, c8, true, xk == key, xv, by simp, rfl, rfl, rfl, by simp, by omega, by simp; omega, Lib.hid (hcol.out.hit HJN.out HX.out rfl hk), hE10⟩, by simp [intOf]; omega⟩
            · go_wp2_with fail
              exact ⟨⟨j + 1, wl, A9, c9, false, fnd, val, rfl, rfl, rfl, rfl, by simp, by omega, by omega, Lib.hid (hcol.out.skip HJN.out HX.out rfl), hE⟩, by simp [intOf]; omega⟩
          · have hE9 := hE.box wr.heap.size rfl (encN ⟨xs9, xk, xv, xm⟩) 87
            obtain ⟨A8, c8, w8, hrun, hE10⟩ := hE9.appendK (xs := [(⟨xs9, xk, xv, xm⟩ : Nd)]) encN_len (by decide) encN_one 1 rfl 22 22 Tryz.underlying22 rfl infoNd 1 (Blk.rowK (enc := encN) (k := 4) encN_len (l := [(⟨xs9, xk, xv, xm⟩ : Nd)]) (show Blk 0 _ _ (flatK encN [(⟨xs9, xk, xv, xm⟩ : Nd)]) from hE9.get 0 rfl)) (fun h => by cases h) (by unfold maxLen; simp; omega) (by simp; omega)
            have HRUN := Lib.hid hrun
            obtain ⟨d0, d1, d2, d3⟩ := hE10.cellN 11 HN.out.symm HX9 (by rw [HN.out]; exact hlt) HX.out
            dsimp only at d0 d1 d2 d3
            replace hE10 : Env W (rowKI encN 4 (.slice A8 (wl ++ [(⟨xs9, xk, xv, xm⟩ : Nd)]).length c8) 87 (wl ++ [(⟨xs9, xk, xv, xm⟩ : Nd)]) :: X) w8 := by
              have h9 := hE10.sub (.cons _ (List.Sublist.refl _))
              simpa using h9
            clear hrun hE9 hE
            go_wp2_with (first | (at_builtin; refine wpList_append_run rfl _ _ 22 rfl HRUN.out rfl rfl ?_))
            exact ⟨⟨j + 1, _, A8, c8, true, fnd, val, by simp, rfl, rfl, rfl, by simp, by omega, by simp; omega, Lib.hid (hcol.out.rest HJN.out HX.out), hE10⟩, by simp [intOf]; omega⟩
        · have hb1 : decide ((j : Int) < (N : Int)) = false := by rw [decide_eq_false_iff_not]; omega
          have hjN : j = ns.length := by rw [HN.out]; omega
          have hcol2 := hcol.out
          rw [hjN] at hcol2
          obtain ⟨hwl2, hfn, hvl⟩ := hcol2.done
          obtain ⟨hsl, hfd, hv9⟩ := HEND.out
          dsimp only at hfd hv9
          have hsl2 : Sl f (4, 0, 1) wl := by rw [hwl2]; exact hsl
          have hff : fnd = fd9 := by rw [hfn]; exact hfd.symm
          have hvv : fd9 = true → V9 = val := fun h => by rw [hvl]; exact hv9 rfl h
          have HSL := Lib.hid hsl2
          have HVV := Lib.hid hvv
          subst hff
          clear hjN hcol2 hwl2 hfn hvl hsl hfd hv9 hsl2 hvv hcol
          have HLINK : Hid (∀ (y : Int) (v : World), Calls Tryz.prog 38 #[.int .i64 y, .int .i64 0] v fun e w' => e = .returned (.agg #[.int .i64 5, .int .i64 y, .int .i64 7]) ∧ Below v.heap.size v w') := Lib.hid fun y v => by
            have := link_any y 0 v
            rwa [show wrap64 (7 + 0) = 7 from w64 _ (by omega)] at this
          have hwl40 : wl.length ≤ 40 := by omega
          clear hj hwl
          obtain ⟨M, hM⟩ : ∃ M, wl.length = M := ⟨_, rfl⟩
          have HM := Lib.hid hM
          rw [hM] at hE hwl40 ⊢
          clear hM
          have HLG : Hid (∀ v, Env W (rowKI encN 4 (.slice A9 M c9) 87 wl :: X) v → Calls Tryz.prog 14 #[.pointer (some ⟨sb, 0, none⟩)] v fun o w' => o = .returned (.pointer (some ⟨a, 0, none⟩)) ∧ w' = v) := Lib.hid fun v hv => lane_g (hv.get 8 HX7)
          have HFG : Hid (∀ v, Env W (rowKI encN 4 (.slice A9 M c9) 87 wl :: X) v → Calls Tryz.prog 21 #[.pointer (some ⟨a, 0, none⟩)] v fun o w' => o = .returned (.bool fnd) ∧ w' = v) := Lib.hid fun v hv => found_g (hv.get 1 HX0)
          have HVG : Hid (∀ v, Env W (rowKI encN 4 (.slice A9 M c9) 87 wl :: X) v → Calls Tryz.prog 26 #[.pointer (some ⟨a, 0, none⟩)] v fun o w' => o = .returned (.int .u64 V9) ∧ w' = v) := Lib.hid fun v hv => val_g (hv.get 1 HX0)
          cases fnd
          · go_wp2_with (first
              | (with_reducible refine (HLG.out _ hE).mono ?_; rintro o w7 ⟨rfl, rfl⟩)
              | (with_reducible refine (HFG.out _ hE).mono ?_; rintro o w7 ⟨rfl, rfl⟩))
            clear hb1 hlt
            refine (root_any 1 _).mono ?_
            rintro o w12 ⟨rfl, hb⟩
            replace hE := (hE.over hb).box w12.heap.size rfl [.int .i64 4, .int .i64 0, .int .i64 1] 58
            clear hb
            go_wp2_with fail
            generalize w12.heap.size = P at *
            go_loopw [17] (fun iv wr => ∃ (j : Nat) (x y z : Int), iv = .int .i64 j ∧ j ≤ M ∧ Hid (Sl f (x, y, z) (wl.drop j)) ∧ Hid (Wf (x, y, z)) ∧ Env W (boxI P [.int .i64 x, .int .i64 y, .int .i64 z] :: rowKI encN 4 (.slice A9 M c9) 87 wl :: X) wr) (fun iv _ => M - (intOf iv).toNat)
            case atStart => exact ⟨0, 4, 0, 1, rfl, Nat.zero_le _, HSL, Lib.hid (by unfold Wf In64; simp), hE⟩
            case round =>
              clear hE
              obtain ⟨j, x, y, z, rfl, hj, hsl, hwf, hE⟩ := hrel
              obtain ⟨u, hu⟩ : ∃ u, f (x, y, z) = u := ⟨_, rfl⟩
              have hui : InU u := by rw [← hu]; exact HWF.out.u _
              have HPK : Hid (∀ v, Env W (boxI P [.int .i64 x, .int .i64 y, .int .i64 z] :: rowKI encN 4 (.slice A9 M c9) 87 wl :: X) v → Calls Tryz.prog 36 #[.pointer (some ⟨p, 0, none⟩), .agg #[.int .i64 x, .int .i64 y, .int .i64 z]] v fun e v' => e = .returned (.int .u64 u) ∧ Below v.heap.size v v') := Lib.hid fun v hv => by
                rw [← hu]
                exact peek_w x y z hwf.out 7 8 hv HX5 HX6
              have r0 := hE.rule 0 rfl
              by_cases hlt : j < M
              · have hb1 : decide ((j : Int) < (M : Int)) = true := by rw [decide_eq_true_iff]; omega
                have hlt1 : (j : Int) < (M : Int) := by omega
                obtain ⟨b, rfl⟩ := hE.atN 1 HM.out.symm rfl (by omega)
                obtain ⟨n9, hn9⟩ : ∃ x, wl.getD j default = x := ⟨_, rfl⟩
                have hsl2 := hsl.out
                rw [drop_at (by rw [HM.out]; exact hlt) hn9] at hsl2
                obtain ⟨hs1, hs2⟩ := hsl2
                have HA : Hid (∀ v, Env W (boxI P [.int .i64 x, .int .i64 y, .int .i64 z] :: rowKI encN 4 (.slice (some ⟨b, 0, none⟩) M c9) 87 wl :: X) v → v.cell? ⟨b, j * 4, none⟩ = some (.int .i64 n9.s) ∧ v.cell? ⟨b, j * 4 + 1, none⟩ = some (.int .u64 n9.key) ∧ v.cell? ⟨b, j * 4 + 2, none⟩ = some (.int .u64 n9.val) ∧ v.cell? ⟨b, j * 4 + 3, none⟩ = some (.bool n9.mb)) := Lib.hid fun v hv => hv.cellN 1 HM.out.symm rfl (by rw [HM.out]; exact hlt) hn9
                have HSLOT : Hid (∀ v, Env W (boxI P [.int .i64 x, .int .i64 y, .int .i64 z] :: rowKI encN 4 (.slice (some ⟨b, 0, none⟩) M c9) 87 wl :: X) v → Calls Tryz.prog 37 #[.int .u64 u] v fun e v' => e = .returned (.int .i64 n9.s) ∧ Below v.heap.size v v') := Lib.hid fun v hv => by
                  rw [← hs1, hu]
                  exact slot_any u v (HG.out.keep' hv.below) hui.1 hui.2
                have HS2 := Lib.hid hs2
                have hs7 : 0 ≤ n9.s ∧ n9.s ≤ 8388607 := by rw [← hs1]; exact slotI_in _
                have HS7 := Lib.hid hs7
                clear hs1 hs2 hs7 hn9 hu hui hsl hwf
                obtain ⟨s9, k9, v9, m9⟩ := n9
                dsimp only at HA HSLOT HS2 HS7
                go_wp2_with fail
                refine (HPK.out _ hE).mono ?_
                rintro o w13 ⟨rfl, hb⟩
                replace hE := hE.over hb
                clear hb HPK r0
                go_wp2_with fail
                refine wp_text (S := (Env W (boxI P [.int .i64 x, .int .i64 y, .int .i64 z] :: rowKI encN 4 (.slice (some ⟨b, 0, none⟩) M c9) 87 wl :: X))) (by kernel_rfl) (by kernel_rfl) hE.drew (fun hT => ?_)
                have hT9 := Lib.hid hT
                clear hT
                repeat (first
                  | (refine text_value (v := ?_) hT9.out (by rfl) ?_ ?_; rotate_left; (focus (intro w5 hS; obtain ⟨a0, a1, a2, a3⟩ := HA.out _ hS; go_simp <;> with_reducible rfl)); (try simp only [Act.put, List.setIfInBounds_toArray, List.set_cons_zero, List.set_cons_succ]))
                  | (refine text_off hT9.out (by rfl) ?_; (try simp only [Act.put, List.setIfInBounds_toArray, List.set_cons_zero, List.set_cons_succ]))
                  | (refine text_call (v := ?_) (f := ?_) (args := ?_) hT9.out (by rfl) ?_ ?_ ?_; rotate_left 3; (focus (intro w5 hS; obtain ⟨a0, a1, a2, a3⟩ := HA.out _ hS; go_simp; constructor <;> with_reducible rfl)); (focus (intro w5 hS; (first | (with_reducible refine (HSLOT.out _ hS).mono ?_; rintro o w6 ⟨rfl, hb6⟩; constructor; with_reducible rfl; exact hS.over hb6)))); (try simp only [Act.put, List.setIfInBounds_toArray, List.set_cons_zero, List.set_cons_succ])))
                refine InText.nil fun w5 hS5 => ?_
                clear hT9
                clear hE HSLOT
                obtain ⟨a0, a1, a2, a3⟩ := HA.out _ hS5
                go_wp2_with fail
                refine (HLINK.out s9 _).mono ?_
                rintro o w14 ⟨rfl, hb⟩
                replace hS5 := hS5.over hb
                clear hb a0 a1 a2 a3
                have g0 := hS5.thaw 0 rfl 0 (by simp)
                have g1 := hS5.thaw 0 rfl 1 (by simp)
                have g2 := hS5.thaw 0 rfl 2 (by simp)
                have r0 := hS5.rule 0 rfl
                have hE7 := hS5.put3 0 rfl (.int .i64 5) (.int .i64 s9) (.int .i64 7)
                simp only [List.set_cons_zero] at hE7
                go_wp2_with fail
                exact ⟨⟨j + 1, 5, s9, 7, by simp, by omega, HS2, Lib.hid (wf_part HS7.out (by omega)), hE7⟩, by simp [intOf]; omega⟩
              · have hb1 : decide ((j : Int) < (M : Int)) = false := by rw [decide_eq_false_iff_not]; omega
                have hs0 : slotI u = 0 := by
                  have h9 := hsl.out
                  rw [List.drop_eq_nil_of_le (by rw [HM.out]; omega)] at h9
                  rw [← hu]
                  exact h9
                have HSLOT : Hid (∀ v, Env W (boxI P [.int .i64 x, .int .i64 y, .int .i64 z] :: rowKI encN 4 (.slice A9 M c9) 87 wl :: X) v → Calls Tryz.prog 37 #[.int .u64 u] v fun e v' => e = .returned (.int .i64 0) ∧ Below v.heap.size v v') := Lib.hid fun v hv => by
                  rw [← hs0]
                  exact slot_any u v (HG.out.keep' hv.below) hui.1 hui.2
                clear hs0 hu hui hsl hwf
                go_wp2_with fail
                refine (HPK.out _ hE).mono ?_
                rintro o w13 ⟨rfl, hb⟩
                replace hE := hE.over hb
                clear hb HPK r0
                go_wp2_with fail
                refine (HSLOT.out _ hE).mono ?_
                rintro o w14 ⟨rfl, hb⟩
                replace hE := hE.over hb
                go_wp2_with fail
                go_ret
                exact ⟨rfl, hE.below⟩
          · have hv0 := HVV.out rfl
            subst hv0
            go_wp2_with (first
              | (with_reducible refine (HLG.out _ hE).mono ?_; rintro o w7 ⟨rfl, rfl⟩)
              | (with_reducible refine (HFG.out _ hE).mono ?_; rintro o w7 ⟨rfl, rfl⟩)
              | (with_reducible refine (HVG.out _ hE).mono ?_; rintro o w7 ⟨rfl, rfl⟩))
            clear hb1 hlt
            refine (root_any 1 _).mono ?_
            rintro o w12 ⟨rfl, hb⟩
            replace hE := (hE.over hb).box w12.heap.size rfl [.int .i64 4, .int .i64 0, .int .i64 1] 58
            clear hb
            go_wp2_with fail
            generalize w12.heap.size = P at *
            go_loopw [17] (fun iv wr => ∃ (j : Nat) (x y z : Int), iv = .int .i64 j ∧ j ≤ M ∧ Hid (Sl f (x, y, z) (wl.drop j)) ∧ Hid (Wf (x, y, z)) ∧ Env W (boxI P [.int .i64 x, .int .i64 y, .int .i64 z] :: rowKI encN 4 (.slice A9 M c9) 87 wl :: X) wr) (fun iv _ => M - (intOf iv).toNat)
            case atStart => exact ⟨0, 4, 0, 1, rfl, Nat.zero_le _, HSL, Lib.hid (by unfold Wf In64; simp), hE⟩
            case round =>
              clear hE
              obtain ⟨j, x, y, z, rfl, hj, hsl, hwf, hE⟩ := hrel
              obtain ⟨u, hu⟩ : ∃ u, f (x, y, z) = u := ⟨_, rfl⟩
              have hui : InU u := by rw [← hu]; exact HWF.out.u _
              have HPK : Hid (∀ v, Env W (boxI P [.int .i64 x, .int .i64 y, .int .i64 z] :: rowKI encN 4 (.slice A9 M c9) 87 wl :: X) v → Calls Tryz.prog 36 #[.pointer (some ⟨p, 0, none⟩), .agg #[.int .i64 x, .int .i64 y, .int .i64 z]] v fun e v' => e = .returned (.int .u64 u) ∧ Below v.heap.size v v') := Lib.hid fun v hv => by
                rw [← hu]
                exact peek_w x y z hwf.out 7 8 hv HX5 HX6
              have r0 := hE.rule 0 rfl
              by_cases hlt : j < M
              · have hb1 : decide ((j : Int) < (M : Int)) = true := by rw [decide_eq_true_iff]; omega
                have hlt1 : (j : Int) < (M : Int) := by omega
                obtain ⟨b, rfl⟩ := hE.atN 1 HM.out.symm rfl (by omega)
                obtain ⟨n9, hn9⟩ : ∃ x, wl.getD j default = x := ⟨_, rfl⟩
                have hsl2 := hsl.out
                rw [drop_at (by rw [HM.out]; exact hlt) hn9] at hsl2
                obtain ⟨hs1, hs2⟩ := hsl2
                have HA : Hid (∀ v, Env W (boxI P [.int .i64 x, .int .i64 y, .int .i64 z] :: rowKI encN 4 (.slice (some ⟨b, 0, none⟩) M c9) 87 wl :: X) v → v.cell? ⟨b, j * 4, none⟩ = some (.int .i64 n9.s) ∧ v.cell? ⟨b, j * 4 + 1, none⟩ = some (.int .u64 n9.key) ∧ v.cell? ⟨b, j * 4 + 2, none⟩ = some (.int .u64 n9.val) ∧ v.cell? ⟨b, j * 4 + 3, none⟩ = some (.bool n9.mb)) := Lib.hid fun v hv => hv.cellN 1 HM.out.symm rfl (by rw [HM.out]; exact hlt) hn9
                have HSLOT : Hid (∀ v, Env W (boxI P [.int .i64 x, .int .i64 y, .int .i64 z] :: rowKI encN 4 (.slice (some ⟨b, 0, none⟩) M c9) 87 wl :: X) v → Calls Tryz.prog 37 #[.int .u64 u] v fun e v' => e = .returned (.int .i64 n9.s) ∧ Below v.heap.size v v') := Lib.hid fun v hv => by
                  rw [← hs1, hu]
                  exact slot_any u v (HG.out.keep' hv.below) hui.1 hui.2
                have HS2 := Lib.hid hs2
                have hs7 : 0 ≤ n9.s ∧ n9.s ≤ 8388607 := by rw [← hs1]; exact slotI_in _
                have HS7 := Lib.hid hs7
                clear hs1 hs2 hs7 hn9 hu hui hsl hwf
                obtain ⟨s9, k9, v9, m9⟩ := n9
                dsimp only at HA HSLOT HS2 HS7
                go_wp2_with fail
                refine (HPK.out _ hE).mono ?_
                rintro o w13 ⟨rfl, hb⟩
                replace hE := hE.over hb
                clear hb HPK r0
                go_wp2_with fail
                refine wp_text (S := (Env W (boxI P [.int .i64 x, .int .i64 y, .int .i64 z] :: rowKI encN 4 (.slice (some ⟨b, 0, none⟩) M c9) 87 wl :: X))) (by kernel_rfl) (by kernel_rfl) hE.drew (fun hT => ?_)
                have hT9 := Lib.hid hT
                clear hT
                repeat (first
                  | (refine text_value (v := ?_) hT9.out (by rfl) ?_ ?_; rotate_left; (focus (intro w5 hS; obtain ⟨a0, a1, a2, a3⟩ := HA.out _ hS; go_simp <;> with_reducible rfl)); (try simp only [Act.put, List.setIfInBounds_toArray, List.set_cons_zero, List.set_cons_succ]))
                  | (refine text_off hT9.out (by rfl) ?_; (try simp only [Act.put, List.setIfInBounds_toArray, List.set_cons_zero, List.set_cons_succ]))
                  | (refine text_call (v := ?_) (f := ?_) (args := ?_) hT9.out (by rfl) ?_ ?_ ?_; rotate_left 3; (focus (intro w5 hS; obtain ⟨a0, a1, a2, a3⟩ := HA.out _ hS; go_simp; constructor <;> with_reducible rfl)); (focus (intro w5 hS; (first | (with_reducible refine (HSLOT.out _ hS).mono ?_; rintro o w6 ⟨rfl, hb6⟩; constructor; with_reducible rfl; exact hS.over hb6)))); (try simp only [Act.put, List.setIfInBounds_toArray, List.set_cons_zero, List.set_cons_succ])))
                refine InText.nil fun w5 hS5 => ?_
                clear hT9
                clear hE HSLOT
                obtain ⟨a0, a1, a2, a3⟩ := HA.out _ hS5
                go_wp2_with fail
                refine (HLINK.out s9 _).mono ?_
                rintro o w14 ⟨rfl, hb⟩
                replace hS5 := hS5.over hb
                clear hb a0 a1 a2 a3
                have g0 := hS5.thaw 0 rfl 0 (by simp)
                have g1 := hS5.thaw 0 rfl 1 (by simp)
                have g2 := hS5.thaw 0 rfl 2 (by simp)
                have r0 := hS5.rule 0 rfl
                have hE7 := hS5.put3 0 rfl (.int .i64 5) (.int .i64 s9) (.int .i64 7)
                simp only [List.set_cons_zero] at hE7
                go_wp2_with fail
                exact ⟨⟨j + 1, 5, s9, 7, by simp, by omega, HS2, Lib.hid (wf_part HS7.out (by omega)), hE7⟩, by simp [intOf]; omega⟩
              · have hb1 : decide ((j : Int) < (M : Int)) = false := by rw [decide_eq_false_iff_not]; omega
                have hs0 : slotI u = 0 := by
                  have h9 := hsl.out
                  rw [List.drop_eq_nil_of_le (by rw [HM.out]; omega)] at h9
                  rw [← hu]
                  exact h9
                have HSLOT : Hid (∀ v, Env W (boxI P [.int .i64 x, .int .i64 y, .int .i64 z] :: rowKI encN 4 (.slice A9 M c9) 87 wl :: X) v → Calls Tryz.prog 37 #[.int .u64 u] v fun e v' => e = .returned (.int .i64 0) ∧ Below v.heap.size v v') := Lib.hid fun v hv => by
                  rw [← hs0]
                  exact slot_any u v (HG.out.keep' hv.below) hui.1 hui.2
                clear hs0 hu hui hsl hwf
                go_wp2_with fail
                refine (HPK.out _ hE).mono ?_
                rintro o w13 ⟨rfl, hb⟩
                replace hE := hE.over hb
                clear hb HPK r0
                go_wp2_with fail
                refine (HSLOT.out _ hE).mono ?_
                rintro o w14 ⟨rfl, hb⟩
                replace hE := hE.over hb
                go_wp2_with fail
                go_ret
                exact ⟨rfl, hE.below⟩

theorem own : ownKnob Tryz.prog.godebug = none := by kernel_rfl
theorem laidOut : laidOutB Tryz.prog = true := by kernel_rfl

set_option maxRecDepth 100000 in
theorem lifted (os : Os) (started : os.Started) (H : Type) (enc : TypeId × Value → H) :
    ReturnsInHanded {} Tryz.checked os 5 .any (fun w args => (Rows.seekAloneSpec.pre enc Tryz.prog Tryz.f5 [] false w args ∧ laidMetH Tryz.prog laid3 w) ∧ sizedMet enc Tryz.prog Tryz.f5 (OpenSpec.ofChange Rows.seekAloneSpec) false w args)
      (Rows.seekAloneSpec.post enc Tryz.prog Tryz.f5 false true false false) := by
  refine returnsInHanded_of_change_and (C := Tryz.checked) (X := fun w _ => laidMetH Tryz.prog laid3 w) (fun _ _ _ hh h => h.of_heap hh) own started (by kernel_rfl) Tryz.func5
    (ChangeSpec.witness_shaped (enc := enc) (C := Tryz.checked) (os := os) (X := fun w _ => laidMetH Tryz.prog laid3 w) false (World.doorLaid Tryz.prog 24 os) #[.slice none 0 0, .int .u64 0] 8 rfl (World.shaped_of_RefB (by kernel_rfl) (by kernel_rfl)) (by kernel_rfl) (by kernel_rfl) (by kernel_rfl) (door_met os _)) ?_
  intro W base args ds gs before hval0 hW _ _ hL _
  have hval : ∀ (j : Nat) t v, Tryz.f5.params[j]? = some t → args[j]? = some v → Value.okWide Tryz.prog W .any base t v := hval0
  have hW' := hW
  obtain ⟨p, q, hA0, hV, rfl, hfz, hnd⟩ := hW
  have hA : DataW.TrodAll enc Tryz.prog W 0 (fun _ => true) true Tryz.f5.params.toList args.toList ds p := hA0
  rw [Tryz.params5] at hA hval
  obtain ⟨v0, vs0, d0, ds0, p0, q0, hargs, rfl, rfl, g0, r0⟩ := trodAll_cons hA
  obtain ⟨v1, vs1, d1, ds1, p1, q1, rfl, rfl, rfl, g1, r1⟩ := trodAll_cons r0
  obtain ⟨rfl, rfl, rfl⟩ := trodAll_nil r1
  obtain rfl : args = #[v0, v1] := by cases args; simp_all
  obtain ⟨rfl, rfl⟩ := trodVars_none hV
  obtain ⟨a1, rfl, rfl, rfl, w1⟩ := open_int Tryz.underlying23 (hval 1 23 v1 rfl rfl) g1
  have h1 := u64_in w1
  obtain ⟨A0, n0, cap0, rfl⟩ := okWide_slice Tryz.underlying22 (hval 0 22 v0 rfl rfl)
  obtain ⟨zs0, rfl, h0, w0, row0⟩ := open_NdI g0 (fun x hx => hW'.lt x (by simp [hx]))
  unfold maxLen at h0
  clear hA0 hval0
  have hG := glo_of_laid hL
  refine (walk zs0 A0 cap0 h0 a1 W w0 row0 hG).mono fun e W' ⟨he, hg⟩ => ?_
  subst he
  exact ⟨_, rfl, law_post laidOut (by kernel_rfl) (by kernel_rfl) Tryz.underlying4 rfl rfl hW' hg⟩

theorem over : Rows.seekAloneRow.holds Tryz.pinned (OpenSpec.ofChange Rows.seekAloneSpec) :=
  OpenClaim.holds_of_wide 5 Tryz.f5 rfl rfl rfl rfl rfl rfl rfl ⟨rfl, rfl, rfl, rfl, rfl⟩ rfl rfl rfl rfl rfl (by kernel_rfl) Tryz.func5 (by kernel_rfl)
    (of_decide_eq_true (by kernel_rfl)) (by unfold Func.isWrapper; first | (rw [if_pos (by decide +kernel)]; kernel_rfl) | (rw [if_neg (by decide +kernel)]; exact ⟨rfl, rfl⟩))
    (fun os started H enc _ => lifted os started H enc)

/-- THE STATEMENT. -/
theorem proved : Rows.SeekAloneCardSaid :=
  Claim7.holds_tied_plain_at .later [] [.wider, .wider, .wider] true _ true
    over (fun _ h => by cases h) (by kernel_rfl) (fun _ h => by cases h) seekAlone_row_tie rfl ⟨rfl, rfl⟩ (by kernel_rfl) rfl
    (fun f fn hf hfn => by
      obtain rfl : f = 5 := Option.some.inj ((show Tryz.prog.funcNamed "revenant/revenantlaw15.SeekAlone" = some 5 by kernel_rfl).symm.trans hf) |>.symm
      obtain rfl : fn = Tryz.f5 := (Option.some.inj (Tryz.func5.symm.trans hfn)).symm
      exact ⟨by kernel_rfl, fun j t ht => by
        rw [Tryz.params5] at ht
        have hm : t ∈ [22, 23] := by simpa using Array.mem_of_getElem? ht
        have hall : ([22, 23].all fun u => !Tryz.prog.wantsStandIn u) = true := by kernel_rfl
        exact (show Tryz.prog.wantsStandIn t = false by simpa using List.all_eq_true.1 hall t hm)⟩)
    (by kernel_rfl)
#print axioms proved
end Go.Proofs.YtchcdfoncebemaaGreatDoor.seekAlone
