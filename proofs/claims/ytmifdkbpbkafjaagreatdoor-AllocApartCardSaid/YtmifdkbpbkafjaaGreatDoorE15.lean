/- AllocApart: no slot is held, queued, or in the pool twice at once, whoever goes on when; an Alloc is Full only if all slots are in some thread's hands: so the law answers true, for every input, where package link's three variables hold what the program's text lays in them (tied). -/
import Derived.Test.YtmifdkbpbkafjaaGreatDoorE14
import Derived.WalkKit
import Derived.ProofKit
import Derived.OpenShut
import Derived.Deep.SlicePairs
import Derived.Test.YtmifdkbpbkafjaaGreatDoorCards
import Derived.SevenTiedAt

/- Slices that come in, opened once: of numbers; of structs of two numbers. -/
namespace Go.Proofs.YtmifdkbpbkafjaaGreatDoor
open Go.RowKit Go.WideShapes Go.ChangeShapes Go.ChangeAt Go.Deep
set_option maxRecDepth 100000

section
variable {H : Type} {enc : TypeId × Value → H} {P : Program} {W : World}

theorem open_num_row {t e : TypeId} {k : IntKind} {A : Option Addr} {len cap : Nat} {d : DataW H} {p : List MemPlace} (ht : P.underlying t = some (.slice e)) (he : P.underlying e = some (.int k)) (hc : P.cellsOf e = 1)
    (h : DataW.Trod enc P W 0 (fun _ => true) true t (.slice A len cap) d p) (hlt : ∀ x ∈ p, x.block < W.heap.size) :
    ∃ zs : List Int, zs.length = len ∧ len ≤ maxLen ∧ (∀ n ∈ zs, (Lit.int k n).wf = true) ∧ (zs = [] ∨ ∃ b off, A = some ⟨b, off, none⟩ ∧ b < W.heap.size ∧ ∀ i, i < zs.length → W.cell? ⟨b, off + i, none⟩ = some (.int k (zs.getD i 0))) := by
  obtain ⟨fuel, hf⟩ := h
  rcases open_ints ht he hc hf with ⟨hcs, hx⟩ | ⟨a, len', cap', zs, hcs, _, hl, hm, hz, hx, hcell, hwz⟩
  · simp [Value.cells] at hcs
    obtain ⟨rfl, rfl, rfl⟩ := hcs
    exact ⟨[], rfl, Nat.zero_le _, by simp, Or.inl rfl⟩
  · simp [Value.cells] at hcs
    obtain ⟨rfl, rfl, rfl⟩ := hcs
    simp only [Prod.mk.injEq] at hx
    obtain ⟨rfl, rfl⟩ := hx
    simp only [if_true] at hz
    refine ⟨zs.take len, by simp; omega, by omega, fun n hn => hwz n (List.mem_of_mem_take hn), ?_⟩
    by_cases h0 : len = 0
    · left; subst h0; simp
    · right
      obtain ⟨b, off, spot⟩ := a
      have hspot : spot = none := by simpa [Addr.add] using World.cell?_spot (hcell 0 (by omega))
      subst hspot
      refine ⟨b, off, rfl, hlt (.cell b off) (MemPlace.mem_row.2 ⟨0, by omega, by simp⟩), fun i hi => ?_⟩
      have hi' : i < len := by simp at hi; omega
      have := hcell i (by omega)
      rw [add_plain] at this
      rw [this]
      simp [hi']

def numOf' : Value → Int | .int _ n => n | _ => 0

theorem open_pair_row {t e : TypeId} {k : IntKind} {f0 f1 : Field} {A : Option Addr} {len cap : Nat} {d : DataW H} {p : List MemPlace} (ht : P.underlying t = some (.slice e)) (he : P.underlying e = some (.struct #[f0, f1]))
    (ce : P.cellsOf e = 2) (o0 : f0.offset = 0) (o1 : f1.offset = 1) (c0 : P.cellsOf f0.type = 1) (c1 : P.cellsOf f1.type = 1) (u0 : P.underlying f0.type = some (.int k)) (u1 : P.underlying f1.type = some (.int k))
    (h : DataW.Trod enc P W 0 (fun _ => true) true t (.slice A len cap) d p) (hlt : ∀ x ∈ p, x.block < W.heap.size) :
    ∃ fs : List (Int × Int), fs.length = len ∧ len ≤ maxLen ∧ (∀ q ∈ fs, (Lit.int k q.1).wf = true ∧ (Lit.int k q.2).wf = true) ∧
      (fs = [] ∨ ∃ b off, A = some ⟨b, off, none⟩ ∧ b < W.heap.size ∧ ∀ i, i < fs.length → W.cell? ⟨b, off + i * 2, none⟩ = some (.int k (fs.getD i (0, 0)).1) ∧ W.cell? ⟨b, off + i * 2 + 1, none⟩ = some (.int k (fs.getD i (0, 0)).2)) := by
  obtain ⟨fuel, hf⟩ := h
  rcases open_slice_pairs ht he ce o0 o1 c0 c1 hf with ⟨hcs, hx⟩ | ⟨a, len', cap', m, n, V0, V1, D0, D1, P0, P1, hcs, _, hl, hm, hmm, hx, hall⟩
  · simp [Value.cells] at hcs
    obtain ⟨rfl, rfl, rfl⟩ := hcs
    exact ⟨[], rfl, Nat.zero_le _, by simp, Or.inl rfl⟩
  · simp [Value.cells] at hcs
    obtain ⟨rfl, rfl, rfl⟩ := hcs
    simp only [Prod.mk.injEq] at hx
    obtain ⟨rfl, rfl⟩ := hx
    simp only [if_true] at hmm
    subst hmm
    have each : ∀ i, i < m → (∃ x, V0 i = .int k x ∧ (Lit.int k x).wf = true) ∧ ∃ x, V1 i = .int k x ∧ (Lit.int k x).wf = true := fun i hi => by
      obtain ⟨_, _, h3, h4⟩ := hall i hi
      obtain ⟨x, e0, _, w0⟩ := DataW.trod_int u0 h3
      obtain ⟨y, e1, _, w1⟩ := DataW.trod_int u1 h4
      simp at e0 e1
      exact ⟨⟨x, e0, w0⟩, ⟨y, e1, w1⟩⟩
    refine ⟨(List.range len).map fun i => (numOf' (V0 i), numOf' (V1 i)), by simp, by omega, ?_, ?_⟩
    · intro q hq
      obtain ⟨i, hi, rfl⟩ := List.mem_map.1 hq
      have hi' := List.mem_range.1 hi
      obtain ⟨⟨x, e0, w0⟩, ⟨y, e1, w1⟩⟩ := each i (by omega)
      rw [e0, e1]
      exact ⟨w0, w1⟩
    · by_cases h0 : len = 0
      · left; subst h0; simp
      · right
        obtain ⟨b, off, spot⟩ := a
        have hspot : spot = none := by simpa [Addr.add] using World.cell?_spot (hall 0 (by omega)).1
        subst hspot
        refine ⟨b, off, rfl, hlt (.cell b off) (List.mem_append_left _ (MemPlace.mem_row.2 ⟨0, by omega, by simp⟩)), fun i hi => ?_⟩
        have hi' : i < len := by simpa using hi
        obtain ⟨h1, h2, _, _⟩ := hall i (by omega)
        obtain ⟨⟨x, e0, _⟩, ⟨y, e1, _⟩⟩ := each i (by omega)
        rw [add_plain] at h1 h2
        rw [Nat.add_assoc, h1, h2, e0, e1]
        simp [hi', e0, e1, numOf']
end
end Go.Proofs.YtmifdkbpbkafjaaGreatDoor

namespace Go.Proofs.YtmifdkbpbkafjaaGreatDoor.allocApart
open Go.ChangeShapes Go.WideShapes Go.ChangeAt Go.RowKit Go.Joins Go.Maps
set_option maxRecDepth 100000

set_option maxHeartbeats 6400000 in
theorem walk (k s b h l : Int) (rs : List Rw) (A : Option Addr) (cap : Nat) (hl0 : rs.length ≤ 2 ^ 63 - 1) (zs : List Int) (A2 : Option Addr) (cap2 : Nat) (hz0 : zs.length ≤ 2 ^ 63 - 1) (W : World) (hok : ∀ r ∈ rs, OkRw W r) (hrow : RowX encRw 1 W A rs)
    (hrow2 : zs = [] ∨ ∃ b off, A2 = some ⟨b, off, none⟩ ∧ b < W.heap.size ∧ ∀ i, i < zs.length → W.cell? ⟨b, off + i, none⟩ = some (.int .i64 (zs.getD i 0))) (hg : Glo W) :
    Calls Tryz.prog 4 #[.agg #[.int .i64 k, .int .i64 s, .int .i64 b, .int .i64 h, .int .i64 l], .slice A rs.length cap, .slice A2 zs.length cap2] W fun e w' => e = .returned (.bool true) ∧ Below W.heap.size W w' := by
  have hE := (Env.start W).box W.heap.size rfl [.int .i64 k, .int .i64 s, .int .i64 b, .int .i64 h, .int .i64 l] 23
  have HG := Lib.hid hg
  have HROW := Lib.hid hrow
  have HROW2 := Lib.hid hrow2
  have HOK := Lib.hid hok
  have hl : rs.length ≤ 9223372036854775807 := by omega
  have hz : zs.length ≤ 9223372036854775807 := by omega
  have hlen9 : ∀ r ∈ rs, r.ds.length ≤ 9223372036854775807 := fun r hr => by have := (hok r hr).1; unfold maxLen at this; omega
  have HLEN := Lib.hid hlen9
  clear hg hrow hrow2 hok hl0 hz0 hlen9
  go_enter Tryz.func4, Tryz.ntmps4
  go_wp2_with fail
  refine (awake14 _ (HG.out.keep' hE.below)).mono ?_
  rintro o w1 ⟨rfl, hb⟩
  replace hE := hE.over hb
  clear hb
  generalize hX : W.heap.size = X at *
  have HX := Lib.hid hX
  clear hX
  have r0 := hE.rule 0 rfl
  go_wp2_with fail
  refine (great_t k s b h l A A2 cap cap2 zs.length rs hl hz HROW.out HLEN.out _ hE.below).mono ?_
  rintro o w2 ⟨hb, rfl | ⟨rfl, hc, hr1, hr4, hz4, hd40⟩⟩
  · replace hE := hE.over hb
    go_wp2_with fail
    go_ret
    exact ⟨rfl, hE.below⟩
  replace hE := hE.over hb
  clear hb r0
  have HC := Lib.hid hc
  have HR1 := Lib.hid hr1
  have HR4 := Lib.hid hr4
  have HD := Lib.hid hd40
  have hsm := smI_in s
  obtain ⟨n, hn⟩ : ∃ n, smI s = n := ⟨_, rfl⟩
  rw [hn] at hsm
  have HNS := Lib.hid hn
  have hCk : COk ⟨k, n, b, h, l⟩ := by
    obtain ⟨-, h1, h2, -⟩ := chk_yes hc
    exact ⟨by show 1 ≤ n ∧ n ≤ 8388607; omega, by show 1 ≤ l ∧ l ≤ 1099511627775; omega⟩
  have hc2 : chkI k n b h l = 0 := by
    obtain ⟨hk1, h1, h2, h3⟩ := chk_yes hc
    exact chk_zero hk1 ⟨by omega, h2, h3⟩
  have HC2 := Lib.hid hc2
  have HCK := Lib.hid hCk
  have hR : ∀ i, i < rs.length → OkR W (rs.getD i default) := fun i hi => by
    have hm : rs.getD i default ∈ rs := by rw [List.getD_eq_getElem?_getD, List.getElem?_eq_getElem hi]; exact List.getElem_mem hi
    obtain ⟨h1, h2, h3⟩ := HOK.out _ hm
    exact ⟨h3, hd40 i hi, h2⟩
  have HR := Lib.hid hR
  clear hc hc2 hn hr1 hr4 hd40 hCk hR
  have r0 := hE.rule 0 rfl
  go_wp2_with fail
  refine (small_t k s b h l _).mono ?_
  rintro o w9 ⟨rfl, hb⟩
  rw [HNS.out]
  replace hE := (hE.over hb).box w9.heap.size rfl [.int .i64 k, .int .i64 n, .int .i64 b, .int .i64 h, .int .i64 l] 23
  clear hb r0
  go_wp2_with fail
  generalize w9.alloc _ = w10 at *
  generalize w9.heap.size = Y at *
  refine (new_w hE).mono ?_
  rintro o w3 ⟨p, cc, rfl, hE3, hb⟩
  clear hb hE
  go_wp2_with fail
  refine (start_w 0 1 (by decide) (by unfold maxLen; omega) hE3 rfl rfl).mono ?_
  rintro o w4 ⟨rfl, F4, hE4⟩
  simp only [List.set_cons_succ, List.set_cons_zero] at hE4
  clear hE3
  generalize ({ l := _, s := _, w := _, f := _, a := _ } : Cnt) = q4 at hE4
  replace hE4 := hE4.newU w4.heap.size rfl 34
  go_wp2_with fail
  refine (epoch13_any _).mono ?_
  rintro o w5 ⟨rfl, hb⟩
  replace hE4 := hE4.over hb
  clear hb
  generalize w4.heap.size = m at *
  go_wp2_with fail
  refine (refSet_any 1 0 0 1 (by simp) (hE4.ref 0 rfl)).mono ?_
  rintro o w6 ⟨rfl, F6, hU, hs⟩
  replace hE4 := hE4.turnU 0 rfl hU hs
  simp only [List.set_cons_zero] at hE4
  clear hU hs
  have r0 := hE4.rule 3 rfl
  go_wp2_with fail
  refine (threads_t k n b h l A cap rs HR4.out HROW.out HC2.out hE4).mono ?_
  rintro o w7 ⟨g, cp, ps, rfl, hpl, hps, hE7⟩
  have hf0 : upd (fun _ => 0) (1, 0, 0) 1 = getL ml0 := by
    funext x
    show _ = getL [((1, 0, 0), 1)] x
    unfold upd
    simp only [getL]
    by_cases hx : x = (1, 0, 0)
    · rw [if_pos hx, if_pos hx.symm]
    · rw [if_neg hx, if_neg (fun e => hx e.symm)]
  rw [hf0] at hE7
  have hE8 : Env W (EL ⟨k, n, b, h, l⟩ (.slice (some ⟨g, 0, none⟩) rs.length cp) p cc m ⟨ps, F4, F6, q4, 0 + 1, ml0⟩ [boxI Y [.int .i64 k, .int .i64 n, .int .i64 b, .int .i64 h, .int .i64 l], boxI X [.int .i64 k, .int .i64 s, .int .i64 b, .int .i64 h, .int .i64 l]]) w7 := by
    refine hE7.perm (perm_of fun z => ?_)
    simp only [EL, List.count_cons, List.count_append, List.count_nil, ml0]
    omega
  have hgo := start_ok (w0 := W) (S := ⟨ps, F4, F6, q4, 0 + 1, ml0⟩) HCK.out HR.out hpl hps rfl (Nat.le_refl 1)
  have hap := Ap.start (S := ⟨ps, F4, F6, q4, 0 + 1, ml0⟩) HCK.out rfl hpl hps
  have HAP := Lib.hid hap
  clear hE7 hE4 hps hpl r0 hf0 hap
  have HGO := Lib.hid hgo
  clear hgo
  go_wp2_with fail
  go_loopw [11] (fun iv wr => ∃ (j : Nat) (S : GS) (P : List Int), j ≤ zs.length ∧ iv = .int .i64 j ∧ GOk ⟨k, n, b, h, l⟩ rs (40 + j) S ∧ Ap ⟨k, n, b, h, l⟩ S P j ∧ Env W (EL ⟨k, n, b, h, l⟩ (.slice (some ⟨g, 0, none⟩) rs.length cp) p cc m S [boxI Y [.int .i64 k, .int .i64 n, .int .i64 b, .int .i64 h, .int .i64 l], boxI X [.int .i64 k, .int .i64 s, .int .i64 b, .int .i64 h, .int .i64 l]]) wr) (fun iv _ => zs.length - (intOf iv).toNat)
  case atStart => exact ⟨0, _, [], Nat.zero_le _, rfl, HGO.out, HAP.out, hE8⟩
  case round =>
    clear hE8 HGO HAP
    obtain ⟨j, S, P, hj, rfl, hgo, hap, hE⟩ := hrel
    by_cases hlt : j < zs.length
    · have hb1 : decide ((j : Int) < (zs.length : Int)) = true := by simp; omega
      rcases HROW2.out with h0 | ⟨bb, off, rfl, hbl, hc⟩
      · rw [h0] at hlt; simp at hlt
      obtain ⟨z, hz9⟩ : ∃ z, zs.getD j 0 = z := ⟨_, rfl⟩
      have hd0 : wr.cell? ⟨bb, off + j, none⟩ = some (.int .i64 z) := by rw [hE.below.cell (p := ⟨bb, off + j, none⟩) (by rw [HX.out]; exact hbl), hc j hlt, hz9]
      have hr1 := HR1.out
      have hr4 := HR4.out
      have hwl : IntKind.u64.wrap (rs.length : Int) = (rs.length : Int) := by rw [IntKind.wrap_u64]; omega
      obtain ⟨t, ht, htl⟩ : ∃ t : Nat, (IntKind.u64.wrap z).tmod (rs.length : Int) = (t : Int) ∧ t < rs.length := by
        have h0 : 0 ≤ IntKind.u64.wrap z := by rw [IntKind.wrap_u64]; omega
        refine ⟨((IntKind.u64.wrap z) % (rs.length : Int)).toNat, ?_, ?_⟩
        · rw [Int.tmod_eq_emod_of_nonneg h0, Int.toNat_of_nonneg (Int.emod_nonneg _ (by omega))]
        · have := Int.emod_lt_of_pos (IntKind.u64.wrap z) (show 0 < (rs.length : Int) by omega)
          have := Int.emod_nonneg (IntKind.u64.wrap z) (show (rs.length : Int) ≠ 0 by omega)
          omega
      obtain ⟨q, hq, hQ⟩ := hgo.ps t htl
      have htq : wr.cell? ⟨g, t, none⟩ = some (.pointer (some ⟨q.X.thr, 0, none⟩)) := by
        have := hE.tpAt 0 rfl t (by rw [List.length_map, hgo.len]; exact htl)
        rw [this]
        simp [List.getD_eq_getElem?_getD, hq]
      have htl' : (t : Int) < (rs.length : Int) := by omega
      have hnz : (rs.length : Int) ≠ 0 := by omega
      go_upto_region 15 with fail
      have hj9 : j ≤ 400 := by omega
      have hsl : S.ps.length = rs.length := hgo.len
      clear hd0 hc hz9 htq ht
      go_wp2_with fail
      refine (step_pk HG.out HCK.out HR.out hgo (by omega) htl hq hE).mono ?_
      rintro o w11 ⟨rfl, S', q', hps', hthr, -, hT', hml', hgo', hE'⟩
      have hq' : S'.ps[t]? = some q' := by rw [hps']; simp [hsl, htl]
      obtain ⟨P', hap'⟩ := hap.step HCK.out hgo (by omega) htl hq hps' hT' hml'
      clear hE hQ hap hps' hT' hml'
      obtain ⟨a1, a2, a3, a4⟩ := hap'.facts HCK.out hgo'.f
      have rY := hE'.boxE (n := Y) (vs := [.int .i64 k, .int .i64 n, .int .i64 b, .int .i64 h, .int .i64 l]) (by simp)
      have HAP := Lib.hid hap'
      have HA4 := Lib.hid a4
      have hn40 : n ≤ 40 := hsm.2
      go_wp2_with fail
      refine (apart_t HG.out HCK.out hn40 hgo' (by omega) hr4 HAP.out.apt.path a1 a2 a3 hE').mono ?_
      rintro o w12 ⟨rfl, hE6⟩
      clear hE' rY a1 a2 a4
      obtain ⟨N, hN⟩ : ∃ N, (S'.ps.flatMap hqP ++ P').length = N := ⟨_, rfl⟩
      rw [hN] at a3 HA4
      rw [hN]
      clear hap' hN
      have hsl' : S'.ps.length = rs.length := hgo'.len
      go_wp2_with fail
      go_loopw [13, 15] (fun nv kv v => ∃ (kk : Nat), kk ≤ rs.length ∧ kv = .int .i64 (kk : Int) ∧ nv = .int .i64 ((N + ((S'.ps.take kk).flatMap rsP).length : Nat) : Int) ∧ Env W (EL ⟨k, n, b, h, l⟩ (.slice (some ⟨g, 0, none⟩) rs.length cp) p cc m S' [boxI Y [.int .i64 k, .int .i64 n, .int .i64 b, .int .i64 h, .int .i64 l], boxI X [.int .i64 k, .int .i64 s, .int .i64 b, .int .i64 h, .int .i64 l]]) v) (fun _ kv _ => rs.length - (intOf kv).toNat)
      case atStart => exact ⟨0, Nat.zero_le _, rfl, by simp, hE6⟩
      case round =>
        clear hE6
        obtain ⟨kk, hkk, rfl, rfl, hE⟩ := hrel
        by_cases hlt2 : kk < rs.length
        · have hb3 : decide ((kk : Int) < (rs.length : Int)) = true := by simp; omega
          have hlt2i : (kk : Int) < (rs.length : Int) := by omega
          obtain ⟨q9, hq9, hQ9⟩ := hgo'.ps kk hlt2
          have htq : wr.cell? ⟨g, kk, none⟩ = some (.pointer (some ⟨q9.X.thr, 0, none⟩)) := by
            have := hE.tpAt 0 rfl kk (by rw [List.length_map, hsl']; exact hlt2)
            rw [this]
            simp [List.getD_eq_getElem?_getD, hq9]
          have r7 := hE.thrE hq9
          unfold thv at r7
          have hNb : N + ((S'.ps.take kk).flatMap rsP).length ≤ 44 := by
            have h1 := flat_take_len rsP S'.ps kk
            have h2 := HA4.out
            have h3 := (circ_in (f := getL S'.ml) HCK.out.s.1 (hgo'.f.u _).1).2
            have h3' : circ ⟨k, n, b, h, l⟩ (getL S'.ml) ≤ n := h3
            omega
          obtain ⟨M, hM⟩ : ∃ M, N + ((S'.ps.take kk).flatMap rsP).length = M := ⟨_, rfl⟩
          rw [hM] at hNb ⊢
          by_cases h3 : q9.T.pc = 3
          · have hb4 : (((q9.T.pc : Nat) : Int) == 3) = true := by simp [h3]
            have hln : ((S'.ps.take (kk + 1)).flatMap rsP).length = ((S'.ps.take kk).flatMap rsP).length + 1 := by
              rw [take_flat rsP hq9, List.length_append]
              simp [rsP, h3]
            have HLN := Lib.hid hln
            have HM := Lib.hid hM
            clear h3 hln hM
            go_wp2_with fail
            exact ⟨⟨kk + 1, by omega, by simp, by rw [HLN.out, ← Nat.add_assoc, HM.out]; simp, hE⟩, by simp [intOf]; omega⟩
          · have hb4 : (((q9.T.pc : Nat) : Int) == 3) = false := by simp; omega
            have hln : ((S'.ps.take (kk + 1)).flatMap rsP).length = ((S'.ps.take kk).flatMap rsP).length := by
              rw [take_flat rsP hq9, List.length_append]
              simp [rsP, h3]
            have HLN := Lib.hid hln
            have HM := Lib.hid hM
            clear h3 hln hM
            go_wp2_with fail
            exact ⟨⟨kk + 1, by omega, by simp, by rw [HLN.out, HM.out], hE⟩, by simp [intOf]; omega⟩
        · have hb3 : decide ((kk : Int) < (rs.length : Int)) = false := by simp; omega
          have hNN : ((N + ((S'.ps.take kk).flatMap rsP).length : Nat) : Int) = circ ⟨k, n, b, h, l⟩ (getL S'.ml) := by
            rw [← HA4.out, List.take_of_length_le (by omega)]
            omega
          rw [hNN]
          have r7 := hE.thrE hq'
          unfold thv at r7
          rw [hthr] at r7
          have rY := hE.boxE (n := Y) (vs := [.int .i64 k, .int .i64 n, .int .i64 b, .int .i64 h, .int .i64 l]) (by simp)
          clear hNN
          obtain ⟨M, hM⟩ : ∃ M, circ ⟨k, n, b, h, l⟩ (getL S'.ml) = M := ⟨_, rfl⟩
          rw [hM]
          rcases hfl : q'.T.full with _ | _
          · rw [hfl] at r7
            go_wp2_with fail
            exact ⟨⟨j + 1, S', P', by omega, by simp, hgo', HAP.out, hE⟩, by simp [intOf]; omega⟩
          · obtain ⟨t1, t2⟩ := HAP.out.told hq' hfl
            have hMn : M = n := by rw [← hM]; exact t1
            subst hMn
            rw [hfl] at r7
            clear hM t1
            go_wp2_with fail
            refine (queue_c (hE.coreE hq')).mono ?_
            rintro o w13 ⟨rfl, rfl⟩
            go_wp2_with fail
            refine (len_any (hE.queE hq')).mono ?_
            rintro o w14 ⟨rfl, hb⟩
            replace hE := hE.over hb
            clear hb r7 rY
            rw [t2]
            go_wp2_with fail
            exact ⟨⟨j + 1, S', P', by omega, by simp, hgo', HAP.out, hE⟩, by simp [intOf]; omega⟩
    · have hb1 : decide ((j : Int) < (zs.length : Int)) = false := by simp; omega
      go_wp2_with fail
      go_ret
      exact ⟨rfl, hE.below⟩

theorem cellsInt : Tryz.prog.cellsOf 3 = 1 := by kernel_rfl

theorem own : ownKnob Tryz.prog.godebug = none := by kernel_rfl
theorem laidOut : laidOutB Tryz.prog = true := by kernel_rfl

set_option maxRecDepth 100000 in
theorem lifted (os : Os) (started : os.Started) (H : Type) (enc : TypeId × Value → H) :
    ReturnsInHanded {} Tryz.checked os 4 .any (fun w args => (Rows.allocApartSpec.pre enc Tryz.prog Tryz.f4 [] false w args ∧ laidMetH Tryz.prog laid3 w) ∧ sizedMet enc Tryz.prog Tryz.f4 (OpenSpec.ofChange Rows.allocApartSpec) false w args)
      (Rows.allocApartSpec.post enc Tryz.prog Tryz.f4 false true false false) := by
  refine returnsInHanded_of_change_and (C := Tryz.checked) (X := fun w _ => laidMetH Tryz.prog laid3 w) (fun _ _ _ hh h => h.of_heap hh) own started (by kernel_rfl) Tryz.func4
    (ChangeSpec.witness_shaped (enc := enc) (C := Tryz.checked) (os := os) (X := fun w _ => laidMetH Tryz.prog laid3 w) false (World.doorLaid Tryz.prog 24 os) #[.agg #[.int .i64 0, .int .i64 0, .int .i64 0, .int .i64 0, .int .i64 0], .slice none 0 0, .slice none 0 0] 8 rfl (World.shaped_of_RefB (by kernel_rfl) (by kernel_rfl)) (by kernel_rfl) (by kernel_rfl) (by kernel_rfl) (door_met os _)) ?_
  intro W base args ds gs before hval0 hW _ _ hL _
  have hval : ∀ (j : Nat) t v, Tryz.f4.params[j]? = some t → args[j]? = some v → Value.okWide Tryz.prog W .any base t v := hval0
  have hW' := hW
  obtain ⟨p, q, hA0, hV, rfl, hfz, hnd⟩ := hW
  have hA : DataW.TrodAll enc Tryz.prog W 0 (fun _ => true) true Tryz.f4.params.toList args.toList ds p := hA0
  rw [Tryz.params4] at hA hval
  obtain ⟨v0, vs0, d0, ds0, p0, q0, hargs, rfl, rfl, g0, r0⟩ := trodAll_cons hA
  obtain ⟨v1, vs1, d1, ds1, p1, q1, rfl, rfl, rfl, g1, r1⟩ := trodAll_cons r0
  obtain ⟨v2, vs2, d2, ds2, p2, q2, rfl, rfl, rfl, g2, r2⟩ := trodAll_cons r1
  obtain ⟨rfl, rfl, rfl⟩ := trodAll_nil r2
  obtain rfl : args = #[v0, v1, v2] := by cases args; simp_all
  obtain ⟨rfl, rfl⟩ := trodVars_none hV
  obtain ⟨cs0, rfl, z0, H0⟩ := open_flat (ss := [.num .i64, .num .i64, .num .i64, .num .i64, .num .i64]) Tryz.underlying23 (by kernel_rfl) (by kernel_rfl) ⟨Tryz.underlying3, Tryz.underlying3, Tryz.underlying3, Tryz.underlying3, Tryz.underlying3, trivial⟩ (hval 0 23 v0 rfl rfl) g0
  obtain ⟨l0, rfl, z0⟩ := list_of z0
  obtain ⟨x0_0, x0_1, x0_2, x0_3, x0_4, rfl⟩ := list5 z0
  obtain ⟨_, e, a0_0, rfl, w0_0⟩ := H0 0 _ rfl
  obtain rfl : x0_0 = .int .i64 a0_0 := by simpa using e
  clear e
  have h0_0 := i64_in w0_0
  obtain ⟨_, e, a0_1, rfl, w0_1⟩ := H0 1 _ rfl
  obtain rfl : x0_1 = .int .i64 a0_1 := by simpa using e
  clear e
  have h0_1 := i64_in w0_1
  obtain ⟨_, e, a0_2, rfl, w0_2⟩ := H0 2 _ rfl
  obtain rfl : x0_2 = .int .i64 a0_2 := by simpa using e
  clear e
  have h0_2 := i64_in w0_2
  obtain ⟨_, e, a0_3, rfl, w0_3⟩ := H0 3 _ rfl
  obtain rfl : x0_3 = .int .i64 a0_3 := by simpa using e
  clear e
  have h0_3 := i64_in w0_3
  obtain ⟨_, e, a0_4, rfl, w0_4⟩ := H0 4 _ rfl
  obtain rfl : x0_4 = .int .i64 a0_4 := by simpa using e
  clear e
  have h0_4 := i64_in w0_4
  clear H0
  obtain ⟨A1, n1, cap1, rfl⟩ := okWide_slice Tryz.underlying24 (hval 1 24 v1 rfl rfl)
  obtain ⟨zs1, rfl, h1, w1, row1⟩ := open_Rws g1 (fun x hx => hW'.lt x (by simp [hx]))
  unfold maxLen at h1
  obtain ⟨A2, n2, cap2, rfl⟩ := okWide_slice Tryz.underlying25 (hval 2 25 v2 rfl rfl)
  obtain ⟨zs2, rfl, h2, w2, row2⟩ := open_num_row Tryz.underlying25 Tryz.underlying3 cellsInt g2 (fun x hx => hW'.lt x (by simp [hx]))
  unfold maxLen at h2
  clear hA0 hval0
  have hG := glo_of_laid hL
  refine (walk a0_0 a0_1 a0_2 a0_3 a0_4 zs1 A1 cap1 h1 zs2 A2 cap2 h2 W w1 row1 row2 hG).mono fun e W' ⟨he, hg⟩ => ?_
  subst he
  exact ⟨_, rfl, law_post laidOut (by kernel_rfl) (by kernel_rfl) Tryz.underlying4 rfl rfl hW' hg⟩

theorem over : Rows.allocApartRow.holds Tryz.pinned (OpenSpec.ofChange Rows.allocApartSpec) :=
  OpenClaim.holds_of_wide 4 Tryz.f4 rfl rfl rfl rfl rfl rfl rfl ⟨rfl, rfl, rfl, rfl, rfl⟩ rfl rfl rfl rfl rfl (by kernel_rfl) Tryz.func4 (by kernel_rfl)
    (of_decide_eq_true (by kernel_rfl)) (by unfold Func.isWrapper; first | (rw [if_pos (by decide +kernel)]; kernel_rfl) | (rw [if_neg (by decide +kernel)]; exact ⟨rfl, rfl⟩))
    (fun os started H enc _ => lifted os started H enc)

/-- THE STATEMENT. -/
theorem proved : Rows.AllocApartCardSaid :=
  Claim7.holds_tied_plain_at .later [] [.wider, .wider, .wider] true _ true
    over (fun _ h => by cases h) (by kernel_rfl) (fun _ h => by cases h) allocApart_row_tie rfl ⟨rfl, rfl⟩ (by kernel_rfl) rfl
    (fun f fn hf hfn => by
      obtain rfl : f = 4 := Option.some.inj ((show Tryz.prog.funcNamed "revenant/revenantlaw14.AllocApart" = some 4 by kernel_rfl).symm.trans hf) |>.symm
      obtain rfl : fn = Tryz.f4 := (Option.some.inj (Tryz.func4.symm.trans hfn)).symm
      exact ⟨by kernel_rfl, fun j t ht => by
        rw [Tryz.params4] at ht
        have hm : t ∈ [23, 24, 25] := by simpa using Array.mem_of_getElem? ht
        have hall : ([23, 24, 25].all fun u => !Tryz.prog.wantsStandIn u) = true := by kernel_rfl
        exact (show Tryz.prog.wantsStandIn t = false by simpa using List.all_eq_true.1 hall t hm)⟩)
    (by kernel_rfl)
#print axioms proved
end Go.Proofs.YtmifdkbpbkafjaaGreatDoor.allocApart
