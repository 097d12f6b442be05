/- What is proved on the way to the statement, part 11 of 15: contracts of the functions, among other things in memory. -/
import Derived.Test.YtmifdkbpbkafjaaGreatDoorE10
import Derived.Shelf.SlMaps.Clone
import Derived.Ground.SlmcProg
import Derived.Test.YtmifdkbpbkafjaaGreatDoorProg
import Derived.Shelf.SlSortCmp.NoneTotal
import Derived.Shelf.SlMaps.Equal
import Derived.Shelf.SlicesG.Cmp
import Derived.Shelf.SlGeneric
import Derived.Ground.SlsfProg
import Derived.Ground.SlmeProg
import Derived.Ground.SlgcProg
import Derived.Shelf.Lay
import Derived.Shelf.LaySoft
import Derived.LoopN
import Derived.RangeFuncNested
import Derived.RangeFuncBound
import Derived.RangeFuncCalls
import Derived.RangeFuncLeaves
import Derived.OwnWalkIn
import Derived.TacticsInMore
import Derived.LoopNIn
import Derived.LoopIn
import Derived.Maps.AppendAt
import Derived.Sort.MapsRangeIn
import Derived.Laws.IdiomRangeMap

/- Threads, by plain mathematics: no slot is twice in hands or in the pool, whoever goes on. -/
namespace Go.Proofs.YtmifdkbpbkafjaaGreatDoor
open Go.RowKit Go.Maps
set_option maxRecDepth 100000

theorem perm_idx {α : Type} {q : α} : ∀ {l : List α} {i : Nat}, l[i]? = some q → l.Perm (q :: l.eraseIdx i)
  | [], _, h => by simp at h
  | a :: l, 0, h => by
    simp at h
    subst h
    exact List.Perm.refl _
  | a :: l, i + 1, h => by
    have h' : l[i]? = some q := by simpa using h
    exact ((perm_idx h').cons a).trans (List.Perm.swap _ _ _)
theorem rng_succ {n : Int} (h : 0 ≤ n) : rng (n + 1) = rng n ++ [n + 1] := by
  unfold rng
  have e : (n + 1).toNat = n.toNat + 1 := by omega
  rw [e, List.range_succ, List.map_append]
  simp
  omega
theorem mem_rng {n x : Int} : x ∈ rng n ↔ 1 ≤ x ∧ x ≤ n := by
  unfold rng
  simp only [List.mem_map, List.mem_range]
  constructor
  · rintro ⟨a, ha, rfl⟩
    omega
  · rintro ⟨h1, h2⟩
    exact ⟨(x - 1).toNat, by omega, by omega⟩
theorem rng_nodup (n : Int) : (rng n).Nodup := by
  unfold rng
  refine List.Pairwise.map _ (fun a b h e => h ?_) List.nodup_range
  omega
theorem rng_len {n : Int} (h : 0 ≤ n) : ((rng n).length : Int) = n := by
  simp [rng]
  omega

section
variable {C : Cf} {ds : List Dd} {B : Nat} {T : Th} {f : Mem} {d : Dd} {P : List Int}
theorem act_hold (hC : COk C) (hF : OkF C f) (hT : OkT C ds B T) (hI : TIn C f T) (hfb : f (3, 0, 0) ≤ 4000000) (hP : Path f (slotI (f (2, 0, 0))) P) (hdis : ∀ x ∈ holdT T, x ∉ P) (hp : T.pc ≠ 0) :
    ∃ P', Path (actM C d T f).2 (slotI ((actM C d T f).2 (2, 0, 0))) P' ∧ TIn C (actM C d T f).2 (actM C d T f).1 ∧ Eff f (actM C d T f).2 T ∧ Turns C f (actM C d T f).2 T (actM C d T f).1 P P' := by
  rcases hT.pc with h | h | h | h | h
  · exact absurd h hp
  · exact act1_hold (hF.u _).1 hP h
  · exact act2_hold hC hF hT hI hfb hP h
  · exact act3_hold (hF.u _).1 hP h (hT.rpc h)
  · exact act4_hold hC hF hT hI hP hdis h
theorem begin_four : ∀ (r : List Dd) (T : Th), T.pc = 0 → (beginM r T).2.pc = 4 → (beginM r T).2.gpc = 0
  | [], T, h, h4 => by have : T.pc = 4 := h4; omega
  | d :: r, T, h, h4 => by
    unfold beginM at h4 ⊢
    split at h4
    · rename_i h1
      rw [if_pos h1]
      split at h4
      · exact no h4 rfl
      · rename_i h2
        rw [if_neg h2]
        exact begin_four r _ h h4
    · rename_i h1
      rw [if_neg h1]
      split at h4
      · rename_i h3
        rw [if_pos h3]
        split at h4
        · rename_i h2
          rw [if_pos h2]
          exact begin_four r _ h h4
        · exact no h4 rfl
      · rename_i h3
        rw [if_neg h3]
        split at h4
        · rename_i h5
          rw [if_pos h5]
        · rename_i h5
          rw [if_neg h5]
          split at h4
          · rename_i h6
            rw [if_pos h6]
            split at h4
            · rename_i h2
              rw [if_pos h2]
              exact begin_four r _ h h4
            · rename_i h2
              rw [if_neg h2]
              exact begin_four r _ h h4
          · rename_i h6
            rw [if_neg h6]
            exact begin_four r _ h h4
theorem begin_hold : ∀ (r : List Dd) (T : Th), T.pc = 0 → (holdT (beginM r T).2).Perm (holdT T)
  | [], T, _ => List.Perm.refl _
  | d :: r, T, h => by
    have h0 : holdT T = hq T.hs T.ql := hold_of (by omega)
    have hs : holdT { T with nd := T.nd + 1 } = holdT T := rfl
    unfold beginM
    split
    · split
      · rw [h0, hold_of (fun h => no h rfl)]
      · exact begin_hold r _ h
    · split
      · split
        · exact begin_hold r _ h
        · rename_i h2
          rw [h0, hold_3 rfl]
          unfold hq
          rw [if_neg h2, if_pos rfl]
          refine List.perm_iff_count.2 fun z => ?_
          simp only [List.count_append, List.count_cons, List.count_nil]
          omega
      · split
        · rw [h0, hold_of (fun h => no h rfl)]
        · split
          · split
            · exact begin_hold r _ h
            · rename_i h2
              refine (begin_hold r { T with nd := T.nd + 1, ql := T.ql ++ [(T.hs, 0, 0)], hs := 0 } h).trans ?_
              rw [h0, hold_of (T := { T with nd := T.nd + 1, ql := T.ql ++ [(T.hs, 0, 0)], hs := 0 }) (by show T.pc ≠ 3; omega)]
              show (hq 0 (T.ql ++ [(T.hs, 0, 0)])).Perm _
              rw [hq_add]
              unfold hq
              rw [if_neg h2, if_pos rfl]
              refine List.perm_iff_count.2 fun z => ?_
              simp only [List.count_append, List.count_cons, List.count_nil]
              omega
          · exact begin_hold r _ h
theorem Eff.of_perm {f' : Mem} {T1 : Th} (h : Eff f f' T1) (hp : (holdT T1).Perm (holdT T)) : Eff f f' T := ⟨h.pool, h.fresh, fun x hx => h.chain x fun h1 => hx (hp.mem_iff.1 h1)⟩
theorem Turns.of_perm {f' : Mem} {T1 T2 : Th} {P' : List Int} (h : Turns C f f' T1 T2 P P') (hp : (holdT T1).Perm (holdT T)) : Turns C f f' T T2 P P' := by
  rcases h with ⟨h1, h2⟩ | ⟨h1, h2, h3⟩
  · exact .inl ⟨h1.trans (hp.append_right P), h2⟩
  · exact .inr ⟨h1, h2, h3.trans ((hp.append_right P).cons _)⟩
theorem step_hold (hC : COk C) (hF : OkF C f) (hT : OkT C ds B T) (hI : TIn C f T) (hfb : f (3, 0, 0) ≤ 4000000) (hP : Path f (slotI (f (2, 0, 0))) P) (hdis : ∀ x ∈ holdT T, x ∉ P) :
    ∃ P', Path (stepM C ds T f).2 (slotI ((stepM C ds T f).2 (2, 0, 0))) P' ∧ TIn C (stepM C ds T f).2 (stepM C ds T f).1 ∧ Eff f (stepM C ds T f).2 T ∧ Turns C f (stepM C ds T f).2 T (stepM C ds T f).1 P P' := by
  unfold stepM
  by_cases hp : T.pc = 0
  · rw [if_pos hp]
    obtain ⟨h1, h2, h3⟩ := begin_ok 0 (ds.drop T.nd) T rfl hT hp
    have hpm := begin_hold (ds.drop T.nd) T hp
    have hb4 := begin_four (ds.drop T.nd) T hp
    dsimp only at h1 h2 h3 ⊢
    by_cases hb : (beginM (ds.drop T.nd) T).1 = true
    · rw [if_pos hb]
      have h4 := h3 hb
      have hI1 : TIn C f (beginM (ds.drop T.nd) T).2 := ⟨fun h => by omega, fun h => by omega, fun h => by omega, fun h => by omega, fun h h5 => by have := hb4 h; omega⟩
      obtain ⟨P', g1, g2, g3, g4⟩ := act_hold (d := ds.getD ((beginM (ds.drop T.nd) T).2.nd - 1) ⟨0, 0, 0, 0, 0⟩) hC hF h1 hI1 hfb hP (fun x hx => hdis x (hpm.mem_iff.1 hx)) (by omega)
      exact ⟨P', g1, g2, g3.of_perm hpm, g4.of_perm hpm⟩
    · rw [if_neg hb]
      have hpc : (beginM (ds.drop T.nd) T).2.pc = 0 := by
        rw [h2]
        rw [if_neg hb]
      exact ⟨P, hP, TIn.of_dec (fun h => by have h' : (beginM (ds.drop T.nd) T).2.pc = 2 := h; omega) (by show (beginM (ds.drop T.nd) T).2.pc ≠ 4; omega), Eff.same (hF.u _).1, .inl ⟨hpm.append_right P, rfl⟩⟩
  · rw [if_neg hp]
    exact act_hold hC hF hT hI hfb hP hdis hp
theorem TIn.over {f' : Mem} {T2 : Th} (h : TIn C f T2) (hO : OkT C ds B T2) (he : Eff f f' T) (hd : ∀ x ∈ holdT T2, x ∉ holdT T) (hp : ∀ x ∈ P, x ∉ holdT T) (hP : Path f (slotI (f (2, 0, 0))) P) : TIn C f' T2 := by
  refine ⟨fun a b c => ?_, fun a b c => ?_, fun a b c => ?_, h.noq, fun a b => ?_⟩
  · have := h.ver a b c
    rcases he.pool with e | e
    · rw [e]; exact this
    · omega
  · have hv := h.ver a (by omega) (by omega)
    rcases he.pool with e | e
    · rw [e] at c
      have hpl := hO.pool a (by omega) (by omega)
      obtain ⟨P', hP', -⟩ := hP.some (by rw [c]; omega)
      have hm : slotI T2.ah ∈ P := by rw [hP', c]; simp
      rw [he.chain _ (hp _ hm)]
      exact h.an a b c
    · rw [c] at e
      omega
  · have := h.fresh a b c
    have := he.fresh
    omega
  · have hm := (mem_head hO (hO.give a (by omega))).1
    rw [he.chain _ (hd _ hm)]
    exact h.give a b
end

/-- All threads and the pool. -/
structure Apt (C : Cf) (f : Mem) (Ts : List Th) (P : List Int) : Prop where
  (path : Path f (slotI (f (2, 0, 0))) P)
  (perm : (Ts.flatMap holdT ++ P).Perm (rng (circ C f)))
  (ins : ∀ T ∈ Ts, TIn C f T)
theorem Apt.step {C : Cf} {f : Mem} {Ts : List Th} {P : List Int} {B : Nat} {ds : List Dd} {T : Th} {i : Nat} (h : Apt C f Ts P) (hC : COk C) (hF : OkF C f) (hO : ∀ T ∈ Ts, ∃ ds, OkT C ds B T) (hi : Ts[i]? = some T) (hT : OkT C ds B T) (hfb : f (3, 0, 0) ≤ 4000000) :
    ∃ P', Apt C (stepM C ds T f).2 (Ts.set i (stepM C ds T f).1) P' ∧ (stepM C ds T f).2 (3, 0, 0) ≤ f (3, 0, 0) + 1 := by
  have hp := perm_idx hi
  have hil : i < Ts.length := (List.getElem?_eq_some_iff.1 hi).1
  have h1 : (Ts.flatMap holdT ++ P).Perm (holdT T ++ ((Ts.eraseIdx i).flatMap holdT ++ P)) := by
    have := (hp.flatMap_right holdT).append_right P
    rw [List.flatMap_cons, List.append_assoc] at this
    exact this
  have hall := h1.symm.trans h.perm
  have hnd : (holdT T ++ ((Ts.eraseIdx i).flatMap holdT ++ P)).Nodup := hall.nodup_iff.2 (rng_nodup _)
  obtain ⟨n1, n2, n3⟩ := List.nodup_append.1 hnd
  have hdP : ∀ x ∈ holdT T, x ∉ P := fun x hx hx2 => n3 x hx x (List.mem_append_right _ hx2) rfl
  obtain ⟨P', g1, g2, g3, g4⟩ := step_hold hC hF hT (h.ins T (List.mem_of_getElem? hi)) hfb h.path hdP
  refine ⟨P', ⟨g1, ?_, ?_⟩, g3.fresh.2⟩
  · have hi' : (Ts.set i (stepM C ds T f).1)[i]? = some (stepM C ds T f).1 := by simp [hil]
    have hp' := perm_idx hi'
    rw [List.eraseIdx_set_eq] at hp'
    have h2 : ((Ts.set i (stepM C ds T f).1).flatMap holdT ++ P').Perm (holdT (stepM C ds T f).1 ++ ((Ts.eraseIdx i).flatMap holdT ++ P')) := by
      have := (hp'.flatMap_right holdT).append_right P'
      rw [List.flatMap_cons, List.append_assoc] at this
      exact this
    refine h2.trans ?_
    rcases g4 with ⟨e1, e2⟩ | ⟨e1, e2, e3⟩
    · rw [e2]
      refine List.Perm.trans ?_ hall
      refine List.perm_iff_count.2 fun z => ?_
      have := List.perm_iff_count.1 e1 z
      simp only [List.count_append] at this ⊢
      omega
    · rw [e1, rng_succ e2]
      refine List.perm_iff_count.2 fun z => ?_
      have q1 := List.perm_iff_count.1 e3 z
      have q2 := List.perm_iff_count.1 hall z
      simp only [List.count_append, List.count_cons, List.count_nil] at q1 q2 ⊢
      omega
  · intro T2 hT2
    obtain ⟨k, hk⟩ := List.getElem?_of_mem hT2
    by_cases hki : k = i
    · subst hki
      simp [hil] at hk
      rw [← hk]
      exact g2
    · rw [List.getElem?_set_ne (fun e => hki e.symm)] at hk
      have hm2 := List.mem_of_getElem? hk
      obtain ⟨ds2, hO2⟩ := hO T2 hm2
      have hme : T2 ∈ Ts.eraseIdx i := by
        rcases Nat.lt_or_ge k i with hlt | hge
        · exact List.mem_of_getElem? (by rw [List.getElem?_eraseIdx_of_lt hlt]; exact hk)
        · have e9 : k - 1 + 1 = k := by omega
          refine List.mem_of_getElem? (i := k - 1) ?_
          rw [List.getElem?_eraseIdx_of_ge (by omega), e9]
          exact hk
      refine (h.ins T2 hm2).over hO2 g3 (fun x hx hx2 => ?_) (fun x hx hx2 => hdP x hx2 hx) h.path
      exact n3 x hx2 x (List.mem_append_left _ (List.mem_flatMap.2 ⟨T2, hme, hx⟩)) rfl
end Go.Proofs.YtmifdkbpbkafjaaGreatDoor

/-
  DERIVED: THE SHELF's CONTRACTS AT THIS DUMP, IN PLAIN WORDS (tools/lay-plain.mjs out of 'YtmifdkbpbkafjaaGreatDoorShelfC.lean', which tools/lay-shelf.mjs wrote): THE SAME DECLARATIONS UNDER THE SAME NAMES: 'import', 'namespace', 'open', 'def', 'theorem' AND NOTHING ELSE: no command of the shelf's: FOR A HAND-IN. Each laying: the table of numbers ('.._ren') and one theorem, a field a fact of the dump's own or the kernel's comparison; each contract: ONE APPLICATION.
-/
namespace Go.Proofs
open Go.Shelf
def Tryz.cloneWords_ren : Go.Shelf.Ren := ⟨fun | 5 => 103 | 7 => 122 | n => n, fun | 23 => 138 | 25 => 37 | 3 => 39 | 4 => 4 | 20 => 20 | n => n, fun | n => n⟩
theorem Tryz.cloneWords : Go.Proofs.SlLaysW.n5 Tryz.prog Tryz.cloneWords_ren := {
  mixed := by kernel_rfl
  f5 := ⟨Tryz.f103.name, by decide, Tryz.func103.trans (congrArg some (by kernel_rfl))⟩
  f7 := Tryz.func122.trans (congrArg some (by kernel_rfl))
  t4 := Tryz.underlying4
  a4 := Tryz.isAgg4
  z4 := Tryz.sizeOf4
  v4 := Tryz.zeroValue4
  t20 := Tryz.underlying20
  a20 := Tryz.isAgg20
  z20 := Tryz.sizeOf20
  v20 := Tryz.zeroValue20
  t23 := Tryz.underlying138
  a23 := Tryz.isAgg138
  z23 := Tryz.sizeOf138
  v23 := Tryz.zeroValue138 }
end Go.Proofs

/-
  The library's contracts at this program.
-/
namespace Go.Proofs
open Go.Shelf
shelf_try shelf_lay_g SlLaysF0.n6 Slsf 6 at Tryz 105 as Tryz.sortPlaces
shelf_try shelf_lay_g SlLaysC2.n5 Slgc 5 at Tryz 108 as Tryz.compareInt
shelf_tried
end Go.Proofs

/- The order of places; the library's sort at it. -/
namespace Go.Proofs.YtmifdkbpbkafjaaGreatDoor
open Go.RowKit Go.Maps Go.Shelf Go.Sort
set_option maxRecDepth 100000

/-- How two places stand. -/
def orI (a b c : Int) : Int := if a ≠ 0 then a else if b ≠ 0 then b else c
def cmpP (x y : Plc) : Int := orI (Lib.compareInt x.1 y.1) (Lib.compareInt x.2.1 y.2.1) (Lib.compareInt x.2.2 y.2.2)
theorem cmp_neg (a b : Int) : Lib.compareInt a b < 0 ↔ a < b := by unfold Lib.compareInt; split <;> (try split) <;> omega
theorem cmp_zero (a b : Int) : Lib.compareInt a b = 0 ↔ a = b := by unfold Lib.compareInt; split <;> (try split) <;> omega
theorem ltP (x y : Plc) : ltOf cmpP x y = true ↔ x.1 < y.1 ∨ (x.1 = y.1 ∧ (x.2.1 < y.2.1 ∨ (x.2.1 = y.2.1 ∧ x.2.2 < y.2.2))) := by
  have h1 := cmp_neg x.1 y.1
  have h2 := cmp_neg x.2.1 y.2.1
  have h3 := cmp_neg x.2.2 y.2.2
  have z1 := cmp_zero x.1 y.1
  have z2 := cmp_zero x.2.1 y.2.1
  have e : ltOf cmpP x y = true ↔ cmpP x y < 0 := by simp [ltOf]
  rw [e]
  unfold cmpP orI
  split
  · rename_i h; rw [h1]; rw [ne_eq, z1] at h; omega
  · rename_i h
    have h := z1.1 (by simpa using h)
    split
    · rename_i k; rw [h2]; rw [ne_eq, z2] at k; omega
    · rename_i k
      have k := z2.1 (by simpa using k)
      rw [h3]; omega
theorem ltP_false (x y : Plc) : ltOf cmpP x y = false ↔ ¬ (x.1 < y.1 ∨ (x.1 = y.1 ∧ (x.2.1 < y.2.1 ∨ (x.2.1 = y.2.1 ∧ x.2.2 < y.2.2)))) := by rw [← ltP, Bool.not_eq_true]
theorem swoP : SWO (ltOf cmpP) where
  irrefl x := by rw [ltP_false]; omega
  trans x y z h1 h2 := by rw [ltP] at *; omega
  ntrans x y z h1 h2 := by rw [ltP_false] at *; omega
theorem totP (x y : Plc) (h1 : ltOf cmpP x y = false) (h2 : ltOf cmpP y x = false) : x = y := by
  rw [ltP_false] at *
  obtain ⟨a, b, c⟩ := x
  obtain ⟨a', b', c'⟩ := y
  simp only [Prod.mk.injEq]
  simp only at h1 h2
  omega

theorem compareInt_any (x y : Int) (w : World) : Calls Tryz.prog 108 #[.int .i64 x, .int .i64 y] w fun e w' => e = .returned (.int .i64 (Lib.compareInt x y)) ∧ w' = w := AnyG.cmp_Compare_int Tryz.compareInt x y w

set_option maxHeartbeats 1600000 in
theorem or_any (a b c : Int) (N : Nat) (w : World) (h : ∀ i, w.cell? ⟨N, i, none⟩ = [Value.int .i64 a, .int .i64 b, .int .i64 c][i]?) :
    Calls Tryz.prog 107 #[.slice (some ⟨N, 0, none⟩) 3 3] w fun e w' => e = .returned (.int .i64 (orI a b c)) ∧ w' = w := by
  have e1 : (a != 0) = true ∨ ((a != 0) = false ∧ (b != 0) = true) ∨ ((a != 0) = false ∧ (b != 0) = false ∧ (c != 0) = true) ∨ ((a != 0) = false ∧ (b != 0) = false ∧ (c != 0) = false) := by
    cases (a != 0) <;> cases (b != 0) <;> cases (c != 0) <;> simp
  rcases e1 with h1 | ⟨h1, h2⟩ | ⟨h1, h2, h3⟩ | ⟨h1, h2, h3⟩
  · go_enter Tryz.func107, Tryz.ntmps107
    go_wp2
    refine wp_loop_rounds 1 ?_
    rw [rounds_succ]
    go_wp2
    go_ret
    exact ⟨ret_int (by simp at h1; simp [orI, h1]), rfl⟩
  · go_enter Tryz.func107, Tryz.ntmps107
    go_wp2
    refine wp_loop_rounds 2 ?_
    rw [rounds_succ]
    go_wp2
    rw [rounds_succ]
    go_wp2
    go_ret
    exact ⟨ret_int (by simp at h1 h2; simp [orI, h1, h2]), rfl⟩
  · go_enter Tryz.func107, Tryz.ntmps107
    go_wp2
    refine wp_loop_rounds 3 ?_
    rw [rounds_succ]
    go_wp2
    rw [rounds_succ]
    go_wp2
    rw [rounds_succ]
    go_wp2
    go_ret
    exact ⟨ret_int (by simp at h1 h2 h3; simp [orI, h1, h2]), rfl⟩
  · go_enter Tryz.func107, Tryz.ntmps107
    go_wp2
    refine wp_loop_rounds 4 ?_
    rw [rounds_succ]
    go_wp2
    rw [rounds_succ]
    go_wp2
    rw [rounds_succ]
    go_wp2
    rw [rounds_succ]
    go_wp2
    go_ret
    exact ⟨ret_int (by simp at h1 h2 h3; simp [orI, h1, h2, h3]), rfl⟩

set_option maxHeartbeats 1600000 in
theorem compare_any (a b c a' b' c' : Int) (w : World) :
    Calls Tryz.prog 81 #[.agg #[.int .i64 a, .int .i64 b, .int .i64 c], .agg #[.int .i64 a', .int .i64 b', .int .i64 c']] w fun e w' => e = .returned (.int .i64 (cmpP (a, b, c) (a', b', c'))) ∧ ∃ q os', w' = grow (w.drewN q) os' := by
  have k1 : Hid (∀ w', Calls Tryz.prog 108 #[.int .i64 a, .int .i64 a'] w' fun e w'' => e = .returned (.int .i64 (Lib.compareInt a a')) ∧ w'' = w') := Lib.hid fun w' => compareInt_any a a' w'
  have k2 : Hid (∀ w', Calls Tryz.prog 108 #[.int .i64 b, .int .i64 b'] w' fun e w'' => e = .returned (.int .i64 (Lib.compareInt b b')) ∧ w'' = w') := Lib.hid fun w' => compareInt_any b b' w'
  have k3 : Hid (∀ w', Calls Tryz.prog 108 #[.int .i64 c, .int .i64 c'] w' fun e w'' => e = .returned (.int .i64 (Lib.compareInt c c')) ∧ w'' = w') := Lib.hid fun w' => compareInt_any c c' w'
  unfold cmpP
  simp only
  generalize Lib.compareInt a a' = x at *
  generalize Lib.compareInt b b' = y at *
  generalize Lib.compareInt c c' = z at *
  go_enter Tryz.func81, Tryz.ntmps81
  go_wp2_with fail
  have hw2 : ∃ w2, w2 = (w.alloc (.cells #[.int .i64 a, .int .i64 b, .int .i64 c] 37)).alloc (.cells #[.int .i64 a', .int .i64 b', .int .i64 c'] 37) := ⟨_, rfl⟩
  obtain ⟨w2, hw2⟩ := hw2
  have h1 : Blk 0 w2 w.heap.size [.int .i64 a, .int .i64 b, .int .i64 c] := by rw [hw2]; exact (Blk.new 0 w _ _).more _
  have h2 : Blk 0 w2 (w.heap.size + 1) [.int .i64 a', .int .i64 b', .int .i64 c'] := by rw [hw2]; exact (Blk.new 0 (w.alloc _) _ _).at (by simp)
  rw [← hw2]
  have HW := Lib.hid hw2
  clear hw2
  generalize w.heap.size = B at *
  refine Ord.wp_chain [15, 16] (fun w' => Blk 0 w' B [.int .i64 a, .int .i64 b, .int .i64 c] ∧ Blk 0 w' (B + 1) [.int .i64 a', .int .i64 b', .int .i64 c']) (fun j w' => ∃ q, w' = (if j = 0 then w2 else w2.alloc (.cells #[.int .i64 x, .int .i64 y, .int .i64 z] 3)).drewN q) (by kernel_rfl) (by kernel_rfl) (by kernel_rfl) ⟨h1.drew, h2.drew⟩ ⟨1, rfl⟩ (fun hT => ?_)
  have hT9 := Lib.hid hT
  clear hT
  repeat (first
    | (refine Ord.ch_value (v := ?_) hT9.out (by decide) (by rfl) ?_ ?_; rotate_left; (focus (intro w5 hS; have r := hS.1.rule; have r2 := hS.2.rule; go_simp <;> with_reducible rfl)); (try simp only [Act.put, List.setIfInBounds_toArray, List.set_cons_zero, List.set_cons_succ]))
    | (refine Ord.ch_call (v := ?_) (f := ?_) (args := ?_) hT9.out (by decide) (by rfl) ?_ ?_ ?_; rotate_left 3; (focus (intro w5 hS; have r := hS.1.rule; have r2 := hS.2.rule; go_simp; constructor <;> with_reducible rfl)); (focus (intro w5 hS; (first
        | (with_reducible refine (k1.out _).mono ?_; rintro e w6 ⟨rfl, rfl⟩; constructor; with_reducible rfl; exact ⟨hS, fun _ h => h⟩)
        | (with_reducible refine (k2.out _).mono ?_; rintro e w6 ⟨rfl, rfl⟩; constructor; with_reducible rfl; exact ⟨hS, fun _ h => h⟩)
        | (with_reducible refine (k3.out _).mono ?_; rintro e w6 ⟨rfl, rfl⟩; constructor; with_reducible rfl; exact ⟨hS, fun _ h => h⟩)))); (try simp only [Act.put, List.setIfInBounds_toArray, List.set_cons_zero, List.set_cons_succ])))
  refine Ord.ch_turn (v := .slice (some ⟨w2.heap.size, 0, none⟩) 3 3) 0 hT9.out rfl (by decide) (Or.inl rfl) (by rfl) ?_ ?_
  · rintro w5 hC5 ⟨q, hq⟩
    rw [if_pos rfl] at hq
    subst hq
    go_simp
    exact ⟨by first | rfl | simp, ⟨hC5.1.more _, hC5.2.more _⟩, q, rfl⟩
  (try simp only [Act.put, List.setIfInBounds_toArray, List.set_cons_zero, List.set_cons_succ])
  refine Ord.ch_turn (v := .int .i64 (orI x y z)) 1 hT9.out rfl (by decide) (Or.inr ⟨15, rfl, by kernel_rfl⟩) (by rfl) ?_ ?_
  · rintro w5 hC5 ⟨q, hq⟩
    rw [if_neg (by omega)] at hq
    have hcell : ∀ i, w5.cell? ⟨w2.heap.size, i, none⟩ = [Value.int .i64 x, .int .i64 y, .int .i64 z][i]? := fun i => by rw [hq]; exact (Blk.new 0 w2 [Value.int .i64 x, .int .i64 y, .int .i64 z] _).rule i
    have HQ := Lib.hid hq
    clear hq
    go_simp
    simp only [Ord.LandsIn]
    refine (or_any x y z _ w5 hcell).mono ?_
    rintro e w6 ⟨rfl, rfl⟩
    exact ⟨rfl, hC5, q, HQ.out⟩
  (try simp only [Act.put, List.setIfInBounds_toArray, List.set_cons_zero, List.set_cons_succ])
  repeat (first
    | (refine Ord.ch_value (v := ?_) hT9.out (by decide) (by rfl) ?_ ?_; rotate_left; (focus (intro w5 hS; skip; go_simp <;> with_reducible rfl)); (try simp only [Act.put, List.setIfInBounds_toArray, List.set_cons_zero, List.set_cons_succ]))
    | (refine Ord.ch_off hT9.out (by decide) (by rfl) ?_; (try simp only [Act.put, List.setIfInBounds_toArray, List.set_cons_zero, List.set_cons_succ])))
  refine Ord.InText.nil fun w5 hS => ?_
  clear hT9
  obtain ⟨hC9, hA9⟩ := Ord.chain_end hS
  clear hS
  obtain ⟨q, hq⟩ := hA9
  go_wp2
  go_ret
  refine ⟨rfl, q, #[.cells #[.int .i64 a, .int .i64 b, .int .i64 c] 37, .cells #[.int .i64 a', .int .i64 b', .int .i64 c'] 37, .cells #[.int .i64 x, .int .i64 y, .int .i64 z] 3], ?_⟩
  rw [hq, HW.out]
  simp only [List.length_cons, List.length_nil, alloc_eq_grow, grow_grow]
  rfl

/-- A place's cells. -/
def encP (x : Plc) : List Value := [.int .i64 x.1, .int .i64 x.2.1, .int .i64 x.2.2]
theorem cmpLays (blk off size : Nat) (w : World) : CmpLays Tryz.prog 81 #[] encP 3 cmpP blk off size w := fun _ _ _ _ x y => compare_any x.1 x.2.1 x.2.2 y.1 y.2.1 y.2.2 _
theorem aggPlace (w : World) : (isAgg 37).run Tryz.prog w = .ok true w := by kernel_rfl
theorem sizePlace (w : World) : (Go.sizeOf 37).run Tryz.prog w = .ok 3 w := by kernel_rfl

/-- The places in their order. -/
def sortL (l : List Plc) : List Plc := l.mergeSort fun x y => !(ltOf cmpP) y x
theorem sort_any (blk off cap : Nat) (d : Array Plc) (w : World) (hH : HoldsK encP 3 w blk off d) (hblk : blk < w.heap.size) (hsz : d.size < 4611686018427387904) :
    Calls Tryz.prog 105 #[.slice (some ⟨blk, off, none⟩) d.size cap, .func (.func 81) #[] #[]] w fun e w' => e = .returned (.tuple #[]) ∧ ∃ n os, w' = sortWorldK encP 3 w blk off n (sortL d.toList).toArray os :=
  AnyQ.slices_SortFunc_total Tryz.sortPlaces 3 aggPlace sizePlace encP (fun _ => rfl) (fun x v hv => by simp [encP] at hv; rcases hv with rfl | rfl | rfl <;> rfl) cmpP swoP 81 #[] blk off cap d w
    (enters_of Tryz.func81 (by kernel_rfl) rfl) (cmpLays blk off d.size w) hH hblk hsz totP
theorem sort_none (p : Option Addr) (cap : Nat) (fv : Value) (w : World) : Calls Tryz.prog 105 #[.slice p 0 cap, fv] w fun e w' => e = .returned (.tuple #[]) ∧ w' = w :=
  AnyF.slices_SortFunc_none { Tryz.sortPlaces with } p cap fv w
end Go.Proofs.YtmifdkbpbkafjaaGreatDoor

/- Places whose words aren't 0. -/
namespace Go.Proofs.YtmifdkbpbkafjaaGreatDoor

theorem pv_inj {x y : Plc} (h : pv x = pv y) : x = y := by
  obtain ⟨a, b, c⟩ := x
  obtain ⟨a', b', c'⟩ := y
  simp [pv] at h
  simp [h]
/-- ss are the places whose words aren't 0, each once. -/
def OpsF (f : Plc → Int) (ss : List Plc) : Prop := ss.Nodup ∧ ∀ x, x ∈ ss ↔ f x ≠ 0
end Go.Proofs.YtmifdkbpbkafjaaGreatDoor

/- The keys of a map of words, collected: each once, in whatever order; then sorted: Places. -/
namespace Go.Proofs.YtmifdkbpbkafjaaGreatDoor
open Go.RowKit Go.Maps Go.Shelf Go.Sort
set_option maxRecDepth 100000

attribute [local go_sem] Oper.semAt_some

/-- ss are the places that have come: each once, places alone, those of the map that are no longer to come. -/
structure CollP (D : DataW Unit) (left : Lit → Bool) (ss : List Plc) : Prop where
  once : ss.Nodup
  wf : ∀ x ∈ ss, Wf x
  mem : ∀ x, Wf x → (x ∈ ss ↔ Maps.has D (kl x) = true ∧ left (kl x) = false)
theorem CollP.start (D : DataW Unit) : CollP D (Maps.has D) [] := ⟨List.nodup_nil, by simp, fun x _ => by simp⟩
theorem CollP.step {D : DataW Unit} {left : Lit → Bool} {ss : List Plc} (h : CollP D left ss) {x : Plc} (hx : Wf x) (hl : left (kl x) = true) {yd : DataW Unit} (hat : ∀ zd, D.atKey (kl x) zd = yd) : CollP D (fun z => left z && !z.sameKey (kl x)) (ss ++ [x]) := by
  have hnot : x ∉ ss := fun e => by have := ((h.mem x hx).1 e).2; rw [hl] at this; cases this
  refine ⟨List.nodup_append.2 ⟨h.once, by simp, fun a ha b hb e => ?_⟩, fun y hy => ?_, fun y hy => ?_⟩
  · simp at hb; subst hb; subst e; exact hnot ha
  · rcases List.mem_append.1 hy with h1 | h1
    · exact h.wf y h1
    · simp at h1; subst h1; exact hx
  · by_cases e : y = x
    · subst e
      simp [has_true_of_atKey hat, WideAt.sameKey_self (kl_key y)]
    · have hne : kl y ≠ kl x := fun e' => e (kl_inj hy hx e')
      simp [e, h.mem y hy, sameKey_ne hne]


set_option maxRecDepth 100000 in
set_option maxHeartbeats 2000000 in
theorem keys1_any (F : Fence) (n : Nat) (hf : F.fn 106) (hro : F.round = none) (hn : 1 ≤ n) (l Bm b nn : Nat) (D0 : DataW Unit) (J Jx : List Plc → World → Prop)
    (hY : ∀ pre x W, J pre W → pre.length < Maps.size D0 → YieldAt F (n - 1) Tryz.prog l #[pv x] W fun e W' => (e = .returned (.bool true) ∧ J (pre ++ [x]) W' ∧ KeepsWalks W W') ∨ (e = .returned (.bool false) ∧ Jx (pre ++ [x]) W'))
    (W : World) (hJ : AbidesFrom W.heap.size J) (hm : W.cell? ⟨Bm, 0, none⟩ = some (.map (some b))) (hown : W.ownsMap Tryz.prog 37 (plainElem (H := Unit) Tryz.prog 39) b nn D0) (h0 : J [] W) :
    CallsIn F n Tryz.prog 106 #[.func (.yield l) #[] #[], .pointer (some ⟨Bm, 0, none⟩)] W fun e W' => (∃ v, e = .returned v) ∧
      ((∃ ss, (CollP D0 (fun _ => false) ss ∧ ss.length ≤ Maps.size D0) ∧ J ss W') ∨ (∃ pre, True ∧ Jx pre W')) := by
  refine callsIn_of_wp Tryz.func106 rfl hf ?_ hro
  simp only [Tryz.ntmps106, List.size_toArray, List.length_cons, List.length_nil, Nat.reduceAdd, Nat.reduceSub, Array.replicate_succ, Array.replicate_zero, List.push_toArray, List.append_toArray, List.nil_append, List.cons_append]
  gi_wp2_with (first
    | (gi_at_range; refine wpListIn_range_own _ rfl _ 138 rfl 37 39 keyPlace Tryz.underlying138 _ b nn _ rfl hown ?_; intro w0 hrg0 hg0 hs0)
    | gi_in)
  go_frame
  gi_loopw [3] (fun _ wr => ∃ (left : Lit → Bool) (cnt : Nat) (ss : List Plc), wr.ranges Tryz.prog 37 (plainElem (H := Unit) Tryz.prog 39) b W.heap.size nn D0 left cnt ∧ ss.length + cnt ≤ Maps.size D0 ∧ CollP D0 left ss ∧ J ss wr)
    (fun _ wr => wr.rangeLeft b W.heap.size)
  case atStart =>
    exact ⟨_, _, [], hrg0, by simp, CollP.start D0, hJ [] W w0 none h0 hg0 (fun r e => by cases e)⟩
  case round =>
    obtain ⟨left, cnt, ss, hrg, hcs, hC, hJs⟩ := hrel
    gi_wp2_with (first
      | (gi_at_next; refine wpListIn_next_ranges _ rfl _ rfl 37 keyPlace (plainElem (H := Unit) Tryz.prog 39) (fun x : Plc => Value.agg #[.int .i64 x.1, .int .i64 x.2.1, .int .i64 x.2.2]) id (fun key kl hk => by obtain ⟨x, _, hx, _⟩ := key_inv hk; exact ⟨x, hx⟩) (fun v _ _ => ⟨v, rfl⟩) b W.heap.size nn _ _ _ rfl hrg ?_ ?_)
      | gi_in)
    · intro hc0 hl0
      gi_wp2
      go_end0
      exact ⟨⟨_, rfl⟩, .inl ⟨ss, ⟨⟨hC.once, hC.wf, fun x hx => by rw [hC.mem x hx, hl0]⟩, by omega⟩, hJs⟩⟩
    · intro xa xb xc c kx yd yp w2 cnt2 hkey hlk hv hat hrg2 hlt hg2 hs2 hen
      obtain ⟨x, hx', ex, rfl⟩ := key_inv hkey
      obtain ⟨ya, yb, yc⟩ := x
      have ex' := pv_inj (x := (xa, xb, xc)) ex
      obtain ⟨rfl, rfl, rfl⟩ : xa = ya ∧ xb = yb ∧ xc = yc := by simpa using ex'
      clear ex ex'
      have hJ2 : J ss w2 := hJ ss wr w2 (some W.heap.size) hJs hg2 (fun r e => by cases e; exact ⟨Nat.le_refl _, hrg.iter_walk⟩)
      have hJ3 : J ss (w2.alloc (.cells #[.int .i64 xa, .int .i64 xb, .int .i64 xc] 37)) := hJ ss w2 _ none hJ2 (World.grownBy_alloc w2 _ none) (fun r e => by cases e)
      obtain ⟨fn, tmps, assign, body, hy, hR⟩ := hY ss (xa, xb, xc) _ hJ3 (by omega)
      have hrg2' := hrg2.alloc (.cells #[.int .i64 xa, .int .i64 xb, .int .i64 xc] 37)
      have hC2 := hC.step hx' hlk hat
      simp only [pv] at hy
      clear hs2
      gi_wp2
      refine hR.mono ?_
      rintro e W3 (⟨rfl, hJ4, hk3⟩ | ⟨rfl, hJx4⟩)
      · gi_wp2
        have hrg3 := hrg2'.of_walks hk3
        go_roundw
        case rel => exact ⟨_, cnt2, ss ++ [(xa, xb, xc)], hrg3, by simp; omega, hC2, hJ4⟩
        case measure => rw [hrg3.left_eq, hrg.left_eq]; exact hlt
      · gi_wp2
        refine bodyPost_ret (results_none rfl _ _ _) rfl ?_
        exact ⟨⟨_, rfl⟩,   .inr ⟨ss ++ [(xa, xb, xc)], trivial, hJx4⟩⟩

/-- .. and at most n of them. -/
def OpsN (f : Plc → Int) (n : Nat) (ss : List Plc) : Prop := OpsF f ss ∧ ss.length ≤ n

set_option maxRecDepth 100000 in
set_option maxHeartbeats 2000000 in
theorem keys1_none (F : Fence) (n : Nat) (hf : F.fn 106) (hro : F.round = none) (l Bm : Nat) (J : List Plc → World → Prop) (W : World) (hJ : AbidesFrom W.heap.size J)
    (hm : W.cell? ⟨Bm, 0, none⟩ = some (.map none)) (h0 : J [] W) :
    CallsIn F n Tryz.prog 106 #[.func (.yield l) #[] #[], .pointer (some ⟨Bm, 0, none⟩)] W fun e W' => (∃ v, e = .returned v) ∧ J [] W' := by
  have hrg := run_range_nilMap (P := Tryz.prog) W 138 _ _ Tryz.underlying138
  have hnx : ∀ ty, (Instr.next (.pointer (some ⟨W.heap.size, 0, none⟩)) false ty).run Tryz.prog (W.alloc (.mapIter none 0 #[] 0)) = _ := fun ty => run_next_nilMap _ ty 0 0 #[]
  refine callsIn_of_wp Tryz.func106 rfl hf ?_ hro
  simp only [Tryz.ntmps106, List.size_toArray, List.length_cons, List.length_nil, Nat.reduceAdd, Nat.reduceSub, Array.replicate_succ, Array.replicate_zero, List.push_toArray, List.append_toArray, List.nil_append, List.cons_append]
  gi_wp2
  refine wpIn_loop_rounds 1 ?_
  rw [roundsIn_succ]
  gi_wp2
  go_end0
  exact ⟨⟨_, rfl⟩, hJ [] W _ none h0 (World.grownBy_alloc W _ none) (fun r e => by cases e)⟩

theorem keys_stops (F : Fence) (n : Nat) (hf : F.fn 106) (hro : F.round = none) (hn : 1 ≤ n) {Bm nn : Nat} {mp : Option Nat} {f : Plc → Int} {w : World} (hBm : Bm < w.heap.size)
    (hm : w.cell? ⟨Bm, 0, none⟩ = some (.map mp)) (hM : MapIs w mp f nn) :
    SeqStopsK F n Tryz.prog 106 #[.pointer (some ⟨Bm, 0, none⟩)] (fun x : Plc => #[Value.agg #[.int .i64 x.1, .int .i64 x.2.1, .int .i64 x.2.2]]) KeepsWalks (OpsN f nn) (fun _ => True) nn w := fun l J Jx W hW hJ _ hY h0 => by
  rcases hM with ⟨rfl, rfl⟩ | ⟨b, D, rfl, ho, hr⟩
  · exact (keys1_none F n hf hro l Bm J W hJ ((hW.cell (p := ⟨Bm, 0, none⟩) hBm).trans hm) h0).mono fun _ _ ⟨he, hj⟩ => ⟨he, .inl ⟨[], ⟨⟨List.nodup_nil, by simp⟩, Nat.zero_le _⟩, hj⟩⟩
  · have hlt := ho.lt
    have hsz := ho.size_le
    have ho' : W.ownsMap Tryz.prog 37 (plainElem (H := Unit) Tryz.prog 39) b nn D := by
      obtain ⟨es, clock, hb, r⟩ := ho
      exact ⟨es, clock, (hW.block b hlt).trans hb, r⟩
    refine (keys1_any F n hf hro hn l Bm b nn D J Jx (fun pre x W1 h1 h2 => hY pre x W1 h1 (by omega)) W hJ ((hW.cell (p := ⟨Bm, 0, none⟩) hBm).trans hm) ho' h0).mono ?_
    rintro e W' ⟨he, ⟨ss, ⟨hC, hlen⟩, hj⟩ | hx⟩
    · refine ⟨he, .inl ⟨ss, ⟨⟨hC.once, fun x => ?_⟩, Nat.le_trans hlen hsz⟩, hj⟩⟩
      by_cases hw : Wf x
      · rw [hC.mem x hw, hr.has' x hw]; simp
      · constructor
        · intro e; exact absurd (hC.wf x e) hw
        · intro e; exact absurd (hr.words.out x hw) e
    · exact ⟨he, .inr hx⟩

set_option maxHeartbeats 1000000 in
theorem keys_in (F : Fence) (n : Nat) (hf : F.fn 80) (hro : F.round = none) (mp : Option Nat) (w : World) :
    CallsIn F n Tryz.prog 80 #[.map mp] w fun e w' => e = .returned (.func (.func 106) #[] #[.pointer (some ⟨w.heap.size, 0, none⟩)]) ∧ w' = w.alloc (.cells #[.map mp] 138) := by
  refine callsIn_of_wp Tryz.func80 rfl hf ?_ hro
  simp only [Tryz.ntmps80, List.size_toArray, List.length_cons, List.length_nil, Nat.reduceAdd, Nat.reduceSub, Array.replicate_succ, Array.replicate_zero, List.push_toArray, List.append_toArray, List.nil_append, List.cons_append]
  gi_wp2
  go_ret
  exact ⟨rfl, rfl⟩

def flatP (l : List Plc) : List Value := l.flatMap encP
theorem flatP_snoc (l : List Plc) (x : Plc) : flatP (l ++ [x]) = flatP l ++ encP x := by simp [flatP]
theorem flatP_length (l : List Plc) : (flatP l).length = l.length * 3 := by
  induction l with
  | nil => rfl
  | cons x l ih => simp [flatP, encP] at *; omega
theorem infoPlace : (Tryz.prog.info? 37).map (fun i => (i.zero, i.size, i.bytes)) = some (some (.agg #[.int .i64 0, .int .i64 0, .int .i64 0]), 3, 24) := by kernel_rfl
def Box3 (W : World) (B : Nat) (x : Plc) : Prop := W.heap[B]? = some (.cells #[.int .i64 x.1, .int .i64 x.2.1, .int .i64 x.2.2] 37 (0, 0))
theorem Box3.rule {W : World} {B : Nat} {x : Plc} (h : Box3 W B x) : ∀ i, W.cell? ⟨B, i, none⟩ = [Value.int .i64 x.1, .int .i64 x.2.1, .int .i64 x.2.2][i]? := fun i => by
  unfold Box3 at h
  simp [World.cell?, h]

set_option maxRecDepth 100000 in
set_option maxHeartbeats 2000000 in
theorem append_in (F : Fence) (n : Nat) (hf : F.fn 123) (hk : F.fn 106) (hro : F.round = none) (hn : 3 ≤ n) {Bm nn : Nat} {mp : Option Nat} {f : Plc → Int} {w : World} (hBm : Bm < w.heap.size)
    (hm : w.cell? ⟨Bm, 0, none⟩ = some (.map mp)) (hM : MapIs w mp f nn) (hN : nn ≤ maxLen) (hNb : nn * 24 ≤ 140737488355328) :
    CallsIn F n Tryz.prog 123 #[.slice none 0 0, .func (.func 106) #[] #[.pointer (some ⟨Bm, 0, none⟩)]] w fun e w' => ∃ v ss, e = .returned v ∧ OpsN f nn ss ∧ w'.ownsRow w.heap.size 37 3 v ss.length (flatP ss) ∧ (v = .slice none 0 0 ↔ ss = []) ∧ Below w.heap.size w w' := by
  have h1 : 1 ≤ n := by omega
  obtain ⟨i0, hi, hz0, hz1, hz2⟩ := info_parts infoPlace
  refine callsIn_of_wp_marks Tryz.func123 rfl hf ?_ hro
  simp only [Tryz.ntmps123, List.size_toArray, List.length_cons, List.length_nil, Nat.reduceAdd, Nat.reduceSub, Array.replicate_succ, Array.replicate_zero, List.push_toArray, List.append_toArray, List.nil_append, List.cons_append]
  gi_wp2
  have bO := Boxed.new w 115 (.slice none 0 0)
  have hB0 : Below w.heap.size w (w.alloc (.cells #[.slice none 0 0] 115)) := (Below.refl _ w).alloc (Nat.le_refl _) _
  refine wpIn_rangeFunc_ownH hro h1 (gf := 106) (lb := #[.pointer (some ⟨Bm, 0, none⟩)]) rfl hk (enters_of Tryz.func106 (by kernel_rfl) rfl)
    (keys_stops F (n - 1) hk hro (by omega) (w := w.alloc (.cells #[.slice none 0 0] 115)) (by simp; omega) ((hB0.cell (p := ⟨Bm, 0, none⟩) hBm).trans hm) (hM.more _)) walksK_t walksK_b (Below.refl _ _) (fun _ => rfl)
    (fun pre W => (∃ v, Boxed W w.heap.size 115 v ∧ W.ownsRow w.heap.size 37 3 v pre.length (flatP pre) ∧ (v = .slice none 0 0 ↔ pre = [])) ∧ Below w.heap.size w W)
    (fun _ _ _ => False)
    (OwnFrom.and (Own.from (holdsRow_own w.heap.size w.heap.size 115 37 3 (fun pre : List Plc => pre.length) flatP (fun pre v => v = .slice none 0 0 ↔ pre = [])) _) (ownFrom_below (Nat.le_refl _) (by simp)))
    (fun _ _ _ _ _ hs _ _ => hs)
    ⟨⟨_, bO, World.ownsRow_nil _ _ _ _, by simp⟩, hB0⟩
    (fun x a' W => ∃ Bx, Box3 W Bx x ∧ a' = { tmps := #[.slice none 0 0, .func (.func 106) #[] #[.pointer (some ⟨Bm, 0, none⟩)], .pointer (some ⟨w.heap.size, 0, none⟩), undef, .slice none 0 0, .pointer (some ⟨Bx, 0, none⟩), .func (.func 106) #[] #[.pointer (some ⟨Bm, 0, none⟩)], .agg #[.int .i64 x.1, .int .i64 x.2.1, .int .i64 x.2.2], undef, undef, undef, undef, undef], defers := [] })
    (fun x a' _ X Y row hs hg hr => by
      obtain ⟨Bx, h2, h3⟩ := hs
      refine ⟨Bx, (hg.block Bx (Array.getElem?_eq_some_iff.1 h2).1 (fun e => ?_)).trans h2, h3⟩
      obtain ⟨_, o, ho, hc⟩ := hr Bx e.symm
      rw [show X.heap[Bx]? = _ from h2] at ho
      cases ho
      cases hc) ?assign ?body ?done ?stop
  case assign =>
    rintro l pre x W K ⟨⟨v, bV, hrow, hnil⟩, hB1⟩ hK
    gi_wp2
    exact hK _ _ ((KeepsOthers.alloc _ _).from _) (KeepsWalks.alloc _ _) ⟨⟨v, bV.alloc _, hrow.alloc _, hnil⟩, hB1.alloc hB1.size _⟩ ⟨W.heap.size, World.alloc_heap_new W _, rfl⟩
  case body =>
    rintro l pre x a' W hl ⟨r, hr⟩ ⟨⟨v, hv, hrow, hnil⟩, hB⟩ ⟨Bx, hBx, rfl⟩ hlt
    have hc := hv.cell
    have hx := hBx.rule
    gi_wp2_with (gi_at_builtin; refine wpListIn_append_own _ rfl _ _ 115 rfl w.heap.size 37 i0 (.agg #[.int .i64 0, .int .i64 0, .int .i64 0]) 3 24 Tryz.underlying115 hi hz0 hz1 hz2 rfl (by decide) _ _ _ rfl (hrow.alloc _) ⟨W.heap.size, 0, none⟩ 1 1 [.int .i64 x.1, .int .i64 x.2.1, .int .i64 x.2.2] rfl rfl (cells_new _ _ _) (by simp [Value.oneCell']) (by omega) (by omega) (by have := hB.size; simp; omega) ?_; intro v' w1 hown' hgrow _; obtain ⟨g', cap', rfl⟩ := ownsRow_succ hown'; obtain ⟨hv1, hv2, hr2, hk2, hb2⟩ := hv.appended (by decide) hrow hB.size (Nat.le_refl _) hown' hgrow; have hc1 := hv1.cell; have hf1 := hv1.frozen)
    exact ⟨hk2.from _, hk2.walks, ⟨_, hv2, by rw [flatP_snoc]; simpa [encP] using hr2, by simp⟩, hB.trans hb2⟩
  case done =>
    rintro D ys W hD hS ⟨⟨v, hv, hrow, hnil⟩, hB⟩ hK
    have hc := hv.cell
    gi_wp2
    refine ⟨by simp, .inl ⟨_, _, rfl, run_takeDeferred hK, ?_⟩⟩
    exact ⟨_, results_tmp rfl _ _ _, v, ys, rfl, hS, ownsRow_putObj hrow _ hK rfl, hnil, hB.trans (belowK_b (w := w) (Nat.le_refl _) W D _ _ (by simp at hD; omega) hK rfl rfl)⟩
  case stop =>
    rintro D c pre W _ _ h _
    exact h.elim
end Go.Proofs.YtmifdkbpbkafjaaGreatDoor

/- Places: those whose words aren't 0, in their order. -/
namespace Go.Proofs.YtmifdkbpbkafjaaGreatDoor
open Go.RowKit Go.Maps Go.Shelf Go.Sort
set_option maxRecDepth 100000

/-! ### rows of places -/
def z3 : Plc := (0, 0, 0)
/-- v is a slice of just those places. -/
def RowP (w : World) (v : Value) (l : List Plc) : Prop :=
  (l = [] ∧ v = .slice none 0 0) ∨ ∃ g cap, v = .slice (some ⟨g, 0, none⟩) l.length cap ∧ g < w.heap.size ∧ ∀ j, j < l.length →
    w.cell? ⟨g, j * 3, none⟩ = some (.int .i64 (l.getD j z3).1) ∧ w.cell? ⟨g, j * 3 + 1, none⟩ = some (.int .i64 (l.getD j z3).2.1) ∧ w.cell? ⟨g, j * 3 + 2, none⟩ = some (.int .i64 (l.getD j z3).2.2)
theorem RowP.over {w w' : World} {v : Value} {l : List Plc} {T : Nat → Prop} (h : RowP w v l) (ht : Turn T w w') (hT : ∀ g len cap, v = .slice (some ⟨g, 0, none⟩) len cap → ¬ T g) : RowP w' v l := by
  rcases h with h | ⟨g, cap, hv, hg, hc⟩
  · exact .inl h
  · have hb := ht.block g hg (hT g _ cap hv)
    exact .inr ⟨g, cap, hv, Nat.lt_of_lt_of_le hg ht.size, fun j hj => by
      obtain ⟨h1, h2, h3⟩ := hc j hj
      refine ⟨?_, ?_, ?_⟩
      · rw [World.cell?_of_block (w := w) hb]; exact h1
      · rw [World.cell?_of_block (w := w) hb]; exact h2
      · rw [World.cell?_of_block (w := w) hb]; exact h3⟩

theorem flatP_get (l : List Plc) : ∀ (j c : Nat), j < l.length → c < 3 → (flatP l)[j * 3 + c]? = (encP (l.getD j z3))[c]? := by
  induction l with
  | nil => intro j c h; simp at h
  | cons x l ih =>
    intro j c hj hc
    have e : flatP (x :: l) = encP x ++ flatP l := by simp [flatP]
    cases j with
    | zero => rw [e, List.getElem?_append_left (by simp [encP]; omega)]; simp
    | succ j =>
      rw [e, List.getElem?_append_right (by simp [encP]; omega)]
      have := ih j c (by simpa using hj) hc
      have e2 : (j + 1) * 3 + c - (encP x).length = j * 3 + c := by simp [encP]; omega
      rw [e2, this]
      simp

theorem holds_of_row {w : World} {g cap : Nat} {cur : Array Value} {l : List Plc} {t : TypeId} (hg : w.heap[g]? = some (.cells cur t (0, 0))) (hc : cur.size = cap * 3) (hl : l.length ≤ cap) (ht : cur.toList.take (l.length * 3) = flatP l) : HoldsK encP 3 w g 0 l.toArray := by
  intro j hj
  have hj' : j < l.length * 3 := by simpa using hj
  refine ⟨?_, by simp [World.frozen?, hg]⟩
  have h1 : (cur.toList.take (l.length * 3))[j]? = (flatP l)[j]? := by rw [ht]
  rw [List.getElem?_take_of_lt hj'] at h1
  have h2 := flatP_get l (j / 3) (j % 3) (by omega) (by omega)
  rw [show j / 3 * 3 + j % 3 = j by omega] at h2
  have h3 : (encP (l.getD (j / 3) z3))[j % 3]? = some ((encP (l.getD (j / 3) z3))[j % 3]!) := by
    have : j % 3 < (encP (l.getD (j / 3) z3)).length := by simp [encP]; omega
    rw [List.getElem?_eq_getElem this, getElem!_pos (encP (l.getD (j / 3) z3)) (j % 3) this]
  simp only [World.cell?, hg, Nat.zero_add]
  rw [get_flatK _ _ _ _ (by simpa using hj')]
  have h4 : l.toArray[j / 3]! = l.getD (j / 3) z3 := by
    have hlt : j / 3 < l.length := by omega
    simp [hlt]
  have h5 : cur[j]? = some ((encP (l.getD (j / 3) z3))[j % 3]!) := by
    rw [← h3, ← h2, ← h1]; simp
  rw [h4]
  simpa using h5

theorem grown_sorted {w : World} {g n : Nat} {os : Array Obj} (d : Array Plc) : w.grownBy (sortWorldK encP 3 w g 0 n d os) (some g) := by
  refine ⟨rfl, rfl, rfl, by simp [sortWorldK, putRowK, grow, putRow, mapBlock, Sort.ahead], fun k hk hne => ?_⟩
  have h1 : g ≠ k := fun e => hne (by rw [e])
  unfold sortWorldK putRowK
  rw [heap_grow_old _ _ (by simpa [putRow, mapBlock, Sort.ahead] using hk)]
  simp [putRow, mapBlock, Sort.ahead, Array.getElem?_modify, h1]

theorem row_of_holds {w : World} {g cap : Nat} {l : List Plc} (hg : g < w.heap.size) (h : HoldsK encP 3 w g 0 l.toArray) : RowP w (.slice (some ⟨g, 0, none⟩) l.length cap) l := by
  refine .inr ⟨g, cap, rfl, hg, fun j hj => ?_⟩
  have e : l.toArray[j]! = l.getD j z3 := by simp [hj]
  have h0 := (h.cell (i := j) (c := 0) (by simpa using hj) (by omega)).1
  have h1 := (h.cell (i := j) (c := 1) (by simpa using hj) (by omega)).1
  have h2 := (h.cell (i := j) (c := 2) (by simpa using hj) (by omega)).1
  rw [e] at h0 h1 h2
  simp only [Nat.zero_add, Nat.add_zero] at h0 h1 h2
  exact ⟨h0, h1, h2⟩

/-! ### the order -/
def Rising (l : List Plc) : Prop := l.Pairwise fun x y => ltOf cmpP x y = true
theorem sortL_perm (l : List Plc) : (sortL l).Perm l := List.mergeSort_perm _ _
theorem sortL_rising {l : List Plc} (h : l.Nodup) : Rising (sortL l) := by
  have hs : (sortL l).Pairwise fun x y => (!(ltOf cmpP) y x) = true := by
    unfold sortL
    refine List.pairwise_mergeSort (fun a b c h1 h2 => ?_) (fun a b => ?_) l
    · simp only [Bool.not_eq_true'] at *
      exact swoP.ntrans _ _ _ h2 h1
    · simp only [Bool.or_eq_true, Bool.not_eq_true']
      cases h1 : ltOf cmpP b a
      · exact .inl rfl
      · refine .inr ?_
        cases h2 : ltOf cmpP a b
        · rfl
        · have := swoP.trans _ _ _ h1 h2
          rw [swoP.irrefl] at this
          cases this
  have hn : (sortL l).Nodup := (sortL_perm l).nodup_iff.2 h
  refine (hs.and hn).imp fun {x y} hxy => ?_
  obtain ⟨h1, h2⟩ := hxy
  cases h3 : ltOf cmpP x y
  · exact absurd (totP x y h3 (by simpa using h1)) h2
  · rfl
theorem rising_eq : ∀ {l m : List Plc}, Rising l → Rising m → (∀ x, x ∈ l ↔ x ∈ m) → l = m
  | [], [], _, _, _ => rfl
  | [], y :: m, _, _, h => by have := (h y).2 (by simp); simp at this
  | x :: l, [], _, _, h => by have := (h x).1 (by simp); simp at this
  | x :: l, y :: m, h1, h2, h => by
    obtain ⟨a1, a2⟩ := List.pairwise_cons.1 h1
    obtain ⟨b1, b2⟩ := List.pairwise_cons.1 h2
    have no : ∀ a b : Plc, ltOf cmpP a b = true → ltOf cmpP b a = true → False := fun a b p q => by
      have := swoP.trans _ _ _ p q
      rw [swoP.irrefl] at this
      cases this
    have hxy : x = y := by
      rcases List.mem_cons.1 ((h x).1 (by simp)) with e | hx
      · exact e
      · rcases List.mem_cons.1 ((h y).2 (by simp)) with e | hy
        · exact e.symm
        · exact (no x y (a1 y hy) (b1 x hx)).elim
    subst hxy
    rw [rising_eq a2 b2 fun z => ⟨fun hz => by
      rcases List.mem_cons.1 ((h z).1 (by simp [hz])) with e | h'
      · subst e; exact (no _ _ (a1 _ hz) (a1 _ hz)).elim
      · exact h', fun hz => by
      rcases List.mem_cons.1 ((h z).2 (by simp [hz])) with e | h'
      · subst e; exact (no _ _ (b1 _ hz) (b1 _ hz)).elim
      · exact h'⟩]
/-- l are the places whose words aren't 0, rising. -/
def PlacesOf (f : Plc → Int) (l : List Plc) : Prop := Rising l ∧ ∀ x, x ∈ l ↔ f x ≠ 0
theorem PlacesOf.eq {f : Plc → Int} {l m : List Plc} (h : PlacesOf f l) (k : PlacesOf f m) : l = m := rising_eq h.1 k.1 fun x => (h.2 x).trans (k.2 x).symm
theorem PlacesOf.sort {f : Plc → Int} {ss : List Plc} (h : OpsF f ss) : PlacesOf f (sortL ss) := ⟨sortL_rising h.1, fun x => ((sortL_perm ss).mem_iff).trans (h.2 x)⟩

/-! ### the calls -/
set_option maxHeartbeats 1000000 in
theorem collect_any {Bm nn : Nat} {mp : Option Nat} {f : Plc → Int} {w : World} (hBm : Bm < w.heap.size)
    (hm : w.cell? ⟨Bm, 0, none⟩ = some (.map mp)) (hM : MapIs w mp f nn) (hN : nn ≤ maxLen) (hNb : nn * 24 ≤ 140737488355328) :
    Calls Tryz.prog 104 #[.func (.func 106) #[] #[.pointer (some ⟨Bm, 0, none⟩)]] w fun e w' => ∃ v ss, e = .returned v ∧ OpsN f nn ss ∧ w'.ownsRow w.heap.size 37 3 v ss.length (flatP ss) ∧ (v = .slice none 0 0 ↔ ss = []) ∧ Below w.heap.size w w' := by
  have h1 : Calls Tryz.prog 123 #[.slice none 0 0, .func (.func 106) #[] #[.pointer (some ⟨Bm, 0, none⟩)]] w _ := (callsIn_wide (n := 6)).1 (append_in Fence.wide 6 trivial trivial rfl (by omega) hBm hm hM hN hNb)
  clear hm hM
  go_enter Tryz.func104, Tryz.ntmps104
  go_wp2_with (refine h1.mono ?_; rintro e w1 ⟨v, ss, rfl, h2, h3, h4, h5⟩)
  go_ret
  exact ⟨v, ss, rfl, h2, h3, h4, h5⟩

set_option maxHeartbeats 1000000 in
theorem sorted_any {Bm nn : Nat} {mp : Option Nat} {f : Plc → Int} {w : World} (hBm : Bm < w.heap.size)
    (hm : w.cell? ⟨Bm, 0, none⟩ = some (.map mp)) (hM : MapIs w mp f nn) (hN : nn ≤ maxLen) (hNb : nn * 24 ≤ 140737488355328) :
    Calls Tryz.prog 79 #[.func (.func 106) #[] #[.pointer (some ⟨Bm, 0, none⟩)], .func (.func 81) #[] #[]] w fun e w' => ∃ v l, e = .returned v ∧ PlacesOf f l ∧ RowP w' v l ∧ Below w.heap.size w w' := by
  have h1 := collect_any hBm hm hM hN hNb
  clear hm hM
  go_enter Tryz.func79, Tryz.ntmps79
  go_wp2_with fail
  refine h1.mono ?_
  rintro e w1 ⟨v, ss, rfl, ⟨h2, h2n⟩, h3, h4, h5⟩
  rcases h3.2 with ⟨rfl, hz⟩ | ⟨g, cap, cur, rfl, hg0, hg, hl, hcap, hcs, htk⟩
  · have hs : ss = [] := h4.1 rfl
    subst hs
    go_wp2_with (refine (sort_none _ _ _ _).mono ?_; rintro e w2 ⟨rfl, rfl⟩)
    go_ret
    exact ⟨_, [], rfl, ⟨List.Pairwise.nil, fun x => by simpa using h2.2 x⟩, .inl ⟨rfl, rfl⟩, h5⟩
  · have hH := holds_of_row hg hcs hl htk
    have hgl : g < w1.heap.size := (Array.getElem?_eq_some_iff.1 hg).1
    have hc := sort_any g 0 cap ss.toArray w1 hH hgl (by simp; omega)
    have h6 := PlacesOf.sort h2
    have hlen : (sortL ss).length = ss.length := (sortL_perm ss).length_eq
    simp only [List.size_toArray] at hc
    have HH := Lib.hid hH
    clear h1 h3 h4 hg htk hcs hH
    go_wp2_with (refine hc.mono ?_; rintro e w2 ⟨rfl, n, os, rfl⟩)
    go_ret
    have hgr := grown_sorted (w := w1) (g := g) (n := n) (os := os) (sortL ss).toArray
    refine ⟨_, sortL ss, rfl, h6, ?_, h5.grown hgr h5.size fun k e => by cases e; exact hg0⟩
    rw [← hlen]
    refine row_of_holds (Nat.lt_of_lt_of_le hgl hgr.size) (holdsK_grow _ _ _ _ _ _ _ (by simpa [putRowK, putRow, mapBlock, Sort.ahead] using hgl) (holdsK_putRowK _ _ _ _ _ ss.toArray _ ?_ (by simp [hlen])))
    exact holdsK_ahead _ _ _ _ _ _ _ HH.out

set_option maxHeartbeats 1000000 in
theorem places_any {c n : Nat} {F : Nat → Prop} {f : Plc → Int} {q : Cnt} {w : World} (hn : n ≤ 1000000) (hC : IsC w c F f q n) :
    Calls Tryz.prog 48 #[.pointer (some ⟨c, 0, none⟩)] w fun e w' => ∃ v l, e = .returned v ∧ PlacesOf f l ∧ RowP w' v l ∧ Below w.heap.size w w' := by
  obtain ⟨mp, hb, hm, hF⟩ := hC
  have r := hb.rule
  unfold cv at r
  have hk := fun w' => (callsIn_wide (n := 6)).1 (keys_in Fence.wide 6 trivial rfl mp w')
  have hs := sorted_any (w := w.alloc (.cells #[.map mp] 138)) (Bm := w.heap.size) (by simp) ((Blk.new 0 w [.map mp] _).rule 0) (hm.more _) (by unfold maxLen; omega) (by omega)
  go_enter Tryz.func48, Tryz.ntmps48
  go_wp2_with fail
  refine (hk _).mono ?_
  rintro e w1 ⟨rfl, rfl⟩
  clear hk
  go_wp2_with fail
  refine hs.mono ?_
  rintro e w2 ⟨v, l, rfl, h1, h2, h3⟩
  clear hs
  go_wp2
  go_ret
  exact ⟨v, l, rfl, h1, h2, ((Below.refl _ _).alloc (Nat.le_refl _) _).trans (h3.mono (by simp))⟩
/-- The one place whose word isn't 0. -/
theorem places_one {x : Plc} {v : Int} (hv : v ≠ 0) {l : List Plc} (h : PlacesOf (upd (fun _ => 0) x v) l) : l.length = 1 := by
  have h1 : PlacesOf (upd (fun _ => 0) x v) [x] := ⟨List.pairwise_singleton _ _, fun y => by unfold upd; split <;> simp_all⟩
  rw [h.eq h1]; rfl

theorem RowP.len {w : World} {v : Value} {l : List Plc} (h : RowP w v l) : ∃ a cap, v = .slice a l.length cap := by
  rcases h with ⟨rfl, rfl⟩ | ⟨g, cap, rfl, _⟩
  · exact ⟨_, _, rfl⟩
  · exact ⟨_, _, rfl⟩
theorem RowP.below {w w' : World} {v : Value} {l : List Plc} (h : RowP w v l) (hb : Below w.heap.size w w') : RowP w' v l := h.over (Turn.of_below hb : Turn (fun _ => False) w w') fun _ _ _ _ e => e
end Go.Proofs.YtmifdkbpbkafjaaGreatDoor

/- The reference's words in a row: Swap, Less. -/
namespace Go.Proofs.YtmifdkbpbkafjaaGreatDoor
open Go.RowKit Go.Maps Go.Sort
set_option maxRecDepth 100000

set_option maxHeartbeats 1600000 in
theorem less_any (x y z a b d : Int) (w : World) :
    Calls Tryz.prog 82 #[.agg #[.int .i64 x, .int .i64 y, .int .i64 z], .agg #[.int .i64 a, .int .i64 b, .int .i64 d]] w fun e w' => e = .returned (.bool (ltOf cmpP (x, y, z) (a, b, d))) ∧ Below w.heap.size w w' := by
  have hE := ((Fr.start w).push w.heap.size rfl [.int .i64 x, .int .i64 y, .int .i64 z] 37).push (w.heap.size + 1) (by simp) [.int .i64 a, .int .i64 b, .int .i64 d] 37
  have r := hE.rule 0 rfl
  have r1 := hE.rule 1 rfl
  have hL : ltOf cmpP (x, y, z) (a, b, d) = if x ≠ a then decide (x < a) else if y ≠ b then decide (y < b) else decide (z < d) := by
    have h := ltP (x, y, z) (a, b, d)
    rw [Bool.eq_iff_iff, h]
    split
    · simp; omega
    · split
      · simp; omega
      · simp; omega
  rw [hL]
  go_enter Tryz.func82, Tryz.ntmps82
  by_cases h1 : x = a
  · subst h1
    by_cases h2 : y = b
    · subst h2
      go_wp2_with fail
      go_ret
      exact ⟨by simp, hE.below⟩
    · go_wp2_with fail
      go_ret
      exact ⟨by simp [h2], hE.below⟩
  · go_wp2_with fail
    go_ret
    exact ⟨by simp [h1], hE.below⟩



end Go.Proofs.YtmifdkbpbkafjaaGreatDoor

/- The reference's words among other things; counts as cells. -/
namespace Go.Proofs.YtmifdkbpbkafjaaGreatDoor
open Go.RowKit Go.Maps
set_option maxRecDepth 100000

/-- Counts in five cells. -/
def bv (t : Cnt) : List Value := [.int .i64 t.l, .int .i64 t.s, .int .i64 t.w, .int .i64 t.f, .int .i64 t.a]
theorem swf_getL (l : List OneR) (x : Plc) (o v : Int) : swf (getL l) x o v = getL (swL l x o v) := by
  unfold swf swL
  split
  · rw [getL_set]
  · rfl
theorem LOk.sw {l : List OneR} {N : Nat} (h : LOk l N) (x : Plc) (o v : Int) : LOk (swL l x o v) (N + 1) := by
  unfold swL; split
  · exact h.set x v
  · exact h.more
end Go.Proofs.YtmifdkbpbkafjaaGreatDoor

/- Threads: an Alloc's step, of the reference, whatever its row. -/
namespace Go.Proofs.YtmifdkbpbkafjaaGreatDoor
open Go.RowKit Go.Maps
set_option maxRecDepth 100000

/-- The thread's, and the memory, of the reference. -/
def SR (C : Cf) (X : Tm) (V : Wm) (T : Th) (FU : Nat → Prop) (ml : List OneR) : SU := { u := X.u, m := V.m, ck := C.k, cs := C.s, cb := C.b, ch := C.h, cl := C.l, ce := T.e, hs := T.hs, ro := X.ro, N := X.N, A := X.A, c := X.rc, ql := T.ql, F := FU, ml := ml }
theorem nextW_word {x s : Int} (hs : 0 ≤ s ∧ s ≤ 8388607) (hv : verI x < 1099511627775) : nextW x s = wordI false s (verI x + 1) := by
  unfold nextW
  rw [if_pos (by simp [isS]; omega), if_neg (by omega)]
theorem swL_length (l : List OneR) (x : Plc) (o v : Int) : (swL l x o v).length ≤ l.length + 1 := by
  unfold swL
  split
  · exact setL_length _ _ _
  · omega

section
variable {w0 w : World} {R : List Item} {C : Cf} {d : Dd} {X : Tm} {V : Wm} {T : Th} {FU : Nat → Prop} {ml : List OneR} {n b : Nat}
set_option maxHeartbeats 1600000 in
theorem alR (hk : RowOk C T n) (hml : ml.length ≤ 999999) (hN : 0 ≤ X.N ∧ X.N ≤ 4000000) (hv : T.apc = 6 → verI T.ah < 1099511627775) (hfu : ∀ x, InU (getL ml x)) (hkk : T.apc ≤ 10 ∨ T.apc - 10 < (WD C d T).length) (hE : Env w0 (boxI b (rav (T.apc : Int) T.ah T.an T.ar) :: LU (SR C X V T FU ml) R) w) :
    Calls Tryz.prog 42 #[.pointer (some ⟨b, 0, none⟩), .pointer (some ⟨X.u, 0, none⟩), .pointer (some ⟨V.m, 0, none⟩), .agg #[.int .i64 d.ok, .int .u64 d.key, .int .u64 d.val, .int .i64 d.lv]] w fun o w' => o = .returned (.int .i64 (allocM C d T (getL ml)).1) ∧ ∃ (A' : Option Addr) (rc' : Nat) (N' : Int) (FU' : Nat → Prop) (ml' : List OneR), getL ml' = (allocM C d T (getL ml)).2.2 ∧ ml'.length ≤ ml.length + 1 ∧ 0 ≤ N' ∧ N' ≤ 4000000 ∧ (((allocM C d T (getL ml)).1 = 0 ∧ Env w0 (boxI b (rav ((allocM C d T (getL ml)).2.1.apc : Int) (allocM C d T (getL ml)).2.1.ah (allocM C d T (getL ml)).2.1.an (allocM C d T (getL ml)).2.1.ar) :: LU (SR C { X with A := A', rc := rc', N := N' } V (allocM C d T (getL ml)).2.1 FU' ml') R) w') ∨ ((allocM C d T (getL ml)).1 ≠ 0 ∧ Env w0 (LU (SR C { X with A := A', rc := rc', N := N' } V (allocM C d T (getL ml)).2.1 FU' ml') R) w')) := by
  have drop : ∀ {S : SU} {y : Item} {w' : World}, Env w0 (y :: LU S R) w' → Env w0 (LU S R) w' := fun h => h.sub (.cons _ (List.Sublist.refl _))
  rcases hk.apc with h1 | h1 | h1 | h1 | h1 | h1 | h1
  · have hal : allocM C d T (getL ml) = (2, T, swf (getL ml) (1, 0, 0) T.e (T.e + 1)) := by unfold allocM; rw [if_pos h1]
    rw [hal]
    rw [h1] at hE
    refine (ral1 (U := SR C X V T FU ml) hk.he (by show ml.length ≤ 1000000; omega) hk.hw.1 hE).mono ?_
    rintro o w1 ⟨rfl, F5, hE1⟩
    exact ⟨rfl, X.A, X.rc, X.N, F5, _, (swf_getL _ _ _ _).symm, swL_length _ _ _ _, hN.1, hN.2, .inr ⟨show (2 : Int) ≠ 0 by decide, drop hE1⟩⟩
  · rw [h1] at hE
    by_cases hx : C.s ≤ getL ml (3, 0, 0)
    · have hal : allocM C d T (getL ml) = (0, { T with apc := 3 }, upd (getL ml) (3, 0, 0) (IntKind.u64.wrap (getL ml (3, 0, 0) + 1))) := by unfold allocM; rw [if_neg (by omega), if_pos h1, if_pos hx]
      rw [hal]
      refine (ral2No (U := SR C X V T FU ml) _ rfl (by show ml.length ≤ 999999; omega) (hfu _).1 hx hk.hs hk.hw.1 hE).mono ?_
      rintro o w1 ⟨rfl, F5, hE1⟩
      exact ⟨rfl, X.A, X.rc, X.N, F5, _, getL_set _ _ _, setL_length _ _ _, hN.1, hN.2, .inl ⟨rfl, hE1⟩⟩
    · have hal : allocM C d T (getL ml) = (decS (T.ql ++ [(getL ml (3, 0, 0) + 1, 0, 0)]) T.e C.l, { T with ql := T.ql ++ [(getL ml (3, 0, 0) + 1, 0, 0)], apc := decP (T.ql ++ [(getL ml (3, 0, 0) + 1, 0, 0)]) T.e C.l }, upd (getL ml) (3, 0, 0) (IntKind.u64.wrap (getL ml (3, 0, 0) + 1))) := by unfold allocM; rw [if_neg (by omega), if_pos h1, if_neg hx]
      rw [hal]
      refine (ral2Yes (U := SR C X V T FU ml) _ rfl (by show ml.length ≤ 999999; omega) (hfu _).1 (show getL ml (3, 0, 0) < C.s by omega) hk.hs.2 (by have := hk.hl; show T.ql.length ≤ 1000000; omega) (by show 0 ≤ X.N ∧ X.N ≤ 1099511627776; omega) hk.hw.1 hE).mono ?_
      rintro o w1 ⟨rfl, pc', F5, A', c', hpc, hE1⟩
      have hNN := roomN_in hN hk.hl
      by_cases hz : decP (T.ql ++ [(getL ml (3, 0, 0) + 1, 0, 0)]) T.e C.l = 0
      · exact ⟨rfl, A', c', _, F5, _, getL_set _ _ _, setL_length _ _ _, hNN.1, hNN.2, .inr ⟨show decS (T.ql ++ [(getL ml (3, 0, 0) + 1, 0, 0)]) T.e C.l ≠ 0 by unfold decS; rw [if_pos hz]; decide, drop hE1⟩⟩
      · have hpc := hpc hz
        subst hpc
        exact ⟨rfl, A', c', _, F5, _, getL_set _ _ _, setL_length _ _ _, hNN.1, hNN.2, .inl ⟨show decS (T.ql ++ [(getL ml (3, 0, 0) + 1, 0, 0)]) T.e C.l = 0 by unfold decS; rw [if_neg hz], hE1⟩⟩
  · rw [h1] at hE
    have hal : allocM C d T (getL ml) = (poolS (getL ml (2, 0, 0)) C.l, { T with ah := getL ml (2, 0, 0), apc := 4 }, getL ml) := by unfold allocM; rw [if_neg (by omega), if_neg (by omega), if_pos h1]
    rw [hal]
    refine (ral3 (U := SR C X V T FU ml) _ rfl (hfu _) (by show ml.length ≤ 1000000; omega) hk.hw.1 hE).mono ?_
    rintro o w1 ⟨rfl, pc', hpc, hE1⟩
    by_cases hz : poolS (getL ml (2, 0, 0)) C.l = 0
    · have hpc := hpc hz
      subst hpc
      exact ⟨rfl, X.A, X.rc, X.N, FU, ml, rfl, by omega, hN.1, hN.2, .inl ⟨hz, hE1⟩⟩
    · exact ⟨rfl, X.A, X.rc, X.N, FU, ml, rfl, by omega, hN.1, hN.2, .inr ⟨hz, drop hE1⟩⟩
  · rw [h1] at hE
    have hal : allocM C d T (getL ml) = (0, { T with an := getL ml (5, slotI T.ah, 2), apc := 5 }, getL ml) := by unfold allocM; rw [if_neg (by omega), if_neg (by omega), if_neg (by omega), if_pos h1]
    rw [hal]
    refine (ral4 (U := SR C X V T FU ml) _ rfl (by show ml.length ≤ 1000000; omega) hk.hw.1 hE).mono ?_
    rintro o w1 ⟨rfl, hE1⟩
    exact ⟨rfl, X.A, X.rc, X.N, FU, ml, rfl, by omega, hN.1, hN.2, .inl ⟨rfl, hE1⟩⟩
  · rw [h1] at hE
    have hal : allocM C d T (getL ml) = (0, { T with ar := getL ml (5, slotI T.ah, 1), apc := 6 }, getL ml) := by unfold allocM; rw [if_neg (by omega), if_neg (by omega), if_neg (by omega), if_neg (by omega), if_pos h1]
    rw [hal]
    refine (ral5 (U := SR C X V T FU ml) _ rfl (by show ml.length ≤ 1000000; omega) hk.hw.1 hE).mono ?_
    rintro o w1 ⟨rfl, hE1⟩
    exact ⟨rfl, X.A, X.rc, X.N, FU, ml, rfl, by omega, hN.1, hN.2, .inl ⟨rfl, hE1⟩⟩
  · rw [h1] at hE
    have hnx := nextW_word (slotI_in T.an) (hv h1)
    by_cases hx : getL ml (2, 0, 0) = T.ah
    · have hal : allocM C d T (getL ml) = (decS (T.ql ++ [(slotI T.ah, epI T.ar, 0)]) T.e C.l, { T with ql := T.ql ++ [(slotI T.ah, epI T.ar, 0)], apc := decP (T.ql ++ [(slotI T.ah, epI T.ar, 0)]) T.e C.l }, swf (getL ml) (2, 0, 0) T.ah (nextW T.ah (slotI T.an))) := by unfold allocM; rw [if_neg (by omega), if_neg (by omega), if_neg (by omega), if_neg (by omega), if_neg (by omega), if_pos h1, if_pos hx]
      rw [hal, hnx]
      refine (ral6Yes (U := SR C X V T FU ml) hk.hw.2.1 (by show ml.length ≤ 1000000; omega) hx hk.hw.2.2 (by have := hk.hl; show T.ql.length ≤ 1000000; omega) (by show 0 ≤ X.N ∧ X.N ≤ 1099511627776; omega) hk.hw.1 hE).mono ?_
      rintro o w1 ⟨rfl, pc', F5, A', c', hpc, hE1⟩
      have hNN := roomN_in hN hk.hl
      by_cases hz : decP (T.ql ++ [(slotI T.ah, epI T.ar, 0)]) T.e C.l = 0
      · exact ⟨rfl, A', c', _, F5, _, (swf_getL _ _ _ _).symm, swL_length _ _ _ _, hNN.1, hNN.2, .inr ⟨show decS (T.ql ++ [(slotI T.ah, epI T.ar, 0)]) T.e C.l ≠ 0 by unfold decS; rw [if_pos hz]; decide, drop hE1⟩⟩
      · have hpc := hpc hz
        subst hpc
        exact ⟨rfl, A', c', _, F5, _, (swf_getL _ _ _ _).symm, swL_length _ _ _ _, hNN.1, hNN.2, .inl ⟨show decS (T.ql ++ [(slotI T.ah, epI T.ar, 0)]) T.e C.l = 0 by unfold decS; rw [if_neg hz], hE1⟩⟩
    · have hal : allocM C d T (getL ml) = (0, { T with apc := 3 }, swf (getL ml) (2, 0, 0) T.ah (nextW T.ah (slotI T.an))) := by unfold allocM; rw [if_neg (by omega), if_neg (by omega), if_neg (by omega), if_neg (by omega), if_neg (by omega), if_pos h1, if_neg hx]
      rw [hal, hnx]
      refine (ral6No (U := SR C X V T FU ml) hk.hw.2.1 (by show ml.length ≤ 1000000; omega) hx hk.hw.1 hE).mono ?_
      rintro o w1 ⟨rfl, F5, hE1⟩
      exact ⟨rfl, X.A, X.rc, X.N, F5, _, (swf_getL _ _ _ _).symm, swL_length _ _ _ _, hN.1, hN.2, .inl ⟨rfl, hE1⟩⟩
  · obtain ⟨hl3, hl5⟩ := WD_len C d T
    by_cases h10 : T.apc = 10
    · rw [h10] at hE
      obtain ⟨hhs, x, y, t, hql, hx1, hx2⟩ := hk.born h10
      have hal : allocM C d T (getL ml) = (lastS 0 (WD C d T).length, { T with ql := t, hs := x, apc := 11 }, upd (getL ml) (5, x, 0) T.e) := by
        unfold allocM
        rw [if_neg (by omega), if_neg (by omega), if_neg (by omega), if_neg (by omega), if_neg (by omega), if_neg (by omega)]
        simp only [h10, hql, if_true, List.tail_cons, List.headD_cons]
        rfl
      have hls : lastS 0 (WD C d T).length = 0 := by unfold lastS; rw [if_neg (by omega)]
      rw [hal, hls]
      have hl := hk.hl
      rw [hql] at hl
      have hct := ral10 (U := SR C X V T FU ml) (ok := d.ok) (key := d.key) (val := d.val) (lv := d.lv) x y t hql (by simp at hl; omega) 0 T.e rfl hk.he (by show ml.length ≤ 1000000; omega) hk.hw.1 hE
      have hls2 : lastS 0 (wordsA (SR C X V T FU ml).ck (SR C X V T FU ml).ce d.key d.val (IntKind.u64.wrap d.lv)).length = 0 := hls
      rw [hls2] at hct
      refine hct.mono ?_
      rintro o w1 ⟨rfl, F5, A', c', hE1⟩
      exact ⟨rfl, A', c', X.N, F5, _, getL_set _ _ _, setL_length _ _ _, hN.1, hN.2, .inl ⟨rfl, hE1⟩⟩
    · obtain ⟨k, hk10⟩ : ∃ k, T.apc = 10 + k := ⟨T.apc - 10, by omega⟩
      have hkk2 : T.apc - 10 = k := by omega
      have hkl : k < (WD C d T).length := by omega
      obtain ⟨⟨part, word⟩, hpw⟩ : ∃ pw, (WD C d T)[k]? = some pw := ⟨_, List.getElem?_eq_getElem hkl⟩
      have hal : allocM C d T (getL ml) = (lastS k (WD C d T).length, { T with apc := T.apc + 1 }, upd (getL ml) (5, T.hs, part) word) := by
        unfold allocM
        rw [if_neg (by omega), if_neg (by omega), if_neg (by omega), if_neg (by omega), if_neg (by omega), if_neg (by omega)]
        have hg : (wordsA C.k T.e d.key d.val (IntKind.u64.wrap d.lv)).getD k (0, 0) = (part, word) := by
          have h9 : (wordsA C.k T.e d.key d.val (IntKind.u64.wrap d.lv))[k]? = some (part, word) := hpw
          rw [List.getD_eq_getElem?_getD, h9]
          rfl
        simp only [hkk2, hg]
        rw [if_neg (by omega)]
        rfl
      have hpc : ((T.apc : Nat) : Int) = 10 + (k : Int) := by omega
      rw [hpc] at hE
      rw [hal]
      refine (ralS (U := SR C X V T FU ml) (ok := d.ok) (key := d.key) (val := d.val) (lv := d.lv) k (by omega) part word hpw hk.he (by show ml.length ≤ 1000000; omega) hk.hw.1 hE).mono ?_
      rintro o w1 ⟨rfl, F5, hE1⟩
      have hpc2 : (10 + (k : Int) + 1) = ((T.apc + 1 : Nat) : Int) := by omega
      rw [hpc2] at hE1
      by_cases hz : lastS k (WD C d T).length = 0
      · exact ⟨rfl, X.A, X.rc, X.N, F5, _, getL_set _ _ _, setL_length _ _ _, hN.1, hN.2, .inl ⟨hz, hE1⟩⟩
      · exact ⟨rfl, X.A, X.rc, X.N, F5, _, getL_set _ _ _, setL_length _ _ _, hN.1, hN.2, .inr ⟨hz, drop hE1⟩⟩
end
end Go.Proofs.YtmifdkbpbkafjaaGreatDoor

/- Threads: the contract of step, where an Alloc goes on. -/
namespace Go.Proofs.YtmifdkbpbkafjaaGreatDoor
open Go.RowKit Go.Maps
set_option maxRecDepth 100000

/-- Permutations of things, by counting. -/
theorem perm_of {L L' : List Item} (h : ∀ [BEq Item] [LawfulBEq Item] (z : Item), L.count z = L'.count z) : L.Perm L' := by
  classical
  exact List.perm_iff_count.2 fun z => h z
theorem Env.mem {w0 w : World} {L : List Item} (h : Env w0 L w) {a : Item} (ha : a ∈ L) : a.says w := (h.2.2 a ha).1
theorem gen_post {P : Program} {g : FuncId} {args : Array Value} {w : World} {Q : Ending → World → Prop} (h : ∀ PP : Ending → World → Prop, Hid (∀ o w', Q o w' → PP o w') → Calls P g args w PP) : Calls P g args w Q := h Q (Lib.hid fun _ _ h => h)
theorem allocM_keep (C : Cf) (d : Dd) (T : Th) (f : Mem) : (allocM C d T f).2.1.e = T.e ∧ (allocM C d T f).2.1.nd = T.nd ∧ (allocM C d T f).2.1.pc = T.pc ∧ (allocM C d T f).2.1.rs = T.rs ∧ (allocM C d T f).2.1.rpc = T.rpc ∧ (allocM C d T f).2.1.re = T.re ∧ (allocM C d T f).2.1.gpc = T.gpc ∧ (allocM C d T f).2.1.gh = T.gh ∧ (allocM C d T f).2.1.gg = T.gg ∧ (allocM C d T f).2.1.done = T.done ∧ (allocM C d T f).2.1.full = T.full := by
  unfold allocM
  repeat' split
  all_goals exact ⟨rfl, rfl, rfl, rfl, rfl, rfl, rfl, rfl, rfl, rfl, rfl⟩
theorem allocM_state (C : Cf) (d : Dd) (T : Th) (f : Mem) : (allocM C d T f).1 = 0 ∨ (allocM C d T f).1 = 1 ∨ (allocM C d T f).1 = 2 ∨ (allocM C d T f).1 = 3 ∨ (allocM C d T f).1 = 4 := by
  unfold allocM decS poolS lastS
  repeat' split
  all_goals first | exact .inl rfl | exact .inr (.inl rfl) | exact .inr (.inr (.inl rfl)) | exact .inr (.inr (.inr (.inl rfl))) | exact .inr (.inr (.inr (.inr rfl))) | (dsimp only; repeat' split) <;> simp

/-- What goes on, in memory. -/
def Mach (C : Cf) (d : Dd) (X : Tm) (T : Th) (ms : List Item) : Prop :=
  if T.pc = 2 then ∃ a b left s gl, X.pa = .pointer (some ⟨a, 0, none⟩) ∧ X.pb = .pointer (some ⟨b, 0, none⟩) ∧ LeftIs C d T left s gl ∧ ms = boxI a (avD X.c a d T left s) :: boxI b (rav (T.apc : Int) T.ah T.an T.ar) :: gl
  else if T.pc = 3 then ∃ r x, X.pr = .pointer (some ⟨r, 0, none⟩) ∧ X.pq = .pointer (some ⟨x, 0, none⟩) ∧ ms = [boxI r (rtv X.c (nxR r T.rpc) T.rs T.re), boxI x (rrv T.rs T.rpc T.re)]
  else if T.pc = 4 then ∃ r x, X.pg = .pointer (some ⟨r, 0, none⟩) ∧ X.ph = .pointer (some ⟨x, 0, none⟩) ∧ ms = [boxI r (gvv X.c (nxG r T.gpc) T.gh T.gg), boxI x (rgv T.gpc T.gh T.gg)]
  else ms = []
/-- A thread's things are where they were. -/
def Same (X X' : Tm) : Prop := X'.thr = X.thr ∧ X'.c = X.c ∧ X'.q = X.q ∧ X'.u = X.u ∧ X'.dA = X.dA ∧ X'.dn = X.dn ∧ X'.dc = X.dc
section
variable {w0 w : World} {R : List Item} {C : Cf} {d : Dd} {X : Tm} {V : Wm} {T : Th} {G FU : Nat → Prop} {qc : Cnt} {ml : List OneR} {n a b : Nat} {left : Value} {s : Int} {gl : List Item}
set_option maxHeartbeats 6400000 in
theorem step2_t (ds : List Dd) (hds : DsAt w0 R X.dA ds) (hdn : X.dn = ds.length) (hdl : ds.length ≤ 1000) (hnd : 1 ≤ T.nd ∧ T.nd ≤ ds.length) (hdd : ds.getD (T.nd - 1) default = d) (hpc : T.pc = 2) (hpa : X.pa = .pointer (some ⟨a, 0, none⟩)) (hpb : X.pb = .pointer (some ⟨b, 0, none⟩)) (hdone : 0 ≤ T.done ∧ T.done ≤ 1000000)
    (hg : Glo w0) (hk : RowOk C T n) (hd : InU d.key ∧ InU d.val) (hlf : LeftIs C d T left s gl) (hml : ml.length ≤ 999999) (hN : 0 ≤ X.N ∧ X.N ≤ 4000000) (hv : T.apc = 6 → verI T.ah < 1099511627775)
    (hE : Env w0 (LT (SP C X V T (getL ml) G qc n) (LU (SR C X V T FU ml) (boxI X.thr (thv X T) :: boxI a (avD X.c a d T left s) :: boxI b (rav (T.apc : Int) T.ah T.an T.ar) :: (gl ++ R)))) w) :
    Calls Tryz.prog 14 #[.pointer (some ⟨X.thr, 0, none⟩), .pointer (some ⟨V.p, 0, none⟩), .pointer (some ⟨V.m, 0, none⟩)] w fun o w' => o = .returned (.bool true) ∧ ∃ (X' : Tm) (G' FU' : Nat → Prop) (qc' : Cnt) (n' : Nat) (ml' : List OneR) (ms' : List Item), Same X X' ∧ getL ml' = (actM C d T (getL ml)).2 ∧ ml'.length ≤ ml.length + 1 ∧ n' ≤ n + 1 ∧ 0 ≤ X'.N ∧ X'.N ≤ 4000000 ∧ Mach C d X' (actM C d T (getL ml)).1 ms' ∧ Env w0 (LT (SP C X' V (actM C d T (getL ml)).1 (getL ml') G' qc' n') (LU (SR C X' V (actM C d T (getL ml)).1 FU' ml') (boxI X'.thr (thv X' (actM C d T (getL ml)).1) :: (ms' ++ R)))) w' := by
  have hfu : ∀ x, InU (getL ml x) := fun x => (hE.cell 3 rfl).words.1 x
  have hkk : T.apc ≤ 10 ∨ T.apc - 10 < (WD C d T).length := by
    by_cases h : T.apc ≤ 10
    · exact .inl h
    · right
      have h2 := hlf
      unfold LeftIs at h2
      rw [if_neg h] at h2
      obtain ⟨g, c9, N, -, -, -, -, hlen⟩ := h2
      omega
  obtain ⟨m, hm⟩ : ∃ m, T.nd = m + 1 := ⟨T.nd - 1, by omega⟩
  have hmm : T.nd - 1 = m := by omega
  rw [hmm] at hdd
  obtain ⟨g, off, hdA, hc⟩ := rowD hds m (by omega)
  rw [hdd] at hc
  have HC := Lib.hid hc
  obtain ⟨N1, hN1⟩ : ∃ N1 : Int, (T.nd : Int) = N1 := ⟨_, rfl⟩
  have HN1 := Lib.hid hN1
  have hx1 : wrap64 (N1 - 1) = (m : Int) := by rw [w64 _ (by omega)]; omega
  have hx2 : N1 - 1 = (m : Int) := by omega
  have hlt1 : (m : Int) < ((X.dn : Nat) : Int) := by omega
  have hge1 : (0 : Int) ≤ (m : Int) := by omega
  have hb1 : decide ((m : Int) < ((X.dn : Nat) : Int)) = true := by simpa using hlt1
  have hb2 : m < X.dn := by omega
  have hx4 : IntKind.i64.wrap (m : Int) = (m : Int) := (wrap_i _).trans (w64 _ (by omega))
  have hst := allocM_state C d T (getL ml)
  have hkp := allocM_keep C d T (getL ml)
  have hact : actM C d T (getL ml) = ({ (allocM C d T (getL ml)).2.1 with pc := if (allocM C d T (getL ml)).1 = 2 then 1 else if (allocM C d T (getL ml)).1 = 0 then 2 else 0, done := if (allocM C d T (getL ml)).1 = 1 then T.done + 1 else T.done, full := (allocM C d T (getL ml)).1 == 3 }, (allocM C d T (getL ml)).2.2) := by
    unfold actM
    rw [if_neg (by omega), if_pos hpc]
  rw [hact]
  clear hact
  have hthv : thv X T = [.pointer (some ⟨X.c, 0, none⟩), .pointer (some ⟨X.u, 0, none⟩), .slice (some ⟨g, off, none⟩) X.dn X.dc, .int .i64 N1, .int .i64 2, .pointer (some ⟨a, 0, none⟩), .pointer (some ⟨b, 0, none⟩), X.pr, X.pq, X.pg, X.ph, .int .i64 T.done, .bool T.full] := by
    unfold thv
    rw [hdA, hpa, hpb, hN1, hpc]
    rfl
  rw [hthv] at hE
  have r7 := hE.rule 7 rfl
  have f12 := hE.thaw 7 rfl 12 (by simp)
  have hE1 := hE.put 7 rfl (j := 12) (by simp) (.bool false)
  have hA : Env w0 (boxI a (avD X.c a d T left s) :: LT (SP C X V T (getL ml) G qc n) (gl ++ LU (SR C X V T FU ml) (boxI X.thr [.pointer (some ⟨X.c, 0, none⟩), .pointer (some ⟨X.u, 0, none⟩), .slice (some ⟨g, off, none⟩) X.dn X.dc, .int .i64 N1, .int .i64 2, .pointer (some ⟨a, 0, none⟩), .pointer (some ⟨b, 0, none⟩), X.pr, X.pq, X.pg, X.ph, .int .i64 T.done, .bool false] :: boxI b (rav (T.apc : Int) T.ah T.an T.ar) :: R))) (w.setCell ⟨X.thr, 12, none⟩ (.bool false)) := hE1.perm (perm_of fun z => by
    simp only [LT, LU, List.count_append, List.count_cons, List.set_cons_succ, List.set_cons_zero]
    omega)
  have r7b : ∀ j, (w.setCell ⟨X.thr, 12, none⟩ (.bool false)).cell? ⟨X.thr, j, none⟩ = [Value.pointer (some ⟨X.c, 0, none⟩), .pointer (some ⟨X.u, 0, none⟩), .slice (some ⟨g, off, none⟩) X.dn X.dc, .int .i64 N1, .int .i64 2, .pointer (some ⟨a, 0, none⟩), .pointer (some ⟨b, 0, none⟩), X.pr, X.pq, X.pg, X.ph, .int .i64 T.done, .bool false][j]? := hE1.rule 7 rfl
  have hP := alP hg hk hd hlf hA
  obtain ⟨⟨st, T', f'⟩, hr⟩ : ∃ r, allocM C d T (getL ml) = r := ⟨_, rfl⟩
  rw [hr] at hP hst hkp ⊢
  have HR := Lib.hid hr
  have HP := Lib.hid hP
  have har := fun (v : World) (L : List Item) => alR (w0 := w0) (w := v) (R := L) (b := b) (FU := FU) (X := X) (V := V) hk hml hN hv hfu hkk
  simp only [hr] at har
  have HAR := Lib.hid har
  clear har
  dsimp only at hst hkp ⊢
  clear hr hP hA hE hE1 hc hds hdn hdl hnd hdd hN1 hk hd hlf hml hN hv hfu hkk
  refine gen_post fun PP HPP => ?_
  go_enter Tryz.func14, Tryz.ntmps14
  go_wp2_with fail
  refine HP.out.mono ?_
  rintro o w1 ⟨rfl, F', k', G', qc', n', hn', hcase⟩
  clear HP r7 r7b f12
  obtain ⟨X1, hX1⟩ : ∃ X1 : Tm, X1 = { X with F := F', kq := k' } := ⟨_, rfl⟩
  obtain ⟨L, hL, hmr, hmem, hfin⟩ : ∃ L, Env w0 (boxI b (rav (T.apc : Int) T.ah T.an T.ar) :: LU (SR C X V T FU ml) L) w1 ∧ (∀ a ∈ R, a ∈ L) ∧ boxI X.thr [Value.pointer (some ⟨X.c, 0, none⟩), .pointer (some ⟨X.u, 0, none⟩), .slice (some ⟨g, off, none⟩) X.dn X.dc, .int .i64 N1, .int .i64 2, .pointer (some ⟨a, 0, none⟩), .pointer (some ⟨b, 0, none⟩), X.pr, X.pq, X.pg, X.ph, .int .i64 T.done, .bool false] ∈ L ∧ ((st = 0 ∧ ∃ left' s' gl', LeftIs C d T' left' s' gl' ∧ L = boxI a (avD X.c a d T' left' s') :: LT (SP C X1 V T' f' G' qc' n') (gl' ++ boxI X.thr [Value.pointer (some ⟨X.c, 0, none⟩), .pointer (some ⟨X.u, 0, none⟩), .slice (some ⟨g, off, none⟩) X.dn X.dc, .int .i64 N1, .int .i64 2, .pointer (some ⟨a, 0, none⟩), .pointer (some ⟨b, 0, none⟩), X.pr, X.pq, X.pg, X.ph, .int .i64 T.done, .bool false] :: R)) ∨ (st ≠ 0 ∧ L = LT (SP C X1 V T' f' G' qc' n') (boxI X.thr [Value.pointer (some ⟨X.c, 0, none⟩), .pointer (some ⟨X.u, 0, none⟩), .slice (some ⟨g, off, none⟩) X.dn X.dc, .int .i64 N1, .int .i64 2, .pointer (some ⟨a, 0, none⟩), .pointer (some ⟨b, 0, none⟩), X.pr, X.pq, X.pg, X.ph, .int .i64 T.done, .bool false] :: R))) := by
    subst hX1
    rcases hcase with ⟨h0, left', s', gl', hlf', hE1⟩ | ⟨h0, hE1⟩
    · refine ⟨_, hE1.perm (perm_of fun z => by
        simp only [LT, LU, List.count_append, List.count_cons]
        omega), fun a ha => by simp [LT, ha], by simp [LT], .inl ⟨h0, left', s', gl', hlf', rfl⟩⟩
    · refine ⟨_, hE1.perm (perm_of fun z => by
        simp only [LT, LU, List.count_append, List.count_cons]
        omega), fun a ha => by simp [LT, ha], by simp [LT], .inr ⟨h0, rfl⟩⟩
  have HFIN := Lib.hid hfin
  have HMEM := Lib.hid hmem
  have HMR := Lib.hid hmr
  clear hfin hmem hmr hcase
  have r7 : ∀ j, w1.cell? ⟨X.thr, j, none⟩ = [Value.pointer (some ⟨X.c, 0, none⟩), .pointer (some ⟨X.u, 0, none⟩), .slice (some ⟨g, off, none⟩) X.dn X.dc, .int .i64 N1, .int .i64 2, .pointer (some ⟨a, 0, none⟩), .pointer (some ⟨b, 0, none⟩), X.pr, X.pq, X.pg, X.ph, .int .i64 T.done, .bool false][j]? := Blk.rule (hL.mem (List.mem_append_right [_, _, _, _] HMEM.out))
  go_wp2_with fail
  clear r7
  refine Ord.wp_chain [22] (fun v => KR w0 R v ∧ Blk 0 v X.thr [Value.pointer (some ⟨X.c, 0, none⟩), .pointer (some ⟨X.u, 0, none⟩), .slice (some ⟨g, off, none⟩) X.dn X.dc, .int .i64 N1, .int .i64 2, .pointer (some ⟨a, 0, none⟩), .pointer (some ⟨b, 0, none⟩), X.pr, X.pq, X.pg, X.ph, .int .i64 T.done, .bool false]) (fun k v => if k = 0 then Env w0 (boxI b (rav (T.apc : Int) T.ah T.an T.ar) :: LU (SR C X V T FU ml) L) v else ∃ A' rc' N' FU' ml', getL ml' = f' ∧ ml'.length ≤ ml.length + 1 ∧ 0 ≤ N' ∧ N' ≤ 4000000 ∧ ((st = 0 ∧ Env w0 (boxI b (rav (T'.apc : Int) T'.ah T'.an T'.ar) :: LU (SR C { X with A := A', rc := rc', N := N' } V T' FU' ml') L) v) ∨ (st ≠ 0 ∧ Env w0 (LU (SR C { X with A := A', rc := rc', N := N' } V T' FU' ml') L) v))) (by kernel_rfl) (by kernel_rfl) (by kernel_rfl) ⟨hL.drew.kr (fun a ha => by simp [LU, HMR.out a ha]), hL.drew.mem (List.mem_append_right [_, _, _, _] HMEM.out)⟩ (by rw [if_pos rfl]; exact hL.drew) (fun hT => ?_)
  have hT9 := Lib.hid hT
  clear hT
  repeat (first
    | (refine Ord.ch_value (v := ?_) hT9.out (by decide) (by rfl) ?_ ?_; rotate_left; (focus (intro w5 hS; have r := hS.2.rule; have rc9 := HC.out _ hS.1; have c1 := rc9 1 _ rfl; have c2 := rc9 2 _ rfl; have c3 := rc9 3 _ rfl; have c4 := rc9 4 _ rfl; clear rc9; go_simp <;> with_reducible rfl)); (try simp only [Act.put, List.setIfInBounds_toArray, List.set_cons_zero, List.set_cons_succ]))
    | (refine Ord.ch_off hT9.out (by decide) (by rfl) ?_; (try simp only [Act.put, List.setIfInBounds_toArray, List.set_cons_zero, List.set_cons_succ])))
  have htn : 0 < ([22] : List Nat).length := by decide
  refine Ord.ch_turn (v := .int .i64 st) 0 hT9.out rfl (by decide) (Or.inl rfl) (by rfl) ?_ ?_
  · rintro w5 hC5 hA5
    rw [if_pos rfl] at hA5
    go_simp
    simp only [Ord.LandsIn]
    refine (HAR.out w5 L hA5).mono ?_
    rintro e w6 ⟨rfl, A', rc', N', FU', ml', h1, h2, h3, h4, h5⟩
    refine ⟨rfl, ?_, ?_⟩
    · rcases h5 with ⟨-, h5⟩ | ⟨-, h5⟩
      · exact ⟨h5.kr (fun a ha => by simp [LU, HMR.out a ha]), h5.mem (List.mem_append_right [_, _, _, _] HMEM.out)⟩
      · exact ⟨h5.kr (fun a ha => by simp [LU, HMR.out a ha]), h5.mem (List.mem_append_right [_, _, _] HMEM.out)⟩
    · exact ⟨A', rc', N', FU', ml', h1, h2, h3, h4, h5⟩
  (try simp only [Act.put, List.setIfInBounds_toArray, List.set_cons_zero, List.set_cons_succ])
  repeat (first
    | (refine Ord.ch_value (v := ?_) hT9.out (by decide) (by rfl) ?_ ?_; rotate_left; (focus (intro w5 hS; skip; go_simp <;> with_reducible rfl)); (try simp only [Act.put, List.setIfInBounds_toArray, List.set_cons_zero, List.set_cons_succ]))
    | (refine Ord.ch_off hT9.out (by decide) (by rfl) ?_; (try simp only [Act.put, List.setIfInBounds_toArray, List.set_cons_zero, List.set_cons_succ])))
  refine Ord.InText.nil fun w5 hS => ?_
  clear hT9
  obtain ⟨hC9, hA9⟩ := Ord.chain_end hS
  clear hS
  rw [if_neg (by decide)] at hA9
  obtain ⟨A', rc', N', FU', ml', h1, h2, h3, h4, h5⟩ := hA9
  -- TAIL
  have HH := Lib.hid (And.intro h1 (And.intro h2 (And.intro h3 h4)))
  have H5 := Lib.hid h5
  clear h1 h2 h3 h4 h5 hC9 hL htn
  have HKP := Lib.hid hkp
  clear hkp
  rcases hst with hst | hst | hst | hst | hst
  · obtain ⟨h1, h2, h3, h4⟩ := HH.out
    have HS := Lib.hid hst
    have b2 : (st == 2) = false := by rw [hst]; decide
    have b0 : (st != 0) = false := by rw [hst]; decide
    have b1 : (st == 1) = false := by rw [hst]; decide
    have b3 : (st == 3) = false := by rw [hst]; decide
    clear hst
    rcases HFIN.out with ⟨-, left', s', gl', hlf', hLe⟩ | ⟨h0, -⟩
    rotate_left
    · exact absurd HS.out h0
    rcases H5.out with ⟨-, hE5⟩ | ⟨h0, -⟩
    rotate_left
    · exact absurd HS.out h0
    subst hLe
    subst hX1
    have hF : Env w0 (LT (SP C ({ X with F := F', kq := k', A := A', rc := rc', N := N' } : Tm) V T' f' G' qc' n') (LU (SR C ({ X with F := F', kq := k', A := A', rc := rc', N := N' } : Tm) V T' FU' ml') (boxI X.thr [Value.pointer (some ⟨X.c, 0, none⟩), .pointer (some ⟨X.u, 0, none⟩), .slice (some ⟨g, off, none⟩) X.dn X.dc, .int .i64 N1, .int .i64 2, .pointer (some ⟨a, 0, none⟩), .pointer (some ⟨b, 0, none⟩), X.pr, X.pq, X.pg, X.ph, .int .i64 T.done, .bool false] :: boxI a (avD X.c a d T' left' s') :: boxI b (rav (T'.apc : Int) T'.ah T'.an T'.ar) :: (gl' ++ R)))) w5 := hE5.perm (perm_of fun z => by
      simp only [LT, LU, SP, SR, List.count_append, List.count_cons]
      omega)
    have HLF := Lib.hid hlf'
    clear hE5 hlf'
    have q0 := hF.rule 7 rfl
    have g0 := hF.thaw 7 rfl 12 (by simp)
    have hF0 := hF.put 7 rfl (j := 12) (by simp) (Value.bool false)
    have ht9 : thv ({ X with F := F', kq := k', A := A', rc := rc', N := N' } : Tm) ({ T' with pc := 2, done := T.done, full := false } : Th) = [Value.pointer (some ⟨X.c, 0, none⟩), .pointer (some ⟨X.u, 0, none⟩), .slice (some ⟨g, off, none⟩) X.dn X.dc, .int .i64 N1, .int .i64 2, .pointer (some ⟨a, 0, none⟩), .pointer (some ⟨b, 0, none⟩), X.pr, X.pq, X.pg, X.ph, .int .i64 T.done, .bool false] := by
      unfold thv
      dsimp only
      rw [hdA, hpa, hpb, HKP.out.2.1, HN1.out]
      rfl
    have HT9 := Lib.hid ht9
    have HPF := Lib.hid hF0
    clear ht9 hF hF0
    have hw9 : wrap64 (T.done + 1) = T.done + 1 := w64 _ (by omega)
    clear HFIN HMEM H5
    go_wp2_with fail
    (try go_ret)
    have hs9 := HS.out
    clear HS b0 b1 b2 b3
    subst hs9
    refine HPP.out _ _ ?_
    have hr1 : ({ T' with pc := if (0 : Int) = 2 then 1 else if (0 : Int) = 0 then 2 else 0, done := if (0 : Int) = 1 then T.done + 1 else T.done, full := (0 : Int) == 3 } : Th) = ({ T' with pc := 2, done := T.done, full := false } : Th) := rfl
    rw [hr1]
    refine ⟨rfl, ({ X with F := F', kq := k', A := A', rc := rc', N := N' } : Tm), G', FU', qc', n', ml', boxI a (avD X.c a d T' left' s') :: boxI b (rav (T'.apc : Int) T'.ah T'.an T'.ar) :: gl', ⟨rfl, rfl, rfl, rfl, rfl, rfl, rfl⟩, h1, h2, hn', h3, h4, (by unfold Mach; rw [if_pos rfl]; exact ⟨a, b, left', s', gl', hpa, hpb, HLF.out, rfl⟩), ?_⟩
    rw [HT9.out, h1]
    exact HPF.out
  · obtain ⟨h1, h2, h3, h4⟩ := HH.out
    have HS := Lib.hid hst
    have b2 : (st == 2) = false := by rw [hst]; decide
    have b0 : (st != 0) = true := by rw [hst]; decide
    have b1 : (st == 1) = true := by rw [hst]; decide
    have b3 : (st == 3) = false := by rw [hst]; decide
    clear hst
    rcases HFIN.out with ⟨h0, -⟩ | ⟨-, hLe⟩
    · exact absurd (HS.out.symm.trans h0) (by decide)
    rcases H5.out with ⟨h0, -⟩ | ⟨-, hE5⟩
    · exact absurd (HS.out.symm.trans h0) (by decide)
    subst hLe
    subst hX1
    have hF : Env w0 (LT (SP C ({ X with F := F', kq := k', A := A', rc := rc', N := N' } : Tm) V T' f' G' qc' n') (LU (SR C ({ X with F := F', kq := k', A := A', rc := rc', N := N' } : Tm) V T' FU' ml') (boxI X.thr [Value.pointer (some ⟨X.c, 0, none⟩), .pointer (some ⟨X.u, 0, none⟩), .slice (some ⟨g, off, none⟩) X.dn X.dc, .int .i64 N1, .int .i64 2, .pointer (some ⟨a, 0, none⟩), .pointer (some ⟨b, 0, none⟩), X.pr, X.pq, X.pg, X.ph, .int .i64 T.done, .bool false] :: R))) w5 := hE5.perm (perm_of fun z => by
      simp only [LT, LU, SP, SR, List.count_append, List.count_cons]
      omega)
    clear hE5
    have q0 := hF.rule 7 rfl
    have g0 := hF.thaw 7 rfl 4 (by simp)
    have hF0 := hF.put 7 rfl (j := 4) (by simp) (Value.int .i64 0)
    have q1 := hF0.rule 7 rfl
    have g1 := hF0.thaw 7 rfl 11 (by simp)
    have hF1 := hF0.put 7 rfl (j := 11) (by simp) (Value.int .i64 (T.done + 1))
    have q2 := hF1.rule 7 rfl
    have g2 := hF1.thaw 7 rfl 12 (by simp)
    have hF2 := hF1.put 7 rfl (j := 12) (by simp) (Value.bool false)
    have ht9 : thv ({ X with F := F', kq := k', A := A', rc := rc', N := N' } : Tm) ({ T' with pc := 0, done := (T.done + 1), full := false } : Th) = [Value.pointer (some ⟨X.c, 0, none⟩), .pointer (some ⟨X.u, 0, none⟩), .slice (some ⟨g, off, none⟩) X.dn X.dc, .int .i64 N1, .int .i64 0, .pointer (some ⟨a, 0, none⟩), .pointer (some ⟨b, 0, none⟩), X.pr, X.pq, X.pg, X.ph, .int .i64 (T.done + 1), .bool false] := by
      unfold thv
      dsimp only
      rw [hdA, hpa, hpb, HKP.out.2.1, HN1.out]
      rfl
    have HT9 := Lib.hid ht9
    have HPF := Lib.hid hF2
    clear ht9 hF hF0 hF1 hF2
    have hw9 : wrap64 (T.done + 1) = T.done + 1 := w64 _ (by omega)
    clear HFIN HMEM H5
    go_wp2_with fail
    (try go_ret)
    have hs9 := HS.out
    clear HS b0 b1 b2 b3
    subst hs9
    refine HPP.out _ _ ?_
    have hr1 : ({ T' with pc := if (1 : Int) = 2 then 1 else if (1 : Int) = 0 then 2 else 0, done := if (1 : Int) = 1 then T.done + 1 else T.done, full := (1 : Int) == 3 } : Th) = ({ T' with pc := 0, done := (T.done + 1), full := false } : Th) := rfl
    rw [hr1]
    refine ⟨rfl, ({ X with F := F', kq := k', A := A', rc := rc', N := N' } : Tm), G', FU', qc', n', ml', [], ⟨rfl, rfl, rfl, rfl, rfl, rfl, rfl⟩, h1, h2, hn', h3, h4, (by unfold Mach; rw [if_neg (show ¬ (0 : Nat) = 2 by decide), if_neg (show ¬ (0 : Nat) = 3 by decide), if_neg (show ¬ (0 : Nat) = 4 by decide)]), ?_⟩
    rw [HT9.out, h1]
    exact HPF.out
  · obtain ⟨h1, h2, h3, h4⟩ := HH.out
    have HS := Lib.hid hst
    have b2 : (st == 2) = true := by rw [hst]; decide
    have b0 : (st != 0) = true := by rw [hst]; decide
    have b1 : (st == 1) = false := by rw [hst]; decide
    have b3 : (st == 3) = false := by rw [hst]; decide
    clear hst
    rcases HFIN.out with ⟨h0, -⟩ | ⟨-, hLe⟩
    · exact absurd (HS.out.symm.trans h0) (by decide)
    rcases H5.out with ⟨h0, -⟩ | ⟨-, hE5⟩
    · exact absurd (HS.out.symm.trans h0) (by decide)
    subst hLe
    subst hX1
    have hF : Env w0 (LT (SP C ({ X with F := F', kq := k', A := A', rc := rc', N := N' } : Tm) V T' f' G' qc' n') (LU (SR C ({ X with F := F', kq := k', A := A', rc := rc', N := N' } : Tm) V T' FU' ml') (boxI X.thr [Value.pointer (some ⟨X.c, 0, none⟩), .pointer (some ⟨X.u, 0, none⟩), .slice (some ⟨g, off, none⟩) X.dn X.dc, .int .i64 N1, .int .i64 2, .pointer (some ⟨a, 0, none⟩), .pointer (some ⟨b, 0, none⟩), X.pr, X.pq, X.pg, X.ph, .int .i64 T.done, .bool false] :: R))) w5 := hE5.perm (perm_of fun z => by
      simp only [LT, LU, SP, SR, List.count_append, List.count_cons]
      omega)
    clear hE5
    have q0 := hF.rule 7 rfl
    have g0 := hF.thaw 7 rfl 4 (by simp)
    have hF0 := hF.put 7 rfl (j := 4) (by simp) (Value.int .i64 1)
    have q1 := hF0.rule 7 rfl
    have g1 := hF0.thaw 7 rfl 12 (by simp)
    have hF1 := hF0.put 7 rfl (j := 12) (by simp) (Value.bool false)
    have ht9 : thv ({ X with F := F', kq := k', A := A', rc := rc', N := N' } : Tm) ({ T' with pc := 1, done := T.done, full := false } : Th) = [Value.pointer (some ⟨X.c, 0, none⟩), .pointer (some ⟨X.u, 0, none⟩), .slice (some ⟨g, off, none⟩) X.dn X.dc, .int .i64 N1, .int .i64 1, .pointer (some ⟨a, 0, none⟩), .pointer (some ⟨b, 0, none⟩), X.pr, X.pq, X.pg, X.ph, .int .i64 T.done, .bool false] := by
      unfold thv
      dsimp only
      rw [hdA, hpa, hpb, HKP.out.2.1, HN1.out]
      rfl
    have HT9 := Lib.hid ht9
    have HPF := Lib.hid hF1
    clear ht9 hF hF0 hF1
    have hw9 : wrap64 (T.done + 1) = T.done + 1 := w64 _ (by omega)
    clear HFIN HMEM H5
    go_wp2_with fail
    (try go_ret)
    have hs9 := HS.out
    clear HS b0 b1 b2 b3
    subst hs9
    refine HPP.out _ _ ?_
    have hr1 : ({ T' with pc := if (2 : Int) = 2 then 1 else if (2 : Int) = 0 then 2 else 0, done := if (2 : Int) = 1 then T.done + 1 else T.done, full := (2 : Int) == 3 } : Th) = ({ T' with pc := 1, done := T.done, full := false } : Th) := rfl
    rw [hr1]
    refine ⟨rfl, ({ X with F := F', kq := k', A := A', rc := rc', N := N' } : Tm), G', FU', qc', n', ml', [], ⟨rfl, rfl, rfl, rfl, rfl, rfl, rfl⟩, h1, h2, hn', h3, h4, (by unfold Mach; rw [if_neg (show ¬ (1 : Nat) = 2 by decide), if_neg (show ¬ (1 : Nat) = 3 by decide), if_neg (show ¬ (1 : Nat) = 4 by decide)]), ?_⟩
    rw [HT9.out, h1]
    exact HPF.out
  · obtain ⟨h1, h2, h3, h4⟩ := HH.out
    have HS := Lib.hid hst
    have b2 : (st == 2) = false := by rw [hst]; decide
    have b0 : (st != 0) = true := by rw [hst]; decide
    have b1 : (st == 1) = false := by rw [hst]; decide
    have b3 : (st == 3) = true := by rw [hst]; decide
    clear hst
    rcases HFIN.out with ⟨h0, -⟩ | ⟨-, hLe⟩
    · exact absurd (HS.out.symm.trans h0) (by decide)
    rcases H5.out with ⟨h0, -⟩ | ⟨-, hE5⟩
    · exact absurd (HS.out.symm.trans h0) (by decide)
    subst hLe
    subst hX1
    have hF : Env w0 (LT (SP C ({ X with F := F', kq := k', A := A', rc := rc', N := N' } : Tm) V T' f' G' qc' n') (LU (SR C ({ X with F := F', kq := k', A := A', rc := rc', N := N' } : Tm) V T' FU' ml') (boxI X.thr [Value.pointer (some ⟨X.c, 0, none⟩), .pointer (some ⟨X.u, 0, none⟩), .slice (some ⟨g, off, none⟩) X.dn X.dc, .int .i64 N1, .int .i64 2, .pointer (some ⟨a, 0, none⟩), .pointer (some ⟨b, 0, none⟩), X.pr, X.pq, X.pg, X.ph, .int .i64 T.done, .bool false] :: R))) w5 := hE5.perm (perm_of fun z => by
      simp only [LT, LU, SP, SR, List.count_append, List.count_cons]
      omega)
    clear hE5
    have q0 := hF.rule 7 rfl
    have g0 := hF.thaw 7 rfl 4 (by simp)
    have hF0 := hF.put 7 rfl (j := 4) (by simp) (Value.int .i64 0)
    have q1 := hF0.rule 7 rfl
    have g1 := hF0.thaw 7 rfl 12 (by simp)
    have hF1 := hF0.put 7 rfl (j := 12) (by simp) (Value.bool true)
    have ht9 : thv ({ X with F := F', kq := k', A := A', rc := rc', N := N' } : Tm) ({ T' with pc := 0, done := T.done, full := true } : Th) = [Value.pointer (some ⟨X.c, 0, none⟩), .pointer (some ⟨X.u, 0, none⟩), .slice (some ⟨g, off, none⟩) X.dn X.dc, .int .i64 N1, .int .i64 0, .pointer (some ⟨a, 0, none⟩), .pointer (some ⟨b, 0, none⟩), X.pr, X.pq, X.pg, X.ph, .int .i64 T.done, .bool true] := by
      unfold thv
      dsimp only
      rw [hdA, hpa, hpb, HKP.out.2.1, HN1.out]
      rfl
    have HT9 := Lib.hid ht9
    have HPF := Lib.hid hF1
    clear ht9 hF hF0 hF1
    have hw9 : wrap64 (T.done + 1) = T.done + 1 := w64 _ (by omega)
    clear HFIN HMEM H5
    go_wp2_with fail
    (try go_ret)
    have hs9 := HS.out
    clear HS b0 b1 b2 b3
    subst hs9
    refine HPP.out _ _ ?_
    have hr1 : ({ T' with pc := if (3 : Int) = 2 then 1 else if (3 : Int) = 0 then 2 else 0, done := if (3 : Int) = 1 then T.done + 1 else T.done, full := (3 : Int) == 3 } : Th) = ({ T' with pc := 0, done := T.done, full := true } : Th) := rfl
    rw [hr1]
    refine ⟨rfl, ({ X with F := F', kq := k', A := A', rc := rc', N := N' } : Tm), G', FU', qc', n', ml', [], ⟨rfl, rfl, rfl, rfl, rfl, rfl, rfl⟩, h1, h2, hn', h3, h4, (by unfold Mach; rw [if_neg (show ¬ (0 : Nat) = 2 by decide), if_neg (show ¬ (0 : Nat) = 3 by decide), if_neg (show ¬ (0 : Nat) = 4 by decide)]), ?_⟩
    rw [HT9.out, h1]
    exact HPF.out
  · obtain ⟨h1, h2, h3, h4⟩ := HH.out
    have HS := Lib.hid hst
    have b2 : (st == 2) = false := by rw [hst]; decide
    have b0 : (st != 0) = true := by rw [hst]; decide
    have b1 : (st == 1) = false := by rw [hst]; decide
    have b3 : (st == 3) = false := by rw [hst]; decide
    clear hst
    rcases HFIN.out with ⟨h0, -⟩ | ⟨-, hLe⟩
    · exact absurd (HS.out.symm.trans h0) (by decide)
    rcases H5.out with ⟨h0, -⟩ | ⟨-, hE5⟩
    · exact absurd (HS.out.symm.trans h0) (by decide)
    subst hLe
    subst hX1
    have hF : Env w0 (LT (SP C ({ X with F := F', kq := k', A := A', rc := rc', N := N' } : Tm) V T' f' G' qc' n') (LU (SR C ({ X with F := F', kq := k', A := A', rc := rc', N := N' } : Tm) V T' FU' ml') (boxI X.thr [Value.pointer (some ⟨X.c, 0, none⟩), .pointer (some ⟨X.u, 0, none⟩), .slice (some ⟨g, off, none⟩) X.dn X.dc, .int .i64 N1, .int .i64 2, .pointer (some ⟨a, 0, none⟩), .pointer (some ⟨b, 0, none⟩), X.pr, X.pq, X.pg, X.ph, .int .i64 T.done, .bool false] :: R))) w5 := hE5.perm (perm_of fun z => by
      simp only [LT, LU, SP, SR, List.count_append, List.count_cons]
      omega)
    clear hE5
    have q0 := hF.rule 7 rfl
    have g0 := hF.thaw 7 rfl 4 (by simp)
    have hF0 := hF.put 7 rfl (j := 4) (by simp) (Value.int .i64 0)
    have q1 := hF0.rule 7 rfl
    have g1 := hF0.thaw 7 rfl 12 (by simp)
    have hF1 := hF0.put 7 rfl (j := 12) (by simp) (Value.bool false)
    have ht9 : thv ({ X with F := F', kq := k', A := A', rc := rc', N := N' } : Tm) ({ T' with pc := 0, done := T.done, full := false } : Th) = [Value.pointer (some ⟨X.c, 0, none⟩), .pointer (some ⟨X.u, 0, none⟩), .slice (some ⟨g, off, none⟩) X.dn X.dc, .int .i64 N1, .int .i64 0, .pointer (some ⟨a, 0, none⟩), .pointer (some ⟨b, 0, none⟩), X.pr, X.pq, X.pg, X.ph, .int .i64 T.done, .bool false] := by
      unfold thv
      dsimp only
      rw [hdA, hpa, hpb, HKP.out.2.1, HN1.out]
      rfl
    have HT9 := Lib.hid ht9
    have HPF := Lib.hid hF1
    clear ht9 hF hF0 hF1
    have hw9 : wrap64 (T.done + 1) = T.done + 1 := w64 _ (by omega)
    clear HFIN HMEM H5
    go_wp2_with fail
    (try go_ret)
    have hs9 := HS.out
    clear HS b0 b1 b2 b3
    subst hs9
    refine HPP.out _ _ ?_
    have hr1 : ({ T' with pc := if (4 : Int) = 2 then 1 else if (4 : Int) = 0 then 2 else 0, done := if (4 : Int) = 1 then T.done + 1 else T.done, full := (4 : Int) == 3 } : Th) = ({ T' with pc := 0, done := T.done, full := false } : Th) := rfl
    rw [hr1]
    refine ⟨rfl, ({ X with F := F', kq := k', A := A', rc := rc', N := N' } : Tm), G', FU', qc', n', ml', [], ⟨rfl, rfl, rfl, rfl, rfl, rfl, rfl⟩, h1, h2, hn', h3, h4, (by unfold Mach; rw [if_neg (show ¬ (0 : Nat) = 2 by decide), if_neg (show ¬ (0 : Nat) = 3 by decide), if_neg (show ¬ (0 : Nat) = 4 by decide)]), ?_⟩
    rw [HT9.out, h1]
    exact HPF.out
end
end Go.Proofs.YtmifdkbpbkafjaaGreatDoor

/- Threads: begin, over the model; a step that finds nothing to begin. -/
namespace Go.Proofs.YtmifdkbpbkafjaaGreatDoor
open Go.RowKit Go.Maps
set_option maxRecDepth 100000

section
variable {w0 w : World} {R : List Item} {C : Cf} {X : Tm} {V : Wm} {T : Th} {G FU : Nat → Prop} {qc : Cnt} {ml : List OneR} {n : Nat}
set_option maxHeartbeats 1600000 in
theorem begin_T (ds : List Dd) (hds : DsAt w0 R X.dA ds) (hdn : X.dn = ds.length) (hdl : ds.length ≤ 1000) (hnd : T.nd ≤ ds.length) (h0 : 0 ≤ T.hs) (hq : T.ql.length + (ds.length - T.nd) ≤ 1000000) (hN : 0 ≤ X.N ∧ X.N ≤ 4000000) (hpc : T.pc = 0)
    (hE : Env w0 (LT (SP C X V T (getL ml) G qc n) (LU (SR C X V T FU ml) (boxI X.thr (thv X T) :: R))) w) :
    Calls Tryz.prog 39 #[.pointer (some ⟨X.thr, 0, none⟩)] w fun o w' => ∃ (X' : Tm) (T' : Th), Same X X' ∧ 0 ≤ X'.N ∧ X'.N ≤ 4000000 ∧
      ((beginM (ds.drop T.nd) T = (false, T') ∧ T'.pc = 0 ∧ o = .returned (.bool false) ∧ Env w0 (LT (SP C X' V T' (getL ml) G qc n) (LU (SR C X' V T' FU ml) (boxI X.thr (thv X' T') :: R))) w') ∨
       (beginM (ds.drop T.nd) T = (true, T') ∧ T'.pc = 1 ∧ o = .returned (.bool true) ∧ Env w0 (LT (SP C X' V T' (getL ml) G qc n) (LU (SR C X' V T' FU ml) (boxI X.thr (thv X' T') :: R))) w') ∨
       (∃ a b, beginM (ds.drop T.nd) T = (true, T') ∧ T'.pc = 3 ∧ T'.rpc = 0 ∧ X'.pr = .pointer (some ⟨a, 0, none⟩) ∧ X'.pq = .pointer (some ⟨b, 0, none⟩) ∧ o = .returned (.bool true) ∧ Env w0 (LT (SP C X' V T' (getL ml) G qc n) (LU (SR C X' V T' FU ml) (boxI X.thr (thv X' T') :: boxI a (rtv X'.c (nxR a T'.rpc) T'.rs T'.re) :: boxI b (rrv T'.rs (T'.rpc : Int) T'.re) :: R))) w') ∨
       (∃ a b, beginM (ds.drop T.nd) T = (true, T') ∧ T'.pc = 4 ∧ T'.gpc = 0 ∧ X'.pg = .pointer (some ⟨a, 0, none⟩) ∧ X'.ph = .pointer (some ⟨b, 0, none⟩) ∧ o = .returned (.bool true) ∧ Env w0 (LT (SP C X' V T' (getL ml) G qc n) (LU (SR C X' V T' FU ml) (boxI X.thr (thv X' T') :: boxI a (gvv X'.c (nxG a T'.gpc) T'.gh T'.gg) :: boxI b (rgv (T'.gpc : Int) T'.gh T'.gg) :: R))) w')) := by
  obtain ⟨e, ql, hs, nd, pc, apc, ah, an, ar, rs, rpc, re, gpc, gh, gg, done, full⟩ := T
  obtain rfl : pc = 0 := hpc
  refine (begin_t (thr := X.thr) (c := X.c) (q := X.q) (u := X.u) (F := X.F) (kq := X.kq) (A := X.A) (rc := X.rc) (N := X.N) (cr := X.cr) (ro := X.ro) (p := V.p) (cc := V.cc) (m := V.m) (dc := X.dc) (pa := X.pa) (pb := X.pb) (pr := X.pr) (pq := X.pq) (pg := X.pg) (ph := X.ph) (apc := apc) (ah := ah) (an := an) (ar := ar) (rs := rs) (rpc := rpc) (re := re) (gpc := gpc) (gh := gh) (gg := gg) (done := done) (full := full) ds hds hdn hdl hnd h0 hq hN hE).mono ?_
  rintro o w' ⟨nd', hs', ql', F', k', A', rc', N', hN0, hN1, h⟩
  rcases h with ⟨hb, ho, hE'⟩ | ⟨hb, ho, hE'⟩ | ⟨r, x, hb, ho, hE'⟩ | ⟨r, x, hb, ho, hE'⟩
  · exact ⟨{ X with F := F', kq := k', A := A', rc := rc', N := N' }, _, ⟨rfl, rfl, rfl, rfl, rfl, rfl, rfl⟩, hN0, hN1, .inl ⟨hb, rfl, ho, hE'⟩⟩
  · exact ⟨{ X with F := F', kq := k', A := A', rc := rc', N := N' }, _, ⟨rfl, rfl, rfl, rfl, rfl, rfl, rfl⟩, hN0, hN1, .inr (.inl ⟨hb, rfl, ho, hE'⟩)⟩
  · exact ⟨{ X with F := F', kq := k', A := A', rc := rc', N := N', pr := .pointer (some ⟨r, 0, none⟩), pq := .pointer (some ⟨x, 0, none⟩) }, _, ⟨rfl, rfl, rfl, rfl, rfl, rfl, rfl⟩, hN0, hN1, .inr (.inr (.inl ⟨r, x, hb, rfl, rfl, rfl, rfl, ho, hE'⟩))⟩
  · exact ⟨{ X with F := F', kq := k', A := A', rc := rc', N := N', pg := .pointer (some ⟨r, 0, none⟩), ph := .pointer (some ⟨x, 0, none⟩) }, _, ⟨rfl, rfl, rfl, rfl, rfl, rfl, rfl⟩, hN0, hN1, .inr (.inr (.inr ⟨r, x, hb, rfl, rfl, rfl, rfl, ho, hE'⟩))⟩
set_option maxHeartbeats 1600000 in
theorem step00_t (Q : World → Prop) (r70 : w.cell? ⟨X.thr, 4, none⟩ = some (.int .i64 0)) (hbg : Calls Tryz.prog 39 #[.pointer (some ⟨X.thr, 0, none⟩)] w fun o w' => o = .returned (.bool false) ∧ Q w') :
    Calls Tryz.prog 14 #[.pointer (some ⟨X.thr, 0, none⟩), .pointer (some ⟨V.p, 0, none⟩), .pointer (some ⟨V.m, 0, none⟩)] w fun o w' => o = .returned (.bool true) ∧ Q w' := by
  have HBG := Lib.hid hbg
  clear hbg
  go_enter Tryz.func14, Tryz.ntmps14
  go_wp2_with fail
  refine HBG.out.mono ?_
  rintro o w1 ⟨rfl, hQ⟩
  clear HBG r70
  go_wp2_with fail
  (try go_ret)
  exact ⟨rfl, hQ⟩
end
end Go.Proofs.YtmifdkbpbkafjaaGreatDoor
