/- AllocEpochs: who is born in an epoch was retired in an earlier one; the epoch goes on by one at a time, and never above the limit: so the law answers true, for every input, where package link's three variables hold what the program's text lays in them (tied). -/
import Derived.Test.YtmifdkbpbkafjaaGreatDoorE13
import Derived.LoopN
import Derived.Test.YtmifdkbpbkafjaaGreatDoorTie
import Derived.LaidMore
import Derived.Stop.Joined
import Derived.WalkKit
import Derived.ProofKit
import Derived.OpenShut
import Derived.Deep.SlicePairs
import Derived.Test.YtmifdkbpbkafjaaGreatDoorCards
import Derived.SevenTiedAt

/- Threads, by plain mathematics: which slots are whose. -/
namespace Go.Proofs.YtmifdkbpbkafjaaGreatDoor
open Go.RowKit Go.Maps
set_option maxRecDepth 100000

def hq (hs : Int) (ql : List Trip) : List Int := (if hs = 0 then [] else [hs]) ++ ql.map (·.1)
/-- What is in a thread's hands. -/
def holdT (T : Th) : List Int := hq T.hs T.ql ++ (if T.pc = 3 then [T.rs] else [])
def rng (n : Int) : List Int := (List.range n.toNat).map fun i : Nat => (i : Int) + 1
/-- How many slots were ever asked for. -/
def circ (C : Cf) (f : Mem) : Int := if f (3, 0, 0) ≤ C.s then f (3, 0, 0) else C.s
/-- The pool's slots, from x on. -/
def Path (f : Mem) : Int → List Int → Prop
  | x, [] => x = 0
  | x, y :: P => y = x ∧ x ≠ 0 ∧ Path f (slotI (f (5, x, 2))) P
theorem Path.over {f f' : Mem} : ∀ {P : List Int} {x : Int}, Path f x P → (∀ y ∈ P, slotI (f' (5, y, 2)) = slotI (f (5, y, 2))) → Path f' x P
  | [], _, h, _ => h
  | y :: P, x, ⟨h1, h2, h3⟩, h => by
    subst h1
    refine ⟨rfl, h2, ?_⟩
    rw [h y (by simp)]
    exact Path.over h3 fun z hz => h z (by simp [hz])
theorem Path.zero {f : Mem} {P : List Int} (h : Path f 0 P) : P = [] := by
  rcases P with _ | ⟨y, P⟩
  · rfl
  · exact absurd rfl h.2.1
theorem Path.some {f : Mem} {P : List Int} {x : Int} (h : Path f x P) (hx : x ≠ 0) : ∃ P', P = x :: P' ∧ Path f (slotI (f (5, x, 2))) P' := by
  rcases P with _ | ⟨y, P⟩
  · exact absurd h hx
  · obtain ⟨rfl, -, h3⟩ := h
    exact ⟨P, rfl, h3⟩
structure TIn (C : Cf) (f : Mem) (T : Th) : Prop where
  (ver : T.pc = 2 → 4 ≤ T.apc → T.apc ≤ 6 → verI T.ah ≤ verI (f (2, 0, 0)))
  (an : T.pc = 2 → T.apc = 5 ∨ T.apc = 6 → f (2, 0, 0) = T.ah → slotI T.an = slotI (f (5, slotI T.ah, 2)))
  (fresh : T.pc = 2 → 3 ≤ T.apc → T.apc ≤ 6 → C.s ≤ f (3, 0, 0))
  (noq : T.pc = 2 → 2 ≤ T.apc → T.apc ≤ 6 → T.ql = [])
  (give : T.pc = 4 → T.gpc = 3 → slotI (f (5, (T.ql.headD t0).1, 2)) = slotI T.gh)
/-- What a step of T does that others may see. -/
structure Eff (f f' : Mem) (T : Th) : Prop where
  (pool : f' (2, 0, 0) = f (2, 0, 0) ∨ verI (f' (2, 0, 0)) = verI (f (2, 0, 0)) + 1)
  (fresh : f (3, 0, 0) ≤ f' (3, 0, 0) ∧ f' (3, 0, 0) ≤ f (3, 0, 0) + 1)
  (chain : ∀ x, x ∉ holdT T → f' (5, x, 2) = f (5, x, 2))
/-- How a step turns hands and pool. -/
def Turns (C : Cf) (f f' : Mem) (T T' : Th) (P P' : List Int) : Prop :=
  ((holdT T' ++ P').Perm (holdT T ++ P) ∧ circ C f' = circ C f) ∨ (circ C f' = circ C f + 1 ∧ 0 ≤ circ C f ∧ (holdT T' ++ P').Perm ((circ C f + 1) :: (holdT T ++ P)))
theorem hold_of {T : Th} (h : T.pc ≠ 3) : holdT T = hq T.hs T.ql := by simp [holdT, h]
theorem hold_3 {T : Th} (h : T.pc = 3) : holdT T = hq T.hs T.ql ++ [T.rs] := by simp [holdT, h]
theorem hq_add (hs : Int) (ql : List Trip) (x y z : Int) : (hq hs (ql ++ [(x, y, z)])) = hq hs ql ++ [x] := by simp [hq]
theorem mem_head {T : Th} {C : Cf} {ds : List Dd} {B : Nat} (hT : OkT C ds B T) (hq0 : T.ql ≠ []) : (T.ql.headD t0).1 ∈ holdT T ∧ 1 ≤ (T.ql.headD t0).1 ∧ (T.ql.headD t0).1 ≤ C.s := by
  rcases hq9 : T.ql with _ | ⟨x, t⟩
  · exact absurd hq9 hq0
  · have h1 := hT.ql x (by rw [hq9]; simp)
    refine ⟨?_, h1.1, h1.2.1⟩
    simp [holdT, hq, hq9]
theorem hq_head {ql : List Trip} (h : ql ≠ []) : ∃ t, ql = ql.headD t0 :: t ∧ ql.tail = t := by
  rcases ql with _ | ⟨x, t⟩
  · exact absurd rfl h
  · exact ⟨t, rfl, rfl⟩
theorem Eff.same {f : Mem} {T : Th} (h0 : 0 ≤ f (3, 0, 0)) : Eff f f T := ⟨.inl rfl, by omega, fun _ _ => rfl⟩
theorem next_parts {x s : Int} (hs : 0 ≤ s ∧ s ≤ 8388607) (hv : verI x < 1099511627775) : slotI (nextW x s) = s ∧ verI (nextW x s) = verI x + 1 := by
  have h0 := verI_in x
  have hl : isL s (verI x + 1) = true := isL_mk hs.1 hs.2 (by omega) (by omega)
  unfold nextW
  rw [if_pos (isS_mk hs.1 hs.2), if_neg (by omega)]
  exact ⟨slot_word hl, ver_word hl⟩
theorem decP_two {ql : List Trip} {e l : Int} (h : decP ql e l = 2) : ql = [] := by
  rcases ql with _ | ⟨⟨x, y, z⟩, t⟩
  · rfl
  · simp only [decP] at h
    split at h
    · exact absurd h (by decide)
    · split at h <;> exact absurd h (by decide)

section
variable {C : Cf} {ds : List Dd} {B : Nat} {T : Th} {f : Mem} {d : Dd} {P : List Int}
/-- Where no thread looks at the pool. -/
theorem TIn.of_dec {f' : Mem} {T' : Th} (h : T'.pc = 2 → (2 < T'.apc → 6 < T'.apc) ∧ (T'.apc = 2 → T'.ql = [])) (h4 : T'.pc ≠ 4) : TIn C f' T' :=
  ⟨fun a b c => by have := (h a).1; omega, fun a b => by have := (h a).1; omega, fun a b c => by have := (h a).1; omega, fun a b c => by
    by_cases h2 : T'.apc = 2
    · exact (h a).2 h2
    · have := (h a).1; omega, fun a => absurd a h4⟩
theorem dec_fine (ql : List Trip) (e l : Int) : (2 < decP ql e l → 6 < decP ql e l) ∧ (decP ql e l = 2 → ql = []) := by
  refine ⟨fun h => ?_, decP_two⟩
  rcases decP_in ql e l with h9 | h9 | h9 | h9 <;> omega
theorem act1_hold (hf3 : 0 ≤ f (3, 0, 0)) (hP : Path f (slotI (f (2, 0, 0))) P) (h1 : T.pc = 1) :
    ∃ P', Path (actM C d T f).2 (slotI ((actM C d T f).2 (2, 0, 0))) P' ∧ TIn C (actM C d T f).2 (actM C d T f).1 ∧ Eff f (actM C d T f).2 T ∧ Turns C f (actM C d T f).2 T (actM C d T f).1 P P' := by
  unfold actM
  rw [if_pos h1]
  dsimp only
  generalize epI (f (1, 0, 0)) = e
  refine ⟨P, hP, TIn.of_dec (fun _ => dec_fine _ _ _) ?_, Eff.same hf3, .inl ⟨?_, rfl⟩⟩
  · dsimp only
    split <;> omega
  · rw [hold_of (T := T) (by omega), hold_of]
    dsimp only
    split <;> omega
theorem act3_hold (hf3 : 0 ≤ f (3, 0, 0)) (hP : Path f (slotI (f (2, 0, 0))) P) (h3 : T.pc = 3) (hr : T.rpc = 0 ∨ T.rpc = 1) :
    ∃ P', Path (actM C d T f).2 (slotI ((actM C d T f).2 (2, 0, 0))) P' ∧ TIn C (actM C d T f).2 (actM C d T f).1 ∧ Eff f (actM C d T f).2 T ∧ Turns C f (actM C d T f).2 T (actM C d T f).1 P P' := by
  have ha : actM C d T f = ({ (retireM T f).2.1 with pc := if (retireM T f).1 = 0 then 3 else 0, full := false }, (retireM T f).2.2) := by
    unfold actM
    rw [if_neg (by omega), if_neg (by omega), if_pos h3]
  rw [ha]
  rcases hr with hr | hr
  · have hal : retireM T f = (0, { T with re := f (1, 0, 0), rpc := 1 }, f) := by unfold retireM; rw [if_pos hr]
    rw [hal]
    refine ⟨P, hP, TIn.of_dec (fun h => no h rfl) (fun h => no h rfl), Eff.same hf3, .inl ⟨?_, rfl⟩⟩
    rw [hold_3 (T := T) h3, hold_3]
    rfl
  · have hal : retireM T f = (1, { T with ql := T.ql ++ [(T.rs, epI T.re, 0)] }, upd f (5, T.rs, 1) T.re) := by unfold retireM; rw [if_neg (by omega)]
    rw [hal]
    have hc : ∀ y : Plc, y.2.2 ≠ 1 → upd f (5, T.rs, 1) T.re y = f y := fun y hy => upd_other f _ (fun e => hy (by rw [e]))
    refine ⟨P, ?_, TIn.of_dec (fun h => no h rfl) (fun h => no h rfl), ⟨.inl (hc (2, 0, 0) (by decide)), ?_, fun x _ => hc (5, x, 2) (by show (2 : Int) ≠ 1; decide)⟩, .inl ⟨?_, ?_⟩⟩
    · show Path (upd f (5, T.rs, 1) T.re) (slotI (upd f (5, T.rs, 1) T.re (2, 0, 0))) P
      rw [hc (2, 0, 0) (by decide)]
      exact hP.over fun y _ => by rw [hc (5, y, 2) (by show (2 : Int) ≠ 1; decide)]
    · show f (3, 0, 0) ≤ upd f (5, T.rs, 1) T.re (3, 0, 0) ∧ upd f (5, T.rs, 1) T.re (3, 0, 0) ≤ f (3, 0, 0) + 1
      rw [hc (3, 0, 0) (by decide)]
      omega
    · rw [hold_3 (T := T) h3, hold_of (fun h => no h rfl)]
      show (hq T.hs (T.ql ++ [(T.rs, epI T.re, 0)]) ++ P).Perm _
      rw [hq_add]
    · unfold circ
      show (if upd f (5, T.rs, 1) T.re (3, 0, 0) ≤ C.s then upd f (5, T.rs, 1) T.re (3, 0, 0) else C.s) = _
      rw [hc (3, 0, 0) (by decide)]
theorem act4_hold (hC : COk C) (hF : OkF C f) (hT : OkT C ds B T) (hI : TIn C f T) (hP : Path f (slotI (f (2, 0, 0))) P) (hdis : ∀ x ∈ holdT T, x ∉ P) (h4 : T.pc = 4) :
    ∃ P', Path (actM C d T f).2 (slotI ((actM C d T f).2 (2, 0, 0))) P' ∧ TIn C (actM C d T f).2 (actM C d T f).1 ∧ Eff f (actM C d T f).2 T ∧ Turns C f (actM C d T f).2 T (actM C d T f).1 P P' := by
  have hs := hC.s
  have hl := hC.l
  have hf3 : 0 ≤ f (3, 0, 0) := (hF.u _).1
  have ha : actM C d T f = ({ (giveM C T f).2.1 with pc := if (giveM C T f).1 = 0 then 4 else 0, full := false }, (giveM C T f).2.2) := by
    unfold actM
    rw [if_neg (by omega), if_neg (by omega), if_neg (by omega)]
  rw [ha]
  have hT0 : holdT T = hq T.hs T.ql := hold_of (by omega)
  rcases (show T.gpc = 0 ∨ T.gpc = 1 ∨ T.gpc = 2 ∨ T.gpc = 3 by have := hT.gpc; omega) with hr | hr | hr | hr
  · have hal : giveM C T f = (gdS T.ql, { T with e := epI (f (1, 0, 0)), gpc := 1 }, f) := by unfold giveM; rw [if_pos hr]
    rw [hal]
    refine ⟨P, hP, ⟨fun h => ?_, fun h => ?_, fun h => ?_, fun h => ?_, fun _ h => no h rfl⟩, Eff.same hf3, .inl ⟨?_, rfl⟩⟩
    all_goals try (exfalso; dsimp only at h; split at h <;> omega)
    rw [hT0, hold_of (by dsimp only; split <;> omega)]
  · have hal : giveM C T f = (poolG (f (2, 0, 0)) C.l, { T with gh := f (2, 0, 0), gpc := 2 }, f) := by unfold giveM; rw [if_neg (by omega), if_pos hr]
    rw [hal]
    refine ⟨P, hP, ⟨fun h => ?_, fun h => ?_, fun h => ?_, fun h => ?_, fun _ h => no h rfl⟩, Eff.same hf3, .inl ⟨?_, rfl⟩⟩
    all_goals try (exfalso; dsimp only at h; split at h <;> omega)
    rw [hT0, hold_of (by dsimp only; split <;> omega)]
  · have hal : giveM C T f = (0, { T with gpc := 3 }, upd f (5, (T.ql.headD t0).1, 2) (wordI false (slotI T.gh) 0)) := by unfold giveM; rw [if_neg (by omega), if_neg (by omega), if_pos hr]
    rw [hal]
    obtain ⟨hm, hx1, hx2⟩ := mem_head hT (hT.give h4 (by omega))
    generalize hxx : (T.ql.headD t0).1 = x at hm hx1 hx2
    have hc : ∀ y : Plc, y ≠ (5, x, 2) → upd f (5, x, 2) (wordI false (slotI T.gh) 0) y = f y := fun y hy => upd_other f _ hy
    refine ⟨P, ?_, ⟨fun h => no h rfl, fun h => no h rfl, fun h => no h rfl, fun h => no h rfl, fun _ _ => ?_⟩, ⟨.inl (hc (2, 0, 0) (by simp)), ?_, fun y hy => hc (5, y, 2) (fun e => ?_)⟩, .inl ⟨?_, ?_⟩⟩
    · show Path (upd f (5, x, 2) (wordI false (slotI T.gh) 0)) (slotI (upd f (5, x, 2) (wordI false (slotI T.gh) 0) (2, 0, 0))) P
      rw [hc (2, 0, 0) (by simp)]
      refine hP.over fun y hy => ?_
      have hne : y ≠ x := fun e => hdis x hm (e ▸ hy)
      rw [hc (5, y, 2) (fun e => hne (by simpa using e))]
    · show slotI (upd f (5, x, 2) (wordI false (slotI T.gh) 0) (5, (T.ql.headD t0).1, 2)) = slotI T.gh
      rw [hxx, upd_same]
      exact slot_word (isL_mk (slotI_in _).1 (slotI_in _).2 (by omega) (by omega))
    · show f (3, 0, 0) ≤ upd f (5, x, 2) (wordI false (slotI T.gh) 0) (3, 0, 0) ∧ upd f (5, x, 2) (wordI false (slotI T.gh) 0) (3, 0, 0) ≤ f (3, 0, 0) + 1
      rw [hc (3, 0, 0) (by simp)]
      omega
    · have : y = x := by simpa using e
      exact hy (this ▸ hm)
    · rw [hT0, hold_of (fun h => no h rfl)]
    · unfold circ
      show (if upd f (5, x, 2) (wordI false (slotI T.gh) 0) (3, 0, 0) ≤ C.s then upd f (5, x, 2) (wordI false (slotI T.gh) 0) (3, 0, 0) else C.s) = _
      rw [hc (3, 0, 0) (by simp)]
  · have hq0 := hT.give h4 (by omega)
    obtain ⟨hm, hx1, hx2⟩ := mem_head hT hq0
    obtain ⟨t, ht, htl⟩ := hq_head hq0
    have hgv := hT.gv h4 (by omega)
    by_cases hx : f (2, 0, 0) = T.gh
    · have hal : giveM C T f = (gdS T.ql.tail, { T with ql := T.ql.tail, gg := wrap64 (T.gg + 1), gpc := 1 }, swf f (2, 0, 0) T.gh (nextW T.gh (T.ql.headD t0).1)) := by unfold giveM; rw [if_neg (by omega), if_neg (by omega), if_neg (by omega), if_pos hx]
      rw [hal]
      have hgc := hI.give h4 hr
      obtain ⟨n1, n2⟩ := next_parts (x := T.gh) (s := (T.ql.headD t0).1) (by omega) (by omega)
      generalize hxx : T.ql.headD t0 = x at *
      have hc2 : swf f (2, 0, 0) T.gh (nextW T.gh x.1) (2, 0, 0) = nextW T.gh x.1 := by rw [swf_at, if_pos ⟨rfl, hx⟩]
      have hc : ∀ y : Plc, y ≠ (2, 0, 0) → swf f (2, 0, 0) T.gh (nextW T.gh x.1) y = f y := fun y hy => by rw [swf_at, if_neg (fun h => hy h.1)]
      refine ⟨x.1 :: P, ?_, ⟨fun h => ?_, fun h => ?_, fun h => ?_, fun h => ?_, fun _ h => no h rfl⟩, ⟨.inr ?_, ?_, fun y _ => hc (5, y, 2) (by simp)⟩, .inl ⟨?_, ?_⟩⟩
      · show Path (swf f (2, 0, 0) T.gh (nextW T.gh x.1)) (slotI (swf f (2, 0, 0) T.gh (nextW T.gh x.1) (2, 0, 0))) (x.1 :: P)
        rw [hc2, n1]
        refine ⟨rfl, by omega, ?_⟩
        have hP9 : Path f (slotI T.gh) P := by rw [← hx]; exact hP
        rw [hc (5, x.1, 2) (by simp), hgc]
        exact hP9.over fun y _ => by rw [hc (5, y, 2) (by simp)]
      any_goals (exfalso; dsimp only at h; split at h <;> omega)
      · show verI (swf f (2, 0, 0) T.gh (nextW T.gh x.1) (2, 0, 0)) = _
        rw [hc2, n2, hx]
      · show f (3, 0, 0) ≤ swf f (2, 0, 0) T.gh (nextW T.gh x.1) (3, 0, 0) ∧ swf f (2, 0, 0) T.gh (nextW T.gh x.1) (3, 0, 0) ≤ f (3, 0, 0) + 1
        rw [hc (3, 0, 0) (by decide)]
        omega
      · rw [hT0, hold_of (by dsimp only; split <;> omega)]
        show (hq T.hs T.ql.tail ++ x.1 :: P).Perm _
        rw [htl, show T.ql = x :: t from ht]
        unfold hq
        refine List.perm_iff_count.2 fun z => ?_
        simp only [List.count_append, List.map_cons, List.count_cons]
        omega
      · unfold circ
        show (if swf f (2, 0, 0) T.gh (nextW T.gh x.1) (3, 0, 0) ≤ C.s then swf f (2, 0, 0) T.gh (nextW T.gh x.1) (3, 0, 0) else C.s) = _
        rw [hc (3, 0, 0) (by decide)]
    · have hal : giveM C T f = (0, { T with gpc := 1 }, swf f (2, 0, 0) T.gh (nextW T.gh (T.ql.headD t0).1)) := by unfold giveM; rw [if_neg (by omega), if_neg (by omega), if_neg (by omega), if_neg hx]
      rw [hal]
      have hf : swf f (2, 0, 0) T.gh (nextW T.gh (T.ql.headD t0).1) = f := by
        unfold swf
        rw [if_neg hx]
      dsimp only
      rw [hf]
      refine ⟨P, hP, ⟨fun h => no h rfl, fun h => no h rfl, fun h => no h rfl, fun h => no h rfl, fun _ h => no h rfl⟩, Eff.same hf3, .inl ⟨?_, rfl⟩⟩
      rw [hT0, hold_of (fun h => no h rfl)]
theorem part_upd (f : Mem) (x v : Int) (p : Int) (hp : p ≠ 2) (y : Plc) (hy : y.1 ≠ 5 ∨ y.2.2 = 2) : upd f (5, x, p) v y = f y := upd_other f _ (fun e => by
  rcases hy with hy | hy
  · exact hy (by rw [e])
  · rw [e] at hy; exact hp hy)
theorem act2_hold (hC : COk C) (hF : OkF C f) (hT : OkT C ds B T) (hI : TIn C f T) (hfb : f (3, 0, 0) ≤ 4000000) (hP : Path f (slotI (f (2, 0, 0))) P) (h2 : T.pc = 2) :
    ∃ P', Path (actM C d T f).2 (slotI ((actM C d T f).2 (2, 0, 0))) P' ∧ TIn C (actM C d T f).2 (actM C d T f).1 ∧ Eff f (actM C d T f).2 T ∧ Turns C f (actM C d T f).2 T (actM C d T f).1 P P' := by
  have hs := hC.s
  have hl := hC.l
  have hf3 : 0 ≤ f (3, 0, 0) := (hF.u _).1
  have hT0 : holdT T = hq T.hs T.ql := hold_of (by omega)
  rw [al_cases C d T f h2]
  have hh : ∀ (r : Int) (T1 : Th) (b : Bool) (n : Int), holdT { T1 with pc := if r = 2 then 1 else if r = 0 then 2 else 0, done := n, full := b } = hq T1.hs T1.ql := fun r T1 b n => hold_of (by dsimp only; split; omega; split <;> omega)
  have hp2 : ∀ (r : Int), (if r = 2 then 1 else if r = 0 then 2 else (0 : Nat)) = 2 → r = 0 := fun r h => by split at h; omega; split at h; assumption; omega
  have hp4 : ∀ (r : Int), (if r = 2 then 1 else if r = 0 then 2 else (0 : Nat)) ≠ 4 := fun r => by split; omega; split <;> omega
  rcases hT.apc h2 with ha | ha | ha | ha | ha | ha | ha
  · have hal : allocM C d T f = (2, T, swf f (1, 0, 0) T.e (T.e + 1)) := by unfold allocM; rw [if_pos ha]
    rw [hal]
    have hc : ∀ y : Plc, y ≠ (1, 0, 0) → swf f (1, 0, 0) T.e (T.e + 1) y = f y := fun y hy => by rw [swf_at, if_neg (fun h => hy h.1)]
    refine ⟨P, ?_, TIn.of_dec (fun h => no h rfl) (fun h => no h rfl), ⟨.inl (hc (2, 0, 0) (by decide)), ?_, fun x _ => hc (5, x, 2) (by simp)⟩, .inl ⟨?_, ?_⟩⟩
    · show Path (swf f (1, 0, 0) T.e (T.e + 1)) (slotI (swf f (1, 0, 0) T.e (T.e + 1) (2, 0, 0))) P
      rw [hc (2, 0, 0) (by decide)]
      exact hP.over fun y _ => by rw [hc (5, y, 2) (by simp)]
    · show f (3, 0, 0) ≤ swf f (1, 0, 0) T.e (T.e + 1) (3, 0, 0) ∧ swf f (1, 0, 0) T.e (T.e + 1) (3, 0, 0) ≤ f (3, 0, 0) + 1
      rw [hc (3, 0, 0) (by decide)]
      omega
    · rw [hT0, hh]
    · unfold circ
      show (if swf f (1, 0, 0) T.e (T.e + 1) (3, 0, 0) ≤ C.s then swf f (1, 0, 0) T.e (T.e + 1) (3, 0, 0) else C.s) = _
      rw [hc (3, 0, 0) (by decide)]
  · have hw : IntKind.u64.wrap (f (3, 0, 0) + 1) = f (3, 0, 0) + 1 := by rw [IntKind.wrap_u64]; omega
    have hc : ∀ y : Plc, y ≠ (3, 0, 0) → upd f (3, 0, 0) (IntKind.u64.wrap (f (3, 0, 0) + 1)) y = f y := fun y hy => upd_other f _ hy
    have hc3 : upd f (3, 0, 0) (IntKind.u64.wrap (f (3, 0, 0) + 1)) (3, 0, 0) = f (3, 0, 0) + 1 := by rw [upd_same, hw]
    have hP' : Path (upd f (3, 0, 0) (IntKind.u64.wrap (f (3, 0, 0) + 1))) (slotI (upd f (3, 0, 0) (IntKind.u64.wrap (f (3, 0, 0) + 1)) (2, 0, 0))) P := by
      rw [hc (2, 0, 0) (by decide)]
      exact hP.over fun y _ => by rw [hc (5, y, 2) (by simp)]
    have hEf : Eff f (upd f (3, 0, 0) (IntKind.u64.wrap (f (3, 0, 0) + 1))) T := ⟨.inl (hc (2, 0, 0) (by decide)), by rw [hc3]; omega, fun x _ => hc (5, x, 2) (by simp)⟩
    have hno := hI.noq h2 (by omega) (by omega)
    by_cases hx : C.s ≤ f (3, 0, 0)
    · have hal : allocM C d T f = (0, { T with apc := 3 }, upd f (3, 0, 0) (IntKind.u64.wrap (f (3, 0, 0) + 1))) := by unfold allocM; rw [if_neg (by omega), if_pos ha, if_pos hx]
      rw [hal]
      refine ⟨P, hP', ⟨fun _ h => absurd h (by show ¬ (4 : Nat) ≤ 3; decide), fun _ h => absurd h (by show ¬ ((3 : Nat) = 5 ∨ (3 : Nat) = 6); decide), fun _ _ _ => ?_, fun _ _ _ => hno, fun h => no h rfl⟩, hEf, .inl ⟨?_, ?_⟩⟩
      · show C.s ≤ upd f (3, 0, 0) (IntKind.u64.wrap (f (3, 0, 0) + 1)) (3, 0, 0)
        rw [hc3]; omega
      · rw [hT0, hh]
      · unfold circ
        show (if upd f (3, 0, 0) (IntKind.u64.wrap (f (3, 0, 0) + 1)) (3, 0, 0) ≤ C.s then upd f (3, 0, 0) (IntKind.u64.wrap (f (3, 0, 0) + 1)) (3, 0, 0) else C.s) = _
        rw [hc3]
        split <;> split <;> omega
    · have hal : allocM C d T f = (decS (T.ql ++ [(f (3, 0, 0) + 1, 0, 0)]) T.e C.l, { T with ql := T.ql ++ [(f (3, 0, 0) + 1, 0, 0)], apc := decP (T.ql ++ [(f (3, 0, 0) + 1, 0, 0)]) T.e C.l }, upd f (3, 0, 0) (IntKind.u64.wrap (f (3, 0, 0) + 1))) := by unfold allocM; rw [if_neg (by omega), if_pos ha, if_neg hx]
      rw [hal]
      refine ⟨P, hP', TIn.of_dec (fun _ => dec_fine _ _ _) (hp4 _), hEf, .inr ⟨?_, ?_, ?_⟩⟩
      · unfold circ
        show (if upd f (3, 0, 0) (IntKind.u64.wrap (f (3, 0, 0) + 1)) (3, 0, 0) ≤ C.s then upd f (3, 0, 0) (IntKind.u64.wrap (f (3, 0, 0) + 1)) (3, 0, 0) else C.s) = _
        rw [hc3]
        split <;> split <;> omega
      · unfold circ
        split <;> omega
      · rw [hT0, hh]
        have hcc : circ C f = f (3, 0, 0) := by unfold circ; rw [if_pos (by omega)]
        dsimp only
        rw [hq_add, hcc]
        refine List.perm_iff_count.2 fun z => ?_
        simp only [List.count_append, List.count_cons, List.count_nil]
        omega
  · have hal : allocM C d T f = (poolS (f (2, 0, 0)) C.l, { T with ah := f (2, 0, 0), apc := 4 }, f) := by unfold allocM; rw [if_neg (by omega), if_neg (by omega), if_pos ha]
    rw [hal]
    refine ⟨P, hP, ⟨fun _ _ _ => Int.le_refl _, fun _ h => absurd h (by show ¬ ((4 : Nat) = 5 ∨ (4 : Nat) = 6); decide), fun _ _ _ => hI.fresh h2 (by omega) (by omega), fun _ _ _ => hI.noq h2 (by omega) (by omega), fun h => absurd h (hp4 _)⟩, Eff.same hf3, .inl ⟨?_, rfl⟩⟩
    rw [hT0, hh]
  · have hal : allocM C d T f = (0, { T with an := f (5, slotI T.ah, 2), apc := 5 }, f) := by unfold allocM; rw [if_neg (by omega), if_neg (by omega), if_neg (by omega), if_pos ha]
    rw [hal]
    refine ⟨P, hP, ⟨fun _ _ _ => hI.ver h2 (by omega) (by omega), fun _ _ _ => rfl, fun _ _ _ => hI.fresh h2 (by omega) (by omega), fun _ _ _ => hI.noq h2 (by omega) (by omega), fun h => no h rfl⟩, Eff.same hf3, .inl ⟨?_, rfl⟩⟩
    rw [hT0, hh]
  · have hal : allocM C d T f = (0, { T with ar := f (5, slotI T.ah, 1), apc := 6 }, f) := by unfold allocM; rw [if_neg (by omega), if_neg (by omega), if_neg (by omega), if_neg (by omega), if_pos ha]
    rw [hal]
    refine ⟨P, hP, ⟨fun _ _ _ => hI.ver h2 (by omega) (by omega), fun _ _ => hI.an h2 (.inl ha), fun _ _ _ => hI.fresh h2 (by omega) (by omega), fun _ _ _ => hI.noq h2 (by omega) (by omega), fun h => no h rfl⟩, Eff.same hf3, .inl ⟨?_, rfl⟩⟩
    rw [hT0, hh]
  · have hno := hI.noq h2 (by omega) (by omega)
    have hpl := hT.pool h2 (by omega) (by omega)
    by_cases hx : f (2, 0, 0) = T.ah
    · have hal : allocM C d T f = (decS (T.ql ++ [(slotI T.ah, epI T.ar, 0)]) T.e C.l, { T with ql := T.ql ++ [(slotI T.ah, epI T.ar, 0)], apc := decP (T.ql ++ [(slotI T.ah, epI T.ar, 0)]) T.e C.l }, swf f (2, 0, 0) T.ah (nextW T.ah (slotI T.an))) := by unfold allocM; rw [if_neg (by omega), if_neg (by omega), if_neg (by omega), if_neg (by omega), if_neg (by omega), if_pos ha, if_pos hx]
      rw [hal]
      have han := hI.an h2 (.inr ha) hx
      have hans := slotI_in T.an
      obtain ⟨n1, n2⟩ := next_parts (x := T.ah) (s := slotI T.an) hans (by omega)
      have hP9 : Path f (slotI T.ah) P := by rw [← hx]; exact hP
      obtain ⟨P', rfl, hP2⟩ := hP9.some (by omega)
      have hc2 : swf f (2, 0, 0) T.ah (nextW T.ah (slotI T.an)) (2, 0, 0) = nextW T.ah (slotI T.an) := by rw [swf_at, if_pos ⟨rfl, hx⟩]
      have hc : ∀ y : Plc, y ≠ (2, 0, 0) → swf f (2, 0, 0) T.ah (nextW T.ah (slotI T.an)) y = f y := fun y hy => by rw [swf_at, if_neg (fun h => hy h.1)]
      refine ⟨P', ?_, TIn.of_dec (fun _ => dec_fine _ _ _) (hp4 _), ⟨.inr ?_, ?_, fun y _ => hc (5, y, 2) (by simp)⟩, .inl ⟨?_, ?_⟩⟩
      · show Path (swf f (2, 0, 0) T.ah (nextW T.ah (slotI T.an))) (slotI (swf f (2, 0, 0) T.ah (nextW T.ah (slotI T.an)) (2, 0, 0))) P'
        have hP3 : Path f (slotI T.an) P' := by rw [han]; exact hP2
        rw [hc2, n1]
        exact hP3.over fun y _ => by rw [hc (5, y, 2) (by simp)]
      · show verI (swf f (2, 0, 0) T.ah (nextW T.ah (slotI T.an)) (2, 0, 0)) = _
        rw [hc2, n2, hx]
      · show f (3, 0, 0) ≤ swf f (2, 0, 0) T.ah (nextW T.ah (slotI T.an)) (3, 0, 0) ∧ swf f (2, 0, 0) T.ah (nextW T.ah (slotI T.an)) (3, 0, 0) ≤ f (3, 0, 0) + 1
        rw [hc (3, 0, 0) (by decide)]
        omega
      · rw [hT0, hh]
        dsimp only
        rw [hq_add]
        refine List.perm_iff_count.2 fun z => ?_
        simp only [List.count_append, List.count_cons, List.count_nil]
        omega
      · unfold circ
        show (if swf f (2, 0, 0) T.ah (nextW T.ah (slotI T.an)) (3, 0, 0) ≤ C.s then swf f (2, 0, 0) T.ah (nextW T.ah (slotI T.an)) (3, 0, 0) else C.s) = _
        rw [hc (3, 0, 0) (by decide)]
    · have hal : allocM C d T f = (0, { T with apc := 3 }, swf f (2, 0, 0) T.ah (nextW T.ah (slotI T.an))) := by unfold allocM; rw [if_neg (by omega), if_neg (by omega), if_neg (by omega), if_neg (by omega), if_neg (by omega), if_pos ha, if_neg hx]
      rw [hal]
      have hf : swf f (2, 0, 0) T.ah (nextW T.ah (slotI T.an)) = f := by
        unfold swf
        rw [if_neg hx]
      dsimp only
      rw [hf]
      refine ⟨P, hP, ⟨fun _ h => absurd h (by show ¬ (4 : Nat) ≤ 3; decide), fun _ h => absurd h (by show ¬ ((3 : Nat) = 5 ∨ (3 : Nat) = 6); decide), fun _ _ _ => hI.fresh h2 (by omega) (by omega), fun _ _ _ => hno, fun h => no h rfl⟩, Eff.same hf3, .inl ⟨?_, rfl⟩⟩
      rw [hT0, hold_of (fun h => no h rfl)]
  · obtain ⟨W, hW⟩ : ∃ W, wordsA C.k T.e d.key d.val (IntKind.u64.wrap d.lv) = W := ⟨_, rfl⟩
    have hp : (W.getD (T.apc - 10) (0, 0)).1 ≠ 2 := by rw [← hW]; exact part_ne _ _ _ _ _ _
    obtain ⟨pw, hpw⟩ : ∃ pw, W.getD (T.apc - 10) (0, 0) = pw := ⟨_, rfl⟩
    rw [hpw] at hp
    have key : ∀ (x : Int) (r : Int) (T1 : Th), 11 ≤ T1.apc → (hq T1.hs T1.ql).Perm (hq T.hs T.ql) → ∃ P', Path (upd f (5, x, pw.1) pw.2) (slotI (upd f (5, x, pw.1) pw.2 (2, 0, 0))) P' ∧ TIn C (upd f (5, x, pw.1) pw.2) { T1 with pc := if r = 2 then 1 else if r = 0 then 2 else 0, done := if r = 1 then T.done + 1 else T.done, full := r == 3 } ∧ Eff f (upd f (5, x, pw.1) pw.2) T ∧ Turns C f (upd f (5, x, pw.1) pw.2) T { T1 with pc := if r = 2 then 1 else if r = 0 then 2 else 0, done := if r = 1 then T.done + 1 else T.done, full := r == 3 } P P' := by
      intro x r T1 h11 hpm
      have hc : ∀ y : Plc, (y.1 ≠ 5 ∨ y.2.2 = 2) → upd f (5, x, pw.1) pw.2 y = f y := part_upd f x pw.2 pw.1 hp
      refine ⟨P, ?_, TIn.of_dec (fun _ => ⟨fun _ => by show 6 < T1.apc; omega, fun h => by have h9 : T1.apc = 2 := h; omega⟩) (hp4 _), ⟨.inl (hc (2, 0, 0) (.inl (by decide))), ?_, fun y _ => hc (5, y, 2) (.inr rfl)⟩, .inl ⟨?_, ?_⟩⟩
      · rw [hc (2, 0, 0) (.inl (by decide))]
        exact hP.over fun y _ => by rw [hc (5, y, 2) (.inr rfl)]
      · rw [hc (3, 0, 0) (.inl (by decide))]
        omega
      · rw [hT0, hh]
        exact hpm.append_right P
      · unfold circ
        rw [hc (3, 0, 0) (.inl (by decide))]
    by_cases hb : T.apc = 10
    · have hal : allocM C d T f = (lastS 0 W.length, { T with ql := T.ql.tail, hs := (T.ql.headD t0).1, apc := 11 }, upd f (5, (T.ql.headD t0).1, pw.1) pw.2) := by
        unfold allocM
        rw [if_neg (by omega), if_neg (by omega), if_neg (by omega), if_neg (by omega), if_neg (by omega), if_neg (by omega)]
        dsimp only
        rw [hW, hpw, if_pos hb]
      rw [hal]
      have hq0 := hT.born h2 hb
      obtain ⟨hm, hx1, hx2⟩ := mem_head hT hq0
      obtain ⟨t, ht, htl⟩ := hq_head hq0
      have hlow := hT.low h2 (by omega)
      refine key (T.ql.headD t0).1 (lastS 0 W.length) { T with ql := T.ql.tail, hs := (T.ql.headD t0).1, apc := 11 } (Nat.le_refl 11) ?_
      dsimp only
      rw [htl]
      generalize T.ql.headD t0 = x at *
      rw [ht, hlow]
      unfold hq
      rw [if_neg (by omega), if_pos rfl]
      exact List.Perm.refl _
    · have hal : allocM C d T f = (lastS (T.apc - 10) W.length, { T with apc := T.apc + 1 }, upd f (5, T.hs, pw.1) pw.2) := by
        unfold allocM
        rw [if_neg (by omega), if_neg (by omega), if_neg (by omega), if_neg (by omega), if_neg (by omega), if_neg (by omega)]
        dsimp only
        rw [hW, hpw, if_neg hb]
      rw [hal]
      exact key T.hs (lastS (T.apc - 10) W.length) { T with apc := T.apc + 1 } (by show 11 ≤ T.apc + 1; omega) (List.Perm.refl _)
end
end Go.Proofs.YtmifdkbpbkafjaaGreatDoor

/- Threads, by plain mathematics: a step of an Alloc by cases; epochs. -/
namespace Go.Proofs.YtmifdkbpbkafjaaGreatDoor
open Go.RowKit Go.Maps
set_option maxRecDepth 100000

section
variable {C : Cf} {ds : List Dd} {B : Nat} {T : Th} {f : Mem} {d : Dd}
theorem alloc_cases (C : Cf) (d : Dd) (T : Th) (f : Mem) (ha : T.apc = 1 ∨ T.apc = 2 ∨ T.apc = 3 ∨ T.apc = 4 ∨ T.apc = 5 ∨ T.apc = 6 ∨ 10 ≤ T.apc) :
    (T.apc = 1 ∧ allocM C d T f = (2, T, swf f (1, 0, 0) T.e (T.e + 1))) ∨
    (T.apc = 2 ∧ C.s ≤ f (3, 0, 0) ∧ allocM C d T f = (0, { T with apc := 3 }, upd f (3, 0, 0) (IntKind.u64.wrap (f (3, 0, 0) + 1)))) ∨
    (T.apc = 2 ∧ ¬ C.s ≤ f (3, 0, 0) ∧ allocM C d T f = (decS (T.ql ++ [(f (3, 0, 0) + 1, 0, 0)]) T.e C.l, { T with ql := T.ql ++ [(f (3, 0, 0) + 1, 0, 0)], apc := decP (T.ql ++ [(f (3, 0, 0) + 1, 0, 0)]) T.e C.l }, upd f (3, 0, 0) (IntKind.u64.wrap (f (3, 0, 0) + 1)))) ∨
    (T.apc = 3 ∧ allocM C d T f = (poolS (f (2, 0, 0)) C.l, { T with ah := f (2, 0, 0), apc := 4 }, f)) ∨
    (T.apc = 4 ∧ allocM C d T f = (0, { T with an := f (5, slotI T.ah, 2), apc := 5 }, f)) ∨
    (T.apc = 5 ∧ allocM C d T f = (0, { T with ar := f (5, slotI T.ah, 1), apc := 6 }, f)) ∨
    (T.apc = 6 ∧ f (2, 0, 0) = T.ah ∧ allocM C d T f = (decS (T.ql ++ [(slotI T.ah, epI T.ar, 0)]) T.e C.l, { T with ql := T.ql ++ [(slotI T.ah, epI T.ar, 0)], apc := decP (T.ql ++ [(slotI T.ah, epI T.ar, 0)]) T.e C.l }, swf f (2, 0, 0) T.ah (nextW T.ah (slotI T.an)))) ∨
    (T.apc = 6 ∧ f (2, 0, 0) ≠ T.ah ∧ allocM C d T f = (0, { T with apc := 3 }, f)) ∨
    (T.apc = 10 ∧ allocM C d T f = (lastS 0 (wordsA C.k T.e d.key d.val (IntKind.u64.wrap d.lv)).length, { T with ql := T.ql.tail, hs := (T.ql.headD t0).1, apc := 11 }, upd f (5, (T.ql.headD t0).1, 0) T.e)) ∨
    (11 ≤ T.apc ∧ ∃ p v, p ≠ 2 ∧ allocM C d T f = (lastS (T.apc - 10) (wordsA C.k T.e d.key d.val (IntKind.u64.wrap d.lv)).length, { T with apc := T.apc + 1 }, upd f (5, T.hs, p) v)) := by
  rcases ha with ha | ha | ha | ha | ha | ha | ha
  · exact .inl ⟨ha, by unfold allocM; rw [if_pos ha]⟩
  · by_cases hx : C.s ≤ f (3, 0, 0)
    · exact .inr (.inl ⟨ha, hx, by unfold allocM; rw [if_neg (by omega), if_pos ha, if_pos hx]⟩)
    · exact .inr (.inr (.inl ⟨ha, hx, by unfold allocM; rw [if_neg (by omega), if_pos ha, if_neg hx]⟩))
  · exact .inr (.inr (.inr (.inl ⟨ha, by unfold allocM; rw [if_neg (by omega), if_neg (by omega), if_pos ha]⟩)))
  · exact .inr (.inr (.inr (.inr (.inl ⟨ha, by unfold allocM; rw [if_neg (by omega), if_neg (by omega), if_neg (by omega), if_pos ha]⟩))))
  · exact .inr (.inr (.inr (.inr (.inr (.inl ⟨ha, by unfold allocM; rw [if_neg (by omega), if_neg (by omega), if_neg (by omega), if_neg (by omega), if_pos ha]⟩)))))
  · by_cases hx : f (2, 0, 0) = T.ah
    · exact .inr (.inr (.inr (.inr (.inr (.inr (.inl ⟨ha, hx, by unfold allocM; rw [if_neg (by omega), if_neg (by omega), if_neg (by omega), if_neg (by omega), if_neg (by omega), if_pos ha, if_pos hx]⟩))))))
    · refine .inr (.inr (.inr (.inr (.inr (.inr (.inr (.inl ⟨ha, hx, ?_⟩)))))))
      unfold allocM
      rw [if_neg (by omega), if_neg (by omega), if_neg (by omega), if_neg (by omega), if_neg (by omega), if_pos ha, if_neg hx]
      unfold swf
      rw [if_neg hx]
  · by_cases hb : T.apc = 10
    · refine .inr (.inr (.inr (.inr (.inr (.inr (.inr (.inr (.inl ⟨hb, ?_⟩))))))))
      unfold allocM
      rw [if_neg (by omega), if_neg (by omega), if_neg (by omega), if_neg (by omega), if_neg (by omega), if_neg (by omega)]
      dsimp only
      rw [if_pos hb, hb]
      rfl
    · refine .inr (.inr (.inr (.inr (.inr (.inr (.inr (.inr (.inr ⟨by omega, _, ((wordsA C.k T.e d.key d.val (IntKind.u64.wrap d.lv)).getD (T.apc - 10) (0, 0)).2, part_ne C.k T.e d.key d.val (IntKind.u64.wrap d.lv) (T.apc - 10), ?_⟩))))))))
      unfold allocM
      rw [if_neg (by omega), if_neg (by omega), if_neg (by omega), if_neg (by omega), if_neg (by omega), if_neg (by omega)]
      dsimp only
      rw [if_neg hb]
/-- Whom a thread is to bear was retired below its epoch. -/
def TEp (T : Th) : Prop := T.pc = 2 → T.apc = 10 → ∃ x y z t, T.ql = (x, y, z) :: t ∧ y < T.e
/-- What a step does to the epoch, and who is held behind it. -/
def EpS (f f' : Mem) (T T' : Th) : Prop :=
  TEp T' ∧ (f' (1, 0, 0) = f (1, 0, 0) ∨ f' (1, 0, 0) = f (1, 0, 0) + 1) ∧ (T.hs = 0 → T'.hs ≠ 0 → ∃ x y z t, T.ql = (x, y, z) :: t ∧ T'.hs = x ∧ y < T'.e ∧ f' (5, x, 0) = T'.e)
theorem ep_of {f g : Mem} {x : Plc} {v : Int} (hg : g = upd f x v) (hx : x.1 ≠ 1) : g (1, 0, 0) = f (1, 0, 0) := by
  rw [hg]
  exact upd_other f v (fun e => hx (by rw [← e]))
theorem act_ep (hT : OkT C ds B T) (hE : TEp T) (hp : T.pc ≠ 0) : EpS f (actM C d T f).2 T (actM C d T f).1 := by
  rcases hT.pc with h | h | h | h | h
  · exact absurd h hp
  · unfold actM
    rw [if_pos h]
    exact ⟨fun _ h2 => decP_head h2, .inl rfl, fun h1 h2 => absurd h1 h2⟩
  · rw [al_cases C d T f h]
    rcases alloc_cases C d T f (hT.apc h) with ⟨ha, he⟩ | ⟨ha, hx, he⟩ | ⟨ha, hx, he⟩ | ⟨ha, he⟩ | ⟨ha, he⟩ | ⟨ha, he⟩ | ⟨ha, hx, he⟩ | ⟨ha, hx, he⟩ | ⟨ha, he⟩ | ⟨ha, p, v, hp2, he⟩ <;> rw [he]
    · refine ⟨fun h => no h rfl, ?_, fun h1 h2 => absurd h1 h2⟩
      show swf f (1, 0, 0) T.e (T.e + 1) (1, 0, 0) = _ ∨ swf f (1, 0, 0) T.e (T.e + 1) (1, 0, 0) = _
      rw [swf_at]
      split
      · rename_i h9
        exact .inr (by rw [h9.2])
      · exact .inl rfl
    · exact ⟨fun _ h => no h rfl, .inl (ep_of (x := (3, 0, 0)) rfl (by show ¬ (3 : Int) = 1; decide)), fun h1 h2 => absurd h1 h2⟩
    · exact ⟨fun _ h => decP_head h, .inl (ep_of (x := (3, 0, 0)) rfl (by show ¬ (3 : Int) = 1; decide)), fun h1 h2 => absurd h1 h2⟩
    · exact ⟨fun _ h => no h rfl, .inl rfl, fun h1 h2 => absurd h1 h2⟩
    · exact ⟨fun _ h => no h rfl, .inl rfl, fun h1 h2 => absurd h1 h2⟩
    · exact ⟨fun _ h => no h rfl, .inl rfl, fun h1 h2 => absurd h1 h2⟩
    · exact ⟨fun _ h => decP_head h, .inl (by show swf f _ _ _ _ = _; rw [swf_at, if_neg (by simp)]), fun h1 h2 => absurd h1 h2⟩
    · exact ⟨fun _ h => no h rfl, .inl rfl, fun h1 h2 => absurd h1 h2⟩
    · refine ⟨fun _ h => no h rfl, .inl (ep_of (x := (5, (T.ql.headD t0).1, 0)) rfl (by show ¬ (5 : Int) = 1; decide)), fun h1 h2 => ?_⟩
      obtain ⟨x, y, z, t, hq, hy⟩ := hE h ha
      refine ⟨x, y, z, t, hq, ?_, hy, ?_⟩
      · show (T.ql.headD t0).1 = x
        rw [hq]; rfl
      · show upd f (5, (T.ql.headD t0).1, 0) T.e (5, x, 0) = T.e
        rw [hq]
        exact upd_same _ _ _
    · exact ⟨fun _ h => by have h9 : T.apc + 1 = 10 := h; omega, .inl (ep_of (x := (5, T.hs, p)) rfl (by show ¬ (5 : Int) = 1; decide)), fun h1 h2 => absurd h1 h2⟩
  · have ha : actM C d T f = ({ (retireM T f).2.1 with pc := if (retireM T f).1 = 0 then 3 else 0, full := false }, (retireM T f).2.2) := by
      unfold actM
      rw [if_neg (by omega), if_neg (by omega), if_pos h]
    rw [ha]
    unfold retireM
    split
    · exact ⟨fun h => no h rfl, .inl rfl, fun h1 h2 => absurd h1 h2⟩
    · exact ⟨fun h => no h rfl, .inl (ep_of (x := (5, T.rs, 1)) rfl (by show ¬ (5 : Int) = 1; decide)), fun h1 h2 => absurd h1 h2⟩
  · have ha : actM C d T f = ({ (giveM C T f).2.1 with pc := if (giveM C T f).1 = 0 then 4 else 0, full := false }, (giveM C T f).2.2) := by
      unfold actM
      rw [if_neg (by omega), if_neg (by omega), if_neg (by omega)]
    rw [ha]
    have hk : ∀ r : Int × Th × Mem, r.2.1.hs = T.hs → (r.2.2 (1, 0, 0) = f (1, 0, 0)) → EpS f r.2.2 T { r.2.1 with pc := if r.1 = 0 then 4 else 0, full := false } := fun r h1 h2 =>
      ⟨fun h => by exfalso; dsimp only at h; split at h <;> omega, .inl h2, fun h3 h4 => absurd (h1.trans h3) h4⟩
    refine hk _ ?_ ?_
    · unfold giveM
      split; rfl
      split; rfl
      split; rfl
      split <;> rfl
    · unfold giveM
      split; rfl
      split; rfl
      split; exact ep_of (x := (5, (T.ql.headD t0).1, 2)) rfl (by show ¬ (5 : Int) = 1; decide)
      split
      all_goals (show swf f _ _ _ _ = _; rw [swf_at, if_neg (by simp)])
theorem begin_hs : ∀ (r : List Dd) (T : Th), T.hs = 0 → (beginM r T).2.hs = 0
  | [], T, h => h
  | d :: r, T, h => by
    unfold beginM
    split
    · (try rw [if_pos h]); exact h
    · split
      · (try rw [if_pos h]); exact begin_hs r _ h
      · split
        · exact h
        · split
          · (try rw [if_pos h]); exact begin_hs r _ h
          · exact begin_hs r _ h
theorem step_ep (hT : OkT C ds B T) (hE : TEp T) : EpS f (stepM C ds T f).2 T (stepM C ds T f).1 := by
  unfold stepM
  by_cases hp : T.pc = 0
  · rw [if_pos hp]
    obtain ⟨h1, h2, h3⟩ := begin_ok 0 (ds.drop T.nd) T rfl hT hp
    dsimp only at h1 h2 h3 ⊢
    by_cases hb : (beginM (ds.drop T.nd) T).1 = true
    · rw [if_pos hb]
      have h4 := h3 hb
      have hE1 : TEp (beginM (ds.drop T.nd) T).2 := fun h => by omega
      obtain ⟨g1, g2, g3⟩ := act_ep (f := f) (d := ds.getD ((beginM (ds.drop T.nd) T).2.nd - 1) ⟨0, 0, 0, 0, 0⟩) h1 hE1 (by omega)
      refine ⟨g1, g2, fun h5 h6 => ?_⟩
      exfalso
      have h7 := begin_hs (ds.drop T.nd) T h5
      have hpc := h1.pc
      refine h6 ?_
      rcases h4 with h | h | h
      · unfold actM
        rw [if_pos h]
        exact h7
      · unfold actM
        rw [if_neg (by omega), if_neg (by omega), if_pos h]
        unfold retireM
        split <;> exact h7
      · unfold actM
        rw [if_neg (by omega), if_neg (by omega), if_neg (by omega)]
        unfold giveM
        split; exact h7
        split; exact h7
        split; exact h7
        split <;> exact h7
    · rw [if_neg hb]
      have hpc : (beginM (ds.drop T.nd) T).2.pc = 0 := by
        rw [h2]
        rw [if_neg hb]
      exact ⟨fun h => by have h' : (beginM (ds.drop T.nd) T).2.pc = 2 := h; omega, .inl rfl, fun h5 h6 => absurd (begin_hs _ T h5) h6⟩
  · rw [if_neg hp]
    exact act_ep hT hE hp
end
end Go.Proofs.YtmifdkbpbkafjaaGreatDoor

/- Threads among other boxes; a queue's head, whatever it is. -/
namespace Go.Proofs.YtmifdkbpbkafjaaGreatDoor
open Go.RowKit Go.Maps
set_option maxRecDepth 100000

section
variable {w0 w : World} {C : Cf} {sl : Value} {p cc m : Nat} {S : GS} {L : List Item} {a : Item}
theorem EL_cons : (a :: EL C sl p cc m S L).Perm (EL C sl p cc m S (a :: L)) := by
  refine perm_of fun z => ?_
  simp only [EL, List.count_cons, List.count_append]
  omega
theorem Env.inE (h : Env w0 (a :: EL C sl p cc m S L) w) : Env w0 (EL C sl p cc m S (a :: L)) w := h.perm EL_cons
theorem Env.outE (h : Env w0 (EL C sl p cc m S (a :: L)) w) : Env w0 (a :: EL C sl p cc m S L) w := h.perm EL_cons.symm
theorem Env.boxE {n : Nat} {vs : List Value} (h : Env w0 (EL C sl p cc m S L) w) (ha : boxI n vs ∈ L) : ∀ j, w.cell? ⟨n, j, none⟩ = vs[j]? :=
  Blk.rule ((h.2.2 (boxI n vs) (by simp [EL, ha])).1)
theorem Env.dropE (h : Env w0 (EL C sl p cc m S (a :: L)) w) : Env w0 (EL C sl p cc m S L) w := h.outE.sub (.cons _ (List.Sublist.refl _))
theorem head_q {w : World} {q k : Nat} {F : Nat → Prop} {l : List Trip} (hQ : IsQ w q F l k) :
    Calls Tryz.prog 21 #[.pointer (some ⟨q, 0, none⟩)] w fun e w' => e = .returned (.tuple #[.agg #[.int .i64 (l.headD t0).1, .int .i64 (l.headD t0).2.1, .int .i64 (l.headD t0).2.2], .bool (!l.isEmpty)]) ∧ Below w.heap.size w w' := by
  rcases l with _ | ⟨⟨x, y, z⟩, l⟩
  · exact headNone_any hQ
  · exact head_any x y z hQ
/-- What is read of a thread. -/
theorem Env.thrE {i : Nat} {q : Pk} (h : Env w0 (EL C sl p cc m S L) w) (hq : S.ps[i]? = some q) : ∀ j, w.cell? ⟨q.X.thr, j, none⟩ = (thv q.X q.T)[j]? := (h.toT hq).rule 7 rfl
theorem Env.coreE {i : Nat} {q : Pk} (h : Env w0 (EL C sl p cc m S L) w) (hq : S.ps[i]? = some q) : Blk 0 w q.X.c (crv C.k C.s C.b C.h C.l q.T.e q.X.cr q.T.hs 0 q.X.q) := (h.toT hq).get 0 rfl
theorem Env.queE {i : Nat} {q : Pk} (h : Env w0 (EL C sl p cc m S L) w) (hq : S.ps[i]? = some q) : IsQ w q.X.q q.X.F q.T.ql q.X.kq := (h.toT hq).queue 1 rfl
theorem peek_E (x y z : Int) (hx : Wf (x, y, z)) (h : Env w0 (EL C sl p cc m S L) w) :
    Calls Tryz.prog 23 #[.pointer (some ⟨p, 0, none⟩), .agg #[.int .i64 x, .int .i64 y, .int .i64 z]] w fun e w' => e = .returned (.int .u64 (getL S.ml (x, y, z))) ∧ Below w.heap.size w w' := peek_w x y z hx 1 2 h rfl rfl
end
end Go.Proofs.YtmifdkbpbkafjaaGreatDoor

/- Whatever comes to numbers, bools, structs and rows of such: what its cells hold, rows within rows too. General. -/
namespace Go.Proofs.YtmifdkbpbkafjaaGreatDoor
open Go.RowKit Go.WideShapes Go.ChangeShapes Go.ChangeAt Go.Deep
set_option maxRecDepth 100000

/-- Types that this reads. -/
def plainT (P : Program) : Nat → TypeId → Bool
  | 0, _ => false
  | d + 1, t =>
    match P.underlying t with
    | some .bool => true
    | some (.int _) => true
    | some (.struct fs) => fs.toList.all fun f => plainT P d f.type
    | some (.slice e) => plainT P d e && decide (0 < P.cellsOf e)
    | _ => false
/-- The cells cs are a value of type t, and so is whatever they lead to. -/
def Good (P : Program) (w : World) : Nat → TypeId → List Value → Prop
  | 0, _, _ => False
  | d + 1, t, cs =>
    match P.underlying t with
    | some .bool => ∃ b, cs = [.bool b]
    | some (.int k) => ∃ n, cs = [.int k n] ∧ (Lit.int k n).wf = true
    | some (.struct fs) => cs.length = P.cellsOf t ∧ ∀ f ∈ fs.toList, Good P w d f.type ((cs.drop f.offset).take (P.cellsOf f.type))
    | some (.slice e) => ∃ A len cap, cs = [.slice A len cap] ∧ len ≤ maxLen ∧ (len = 0 ∨ ∃ b off, A = some ⟨b, off, none⟩ ∧ b < w.heap.size ∧ ∀ i, i < len → ∃ us : List Value, us.length = P.cellsOf e ∧ CellsAt w b (off + i * P.cellsOf e) us ∧ Good P w d e us)
    | _ => False

section
variable {H : Type} {enc : TypeId × Value → H} {P : Program} {w : World} {held : Bool}
theorem good_of_trod : ∀ (d : Nat) {t : TypeId} {fuel : Nat} {cs : List Value} {x : DataW H × List MemPlace}, plainT P d t = true → DataW.trod enc P w 0 (fun _ => true) held fuel t cs = some x → (∀ p ∈ x.2, p.block < w.heap.size) → Good P w d t cs
  | 0, _, _, _, _, h, _, _ => by simp [plainT] at h
  | d + 1, t, fuel, cs, x, h, hx, hlt => by
    unfold plainT at h
    unfold Good
    split at h
    · rename_i hu
      obtain ⟨b, rfl, _⟩ := DataW.trod_bool hu hx
      try rw [hu]
      exact ⟨b, rfl⟩
    · rename_i k hu
      obtain ⟨n, rfl, _, hw⟩ := DataW.trod_int hu hx
      try rw [hu]
      exact ⟨n, rfl, hw⟩
    · rename_i fs hu
      obtain ⟨xs, n, _, rfl, hl, hlen, hall⟩ := DataW.trod_struct hu hx
      try rw [hu]
      refine ⟨hl, fun f hf => ?_⟩
      obtain ⟨i, hi, he⟩ := List.getElem_of_mem hf
      have hi' : i < fs.size := by simpa using hi
      have h1 := hall i f (by simp [hi']; simpa using he)
      have hix : i < xs.length := by omega
      rw [List.getElem?_eq_getElem hix] at h1
      exact good_of_trod d (List.all_eq_true.1 h f hf) h1 fun p hp => hlt p (List.mem_flatMap.2 ⟨xs[i], List.getElem_mem hix, hp⟩)
    · rename_i e hu
      rw [Bool.and_eq_true, decide_eq_true_iff] at h
      obtain ⟨h1, h0⟩ := h
      try rw [hu]
      rcases open_slice hu hx with ⟨rfl, _⟩ | ⟨a, len, cap, m, n, D, Pl, rfl, _, hl, hm, hmm, rfl, hall⟩
      · exact ⟨none, 0, 0, rfl, Nat.zero_le _, .inl rfl⟩
      · simp only [if_true] at hmm
        subst hmm
        refine ⟨some a, len, m, rfl, by omega, ?_⟩
        by_cases hz : len = 0
        · exact .inl hz
        · right
          have each : ∀ i, i < m → ∃ us : List Value, us.length = P.cellsOf e ∧ (∀ j v, us[j]? = some v → w.cell? (a.add (i * P.cellsOf e + j)) = some v) ∧ Good P w d e us := fun i hi => by
            obtain ⟨cs', h2, h3⟩ := hall i hi
            obtain ⟨_, hlen, hcell⟩ := World.cells?_some h2
            refine ⟨cs', hlen, fun j v hj => ?_, good_of_trod d h1 h3 fun p hp => hlt p (List.mem_append_right _ (List.mem_flatMap.2 ⟨i, by simpa using hi, hp⟩))⟩
            have hjl : j < P.cellsOf e := by have := (List.getElem?_eq_some_iff.1 hj).1; omega
            have := hcell j hjl
            rw [add_add, hj] at this
            exact this
          obtain ⟨b, off, spot⟩ := a
          have hspot : spot = none := by
            obtain ⟨us, hl', hc, _⟩ := each 0 (by omega)
            have := hc 0 (us[0]'(by omega)) (by simp)
            simpa [Addr.add] using World.cell?_spot this
          subst hspot
          refine ⟨b, off, rfl, hlt (.cell b off) (List.mem_append_left _ (MemPlace.mem_row.2 ⟨0, Nat.mul_pos (by omega) h0, by simp⟩)), fun i hi => ?_⟩
          obtain ⟨us, h4, h5, h6⟩ := each i (by omega)
          refine ⟨us, h4, fun j v hj => ?_, h6⟩
          have := h5 j v hj
          rw [add_plain] at this
          rw [Nat.add_assoc]; exact this
    · cases h
end

/-- A row within: its elements, decoded. -/
theorem Good.row {α : Type} [Inhabited α] {enc : α → List Value} {Ok : α → Prop} {P : Program} {w : World} {t e : TypeId} {d : Nat} {cs : List Value} (ht : P.underlying t = some (.slice e)) (h : Good P w (d + 1) t cs)
    (hdec : ∀ us, us.length = P.cellsOf e → Good P w d e us → ∃ r : α, enc r = us ∧ Ok r) :
    ∃ A cap, ∃ xs : List α, cs = [.slice A xs.length cap] ∧ xs.length ≤ maxLen ∧ (∀ r ∈ xs, Ok r) ∧ RowX enc (P.cellsOf e) w A xs := by
  unfold Good at h
  rw [ht] at h
  obtain ⟨A, len, cap, rfl, hm, hz | ⟨b, off, rfl, hb, hall⟩⟩ := h
  · subst hz
    exact ⟨A, cap, [], rfl, hm, by simp, .inl rfl⟩
  · have each : ∀ i, i < len → ∃ r : α, CellsAt w b (off + i * P.cellsOf e) (enc r) ∧ Ok r := fun i hi => by
      obtain ⟨us, h1, h2, h3⟩ := hall i hi
      obtain ⟨r, rfl, hr⟩ := hdec us h1 h3
      exact ⟨r, h2, hr⟩
    obtain ⟨f, hf⟩ := choose_lt each
    refine ⟨some ⟨b, off, none⟩, cap, (List.range len).map f, by simp, by simpa using hm, fun r hr => ?_, ?_⟩
    · obtain ⟨i, hi, rfl⟩ := List.mem_map.1 hr
      exact (hf i (by simpa using hi)).2
    · refine .inr ⟨b, off, rfl, hb, fun i hi => ?_⟩
      have hi' : i < len := by simpa using hi
      have e : ((List.range len).map f).getD i default = f i := by simp [hi']
      rw [e]
      exact (hf i hi').1
/-- A row that came in, whatever its elements lead to. -/
theorem open_rowG {α : Type} [Inhabited α] {enc : α → List Value} {Ok : α → Prop} {P : Program} {H : Type} {en : TypeId × Value → H} {W : World} {t e : TypeId} {d : Nat} {A : Option Addr} {len cap : Nat} {dt : DataW H} {p : List MemPlace}
    (ht : P.underlying t = some (.slice e)) (hpl : plainT P (d + 1) t = true)
    (hdec : ∀ us, us.length = P.cellsOf e → Good P W d e us → ∃ r : α, enc r = us ∧ Ok r)
    (h : DataW.Trod en P W 0 (fun _ => true) true t (.slice A len cap) dt p) (hlt : ∀ x ∈ p, x.block < W.heap.size) :
    ∃ xs : List α, xs.length = len ∧ len ≤ maxLen ∧ (∀ r ∈ xs, Ok r) ∧ RowX enc (P.cellsOf e) W A xs := by
  obtain ⟨fuel, hf⟩ := h
  have hg := good_of_trod (d + 1) hpl hf hlt
  obtain ⟨A', cap', xs, he, h1, h2, h3⟩ := hg.row ht hdec
  simp only [Value.cells, List.cons.injEq, Value.slice.injEq, and_true] at he
  obtain ⟨rfl, rfl, rfl⟩ := he
  exact ⟨xs, rfl, h1, h2, h3⟩
/-- A number, a bool within. -/
theorem Good.int {P : Program} {w : World} {t : TypeId} {k : IntKind} {d : Nat} {cs : List Value} (ht : P.underlying t = some (.int k)) (h : Good P w (d + 1) t cs) : ∃ n, cs = [.int k n] ∧ (Lit.int k n).wf = true := by
  unfold Good at h; rw [ht] at h; exact h
theorem Good.bool {P : Program} {w : World} {t : TypeId} {d : Nat} {cs : List Value} (ht : P.underlying t = some .bool) (h : Good P w (d + 1) t cs) : ∃ b, cs = [.bool b] := by
  unfold Good at h; rw [ht] at h; exact h
theorem Good.struct {P : Program} {w : World} {t : TypeId} {fs : Array Field} {d : Nat} {cs : List Value} (ht : P.underlying t = some (.struct fs)) (h : Good P w (d + 1) t cs) : cs.length = P.cellsOf t ∧ ∀ f ∈ fs.toList, Good P w d f.type ((cs.drop f.offset).take (P.cellsOf f.type)) := by
  unfold Good at h; rw [ht] at h; exact h
end Go.Proofs.YtmifdkbpbkafjaaGreatDoor

/- Rows of rows of deeds that came in. -/
namespace Go.Proofs.YtmifdkbpbkafjaaGreatDoor
open Go.RowKit Go.Maps Go.Deep
set_option maxRecDepth 100000

def OkRw (W : World) (r : Rw) : Prop := r.ds.length ≤ maxLen ∧ (∀ d ∈ r.ds, InU d.key ∧ InU d.val) ∧ RowX encD 5 W r.A r.ds
theorem cellsIntA : Tryz.prog.cellsOf 3 = 1 := by kernel_rfl
theorem cellsU64A : Tryz.prog.cellsOf 39 = 1 := by kernel_rfl
theorem cellsOpA : Tryz.prog.cellsOf 75 = 4 := by kernel_rfl
theorem cellsDdA : Tryz.prog.cellsOf 77 = 5 := by kernel_rfl
theorem cellsRwA : Tryz.prog.cellsOf 50 = 1 := by kernel_rfl
theorem dec_Dd (W : World) (us : List Value) (hl : us.length = Tryz.prog.cellsOf 77) (h : Good Tryz.prog W 5 77 us) : ∃ r : Dd, encD r = us ∧ (InU r.key ∧ InU r.val) := by
  rw [cellsDdA] at hl
  match us, hl with
  | [u0, u1, u2, u3, u4], _ =>
    obtain ⟨_, hf⟩ := Good.struct Tryz.underlying77 h
    have h0 := hf _ (List.Mem.head _)
    have h1 := hf _ (List.Mem.tail _ (List.Mem.head _))
    simp only [cellsIntA, cellsOpA, List.drop_zero, List.drop_succ_cons, List.take_succ_cons, List.take_zero] at h0 h1
    obtain ⟨_, hg⟩ := Good.struct Tryz.underlying75 h1
    have g0 := hg _ (List.Mem.head _)
    have g1 := hg _ (List.Mem.tail _ (List.Mem.head _))
    have g2 := hg _ (List.Mem.tail _ (List.Mem.tail _ (List.Mem.head _)))
    have g3 := hg _ (List.Mem.tail _ (List.Mem.tail _ (List.Mem.tail _ (List.Mem.head _))))
    simp only [cellsIntA, cellsU64A, List.drop_zero, List.drop_succ_cons, List.take_succ_cons, List.take_zero] at g0 g1 g2 g3
    obtain ⟨n0, e0, _⟩ := Good.int Tryz.underlying3 h0
    obtain ⟨n1, e1, _⟩ := Good.int Tryz.underlying3 g0
    obtain ⟨n2, e2, w2⟩ := Good.int Tryz.underlying39 g1
    obtain ⟨n3, e3, w3⟩ := Good.int Tryz.underlying39 g2
    obtain ⟨n4, e4, _⟩ := Good.int Tryz.underlying3 g3
    simp only [List.cons.injEq, and_true] at e0 e1 e2 e3 e4
    exact ⟨⟨n0, n1, n2, n3, n4⟩, by rw [e0, e1, e2, e3, e4]; rfl, u64_in w2, u64_in w3⟩
theorem dec_Rw (W : World) (us : List Value) (_ : us.length = Tryz.prog.cellsOf 50) (h : Good Tryz.prog W 6 50 us) : ∃ r : Rw, encRw r = us ∧ OkRw W r := by
  obtain ⟨A, cap, xs, e, h1, h2, h3⟩ := Good.row Tryz.underlying50 h (dec_Dd W)
  rw [cellsDdA] at h3
  exact ⟨⟨A, cap, xs⟩, e.symm, h1, h2, h3⟩
theorem plainRws : plainT Tryz.prog 7 24 = true := by kernel_rfl
theorem open_Rws {H : Type} {en : TypeId × Value → H} {W : World} {A : Option Addr} {len cap : Nat} {d : DataW H} {p : List MemPlace}
    (h : DataW.Trod en Tryz.prog W 0 (fun _ => true) true 24 (.slice A len cap) d p) (hlt : ∀ x ∈ p, x.block < W.heap.size) :
    ∃ xs : List Rw, xs.length = len ∧ len ≤ maxLen ∧ (∀ r ∈ xs, OkRw W r) ∧ RowX encRw 1 W A xs := by
  obtain ⟨xs, h1, h2, h3, h4⟩ := open_rowG (d := 6) Tryz.underlying24 plainRws (dec_Rw W) h hlt
  rw [cellsRwA] at h4
  exact ⟨xs, h1, h2, h3, h4⟩
end Go.Proofs.YtmifdkbpbkafjaaGreatDoor

/- Allocs: the program is awake. -/
namespace Go.Proofs.YtmifdkbpbkafjaaGreatDoor
open Go.RowKit Go.Maps
set_option maxRecDepth 100000

theorem list14 (s : Int) (w : World) : Calls Tryz.prog 29 #[.int .i64 s] w fun o w' => o = .returned (.agg #[.int .i64 1, .int .i64 s, .int .i64 0, .int .i64 1, .int .i64 100]) ∧ Below w.heap.size w w' := by
  go_enter Tryz.func29, Tryz.ntmps29
  go_wp2
  exact bodyPost_ret (v := .agg #[.int .i64 1, .int .i64 s, .int .i64 0, .int .i64 1, .int .i64 100]) (by simp [results, Tryz.results29, go_sem]) rfl ⟨rfl, (Below.refl _ _).alloc (Nat.le_refl _) _⟩

set_option maxHeartbeats 3200000 in
theorem awake14 (w : World) (hg : Glo w) : Calls Tryz.prog 7 #[] w fun o w' => o = .returned (.bool true) ∧ Below w.heap.size w w' := by
  have hE := Env.start w
  have hM : ∀ k : Nat, k ≤ 100 → k < maxLen := fun k hk => by unfold maxLen; omega
  have HM := Lib.hid hM
  have HC4 := Lib.hid (show chkI 1 4 0 1 100 = 0 by decide)
  have HG := Lib.hid hg
  clear hM hg
  go_enter Tryz.func7, Tryz.ntmps7
  go_wp2_with fail
  refine (new_w hE).mono ?_
  rintro o w1 ⟨p, cc, rfl, hE, hb⟩
  clear hb
  go_wp2_with fail
  refine (start_w 0 1 (by decide) (HM.out _ (by omega)) hE rfl rfl).mono ?_
  rintro o w2 ⟨rfl, F2, hE⟩
  simp only [List.set_cons_succ, List.set_cons_zero] at hE
  go_wp2_with fail
  refine (list14 4 _).mono ?_
  rintro o w3 ⟨rfl, hb⟩
  replace hE := hE.over hb
  clear hb
  go_wp2_with fail
  refine (newYes_c 1 4 0 1 100 HC4.out hE).mono ?_
  rintro o w4 ⟨c, q, F, rfl, hE⟩
  go_wp2_with fail
  refine (check_w 1 (upd_same _ _ _) 0 2 3 (by decide) (by decide) hE rfl rfl rfl).mono ?_
  rintro o w5 ⟨rfl, hE⟩
  simp only [List.set_cons_succ, List.set_cons_zero] at hE
  rw [show epI 1 = 1 by decide] at hE
  generalize hf5 : upd (fun _ => 0) (1, 0, 0) 1 = f5 at hE
  have HF5 := Lib.hid hf5
  clear hf5
  generalize hq5 : ({ l := _, s := _, w := _, f := _, a := _ } : Cnt) = q5 at hE
  clear hq5
  go_wp2_with fail
  refine (new_a (S := { c := c, q := q, p := p, cc := cc, ck := 1, cs := 4, cb := 0, ch := 1, cl := 100, ce := 1, cr := 0, hs := 0, F := F, ql := [], kq := 2, G := F2, f := f5, qc := q5, m := 0 + 1 }) _ 9 _ _ rfl hE).mono ?_
  rintro o w6 (⟨h, -⟩ | ⟨-, a, rfl, hE⟩)
  · exact absurd (show (2 : Nat) = 0 from h) (by decide)
  replace hE : Env w (boxI a (av c { nx := nxA a 2, left := .slice none 0 0, k := 1, key := 9, val := 0, lv := 0, h := 0, n := 0, r := 0, s := 0 }) :: LT { c := c, q := q, p := p, cc := cc, ck := 1, cs := 4, cb := 0, ch := 1, cl := 100, ce := 1, cr := 0, hs := 0, F := F, ql := [], kq := 2, G := F2, f := f5, qc := q5, m := 0 + 1 } []) w6 := hE
  have h30 : f5 (3, 0, 0) = 0 := by rw [← HF5.out]; simp [upd]
  have H30 := Lib.hid h30
  clear h30
  go_wp2_with fail
  refine wp_loop_rounds 5 ?_
  rw [rounds_succ]
  go_wp2_with fail
  refine (step_ay (S := { c := c, q := q, p := p, cc := cc, ck := 1, cs := 4, cb := 0, ch := 1, cl := 100, ce := 1, cr := 0, hs := 0, F := F, ql := [], kq := 2, G := F2, f := f5, qc := q5, m := 0 + 1 }) (M := { nx := nxA a 2, left := .slice none 0 0, k := 1, key := 9, val := 0, lv := 0, h := 0, n := 0, r := 0, s := 0 }) 2 _ hE rfl (freshYes_a (S := { c := c, q := q, p := p, cc := cc, ck := 1, cs := 4, cb := 0, ch := 1, cl := 100, ce := 1, cr := 0, hs := 0, F := F, ql := [], kq := 2, G := F2, f := f5, qc := q5, m := 0 + 1 }) (M := { nx := nxA a 2, left := .slice none 0 0, k := 1, key := 9, val := 0, lv := 0, h := 0, n := 0, r := 0, s := 0 }) 0 H30.out (by simp) (by decide) (show (0 : Int) < 4 by decide) (show (4 : Int) ≤ 9223372036854775806 by decide) (HM.out 1 (by omega)) hE)).mono ?_
  rintro o w7 ⟨rfl, nx, k7, F7, G7, hnx, -, hE7⟩
  rw [show nx = nxA a 10 from hnx (show (10 : Nat) ≠ 0 by decide)] at hE7
  clear hnx
  rw [show decS ([] ++ [((0 : Int) + 1, (0 : Int), (0 : Int))]) 1 100 = 0 from rfl]
  generalize hf : upd f5 (3, 0, 0) (IntKind.u64.wrap (0 + 1)) = f7 at *
  have HF7 := Lib.hid hf
  clear hf
  generalize hq : ({ l := _, s := _, w := _, f := _, a := _ } : Cnt) = q7 at hE7
  clear hq
  replace hE7 : Env w (boxI a (av c { nx := nxA a 10, left := .slice none 0 0, k := 1, key := 9, val := 0, lv := 0, h := 0, n := 0, r := 0, s := 0 }) :: LT { c := c, q := q, p := p, cc := cc, ck := 1, cs := 4, cb := 0, ch := 1, cl := 100, ce := 1, cr := 0, hs := 0, F := F7, ql := [(1, 0, 0)], kq := k7, G := G7, f := f7, qc := q7, m := 2 } []) w7 := hE7
  go_wp2_with fail
  rw [rounds_succ]
  go_wp2_with fail
  refine (step_ay (S := { c := c, q := q, p := p, cc := cc, ck := 1, cs := 4, cb := 0, ch := 1, cl := 100, ce := 1, cr := 0, hs := 0, F := F7, ql := [(1, 0, 0)], kq := k7, G := G7, f := f7, qc := q7, m := 2 }) (M := { nx := nxA a 10, left := .slice none 0 0, k := 1, key := 9, val := 0, lv := 0, h := 0, n := 0, r := 0, s := 0 }) 10 _ hE7 rfl (birth_a (S := { c := c, q := q, p := p, cc := cc, ck := 1, cs := 4, cb := 0, ch := 1, cl := 100, ce := 1, cr := 0, hs := 0, F := F7, ql := [(1, 0, 0)], kq := k7, G := G7, f := f7, qc := q7, m := 2 }) (M := { nx := nxA a 10, left := .slice none 0 0, k := 1, key := 9, val := 0, lv := 0, h := 0, n := 0, r := 0, s := 0 }) 1 0 [] rfl (show (1 : Int) ≤ 1 ∧ (1 : Int) ≤ 4 by decide) (show (4 : Int) ≤ 9223372036854775806 by decide) rfl (show (0 : Int) ≤ 1 ∧ (1 : Int) ≤ 9223372036854775807 by decide) (HM.out 2 (by omega)) hE7)).mono ?_
  rintro o w8 ⟨rfl, g, cg, G8, hcg, hE8⟩
  generalize hf : upd f7 (5, 1, 0) 1 = f8 at *
  have HF8 := Lib.hid hf
  clear hf
  generalize hq : ({ l := _, s := _, w := _, f := _, a := _ } : Cnt) = q8 at hE8
  clear hq
  replace hcg : 3 ≤ cg := hcg
  replace hE8 : Env w (boxI a (av c { nx := nxA a 11, left := .slice (some ⟨g, 2, none⟩) 2 (cg - 1), k := 1, key := 9, val := 0, lv := 0, h := 0, n := 0, r := 0, s := 1 }) :: LT { c := c, q := q, p := p, cc := cc, ck := 1, cs := 4, cb := 0, ch := 1, cl := 100, ce := 1, cr := 0, hs := 1, F := F7, ql := [], kq := k7, G := G8, f := f8, qc := q8, m := 3 } (lieI g (flat2 (wordsA 1 1 9 0 (IntKind.u64.wrap 0))) :: [])) w8 := hE8
  go_wp2_with fail
  rw [rounds_succ]
  go_wp2_with fail
  refine (step_ay (S := { c := c, q := q, p := p, cc := cc, ck := 1, cs := 4, cb := 0, ch := 1, cl := 100, ce := 1, cr := 0, hs := 1, F := F7, ql := [], kq := k7, G := G8, f := f8, qc := q8, m := 3 }) (M := { nx := nxA a 11, left := .slice (some ⟨g, 2, none⟩) 2 (cg - 1), k := 1, key := 9, val := 0, lv := 0, h := 0, n := 0, r := 0, s := 1 }) 11 _ hE8 rfl (store_a (S := { c := c, q := q, p := p, cc := cc, ck := 1, cs := 4, cb := 0, ch := 1, cl := 100, ce := 1, cr := 0, hs := 1, F := F7, ql := [], kq := k7, G := G8, f := f8, qc := q8, m := 3 }) (M := { nx := nxA a 11, left := .slice (some ⟨g, 2, none⟩) 2 (cg - 1), k := 1, key := 9, val := 0, lv := 0, h := 0, n := 0, r := 0, s := 1 }) g 2 1 (cg - 1) 1 0 (by omega) (by unfold In64; decide) (by unfold InU; decide) (show In64 1 by unfold In64; decide) (HM.out 3 (by omega)) rfl rfl rfl hE8)).mono ?_
  rintro o w9 ⟨rfl, nx, left, G9, hnl, hE9⟩
  obtain ⟨rfl, rfl⟩ := hnl (by decide)
  rw [show (if 1 = 0 then (1 : Int) else 0) = 0 from rfl]
  generalize hf : upd f8 (5, 1, 1) 0 = f9 at *
  have HF9 := Lib.hid hf
  clear hf
  generalize hq : ({ l := _, s := _, w := _, f := _, a := _ } : Cnt) = q9 at hE9
  clear hq
  replace hE9 : Env w (boxI a (av c { nx := nxA a 11, left := .slice (some ⟨g, 4, none⟩) 1 (cg - 1 - 1), k := 1, key := 9, val := 0, lv := 0, h := 0, n := 0, r := 0, s := 1 }) :: LT { c := c, q := q, p := p, cc := cc, ck := 1, cs := 4, cb := 0, ch := 1, cl := 100, ce := 1, cr := 0, hs := 1, F := F7, ql := [], kq := k7, G := G9, f := f9, qc := q9, m := 4 } (lieI g (flat2 (wordsA 1 1 9 0 (IntKind.u64.wrap 0))) :: [])) w9 := hE9
  go_wp2_with fail
  rw [rounds_succ]
  go_wp2_with fail
  refine (step_ay (S := { c := c, q := q, p := p, cc := cc, ck := 1, cs := 4, cb := 0, ch := 1, cl := 100, ce := 1, cr := 0, hs := 1, F := F7, ql := [], kq := k7, G := G9, f := f9, qc := q9, m := 4 }) (M := { nx := nxA a 11, left := .slice (some ⟨g, 4, none⟩) 1 (cg - 1 - 1), k := 1, key := 9, val := 0, lv := 0, h := 0, n := 0, r := 0, s := 1 }) 11 _ hE9 rfl (store_a (S := { c := c, q := q, p := p, cc := cc, ck := 1, cs := 4, cb := 0, ch := 1, cl := 100, ce := 1, cr := 0, hs := 1, F := F7, ql := [], kq := k7, G := G9, f := f9, qc := q9, m := 4 }) (M := { nx := nxA a 11, left := .slice (some ⟨g, 4, none⟩) 1 (cg - 1 - 1), k := 1, key := 9, val := 0, lv := 0, h := 0, n := 0, r := 0, s := 1 }) g 4 0 (cg - 1 - 1) 3 9 (by omega) (by unfold In64; decide) (by unfold InU; decide) (show In64 1 by unfold In64; decide) (HM.out 4 (by omega)) rfl rfl rfl hE9)).mono ?_
  rintro o w10 ⟨rfl, nx, left, G10, hnl, hE10⟩
  clear hnl
  rw [show (if 0 = 0 then (1 : Int) else 0) = 1 from rfl]
  generalize hf : upd f9 (5, 1, 3) 9 = f10 at *
  have HF10 := Lib.hid hf
  clear hf
  generalize hq : ({ l := _, s := _, w := _, f := _, a := _ } : Cnt) = q10 at hE10
  clear hq
  replace hE10 := hE10.sub (L' := LT { c := c, q := q, p := p, cc := cc, ck := 1, cs := 4, cb := 0, ch := 1, cl := 100, ce := 1, cr := 0, hs := 1, F := F7, ql := [], kq := k7, G := G10, f := f10, qc := q10, m := 5 } []) (.cons _ (.cons_cons _ (.cons_cons _ (.cons_cons _ (.cons_cons _ (.cons _ (List.Sublist.refl _)))))))
  go_wp2_with fail
  rw [rounds_succ]
  go_wp2_with fail
  refine (held_c (hE10.get 0 rfl)).mono ?_
  rintro o w11 ⟨rfl, hb⟩
  replace hE10 := hE10.over hb
  have hE11 := (hE10.box w11.heap.size rfl [.int .i64 1, .int .i64 0] 67).perm (L' := LT { c := c, q := q, p := p, cc := cc, ck := 1, cs := 4, cb := 0, ch := 1, cl := 100, ce := 1, cr := 0, hs := 1, F := F7, ql := [], kq := k7, G := G10, f := f10, qc := q10, m := 5 } [boxI w11.heap.size [.int .i64 1, .int .i64 0]]) (List.perm_middle (l₁ := [_, _, _, _])).symm
  clear hb hE10
  have rY := hE11.rule 4 rfl
  go_wp2_with fail
  generalize w11.alloc _ = w12 at *
  generalize w11.heap.size = Y at *
  refine (new_r 1 hE11).mono ?_
  rintro o w13 ⟨r, rfl, hE13⟩
  clear rY hE11
  go_wp2_with fail
  refine (step_ry (S := { c := c, q := q, p := p, cc := cc, ck := 1, cs := 4, cb := 0, ch := 1, cl := 100, ce := 1, cr := 0, hs := 1, F := F7, ql := [], kq := k7, G := G10, f := f10, qc := q10, m := 5 }) 0 _ hE13 rfl (loadEpoch_r (S := { c := c, q := q, p := p, cc := cc, ck := 1, cs := 4, cb := 0, ch := 1, cl := 100, ce := 1, cr := 0, hs := 1, F := F7, ql := [], kq := k7, G := G10, f := f10, qc := q10, m := 5 }) 1 (show f10 (1, 0, 0) = 1 by rw [← HF10.out, ← HF9.out, ← HF8.out, ← HF7.out, ← HF5.out]; simp [upd]) hE13)).mono ?_
  rintro o w14 ⟨rfl, hE14⟩
  clear hE13
  generalize hq : ({ l := _, s := _, w := _, f := _, a := _ } : Cnt) = q14 at hE14
  clear hq
  replace hE14 : Env w (boxI r (rtv c (nxR r 1) 1 1) :: LT { c := c, q := q, p := p, cc := cc, ck := 1, cs := 4, cb := 0, ch := 1, cl := 100, ce := 1, cr := 0, hs := 1, F := F7, ql := [], kq := k7, G := G10, f := f10, qc := q14, m := 5 } [boxI Y [.int .i64 1, .int .i64 0]]) w14 := hE14
  go_wp2_with fail
  refine (step_ry (S := { c := c, q := q, p := p, cc := cc, ck := 1, cs := 4, cb := 0, ch := 1, cl := 100, ce := 1, cr := 0, hs := 1, F := F7, ql := [], kq := k7, G := G10, f := f10, qc := q14, m := 5 }) 1 _ hE14 rfl (store_r (S := { c := c, q := q, p := p, cc := cc, ck := 1, cs := 4, cb := 0, ch := 1, cl := 100, ce := 1, cr := 0, hs := 1, F := F7, ql := [], kq := k7, G := G10, f := f10, qc := q14, m := 5 }) (show InU 1 by unfold InU; decide) (show In64 1 by unfold In64; decide) (HM.out 5 (by omega)) (by simp) hE14)).mono ?_
  rintro o w15 ⟨rfl, k15, F15, G15, -, hE15⟩
  clear hE14
  generalize hq : ({ l := _, s := _, w := _, f := _, a := _ } : Cnt) = q15 at hE15
  clear hq
  replace hE15 : Env w (LT { c := c, q := q, p := p, cc := cc, ck := 1, cs := 4, cb := 0, ch := 1, cl := 100, ce := 1, cr := 0, hs := 1, F := F15, ql := [(1, 1, 0)], kq := k15, G := G15, f := (upd f10 (5, 1, 1) 1), qc := q15, m := 6 } [boxI Y [.int .i64 1, .int .i64 0]]) w15 := hE15
  generalize hf15 : upd f10 (5, 1, 1) 1 = f15 at *
  have HF15 := Lib.hid hf15
  clear hf15
  have HP1 : Hid (∀ v, Env w (LT { c := c, q := q, p := p, cc := cc, ck := 1, cs := 4, cb := 0, ch := 1, cl := 100, ce := 1, cr := 0, hs := 1, F := F15, ql := [(1, 1, 0)], kq := k15, G := G15, f := f15, qc := q15, m := 6 } [boxI Y [.int .i64 1, .int .i64 0]]) v → Calls Tryz.prog 23 #[.pointer (some ⟨p, 0, none⟩), .agg #[.int .i64 5, .int .i64 1, .int .i64 3]] v fun e w' => e = .returned (.int .u64 9) ∧ Below v.heap.size v w') := Lib.hid fun v hv => by
    have h := peek_w 5 1 3 (by unfold Wf In64; simp) 2 3 hv rfl rfl
    dsimp only at h
    rw [show f15 (5, 1, 3) = 9 by rw [← HF15.out, ← HF10.out, ← HF9.out, ← HF8.out, ← HF7.out, ← HF5.out]; simp [upd]] at h
    exact h
  have HP2 : Hid (∀ v, Env w (LT { c := c, q := q, p := p, cc := cc, ck := 1, cs := 4, cb := 0, ch := 1, cl := 100, ce := 1, cr := 0, hs := 1, F := F15, ql := [(1, 1, 0)], kq := k15, G := G15, f := f15, qc := q15, m := 6 } [boxI Y [.int .i64 1, .int .i64 0]]) v → Calls Tryz.prog 23 #[.pointer (some ⟨p, 0, none⟩), .agg #[.int .i64 5, .int .i64 1, .int .i64 1]] v fun e w' => e = .returned (.int .u64 1) ∧ Below v.heap.size v w') := Lib.hid fun v hv => by
    have h := peek_w 5 1 1 (by unfold Wf In64; simp) 2 3 hv rfl rfl
    dsimp only at h
    rw [show f15 (5, 1, 1) = 1 by rw [← HF15.out, ← HF10.out, ← HF9.out, ← HF8.out, ← HF7.out, ← HF5.out]; simp [upd]] at h
    exact h
  have HFI : Hid (∀ v, Env w (LT { c := c, q := q, p := p, cc := cc, ck := 1, cs := 4, cb := 0, ch := 1, cl := 100, ce := 1, cr := 0, hs := 1, F := F15, ql := [(1, 1, 0)], kq := k15, G := G15, f := f15, qc := q15, m := 6 } [boxI Y [.int .i64 1, .int .i64 0]]) v → Calls Tryz.prog 35 #[.pointer (some ⟨q, 0, none⟩), .int .i64 1] v fun e w' => e = .returned (.int .i64 0) ∧ Below v.heap.size v w') := Lib.hid fun v hv => find_any (l := [(1, 1, 0)]) 1 (hv.queue 1 rfl)
  replace hE15 : Env w (LT { c := c, q := q, p := p, cc := cc, ck := 1, cs := 4, cb := 0, ch := 1, cl := 100, ce := 1, cr := 0, hs := 1, F := F15, ql := [(1, 1, 0)], kq := k15, G := G15, f := f15, qc := q15, m := 6 } [boxI Y [.int .i64 1, .int .i64 0]]) w15 := hE15
  have rY := hE15.rule 4 rfl
  go_wp2_with (first
    | (with_reducible refine (placeOf_any _ _ _).mono ?_; rintro o w16 ⟨rfl, hb⟩; replace hE15 := hE15.over hb; clear hb rY; have rY := hE15.rule 4 rfl)
    | (with_reducible refine (HP1.out _ hE15).mono ?_; rintro o w16 ⟨rfl, hb⟩; replace hE15 := hE15.over hb; clear hb rY; have rY := hE15.rule 4 rfl)
    | (with_reducible refine (HP2.out _ hE15).mono ?_; rintro o w16 ⟨rfl, hb⟩; replace hE15 := hE15.over hb; clear hb rY; have rY := hE15.rule 4 rfl)
    | (with_reducible refine (HFI.out _ hE15).mono ?_; rintro o w16 ⟨rfl, hb⟩; replace hE15 := hE15.over hb; clear hb rY; have rY := hE15.rule 4 rfl)
    | (refine (queue_c (hE15.get 0 rfl)).mono ?_; rintro o w16 ⟨rfl, rfl⟩))
  go_ret
  exact ⟨ret_bool (by simp), hE15.below⟩
end Go.Proofs.YtmifdkbpbkafjaaGreatDoor

/- What the condition on the package's variables gives: the three fields stand in them; and that the program's own start meets it. -/
namespace Go.Proofs.YtmifdkbpbkafjaaGreatDoor
open Go.ChangeShapes Go.WideShapes Go.ChangeAt Go.RowKit
set_option maxRecDepth 100000

section
variable {P : Program} {w : World}
theorem cell_lt {b o : Nat} {v : Value} (h : w.cell? ⟨b, o, none⟩ = some v) : b < w.heap.size := by
  rcases Nat.lt_or_ge b w.heap.size with h' | h'
  · exact h'
  · simp [World.cell?, Array.getElem?_eq_none h'] at h
/-- The head of a list of laid variables: a struct of two ints. -/
theorem laid_pair {n : String} {g : Nat} {t k : TypeId} {f0 f1 : Field} {a b : Int} {r : List (String × DataW Unit)} {ps : List MemPlace}
    (h : DataW.LaidVars P w ((n, .agg [.lit (.int .i64 a), .lit (.int .i64 b)]) :: r) ps) (hg : P.globalNamed n = some g) (ht : (P.globals[g]?).map (·.type) = some t)
    (hs : P.underlying t = some (.struct #[f0, f1])) (hc : P.cellsOf t = 2) (h0 : f0.offset = 0) (h1 : f1.offset = 1) (hk0 : f0.type = k) (hk1 : f1.type = k) (hk : P.cellsOf k = 1) (hi : P.underlying k = some (.int .i64)) :
    w.cell? ⟨g, 0, none⟩ = some (.int .i64 a) ∧ w.cell? ⟨g, 1, none⟩ = some (.int .i64 b) ∧ ∃ q, DataW.LaidVars P w r q := by
  obtain ⟨g', t', cs, fuel, p, q, hg', ht', hv, hd, hr, -⟩ := h
  obtain rfl := Option.some.inj (hg.symm.trans hg')
  obtain rfl := Option.some.inj (ht.symm.trans ht')
  obtain ⟨xs, m, -, hx, hl, hn, hel⟩ := DataW.trod_struct hs hd
  have e0 := hel 0 f0 rfl
  have e1 := hel 1 f1 rfl
  rw [h0, hk0, hk] at e0
  rw [h1, hk1, hk] at e1
  obtain ⟨l⟩ := cs
  rw [hc] at hl
  match l, hl, xs, hn, hx, e0, e1, hv with
  | [c0, c1], _, [x0, x1], _, hx, e0, e1, hv =>
    simp only [Prod.mk.injEq, List.map_cons, List.map_nil, DataW.agg.injEq, List.cons.injEq] at hx
    obtain ⟨n0, s0, y0, -⟩ := DataW.trod_int hi (show DataW.trod _ P w 0 _ false m k [c0] = some x0 from e0)
    obtain ⟨n1, s1, y1, -⟩ := DataW.trod_int hi (show DataW.trod _ P w 0 _ false m k [c1] = some x1 from e1)
    simp at s0 s1
    subst s0 s1
    have k0 := hx.1.1
    have k1 := hx.1.2.1
    rw [y0] at k0
    rw [y1] at k1
    simp at k0 k1
    subst k0 k1
    exact ⟨by rw [World.var?_cell hg hv 0]; rfl, by rw [World.var?_cell hg hv 1]; rfl, q, hr⟩
end

def laid3 : List (String × DataW Unit) := [("revenant/link.versionPart", Rows.laid_revenant_link_versionPart), ("revenant/link.slotPart", Rows.laid_revenant_link_slotPart), ("revenant/link.markPart", Rows.laid_revenant_link_markPart)]

/-- What the condition gives the walks. -/
theorem glo_of_laid {W : World} (h : laidMetH Tryz.prog laid3 W) : Glo W := by
  rw [MakeChecks.laidMetH_plain _ _ _ (by kernel_rfl)] at h
  obtain ⟨ps, h, -, -⟩ := h
  obtain ⟨a0, a1, q1, h⟩ := laid_pair (g := 1) (t := 163) (k := 3) h (by kernel_rfl) (by kernel_rfl) Tryz.underlying163 (by kernel_rfl) rfl rfl rfl rfl (by kernel_rfl) Tryz.underlying3
  obtain ⟨b0, b1, q2, h⟩ := laid_pair (g := 0) (t := 163) (k := 3) h (by kernel_rfl) (by kernel_rfl) Tryz.underlying163 (by kernel_rfl) rfl rfl rfl rfl (by kernel_rfl) Tryz.underlying3
  obtain ⟨c0, c1, q3, h⟩ := laid_pair (g := 2) (t := 163) (k := 3) h (by kernel_rfl) (by kernel_rfl) Tryz.underlying163 (by kernel_rfl) rfl rfl rfl rfl (by kernel_rfl) Tryz.underlying3
  exact ⟨⟨a0, a1⟩, ⟨b0, b1⟩, ⟨c0, c1⟩, cell_lt a0, cell_lt b0, cell_lt c0⟩

/-- The program's own start meets the condition. -/
theorem door_met (os : Os) (args : Array Value) : laidMetH Tryz.prog laid3 ((World.doorLaid Tryz.prog 24 os).forCall (fun _ _ => 0) ⟨#[], args, []⟩).memory :=
  laidMetH_of_parts3 (fuel := 8) (laidMet_of_run' 8 (by kernel_rfl) (by kernel_rfl)) (by kernel_rfl) (by kernel_rfl)
end Go.Proofs.YtmifdkbpbkafjaaGreatDoor

/- Slices that come in, opened once: of numbers; of structs of two numbers. -/
namespace Go.Proofs.YtmifdkbpbkafjaaGreatDoor
open Go.RowKit Go.WideShapes Go.ChangeShapes Go.ChangeAt Go.Deep
set_option maxRecDepth 100000

section
variable {H : Type} {enc : TypeId × Value → H} {P : Program} {W : World}

theorem open_num_row {t e : TypeId} {k : IntKind} {A : Option Addr} {len cap : Nat} {d : DataW H} {p : List MemPlace} (ht : P.underlying t = some (.slice e)) (he : P.underlying e = some (.int k)) (hc : P.cellsOf e = 1)
    (h : DataW.Trod enc P W 0 (fun _ => true) true t (.slice A len cap) d p) (hlt : ∀ x ∈ p, x.block < W.heap.size) :
    ∃ zs : List Int, zs.length = len ∧ len ≤ maxLen ∧ (∀ n ∈ zs, (Lit.int k n).wf = true) ∧ (zs = [] ∨ ∃ b off, A = some ⟨b, off, none⟩ ∧ b < W.heap.size ∧ ∀ i, i < zs.length → W.cell? ⟨b, off + i, none⟩ = some (.int k (zs.getD i 0))) := by
  obtain ⟨fuel, hf⟩ := h
  rcases open_ints ht he hc hf with ⟨hcs, hx⟩ | ⟨a, len', cap', zs, hcs, _, hl, hm, hz, hx, hcell, hwz⟩
  · simp [Value.cells] at hcs
    obtain ⟨rfl, rfl, rfl⟩ := hcs
    exact ⟨[], rfl, Nat.zero_le _, by simp, Or.inl rfl⟩
  · simp [Value.cells] at hcs
    obtain ⟨rfl, rfl, rfl⟩ := hcs
    simp only [Prod.mk.injEq] at hx
    obtain ⟨rfl, rfl⟩ := hx
    simp only [if_true] at hz
    refine ⟨zs.take len, by simp; omega, by omega, fun n hn => hwz n (List.mem_of_mem_take hn), ?_⟩
    by_cases h0 : len = 0
    · left; subst h0; simp
    · right
      obtain ⟨b, off, spot⟩ := a
      have hspot : spot = none := by simpa [Addr.add] using World.cell?_spot (hcell 0 (by omega))
      subst hspot
      refine ⟨b, off, rfl, hlt (.cell b off) (MemPlace.mem_row.2 ⟨0, by omega, by simp⟩), fun i hi => ?_⟩
      have hi' : i < len := by simp at hi; omega
      have := hcell i (by omega)
      rw [add_plain] at this
      rw [this]
      simp [hi']

def numOf' : Value → Int | .int _ n => n | _ => 0

theorem open_pair_row {t e : TypeId} {k : IntKind} {f0 f1 : Field} {A : Option Addr} {len cap : Nat} {d : DataW H} {p : List MemPlace} (ht : P.underlying t = some (.slice e)) (he : P.underlying e = some (.struct #[f0, f1]))
    (ce : P.cellsOf e = 2) (o0 : f0.offset = 0) (o1 : f1.offset = 1) (c0 : P.cellsOf f0.type = 1) (c1 : P.cellsOf f1.type = 1) (u0 : P.underlying f0.type = some (.int k)) (u1 : P.underlying f1.type = some (.int k))
    (h : DataW.Trod enc P W 0 (fun _ => true) true t (.slice A len cap) d p) (hlt : ∀ x ∈ p, x.block < W.heap.size) :
    ∃ fs : List (Int × Int), fs.length = len ∧ len ≤ maxLen ∧ (∀ q ∈ fs, (Lit.int k q.1).wf = true ∧ (Lit.int k q.2).wf = true) ∧
      (fs = [] ∨ ∃ b off, A = some ⟨b, off, none⟩ ∧ b < W.heap.size ∧ ∀ i, i < fs.length → W.cell? ⟨b, off + i * 2, none⟩ = some (.int k (fs.getD i (0, 0)).1) ∧ W.cell? ⟨b, off + i * 2 + 1, none⟩ = some (.int k (fs.getD i (0, 0)).2)) := by
  obtain ⟨fuel, hf⟩ := h
  rcases open_slice_pairs ht he ce o0 o1 c0 c1 hf with ⟨hcs, hx⟩ | ⟨a, len', cap', m, n, V0, V1, D0, D1, P0, P1, hcs, _, hl, hm, hmm, hx, hall⟩
  · simp [Value.cells] at hcs
    obtain ⟨rfl, rfl, rfl⟩ := hcs
    exact ⟨[], rfl, Nat.zero_le _, by simp, Or.inl rfl⟩
  · simp [Value.cells] at hcs
    obtain ⟨rfl, rfl, rfl⟩ := hcs
    simp only [Prod.mk.injEq] at hx
    obtain ⟨rfl, rfl⟩ := hx
    simp only [if_true] at hmm
    subst hmm
    have each : ∀ i, i < m → (∃ x, V0 i = .int k x ∧ (Lit.int k x).wf = true) ∧ ∃ x, V1 i = .int k x ∧ (Lit.int k x).wf = true := fun i hi => by
      obtain ⟨_, _, h3, h4⟩ := hall i hi
      obtain ⟨x, e0, _, w0⟩ := DataW.trod_int u0 h3
      obtain ⟨y, e1, _, w1⟩ := DataW.trod_int u1 h4
      simp at e0 e1
      exact ⟨⟨x, e0, w0⟩, ⟨y, e1, w1⟩⟩
    refine ⟨(List.range len).map fun i => (numOf' (V0 i), numOf' (V1 i)), by simp, by omega, ?_, ?_⟩
    · intro q hq
      obtain ⟨i, hi, rfl⟩ := List.mem_map.1 hq
      have hi' := List.mem_range.1 hi
      obtain ⟨⟨x, e0, w0⟩, ⟨y, e1, w1⟩⟩ := each i (by omega)
      rw [e0, e1]
      exact ⟨w0, w1⟩
    · by_cases h0 : len = 0
      · left; subst h0; simp
      · right
        obtain ⟨b, off, spot⟩ := a
        have hspot : spot = none := by simpa [Addr.add] using World.cell?_spot (hall 0 (by omega)).1
        subst hspot
        refine ⟨b, off, rfl, hlt (.cell b off) (List.mem_append_left _ (MemPlace.mem_row.2 ⟨0, by omega, by simp⟩)), fun i hi => ?_⟩
        have hi' : i < len := by simpa using hi
        obtain ⟨h1, h2, _, _⟩ := hall i (by omega)
        obtain ⟨⟨x, e0, _⟩, ⟨y, e1, _⟩⟩ := each i (by omega)
        rw [add_plain] at h1 h2
        rw [Nat.add_assoc, h1, h2, e0, e1]
        simp [hi', e0, e1, numOf']
end
end Go.Proofs.YtmifdkbpbkafjaaGreatDoor

namespace Go.Proofs.YtmifdkbpbkafjaaGreatDoor.allocEpochs
open Go.ChangeShapes Go.WideShapes Go.ChangeAt Go.RowKit Go.Joins Go.Maps
set_option maxRecDepth 100000

set_option maxHeartbeats 6400000 in
theorem walk (k s b h l : Int) (rs : List Rw) (A : Option Addr) (cap : Nat) (hl0 : rs.length ≤ 2 ^ 63 - 1) (zs : List Int) (A2 : Option Addr) (cap2 : Nat) (hz0 : zs.length ≤ 2 ^ 63 - 1) (W : World) (hok : ∀ r ∈ rs, OkRw W r) (hrow : RowX encRw 1 W A rs)
    (hrow2 : zs = [] ∨ ∃ b off, A2 = some ⟨b, off, none⟩ ∧ b < W.heap.size ∧ ∀ i, i < zs.length → W.cell? ⟨b, off + i, none⟩ = some (.int .i64 (zs.getD i 0))) (hg : Glo W) :
    Calls Tryz.prog 5 #[.agg #[.int .i64 k, .int .i64 s, .int .i64 b, .int .i64 h, .int .i64 l], .slice A rs.length cap, .slice A2 zs.length cap2] W fun e w' => e = .returned (.bool true) ∧ Below W.heap.size W w' := by
  have hE := (Env.start W).box W.heap.size rfl [.int .i64 k, .int .i64 s, .int .i64 b, .int .i64 h, .int .i64 l] 23
  have HG := Lib.hid hg
  have HROW := Lib.hid hrow
  have HROW2 := Lib.hid hrow2
  have HOK := Lib.hid hok
  have hl : rs.length ≤ 9223372036854775807 := by omega
  have hz : zs.length ≤ 9223372036854775807 := by omega
  have hlen9 : ∀ r ∈ rs, r.ds.length ≤ 9223372036854775807 := fun r hr => by have := (hok r hr).1; unfold maxLen at this; omega
  have HLEN := Lib.hid hlen9
  clear hg hrow hrow2 hok hl0 hz0 hlen9
  go_enter Tryz.func5, Tryz.ntmps5
  go_wp2_with fail
  refine (awake14 _ (HG.out.keep' hE.below)).mono ?_
  rintro o w1 ⟨rfl, hb⟩
  replace hE := hE.over hb
  clear hb
  generalize hX : W.heap.size = X at *
  have HX := Lib.hid hX
  clear hX
  have r0 := hE.rule 0 rfl
  go_wp2_with fail
  refine (great_t k s b h l A A2 cap cap2 zs.length rs hl hz HROW.out HLEN.out _ hE.below).mono ?_
  rintro o w2 ⟨hb, rfl | ⟨rfl, hc, hr1, hr4, hz4, hd40⟩⟩
  · replace hE := hE.over hb
    go_wp2_with fail
    go_ret
    exact ⟨rfl, hE.below⟩
  replace hE := hE.over hb
  clear hb r0
  have HC := Lib.hid hc
  have HR1 := Lib.hid hr1
  have HR4 := Lib.hid hr4
  have HD := Lib.hid hd40
  have hCk : COk ⟨k, s, b, h, l⟩ := by
    obtain ⟨-, h1, h2, -⟩ := chk_yes hc
    exact ⟨h1, by show 1 ≤ l ∧ l ≤ 1099511627775; omega⟩
  have HCK := Lib.hid hCk
  have hR : ∀ i, i < rs.length → OkR W (rs.getD i default) := fun i hi => by
    have hm : rs.getD i default ∈ rs := by rw [List.getD_eq_getElem?_getD, List.getElem?_eq_getElem hi]; exact List.getElem_mem hi
    obtain ⟨h1, h2, h3⟩ := HOK.out _ hm
    exact ⟨h3, hd40 i hi, h2⟩
  have HR := Lib.hid hR
  clear hc hr1 hr4 hd40 hCk hR
  go_wp2_with fail
  refine (new_w hE).mono ?_
  rintro o w3 ⟨p, cc, rfl, hE3, hb⟩
  clear hb hE
  go_wp2_with fail
  refine (start_w 0 1 (by decide) (by unfold maxLen; omega) hE3 rfl rfl).mono ?_
  rintro o w4 ⟨rfl, F4, hE4⟩
  simp only [List.set_cons_succ, List.set_cons_zero] at hE4
  clear hE3
  generalize ({ l := _, s := _, w := _, f := _, a := _ } : Cnt) = q4 at hE4
  replace hE4 := hE4.newU w4.heap.size rfl 34
  go_wp2_with fail
  refine (epoch13_any _).mono ?_
  rintro o w5 ⟨rfl, hb⟩
  replace hE4 := hE4.over hb
  clear hb
  generalize w4.heap.size = m at *
  go_wp2_with fail
  refine (refSet_any 1 0 0 1 (by simp) (hE4.ref 0 rfl)).mono ?_
  rintro o w6 ⟨rfl, F6, hU, hs⟩
  replace hE4 := hE4.turnU 0 rfl hU hs
  simp only [List.set_cons_zero] at hE4
  clear hU hs
  have r0 := hE4.rule 3 rfl
  go_wp2_with fail
  refine (threads_t k s b h l A cap rs HR4.out HROW.out HC.out hE4).mono ?_
  rintro o w7 ⟨g, cp, ps, rfl, hpl, hps, hE7⟩
  have hf0 : upd (fun _ => 0) (1, 0, 0) 1 = getL ml0 := by
    funext x
    show _ = getL [((1, 0, 0), 1)] x
    unfold upd
    simp only [getL]
    by_cases hx : x = (1, 0, 0)
    · rw [if_pos hx, if_pos hx.symm]
    · rw [if_neg hx, if_neg (fun e => hx e.symm)]
  rw [hf0] at hE7
  have hE8 : Env W (EL ⟨k, s, b, h, l⟩ (.slice (some ⟨g, 0, none⟩) rs.length cp) p cc m ⟨ps, F4, F6, q4, 0 + 1, ml0⟩ [boxI X [.int .i64 k, .int .i64 s, .int .i64 b, .int .i64 h, .int .i64 l]]) w7 := by
    refine hE7.perm (perm_of fun z => ?_)
    simp only [EL, List.count_cons, List.count_append, List.count_nil, ml0]
    omega
  have hgo := start_ok (w0 := W) (S := ⟨ps, F4, F6, q4, 0 + 1, ml0⟩) HCK.out HR.out hpl hps rfl (Nat.le_refl 1)
  have hep : ∀ (i : Nat) (q : Pk), ps[i]? = some q → TEp q.T := fun i q hi => by
    have hil : i < rs.length := by rw [← hpl]; exact (List.getElem?_eq_some_iff.1 hi).1
    obtain ⟨q9, h1, h2⟩ := hps i hil
    rw [hi] at h1
    obtain rfl := Option.some.inj h1
    rw [h2.2.2.1]
    exact fun h => no h rfl
  have HEP := Lib.hid hep
  clear hE7 hE4 hps hpl r0 hf0 hep
  have HGO := Lib.hid hgo
  clear hgo
  go_wp2_with fail
  go_loopw [10] (fun iv wr => ∃ (j : Nat) (S : GS), j ≤ zs.length ∧ iv = .int .i64 j ∧ GOk ⟨k, s, b, h, l⟩ rs (40 + j) S ∧ (∀ (i : Nat) (q : Pk), S.ps[i]? = some q → TEp q.T) ∧ Env W (EL ⟨k, s, b, h, l⟩ (.slice (some ⟨g, 0, none⟩) rs.length cp) p cc m S [boxI X [.int .i64 k, .int .i64 s, .int .i64 b, .int .i64 h, .int .i64 l]]) wr) (fun iv _ => zs.length - (intOf iv).toNat)
  case atStart => exact ⟨0, _, Nat.zero_le _, rfl, HGO.out, HEP.out, hE8⟩
  case round =>
    clear hE8 HGO HEP
    obtain ⟨j, S, hj, rfl, hgo, hep, hE⟩ := hrel
    by_cases hlt : j < zs.length
    · have hb1 : decide ((j : Int) < (zs.length : Int)) = true := by simp; omega
      rcases HROW2.out with h0 | ⟨bb, off, rfl, hbl, hc⟩
      · rw [h0] at hlt; simp at hlt
      obtain ⟨z, hz9⟩ : ∃ z, zs.getD j 0 = z := ⟨_, rfl⟩
      have hd0 : wr.cell? ⟨bb, off + j, none⟩ = some (.int .i64 z) := by rw [hE.below.cell (p := ⟨bb, off + j, none⟩) (by rw [HX.out]; exact hbl), hc j hlt, hz9]
      have hr1 := HR1.out
      have hr4 := HR4.out
      have hwl : IntKind.u64.wrap (rs.length : Int) = (rs.length : Int) := by rw [IntKind.wrap_u64]; omega
      obtain ⟨t, ht, htl⟩ : ∃ t : Nat, (IntKind.u64.wrap z).tmod (rs.length : Int) = (t : Int) ∧ t < rs.length := by
        have h0 : 0 ≤ IntKind.u64.wrap z := by rw [IntKind.wrap_u64]; omega
        refine ⟨((IntKind.u64.wrap z) % (rs.length : Int)).toNat, ?_, ?_⟩
        · rw [Int.tmod_eq_emod_of_nonneg h0, Int.toNat_of_nonneg (Int.emod_nonneg _ (by omega))]
        · have := Int.emod_lt_of_pos (IntKind.u64.wrap z) (show 0 < (rs.length : Int) by omega)
          have := Int.emod_nonneg (IntKind.u64.wrap z) (show (rs.length : Int) ≠ 0 by omega)
          omega
      obtain ⟨q, hq, hQ⟩ := hgo.ps t htl
      have htq : wr.cell? ⟨g, t, none⟩ = some (.pointer (some ⟨q.X.thr, 0, none⟩)) := by
        have := hE.tpAt 0 rfl t (by rw [List.length_map, hgo.len]; exact htl)
        rw [this]
        simp [List.getD_eq_getElem?_getD, hq]
      have htl' : (t : Int) < (rs.length : Int) := by omega
      have hnz : (rs.length : Int) ≠ 0 := by omega
      go_upto_region 14 with fail
      have hj9 : j ≤ 400 := by omega
      have HST : Hid (∀ v, Env W (EL ⟨k, s, b, h, l⟩ (.slice (some ⟨g, 0, none⟩) rs.length cp) p cc m S [boxI X [.int .i64 k, .int .i64 s, .int .i64 b, .int .i64 h, .int .i64 l]]) v → _) := Lib.hid fun v hv => step_pk HG.out HCK.out HR.out hgo (by omega) htl hq hv
      have hsl : S.ps.length = rs.length := hgo.len
      have hTok := hQ.t
      have hst := step_ep (f := getL S.ml) (C := ⟨k, s, b, h, l⟩) hTok (hep t q hq)
      have HSTP := Lib.hid hst
      have HEPS := Lib.hid hep
      have r7 := hE.thrE hq
      unfold thv at r7
      clear hd0 hc hz9 htq ht hst hep
      go_wp2_with fail
      refine (queue_c (hE.coreE hq)).mono ?_
      rintro o w9 ⟨rfl, rfl⟩
      go_wp2_with fail
      refine (head_q (hE.queE hq)).mono ?_
      rintro o w10 ⟨rfl, hb⟩
      replace hE := hE.over hb
      clear hb r7
      obtain ⟨x, y, z1, hhd⟩ : ∃ x y z1, q.T.ql.headD t0 = (x, y, z1) := ⟨_, _, _, rfl⟩
      rw [hhd]
      obtain ⟨sm, hsm⟩ : ∃ sm, (!q.T.ql.isEmpty) = sm := ⟨_, rfl⟩
      rw [hsm]
      have HHD := Lib.hid hhd
      have HSM := Lib.hid hsm
      clear hhd hsm
      replace hE := (hE.box w10.heap.size rfl [.int .i64 x, .int .i64 y, .int .i64 z1] 63).inE
      have r7 := hE.thrE hq
      unfold thv at r7
      go_wp2_with fail
      generalize w10.alloc _ = w11 at *
      generalize w10.heap.size = Z0 at *
      refine (held_c (hE.coreE hq)).mono ?_
      rintro o w12 ⟨rfl, hb⟩
      replace hE := hE.over hb
      clear hb r7
      obtain ⟨had, hhad⟩ : ∃ had, (q.T.hs != 0) = had := ⟨_, rfl⟩
      rw [hhad]
      have HHAD := Lib.hid hhad
      clear hhad
      replace hE := (hE.box w12.heap.size rfl [.int .i64 q.T.hs, .int .i64 0] 67).inE
      go_wp2_with fail
      generalize w12.alloc _ = w13 at *
      generalize w12.heap.size = Z1 at *
      refine (epoch_any _).mono ?_
      rintro o w14 ⟨rfl, hb⟩
      replace hE := hE.over hb
      clear hb
      go_wp2_with fail
      refine (peek_E 1 0 0 (by unfold Wf In64; simp) hE).mono ?_
      rintro o w15 ⟨rfl, hb⟩
      replace hE := hE.over hb
      clear hb
      go_wp2_with fail
      refine (step_pk HG.out HCK.out HR.out hgo (by omega) htl hq hE).mono ?_
      rintro o w16 ⟨rfl, S', q', hps', hthr, -, hT', hml', hgo', hE'⟩
      have hsl : S.ps.length = rs.length := hgo.len
      have hq' : S'.ps[t]? = some q' := by rw [hps']; simp [hsl, htl]
      have HEP2 : Hid (∀ (i : Nat) (q : Pk), S'.ps[i]? = some q → TEp q.T) := Lib.hid fun i q9 hi => by
        rw [hps'] at hi
        by_cases he : t = i
        · subst he
          simp [hsl, htl] at hi
          rw [← hi, hT']
          exact HSTP.out.1
        · rw [List.getElem?_set_ne he] at hi
          exact HEPS.out i q9 hi
      rw [← hT', ← hml'] at HSTP
      obtain ⟨a0, ha0⟩ : ∃ a0, getL S.ml (1, 0, 0) = a0 := ⟨_, rfl⟩
      obtain ⟨a1, ha1⟩ : ∃ a1, getL S'.ml (1, 0, 0) = a1 := ⟨_, rfl⟩
      rw [ha0]
      have haa : a1 = a0 ∨ a1 = a0 + 1 := by rw [← ha0, ← ha1]; exact HSTP.out.2.1
      have hal : a1 ≤ l := by rw [← ha1]; exact hgo'.f.ep
      have ha00 : 0 ≤ a0 := by rw [← ha0]; exact (hgo.f.u _).1
      have ha10 : 0 ≤ a1 := by rw [← ha1]; exact (hgo'.f.u _).1
      have HAA := Lib.hid haa
      have HAL := Lib.hid hal
      have hHS := Lib.hid HSTP.out.2.2
      have HA1 := Lib.hid ha1
      have r7 := hE'.thrE hq'
      unfold thv at r7
      rw [hthr] at r7
      clear hE hQ hTok HSTP hps' hT' hml' ha1 ha0 haa hal
      go_wp2_with fail
      refine (held_c (hE'.coreE hq')).mono ?_
      rintro o w17 ⟨rfl, hb⟩
      replace hE' := hE'.over hb
      clear hb r7
      obtain ⟨has, hhas⟩ : ∃ has, (q'.T.hs != 0) = has := ⟨_, rfl⟩
      rw [hhas]
      have HHAS := Lib.hid hhas
      clear hhas
      replace hE' := (hE'.box w17.heap.size rfl [.int .i64 q'.T.hs, .int .i64 0] 67).inE
      go_wp2_with fail
      generalize w17.alloc _ = w18 at *
      generalize w17.heap.size = Z2 at *
      refine (epoch_any _).mono ?_
      rintro o w19 ⟨rfl, hb⟩
      replace hE' := hE'.over hb
      clear hb
      go_wp2_with fail
      refine (peek_E 1 0 0 (by unfold Wf In64; simp) hE').mono ?_
      rintro o w20 ⟨rfl, hb⟩
      replace hE' := hE'.over hb
      clear hb
      rw [HA1.out]
      have rX := hE'.boxE (n := X) (vs := [.int .i64 k, .int .i64 s, .int .i64 b, .int .i64 h, .int .i64 l]) (by simp)
      have hl40 : 1 ≤ l ∧ l ≤ 1099511627775 := HCK.out.l
      have hlw : IntKind.u64.wrap l = l := by rw [IntKind.wrap_u64]; omega
      have hgt : decide (l < a1) = false := by have := HAL.out; simp; omega
      rcases HAA.out with h9 | h9
      case' inl =>
        have b1 : (a1 != a0) = false := by simp [h9]
        clear h9
        go_upto_region 23 with fail
        clear b1
      case' inr =>
        have b1 : (a1 != a0) = true := by simp; omega
        have hw1 : IntKind.u64.wrap (a0 + 1) = a1 := by have := HAL.out; rw [IntKind.wrap_u64]; omega
        clear h9
        go_upto_region 23 with fail
        clear b1 hw1
      all_goals
        clear rX hlw hgt hl40
        rcases has with _ | _
        · go_wp2_with fail
          exact ⟨⟨j + 1, S', by omega, by simp, hgo', HEP2.out, hE'.dropE.dropE.dropE⟩, by simp [intOf]; omega⟩
        rcases had with _ | _
        rotate_left
        · go_wp2_with fail
          exact ⟨⟨j + 1, S', by omega, by simp, hgo', HEP2.out, hE'.dropE.dropE.dropE⟩, by simp [intOf]; omega⟩
        obtain ⟨x9, y9, z9, t9, g1, g2, g3, g4⟩ := hHS.out (by have := HHAD.out; simpa using this) (by have := HHAS.out; simpa using this)
        have hx9 : x9 = x ∧ y9 = y := by
          have := HHD.out
          rw [g1] at this
          simp [List.headD] at this
          exact ⟨this.1, this.2.1⟩
        obtain ⟨rfl, rfl⟩ := hx9
        have hsmt : sm = true := by rw [← HSM.out, g1]; rfl
        subst hsmt
        rw [g2] at hE'
        have hye : decide (q'.T.e ≤ y9) = false := by simp; omega
        obtain ⟨q9, hq9, hP9⟩ := hgo'.ps t htl
        obtain rfl : q9 = q' := by rw [hq'] at hq9; exact (Option.some.inj hq9).symm
        have hee := hP9.t.e
        have hss := hP9.t.hs
        have hsC := HCK.out.s
        have hew : IntKind.u64.wrap q9.T.e = q9.T.e := by rw [IntKind.wrap_u64]; have : q9.T.e ≤ l := hee.2; have := HCK.out.l.2; have : l ≤ 1099511627775 := this; omega
        have hwf : Wf (5, x9, 0) := by
          rw [g2] at hss
          have : x9 ≤ s := hss.2
          have : s ≤ 8388607 := hsC.2
          unfold Wf In64
          dsimp only
          omega
        obtain ⟨e9, he9⟩ : ∃ e9, q9.T.e = e9 := ⟨_, rfl⟩
        rw [he9] at hye hew
        have HC : Hid (∀ v, Env W (EL ⟨k, s, b, h, l⟩ (.slice (some ⟨g, 0, none⟩) rs.length cp) p cc m S' (boxI Z2 [.int .i64 x9, .int .i64 0] :: boxI Z1 [.int .i64 q.T.hs, .int .i64 0] :: boxI Z0 [.int .i64 x9, .int .i64 y9, .int .i64 z1] :: [boxI X [.int .i64 k, .int .i64 s, .int .i64 b, .int .i64 h, .int .i64 l]])) v → (∀ i, v.cell? ⟨Z0, i, none⟩ = [Value.int .i64 x9, .int .i64 y9, .int .i64 z1][i]?) ∧ (∀ i, v.cell? ⟨Z2, i, none⟩ = [Value.int .i64 x9, .int .i64 0][i]?) ∧ v.cell? ⟨q.X.thr, 0, none⟩ = some (.pointer (some ⟨q9.X.c, 0, none⟩))) := Lib.hid fun v hv => ⟨hv.boxE (by simp), hv.boxE (by simp), by rw [← hthr]; exact hv.thrE hq' 0⟩
        have HEC : Hid (∀ v, Env W (EL ⟨k, s, b, h, l⟩ (.slice (some ⟨g, 0, none⟩) rs.length cp) p cc m S' (boxI Z2 [.int .i64 x9, .int .i64 0] :: boxI Z1 [.int .i64 q.T.hs, .int .i64 0] :: boxI Z0 [.int .i64 x9, .int .i64 y9, .int .i64 z1] :: [boxI X [.int .i64 k, .int .i64 s, .int .i64 b, .int .i64 h, .int .i64 l]])) v → Calls Tryz.prog 25 #[.pointer (some ⟨q9.X.c, 0, none⟩)] v fun o w' => o = .returned (.int .i64 e9) ∧ w' = v) := Lib.hid fun v hv => by
          rw [← he9]
          exact epoch_c (hv.coreE hq')
        have HPK : Hid (∀ v, Env W (EL ⟨k, s, b, h, l⟩ (.slice (some ⟨g, 0, none⟩) rs.length cp) p cc m S' (boxI Z2 [.int .i64 x9, .int .i64 0] :: boxI Z1 [.int .i64 q.T.hs, .int .i64 0] :: boxI Z0 [.int .i64 x9, .int .i64 y9, .int .i64 z1] :: [boxI X [.int .i64 k, .int .i64 s, .int .i64 b, .int .i64 h, .int .i64 l]])) v → Calls Tryz.prog 23 #[.pointer (some ⟨p, 0, none⟩), .agg #[.int .i64 5, .int .i64 x9, .int .i64 0]] v fun o w' => o = .returned (.int .u64 e9) ∧ Below v.heap.size v w') := Lib.hid fun v hv => by
          rw [← he9, ← g4]
          exact peek_E 5 x9 0 hwf hv
        clear g1 g2 g3 g4 hee hss hsC hwf hP9 hq9 he9 hHS
        go_upto_region 24 with fail
        refine wp_text (S := (Env W (EL ⟨k, s, b, h, l⟩ (.slice (some ⟨g, 0, none⟩) rs.length cp) p cc m S' (boxI Z2 [.int .i64 x9, .int .i64 0] :: boxI Z1 [.int .i64 q.T.hs, .int .i64 0] :: boxI Z0 [.int .i64 x9, .int .i64 y9, .int .i64 z1] :: [boxI X [.int .i64 k, .int .i64 s, .int .i64 b, .int .i64 h, .int .i64 l]])))) (by kernel_rfl) (by kernel_rfl) hE'.drew (fun hT => ?_)
        have hT9 := Lib.hid hT
        clear hT
        repeat (first
          | (refine text_value (v := ?_) hT9.out (by rfl) ?_ ?_; rotate_left; (focus (intro w5 hS; obtain ⟨r0, r2, r7⟩ := HC.out _ hS; go_simp <;> with_reducible rfl)); (try simp only [Act.put, List.setIfInBounds_toArray, List.set_cons_zero, List.set_cons_succ]))
          | (refine text_off hT9.out (by rfl) ?_; (try simp only [Act.put, List.setIfInBounds_toArray, List.set_cons_zero, List.set_cons_succ]))
          | (refine text_call (v := ?_) (f := ?_) (args := ?_) hT9.out (by rfl) ?_ ?_ ?_; rotate_left 3; (focus (intro w5 hS; obtain ⟨r0, r2, r7⟩ := HC.out _ hS; go_simp; constructor <;> with_reducible rfl)); (focus (intro w5 hS; (first | (with_reducible refine (HEC.out _ hS).mono ?_; rintro o w6 ⟨rfl, rfl⟩; constructor; with_reducible rfl; exact hS) | (with_reducible refine (HPK.out _ hS).mono ?_; rintro o w6 ⟨rfl, hb5⟩; constructor; with_reducible rfl; exact hS.over hb5) | (with_reducible refine (placeOf_any _ _ _).mono ?_; rintro o w6 ⟨rfl, hb5⟩; constructor; with_reducible rfl; exact hS.over hb5)))); (try simp only [Act.put, List.setIfInBounds_toArray, List.set_cons_zero, List.set_cons_succ])))
        refine InText.nil fun w5 hS5 => ?_
        clear hT9
        clear hE' HC HEC HPK
        go_wp2_with fail
        exact ⟨⟨j + 1, S', by omega, by simp, hgo', HEP2.out, hS5.dropE.dropE.dropE⟩, by simp [intOf]; omega⟩
    · have hb1 : decide ((j : Int) < (zs.length : Int)) = false := by simp; omega
      go_wp2_with fail
      go_ret
      exact ⟨rfl, hE.below⟩

theorem cellsInt : Tryz.prog.cellsOf 3 = 1 := by kernel_rfl

theorem own : ownKnob Tryz.prog.godebug = none := by kernel_rfl
theorem laidOut : laidOutB Tryz.prog = true := by kernel_rfl

set_option maxRecDepth 100000 in
theorem lifted (os : Os) (started : os.Started) (H : Type) (enc : TypeId × Value → H) :
    ReturnsInHanded {} Tryz.checked os 5 .any (fun w args => (Rows.allocEpochsSpec.pre enc Tryz.prog Tryz.f5 [] false w args ∧ laidMetH Tryz.prog laid3 w) ∧ sizedMet enc Tryz.prog Tryz.f5 (OpenSpec.ofChange Rows.allocEpochsSpec) false w args)
      (Rows.allocEpochsSpec.post enc Tryz.prog Tryz.f5 false true false false) := by
  refine returnsInHanded_of_change_and (C := Tryz.checked) (X := fun w _ => laidMetH Tryz.prog laid3 w) (fun _ _ _ hh h => h.of_heap hh) own started (by kernel_rfl) Tryz.func5
    (ChangeSpec.witness_shaped (enc := enc) (C := Tryz.checked) (os := os) (X := fun w _ => laidMetH Tryz.prog laid3 w) false (World.doorLaid Tryz.prog 24 os) #[.agg #[.int .i64 0, .int .i64 0, .int .i64 0, .int .i64 0, .int .i64 0], .slice none 0 0, .slice none 0 0] 8 rfl (World.shaped_of_RefB (by kernel_rfl) (by kernel_rfl)) (by kernel_rfl) (by kernel_rfl) (by kernel_rfl) (door_met os _)) ?_
  intro W base args ds gs before hval0 hW _ _ hL _
  have hval : ∀ (j : Nat) t v, Tryz.f5.params[j]? = some t → args[j]? = some v → Value.okWide Tryz.prog W .any base t v := hval0
  have hW' := hW
  obtain ⟨p, q, hA0, hV, rfl, hfz, hnd⟩ := hW
  have hA : DataW.TrodAll enc Tryz.prog W 0 (fun _ => true) true Tryz.f5.params.toList args.toList ds p := hA0
  rw [Tryz.params5] at hA hval
  obtain ⟨v0, vs0, d0, ds0, p0, q0, hargs, rfl, rfl, g0, r0⟩ := trodAll_cons hA
  obtain ⟨v1, vs1, d1, ds1, p1, q1, rfl, rfl, rfl, g1, r1⟩ := trodAll_cons r0
  obtain ⟨v2, vs2, d2, ds2, p2, q2, rfl, rfl, rfl, g2, r2⟩ := trodAll_cons r1
  obtain ⟨rfl, rfl, rfl⟩ := trodAll_nil r2
  obtain rfl : args = #[v0, v1, v2] := by cases args; simp_all
  obtain ⟨rfl, rfl⟩ := trodVars_none hV
  obtain ⟨cs0, rfl, z0, H0⟩ := open_flat (ss := [.num .i64, .num .i64, .num .i64, .num .i64, .num .i64]) Tryz.underlying23 (by kernel_rfl) (by kernel_rfl) ⟨Tryz.underlying3, Tryz.underlying3, Tryz.underlying3, Tryz.underlying3, Tryz.underlying3, trivial⟩ (hval 0 23 v0 rfl rfl) g0
  obtain ⟨l0, rfl, z0⟩ := list_of z0
  obtain ⟨x0_0, x0_1, x0_2, x0_3, x0_4, rfl⟩ := list5 z0
  obtain ⟨_, e, a0_0, rfl, w0_0⟩ := H0 0 _ rfl
  obtain rfl : x0_0 = .int .i64 a0_0 := by simpa using e
  clear e
  have h0_0 := i64_in w0_0
  obtain ⟨_, e, a0_1, rfl, w0_1⟩ := H0 1 _ rfl
  obtain rfl : x0_1 = .int .i64 a0_1 := by simpa using e
  clear e
  have h0_1 := i64_in w0_1
  obtain ⟨_, e, a0_2, rfl, w0_2⟩ := H0 2 _ rfl
  obtain rfl : x0_2 = .int .i64 a0_2 := by simpa using e
  clear e
  have h0_2 := i64_in w0_2
  obtain ⟨_, e, a0_3, rfl, w0_3⟩ := H0 3 _ rfl
  obtain rfl : x0_3 = .int .i64 a0_3 := by simpa using e
  clear e
  have h0_3 := i64_in w0_3
  obtain ⟨_, e, a0_4, rfl, w0_4⟩ := H0 4 _ rfl
  obtain rfl : x0_4 = .int .i64 a0_4 := by simpa using e
  clear e
  have h0_4 := i64_in w0_4
  clear H0
  obtain ⟨A1, n1, cap1, rfl⟩ := okWide_slice Tryz.underlying24 (hval 1 24 v1 rfl rfl)
  obtain ⟨zs1, rfl, h1, w1, row1⟩ := open_Rws g1 (fun x hx => hW'.lt x (by simp [hx]))
  unfold maxLen at h1
  obtain ⟨A2, n2, cap2, rfl⟩ := okWide_slice Tryz.underlying25 (hval 2 25 v2 rfl rfl)
  obtain ⟨zs2, rfl, h2, w2, row2⟩ := open_num_row Tryz.underlying25 Tryz.underlying3 cellsInt g2 (fun x hx => hW'.lt x (by simp [hx]))
  unfold maxLen at h2
  clear hA0 hval0
  have hG := glo_of_laid hL
  refine (walk a0_0 a0_1 a0_2 a0_3 a0_4 zs1 A1 cap1 h1 zs2 A2 cap2 h2 W w1 row1 row2 hG).mono fun e W' ⟨he, hg⟩ => ?_
  subst he
  exact ⟨_, rfl, law_post laidOut (by kernel_rfl) (by kernel_rfl) Tryz.underlying4 rfl rfl hW' hg⟩

theorem over : Rows.allocEpochsRow.holds Tryz.pinned (OpenSpec.ofChange Rows.allocEpochsSpec) :=
  OpenClaim.holds_of_wide 5 Tryz.f5 rfl rfl rfl rfl rfl rfl rfl ⟨rfl, rfl, rfl, rfl, rfl⟩ rfl rfl rfl rfl rfl (by kernel_rfl) Tryz.func5 (by kernel_rfl)
    (of_decide_eq_true (by kernel_rfl)) (by unfold Func.isWrapper; first | (rw [if_pos (by decide +kernel)]; kernel_rfl) | (rw [if_neg (by decide +kernel)]; exact ⟨rfl, rfl⟩))
    (fun os started H enc _ => lifted os started H enc)

/-- THE STATEMENT. -/
theorem proved : Rows.AllocEpochsCardSaid :=
  Claim7.holds_tied_plain_at .later [] [.wider, .wider, .wider] true _ true
    over (fun _ h => by cases h) (by kernel_rfl) (fun _ h => by cases h) allocEpochs_row_tie rfl ⟨rfl, rfl⟩ (by kernel_rfl) rfl
    (fun f fn hf hfn => by
      obtain rfl : f = 5 := Option.some.inj ((show Tryz.prog.funcNamed "revenant/revenantlaw14.AllocEpochs" = some 5 by kernel_rfl).symm.trans hf) |>.symm
      obtain rfl : fn = Tryz.f5 := (Option.some.inj (Tryz.func5.symm.trans hfn)).symm
      exact ⟨by kernel_rfl, fun j t ht => by
        rw [Tryz.params5] at ht
        have hm : t ∈ [23, 24, 25] := by simpa using Array.mem_of_getElem? ht
        have hall : ([23, 24, 25].all fun u => !Tryz.prog.wantsStandIn u) = true := by kernel_rfl
        exact (show Tryz.prog.wantsStandIn t = false by simpa using List.all_eq_true.1 hall t hm)⟩)
    (by kernel_rfl)
#print axioms proved
end Go.Proofs.YtmifdkbpbkafjaaGreatDoor.allocEpochs
