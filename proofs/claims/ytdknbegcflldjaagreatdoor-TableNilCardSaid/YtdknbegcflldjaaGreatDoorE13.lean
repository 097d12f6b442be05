/- What is proved on the way to the statement, part 13 of 17: contracts of the functions, among other things in memory. -/
import Derived.Test.YtdknbegcflldjaaGreatDoorE12

/- Threads, by plain mathematics: what is kept by a step. -/
namespace Go.Proofs.YtdknbegcflldjaaGreatDoor
open Go.RowKit Go.Maps
set_option maxRecDepth 100000

theorem decP_adv {ql : List Trip} {e l : Int} (h : decP ql e l = 1) : e < l := by
  rcases ql with _ | ⟨⟨x, y, z⟩, t⟩
  · exact no h rfl
  · simp only [decP] at h
    split at h
    · exact absurd h (by decide)
    · split at h
      · exact absurd h (by decide)
      · omega
theorem decP_born {ql : List Trip} {e l : Int} (h : decP ql e l = 10) : ql ≠ [] := by
  rintro rfl
  exact no h rfl
theorem decP_head {ql : List Trip} {e l : Int} (h : decP ql e l = 10) : ∃ x y z t, ql = (x, y, z) :: t ∧ y < e := by
  rcases ql with _ | ⟨⟨x, y, z⟩, t⟩
  · exact no h rfl
  · simp only [decP] at h
    split at h
    · rename_i h9
      exact ⟨x, y, z, t, rfl, h9⟩
    · split at h <;> exact absurd h (by decide)
theorem lastS_in (k n : Nat) : lastS k n = 0 ∨ lastS k n = 1 := by
  unfold lastS
  split
  · exact .inr rfl
  · exact .inl rfl
theorem decS_in {ql : List Trip} {e l : Int} : (decP ql e l = 0 ∧ decS ql e l = 4) ∨ (decP ql e l ≠ 0 ∧ decS ql e l = 0) := by
  unfold decS
  by_cases h : decP ql e l = 0
  · exact .inl ⟨h, if_pos h⟩
  · exact .inr ⟨h, if_neg h⟩
theorem gdS_in (ql : List Trip) : (ql = [] ∧ gdS ql = 1) ∨ (ql ≠ [] ∧ gdS ql = 0) := by
  rcases ql with _ | ⟨x, t⟩
  · exact .inl ⟨rfl, rfl⟩
  · exact .inr ⟨by simp, rfl⟩
theorem ql_add {C : Cf} {l : List Trip} {x y : Int} (h : ∀ z ∈ l, 1 ≤ z.1 ∧ z.1 ≤ C.s ∧ z.2.2 = 0) (h1 : 1 ≤ x) (h2 : x ≤ C.s) : ∀ z ∈ l ++ [(x, y, 0)], 1 ≤ z.1 ∧ z.1 ≤ C.s ∧ z.2.2 = 0 := by
  intro z hz
  rcases List.mem_append.1 hz with hz | hz
  · exact h z hz
  · simp at hz
    subst hz
    exact ⟨h1, h2, rfl⟩

section
variable {C : Cf} {ds : List Dd} {B : Nat} {T : Th} {f : Mem} {d : Dd}
theorem al_cases (C : Cf) (d : Dd) (T : Th) (f : Mem) (hp : T.pc = 2) : actM C d T f = ({ (allocM C d T f).2.1 with pc := if (allocM C d T f).1 = 2 then 1 else if (allocM C d T f).1 = 0 then 2 else 0, done := if (allocM C d T f).1 = 1 then T.done + 1 else T.done, full := (allocM C d T f).1 == 3 }, (allocM C d T f).2.2) := by
  unfold actM
  rw [if_neg (by omega), if_pos hp]
set_option maxHeartbeats 1600000 in
theorem act1_ok (hC : COk C) (hF : OkF C f) (hT : OkT C ds B T) (h1 : T.pc = 1) : OkF C (actM C d T f).2 ∧ OkT C ds (B + 1) (actM C d T f).1 := by
  have hp : T.pc ≠ 0 := by omega
  have hm := hT.more
  have hz : slotI 0 = 0 := by decide
  have hu0 : InU 0 := by unfold InU; omega
  have hs := hC.s
  have he := epI_of (hF.u (1, 0, 0)) hF.ep hC.l.2
  have he9 : 0 ≤ epI (f (1, 0, 0)) ∧ epI (f (1, 0, 0)) ≤ C.l := by rw [he.1]; exact ⟨he.2, hF.ep⟩
  unfold actM
  rw [if_pos h1]
  dsimp only
  generalize epI (f (1, 0, 0)) = e at he9
  by_cases hD : decP T.ql e C.l = 0
  · rw [if_pos hD]
    exact ⟨hF, { hm with e := he9, w := ⟨hu0, hu0, hu0⟩, an := (by show slotI 0 ≤ C.s; omega), pc := .inl rfl, nd1 := fun _ => hT.nd1 hp, p1 := fun h => no h rfl, apc := fun h => no h rfl, low := fun h => no h rfl, adv := fun h => no h rfl, born := fun h => no h rfl, pool := fun h => no h rfl, rpc := fun h => no h rfl, rsp := fun h => no h rfl, give := fun h => no h rfl, gv := fun h => no h rfl }⟩
  · rw [if_neg hD]
    refine ⟨hF, { hm with e := he9, w := ⟨hu0, hu0, hu0⟩, an := (by show slotI 0 ≤ C.s; omega), pc := .inr (.inr (.inl rfl)), nd1 := fun _ => hT.nd1 hp, p1 := fun h => no h rfl, rpc := fun h => no h rfl, rsp := fun h => no h rfl, give := fun h => no h rfl, gv := fun h => no h rfl, apc := fun _ => ?_, low := fun _ _ => hT.p1 h1, adv := fun _ h => decP_adv h, born := fun _ h => decP_born h, pool := fun _ ha hb => ?_ }⟩
    · show decP T.ql e C.l = 1 ∨ decP T.ql e C.l = 2 ∨ decP T.ql e C.l = 3 ∨ decP T.ql e C.l = 4 ∨ decP T.ql e C.l = 5 ∨ decP T.ql e C.l = 6 ∨ 10 ≤ decP T.ql e C.l
      rcases decP_in T.ql e C.l with h | h | h | h <;> omega
    · have ha' : 4 ≤ decP T.ql e C.l := ha
      have hb' : decP T.ql e C.l ≤ 6 := hb
      rcases decP_in T.ql e C.l with h | h | h | h <;> omega
set_option maxHeartbeats 3200000 in
theorem act2_ok (hC : COk C) (hF : OkF C f) (hT : OkT C ds B T) (h2 : T.pc = 2) (hu : ∀ x, InU ((actM C d T f).2 x)) : OkF C (actM C d T f).2 ∧ OkT C ds (B + 1) (actM C d T f).1 := by
  have hp : T.pc ≠ 0 := by omega
  have hm := hT.more
  have hs := hC.s
  have hfu := hF.u
  have hdone := hT.done
  rw [al_cases C d T f h2] at hu ⊢
  rcases hT.apc h2 with ha | ha | ha | ha | ha | ha | ha
  · have hlow := hT.low h2 (by omega)
    have hal : allocM C d T f = (2, T, swf f (1, 0, 0) T.e (T.e + 1)) := by unfold allocM; rw [if_pos ha]
    rw [hal] at hu ⊢
    exact ⟨hF.swe (by have := hT.adv h2 ha; omega) hu, { hm with pc := .inr (.inl rfl), p1 := fun _ => hlow, nd1 := fun _ => hT.nd1 hp, apc := fun h => no h rfl, low := fun h => no h rfl, adv := fun h => no h rfl, born := fun h => no h rfl, pool := fun h => no h rfl, rpc := fun h => no h rfl, rsp := fun h => no h rfl, give := fun h => no h rfl, gv := fun h => no h rfl }⟩
  · have hlow := hT.low h2 (by omega)
    by_cases hx : C.s ≤ f (3, 0, 0)
    · have hal : allocM C d T f = (0, { T with apc := 3 }, upd f (3, 0, 0) (IntKind.u64.wrap (f (3, 0, 0) + 1))) := by unfold allocM; rw [if_neg (by omega), if_pos ha, if_pos hx]
      rw [hal] at hu ⊢
      exact ⟨hF.upd (by simp) (by simp) (fun i h => by simp at h) hu, { hm with pc := .inr (.inr (.inl rfl)), nd1 := fun _ => hT.nd1 hp, p1 := fun h => no h rfl, rpc := fun h => no h rfl, rsp := fun h => no h rfl, give := fun h => no h rfl, gv := fun h => no h rfl, apc := fun _ => .inr (.inr (.inl rfl)), low := fun _ _ => hlow, adv := fun _ h => no h rfl, born := fun _ h => no h rfl, pool := fun _ ha hb => (by have ha' : 4 ≤ (3 : Nat) := ha; have hb' : (3 : Nat) ≤ 6 := hb; omega) }⟩
    · have hal : allocM C d T f = (decS (T.ql ++ [(f (3, 0, 0) + 1, 0, 0)]) T.e C.l, { T with ql := T.ql ++ [(f (3, 0, 0) + 1, 0, 0)], apc := decP (T.ql ++ [(f (3, 0, 0) + 1, 0, 0)]) T.e C.l }, upd f (3, 0, 0) (IntKind.u64.wrap (f (3, 0, 0) + 1))) := by unfold allocM; rw [if_neg (by omega), if_pos ha, if_neg hx]
      rw [hal] at hu ⊢
      have hf3 : 0 ≤ f (3, 0, 0) := (hfu _).1
      refine ⟨hF.upd (by simp) (by simp) (fun i h => by simp at h) hu, ?_⟩
      clear hu hal
      have hq := ql_add (y := 0) hT.ql (show 1 ≤ f (3, 0, 0) + 1 by omega) (by omega)
      rcases decS_in (ql := T.ql ++ [(f (3, 0, 0) + 1, 0, 0)]) (e := T.e) (l := C.l) with ⟨hD, hS⟩ | ⟨hD, hS⟩
      · rw [hS]
        exact { hm with ql := hq, len := (by have := hT.len; simp; omega), pc := .inl rfl, nd1 := fun _ => hT.nd1 hp, p1 := fun h => no h rfl, apc := fun h => no h rfl, low := fun h => no h rfl, adv := fun h => no h rfl, born := fun h => no h rfl, pool := fun h => no h rfl, rpc := fun h => no h rfl, rsp := fun h => no h rfl, give := fun h => no h rfl, gv := fun h => no h rfl }
      · rw [hS]
        refine { hm with ql := hq, len := (by have := hT.len; simp; omega), pc := .inr (.inr (.inl rfl)), nd1 := fun _ => hT.nd1 hp, p1 := fun h => no h rfl, rpc := fun h => no h rfl, rsp := fun h => no h rfl, give := fun h => no h rfl, gv := fun h => no h rfl, apc := fun _ => ?_, low := fun _ _ => hlow, adv := fun _ h => decP_adv h, born := fun _ h => decP_born h, pool := fun _ ha hb => ?_ }
        · show decP (T.ql ++ [(f (3, 0, 0) + 1, 0, 0)]) T.e C.l = 1 ∨ decP (T.ql ++ [(f (3, 0, 0) + 1, 0, 0)]) T.e C.l = 2 ∨ decP (T.ql ++ [(f (3, 0, 0) + 1, 0, 0)]) T.e C.l = 3 ∨ decP (T.ql ++ [(f (3, 0, 0) + 1, 0, 0)]) T.e C.l = 4 ∨ decP (T.ql ++ [(f (3, 0, 0) + 1, 0, 0)]) T.e C.l = 5 ∨ decP (T.ql ++ [(f (3, 0, 0) + 1, 0, 0)]) T.e C.l = 6 ∨ 10 ≤ decP (T.ql ++ [(f (3, 0, 0) + 1, 0, 0)]) T.e C.l
          rcases decP_in (T.ql ++ [(f (3, 0, 0) + 1, 0, 0)]) T.e C.l with h | h | h | h <;> omega
        · have ha' : 4 ≤ decP (T.ql ++ [(f (3, 0, 0) + 1, 0, 0)]) T.e C.l := ha
          have hb' : decP (T.ql ++ [(f (3, 0, 0) + 1, 0, 0)]) T.e C.l ≤ 6 := hb
          rcases decP_in (T.ql ++ [(f (3, 0, 0) + 1, 0, 0)]) T.e C.l with h | h | h | h <;> omega

  · have hlow := hT.low h2 (by omega)
    have hal : allocM C d T f = (poolS (f (2, 0, 0)) C.l, { T with ah := f (2, 0, 0), apc := 4 }, f) := by unfold allocM; rw [if_neg (by omega), if_neg (by omega), if_pos ha]
    rw [hal] at hu ⊢
    refine ⟨hF, ?_⟩
    have hw : InU (f (2, 0, 0)) ∧ InU T.an ∧ InU T.ar := ⟨hfu _, hT.w.2⟩
    by_cases q1 : slotI (f (2, 0, 0)) = 0
    · rw [show poolS (f (2, 0, 0)) C.l = 3 from if_pos q1]
      exact { hm with w := hw, pc := .inl rfl, nd1 := fun _ => hT.nd1 hp, p1 := fun h => no h rfl, apc := fun h => no h rfl, low := fun h => no h rfl, adv := fun h => no h rfl, born := fun h => no h rfl, pool := fun h => no h rfl, rpc := fun h => no h rfl, rsp := fun h => no h rfl, give := fun h => no h rfl, gv := fun h => no h rfl }
    · by_cases q2 : C.l ≤ verI (f (2, 0, 0))
      · rw [show poolS (f (2, 0, 0)) C.l = 4 from (if_neg q1).trans (if_pos q2)]
        exact { hm with w := hw, pc := .inl rfl, nd1 := fun _ => hT.nd1 hp, p1 := fun h => no h rfl, apc := fun h => no h rfl, low := fun h => no h rfl, adv := fun h => no h rfl, born := fun h => no h rfl, pool := fun h => no h rfl, rpc := fun h => no h rfl, rsp := fun h => no h rfl, give := fun h => no h rfl, gv := fun h => no h rfl }
      · rw [show poolS (f (2, 0, 0)) C.l = 0 from (if_neg q1).trans (if_neg q2)]
        exact { hm with w := hw, pc := .inr (.inr (.inl rfl)), nd1 := fun _ => hT.nd1 hp, p1 := fun h => no h rfl, rpc := fun h => no h rfl, rsp := fun h => no h rfl, give := fun h => no h rfl, gv := fun h => no h rfl, apc := fun _ => .inr (.inr (.inr (.inl rfl))), low := fun _ _ => hlow, adv := fun _ h => no h rfl, born := fun _ h => no h rfl, pool := fun _ _ _ => ⟨(by have := slotI_in (f (2, 0, 0)); show 1 ≤ slotI (f (2, 0, 0)); omega), hF.pool, (by show verI (f (2, 0, 0)) < C.l; omega)⟩ }
  · have hlow := hT.low h2 (by omega)
    have hal : allocM C d T f = (0, { T with an := f (5, slotI T.ah, 2), apc := 5 }, f) := by unfold allocM; rw [if_neg (by omega), if_neg (by omega), if_neg (by omega), if_pos ha]
    rw [hal] at hu ⊢
    exact ⟨hF, { hm with w := ⟨hT.w.1, hfu _, hT.w.2.2⟩, an := hF.chain _, pc := .inr (.inr (.inl rfl)), nd1 := fun _ => hT.nd1 hp, p1 := fun h => no h rfl, rpc := fun h => no h rfl, rsp := fun h => no h rfl, give := fun h => no h rfl, gv := fun h => no h rfl, apc := fun _ => .inr (.inr (.inr (.inr (.inl rfl)))), low := fun _ _ => hlow, adv := fun _ h => no h rfl, born := fun _ h => no h rfl, pool := fun _ _ _ => hT.pool h2 (by omega) (by omega) }⟩
  · have hlow := hT.low h2 (by omega)
    have hal : allocM C d T f = (0, { T with ar := f (5, slotI T.ah, 1), apc := 6 }, f) := by unfold allocM; rw [if_neg (by omega), if_neg (by omega), if_neg (by omega), if_neg (by omega), if_pos ha]
    rw [hal] at hu ⊢
    exact ⟨hF, { hm with w := ⟨hT.w.1, hT.w.2.1, hfu _⟩, pc := .inr (.inr (.inl rfl)), nd1 := fun _ => hT.nd1 hp, p1 := fun h => no h rfl, rpc := fun h => no h rfl, rsp := fun h => no h rfl, give := fun h => no h rfl, gv := fun h => no h rfl, apc := fun _ => .inr (.inr (.inr (.inr (.inr (.inl rfl))))), low := fun _ _ => hlow, adv := fun _ h => no h rfl, born := fun _ h => no h rfl, pool := fun _ _ _ => hT.pool h2 (by omega) (by omega) }⟩
  · have hlow := hT.low h2 (by omega)
    have hpl := hT.pool h2 (by omega) (by omega)
    by_cases hx : f (2, 0, 0) = T.ah
    · have hal : allocM C d T f = (decS (T.ql ++ [(slotI T.ah, epI T.ar, 0)]) T.e C.l, { T with ql := T.ql ++ [(slotI T.ah, epI T.ar, 0)], apc := decP (T.ql ++ [(slotI T.ah, epI T.ar, 0)]) T.e C.l }, swf f (2, 0, 0) T.ah (nextW T.ah (slotI T.an))) := by unfold allocM; rw [if_neg (by omega), if_neg (by omega), if_neg (by omega), if_neg (by omega), if_neg (by omega), if_pos ha, if_pos hx]
      rw [hal] at hu ⊢
      refine ⟨hF.swp (slot_next (by omega) hT.an) hu, ?_⟩
      clear hu hal
      have hq := ql_add (y := epI T.ar) hT.ql hpl.1 hpl.2.1
      rcases decS_in (ql := T.ql ++ [(slotI T.ah, epI T.ar, 0)]) (e := T.e) (l := C.l) with ⟨hD, hS⟩ | ⟨hD, hS⟩
      · rw [hS]
        exact { hm with ql := hq, len := (by have := hT.len; simp; omega), pc := .inl rfl, nd1 := fun _ => hT.nd1 hp, p1 := fun h => no h rfl, apc := fun h => no h rfl, low := fun h => no h rfl, adv := fun h => no h rfl, born := fun h => no h rfl, pool := fun h => no h rfl, rpc := fun h => no h rfl, rsp := fun h => no h rfl, give := fun h => no h rfl, gv := fun h => no h rfl }
      · rw [hS]
        refine { hm with ql := hq, len := (by have := hT.len; simp; omega), pc := .inr (.inr (.inl rfl)), nd1 := fun _ => hT.nd1 hp, p1 := fun h => no h rfl, rpc := fun h => no h rfl, rsp := fun h => no h rfl, give := fun h => no h rfl, gv := fun h => no h rfl, apc := fun _ => ?_, low := fun _ _ => hlow, adv := fun _ h => decP_adv h, born := fun _ h => decP_born h, pool := fun _ ha hb => ?_ }
        · show decP (T.ql ++ [(slotI T.ah, epI T.ar, 0)]) T.e C.l = 1 ∨ decP (T.ql ++ [(slotI T.ah, epI T.ar, 0)]) T.e C.l = 2 ∨ decP (T.ql ++ [(slotI T.ah, epI T.ar, 0)]) T.e C.l = 3 ∨ decP (T.ql ++ [(slotI T.ah, epI T.ar, 0)]) T.e C.l = 4 ∨ decP (T.ql ++ [(slotI T.ah, epI T.ar, 0)]) T.e C.l = 5 ∨ decP (T.ql ++ [(slotI T.ah, epI T.ar, 0)]) T.e C.l = 6 ∨ 10 ≤ decP (T.ql ++ [(slotI T.ah, epI T.ar, 0)]) T.e C.l
          rcases decP_in (T.ql ++ [(slotI T.ah, epI T.ar, 0)]) T.e C.l with h | h | h | h <;> omega
        · have ha' : 4 ≤ decP (T.ql ++ [(slotI T.ah, epI T.ar, 0)]) T.e C.l := ha
          have hb' : decP (T.ql ++ [(slotI T.ah, epI T.ar, 0)]) T.e C.l ≤ 6 := hb
          rcases decP_in (T.ql ++ [(slotI T.ah, epI T.ar, 0)]) T.e C.l with h | h | h | h <;> omega

    · have hal : allocM C d T f = (0, { T with apc := 3 }, swf f (2, 0, 0) T.ah (nextW T.ah (slotI T.an))) := by unfold allocM; rw [if_neg (by omega), if_neg (by omega), if_neg (by omega), if_neg (by omega), if_neg (by omega), if_pos ha, if_neg hx]
      rw [hal] at hu ⊢
      exact ⟨hF.swp (slot_next (by omega) hT.an) hu, { hm with pc := .inr (.inr (.inl rfl)), nd1 := fun _ => hT.nd1 hp, p1 := fun h => no h rfl, rpc := fun h => no h rfl, rsp := fun h => no h rfl, give := fun h => no h rfl, gv := fun h => no h rfl, apc := fun _ => .inr (.inr (.inl rfl)), low := fun _ _ => hlow, adv := fun _ h => no h rfl, born := fun _ h => no h rfl, pool := fun _ ha hb => (by have ha' : 4 ≤ (3 : Nat) := ha; have hb' : (3 : Nat) ≤ 6 := hb; omega) }⟩
  · by_cases h10 : T.apc = 10
    · have hal : allocM C d T f = (lastS 0 (wordsA C.k T.e d.key d.val (IntKind.u64.wrap d.lv)).length, { T with ql := T.ql.tail, hs := (T.ql.headD t0).1, apc := 11 }, upd f (5, (T.ql.headD t0).1, ((wordsA C.k T.e d.key d.val (IntKind.u64.wrap d.lv)).getD (T.apc - 10) (0, 0)).1) ((wordsA C.k T.e d.key d.val (IntKind.u64.wrap d.lv)).getD (T.apc - 10) (0, 0)).2) := by unfold allocM; rw [if_neg (by omega), if_neg (by omega), if_neg (by omega), if_neg (by omega), if_neg (by omega), if_neg (by omega)]; dsimp only; rw [if_pos h10]
      rw [hal] at hu ⊢
      obtain ⟨x, t, hxt⟩ : ∃ x t, T.ql = x :: t := by
        rcases hq : T.ql with _ | ⟨x, t⟩
        · exact absurd hq (hT.born h2 h10)
        · exact ⟨x, t, rfl⟩
      have hpn := part_ne C.k T.e d.key d.val (IntKind.u64.wrap d.lv) (T.apc - 10)
      refine ⟨hF.upd (by simp) (by simp) (fun i h => by simp at h; exact absurd h.2 hpn) hu, ?_⟩
      have hxx := hT.ql x (by rw [hxt]; simp)
      have hqt : ∀ z ∈ T.ql.tail, 1 ≤ z.1 ∧ z.1 ≤ C.s ∧ z.2.2 = 0 := fun z hz => hT.ql z (List.mem_of_mem_tail hz)
      have hhs : 0 ≤ (T.ql.headD t0).1 ∧ (T.ql.headD t0).1 ≤ C.s := by rw [hxt]; exact ⟨by show 0 ≤ x.1; omega, hxx.2.1⟩
      have hln : T.ql.tail.length + (ds.length - T.nd) ≤ B + 1 := by have := hT.len; simp; omega
      rcases lastS_in 0 (wordsA C.k T.e d.key d.val (IntKind.u64.wrap d.lv)).length with h | h <;> rw [h]
      · exact { hm with hs := hhs, ql := hqt, len := hln, pc := .inr (.inr (.inl rfl)), nd1 := fun _ => hT.nd1 hp, p1 := fun h => no h rfl, rpc := fun h => no h rfl, rsp := fun h => no h rfl, give := fun h => no h rfl, gv := fun h => no h rfl, apc := fun _ => .inr (.inr (.inr (.inr (.inr (.inr (by show (10 : Nat) ≤ 11; decide)))))), low := fun _ h => absurd h (by show ¬ (11 : Nat) ≤ 10; decide), adv := fun _ h => no h rfl, born := fun _ h => no h rfl, pool := fun _ ha hb => (by have ha' : 4 ≤ (11 : Nat) := ha; have hb' : (11 : Nat) ≤ 6 := hb; omega) }
      · exact { hm with hs := hhs, ql := hqt, len := hln, done := (by show 0 ≤ T.done + 1 ∧ T.done + 1 ≤ ((B + 1 : Nat) : Int); omega), pc := .inl rfl, nd1 := fun _ => hT.nd1 hp, p1 := fun h => no h rfl, apc := fun h => no h rfl, low := fun h => no h rfl, adv := fun h => no h rfl, born := fun h => no h rfl, pool := fun h => no h rfl, rpc := fun h => no h rfl, rsp := fun h => no h rfl, give := fun h => no h rfl, gv := fun h => no h rfl }
    · have hal : allocM C d T f = (lastS (T.apc - 10) (wordsA C.k T.e d.key d.val (IntKind.u64.wrap d.lv)).length, { T with apc := T.apc + 1 }, upd f (5, T.hs, ((wordsA C.k T.e d.key d.val (IntKind.u64.wrap d.lv)).getD (T.apc - 10) (0, 0)).1) ((wordsA C.k T.e d.key d.val (IntKind.u64.wrap d.lv)).getD (T.apc - 10) (0, 0)).2) := by unfold allocM; rw [if_neg (by omega), if_neg (by omega), if_neg (by omega), if_neg (by omega), if_neg (by omega), if_neg (by omega)]; dsimp only; rw [if_neg h10]
      rw [hal] at hu ⊢
      have hpn := part_ne C.k T.e d.key d.val (IntKind.u64.wrap d.lv) (T.apc - 10)
      refine ⟨hF.upd (by simp) (by simp) (fun i h => by simp at h; exact absurd h.2 hpn) hu, ?_⟩
      rcases lastS_in (T.apc - 10) (wordsA C.k T.e d.key d.val (IntKind.u64.wrap d.lv)).length with h | h <;> rw [h]
      · exact { hm with pc := .inr (.inr (.inl rfl)), nd1 := fun _ => hT.nd1 hp, p1 := fun h => no h rfl, rpc := fun h => no h rfl, rsp := fun h => no h rfl, give := fun h => no h rfl, gv := fun h => no h rfl, apc := fun _ => .inr (.inr (.inr (.inr (.inr (.inr (by show 10 ≤ T.apc + 1; omega)))))), low := fun _ h => (by have h' : T.apc + 1 ≤ 10 := h; omega), adv := fun _ h => (by have h' : T.apc + 1 = 1 := h; omega), born := fun _ h => (by have h' : T.apc + 1 = 10 := h; omega), pool := fun _ ha hb => (by have ha' : 4 ≤ (T.apc + 1 : Nat) := ha; have hb' : (T.apc + 1 : Nat) ≤ 6 := hb; omega) }
      · exact { hm with done := (by show 0 ≤ T.done + 1 ∧ T.done + 1 ≤ ((B + 1 : Nat) : Int); omega), pc := .inl rfl, nd1 := fun _ => hT.nd1 hp, p1 := fun h => no h rfl, apc := fun h => no h rfl, low := fun h => no h rfl, adv := fun h => no h rfl, born := fun h => no h rfl, pool := fun h => no h rfl, rpc := fun h => no h rfl, rsp := fun h => no h rfl, give := fun h => no h rfl, gv := fun h => no h rfl }
set_option maxHeartbeats 1600000 in
theorem act3_ok (hC : COk C) (hF : OkF C f) (hT : OkT C ds B T) (h3 : T.pc = 3) (hu : ∀ x, InU ((actM C d T f).2 x)) : OkF C (actM C d T f).2 ∧ OkT C ds (B + 1) (actM C d T f).1 := by
  have hp : T.pc ≠ 0 := by omega
  have hm := hT.more
  have hs := hC.s
  have hact : actM C d T f = ({ (retireM T f).2.1 with pc := if (retireM T f).1 = 0 then 3 else 0, full := false }, (retireM T f).2.2) := by
    unfold actM
    rw [if_neg (by omega), if_neg (by omega), if_pos h3]
  rw [hact] at hu ⊢
  rcases hT.rpc h3 with hr | hr
  · have hal : retireM T f = (0, { T with re := f (1, 0, 0), rpc := 1 }, f) := by unfold retireM; rw [if_pos hr]
    rw [hal] at hu ⊢
    exact ⟨hF, { hm with re := ⟨(hF.u _).1, hF.ep⟩, pc := .inr (.inr (.inr (.inl rfl))), nd1 := fun _ => hT.nd1 hp, p1 := fun h => no h rfl, apc := fun h => no h rfl, low := fun h => no h rfl, adv := fun h => no h rfl, born := fun h => no h rfl, pool := fun h => no h rfl, give := fun h => no h rfl, gv := fun h => no h rfl, rpc := fun _ => .inr rfl, rsp := fun _ => hT.rsp h3 }⟩
  · have hal : retireM T f = (1, { T with ql := T.ql ++ [(T.rs, epI T.re, 0)] }, upd f (5, T.rs, 1) T.re) := by unfold retireM; rw [if_neg (by omega)]
    rw [hal] at hu ⊢
    exact ⟨hF.upd (by simp) (by simp) (fun i h => by simp at h) hu, { hm with ql := ql_add hT.ql (hT.rsp h3) hT.rs.2, len := (by have := hT.len; simp; omega), pc := .inl rfl, nd1 := fun _ => hT.nd1 hp, p1 := fun h => no h rfl, apc := fun h => no h rfl, low := fun h => no h rfl, adv := fun h => no h rfl, born := fun h => no h rfl, pool := fun h => no h rfl, rpc := fun h => no h rfl, rsp := fun h => no h rfl, give := fun h => no h rfl, gv := fun h => no h rfl }⟩
set_option maxHeartbeats 1600000 in
theorem act4_ok (hC : COk C) (hF : OkF C f) (hT : OkT C ds B T) (h4 : T.pc = 4) (hu : ∀ x, InU ((actM C d T f).2 x)) : OkF C (actM C d T f).2 ∧ OkT C ds (B + 1) (actM C d T f).1 := by
  have hp : T.pc ≠ 0 := by omega
  have hm := hT.more
  have hs := hC.s
  have hact : actM C d T f = ({ (giveM C T f).2.1 with pc := if (giveM C T f).1 = 0 then 4 else 0, full := false }, (giveM C T f).2.2) := by
    unfold actM
    rw [if_neg (by omega), if_neg (by omega), if_neg (by omega)]
  rw [hact] at hu ⊢
  have he := epI_of (hF.u (1, 0, 0)) hF.ep hC.l.2
  have he9 : 0 ≤ epI (f (1, 0, 0)) ∧ epI (f (1, 0, 0)) ≤ C.l := by rw [he.1]; exact ⟨he.2, hF.ep⟩
  rcases (show T.gpc = 0 ∨ T.gpc = 1 ∨ T.gpc = 2 ∨ T.gpc = 3 by have := hT.gpc; omega) with hr | hr | hr | hr
  · have hal : giveM C T f = (gdS T.ql, { T with e := epI (f (1, 0, 0)), gpc := 1 }, f) := by unfold giveM; rw [if_pos hr]
    rw [hal] at hu ⊢
    refine ⟨hF, ?_⟩
    rcases gdS_in T.ql with ⟨hq, hS⟩ | ⟨hq, hS⟩ <;> rw [hS]
    · exact { hm with e := he9, gpc := (by show (1 : Nat) ≤ 3; decide), pc := .inl rfl, nd1 := fun _ => hT.nd1 hp, p1 := fun h => no h rfl, apc := fun h => no h rfl, low := fun h => no h rfl, adv := fun h => no h rfl, born := fun h => no h rfl, pool := fun h => no h rfl, rpc := fun h => no h rfl, rsp := fun h => no h rfl, give := fun h => no h rfl, gv := fun h => no h rfl }
    · exact { hm with e := he9, gpc := (by show (1 : Nat) ≤ 3; decide), pc := .inr (.inr (.inr (.inr rfl))), nd1 := fun _ => hT.nd1 hp, p1 := fun h => no h rfl, apc := fun h => no h rfl, low := fun h => no h rfl, adv := fun h => no h rfl, born := fun h => no h rfl, pool := fun h => no h rfl, rpc := fun h => no h rfl, rsp := fun h => no h rfl, give := fun _ _ => hq, gv := fun _ h => absurd h (by show ¬ (2 : Nat) ≤ 1; decide) }
  · have hal : giveM C T f = (poolG (f (2, 0, 0)) C.l, { T with gh := f (2, 0, 0), gpc := 2 }, f) := by unfold giveM; rw [if_neg (by omega), if_pos hr]
    rw [hal] at hu ⊢
    refine ⟨hF, ?_⟩
    by_cases hx : C.l ≤ verI (f (2, 0, 0))
    · rw [show poolG (f (2, 0, 0)) C.l = 4 from if_pos hx]
      exact { hm with gpc := (by show (2 : Nat) ≤ 3; decide), ghu := hF.u _, gh := hF.pool, pc := .inl rfl, nd1 := fun _ => hT.nd1 hp, p1 := fun h => no h rfl, apc := fun h => no h rfl, low := fun h => no h rfl, adv := fun h => no h rfl, born := fun h => no h rfl, pool := fun h => no h rfl, rpc := fun h => no h rfl, rsp := fun h => no h rfl, give := fun h => no h rfl, gv := fun h => no h rfl }
    · rw [show poolG (f (2, 0, 0)) C.l = 0 from if_neg hx]
      exact { hm with gpc := (by show (2 : Nat) ≤ 3; decide), ghu := hF.u _, gh := hF.pool, pc := .inr (.inr (.inr (.inr rfl))), nd1 := fun _ => hT.nd1 hp, p1 := fun h => no h rfl, apc := fun h => no h rfl, low := fun h => no h rfl, adv := fun h => no h rfl, born := fun h => no h rfl, pool := fun h => no h rfl, rpc := fun h => no h rfl, rsp := fun h => no h rfl, give := fun _ _ => hT.give h4 (by omega), gv := fun _ _ => (by show verI (f (2, 0, 0)) < C.l; omega) }
  · have hal : giveM C T f = (0, { T with gpc := 3 }, upd f (5, (T.ql.headD t0).1, 2) (wordI false (slotI T.gh) 0)) := by unfold giveM; rw [if_neg (by omega), if_neg (by omega), if_pos hr]
    rw [hal] at hu ⊢
    exact ⟨hF.upd (by simp) (by simp) (fun i _ => slot_link (by omega) hT.gh) hu, { hm with gpc := (by show (3 : Nat) ≤ 3; decide), pc := .inr (.inr (.inr (.inr rfl))), nd1 := fun _ => hT.nd1 hp, p1 := fun h => no h rfl, apc := fun h => no h rfl, low := fun h => no h rfl, adv := fun h => no h rfl, born := fun h => no h rfl, pool := fun h => no h rfl, rpc := fun h => no h rfl, rsp := fun h => no h rfl, give := fun _ _ => hT.give h4 (by omega), gv := fun _ _ => hT.gv h4 (by omega) }⟩
  · obtain ⟨x, t, hxt⟩ : ∃ x t, T.ql = x :: t := by
      rcases hq : T.ql with _ | ⟨x, t⟩
      · exact absurd hq (hT.give h4 (by omega))
      · exact ⟨x, t, rfl⟩
    have hxx := hT.ql x (by rw [hxt]; simp)
    have hhd : (T.ql.headD t0).1 ≤ C.s := by rw [hxt]; exact hxx.2.1
    by_cases hx : f (2, 0, 0) = T.gh
    · have hal : giveM C T f = (gdS T.ql.tail, { T with ql := T.ql.tail, gg := wrap64 (T.gg + 1), gpc := 1 }, swf f (2, 0, 0) T.gh (nextW T.gh (T.ql.headD t0).1)) := by unfold giveM; rw [if_neg (by omega), if_neg (by omega), if_neg (by omega), if_pos hx]
      rw [hal] at hu ⊢
      refine ⟨hF.swp (slot_next (by omega) hhd) hu, ?_⟩
      have hqt : ∀ z ∈ T.ql.tail, 1 ≤ z.1 ∧ z.1 ≤ C.s ∧ z.2.2 = 0 := fun z hz => hT.ql z (List.mem_of_mem_tail hz)
      have hln : T.ql.tail.length + (ds.length - T.nd) ≤ B + 1 := by have := hT.len; simp; omega
      rcases gdS_in T.ql.tail with ⟨hq, hS⟩ | ⟨hq, hS⟩ <;> rw [hS]
      · exact { hm with ql := hqt, len := hln, gpc := (by show (1 : Nat) ≤ 3; decide), pc := .inl rfl, nd1 := fun _ => hT.nd1 hp, p1 := fun h => no h rfl, apc := fun h => no h rfl, low := fun h => no h rfl, adv := fun h => no h rfl, born := fun h => no h rfl, pool := fun h => no h rfl, rpc := fun h => no h rfl, rsp := fun h => no h rfl, give := fun h => no h rfl, gv := fun h => no h rfl }
      · exact { hm with ql := hqt, len := hln, gpc := (by show (1 : Nat) ≤ 3; decide), pc := .inr (.inr (.inr (.inr rfl))), nd1 := fun _ => hT.nd1 hp, p1 := fun h => no h rfl, apc := fun h => no h rfl, low := fun h => no h rfl, adv := fun h => no h rfl, born := fun h => no h rfl, pool := fun h => no h rfl, rpc := fun h => no h rfl, rsp := fun h => no h rfl, give := fun _ _ => hq, gv := fun _ h => absurd h (by show ¬ (2 : Nat) ≤ 1; decide) }
    · have hal : giveM C T f = (0, { T with gpc := 1 }, swf f (2, 0, 0) T.gh (nextW T.gh (T.ql.headD t0).1)) := by unfold giveM; rw [if_neg (by omega), if_neg (by omega), if_neg (by omega), if_neg hx]
      rw [hal] at hu ⊢
      exact ⟨hF.swp (slot_next (by omega) hhd) hu, { hm with gpc := (by show (1 : Nat) ≤ 3; decide), pc := .inr (.inr (.inr (.inr rfl))), nd1 := fun _ => hT.nd1 hp, p1 := fun h => no h rfl, apc := fun h => no h rfl, low := fun h => no h rfl, adv := fun h => no h rfl, born := fun h => no h rfl, pool := fun h => no h rfl, rpc := fun h => no h rfl, rsp := fun h => no h rfl, give := fun _ _ => hT.give h4 (by omega), gv := fun _ h => absurd h (by show ¬ (2 : Nat) ≤ 1; decide) }⟩
theorem act_ok (hC : COk C) (hF : OkF C f) (hT : OkT C ds B T) (hp : T.pc ≠ 0) (hu : ∀ x, InU ((actM C d T f).2 x)) : OkF C (actM C d T f).2 ∧ OkT C ds (B + 1) (actM C d T f).1 := by
  rcases hT.pc with h | h | h | h | h
  · exact absurd h hp
  · exact act1_ok hC hF hT h
  · exact act2_ok hC hF hT h hu
  · exact act3_ok hC hF hT h hu
  · exact act4_ok hC hF hT h hu
/-- A step keeps them. -/
theorem step_ok (hC : COk C) (hF : OkF C f) (hT : OkT C ds B T) (hu : ∀ x, InU ((stepM C ds T f).2 x)) : OkF C (stepM C ds T f).2 ∧ OkT C ds (B + 1) (stepM C ds T f).1 := by
  unfold stepM at hu ⊢
  by_cases hp : T.pc = 0
  · rw [if_pos hp] at hu ⊢
    obtain ⟨h1, h2, h3⟩ := begin_ok 0 (ds.drop T.nd) T rfl hT hp
    dsimp only at hu ⊢
    by_cases hb : (beginM (ds.drop T.nd) T).1 = true
    · rw [if_pos hb] at hu ⊢
      exact act_ok hC hF h1 (by have := h3 hb; omega) hu
    · rw [if_neg hb] at hu ⊢
      exact ⟨hF, h1.more⟩
  · rw [if_neg hp] at hu ⊢
    exact act_ok hC hF hT hp hu
end
end Go.Proofs.YtdknbegcflldjaaGreatDoor

/- Machines' rows: what is played. -/
namespace Go.Proofs.YtdknbegcflldjaaGreatDoor
open Go.RowKit Go.Maps
set_option maxRecDepth 100000

/-- The closure that plays another machine. -/
def cvP (b1 b2 : Nat) : Value := .func (.func 166) #[] #[.pointer (some ⟨b1, 0, none⟩), .pointer (some ⟨b2, 0, none⟩)]
section
variable {w0 w : World} {L : List Item} {a o : Nat} {vs : List Value}
set_option maxHeartbeats 1600000 in
theorem play_r (m : Nat) (fn1 fn2 : Fn) (fs1 cs1 fs2 cs2 : Array Value) (hv : o < vs.length) (hE : Env w0 L w) (hm : L[m]? = some (boxI a vs)) :
    Calls Tryz.prog 131 #[.pointer (some ⟨a, o, none⟩), .func fn1 fs1 cs1, .func fn2 fs2 cs2] w fun r w' => r = .returned (.int .i64 0) ∧ ∃ b1 b2, Env w0 (boxI b1 [.func fn1 fs1 cs1] :: boxI b2 [.func fn2 fs2 cs2] :: L.set m (boxI a (vs.set o (cvP b1 b2)))) w' := by
  have hmf := makeF
  have hE1 := (hE.box w.heap.size rfl [.func fn1 fs1 cs1] 124).box (w.heap.size + 1) (by simp) [.func fn2 fs2 cs2] 236
  have HGO := Lib.hid (goOn_r (o := o) (m + 2) (.func 166) #[] #[.pointer (some ⟨w.heap.size, 0, none⟩), .pointer (some ⟨w.heap.size + 1, 0, none⟩)] hv hE1 hm)
  clear hE hE1 hv hm
  go_enter Tryz.func131, Tryz.ntmps131
  go_wp2_with fail
  refine HGO.out.mono ?_
  rintro e w1 ⟨rfl, hE2⟩
  go_wp2_with fail
  go_ret
  exact ⟨rfl, _, _, hE2.perm (List.Perm.swap _ _ _)⟩
set_option maxHeartbeats 800000 in
/-- The step of what is played: it goes on, or its end is handed on. -/
theorem play1_r (X : Nat) (hx : ∀ (ar : Array Value) (v : World), (callFunc X ar).run Tryz.prog v = .ok (.enter X ar) v) (p u q : Value) (Y : Nat) (hy : ∀ (ar : Array Value) (v : World), (callFunc Y ar).run Tryz.prog v = .ok (.enter Y ar) v) (b1 b2 : Nat) (Q : Int → World → Prop) (h1 : w.cell? ⟨b1, 0, none⟩ = some (.func (.func X) #[p] #[]))
    (hc : Calls Tryz.prog X #[p, u] w fun e w1 => ∃ s, e = .returned (.int .i64 s) ∧ (s = 0 → Q 0 w1) ∧ (s ≠ 0 → w1.cell? ⟨b2, 0, none⟩ = some (.func (.func Y) #[q] #[]) ∧ Calls Tryz.prog Y #[q, .int .i64 s] w1 fun e2 w2 => ∃ s2, e2 = .returned (.int .i64 s2) ∧ Q s2 w2)) :
    Calls Tryz.prog 166 #[u, .pointer (some ⟨b1, 0, none⟩), .pointer (some ⟨b2, 0, none⟩)] w fun e w' => ∃ s, e = .returned (.int .i64 s) ∧ Q s w' := by
  have HC := Lib.hid hc
  clear hc
  go_enter Tryz.func166, Tryz.ntmps166
  go_wp2_with fail
  refine HC.out.mono ?_
  rintro e w1 ⟨s, rfl, h0, hn⟩
  by_cases hs : s = 0
  · subst hs
    have hq := h0 rfl
    clear h0 hn HC
    go_wp2_with fail
    go_ret
    exact ⟨0, rfl, hq⟩
  · obtain ⟨hb2, hcc⟩ := hn hs
    have hsb : (s == 0) = false := by simpa using hs
    have HCC := Lib.hid hcc
    clear h0 hn HC hcc
    go_wp2_with fail
    refine HCC.out.mono ?_
    rintro e2 w2 ⟨s2, rfl, hq⟩
    go_wp2_with fail
    go_ret
    exact ⟨s2, rfl, hq⟩
/-- A step of a machine that plays another one. -/
theorem stepP_r (X : Nat) (hx : ∀ (ar : Array Value) (v : World), (callFunc X ar).run Tryz.prog v = .ok (.enter X ar) v) (p u q : Value) (Y : Nat) (hy : ∀ (ar : Array Value) (v : World), (callFunc Y ar).run Tryz.prog v = .ok (.enter Y ar) v) (b1 b2 : Nat) (Q : Int → World → Prop) (hn : w.cell? ⟨a, o, none⟩ = some (cvP b1 b2)) (hs : w.cell? ⟨a, o + 1, none⟩ = some (.int .i64 0)) (h1 : w.cell? ⟨b1, 0, none⟩ = some (.func (.func X) #[p] #[]))
    (hc : Calls Tryz.prog X #[p, u] w fun e w1 => ∃ s, e = .returned (.int .i64 s) ∧ (s = 0 → Q 0 w1) ∧ (s ≠ 0 → w1.cell? ⟨b2, 0, none⟩ = some (.func (.func Y) #[q] #[]) ∧ Calls Tryz.prog Y #[q, .int .i64 s] w1 fun e2 w2 => ∃ s2, e2 = .returned (.int .i64 s2) ∧ Q s2 w2)) :
    Calls Tryz.prog 67 #[.pointer (some ⟨a, o, none⟩), u] w fun e w' => ∃ s, e = .returned (.int .i64 s) ∧ Q s w' :=
  stepCv_r 166 b1 b2 (fun _ _ => by kernel_rfl) u _ hn hs ((play1_r X hx p u q Y hy b1 b2 Q h1 hc).mono fun e w' ⟨s, he, hq⟩ => ⟨s, he, s, rfl, hq⟩)
end
end Go.Proofs.YtdknbegcflldjaaGreatDoor

/- How an op comes to a slot, whatever op it is: what comes of an Alloc's end; an Alloc that is begun. -/
namespace Go.Proofs.YtdknbegcflldjaaGreatDoor
open Go.RowKit Go.Maps
set_option maxRecDepth 100000

/-- What is handed over, as a value, as cells. -/
def ndL (c : Nat) (kd key val lv : Int) (o ro FF OV : Nat) : List Value := [.pointer (some ⟨c, 0, none⟩), .int .i64 kd, .int .u64 key, .int .u64 val, .int .i64 lv, .pointer (some ⟨o, ro, none⟩), mvL FF o, mvL OV o]
def ndV (c : Nat) (kd key val lv : Int) (o ro FF OV : Nat) : Value := .agg #[.pointer (some ⟨c, 0, none⟩), .int .i64 kd, .int .u64 key, .int .u64 val, .int .i64 lv, .pointer (some ⟨o, ro, none⟩), mvL FF o, mvL OV o]
/-- What comes of the Alloc's end, as a function's value. -/
def cmV (c : Nat) (kd key val lv : Int) (o ro FF OV : Nat) : Value := .func (.func 250) #[ndV c kd key val lv o ro FF OV] #[]
section
variable {w0 w : World} {L R : List Item} {c o ro FF OV : Nat} {kd key val lv : Int} {S : ST}
set_option maxHeartbeats 1600000 in
theorem cameOver_n (s : Int) (hs : s = 3 ∨ s = 4) (hx : ∀ (ar : Array Value) (v : World), (callFunc OV ar).run Tryz.prog v = .ok (.enter OV ar) v) (Q : Int → World → Prop) (hE : Env w0 L w) (ho : ∀ v, Env w0 L v → Calls Tryz.prog OV #[.pointer (some ⟨o, 0, none⟩), .agg #[.int .i64 (s + 3), .bool false, .int .u64 0]] v fun e w' => ∃ s2, e = .returned (.int .i64 s2) ∧ Q s2 w') :
    Calls Tryz.prog 250 #[ndV c kd key val lv o ro FF OV, .int .i64 s] w fun e w' => ∃ s2, e = .returned (.int .i64 s2) ∧ Q s2 w' := by
  have hE1 := hE.box w.heap.size rfl (ndL c kd key val lv o ro FF OV) 289
  have r := hE1.rule 0 rfl
  have HO := Lib.hid (ho _ (hE1.sub (.cons _ (List.Sublist.refl _))))
  unfold ndL at r HO
  unfold ndV
  unfold mvL at r HO ⊢
  clear ho hE hE1
  rcases hs with rfl | rfl
  all_goals
    go_enter Tryz.func250, Tryz.ntmps250
    go_wp2_with fail
    refine HO.out.mono ?_
    rintro e w2 ⟨s2, rfl, hq⟩
    go_wp2_with fail
    go_ret
    exact ⟨s2, rfl, hq⟩
set_option maxHeartbeats 1600000 in
theorem cameFind_n (s : Int) (hs : s = 1 ∨ s = 2) (hx : ∀ (ar : Array Value) (v : World), (callFunc FF ar).run Tryz.prog v = .ok (.enter FF ar) v) (Q : Int → World → Prop) (hE : Env w0 L w) (ho : ∀ v, Env w0 L v → Calls Tryz.prog FF #[.pointer (some ⟨o, 0, none⟩)] v fun e w' => ∃ s2, e = .returned (.int .i64 s2) ∧ Q s2 w') :
    Calls Tryz.prog 250 #[ndV c kd key val lv o ro FF OV, .int .i64 s] w fun e w' => ∃ s2, e = .returned (.int .i64 s2) ∧ Q s2 w' := by
  have hE1 := hE.box w.heap.size rfl (ndL c kd key val lv o ro FF OV) 289
  have r := hE1.rule 0 rfl
  have HO := Lib.hid (ho _ (hE1.sub (.cons _ (List.Sublist.refl _))))
  unfold ndL at r HO
  unfold ndV
  unfold mvL at r HO ⊢
  clear ho hE hE1
  rcases hs with rfl | rfl
  all_goals
    go_enter Tryz.func250, Tryz.ntmps250
    go_wp2_with fail
    refine HO.out.mono ?_
    rintro e w2 ⟨s2, rfl, hq⟩
    go_wp2_with fail
    go_ret
    exact ⟨s2, rfl, hq⟩
set_option maxHeartbeats 1600000 in
theorem slotLate_n (hx : ∀ (ar : Array Value) (v : World), (callFunc OV ar).run Tryz.prog v = .ok (.enter OV ar) v) (hh : S.hs = 0) (hd : decP S.ql S.ce S.cl = 0) (Q : Int → World → Prop) (hE : Env w0 (LT S R) w) (ho : ∀ v, Env w0 (LT S R) v → Calls Tryz.prog OV #[.pointer (some ⟨o, 0, none⟩), .agg #[.int .i64 7, .bool false, .int .u64 0]] v fun e w' => ∃ s2, e = .returned (.int .i64 s2) ∧ Q s2 w') :
    Calls Tryz.prog 216 #[ndV S.c kd key val lv o ro FF OV] w fun e w' => ∃ s2, e = .returned (.int .i64 s2) ∧ Q s2 w' := by
  have hE1 := hE.box w.heap.size rfl (ndL S.c kd key val lv o ro FF OV) 289
  have r := hE1.rule 0 rfl
  have HO := Lib.hid ho
  have HH := Lib.hid hh
  have HD := Lib.hid hd
  have hV : ndV S.c kd key val lv o ro FF OV = .agg #[.pointer (some ⟨S.c, 0, none⟩), .int .i64 kd, .int .u64 key, .int .u64 val, .int .i64 lv, .pointer (some ⟨o, ro, none⟩), mvL FF o, mvL OV o] := rfl
  have HV := Lib.hid hV
  rw [hV]
  unfold ndL at r hE1
  clear ho hE hV hh hd
  go_enter Tryz.func216, Tryz.ntmps216
  go_wp2_with fail
  generalize w.alloc _ = w1 at *
  generalize w.heap.size = Y at *
  have hE2 : Env w0 (LT S (boxI Y [.pointer (some ⟨S.c, 0, none⟩), .int .i64 kd, .int .u64 key, .int .u64 val, .int .i64 lv, .pointer (some ⟨o, ro, none⟩), mvL FF o, mvL OV o] :: R)) w1 := hE1.perm (List.perm_middle (l₁ := [_, _, _, _])).symm
  refine (new_a kd key val lv HH.out hE2).mono ?_
  rintro e w6 hc6
  rcases hc6 with ⟨-, rfl, hE6⟩ | ⟨h9, -⟩
  rotate_left
  · exact absurd HD.out h9
  clear hE1 hE2 r
  have r := hE6.rule 4 rfl
  have hE7 := (hE6.perm (List.perm_middle (l₁ := [_, _, _, _]))).sub (.cons _ (List.Sublist.refl _))
  have HC := Lib.hid (cameOver_n (c := S.c) (kd := kd) (key := key) (val := val) (lv := lv) (ro := ro) (FF := FF) 4 (.inr rfl) hx Q hE7 HO.out)
  rw [HV.out] at HC
  go_wp2_with fail
  refine HC.out.mono ?_
  rintro e w2 ⟨s2, rfl, hq⟩
  go_wp2_with fail
  go_ret
  exact ⟨s2, rfl, hq⟩
set_option maxHeartbeats 1600000 in
theorem slotAlloc_n {m : Nat} {vs : List Value} (hm : R[m]? = some (boxI o vs)) (hv : ro < vs.length) (hh : S.hs = 0) (hd : decP S.ql S.ce S.cl ≠ 0) (hE : Env w0 (LT S R) w) :
    Calls Tryz.prog 216 #[ndV S.c kd key val lv o ro FF OV] w fun e w' => e = .returned (.int .i64 0) ∧ ∃ b1 b2 l, Env w0 (boxI b1 [mvL 251 l] :: boxI b2 [cmV S.c kd key val lv o ro FF OV] :: boxI l (av S.c { nx := nxA l (decP S.ql S.ce S.cl), left := .slice none 0 0, k := kd, key := key, val := val, lv := lv, h := 0, n := 0, r := 0, s := 0 }) :: LT S (R.set m (boxI o (vs.set ro (cvP b1 b2))))) w' := by
  have hmf := makeF
  have hE1 := hE.box w.heap.size rfl (ndL S.c kd key val lv o ro FF OV) 289
  have r := hE1.rule 0 rfl
  have HH := Lib.hid hh
  have HD := Lib.hid hd
  have HM := Lib.hid hm
  have HVS := Lib.hid hv
  have hV : ndV S.c kd key val lv o ro FF OV = .agg #[.pointer (some ⟨S.c, 0, none⟩), .int .i64 kd, .int .u64 key, .int .u64 val, .int .i64 lv, .pointer (some ⟨o, ro, none⟩), mvL FF o, mvL OV o] := rfl
  have HV := Lib.hid hV
  rw [hV]
  unfold ndL at r hE1
  clear hE hV hh hd hm hv
  go_enter Tryz.func216, Tryz.ntmps216
  go_wp2_with fail
  generalize w.alloc _ = w1 at *
  generalize w.heap.size = Y at *
  have hE2 : Env w0 (LT S (boxI Y [.pointer (some ⟨S.c, 0, none⟩), .int .i64 kd, .int .u64 key, .int .u64 val, .int .i64 lv, .pointer (some ⟨o, ro, none⟩), mvL FF o, mvL OV o] :: R)) w1 := hE1.perm (List.perm_middle (l₁ := [_, _, _, _])).symm
  refine (new_a kd key val lv HH.out hE2).mono ?_
  rintro e w6 (⟨h9, -⟩ | ⟨-, l, rfl, hE6⟩)
  · exact absurd h9 HD.out
  clear hE1 hE2 r
  have r := hE6.rule 5 rfl
  have HP := Lib.hid (play_r (a := o) (o := ro) (m + 6) (.func 251) (.func 250) #[.pointer (some ⟨l, 0, none⟩)] #[] #[ndV S.c kd key val lv o ro FF OV] #[] HVS.out hE6 HM.out)
  rw [HV.out] at HP
  go_wp2_with fail
  refine HP.out.mono ?_
  rintro e w2 ⟨rfl, b1, b2, hE7⟩
  go_wp2_with fail
  go_ret
  refine ⟨rfl, b1, b2, l, ?_⟩
  rw [← HV.out] at hE7
  have hE8 : Env w0 (boxI b1 [mvL 251 l] :: boxI b2 [cmV S.c kd key val lv o ro FF OV] :: boxI l (av S.c { nx := nxA l (decP S.ql S.ce S.cl), left := .slice none 0 0, k := kd, key := key, val := val, lv := lv, h := 0, n := 0, r := 0, s := 0 }) :: LT S (boxI Y [.pointer (some ⟨S.c, 0, none⟩), .int .i64 kd, .int .u64 key, .int .u64 val, .int .i64 lv, .pointer (some ⟨o, ro, none⟩), mvL FF o, mvL OV o] :: R.set m (boxI o (vs.set ro (cvP b1 b2))))) w2 := hE7
  exact hE8.sub (.cons_cons _ (.cons_cons _ (.cons_cons _ (.cons_cons _ (.cons_cons _ (.cons_cons _ (.cons_cons _ (.cons _ (List.Sublist.refl _)))))))))
end
end Go.Proofs.YtdknbegcflldjaaGreatDoor

/- Threads: what they are in memory; contracts of what they tell. -/
namespace Go.Proofs.YtdknbegcflldjaaGreatDoor
open Go.RowKit Go.Maps
set_option maxRecDepth 100000

section
variable {w : World} {c q : Nat} {k s b h l e r hs hi : Int}
set_option maxHeartbeats 800000 in
theorem rolls_c (hb : Blk 0 w c (crv k s b h l e r hs hi q)) : Calls Tryz.prog 76 #[.pointer (some ⟨c, 0, none⟩)] w fun o w' => o = .returned (.int .i64 r) ∧ w' = w := by
  have r1 := hb.rule
  unfold crv at r1
  go_enter Tryz.func76, Tryz.ntmps76
  go_wp2
  go_ret
  exact ⟨rfl, rfl⟩
end
end Go.Proofs.YtdknbegcflldjaaGreatDoor

/- Threads: what they are in memory; contracts of what they tell. -/
namespace Go.Proofs.YtdknbegcflldjaaGreatDoor
open Go.RowKit Go.Maps
set_option maxRecDepth 100000

section
variable {w : World} {c q : Nat} {k s b h l e r hs hi : Int}
end
theorem rollsNil_c (w : World) : Calls Tryz.prog 76 #[.pointer none] w fun o w' => o = .returned (.int .i64 0) ∧ w' = w := by
  go_enter Tryz.func76, Tryz.ntmps76
  go_wp2
  go_ret
  exact ⟨rfl, rfl⟩
theorem toNil_c (a d : Int) (w : World) : Calls Tryz.prog 273 #[.pointer none, .agg #[.int .i64 a, .int .i64 d]] w fun o w' => o = .returned (.agg #[.int .u64 0, .int .i64 0, .bool false]) ∧ Below w.heap.size w w' := by
  go_enter Tryz.func273, Tryz.ntmps273
  go_wp2
  exact bodyPost_ret (v := .agg #[.int .u64 0, .int .i64 0, .bool false]) (by simp [results, Tryz.results273, go_sem]) rfl ⟨rfl, ((Below.refl _ _).alloc (Nat.le_refl _) _).alloc (by simp) _⟩
theorem markNil_c (v i : Int) (t : Bool) (a d : Int) (w : World) : Calls Tryz.prog 286 #[.pointer none, .agg #[.int .u64 v, .int .i64 i, .bool t], .agg #[.int .i64 a, .int .i64 d]] w fun o w' => o = .returned (.agg #[.int .u64 0, .int .i64 0, .bool false]) ∧ Below w.heap.size w w' := by
  go_enter Tryz.func286, Tryz.ntmps286
  go_wp2
  exact bodyPost_ret (v := .agg #[.int .u64 0, .int .i64 0, .bool false]) (by simp [results, Tryz.results286, go_sem]) rfl ⟨rfl, (((Below.refl _ _).alloc (Nat.le_refl _) _).alloc (by simp) _).alloc (by simp; omega) _⟩
theorem validNil_c (v : Value) (w : World) : Calls Tryz.prog 284 #[.pointer none, v] w fun o w' => o = .returned (.bool false) ∧ w' = w := by
  go_enter Tryz.func284, Tryz.ntmps284
  go_wp2
  go_ret
  exact ⟨rfl, rfl⟩
end Go.Proofs.YtdknbegcflldjaaGreatDoor

/- Threads: contracts of Held; of the reading of the epoch, Check, Valid. -/
namespace Go.Proofs.YtdknbegcflldjaaGreatDoor
open Go.RowKit Go.Maps
set_option maxRecDepth 100000

section
variable {w : World} {c q : Nat} {k s b h l e r hs hi : Int}
end

section
variable {w0 w : World} {L : List Item} {p c n : Nat} {F : Nat → Prop} {f : Plc → Int} {q : Cnt}
variable {cc qq : Nat} {k s b h l e r hs hh : Int}
end
end Go.Proofs.YtdknbegcflldjaaGreatDoor

/- Contracts of functions of layer 2 that go by the others: To, Marked. -/
namespace Go.Proofs.YtdknbegcflldjaaGreatDoor
open Go.RowKit
set_option maxRecDepth 100000

set_option maxHeartbeats 400000 in
theorem marked_any (x s v : Int) (w : World) (hg : Glo w) (h0 : 0 ≤ x) (h1 : x ≤ 18446744073709551615) :
    Calls Tryz.prog 304 #[.int .u64 x, .int .i64 s, .int .i64 v] w fun e w' => e = .returned (.int .u64 (markedW x s v)) ∧ Below w.heap.size w w' := by
  cases h : markB x
  · have hm : markedW x s v = wordI true s v := by simp [markedW, h]
    have H := Lib.hid h
    have HM := Lib.hid hm
    clear h hm
    go_enter Tryz.func304, Tryz.ntmps304
    go_wp2_with fail
    refine (isMarked_any x _ hg h0 h1).mono ?_
    rintro e w1 ⟨rfl, hb⟩
    rw [H.out]
    go_wp2_with fail
    refine (word_any true s v _ (hg.keep' hb)).mono ?_
    rintro e w2 ⟨rfl, hb2⟩
    go_wp2_with fail
    go_ret
    exact ⟨ret_int HM.out.symm, hb.trans (hb2.mono (by have := hb.size; omega))⟩
  · have hm : markedW x s v = x := by simp [markedW, h]
    have H := Lib.hid h
    have HM := Lib.hid hm
    clear h hm
    go_enter Tryz.func304, Tryz.ntmps304
    go_wp2_with fail
    refine (isMarked_any x _ hg h0 h1).mono ?_
    rintro e w1 ⟨rfl, hb⟩
    rw [H.out]
    go_wp2_with fail
    go_ret
    exact ⟨ret_int HM.out.symm, hb⟩
end Go.Proofs.YtdknbegcflldjaaGreatDoor

/- Threads: contracts of New, To, Mark, Lead. -/
namespace Go.Proofs.YtdknbegcflldjaaGreatDoor
open Go.RowKit Go.Maps
set_option maxRecDepth 100000

section
variable {w : World} {c q : Nat} {k s b h l e r hs hi : Int}
set_option maxHeartbeats 1600000 in
theorem markStays_c (v d2 : Int) (t : Bool) (a d : Int) (hv : InU v) (hm : markB v = true) (hg : Glo w) (hb : Blk 0 w c (crv k s b h l e r hs hi q)) :
    Calls Tryz.prog 286 #[.pointer (some ⟨c, 0, none⟩), .agg #[.int .u64 v, .int .i64 d2, .bool t], .agg #[.int .i64 a, .int .i64 d]] w fun o w' => o = .returned (.agg #[.int .u64 v, .int .i64 d2, .bool t]) ∧ Below w.heap.size w w' := by
  unfold InU at hv
  have HM := Lib.hid hm
  clear hm hb
  have hF := (((Fr.start w).push w.heap.size rfl [.int .u64 v, .int .i64 d2, .bool t] 180).push (w.heap.size + 1) (by simp) [.int .i64 a, .int .i64 d] 136).push (w.heap.size + 1 + 1) (by simp) [.int .u64 0, .int .i64 0, .bool false] 180
  have r := hF.rule 2 rfl
  have hg1 := hg.keep' hF.below
  go_enter Tryz.func286, Tryz.ntmps286
  go_wp2_with fail
  refine (isMarked_any v _ hg1 hv.1 hv.2).mono ?_
  rintro o w1 ⟨rfl, hb⟩
  rw [HM.out]
  replace hF := hF.over hb
  clear hb r hg1
  have r := hF.rule 2 rfl
  have rz := hF.rule 0 rfl
  have ff := hF.thaw 0 rfl (by omega)
  have f0 := ff 0 (by simp)
  have f1 := ff 1 (by simp)
  have f2 := ff 2 (by simp)
  clear ff
  go_wp2_with fail
  have hF9 := hF.put3 (by omega) (by simp; omega) (.int .u64 v) (.int .i64 d2) (.bool t)
  have q := hF9.rule 0 rfl
  exact bodyPost_ret (v := .agg #[.int .u64 v, .int .i64 d2, .bool t]) (by simp [results, Tryz.results286, go_sem, q]) rfl ⟨rfl, hF9.below⟩

set_option maxHeartbeats 1600000 in
theorem markNew_c (v d2 : Int) (t : Bool) (a d : Int) (hv : InU v) (hm : markB v = false) (hg : Glo w) (hb : Blk 0 w c (crv k s b h l e r hs hi q)) :
    Calls Tryz.prog 286 #[.pointer (some ⟨c, 0, none⟩), .agg #[.int .u64 v, .int .i64 d2, .bool t], .agg #[.int .i64 a, .int .i64 d]] w fun o w' => o = .returned (.agg #[.int .u64 (wordI true a e), .int .i64 d, .bool false]) ∧ Below w.heap.size w w' := by
  unfold InU at hv
  have hmw : markedW v a e = wordI true a e := by simp [markedW, hm]
  have HGB : Hid (∀ (x : World) (hx : Below w.heap.size w x), Calls Tryz.prog 304 #[.int .u64 v, .int .i64 a, .int .i64 e] x fun o w' => o = .returned (.int .u64 (wordI true a e)) ∧ Below x.heap.size x w') := Lib.hid fun x hx => by
    rw [← hmw]; exact marked_any v a e x (hg.keep' hx) hv.1 hv.2
  have HM := Lib.hid hm
  clear hm hmw
  have hF := (((Fr.start w).push w.heap.size rfl [.int .u64 v, .int .i64 d2, .bool t] 180).push (w.heap.size + 1) (by simp) [.int .i64 a, .int .i64 d] 136).push (w.heap.size + 1 + 1) (by simp) [.int .u64 0, .int .i64 0, .bool false] 180
  have r := hF.rule 2 rfl
  have hg1 := hg.keep' hF.below
  have hcl := hb.1
  have hb1 := hb.under hF.below
  clear hb hg
  go_enter Tryz.func286, Tryz.ntmps286
  go_wp2_with fail
  refine (isMarked_any v _ hg1 hv.1 hv.2).mono ?_
  rintro o w1 ⟨rfl, hb⟩
  rw [HM.out]
  replace hF := hF.over hb
  replace hb1 := hb1.under hb
  clear hb r hg1
  unfold crv at hb1
  go_wp2_with fail
  have hX := hF.blk 2 rfl (by omega)
  have hY := hF.blk 1 rfl (by omega)
  have hZ := hF.blk 0 rfl (by omega)
  have hE := hF.below
  clear hF
  refine Ord.wp_chain [12] (fun w' => Below w.heap.size w w' ∧ Blk 0 w' c [.int .i64 k, .int .i64 s, .int .i64 b, .int .i64 h, .int .i64 l, .int .i64 e, .int .i64 r, .int .i64 hs, .int .i64 hi, .pointer (some ⟨q, 0, none⟩)] ∧ Blk 0 w' w.heap.size [.int .u64 v, .int .i64 d2, .bool t] ∧ Blk 0 w' (w.heap.size + 1) [.int .i64 a, .int .i64 d]) (fun j w' => Blk 0 w' (w.heap.size + 1 + 1) (if j = 0 then [.int .u64 0, .int .i64 0, .bool false] else [.int .u64 (wordI true a e), .int .i64 d, .bool false])) (by kernel_rfl) (by kernel_rfl) (by kernel_rfl) ⟨hE.drew, hb1.drew, hX.drew, hY.drew⟩ hZ.drew (fun hT => ?_)
  have hT9 := Lib.hid hT
  clear hT
  repeat (first
    | (refine Ord.ch_value (v := ?_) hT9.out (by decide) (by rfl) ?_ ?_; rotate_left; (focus (intro w5 hS; have r1 := Blk.rule hS.2.1; have r2 := Blk.rule hS.2.2.1; have r3 := Blk.rule hS.2.2.2; go_simp <;> with_reducible rfl)); (try simp only [Act.put, List.setIfInBounds_toArray, List.set_cons_zero, List.set_cons_succ]))
    | (refine Ord.ch_off hT9.out (by decide) (by rfl) ?_; (try simp only [Act.put, List.setIfInBounds_toArray, List.set_cons_zero, List.set_cons_succ]))
    | (refine Ord.ch_call (v := ?_) (f := ?_) (args := ?_) hT9.out (by decide) (by rfl) ?_ ?_ ?_; rotate_left 3; (focus (intro w5 hS; have r1 := Blk.rule hS.2.1; have r2 := Blk.rule hS.2.2.1; have r3 := Blk.rule hS.2.2.2; go_simp; constructor <;> with_reducible rfl)); (focus (intro w5 hS; (first | (with_reducible refine (HGB.out _ hS.1).mono ?_; rintro o w6 ⟨rfl, hb6⟩; constructor; with_reducible rfl; exact ⟨⟨hS.1.trans (hb6.mono hS.1.size), hS.2.1.under hb6, hS.2.2.1.under hb6, hS.2.2.2.under hb6⟩, fun _ h => h.under hb6⟩)))); (try simp only [Act.put, List.setIfInBounds_toArray, List.set_cons_zero, List.set_cons_succ])))
  refine Ord.ch_turn (v := undef) 0 hT9.out rfl (by decide) (Or.inl rfl) (by rfl) ?_ ?_
  · rintro w5 hS hA2
    simp only [if_true] at hA2
    have r := hA2.rule
    have f0 := hA2.thaw 0 (by simp)
    have f1 := hA2.thaw 1 (by simp)
    have f2 := hA2.thaw 2 (by simp)
    have hz := hS.1.size
    go_simp
    refine ⟨rfl, ⟨?_, ?_, ?_, ?_⟩, ?_⟩
    · exact below_set (below_set (below_set hS.1 hz (by omega) _) (by simp; omega) (by omega) _) (by simp; omega) (by omega) _
    · exact ((hS.2.1.off (by omega) _).off (by omega) _).off (by omega) _
    · exact ((hS.2.2.1.off (by omega) _).off (by omega) _).off (by omega) _
    · exact ((hS.2.2.2.off (by omega) _).off (by omega) _).off (by omega) _
    · exact Blk.put3 hA2 _ _ _
  (try simp only [Act.put, List.setIfInBounds_toArray, List.set_cons_zero, List.set_cons_succ])
  repeat (first
    | (refine Ord.ch_value (v := ?_) hT9.out (by decide) (by rfl) ?_ ?_; rotate_left; (focus (intro w5 hS; skip; go_simp <;> with_reducible rfl)); (try simp only [Act.put, List.setIfInBounds_toArray, List.set_cons_zero, List.set_cons_succ]))
    | (refine Ord.ch_off hT9.out (by decide) (by rfl) ?_; (try simp only [Act.put, List.setIfInBounds_toArray, List.set_cons_zero, List.set_cons_succ])))
  refine Ord.InText.nil fun w5 hS => ?_
  clear hT9
  obtain ⟨hC9, hA9⟩ := Ord.chain_end hS
  clear hS
  have q := hA9.rule
  simp only [show ¬ [12].length = 0 by decide, if_false] at q
  go_wp2
  exact bodyPost_ret (v := .agg #[.int .u64 (wordI true a e), .int .i64 d, .bool false]) (by simp [results, Tryz.results286, go_sem, q]) rfl ⟨rfl, hC9.1⟩
end

end Go.Proofs.YtdknbegcflldjaaGreatDoor

/- Threads: contracts of New, To, Mark, Lead. -/
namespace Go.Proofs.YtdknbegcflldjaaGreatDoor
open Go.RowKit Go.Maps
set_option maxRecDepth 100000

end Go.Proofs.YtdknbegcflldjaaGreatDoor

/- Hash maps: an op's block; its small functions: a new search, its answer, what comes of a Link's end, of an Alloc's. -/
namespace Go.Proofs.YtdknbegcflldjaaGreatDoor
open Go.RowKit Go.Maps
set_option maxRecDepth 100000

def opT (c : Nat) (kd key val lv rt : Int) (nx : Value) (st : Int) (sp : Value) (er : Int) (dn : Bool) (vl : Int) : List Value :=
  [.pointer (some ⟨c, 0, none⟩), .int .i64 kd, .int .u64 key, .int .u64 val, .int .i64 lv, .int .i64 rt, nx, .int .i64 st, sp, .int .i64 er, .bool dn, .int .u64 vl]
/-- An op's block, however far it is. -/
def OpAny (c : Nat) (kd key val lv rt : Int) (o : Nat) (sp : Value) (v : World) : Prop := ∃ nx9 st9 er9 dn9 vl9, Blk 0 v o (opT c kd key val lv rt nx9 st9 sp er9 dn9 vl9)
section
variable {w0 w : World} {L : List Item} {o c : Nat} {kd key val lv rt : Int} {nx sp : Value} {er st vl : Int} {dn : Bool}
set_option maxHeartbeats 3200000 in
theorem find_t (hE : Env w0 (boxI o (opT c kd key val lv rt nx 0 sp er dn vl) :: L) w) :
    Calls Tryz.prog 84 #[.pointer (some ⟨o, 0, none⟩)] w fun r w' => r = .returned (.int .i64 0) ∧ ∃ b1 b2 sb, Env w0 (boxI o (opT c kd key val lv rt (cvP b1 b2) 0 (.pointer (some ⟨sb, 0, none⟩)) er dn vl) :: boxI b1 [mvL 132 sb] :: boxI b2 [mvL 133 o] :: boxI sb (srC c rt key true (.pointer none)) :: L) w' := by
  have hmf := makeF
  go_enter Tryz.func84, Tryz.ntmps84
  go_wp2_with fail
  refine Ord3.wp_chain [?_, ?_, ?_, ?_, ?_, ?_, ?_, ?_, ?_, ?_, ?_, ?_, ?_, ?_, ?_, ?_, ?_, ?_] [14, 17] (fun w' => ∃ sp9, Blk 0 w' o (opT c kd key val lv rt nx 0 sp9 er dn vl)) (Ord3.Stage fun κs => [Env w0 (boxI o (opT c kd key val lv rt nx 0 sp er dn vl) :: L), fun w' => ∃ r, κs.getD 0 undef = .pointer (some ⟨r, 0, none⟩) ∧ Env w0 (boxI r (srC c rt key true (.pointer none)) :: boxI o (opT c kd key val lv rt nx 0 sp er dn vl) :: L) w', fun w' => ∃ r, Env w0 (boxI r (srC c rt key true (.pointer none)) :: boxI o (opT c kd key val lv rt nx 0 (.pointer (some ⟨r, 0, none⟩)) er dn vl) :: L) w']) (by kernel_rfl) (by kernel_rfl) (by kernel_rfl) ⟨sp, hE.drew.get 0 rfl⟩ ⟨_, rfl, hE.drew⟩ (fun hT => ?_)
  rotate_left 18
  have hT9 := Lib.hid hT
  clear hT
  repeat (first
    | (focus (refine Ord3.in_value (v := ?_) hT9.out (by decide) ?_ (by rfl) ?_ ?_; rotate_left 2; (focus (intro w5 hS; obtain ⟨sp9, hS9⟩ := hS; have r1 := Blk.rule hS9; unfold opT at r1; go_simp <;> with_reducible rfl)); rotate_right; (focus rfl); (try simp only [Act.put, List.setIfInBounds_toArray, List.set_cons_zero, List.set_cons_succ])))
    | (focus (refine Ord3.in_off hT9.out (by decide) ?_ (by rfl) ?_; (focus rfl); (try simp only [Act.put, List.setIfInBounds_toArray, List.set_cons_zero, List.set_cons_succ]))))
  refine Ord3.in_turn (fun u => ∃ q, u = .pointer (some ⟨q, 0, none⟩)) _ ⟨0, rfl⟩ hT9.out rfl (by decide) (by rfl) ?_ (Or.inl rfl) (by rfl) ?_ ?_
  · rfl
  · rintro w7 hC7 ⟨P7, hP7, hA7⟩
    cases hP7
    go_simp
    simp only [Ord3.Lands]
    refine (newSearch_l c rt key true hA7).mono ?_
    rintro o8 w8 ⟨r8, rfl, hE8⟩
    exact ⟨_, rfl, ⟨r8, rfl⟩, ⟨sp, hE8.get 1 rfl⟩, _, rfl, r8, rfl, hE8⟩
  rintro _ ⟨r9, rfl⟩
  (try simp only [Act.put, List.setIfInBounds_toArray, List.set_cons_zero, List.set_cons_succ])
  repeat (first
    | (focus (refine Ord3.in_value (v := ?_) hT9.out (by decide) ?_ (by rfl) ?_ ?_; rotate_left 2; (focus (intro w5 hS; obtain ⟨sp9, hS9⟩ := hS; have r1 := Blk.rule hS9; unfold opT at r1; go_simp <;> with_reducible rfl)); rotate_right; (focus rfl); (try simp only [Act.put, List.setIfInBounds_toArray, List.set_cons_zero, List.set_cons_succ])))
    | (focus (refine Ord3.in_off hT9.out (by decide) ?_ (by rfl) ?_; (focus rfl); (try simp only [Act.put, List.setIfInBounds_toArray, List.set_cons_zero, List.set_cons_succ]))))
  refine Ord3.in_turn (fun u => u = undef) _ rfl hT9.out rfl (by decide) (by rfl) ?_ (Or.inr ⟨_, 14, [], rfl, by kernel_rfl, by kernel_rfl, rfl⟩) (by rfl) ?_ ?_
  · rfl
  · rintro w7 hC7 ⟨P7, hP7, hA7⟩
    cases hP7
    obtain ⟨a8, he, hA7⟩ := hA7
    cases he
    have r := hA7.rule 1 rfl
    unfold opT at r
    have g := hA7.thaw 1 rfl 8 (by simp [opT])
    go_simp
    simp only [Ord3.Lands]
    have h9 := hA7.put 1 rfl (j := 8) (by simp [opT]) (.pointer (some ⟨r9, 0, none⟩))
    exact ⟨trivial, ⟨_, h9.get 1 rfl⟩, _, rfl, r9, h9⟩
  rintro _ rfl
  (try simp only [Act.put, List.setIfInBounds_toArray, List.set_cons_zero, List.set_cons_succ])
  refine Ord3.in_nil rfl ?_
  rintro w9 hC9 ⟨P9, hP9, hA9⟩
  cases hP9
  obtain ⟨sb, hA9⟩ := hA9
  clear hT9 hC9 hE
  go_wp2_with fail
  refine Ord3.wp_chain [?_, ?_, ?_, ?_, ?_, ?_, ?_, ?_, ?_, ?_, ?_, ?_] [10] (fun w' => ∃ nx9, Blk 0 w' o (opT c kd key val lv rt nx9 0 (.pointer (some ⟨sb, 0, none⟩)) er dn vl)) (Ord3.Stage fun κs => [Env w0 (boxI sb (srC c rt key true (.pointer none)) :: boxI o (opT c kd key val lv rt nx 0 (.pointer (some ⟨sb, 0, none⟩)) er dn vl) :: L), fun w' => ∃ b1 b2, Env w0 (boxI b1 [mvL 132 sb] :: boxI b2 [mvL 133 o] :: boxI sb (srC c rt key true (.pointer none)) :: boxI o (opT c kd key val lv rt (cvP b1 b2) 0 (.pointer (some ⟨sb, 0, none⟩)) er dn vl) :: L) w']) (by kernel_rfl) (by kernel_rfl) (by kernel_rfl) ⟨nx, hA9.drew.get 1 rfl⟩ ⟨_, rfl, hA9.drew⟩ (fun hT => ?_)
  rotate_left 12
  have hT9 := Lib.hid hT
  clear hT
  repeat (first
    | (focus (refine Ord3.in_value (v := ?_) hT9.out (by decide) ?_ (by rfl) ?_ ?_; rotate_left 2; (focus (intro w5 hS; obtain ⟨nx9, hS9⟩ := hS; have r1 := Blk.rule hS9; unfold opT at r1; go_simp <;> with_reducible rfl)); rotate_right; (focus rfl); (try simp only [Act.put, List.setIfInBounds_toArray, List.set_cons_zero, List.set_cons_succ])))
    | (focus (refine Ord3.in_off hT9.out (by decide) ?_ (by rfl) ?_; (focus rfl); (try simp only [Act.put, List.setIfInBounds_toArray, List.set_cons_zero, List.set_cons_succ]))))
  refine Ord3.in_turn (fun u => u = .int .i64 0) _ rfl hT9.out rfl (by decide) (by rfl) ?_ (Or.inl rfl) (by rfl) ?_ ?_
  · rfl
  · rintro w7 hC7 ⟨P7, hP7, hA7⟩
    cases hP7
    go_simp
    simp only [Ord3.Lands]
    refine (play_r (o := 6) 1 _ _ _ _ _ _ (by simp [opT]) hA7 rfl).mono ?_
    rintro o8 w8 ⟨rfl, b1, b2, hE8⟩
    exact ⟨_, rfl, rfl, ⟨_, hE8.get 3 rfl⟩, _, rfl, b1, b2, hE8⟩
  rintro _ rfl
  (try simp only [Act.put, List.setIfInBounds_toArray, List.set_cons_zero, List.set_cons_succ])
  repeat (first
    | (focus (refine Ord3.in_value (v := ?_) hT9.out (by decide) ?_ (by rfl) ?_ ?_; rotate_left 2; (focus (intro w5 hS; skip; go_simp <;> with_reducible rfl)); rotate_right; (focus rfl); (try simp only [Act.put, List.setIfInBounds_toArray, List.set_cons_zero, List.set_cons_succ])))
    | (focus (refine Ord3.in_off hT9.out (by decide) ?_ (by rfl) ?_; (focus rfl); (try simp only [Act.put, List.setIfInBounds_toArray, List.set_cons_zero, List.set_cons_succ]))))
  refine Ord3.in_nil rfl ?_
  rintro w9 hC9 ⟨P9, hP9, hA9⟩
  cases hP9
  obtain ⟨b1, b2, hA9⟩ := hA9
  clear hT9 hC9
  go_wp2_with fail
  go_ret
  exact ⟨rfl, b1, b2, sb, hA9.perm (List.perm_middle (l₁ := [_, _, _]))⟩
set_option maxHeartbeats 1600000 in
theorem over_t (e2 : Int) (d2 : Bool) (v2 : Int) (hE : Env w0 (boxI o (opT c kd key val lv rt nx st sp er dn vl) :: L) w) :
    Calls Tryz.prog 208 #[.pointer (some ⟨o, 0, none⟩), .agg #[.int .i64 e2, .bool d2, .int .u64 v2]] w fun r w' => r = .returned (.int .i64 1) ∧ Env w0 (boxI o (opT c kd key val lv rt nx 1 sp e2 d2 v2) :: L) w' := by
  have hE1 := hE.box w.heap.size rfl [.int .i64 e2, .bool d2, .int .u64 v2] 54
  have r0 := hE1.rule 0 rfl
  have r := hE1.rule 1 rfl
  unfold opT at r
  have f := hE1.thaw 1 rfl
  have f0 := f 9 (by simp [opT])
  have f1 := f 10 (by simp [opT])
  have f2 := f 11 (by simp [opT])
  clear f
  have hP := ((hE1.put 1 rfl (j := 9) (by simp [opT]) (.int .i64 e2)).put 1 rfl (j := 10) (by simp [opT]) (.bool d2)).put 1 rfl (j := 11) (by simp [opT]) (.int .u64 v2)
  have HEN := Lib.hid (end_r (o := 6) 1 1 (by simp [opT]) hP rfl)
  clear hE hE1 hP
  go_enter Tryz.func208, Tryz.ntmps208
  go_wp2_with fail
  refine HEN.out.mono ?_
  rintro e w1 ⟨rfl, hE2⟩
  go_wp2_with fail
  go_ret
  exact ⟨rfl, hE2.sub (.cons _ (List.Sublist.refl _))⟩
set_option maxHeartbeats 1600000 in
theorem linkedDone_t (hE : Env w0 (boxI o (opT c kd key val lv rt nx 0 sp er dn vl) :: L) w) :
    Calls Tryz.prog 214 #[.pointer (some ⟨o, 0, none⟩), .int .i64 1] w fun r w' => r = .returned (.int .i64 1) ∧ Env w0 (boxI o (opT c kd key val lv rt nx 1 sp 0 (decide (kd = 5)) 0) :: L) w' := by
  have HO := Lib.hid (over_t 0 (decide (kd = 5)) 0 hE)
  have r := hE.rule 0 rfl
  unfold opT at r
  have hk : (kd == 5) = decide (kd = 5) := by by_cases h : kd = 5 <;> simp [h]
  clear hE
  go_enter Tryz.func214, Tryz.ntmps214
  go_wp2_with fail
  refine HO.out.mono ?_
  rintro e w1 ⟨rfl, hE2⟩
  go_wp2_with fail
  go_ret
  exact ⟨rfl, hE2⟩
set_option maxHeartbeats 1600000 in
theorem linkedFind_t (hE : Env w0 (boxI o (opT c kd key val lv rt nx 0 sp er dn vl) :: L) w) :
    Calls Tryz.prog 214 #[.pointer (some ⟨o, 0, none⟩), .int .i64 2] w fun r w' => r = .returned (.int .i64 0) ∧ ∃ b1 b2 sb, Env w0 (boxI o (opT c kd key val lv rt (cvP b1 b2) 0 (.pointer (some ⟨sb, 0, none⟩)) er dn vl) :: boxI b1 [mvL 132 sb] :: boxI b2 [mvL 133 o] :: boxI sb (srC c rt key true (.pointer none)) :: L) w' := by
  have HF := Lib.hid (find_t hE)
  clear hE
  go_enter Tryz.func214, Tryz.ntmps214
  go_wp2_with fail
  refine HF.out.mono ?_
  rintro e w1 ⟨rfl, b1, b2, sb, hE2⟩
  go_wp2_with fail
  go_ret
  exact ⟨rfl, b1, b2, sb, hE2⟩
end
end Go.Proofs.YtdknbegcflldjaaGreatDoor

/- Lists: what Links, Unlinks and ops are in memory; where a lane ended, a reference to a link; NewLink, NewUnlink. -/
namespace Go.Proofs.YtdknbegcflldjaaGreatDoor
open Go.RowKit Go.Maps
set_option maxRecDepth 100000

theorem Ord3.Stage.two {A1 A2 : List Value → World → Prop} {κs : List Value} {w w' : World} (h : Ord3.Stage (fun κs => [A1 κs, A2 κs]) κs w) (h1 : A1 κs w → A1 κs w') (h2 : A2 κs w → A2 κs w') : Ord3.Stage (fun κs => [A1 κs, A2 κs]) κs w' := by
  obtain ⟨T, hT, hw⟩ := h
  refine ⟨T, hT, ?_⟩
  have hm := List.mem_of_getElem? hT
  simp only [List.mem_cons, List.not_mem_nil, or_false] at hm
  rcases hm with rfl | rfl
  · exact h1 hw
  · exact h2 hw
/-- A Link's cells; an Unlink's; an op's. -/
def lkC (c : Nat) (x y z W C X : Int) (nx : Value) (st : Int) : List Value :=
  [.pointer (some ⟨c, 0, none⟩), .int .i64 x, .int .i64 y, .int .i64 z, .int .i64 0, .int .u64 W, .int .i64 0, .bool false, .int .i64 C, .int .i64 0, .int .u64 X, .int .i64 0, .bool false, nx, .int .i64 st]
def ukC (c : Nat) (x y z W C X k key to : Int) (nx : Value) (st : Int) : List Value :=
  [.pointer (some ⟨c, 0, none⟩), .int .i64 x, .int .i64 y, .int .i64 z, .int .i64 0, .int .u64 W, .int .i64 0, .bool false, .int .i64 C, .int .i64 0, .int .u64 X, .int .i64 0, .bool false, .int .i64 k, .int .u64 key, .int .i64 to, .int .i64 0, nx, .int .i64 st]
def opC (c : Nat) (kd key val lv : Int) (nx : Value) (st : Int) (sp : Value) (er : Int) (dn : Bool) : List Value :=
  [.pointer (some ⟨c, 0, none⟩), .int .i64 kd, .int .u64 key, .int .u64 val, .int .i64 lv, nx, .int .i64 st, sp, .int .i64 er, .bool dn, .int .u64 0]

set_option maxHeartbeats 1600000 in
theorem linkOf_any (s d : Int) (w : World) : Calls Tryz.prog 276 #[.agg #[.int .i64 s, .int .i64 d]] w fun e w' => e = .returned (.agg #[.int .i64 5, .int .i64 s, .int .i64 7, .int .i64 d]) ∧ Below w.heap.size w w' := by
  have hF := ((Fr.start w).push w.heap.size rfl [.int .i64 s, .int .i64 d] 136).push (w.heap.size + 1) (by simp) [.int .i64 0, .int .i64 0, .int .i64 0, .int .i64 0] 185
  have hX := hF.blk 1 rfl (by omega)
  have hZ := hF.blk 0 rfl (by omega)
  have hE := hF.below
  clear hF
  have HLK : Hid (∀ v, Calls Tryz.prog 55 #[.int .i64 s, .int .i64 0] v fun e w' => e = .returned (.agg #[.int .i64 5, .int .i64 s, .int .i64 7]) ∧ Below v.heap.size v w') := Lib.hid fun v => by
    have := link_any s 0 v
    rwa [show wrap64 (7 + 0) = 7 by rw [w64 _ (by omega)]; rfl] at this
  go_enter Tryz.func276, Tryz.ntmps276
  go_wp2_with fail
  refine Ord.wp_chain [6] (fun w' => Below w.heap.size w w' ∧ Blk 0 w' w.heap.size [.int .i64 s, .int .i64 d]) (fun j w' => Blk 0 w' (w.heap.size + 1) (if j = 0 then [.int .i64 0, .int .i64 0, .int .i64 0, .int .i64 0] else [.int .i64 5, .int .i64 s, .int .i64 7, .int .i64 d])) (by kernel_rfl) (by kernel_rfl) (by kernel_rfl) ⟨hE.drew, hX.drew⟩ hZ.drew (fun hT => ?_)
  have hT9 := Lib.hid hT
  clear hT
  repeat (first
    | (refine Ord.ch_value (v := ?_) hT9.out (by decide) (by rfl) ?_ ?_; rotate_left; (focus (intro w5 hS; have r := Blk.rule hS.2; go_simp <;> with_reducible rfl)); (try simp only [Act.put, List.setIfInBounds_toArray, List.set_cons_zero, List.set_cons_succ]))
    | (refine Ord.ch_off hT9.out (by decide) (by rfl) ?_; (try simp only [Act.put, List.setIfInBounds_toArray, List.set_cons_zero, List.set_cons_succ]))
    | (refine Ord.ch_call (v := ?_) (f := ?_) (args := ?_) hT9.out (by decide) (by rfl) ?_ ?_ ?_; rotate_left 3; (focus (intro w5 hS; have r := Blk.rule hS.2; go_simp; constructor <;> with_reducible rfl)); (focus (intro w5 hS; (first | (with_reducible refine (HLK.out _).mono ?_; rintro o w6 ⟨rfl, hb6⟩; constructor; with_reducible rfl; exact ⟨⟨hS.1.trans (hb6.mono hS.1.size), hS.2.under hb6⟩, fun _ h => h.under hb6⟩)))); (try simp only [Act.put, List.setIfInBounds_toArray, List.set_cons_zero, List.set_cons_succ])))
  refine Ord.ch_turn (v := undef) 0 hT9.out rfl (by decide) (Or.inl rfl) (by rfl) ?_ ?_
  · rintro w5 hS hA2
    simp only [if_true] at hA2
    have r := hA2.rule
    have f0 := hA2.thaw 0 (by simp)
    have f1 := hA2.thaw 1 (by simp)
    have f2 := hA2.thaw 2 (by simp)
    have f3 := hA2.thaw 3 (by simp)
    have hz := hS.1.size
    go_simp
    refine ⟨rfl, ⟨?_, ?_⟩, ?_⟩
    · exact below_set (below_set (below_set (below_set hS.1 hz (by omega) _) (by simp; omega) (by omega) _) (by simp; omega) (by omega) _) (by simp; omega) (by omega) _
    · exact (((hS.2.off (by omega) _).off (by omega) _).off (by omega) _).off (by omega) _
    · exact (((hA2.set (i := 0) (by simp) _).set (i := 1) (by simp) _).set (i := 2) (by simp) _).set (i := 3) (by simp) _
  (try simp only [Act.put, List.setIfInBounds_toArray, List.set_cons_zero, List.set_cons_succ])
  repeat (first
    | (refine Ord.ch_value (v := ?_) hT9.out (by decide) (by rfl) ?_ ?_; rotate_left; (focus (intro w5 hS; skip; go_simp <;> with_reducible rfl)); (try simp only [Act.put, List.setIfInBounds_toArray, List.set_cons_zero, List.set_cons_succ]))
    | (refine Ord.ch_off hT9.out (by decide) (by rfl) ?_; (try simp only [Act.put, List.setIfInBounds_toArray, List.set_cons_zero, List.set_cons_succ])))
  refine Ord.InText.nil fun w5 hS => ?_
  clear hT9
  obtain ⟨hC9, hA9⟩ := Ord.chain_end hS
  clear hS
  have q := hA9.rule
  simp only [show ¬ [6].length = 0 by decide, if_false] at q
  go_wp2
  exact bodyPost_ret (v := .agg #[.int .i64 5, .int .i64 s, .int .i64 7, .int .i64 d]) (by simp [results, Tryz.results276, go_sem, q]) rfl ⟨rfl, hC9.1⟩

section
variable {w0 w : World} {L : List Item} {a c : Nat} {lv key : Int} {vs : Bool} {nx : Value} {st x y z W C X wd : Int} {pf : Bool} {pv : Int}
set_option maxHeartbeats 3200000 in
theorem spotOf_l (hb : Blk 0 w a (laneC c lv key vs nx st x y z W C X wd pf pv)) : Calls Tryz.prog 246 #[.pointer (some ⟨a, 0, none⟩)] w fun e w' => e = .returned (.agg #[.int .i64 x, .int .i64 y, .int .i64 z, .int .i64 0, .int .u64 W, .int .i64 0, .bool false, .int .i64 C, .int .i64 0, .int .u64 X, .int .i64 0, .bool false]) ∧ Below w.heap.size w w' := by
  have hZ := (Env.start w).box w.heap.size rfl [.int .i64 0, .int .i64 0, .int .i64 0, .int .i64 0, .int .u64 0, .int .i64 0, .bool false, .int .i64 0, .int .i64 0, .int .u64 0, .int .i64 0, .bool false] 306
  have hL := hb.under hZ.below
  clear hb
  go_enter Tryz.func246, Tryz.ntmps246
  go_wp2_with fail
  refine (at_g hL).mono ?_
  rintro o w1 ⟨rfl, hb1⟩
  replace hZ := hZ.over hb1
  replace hL := hL.under hb1
  clear hb1
  go_wp2_with fail
  refine (into_g hL).mono ?_
  rintro o w1 ⟨rfl, hb1⟩
  replace hZ := hZ.over hb1
  replace hL := hL.under hb1
  clear hb1
  go_wp2_with fail
  refine (who_g hL).mono ?_
  rintro o w1 ⟨rfl, hb1⟩
  replace hZ := hZ.over hb1
  replace hL := hL.under hb1
  clear hb1
  go_wp2_with fail
  refine (out_g hL).mono ?_
  rintro o w1 ⟨rfl, hb1⟩
  replace hZ := hZ.over hb1
  clear hb1 hL
  have r := hZ.rule 0 rfl
  have f := hZ.thaw 0 rfl
  have f0 := f 0 (by simp)
  have f1 := f 1 (by simp)
  have f2 := f 2 (by simp)
  have f3 := f 3 (by simp)
  have f4 := f 4 (by simp)
  have f5 := f 5 (by simp)
  have f6 := f 6 (by simp)
  have f7 := f 7 (by simp)
  have f8 := f 8 (by simp)
  have f9 := f 9 (by simp)
  have f10 := f 10 (by simp)
  have f11 := f 11 (by simp)
  clear f
  have hP := (((((((((((hZ.put 0 rfl (j := 0) (by simp) (.int .i64 x)).put 0 rfl (j := 1) (by simp) (.int .i64 y)).put 0 rfl (j := 2) (by simp) (.int .i64 z)).put 0 rfl (j := 3) (by simp) (.int .i64 0)).put 0 rfl (j := 4) (by simp) (.int .u64 W)).put 0 rfl (j := 5) (by simp) (.int .i64 0)).put 0 rfl (j := 6) (by simp) (.bool false)).put 0 rfl (j := 7) (by simp) (.int .i64 C)).put 0 rfl (j := 8) (by simp) (.int .i64 0)).put 0 rfl (j := 9) (by simp) (.int .u64 X)).put 0 rfl (j := 10) (by simp) (.int .i64 0)).put 0 rfl (j := 11) (by simp) (.bool false)
  go_wp2_with fail
  have q := hP.rule 0 rfl
  exact bodyPost_ret (v := .agg #[.int .i64 x, .int .i64 y, .int .i64 z, .int .i64 0, .int .u64 W, .int .i64 0, .bool false, .int .i64 C, .int .i64 0, .int .u64 X, .int .i64 0, .bool false]) (by simp [results, Tryz.results246, go_sem, q]) rfl ⟨rfl, hP.below⟩
set_option maxHeartbeats 1600000 in
theorem newLink_k (i : Nat) (hi : L[i]? = some (boxI a (laneC c lv key vs nx st x y z W C X wd pf pv))) (hE : Env w0 L w) :
    Calls Tryz.prog 212 #[.pointer (some ⟨c, 0, none⟩), .pointer (some ⟨a, 0, none⟩)] w fun o w' => ∃ l, o = .returned (.pointer (some ⟨l, 0, none⟩)) ∧ Env w0 (boxI l (lkC c x y z W C X (mvL 247 l) 0) :: L) w' := by
  have hmf := makeF
  go_enter Tryz.func212, Tryz.ntmps212
  go_wp2_with fail
  refine (spotOf_l (hE.get i hi)).mono ?_
  rintro o w1 ⟨rfl, hb1⟩
  replace hE := hE.over hb1
  clear hb1
  have hE2 := hE.box w1.heap.size rfl (lkC c x y z W C X .nilFunc 0) 309
  have HGO := Lib.hid (goOn_r (o := 13) 0 (.func 247) #[.pointer (some ⟨w1.heap.size, 0, none⟩)] #[] (by simp [lkC]) hE2 rfl)
  clear hE2 hE hi
  go_wp2_with fail
  refine HGO.out.mono ?_
  rintro o w2 ⟨rfl, hE3⟩
  go_wp2_with fail
  go_ret
  exact ⟨_, rfl, hE3⟩
theorem newLinkNil_k (q : Option Addr) (w : World) :
    Calls Tryz.prog 212 #[.pointer none, .pointer q] w fun o w' => o = .returned (.pointer none) ∧ w' = w := by
  go_enter Tryz.func212, Tryz.ntmps212
  go_wp2
  go_ret
  exact ⟨rfl, rfl⟩
theorem newLinkNil2_k (q : Addr) (w : World) :
    Calls Tryz.prog 212 #[.pointer (some q), .pointer none] w fun o w' => o = .returned (.pointer none) ∧ w' = w := by
  go_enter Tryz.func212, Tryz.ntmps212
  go_wp2
  go_ret
  exact ⟨rfl, rfl⟩
theorem newUnlinkNil_k (q : Option Addr) (k key s d : Int) (w : World) :
    Calls Tryz.prog 223 #[.pointer none, .pointer q, .int .i64 k, .int .u64 key, .agg #[.int .i64 s, .int .i64 d]] w fun o w' => o = .returned (.pointer none) ∧ Below w.heap.size w w' := by
  go_enter Tryz.func223, Tryz.ntmps223
  go_wp2
  go_ret
  exact ⟨rfl, (Below.refl _ _).alloc (Nat.le_refl _) _⟩
theorem newUnlinkNil2_k (q : Addr) (k key s d : Int) (w : World) :
    Calls Tryz.prog 223 #[.pointer (some q), .pointer none, .int .i64 k, .int .u64 key, .agg #[.int .i64 s, .int .i64 d]] w fun o w' => o = .returned (.pointer none) ∧ Below w.heap.size w w' := by
  go_enter Tryz.func223, Tryz.ntmps223
  go_wp2
  go_ret
  exact ⟨rfl, (Below.refl _ _).alloc (Nat.le_refl _) _⟩
set_option maxHeartbeats 3200000 in
theorem newUnlink_k (k ky to : Int) (i : Nat) (hi : L[i]? = some (boxI a (laneC c lv key vs nx st x y z W C X wd pf pv))) (hE : Env w0 L w) :
    Calls Tryz.prog 223 #[.pointer (some ⟨c, 0, none⟩), .pointer (some ⟨a, 0, none⟩), .int .i64 k, .int .u64 ky, .agg #[.int .i64 to, .int .i64 0]] w fun o w' => ∃ l, o = .returned (.pointer (some ⟨l, 0, none⟩)) ∧ Env w0 (boxI l (ukC c x y z W C X k ky to (mvL 260 l) 0) :: L) w' := by
  have hmf := makeF
  have hE1 := hE.box w.heap.size rfl [.int .i64 to, .int .i64 0] 136
  have hi1 : (boxI w.heap.size [.int .i64 to, .int .i64 0] :: L)[i + 1]? = some (boxI a (laneC c lv key vs nx st x y z W C X wd pf pv)) := hi
  clear hE
  go_enter Tryz.func223, Tryz.ntmps223
  go_wp2_with fail
  generalize w.alloc _ = w2 at *
  generalize w.heap.size = Y at *
  refine Ord3.wp_chain [?_, ?_, ?_, ?_, ?_, ?_, ?_, ?_, ?_] [7, 8] (fun w' => Blk 0 w' a (laneC c lv key vs nx st x y z W C X wd pf pv) ∧ Blk 0 w' Y [.int .i64 to, .int .i64 0]) (Ord3.Stage fun κs => [Env w0 (boxI Y [.int .i64 to, .int .i64 0] :: L), fun w' => ∃ q, κs.getD 0 undef = .pointer (some ⟨q, 0, none⟩) ∧ Env w0 (boxI q (ukC c x y z W C X k ky to .nilFunc 0) :: boxI Y [.int .i64 to, .int .i64 0] :: L) w', fun w' => ∃ q, κs.getD 1 undef = .pointer (some ⟨q, 0, none⟩) ∧ Env w0 (boxI q (ukC c x y z W C X k ky to .nilFunc 0) :: boxI Y [.int .i64 to, .int .i64 0] :: L) w']) (by kernel_rfl) (by kernel_rfl) (by kernel_rfl) ⟨hE1.drew.get (i + 1) hi1, hE1.drew.get 0 rfl⟩ ⟨_, rfl, hE1.drew⟩ (fun hT => ?_)
  rotate_left 9
  have hT9 := Lib.hid hT
  clear hT
  repeat (first
    | (focus (refine Ord3.in_value (v := ?_) hT9.out (by decide) ?_ (by rfl) ?_ ?_; rotate_left 2; (focus (intro w5 hS; have r1 := Blk.rule hS.2; go_simp <;> with_reducible rfl)); rotate_right; (focus rfl); (try simp only [Act.put, List.setIfInBounds_toArray, List.set_cons_zero, List.set_cons_succ])))
    | (focus (refine Ord3.in_off hT9.out (by decide) ?_ (by rfl) ?_; (focus rfl); (try simp only [Act.put, List.setIfInBounds_toArray, List.set_cons_zero, List.set_cons_succ])))
    | (focus (refine Ord3.in_call (v := ?_) (f := ?_) (args := ?_) hT9.out (by decide) ?_ (by rfl) ?_ ?_ ?_; rotate_left 4; (focus (intro w5 hS; have r1 := Blk.rule hS.2; go_simp; constructor <;> with_reducible rfl)); (focus (intro w5 hS; (first | (with_reducible refine (spotOf_l hS.1).mono ?_; rintro o w6 ⟨rfl, hb6⟩; constructor; with_reducible rfl; exact ⟨⟨hS.1.under hb6, hS.2.under hb6⟩, fun us h => Ord3.Stage.three h (fun h => h.over hb6) (fun h => h.elim fun q h => ⟨q, h.1, h.2.over hb6⟩) (fun h => h.elim fun q h => ⟨q, h.1, h.2.over hb6⟩)⟩)))); rotate_right; (focus rfl); (try simp only [Act.put, List.setIfInBounds_toArray, List.set_cons_zero, List.set_cons_succ]))))
  refine Ord3.in_turn (fun u => ∃ q, u = .pointer (some ⟨q, 0, none⟩)) _ ⟨0, rfl⟩ hT9.out rfl (by decide) (by rfl) ?_ (Or.inl rfl) (by rfl) ?_ ?_
  · rfl
  · rintro w7 hC7 ⟨P7, hP7, hA7⟩
    cases hP7
    go_simp
    simp only [Ord3.Lands]
    have hE8 := hA7.box w7.heap.size rfl (ukC c x y z W C X k ky to .nilFunc 0) 319
    exact ⟨⟨_, rfl⟩, ⟨hE8.get (i + 2) hi, hE8.get 1 rfl⟩, _, rfl, w7.heap.size, rfl, hE8⟩
  rintro _ ⟨q9, rfl⟩
  (try simp only [Act.put, List.setIfInBounds_toArray, List.set_cons_zero, List.set_cons_succ])
  refine Ord3.in_turn (fun u => ∃ q, u = .pointer (some ⟨q, 0, none⟩)) _ ⟨0, rfl⟩ hT9.out rfl (by decide) (by rfl) ?_ (Or.inr ⟨_, 7, [], rfl, by kernel_rfl, by kernel_rfl, rfl⟩) (by rfl) ?_ ?_
  · rfl
  · rintro w7 hC7 ⟨P7, hP7, hA7⟩
    cases hP7
    obtain ⟨q8, he, hA7⟩ := hA7
    cases he
    go_simp
    simp only [Ord3.Lands]
    exact ⟨⟨_, rfl⟩, hC7, _, rfl, q9, rfl, hA7⟩
  rintro _ ⟨q9, rfl⟩
  (try simp only [Act.put, List.setIfInBounds_toArray, List.set_cons_zero, List.set_cons_succ])
  refine Ord3.in_nil rfl ?_
  rintro w9 hC9 ⟨P9, hP9, hA9⟩
  cases hP9
  obtain ⟨q8, he, hA9⟩ := hA9
  cases he
  clear hT9 hC9 hE1
  have HGO := Lib.hid (goOn_r (o := 17) 0 (.func 260) #[.pointer (some ⟨q9, 0, none⟩)] #[] (by simp [ukC]) hA9 rfl)
  clear hA9
  go_wp2_with fail
  refine HGO.out.mono ?_
  rintro o w8 ⟨rfl, hE3⟩
  go_wp2_with fail
  go_ret
  exact ⟨_, rfl, hE3.sub (.cons_cons _ (.cons _ (List.Sublist.refl _)))⟩
end
end Go.Proofs.YtdknbegcflldjaaGreatDoor

/- Lists: the rows of a Link. -/
namespace Go.Proofs.YtdknbegcflldjaaGreatDoor
open Go.RowKit Go.Maps
set_option maxRecDepth 100000

section
variable {w0 w : World} {R : List Item} {l : Nat} {S : ST} {nx : Value} {x y z W C X : Int}
set_option maxHeartbeats 3200000 in
theorem store_k (hh : S.hs ≠ 0) (hhs : In64 S.hs) (hW : InU W) (hg : Glo w0) (hm : S.m < maxLen) (hE : Env w0 (boxI l (lkC S.c x y z W C X nx 0) :: LT S R) w) :
    Calls Tryz.prog 247 #[.pointer (some ⟨l, 0, none⟩), .iface 26 (.pointer (some ⟨S.p, 0, none⟩))] w fun o w' => o = .returned (.int .i64 0) ∧ ∃ G', Env w0 (boxI l (lkC S.c x y z W C X (mvL 277 l) 0) :: LT { S with G := G', f := upd S.f (5, S.hs, 7) (wordI false (slotI W) S.ce), qc := { S.qc with s := wrap64 (S.qc.s + 1) }, m := S.m + 1 } R) w' := by
  have hmf := makeF
  have hah := ahead_store
  have hb : (S.hs != 0) = true := by simpa using hh
  have HWF : Hid (Wf (5, S.hs, 7)) := Lib.hid (by unfold Wf; exact ⟨by show In64 5; unfold In64; omega, hhs, by show In64 7; unfold In64; omega⟩)
  have HLE := Lib.hid fun (v : World) (hv : Below w0.heap.size w0 v) => lead_c W 0 false v hW (hg.keep' hv)
  have hqi : InU (wordI false (slotI W) S.ce) := wordI_in _ _ _
  have hto := fun (v : World) (hv : Below w0.heap.size w0 v) (hb : Blk 0 v S.c (crv S.ck S.cs S.cb S.ch S.cl S.ce S.cr S.hs 0 S.q)) => to_c (slotI W) 0 (hg.keep' hv) hb
  obtain ⟨s, hs⟩ : ∃ s, slotI W = s := ⟨_, rfl⟩
  rw [hs] at hqi ⊢
  simp only [hs] at HLE hto
  clear hs
  obtain ⟨q, hq⟩ : ∃ q, wordI false s S.ce = q := ⟨_, rfl⟩
  rw [hq] at hqi ⊢
  simp only [hq] at hto
  have HQI := Lib.hid hqi
  have HTO := Lib.hid hto
  have r := hE.rule 0 rfl
  unfold lkC at r
  clear hq hqi hto hhs hW hg hh
  go_enter Tryz.func247, Tryz.ntmps247
  go_wp2_with fail
  refine (held_c (hE.get 1 rfl)).mono ?_
  rintro o w1 ⟨rfl, hb1⟩
  rw [hb]
  have hE2 := (hE.over hb1).box w1.heap.size rfl [.int .i64 S.hs, .int .i64 0] 136
  clear hb1 hE r hb
  go_wp2_with fail
  generalize w1.alloc _ = w2 at *
  generalize w1.heap.size = Y at *
  refine Ord.wp_chain [17] (fun v => Below w0.heap.size w0 v ∧ Blk 0 v l (lkC S.c x y z W C X nx 0) ∧ Blk 0 v S.c (crv S.ck S.cs S.cb S.ch S.cl S.ce S.cr S.hs 0 S.q) ∧ Blk 0 v Y [.int .i64 S.hs, .int .i64 0]) (fun k w' => ∃ G5, Env w0 (boxI Y [.int .i64 S.hs, .int .i64 0] :: boxI l (lkC S.c x y z W C X nx 0) :: LT (if k = 0 then S else { S with G := G5, f := upd S.f (5, S.hs, 7) q, qc := { S.qc with s := wrap64 (S.qc.s + 1) }, m := S.m + 1 }) R) w') (by kernel_rfl) (by kernel_rfl) (by kernel_rfl) ⟨hE2.drew.below, hE2.drew.get 1 rfl, hE2.drew.get 2 rfl, hE2.drew.get 0 rfl⟩ ⟨S.G, hE2.drew⟩ (fun hT => ?_)
  have hT9 := Lib.hid hT
  clear hT
  repeat (first
    | (refine Ord.ch_value (v := ?_) hT9.out (by decide) (by rfl) ?_ ?_; rotate_left; (focus (intro w5 hS; have r := hS.2.1.rule; have r1 := hS.2.2.2.rule; unfold lkC at r; go_simp <;> with_reducible rfl)); (try simp only [Act.put, List.setIfInBounds_toArray, List.set_cons_zero, List.set_cons_succ]))
    | (refine Ord.ch_off hT9.out (by decide) (by rfl) ?_; (try simp only [Act.put, List.setIfInBounds_toArray, List.set_cons_zero, List.set_cons_succ]))
    | (refine Ord.ch_call (v := ?_) (f := ?_) (args := ?_) hT9.out (by decide) (by rfl) ?_ ?_ ?_; rotate_left 3; (focus (intro w5 hS; have r := hS.2.1.rule; have r1 := hS.2.2.2.rule; unfold lkC at r; go_simp; constructor <;> with_reducible rfl)); (focus (intro w5 hS; (first | (with_reducible refine (linkOf_any _ _ _).mono ?_; rintro e w6 ⟨rfl, hb6⟩; constructor; with_reducible rfl; exact ⟨⟨hS.1.trans (hb6.mono hS.1.size), hS.2.1.under hb6, hS.2.2.1.under hb6, hS.2.2.2.under hb6⟩, fun k h => h.elim fun G5 h => ⟨G5, h.over hb6⟩⟩) | (with_reducible refine (HLE.out _ hS.1).mono ?_; rintro e w6 ⟨rfl, hb6⟩; constructor; with_reducible rfl; exact ⟨⟨hS.1.trans (hb6.mono hS.1.size), hS.2.1.under hb6, hS.2.2.1.under hb6, hS.2.2.2.under hb6⟩, fun k h => h.elim fun G5 h => ⟨G5, h.over hb6⟩⟩) | (with_reducible refine (HTO.out _ hS.1 hS.2.2.1).mono ?_; rintro e w6 ⟨rfl, hb6⟩; constructor; with_reducible rfl; exact ⟨⟨hS.1.trans (hb6.mono hS.1.size), hS.2.1.under hb6, hS.2.2.1.under hb6, hS.2.2.2.under hb6⟩, fun k h => h.elim fun G5 h => ⟨G5, h.over hb6⟩⟩)))); (try simp only [Act.put, List.setIfInBounds_toArray, List.set_cons_zero, List.set_cons_succ])))
  refine Ord.ch_turn (v := .tuple #[]) 0 hT9.out rfl (by decide) (Or.inl rfl) (by rfl) ?_ ?_
  · rintro w5 hC5 ⟨G5, hA5⟩
    simp only [if_true] at hA5
    go_simp
    rw [method_store]
    simp only [Result.andThen_ok]
    go_simp
    simp only [Ord.LandsIn]
    refine (store_w 5 S.hs 7 0 q 0 false HWF.out HQI.out hm 4 5 (by decide) hA5 rfl rfl).mono ?_
    rintro e w6 ⟨rfl, G6, hE6⟩
    exact ⟨rfl, ⟨hE6.below, hE6.get 1 rfl, hE6.get 2 rfl, hE6.get 0 rfl⟩, G6, hE6⟩
  (try simp only [Act.put, List.setIfInBounds_toArray, List.set_cons_zero, List.set_cons_succ])
  repeat (first
    | (refine Ord.ch_value (v := ?_) hT9.out (by decide) (by rfl) ?_ ?_; rotate_left; (focus (intro w5 hS; skip; go_simp <;> with_reducible rfl)); (try simp only [Act.put, List.setIfInBounds_toArray, List.set_cons_zero, List.set_cons_succ]))
    | (refine Ord.ch_off hT9.out (by decide) (by rfl) ?_; (try simp only [Act.put, List.setIfInBounds_toArray, List.set_cons_zero, List.set_cons_succ])))
  refine Ord.InText.nil fun w5 hS => ?_
  clear hT9
  obtain ⟨hC9, hA9⟩ := Ord.chain_end hS
  clear hS
  obtain ⟨G9, hA9⟩ := hA9
  simp only [List.length_cons, List.length_nil, Nat.zero_add, Nat.one_ne_zero, if_false] at hA9
  clear hC9 hE2 HTO HLE
  go_wp2_with fail
  refine (goOn_r (o := 13) 1 _ _ _ (by simp [lkC]) hA9 rfl).mono ?_
  rintro o w5 ⟨rfl, hE5⟩
  go_wp2_with fail
  go_ret
  exact ⟨rfl, G9, hE5.sub (.cons _ (List.Sublist.refl _))⟩
set_option maxHeartbeats 3200000 in
theorem put_k (hh : S.hs ≠ 0) (hwf : Wf (x, y, z)) (hg : Glo w0) (hm : S.m < maxLen) (hE : Env w0 (boxI l (lkC S.c x y z W C X nx 0) :: LT S R) w) :
    Calls Tryz.prog 277 #[.pointer (some ⟨l, 0, none⟩), .iface 26 (.pointer (some ⟨S.p, 0, none⟩))] w fun o w' => o = .returned (.int .i64 (if S.f (x, y, z) = W then 1 else 2)) ∧ ∃ G', Env w0 (LT { S with G := G', f := swf S.f (x, y, z) W (wordI false S.hs S.ce), qc := swq S.qc (decide (S.f (x, y, z) = W)), m := S.m + 1, hs := if S.f (x, y, z) = W then 0 else S.hs } R) w' := by
  have hmf := makeF
  have hah := ahead_swap
  have hb : (S.hs != 0) = true := by simpa using hh
  have HWF := Lib.hid hwf
  have hqi : InU (wordI false S.hs S.ce) := wordI_in _ _ _
  have hto := fun (v : World) (hv : Below w0.heap.size w0 v) (hb : Blk 0 v S.c (crv S.ck S.cs S.cb S.ch S.cl S.ce S.cr S.hs 0 S.q)) => to_c S.hs 0 (hg.keep' hv) hb
  obtain ⟨q, hq⟩ : ∃ q, wordI false S.hs S.ce = q := ⟨_, rfl⟩
  rw [hq] at hqi ⊢
  simp only [hq] at hto
  have HQI := Lib.hid hqi
  have HTO := Lib.hid hto
  have HH := Lib.hid hh
  have r := hE.rule 0 rfl
  unfold lkC at r
  clear hq hqi hto hwf hg hh
  obtain ⟨dd, hdd⟩ : ∃ dd, decide (S.f (x, y, z) = W) = dd := ⟨_, rfl⟩
  have hds : (if S.f (x, y, z) = W then (1 : Int) else 2) = if dd then 1 else 2 := by rw [← hdd]; by_cases h : S.f (x, y, z) = W <;> simp [h]
  have hdh : (if S.f (x, y, z) = W then (0 : Int) else S.hs) = if dd then 0 else S.hs := by rw [← hdd]; by_cases h : S.f (x, y, z) = W <;> simp [h]
  rw [hds, hdd]
  simp only [hdh]
  clear hds hdh
  have HDD := Lib.hid hdd
  clear hdd
  go_enter Tryz.func277, Tryz.ntmps277
  go_wp2_with fail
  refine (held_c (hE.get 1 rfl)).mono ?_
  rintro o w1 ⟨rfl, hb1⟩
  rw [hb]
  have hE2 := (hE.over hb1).box w1.heap.size rfl [.int .i64 S.hs, .int .i64 0] 136
  clear hb1 hE r hb
  go_wp2_with fail
  generalize w1.alloc _ = w2 at *
  generalize w1.heap.size = Y at *
  refine Ord.wp_chain [20] (fun v => Below w0.heap.size w0 v ∧ Blk 0 v l (lkC S.c x y z W C X nx 0) ∧ Blk 0 v S.c (crv S.ck S.cs S.cb S.ch S.cl S.ce S.cr S.hs 0 S.q) ∧ Blk 0 v Y [.int .i64 S.hs, .int .i64 0]) (fun k w' => ∃ G5, Env w0 (boxI Y [.int .i64 S.hs, .int .i64 0] :: boxI l (lkC S.c x y z W C X nx 0) :: LT (if k = 0 then S else { S with G := G5, f := swf S.f (x, y, z) W q, qc := swq S.qc dd, m := S.m + 1 }) R) w') (by kernel_rfl) (by kernel_rfl) (by kernel_rfl) ⟨hE2.drew.below, hE2.drew.get 1 rfl, hE2.drew.get 2 rfl, hE2.drew.get 0 rfl⟩ ⟨S.G, hE2.drew⟩ (fun hT => ?_)
  have hT9 := Lib.hid hT
  clear hT
  repeat (first
    | (refine Ord.ch_value (v := ?_) hT9.out (by decide) (by rfl) ?_ ?_; rotate_left; (focus (intro w5 hS; have r := hS.2.1.rule; have r1 := hS.2.2.2.rule; unfold lkC at r; go_simp <;> with_reducible rfl)); (try simp only [Act.put, List.setIfInBounds_toArray, List.set_cons_zero, List.set_cons_succ]))
    | (refine Ord.ch_off hT9.out (by decide) (by rfl) ?_; (try simp only [Act.put, List.setIfInBounds_toArray, List.set_cons_zero, List.set_cons_succ]))
    | (refine Ord.ch_call (v := ?_) (f := ?_) (args := ?_) hT9.out (by decide) (by rfl) ?_ ?_ ?_; rotate_left 3; (focus (intro w5 hS; have r := hS.2.1.rule; have r1 := hS.2.2.2.rule; unfold lkC at r; go_simp; constructor <;> with_reducible rfl)); (focus (intro w5 hS; (first | (with_reducible refine (HTO.out _ hS.1 hS.2.2.1).mono ?_; rintro e w6 ⟨rfl, hb6⟩; constructor; with_reducible rfl; exact ⟨⟨hS.1.trans (hb6.mono hS.1.size), hS.2.1.under hb6, hS.2.2.1.under hb6, hS.2.2.2.under hb6⟩, fun k h => h.elim fun G5 h => ⟨G5, h.over hb6⟩⟩)))); (try simp only [Act.put, List.setIfInBounds_toArray, List.set_cons_zero, List.set_cons_succ])))
  refine Ord.ch_turn (v := .bool dd) 0 hT9.out rfl (by decide) (Or.inl rfl) (by rfl) ?_ ?_
  · rintro w5 hC5 ⟨G5, hA5⟩
    simp only [if_true] at hA5
    go_simp
    rw [method_swap]
    simp only [Result.andThen_ok]
    go_simp
    simp only [Ord.LandsIn]
    have hsw := swap_w x y z 0 W 0 q 0 false false HWF.out HQI.out hm 4 5 (by decide) hA5 rfl rfl
    rw [HDD.out] at hsw
    refine hsw.mono ?_
    rintro e w6 ⟨rfl, G6, hE6⟩
    exact ⟨rfl, ⟨hE6.below, hE6.get 1 rfl, hE6.get 2 rfl, hE6.get 0 rfl⟩, G6, hE6⟩
  (try simp only [Act.put, List.setIfInBounds_toArray, List.set_cons_zero, List.set_cons_succ])
  repeat (first
    | (refine Ord.ch_value (v := ?_) hT9.out (by decide) (by rfl) ?_ ?_; rotate_left; (focus (intro w5 hS; skip; go_simp <;> with_reducible rfl)); (try simp only [Act.put, List.setIfInBounds_toArray, List.set_cons_zero, List.set_cons_succ]))
    | (refine Ord.ch_off hT9.out (by decide) (by rfl) ?_; (try simp only [Act.put, List.setIfInBounds_toArray, List.set_cons_zero, List.set_cons_succ])))
  refine Ord.InText.nil fun w5 hS => ?_
  clear hT9
  obtain ⟨hC9, hA9⟩ := Ord.chain_end hS
  clear hS
  obtain ⟨G9, hA9⟩ := hA9
  simp only [List.length_cons, List.length_nil, Nat.zero_add, Nat.one_ne_zero, if_false] at hA9
  replace hA9 := hA9.sub (.cons _ (List.Sublist.refl _))
  clear hC9 hE2 HTO HDD
  have r := hA9.rule 0 rfl
  unfold lkC at r
  cases dd
  · go_wp2_with fail
    refine (end_r (o := 13) 0 2 (by simp [lkC]) hA9 rfl).mono ?_
    rintro o w5 ⟨rfl, hE5⟩
    go_wp2_with fail
    go_ret
    exact ⟨rfl, G9, hE5.sub (.cons _ (List.Sublist.refl _))⟩
  · go_wp2_with fail
    refine (takeYes_c HH.out 1 hA9 rfl).mono ?_
    rintro o w4 ⟨rfl, hE4⟩
    simp only [List.set_cons_zero, List.set_cons_succ] at hE4
    clear hA9 r
    have r := hE4.rule 0 rfl
    unfold lkC at r
    go_wp2_with fail
    refine (end_r (o := 13) 0 1 (by simp [lkC]) hE4 rfl).mono ?_
    rintro o w5 ⟨rfl, hE5⟩
    go_wp2_with fail
    go_ret
    exact ⟨rfl, G9, hE5.sub (.cons _ (List.Sublist.refl _))⟩
end
end Go.Proofs.YtdknbegcflldjaaGreatDoor
