/- Shared cells among other things. -/
import Derived.Test.YtmgldhojgkcnkaaCellP
import Derived.Test.YtmgldhojgkcnkaaEnv
import Derived.Lib.SmallJoins
namespace Go.Proofs.Ytmgldhojgkcnkaa
open Go.RowKit Go.Maps

/-- Shared cells, as a thing. -/
def cellI (c : Nat) (F : Nat → Prop) (f : Plc → Int) (q : Cnt) (n : Nat) : Item where
  F := F
  says := fun w => IsC w c F f q n
  loc := fun w1 w2 h hk hs => by
    obtain ⟨mp, hb, hm, hF⟩ := h
    exact ⟨mp, hb.kept hs (hk c ((hF c).2 (.inl rfl))), hm.kept fun b e => hk b ((hF b).2 (.inr e)), hF⟩
section
variable {w0 w w' : World} {L : List Item} {c n : Nat} {F F' : Nat → Prop} {f f' : Plc → Int} {q q' : Cnt} {m : Nat}
theorem Env.made (h : Env w0 L w) (hC : IsC w' c (fun k => k = c) f q n) (hc : w.heap.size ≤ c) (hb : Below w.heap.size w w') : Env w0 (cellI c (fun k => k = c) f q n :: L) w' :=
  h.add (cellI c (fun k => k = c) f q n) hb hC fun k hk => ⟨by have hk : k = c := hk; omega, hC.lt k hk⟩
theorem Env.cell (h : Env w0 L w) (i : Nat) (hi : L[i]? = some (cellI c F f q n)) : IsC w c F f q n := h.get i hi
theorem Env.turn (h : Env w0 L w) (i : Nat) (hi : L[i]? = some (cellI c F f q n)) (hC : IsC w' c F' f' q' m) (hs : Step F F' w w') : Env w0 (L.set i (cellI c F' f' q' m)) w' :=
  h.step i (cellI c F' f' q' m) hi hs hC hC.lt
end

theorem upd_upd (f : Plc → Int) (x : Plc) (a b : Int) : upd (upd f x a) x b = upd f x b := by funext y; unfold upd; split <;> rfl

/-- The one place whose word isn't 0. -/
theorem places_one {x : Plc} {v : Int} (hv : v ≠ 0) {l : List Plc} (h : PlacesOf (upd (fun _ => 0) x v) l) : l.length = 1 := by
  have h1 : PlacesOf (upd (fun _ => 0) x v) [x] := ⟨List.pairwise_singleton _ _, fun y => by unfold upd; split <;> simp_all⟩
  rw [h.eq h1]; rfl

theorem RowP.len {w : World} {v : Value} {l : List Plc} (h : RowP w v l) : ∃ a cap, v = .slice a l.length cap := by
  rcases h with ⟨rfl, rfl⟩ | ⟨g, cap, rfl, _⟩
  · exact ⟨_, _, rfl⟩
  · exact ⟨_, _, rfl⟩

set_option maxHeartbeats 1600000 in
theorem awake4 (w : World) : Calls Try.prog 7 #[] w fun e w' => e = .returned (.bool true) ∧ Below w.heap.size w w' := by
  have hE := Env.start w
  have hx : Wf (1, 0, 0) := by unfold Wf In64; simp
  have HX := Lib.hid hx
  clear hx
  go_enter Try.func7, Try.ntmps7
  go_wp2_with fail
  refine (new_any w).mono ?_
  rintro e w1 ⟨rfl, hC, hb⟩
  replace hE := hE.made hC (Nat.le_refl _) hb
  clear hC hb
  generalize w.heap.size = c at *
  replace hE := hE.box w1.heap.size rfl [.int .i64 1, .int .i64 0, .int .i64 0] 34
  have hM : ∀ k : Nat, k ≤ 100 → k < maxLen := fun k hk => by unfold maxLen; omega
  have HM := Lib.hid hM
  clear hM
  have r := hE.rule 0 rfl
  go_wp2_with fail
  refine (store_any 1 0 0 5 HX.out (by unfold InU; omega) (HM.out _ (by omega)) (hE.cell 1 rfl)).mono ?_
  rintro e w2 ⟨rfl, F2, hC, hs⟩
  replace hE := hE.turn 1 rfl hC hs
  simp only [List.set_cons_succ, List.set_cons_zero] at hE
  clear hC hs
  clear r
  have r := hE.rule 0 rfl
  go_wp2_with fail
  refine (add_any 1 0 0 3 HX.out (HM.out _ (by omega)) (hE.cell 1 rfl)).mono ?_
  rintro e w3 ⟨rfl, F3, hC, hs⟩
  rw [upd_same, upd_upd, show IntKind.u64.wrap (5 + 3) = 8 by decide] at hC
  replace hE := hE.turn 1 rfl hC hs
  simp only [List.set_cons_succ, List.set_cons_zero] at hE
  clear hC hs
  clear r
  have r := hE.rule 0 rfl
  rw [upd_same]
  go_wp2_with fail
  refine (load_any 1 0 0 HX.out (hE.cell 1 rfl)).mono ?_
  rintro e w4 ⟨rfl, hC, hs⟩
  replace hE := hE.turn 1 rfl hC hs
  simp only [List.set_cons_succ, List.set_cons_zero] at hE
  clear hC hs
  clear r
  have r := hE.rule 0 rfl
  rw [upd_same]
  go_wp2_with fail
  refine (swap_any 1 0 0 5 1 HX.out (by unfold InU; omega) (HM.out _ (by omega)) (hE.cell 1 rfl)).mono ?_
  rintro e w5 ⟨rfl, F5, hC, hs⟩
  rw [upd_same, show swf (upd (fun _ => 0) (1, 0, 0) 8) (1, 0, 0) 5 1 = upd (fun _ => 0) (1, 0, 0) 8 by simp [swf, upd_same]] at hC
  replace hE := hE.turn 1 rfl hC hs
  simp only [List.set_cons_succ, List.set_cons_zero] at hE
  clear hC hs
  clear r
  have r := hE.rule 0 rfl
  rw [upd_same]
  go_wp2_with fail
  refine (swap_any 1 0 0 8 1 HX.out (by unfold InU; omega) (HM.out _ (by omega)) (hE.cell 1 rfl)).mono ?_
  rintro e w6 ⟨rfl, F6, hC, hs⟩
  rw [upd_same, show swf (upd (fun _ => 0) (1, 0, 0) 8) (1, 0, 0) 8 1 = upd (fun _ => 0) (1, 0, 0) 1 by simp [swf, upd_same, upd_upd]] at hC
  replace hE := hE.turn 1 rfl hC hs
  simp only [List.set_cons_succ, List.set_cons_zero] at hE
  clear hC hs
  clear r
  have r := hE.rule 0 rfl
  rw [upd_same]
  go_wp2_with fail
  refine (peek_any 1 0 0 HX.out (hE.cell 1 rfl)).mono ?_
  rintro e w7 ⟨rfl, hb⟩
  replace hE := hE.over hb
  clear hb r
  have r := hE.rule 0 rfl
  rw [upd_same]
  go_wp2_with fail
  have hq : swq (swq ⟨wrap64 (0 + 1), wrap64 (0 + 1), 0, 0, wrap64 (0 + 1)⟩ (decide ((8 : Int) = 5))) (decide True) = ⟨1, 1, 2, 1, 1⟩ := by simp [swq, wrap64]
  have hC1 := hE.cell 1 rfl
  rw [hq] at hC1
  refine (count_any hC1).mono ?_
  rintro e w8 ⟨rfl, hb⟩
  replace hE := hE.over hb
  clear hb r hC1 hq
  have r := hE.rule 0 rfl
  go_wp2_with fail
  refine (places_any (by omega) (hE.cell 1 rfl)).mono ?_
  rintro e w9 ⟨v, l, rfl, hl, hr, hb⟩
  replace hE := hE.over hb
  clear hb r
  have h1 := places_one (by omega) hl
  obtain ⟨a, cap, rfl⟩ := hr.len
  rw [h1]
  clear h1 hl hr
  go_wp2
  go_ret
  exact ⟨rfl, hE.below⟩
end Go.Proofs.Ytmgldhojgkcnkaa
