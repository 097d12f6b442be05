/- What is proved on the way to the statement, part 12 of 17: contracts of the functions, among other things in memory. -/
import Derived.Test.YtdknbegcflldjaaGreatDoorE11

/- Lanes: Step over the model. -/
namespace Go.Proofs.YtdknbegcflldjaaGreatDoor
open Go.RowKit Go.Maps
set_option maxRecDepth 100000

/-- Nothing, as a thing. -/
def noI : Item where
  F := fun _ => False
  says := fun _ => True
  loc := fun _ _ _ _ _ => trivial
section
variable {w0 w : World} {L : List Item} {x : Item}
theorem Env.none1 (h : Env w0 L w) : Env w0 (noI :: L) w := h.add noI (Below.refl _ _) trivial fun k hk => absurd hk (by simp [noI])
theorem Env.none2 (h : Env w0 (x :: L) w) : Env w0 (x :: noI :: noI :: L) w := h.none1.none1.perm (List.perm_middle (l₁ := [noI, noI]))
end

section
variable {w0 w : World} {R : List Item} {a : Nat} {S : ST} {lv key : Int} {vs : Bool} {L : Lm}

set_option maxHeartbeats 1600000 in
theorem lane_0 (hpc : L.pc = 0) (hL : LmOk L) (hlv : 0 ≤ lv ∧ lv ≤ 1000000) (hwf : Wf L.p) (hg : Glo w0) (hm : S.m < maxLen) (h : LaneR w0 R a lv key vs S 0 L w) :
    Calls Tryz.prog 169 #[.pointer (some ⟨a, 0, none⟩), .iface 26 (.pointer (some ⟨S.p, 0, none⟩))] w fun o w' => o = .returned (.int .i64 (laneM lv key vs S.ce L S.f).1) ∧ ∃ G', LaneR w0 R a lv key vs (laneS lv key vs S L G') (laneM lv key vs S.ce L S.f).1 (laneM lv key vs S.ce L S.f).2.1 w' := by
  obtain ⟨nx, wd, B1, B2, hn, hE⟩ := h
  obtain ⟨⟨hnx, -⟩, -, -⟩ := hn rfl
  have hnx := hnx (by rw [hpc]; rfl)
  rw [hpc] at hnx
  have hV : L.V = 0 := hL.v (by omega)
  have hM : laneM lv key vs S.ce L S.f = (0, { L with W := S.f L.p, pc := 2 }, S.f) := by simp [laneM, hpc]
  have hS : ∀ G, laneS lv key vs S L G = { S with G := G, qc := { S.qc with l := wrap64 (S.qc.l + 1) } } := fun G => by simp [laneS, laneQ, rollM, hM, hpc, isVal]
  rw [hM]
  have hn4 : w.cell? ⟨a, 4, none⟩ = some (mvL (fnL 0) a) := by rw [hE.rule 0 rfl 4, ← hnx]; rfl
  have hs5 : w.cell? ⟨a, 5, none⟩ = some (.int .i64 0) := hE.rule 0 rfl 5
  refine stepMv_l (fnL 0) (enters_fnL 0) _ _ hn4 hs5 ?_
  refine (loadInto_l (S.f L.p) rfl hwf (hE.sub (.cons_cons _ (.cons _ (.cons _ (List.Sublist.refl _)))))).mono ?_
  rintro o w1 ⟨rfl, b1, b2, hE1⟩
  refine ⟨0, rfl, rfl, S.G, ?_⟩
  rw [hS]
  exact ⟨cvL b1 b2, wd, _, _, fun _ => ⟨⟨fun h => absurd h (by simp [isVal]), fun _ => ⟨b1, b2, rfl, rfl, rfl⟩⟩, fun h => absurd h (by simp), fun h => absurd h (by simp)⟩, hE1⟩

set_option maxHeartbeats 1600000 in
theorem lane_3 (hpc : L.pc = 3) (hL : LmOk L) (hlv : 0 ≤ lv ∧ lv ≤ 1000000) (hwf : Wf L.p) (hg : Glo w0) (hm : S.m < maxLen) (h : LaneR w0 R a lv key vs S 0 L w) :
    Calls Tryz.prog 169 #[.pointer (some ⟨a, 0, none⟩), .iface 26 (.pointer (some ⟨S.p, 0, none⟩))] w fun o w' => o = .returned (.int .i64 (laneM lv key vs S.ce L S.f).1) ∧ ∃ G', LaneR w0 R a lv key vs (laneS lv key vs S L G') (laneM lv key vs S.ce L S.f).1 (laneM lv key vs S.ce L S.f).2.1 w' := by
  obtain ⟨nx, wd, B1, B2, hn, hE⟩ := h
  obtain ⟨⟨hnx, -⟩, -, -⟩ := hn rfl
  have hnx := hnx (by rw [hpc]; rfl)
  rw [hpc] at hnx
  have hV : L.V = 0 := hL.v (by omega)
  have hM : laneM lv key vs S.ce L S.f = (0, { L with X := S.f (5, L.C, 7 + lv), pc := 4 }, S.f) := by simp [laneM, hpc]
  have hS : ∀ G, laneS lv key vs S L G = { S with G := G, qc := { S.qc with l := wrap64 (S.qc.l + 1) } } := fun G => by simp [laneS, laneQ, rollM, hM, hpc, isVal]
  rw [hM]
  have hn4 : w.cell? ⟨a, 4, none⟩ = some (mvL (fnL 3) a) := by rw [hE.rule 0 rfl 4, ← hnx]; rfl
  have hs5 : w.cell? ⟨a, 5, none⟩ = some (.int .i64 0) := hE.rule 0 rfl 5
  refine stepMv_l (fnL 3) (enters_fnL 3) _ _ hn4 hs5 ?_
  refine (loadOut_l hlv (S.f (5, L.C, 7 + lv)) rfl (wf_part hL.C (by omega)) (hE.sub (.cons_cons _ (.cons _ (.cons _ (List.Sublist.refl _)))))).mono ?_
  rintro o w1 ⟨rfl, b1, b2, hE1⟩
  refine ⟨0, rfl, rfl, S.G, ?_⟩
  rw [hS]
  exact ⟨cvL b1 b2, wd, _, _, fun _ => ⟨⟨fun h => absurd h (by simp [isVal]), fun _ => ⟨b1, b2, rfl, rfl, rfl⟩⟩, fun h => absurd h (by simp), fun h => absurd h (by simp)⟩, hE1⟩

set_option maxHeartbeats 1600000 in
theorem lane_6 (hpc : L.pc = 6) (hL : LmOk L) (hlv : 0 ≤ lv ∧ lv ≤ 1000000) (hwf : Wf L.p) (hg : Glo w0) (hm : S.m < maxLen) (h : LaneR w0 R a lv key vs S 0 L w) :
    Calls Tryz.prog 169 #[.pointer (some ⟨a, 0, none⟩), .iface 26 (.pointer (some ⟨S.p, 0, none⟩))] w fun o w' => o = .returned (.int .i64 (laneM lv key vs S.ce L S.f).1) ∧ ∃ G', LaneR w0 R a lv key vs (laneS lv key vs S L G') (laneM lv key vs S.ce L S.f).1 (laneM lv key vs S.ce L S.f).2.1 w' := by
  obtain ⟨nx, wd, B1, B2, hn, hE⟩ := h
  obtain ⟨⟨hnx, -⟩, -, -⟩ := hn rfl
  have hnx := hnx (by rw [hpc]; rfl)
  rw [hpc] at hnx
  have hV : L.V = 0 := hL.v (by omega)
  have hM : laneM lv key vs S.ce L S.f = (0, { L with K := S.f (5, L.C, 3), pc := 7 }, S.f) := by simp [laneM, hpc]
  have hS : ∀ G, laneS lv key vs S L G = { S with G := G, qc := { S.qc with l := wrap64 (S.qc.l + 1) } } := fun G => by simp [laneS, laneQ, rollM, hM, hpc, isVal]
  rw [hM]
  have hn4 : w.cell? ⟨a, 4, none⟩ = some (mvL (fnL 6) a) := by rw [hE.rule 0 rfl 4, ← hnx]; rfl
  have hs5 : w.cell? ⟨a, 5, none⟩ = some (.int .i64 0) := hE.rule 0 rfl 5
  refine stepMv_l (fnL 6) (enters_fnL 6) _ _ hn4 hs5 ?_
  refine (loadKey_l (S.f (5, L.C, 3)) rfl (wf_part hL.C (by omega)) (hE.sub (.cons_cons _ (.cons _ (.cons _ (List.Sublist.refl _)))))).mono ?_
  rintro o w1 ⟨rfl, b1, b2, hE1⟩
  refine ⟨0, rfl, rfl, S.G, ?_⟩
  rw [hS]
  exact ⟨cvL b1 b2, S.f (5, L.C, 3), _, _, fun _ => ⟨⟨fun h => absurd h (by simp [isVal]), fun _ => ⟨b1, b2, rfl, rfl, rfl⟩⟩, fun _ => rfl, fun h => absurd h (by simp)⟩, hE1⟩

set_option maxHeartbeats 1600000 in
theorem lane_8 (hpc : L.pc = 8) (hL : LmOk L) (hlv : 0 ≤ lv ∧ lv ≤ 1000000) (hwf : Wf L.p) (hg : Glo w0) (hm : S.m < maxLen) (h : LaneR w0 R a lv key vs S 0 L w) :
    Calls Tryz.prog 169 #[.pointer (some ⟨a, 0, none⟩), .iface 26 (.pointer (some ⟨S.p, 0, none⟩))] w fun o w' => o = .returned (.int .i64 (laneM lv key vs S.ce L S.f).1) ∧ ∃ G', LaneR w0 R a lv key vs (laneS lv key vs S L G') (laneM lv key vs S.ce L S.f).1 (laneM lv key vs S.ce L S.f).2.1 w' := by
  obtain ⟨nx, wd, B1, B2, hn, hE⟩ := h
  obtain ⟨⟨hnx, -⟩, -, -⟩ := hn rfl
  have hnx := hnx (by rw [hpc]; rfl)
  rw [hpc] at hnx
  have hV : L.V = 0 := hL.v (by omega)
  have hM : laneM lv key vs S.ce L S.f = (0, { L with V := S.f (5, L.C, 4), pc := 9 }, S.f) := by simp [laneM, hpc]
  have hS : ∀ G, laneS lv key vs S L G = { S with G := G, qc := { S.qc with l := wrap64 (S.qc.l + 1) } } := fun G => by simp [laneS, laneQ, rollM, hM, hpc, isVal]
  rw [hM]
  have hn4 : w.cell? ⟨a, 4, none⟩ = some (mvL (fnL 8) a) := by rw [hE.rule 0 rfl 4, ← hnx]; rfl
  have hs5 : w.cell? ⟨a, 5, none⟩ = some (.int .i64 0) := hE.rule 0 rfl 5
  refine stepMv_l (fnL 8) (enters_fnL 8) _ _ hn4 hs5 ?_
  refine (loadVal_l (S.f (5, L.C, 4)) rfl (wf_part hL.C (by omega)) (hE.sub (.cons_cons _ (.cons _ (.cons _ (List.Sublist.refl _)))))).mono ?_
  rintro o w1 ⟨rfl, b1, b2, hE1⟩
  refine ⟨0, rfl, rfl, S.G, ?_⟩
  rw [hS]
  exact ⟨cvL b1 b2, S.f (5, L.C, 4), _, _, fun _ => ⟨⟨fun h => absurd h (by simp [isVal]), fun _ => ⟨b1, b2, rfl, rfl, rfl⟩⟩, fun h => absurd h (by simp), fun _ => rfl⟩, hE1⟩

set_option maxHeartbeats 1600000 in
theorem lane_5 (hpc : L.pc = 5) (hL : LmOk L) (hlv : 0 ≤ lv ∧ lv ≤ 1000000) (hwf : Wf L.p) (hg : Glo w0) (hm : S.m < maxLen) (h : LaneR w0 R a lv key vs S 0 L w) :
    Calls Tryz.prog 169 #[.pointer (some ⟨a, 0, none⟩), .iface 26 (.pointer (some ⟨S.p, 0, none⟩))] w fun o w' => o = .returned (.int .i64 (laneM lv key vs S.ce L S.f).1) ∧ ∃ G', LaneR w0 R a lv key vs (laneS lv key vs S L G') (laneM lv key vs S.ce L S.f).1 (laneM lv key vs S.ce L S.f).2.1 w' := by
  obtain ⟨nx, wd, B1, B2, hn, hE⟩ := h
  obtain ⟨⟨hnx, -⟩, -, -⟩ := hn rfl
  have hnx := hnx (by rw [hpc]; rfl)
  rw [hpc] at hnx
  have hV : L.V = 0 := hL.v (by omega)
  have hfd : L.fd = false := hL.fd (by omega)
  have hn4 : w.cell? ⟨a, 4, none⟩ = some (mvL (fnL 5) a) := by rw [hE.rule 0 rfl 4, ← hnx]; rfl
  have hs5 : w.cell? ⟨a, 5, none⟩ = some (.int .i64 0) := hE.rule 0 rfl 5
  have hE0 : Env w0 (boxI a (laneC S.c lv key vs nx 0 L.p.1 L.p.2.1 L.p.2.2 L.W L.C L.X wd false 0) :: LT S R) w := (hE.sub (.cons_cons _ (.cons _ (.cons _ (List.Sublist.refl _)))))
  by_cases heq : S.f L.p = L.W
  · have hM : laneM lv key vs S.ce L S.f = (cS (wordI false (slotI L.X) S.ce), { L with W := wordI false (slotI L.X) S.ce, X := 0, C := slotI (wordI false (slotI L.X) S.ce), pc := 3 }, swf S.f L.p L.W (wordI false (slotI L.X) S.ce)) := by simp [laneM, hpc, heq, comeM_cS]
    have hS : ∀ G, laneS lv key vs S L G = { S with G := G, f := swf S.f L.p L.W (wordI false (slotI L.X) S.ce), qc := swq S.qc true, m := S.m + 1 } := fun G => by simp [laneS, laneQ, rollM, hM, hpc, isVal, heq]
    rw [hM]
    refine stepMv_l (fnL 5) (enters_fnL 5) _ _ hn4 hs5 ?_
    refine (cutYes_l heq hwf hL.X hg hm hE0).mono ?_
    rintro o w1 ⟨rfl, nx, G', hnx, hE1⟩
    refine ⟨_, rfl, rfl, G', ?_⟩
    rw [hS]
    exact LaneR.came rfl hfd hV hnx hE1.none2
  · have hM : laneM lv key vs S.ce L S.f = (2, L, swf S.f L.p L.W (wordI false (slotI L.X) S.ce)) := by simp [laneM, hpc, heq]
    have hS : ∀ G, laneS lv key vs S L G = { S with G := G, f := swf S.f L.p L.W (wordI false (slotI L.X) S.ce), qc := swq S.qc false, m := S.m + 1 } := fun G => by simp [laneS, laneQ, rollM, hM, hpc, isVal, heq]
    rw [hM]
    refine stepMv_l (fnL 5) (enters_fnL 5) _ _ hn4 hs5 ?_
    refine (cutNo_l heq hwf hL.X hg hm hE0).mono ?_
    rintro o w1 ⟨rfl, nx, G', hE1⟩
    refine ⟨_, rfl, rfl, G', ?_⟩
    rw [hS]
    exact ⟨nx, wd, noI, noI, fun h => absurd h (by simp), hE1.none2⟩

set_option maxHeartbeats 1600000 in
theorem lane_2 (hpc : L.pc = 2) (hL : LmOk L) (hlv : 0 ≤ lv ∧ lv ≤ 1000000) (hwf : Wf L.p) (hg : Glo w0) (hm : S.m < maxLen) (h : LaneR w0 R a lv key vs S 0 L w) :
    Calls Tryz.prog 169 #[.pointer (some ⟨a, 0, none⟩), .iface 26 (.pointer (some ⟨S.p, 0, none⟩))] w fun o w' => o = .returned (.int .i64 (laneM lv key vs S.ce L S.f).1) ∧ ∃ G', LaneR w0 R a lv key vs (laneS lv key vs S L G') (laneM lv key vs S.ce L S.f).1 (laneM lv key vs S.ce L S.f).2.1 w' := by
  obtain ⟨nx, wd, B1, B2, hn, hE⟩ := h
  obtain ⟨⟨-, hnx⟩, hw7, hw9⟩ := hn rfl
  obtain ⟨b1, b2, rfl, rfl, rfl⟩ := hnx (by rw [hpc]; rfl)
  rw [hpc] at hE hw7 hw9
  have hn4 : w.cell? ⟨a, 4, none⟩ = some (cvL b1 b2) := by rw [hE.rule 0 rfl 4]; rfl
  have hs5 : w.cell? ⟨a, 5, none⟩ = some (.int .i64 0) := hE.rule 0 rfl 5
  have hE0 : Env w0 (boxI a (laneC S.c lv key vs (cvL b1 b2) 0 L.p.1 L.p.2.1 L.p.2.2 L.W L.C L.X wd false 0) :: boxI b1 [.pointer (some ⟨a, 0, none⟩)] :: boxI b2 [mvL (bhL 2) a] :: LT S R) w := hE
  by_cases hok : okB (S.f (1, 0, 0)) S.ce = true
  · have hS : ∀ G, laneS lv key vs S L G = { S with G := G, qc := { S.qc with l := wrap64 (S.qc.l + 1) } } := fun G => by simp [laneS, laneQ, rollM, laneM, hpc, isVal, hok]
    refine stepCv_l b1 b2 _ _ hn4 hs5 ?_
    have hgo : ∀ (s : Int) (L' : Lm), laneM lv key vs S.ce L S.f = (s, L', S.f) → (∀ v, Env w0 (boxI a (laneC S.c lv key vs (cvL b1 b2) 0 L.p.1 L.p.2.1 L.p.2.2 L.W L.C L.X wd false 0) :: boxI b1 [.pointer (some ⟨a, 0, none⟩)] :: boxI b2 [mvL (bhL 2) a] :: LT { S with qc := { S.qc with l := wrap64 (S.qc.l + 1) } } R) v → Calls Tryz.prog (bhL 2) #[.pointer (some ⟨a, 0, none⟩)] v fun o w' => o = .returned (.int .i64 s) ∧ LaneR w0 R a lv key vs { S with qc := { S.qc with l := wrap64 (S.qc.l + 1) } } s L' w') →
        Calls Tryz.prog 293 #[.iface 26 (.pointer (some ⟨S.p, 0, none⟩)), .pointer (some ⟨b1, 0, none⟩), .pointer (some ⟨b2, 0, none⟩)] w fun e w' => ∃ s, e = .returned (.int .i64 s) ∧ ((.returned (.int .i64 s) : Ending) = .returned (.int .i64 (laneM lv key vs S.ce L S.f).1) ∧ ∃ G', LaneR w0 R a lv key vs (laneS lv key vs S L G') (laneM lv key vs S.ce L S.f).1 (laneM lv key vs S.ce L S.f).2.1 w') := fun s L' hM hc => by
      refine (val1Yes_l (bhL 2) (enters_bhL 2) hok hE0 s _ hc).mono ?_
      rintro o w1 ⟨rfl, hR⟩
      refine ⟨s, rfl, ?_, S.G, ?_⟩
      · rw [hM]
      · rw [hM, hS]
        exact hR
    clear hE hn
    have hV : L.V = 0 := hL.v (by omega)
    have hfd : L.fd = false := hL.fd (by omega)
    by_cases hmk : markB L.W = true
    · refine hgo 2 L (by simp [laneM, holdsM, hpc, hok, hmk]) fun v hv => ?_
      refine (intoMark_l hmk hL.W hg hv).mono ?_
      rintro o w1 ⟨rfl, nx, hE1⟩
      exact ⟨rfl, nx, wd, _, _, fun h => absurd h (by simp), hE1⟩
    · have hmk : markB L.W = false := by simpa using hmk
      refine hgo (cS L.W) { L with W := L.W, X := 0, C := slotI L.W, pc := 3 } (by simp [laneM, holdsM, hpc, hok, hmk, comeM_cS]) fun v hv => ?_
      refine (intoCome_l hmk hL.W hg hv).mono ?_
      rintro o w1 ⟨rfl, nx, hnx, hE1⟩
      exact ⟨rfl, LaneR.came rfl hfd hV hnx hE1⟩
  · have hok : okB (S.f (1, 0, 0)) S.ce = false := by simpa using hok
    have hM : laneM lv key vs S.ce L S.f = (2, L, S.f) := by simp [laneM, hpc, hok]
    have hS : ∀ G, laneS lv key vs S L G = { S with G := G, qc := { S.qc with l := wrap64 (S.qc.l + 1) }, cr := wrap64 (S.cr + 1) } := fun G => by simp [laneS, laneQ, rollM, hM, hpc, isVal, hok]
    rw [hM]
    refine stepCv_l b1 b2 _ _ hn4 hs5 ?_
    refine (val1No_l _ hok hE0).mono ?_
    rintro o w1 ⟨rfl, nx, hE1⟩
    refine ⟨2, rfl, rfl, S.G, ?_⟩
    rw [hS]
    exact ⟨nx, wd, _, _, fun h => absurd h (by simp), hE1⟩

set_option maxHeartbeats 1600000 in
theorem lane_4 (hpc : L.pc = 4) (hL : LmOk L) (hlv : 0 ≤ lv ∧ lv ≤ 1000000) (hwf : Wf L.p) (hg : Glo w0) (hm : S.m < maxLen) (h : LaneR w0 R a lv key vs S 0 L w) :
    Calls Tryz.prog 169 #[.pointer (some ⟨a, 0, none⟩), .iface 26 (.pointer (some ⟨S.p, 0, none⟩))] w fun o w' => o = .returned (.int .i64 (laneM lv key vs S.ce L S.f).1) ∧ ∃ G', LaneR w0 R a lv key vs (laneS lv key vs S L G') (laneM lv key vs S.ce L S.f).1 (laneM lv key vs S.ce L S.f).2.1 w' := by
  obtain ⟨nx, wd, B1, B2, hn, hE⟩ := h
  obtain ⟨⟨-, hnx⟩, hw7, hw9⟩ := hn rfl
  obtain ⟨b1, b2, rfl, rfl, rfl⟩ := hnx (by rw [hpc]; rfl)
  rw [hpc] at hE hw7 hw9
  have hn4 : w.cell? ⟨a, 4, none⟩ = some (cvL b1 b2) := by rw [hE.rule 0 rfl 4]; rfl
  have hs5 : w.cell? ⟨a, 5, none⟩ = some (.int .i64 0) := hE.rule 0 rfl 5
  have hE0 : Env w0 (boxI a (laneC S.c lv key vs (cvL b1 b2) 0 L.p.1 L.p.2.1 L.p.2.2 L.W L.C L.X wd false 0) :: boxI b1 [.pointer (some ⟨a, 0, none⟩)] :: boxI b2 [mvL (bhL 4) a] :: LT S R) w := hE
  by_cases hok : okB (S.f (1, 0, 0)) S.ce = true
  · have hS : ∀ G, laneS lv key vs S L G = { S with G := G, qc := { S.qc with l := wrap64 (S.qc.l + 1) } } := fun G => by simp [laneS, laneQ, rollM, laneM, hpc, isVal, hok]
    refine stepCv_l b1 b2 _ _ hn4 hs5 ?_
    have hgo : ∀ (s : Int) (L' : Lm), laneM lv key vs S.ce L S.f = (s, L', S.f) → (∀ v, Env w0 (boxI a (laneC S.c lv key vs (cvL b1 b2) 0 L.p.1 L.p.2.1 L.p.2.2 L.W L.C L.X wd false 0) :: boxI b1 [.pointer (some ⟨a, 0, none⟩)] :: boxI b2 [mvL (bhL 4) a] :: LT { S with qc := { S.qc with l := wrap64 (S.qc.l + 1) } } R) v → Calls Tryz.prog (bhL 4) #[.pointer (some ⟨a, 0, none⟩)] v fun o w' => o = .returned (.int .i64 s) ∧ LaneR w0 R a lv key vs { S with qc := { S.qc with l := wrap64 (S.qc.l + 1) } } s L' w') →
        Calls Tryz.prog 293 #[.iface 26 (.pointer (some ⟨S.p, 0, none⟩)), .pointer (some ⟨b1, 0, none⟩), .pointer (some ⟨b2, 0, none⟩)] w fun e w' => ∃ s, e = .returned (.int .i64 s) ∧ ((.returned (.int .i64 s) : Ending) = .returned (.int .i64 (laneM lv key vs S.ce L S.f).1) ∧ ∃ G', LaneR w0 R a lv key vs (laneS lv key vs S L G') (laneM lv key vs S.ce L S.f).1 (laneM lv key vs S.ce L S.f).2.1 w') := fun s L' hM hc => by
      refine (val1Yes_l (bhL 4) (enters_bhL 4) hok hE0 s _ hc).mono ?_
      rintro o w1 ⟨rfl, hR⟩
      refine ⟨s, rfl, ?_, S.G, ?_⟩
      · rw [hM]
      · rw [hM, hS]
        exact hR
    clear hE hn
    refine hgo 0 { L with pc := if markB L.X then 5 else 6 } (by simp [laneM, holdsM, hpc, hok]) fun v hv => ?_
    refine (out_l hL.X hg hv).mono ?_
    rintro o w1 ⟨rfl, hE1⟩
    cases hmk : markB L.X
    · rw [hmk] at hE1
      exact ⟨rfl, _, wd, _, _, fun _ => ⟨⟨fun _ => rfl, fun h => absurd h (by simp [isVal])⟩, fun h => absurd h (by simp), fun h => absurd h (by simp)⟩, hE1⟩
    · rw [hmk] at hE1
      exact ⟨rfl, _, wd, _, _, fun _ => ⟨⟨fun _ => rfl, fun h => absurd h (by simp [isVal])⟩, fun h => absurd h (by simp), fun h => absurd h (by simp)⟩, hE1⟩
  · have hok : okB (S.f (1, 0, 0)) S.ce = false := by simpa using hok
    have hM : laneM lv key vs S.ce L S.f = (2, L, S.f) := by simp [laneM, hpc, hok]
    have hS : ∀ G, laneS lv key vs S L G = { S with G := G, qc := { S.qc with l := wrap64 (S.qc.l + 1) }, cr := wrap64 (S.cr + 1) } := fun G => by simp [laneS, laneQ, rollM, hM, hpc, isVal, hok]
    rw [hM]
    refine stepCv_l b1 b2 _ _ hn4 hs5 ?_
    refine (val1No_l _ hok hE0).mono ?_
    rintro o w1 ⟨rfl, nx, hE1⟩
    refine ⟨2, rfl, rfl, S.G, ?_⟩
    rw [hS]
    exact ⟨nx, wd, _, _, fun h => absurd h (by simp), hE1⟩

set_option maxHeartbeats 1600000 in
theorem lane_7 (hpc : L.pc = 7) (hL : LmOk L) (hlv : 0 ≤ lv ∧ lv ≤ 1000000) (hwf : Wf L.p) (hg : Glo w0) (hm : S.m < maxLen) (h : LaneR w0 R a lv key vs S 0 L w) :
    Calls Tryz.prog 169 #[.pointer (some ⟨a, 0, none⟩), .iface 26 (.pointer (some ⟨S.p, 0, none⟩))] w fun o w' => o = .returned (.int .i64 (laneM lv key vs S.ce L S.f).1) ∧ ∃ G', LaneR w0 R a lv key vs (laneS lv key vs S L G') (laneM lv key vs S.ce L S.f).1 (laneM lv key vs S.ce L S.f).2.1 w' := by
  obtain ⟨nx, wd, B1, B2, hn, hE⟩ := h
  obtain ⟨⟨-, hnx⟩, hw7, hw9⟩ := hn rfl
  obtain ⟨b1, b2, rfl, rfl, rfl⟩ := hnx (by rw [hpc]; rfl)
  rw [hpc] at hE hw7 hw9
  have hn4 : w.cell? ⟨a, 4, none⟩ = some (cvL b1 b2) := by rw [hE.rule 0 rfl 4]; rfl
  have hs5 : w.cell? ⟨a, 5, none⟩ = some (.int .i64 0) := hE.rule 0 rfl 5
  have hE0 : Env w0 (boxI a (laneC S.c lv key vs (cvL b1 b2) 0 L.p.1 L.p.2.1 L.p.2.2 L.W L.C L.X wd false 0) :: boxI b1 [.pointer (some ⟨a, 0, none⟩)] :: boxI b2 [mvL (bhL 7) a] :: LT S R) w := hE
  by_cases hok : okB (S.f (1, 0, 0)) S.ce = true
  · have hS : ∀ G, laneS lv key vs S L G = { S with G := G, qc := { S.qc with l := wrap64 (S.qc.l + 1) } } := fun G => by simp [laneS, laneQ, rollM, laneM, hpc, isVal, hok]
    refine stepCv_l b1 b2 _ _ hn4 hs5 ?_
    have hgo : ∀ (s : Int) (L' : Lm), laneM lv key vs S.ce L S.f = (s, L', S.f) → (∀ v, Env w0 (boxI a (laneC S.c lv key vs (cvL b1 b2) 0 L.p.1 L.p.2.1 L.p.2.2 L.W L.C L.X wd false 0) :: boxI b1 [.pointer (some ⟨a, 0, none⟩)] :: boxI b2 [mvL (bhL 7) a] :: LT { S with qc := { S.qc with l := wrap64 (S.qc.l + 1) } } R) v → Calls Tryz.prog (bhL 7) #[.pointer (some ⟨a, 0, none⟩)] v fun o w' => o = .returned (.int .i64 s) ∧ LaneR w0 R a lv key vs { S with qc := { S.qc with l := wrap64 (S.qc.l + 1) } } s L' w') →
        Calls Tryz.prog 293 #[.iface 26 (.pointer (some ⟨S.p, 0, none⟩)), .pointer (some ⟨b1, 0, none⟩), .pointer (some ⟨b2, 0, none⟩)] w fun e w' => ∃ s, e = .returned (.int .i64 s) ∧ ((.returned (.int .i64 s) : Ending) = .returned (.int .i64 (laneM lv key vs S.ce L S.f).1) ∧ ∃ G', LaneR w0 R a lv key vs (laneS lv key vs S L G') (laneM lv key vs S.ce L S.f).1 (laneM lv key vs S.ce L S.f).2.1 w') := fun s L' hM hc => by
      refine (val1Yes_l (bhL 7) (enters_bhL 7) hok hE0 s _ hc).mono ?_
      rintro o w1 ⟨rfl, hR⟩
      refine ⟨s, rfl, ?_, S.G, ?_⟩
      · rw [hM]
      · rw [hM, hS]
        exact hR
    clear hE hn
    have hV : L.V = 0 := hL.v (by omega)
    have hfd : L.fd = false := hL.fd (by omega)
    have hwd : wd = L.K := hw7 rfl
    subst hwd
    by_cases hlt : L.K < key
    · refine hgo (cS L.X) { L with p := (5, L.C, 7 + lv), W := L.X, X := 0, C := slotI L.X, pc := 3 } (by simp [laneM, holdsM, hpc, hok, hlt, comeM_cS]) fun v hv => ?_
      refine (keyLess_l hlt hlv hL.X hg hv).mono ?_
      rintro o w1 ⟨rfl, nx, hnx, hE1⟩
      exact ⟨rfl, LaneR.came (L := { L with p := (5, L.C, 7 + lv) }) rfl hfd hV hnx hE1⟩
    · by_cases heq : L.K = key
      · cases vs
        · refine hgo 1 { L with fd := true } (by simp [laneM, holdsM, hpc, hok, heq]) fun v hv => ?_
          refine (keyFound_l heq hv).mono ?_
          rintro o w1 ⟨rfl, nx, hE1⟩
          have h2 : pvS 1 { L with fd := true } = 0 := hV
          refine ⟨rfl, nx, L.K, boxI b1 [.pointer (some ⟨a, 0, none⟩)], boxI b2 [mvL (bhL 7) a], fun h => absurd h (by simp), ?_⟩
          rw [h2]
          exact hE1
        · refine hgo 0 { L with fd := true, pc := 8 } (by simp [laneM, holdsM, hpc, hok, heq]) fun v hv => ?_
          refine (keyVal_l heq hv).mono ?_
          rintro o w1 ⟨rfl, hE1⟩
          exact ⟨rfl, _, L.K, _, _, fun _ => ⟨⟨fun _ => rfl, fun h => absurd h (by simp [isVal])⟩, fun h => absurd h (by simp), fun h => absurd h (by simp)⟩, hE1⟩
      · refine hgo 1 L (by simp [laneM, holdsM, hpc, hok, hlt, heq]) fun v hv => ?_
        refine (keyMore_l (by omega) hv).mono ?_
        rintro o w1 ⟨rfl, nx, hE1⟩
        have h1 : pfS 1 L = false := hfd
        have h2 : pvS 1 L = 0 := hV
        refine ⟨rfl, nx, L.K, boxI b1 [.pointer (some ⟨a, 0, none⟩)], boxI b2 [mvL (bhL 7) a], fun h => absurd h (by simp), ?_⟩
        rw [h1, h2]
        exact hE1
  · have hok : okB (S.f (1, 0, 0)) S.ce = false := by simpa using hok
    have hM : laneM lv key vs S.ce L S.f = (2, L, S.f) := by simp [laneM, hpc, hok]
    have hS : ∀ G, laneS lv key vs S L G = { S with G := G, qc := { S.qc with l := wrap64 (S.qc.l + 1) }, cr := wrap64 (S.cr + 1) } := fun G => by simp [laneS, laneQ, rollM, hM, hpc, isVal, hok]
    rw [hM]
    refine stepCv_l b1 b2 _ _ hn4 hs5 ?_
    refine (val1No_l _ hok hE0).mono ?_
    rintro o w1 ⟨rfl, nx, hE1⟩
    refine ⟨2, rfl, rfl, S.G, ?_⟩
    rw [hS]
    exact ⟨nx, wd, _, _, fun h => absurd h (by simp), hE1⟩

set_option maxHeartbeats 1600000 in
theorem lane_9 (hpc : L.pc = 9) (hL : LmOk L) (hlv : 0 ≤ lv ∧ lv ≤ 1000000) (hwf : Wf L.p) (hg : Glo w0) (hm : S.m < maxLen) (h : LaneR w0 R a lv key vs S 0 L w) :
    Calls Tryz.prog 169 #[.pointer (some ⟨a, 0, none⟩), .iface 26 (.pointer (some ⟨S.p, 0, none⟩))] w fun o w' => o = .returned (.int .i64 (laneM lv key vs S.ce L S.f).1) ∧ ∃ G', LaneR w0 R a lv key vs (laneS lv key vs S L G') (laneM lv key vs S.ce L S.f).1 (laneM lv key vs S.ce L S.f).2.1 w' := by
  obtain ⟨nx, wd, B1, B2, hn, hE⟩ := h
  obtain ⟨⟨-, hnx⟩, hw7, hw9⟩ := hn rfl
  obtain ⟨b1, b2, rfl, rfl, rfl⟩ := hnx (by rw [hpc]; rfl)
  rw [hpc] at hE hw7 hw9
  have hn4 : w.cell? ⟨a, 4, none⟩ = some (cvL b1 b2) := by rw [hE.rule 0 rfl 4]; rfl
  have hs5 : w.cell? ⟨a, 5, none⟩ = some (.int .i64 0) := hE.rule 0 rfl 5
  have hE0 : Env w0 (boxI a (laneC S.c lv key vs (cvL b1 b2) 0 L.p.1 L.p.2.1 L.p.2.2 L.W L.C L.X wd false 0) :: boxI b1 [.pointer (some ⟨a, 0, none⟩)] :: boxI b2 [mvL (bhL 9) a] :: LT S R) w := hE
  by_cases hok : okB (S.f (1, 0, 0)) S.ce = true
  · have hS : ∀ G, laneS lv key vs S L G = { S with G := G, qc := { S.qc with l := wrap64 (S.qc.l + 1) } } := fun G => by simp [laneS, laneQ, rollM, laneM, hpc, isVal, hok]
    refine stepCv_l b1 b2 _ _ hn4 hs5 ?_
    have hgo : ∀ (s : Int) (L' : Lm), laneM lv key vs S.ce L S.f = (s, L', S.f) → (∀ v, Env w0 (boxI a (laneC S.c lv key vs (cvL b1 b2) 0 L.p.1 L.p.2.1 L.p.2.2 L.W L.C L.X wd false 0) :: boxI b1 [.pointer (some ⟨a, 0, none⟩)] :: boxI b2 [mvL (bhL 9) a] :: LT { S with qc := { S.qc with l := wrap64 (S.qc.l + 1) } } R) v → Calls Tryz.prog (bhL 9) #[.pointer (some ⟨a, 0, none⟩)] v fun o w' => o = .returned (.int .i64 s) ∧ LaneR w0 R a lv key vs { S with qc := { S.qc with l := wrap64 (S.qc.l + 1) } } s L' w') →
        Calls Tryz.prog 293 #[.iface 26 (.pointer (some ⟨S.p, 0, none⟩)), .pointer (some ⟨b1, 0, none⟩), .pointer (some ⟨b2, 0, none⟩)] w fun e w' => ∃ s, e = .returned (.int .i64 s) ∧ ((.returned (.int .i64 s) : Ending) = .returned (.int .i64 (laneM lv key vs S.ce L S.f).1) ∧ ∃ G', LaneR w0 R a lv key vs (laneS lv key vs S L G') (laneM lv key vs S.ce L S.f).1 (laneM lv key vs S.ce L S.f).2.1 w') := fun s L' hM hc => by
      refine (val1Yes_l (bhL 9) (enters_bhL 9) hok hE0 s _ hc).mono ?_
      rintro o w1 ⟨rfl, hR⟩
      refine ⟨s, rfl, ?_, S.G, ?_⟩
      · rw [hM]
      · rw [hM, hS]
        exact hR
    clear hE hn
    have hft : L.fd = true := hL.ft (by omega)
    have hwd : wd = L.V := hw9 rfl
    subst hwd
    refine hgo 1 L (by simp [laneM, holdsM, hpc, hok]) fun v hv => ?_
    refine (val_l hv).mono ?_
    rintro o w1 ⟨rfl, nx, hE1⟩
    have h1 : pfS 1 L = true := hft
    refine ⟨rfl, nx, L.V, boxI b1 [.pointer (some ⟨a, 0, none⟩)], boxI b2 [mvL (bhL 9) a], fun h => absurd h (by simp), ?_⟩
    rw [h1]
    exact hE1
  · have hok : okB (S.f (1, 0, 0)) S.ce = false := by simpa using hok
    have hM : laneM lv key vs S.ce L S.f = (2, L, S.f) := by simp [laneM, hpc, hok]
    have hS : ∀ G, laneS lv key vs S L G = { S with G := G, qc := { S.qc with l := wrap64 (S.qc.l + 1) }, cr := wrap64 (S.cr + 1) } := fun G => by simp [laneS, laneQ, rollM, hM, hpc, isVal, hok]
    rw [hM]
    refine stepCv_l b1 b2 _ _ hn4 hs5 ?_
    refine (val1No_l _ hok hE0).mono ?_
    rintro o w1 ⟨rfl, nx, hE1⟩
    refine ⟨2, rfl, rfl, S.G, ?_⟩
    rw [hS]
    exact ⟨nx, wd, _, _, fun h => absurd h (by simp), hE1⟩

theorem lane_l (hL : LmOk L) (hlv : 0 ≤ lv ∧ lv ≤ 1000000) (hwf : Wf L.p) (hg : Glo w0) (hm : S.m < maxLen) (h : LaneR w0 R a lv key vs S 0 L w) :
    Calls Tryz.prog 169 #[.pointer (some ⟨a, 0, none⟩), .iface 26 (.pointer (some ⟨S.p, 0, none⟩))] w fun o w' => o = .returned (.int .i64 (laneM lv key vs S.ce L S.f).1) ∧ ∃ G', LaneR w0 R a lv key vs (laneS lv key vs S L G') (laneM lv key vs S.ce L S.f).1 (laneM lv key vs S.ce L S.f).2.1 w' := by
  rcases hL.pc with h0 | h0 | h0 | h0 | h0 | h0 | h0 | h0 | h0
  · exact lane_0 h0 hL hlv hwf hg hm h
  · exact lane_2 h0 hL hlv hwf hg hm h
  · exact lane_3 h0 hL hlv hwf hg hm h
  · exact lane_4 h0 hL hlv hwf hg hm h
  · exact lane_5 h0 hL hlv hwf hg hm h
  · exact lane_6 h0 hL hlv hwf hg hm h
  · exact lane_7 h0 hL hlv hwf hg hm h
  · exact lane_8 h0 hL hlv hwf hg hm h
  · exact lane_9 h0 hL hlv hwf hg hm h
end
end Go.Proofs.YtdknbegcflldjaaGreatDoor

/- Lanes: what a lane keeps. -/
namespace Go.Proofs.YtdknbegcflldjaaGreatDoor
open Go.RowKit Go.Maps
set_option maxRecDepth 100000

def St3 {α : Type} (q : Int × α) : Prop := q.1 = 0 ∨ q.1 = 1 ∨ q.1 = 2
theorem come_state (L : Lm) (v : Int) : St3 (comeM L v) := by
  unfold comeM
  by_cases h : slotI v = 0
  · simp [h, St3]
  · simp [h, St3]
theorem holds_state (lv key : Int) (vs : Bool) (L : Lm) : St3 (holdsM lv key vs L) := by
  unfold holdsM
  repeat' split
  all_goals first | exact come_state _ _ | simp [St3]
theorem lane_state (lv key : Int) (vs : Bool) (e : Int) (L : Lm) (f : Plc → Int) : (laneM lv key vs e L f).1 = 0 ∨ (laneM lv key vs e L f).1 = 1 ∨ (laneM lv key vs e L f).1 = 2 := by
  show St3 (laneM lv key vs e L f)
  unfold laneM
  repeat' split
  all_goals first | exact come_state L (wordI false (slotI L.X) e) | exact holds_state lv key vs L | simp [St3]
theorem cS_zero {v : Int} (h : cS v = 0) : slotI v ≠ 0 := fun h0 => by rw [cS, if_pos h0] at h; exact absurd h (by decide)
theorem LmOk.come {L : Lm} (hL : LmOk L) (h7 : L.pc ≤ 7) (v : Int) (hv : InU v) : LmOk { L with W := v, X := 0, C := slotI v, pc := 3 } :=
  ⟨by simp, fun _ => hL.v (by omega), fun _ => hL.fd h7, fun h => absurd h (by simp), fun _ => rfl, fun h => absurd h (by simp), hv, by simp [InU], slotI_in v⟩
/-- What a lane keeps, as long as it goes on. -/
theorem lane_ok {lv key : Int} {vs : Bool} {e : Int} {L : Lm} {f : Plc → Int} (hL : LmOk L) (hW : ∀ x, InU (f x)) (hp : Wf L.p) (hlv : 0 ≤ lv ∧ lv ≤ 1000000) (h0 : (laneM lv key vs e L f).1 = 0) : LmOk (laneM lv key vs e L f).2.1 ∧ Wf (laneM lv key vs e L f).2.1.p := by
  have hpc9 : L.pc ≤ 9 := by rcases hL.pc with h | h | h | h | h | h | h | h | h <;> omega
  rcases hL.pc with hpc | hpc | hpc | hpc | hpc | hpc | hpc | hpc | hpc
  · have hM : laneM lv key vs e L f = (0, { L with W := f L.p, pc := 2 }, f) := by simp [laneM, hpc]
    rw [hM]
    exact ⟨⟨by simp, fun _ => hL.v (by omega), fun _ => hL.fd (by omega), fun h => absurd h (by simp), fun _ => hL.x (by omega), fun _ => hL.c0 (by omega), hW _, hL.X, hL.C⟩, hp⟩
  · by_cases hok : okB (f (1, 0, 0)) e = true
    · by_cases hmk : markB L.W = true
      · have hM : laneM lv key vs e L f = (2, L, f) := by simp [laneM, holdsM, hpc, hok, hmk]
        rw [hM] at h0
        exact absurd h0 (by simp)
      · have hM : laneM lv key vs e L f = (cS L.W, { L with W := L.W, X := 0, C := slotI L.W, pc := 3 }, f) := by simp [laneM, holdsM, hpc, hok, hmk, comeM_cS]
        rw [hM]
        exact ⟨hL.come (by omega) _ hL.W, hp⟩
    · have hM : laneM lv key vs e L f = (2, L, f) := by simp [laneM, hpc, hok]
      rw [hM] at h0
      exact absurd h0 (by simp)
  · have hM : laneM lv key vs e L f = (0, { L with X := f (5, L.C, 7 + lv), pc := 4 }, f) := by simp [laneM, hpc]
    rw [hM]
    exact ⟨⟨by simp, fun _ => hL.v (by omega), fun _ => hL.fd (by omega), fun h => absurd h (by simp), fun h => absurd h (by simp), fun h => absurd h (by simp), hL.W, hW _, hL.C⟩, hp⟩
  · by_cases hok : okB (f (1, 0, 0)) e = true
    · have hM : laneM lv key vs e L f = (0, { L with pc := if markB L.X then 5 else 6 }, f) := by simp [laneM, holdsM, hpc, hok]
      rw [hM]
      cases markB L.X
      · exact ⟨⟨by simp, fun _ => hL.v (by omega), fun _ => hL.fd (by omega), fun h => absurd h (by simp), fun h => absurd h (by simp), fun h => absurd h (by simp), hL.W, hL.X, hL.C⟩, hp⟩
      · exact ⟨⟨by simp, fun _ => hL.v (by omega), fun _ => hL.fd (by omega), fun h => absurd h (by simp), fun h => absurd h (by simp), fun h => absurd h (by simp), hL.W, hL.X, hL.C⟩, hp⟩
    · have hM : laneM lv key vs e L f = (2, L, f) := by simp [laneM, hpc, hok]
      rw [hM] at h0
      exact absurd h0 (by simp)
  · by_cases heq : f L.p = L.W
    · have hM : laneM lv key vs e L f = (cS (wordI false (slotI L.X) e), { L with W := wordI false (slotI L.X) e, X := 0, C := slotI (wordI false (slotI L.X) e), pc := 3 }, swf f L.p L.W (wordI false (slotI L.X) e)) := by simp [laneM, hpc, heq, comeM_cS]
      rw [hM]
      exact ⟨hL.come (by omega) _ (wordI_in _ _ _), hp⟩
    · have hM : laneM lv key vs e L f = (2, L, swf f L.p L.W (wordI false (slotI L.X) e)) := by simp [laneM, hpc, heq]
      rw [hM] at h0
      exact absurd h0 (by simp)
  · have hM : laneM lv key vs e L f = (0, { L with K := f (5, L.C, 3), pc := 7 }, f) := by simp [laneM, hpc]
    rw [hM]
    exact ⟨⟨by simp, fun _ => hL.v (by omega), fun _ => hL.fd (by omega), fun h => absurd h (by simp), fun h => absurd h (by simp), fun h => absurd h (by simp), hL.W, hL.X, hL.C⟩, hp⟩
  · by_cases hok : okB (f (1, 0, 0)) e = true
    · by_cases hlt : L.K < key
      · have hM : laneM lv key vs e L f = (cS L.X, { L with p := (5, L.C, 7 + lv), W := L.X, X := 0, C := slotI L.X, pc := 3 }, f) := by simp [laneM, holdsM, hpc, hok, hlt, comeM_cS]
        rw [hM]
        have hLp : LmOk { L with p := (5, L.C, 7 + lv) } := ⟨hL.pc, hL.v, hL.fd, hL.ft, hL.x, hL.c0, hL.W, hL.X, hL.C⟩
        exact ⟨hLp.come (by show L.pc ≤ 7; omega) _ hL.X, wf_part hL.C (by omega)⟩
      · by_cases heq : L.K = key
        · cases vs
          · have hM : laneM lv key false e L f = (1, { L with fd := true }, f) := by simp [laneM, holdsM, hpc, hok, heq]
            rw [hM] at h0
            exact absurd h0 (by simp)
          · have hM : laneM lv key true e L f = (0, { L with fd := true, pc := 8 }, f) := by simp [laneM, holdsM, hpc, hok, heq]
            rw [hM]
            exact ⟨⟨by simp, fun _ => hL.v (by omega), fun h => absurd h (by simp), fun _ => rfl, fun h => absurd h (by simp), fun h => absurd h (by simp), hL.W, hL.X, hL.C⟩, hp⟩
        · have hM : laneM lv key vs e L f = (1, L, f) := by simp [laneM, holdsM, hpc, hok, hlt, heq]
          rw [hM] at h0
          exact absurd h0 (by simp)
    · have hM : laneM lv key vs e L f = (2, L, f) := by simp [laneM, hpc, hok]
      rw [hM] at h0
      exact absurd h0 (by simp)
  · have hM : laneM lv key vs e L f = (0, { L with V := f (5, L.C, 4), pc := 9 }, f) := by simp [laneM, hpc]
    rw [hM]
    exact ⟨⟨by simp, fun h => absurd h (by simp), fun h => absurd h (by simp), fun _ => hL.ft (by omega), fun h => absurd h (by simp), fun h => absurd h (by simp), hL.W, hL.X, hL.C⟩, hp⟩
  · by_cases hok : okB (f (1, 0, 0)) e = true
    · have hM : laneM lv key vs e L f = (1, L, f) := by simp [laneM, holdsM, hpc, hok]
      rw [hM] at h0
      exact absurd h0 (by simp)
    · have hM : laneM lv key vs e L f = (2, L, f) := by simp [laneM, hpc, hok]
      rw [hM] at h0
      exact absurd h0 (by simp)

end Go.Proofs.YtdknbegcflldjaaGreatDoor

/- Lanes and searches: New, NewSearch, what they tell; the checkpoint; Step of a search over the model. -/
namespace Go.Proofs.YtdknbegcflldjaaGreatDoor
open Go.RowKit Go.Maps
set_option maxRecDepth 100000

section
variable {w0 w : World} {L : List Item}
set_option maxHeartbeats 1600000 in
theorem new_l (c : Nat) (x y z lv key : Int) (vs : Bool) (hE : Env w0 L w) :
    Calls Tryz.prog 202 #[.pointer (some ⟨c, 0, none⟩), .agg #[.int .i64 x, .int .i64 y, .int .i64 z, .int .i64 0], .int .i64 lv, .int .u64 key, .bool vs] w fun o w' => ∃ a, o = .returned (.pointer (some ⟨a, 0, none⟩)) ∧ Env w0 (boxI a (laneC c lv key vs (mvL 242 a) 0 x y z 0 0 0 0 false 0) :: L) w' := by
  have hmf := makeF
  have hE1 := hE.box w.heap.size rfl [.int .i64 x, .int .i64 y, .int .i64 z, .int .i64 0] 185
  have r0 := hE1.rule 0 rfl
  have hE2 := hE1.box (w.heap.size + 1) (by simp) (laneC c lv key vs .nilFunc 0 x y z 0 0 0 0 false 0) 263
  have HGO := Lib.hid (goOn_l 0 (.func 242) #[.pointer (some ⟨w.heap.size + 1, 0, none⟩)] #[] (by simp [laneC]) hE2 rfl)
  clear hE hE1 hE2
  go_enter Tryz.func202, Tryz.ntmps202
  go_wp2_with fail
  refine HGO.out.mono ?_
  rintro o w1 ⟨rfl, hE3⟩
  go_wp2_with fail
  go_ret
  exact ⟨_, rfl, hE3.sub (.cons_cons _ (.cons _ (List.Sublist.refl _)))⟩
theorem newNil_l (x y z d lv key : Int) (vs : Bool) (w : World) :
    Calls Tryz.prog 202 #[.pointer none, .agg #[.int .i64 x, .int .i64 y, .int .i64 z, .int .i64 d], .int .i64 lv, .int .u64 key, .bool vs] w fun o w' => o = .returned (.pointer none) ∧ Below w.heap.size w w' := by
  go_enter Tryz.func202, Tryz.ntmps202
  go_wp2
  go_ret
  exact ⟨rfl, (Below.refl _ _).alloc (Nat.le_refl _) _⟩
end

section
variable {w : World} {a c : Nat} {lv key : Int} {vs : Bool} {nx : Value} {st x y z W C X wd : Int} {pf : Bool} {pv : Int}
theorem found_g (hb : Blk 0 w a (laneC c lv key vs nx st x y z W C X wd pf pv)) : Calls Tryz.prog 171 #[.pointer (some ⟨a, 0, none⟩)] w fun o w' => o = .returned (.bool pf) ∧ w' = w := by
  have r1 := hb.rule
  unfold laneC at r1
  go_enter Tryz.func171, Tryz.ntmps171
  go_wp2
  go_ret
  exact ⟨rfl, rfl⟩
set_option maxHeartbeats 800000 in
theorem who_g (hb : Blk 0 w a (laneC c lv key vs nx st x y z W C X wd pf pv)) : Calls Tryz.prog 256 #[.pointer (some ⟨a, 0, none⟩)] w fun o w' => o = .returned (.agg #[.int .i64 C, .int .i64 0]) ∧ Below w.heap.size w w' := by
  have r1 := cell_more hb.1 hb.rule
  unfold laneC at r1
  go_enter Tryz.func256, Tryz.ntmps256
  go_wp2
  exact bodyPost_ret (v := .agg #[.int .i64 C, .int .i64 0]) (by simp [results, Tryz.results256, go_sem]) rfl ⟨rfl, (Below.refl _ _).alloc (Nat.le_refl _) _⟩
set_option maxHeartbeats 800000 in
theorem at_g (hb : Blk 0 w a (laneC c lv key vs nx st x y z W C X wd pf pv)) : Calls Tryz.prog 274 #[.pointer (some ⟨a, 0, none⟩)] w fun o w' => o = .returned (.agg #[.int .i64 x, .int .i64 y, .int .i64 z, .int .i64 0]) ∧ Below w.heap.size w w' := by
  have r1 := cell_more hb.1 hb.rule
  unfold laneC at r1
  go_enter Tryz.func274, Tryz.ntmps274
  go_wp2
  exact bodyPost_ret (v := .agg #[.int .i64 x, .int .i64 y, .int .i64 z, .int .i64 0]) (by simp [results, Tryz.results274, go_sem]) rfl ⟨rfl, (Below.refl _ _).alloc (Nat.le_refl _) _⟩
set_option maxHeartbeats 800000 in
theorem into_g (hb : Blk 0 w a (laneC c lv key vs nx st x y z W C X wd pf pv)) : Calls Tryz.prog 275 #[.pointer (some ⟨a, 0, none⟩)] w fun o w' => o = .returned (.agg #[.int .u64 W, .int .i64 0, .bool false]) ∧ Below w.heap.size w w' := by
  have r1 := cell_more hb.1 hb.rule
  unfold laneC at r1
  go_enter Tryz.func275, Tryz.ntmps275
  go_wp2
  exact bodyPost_ret (v := .agg #[.int .u64 W, .int .i64 0, .bool false]) (by simp [results, Tryz.results275, go_sem]) rfl ⟨rfl, (Below.refl _ _).alloc (Nat.le_refl _) _⟩
set_option maxHeartbeats 800000 in
theorem out_g (hb : Blk 0 w a (laneC c lv key vs nx st x y z W C X wd pf pv)) : Calls Tryz.prog 206 #[.pointer (some ⟨a, 0, none⟩)] w fun o w' => o = .returned (.agg #[.int .u64 X, .int .i64 0, .bool false]) ∧ Below w.heap.size w w' := by
  have r1 := cell_more hb.1 hb.rule
  unfold laneC at r1
  go_enter Tryz.func206, Tryz.ntmps206
  go_wp2
  exact bodyPost_ret (v := .agg #[.int .u64 X, .int .i64 0, .bool false]) (by simp [results, Tryz.results206, go_sem]) rfl ⟨rfl, (Below.refl _ _).alloc (Nat.le_refl _) _⟩
end
end Go.Proofs.YtdknbegcflldjaaGreatDoor

/- Lanes and searches: New, NewSearch, what they tell; the checkpoint; Step of a search over the model. -/
namespace Go.Proofs.YtdknbegcflldjaaGreatDoor
open Go.RowKit Go.Maps
set_option maxRecDepth 100000

/-- A search's cells. -/
def srC (c : Nat) (k key : Int) (vs : Bool) (lp : Value) : List Value := [.pointer (some ⟨c, 0, none⟩), .int .i64 k, .int .u64 key, .bool vs, lp]

section
variable {w0 w : World} {L : List Item}
set_option maxHeartbeats 1600000 in
theorem newSearch_l (c : Nat) (k key : Int) (vs : Bool) (hE : Env w0 L w) :
    Calls Tryz.prog 130 #[.pointer (some ⟨c, 0, none⟩), .int .i64 k, .int .u64 key, .bool vs] w fun o w' => ∃ a, o = .returned (.pointer (some ⟨a, 0, none⟩)) ∧ Env w0 (boxI a (srC c k key vs (.pointer none)) :: L) w' := by
  have hE2 := hE.box w.heap.size rfl (srC c k key vs (.pointer none)) 261
  clear hE
  go_enter Tryz.func130, Tryz.ntmps130
  go_wp2_with fail
  go_ret
  exact ⟨_, rfl, hE2⟩
theorem newSearchNil_l (k key : Int) (vs : Bool) (w : World) :
    Calls Tryz.prog 130 #[.pointer none, .int .i64 k, .int .u64 key, .bool vs] w fun o w' => o = .returned (.pointer none) ∧ w' = w := by
  go_enter Tryz.func130, Tryz.ntmps130
  go_wp2
  go_ret
  exact ⟨rfl, rfl⟩
end

section
variable {w : World} {a c : Nat} {lv key : Int} {vs : Bool} {nx : Value} {st x y z W C X wd : Int} {pf : Bool} {pv : Int}
theorem lane_g {k : Int} {lp : Option Addr} (hb : Blk 0 w a (srC c k key vs (.pointer lp))) : Calls Tryz.prog 185 #[.pointer (some ⟨a, 0, none⟩)] w fun o w' => o = .returned (.pointer lp) ∧ w' = w := by
  have r1 := hb.rule
  unfold srC at r1
  go_enter Tryz.func185, Tryz.ntmps185
  go_wp2
  go_ret
  exact ⟨rfl, rfl⟩
end

section
variable {w0 w : World} {R : List Item} {sb : Nat} {S : ST} {k key : Int} {vs : Bool} {lp : Value}
set_option maxHeartbeats 3200000 in
theorem check_s (hE : Env w0 (boxI sb (srC S.c k key vs lp) :: LT S R) w) :
    Calls Tryz.prog 168 #[.pointer (some ⟨sb, 0, none⟩), .iface 26 (.pointer (some ⟨S.p, 0, none⟩))] w fun o w' => o = .returned (.int .i64 0) ∧ ∃ a, Env w0 (boxI a (laneC S.c 0 key vs (mvL 242 a) 0 4 0 k 0 0 0 0 false 0) :: boxI sb (srC S.c k key vs (.pointer (some ⟨a, 0, none⟩))) :: LT { S with ce := epI (S.f (1, 0, 0)), qc := { S.qc with l := wrap64 (S.qc.l + 1) } } R) w' := by
  have hc := check_w _ (rfl : S.f (1, 0, 0) = S.f (1, 0, 0)) 1 3 4 (by decide) (by decide) hE rfl rfl rfl
  simp only [List.set_cons_succ, List.set_cons_zero] at hc
  have HC := Lib.hid hc
  clear hc
  have r := hE.rule 0 rfl
  unfold srC at r
  go_enter Tryz.func168, Tryz.ntmps168
  go_wp2_with fail
  refine HC.out.mono ?_
  rintro o w1 ⟨rfl, hE1⟩
  replace hE1 : Env w0 (boxI sb (srC S.c k key vs lp) :: LT { S with ce := epI (S.f (1, 0, 0)), qc := { S.qc with l := wrap64 (S.qc.l + 1) } } R) w1 := hE1
  clear HC hE r
  generalize hS1 : ({ S with ce := epI (S.f (1, 0, 0)), qc := { S.qc with l := wrap64 (S.qc.l + 1) } } : ST) = S1 at *
  have HS1 := Lib.hid hS1
  clear hS1
  go_wp2_with fail
  refine Ord3.wp_chain [?_, ?_, ?_, ?_, ?_, ?_, ?_, ?_, ?_, ?_, ?_, ?_, ?_, ?_, ?_, ?_, ?_, ?_, ?_, ?_, ?_, ?_, ?_] [19, 22] (fun w' => ∃ l9, Blk 0 w' sb (srC S.c k key vs l9)) (Ord3.Stage fun κs => [Env w0 (boxI sb (srC S.c k key vs lp) :: LT S1 R), fun w' => ∃ a, κs.getD 0 undef = .pointer (some ⟨a, 0, none⟩) ∧ Env w0 (boxI a (laneC S.c 0 key vs (mvL 242 a) 0 4 0 k 0 0 0 0 false 0) :: boxI sb (srC S.c k key vs lp) :: LT S1 R) w', fun w' => ∃ a, Env w0 (boxI a (laneC S.c 0 key vs (mvL 242 a) 0 4 0 k 0 0 0 0 false 0) :: boxI sb (srC S.c k key vs (.pointer (some ⟨a, 0, none⟩))) :: LT S1 R) w']) (by kernel_rfl) (by kernel_rfl) (by kernel_rfl) ⟨lp, hE1.drew.get 0 rfl⟩ ⟨_, rfl, hE1.drew⟩ (fun hT => ?_)
  rotate_left 23
  have hT9 := Lib.hid hT
  clear hT
  repeat (first
    | (focus (refine Ord3.in_value (v := ?_) hT9.out (by decide) ?_ (by rfl) ?_ ?_; rotate_left 2; (focus (intro w5 hS; obtain ⟨l9, hS9⟩ := hS; have r1 := Blk.rule hS9; unfold srC at r1; go_simp <;> with_reducible rfl)); rotate_right; (focus rfl); (try simp only [Act.put, List.setIfInBounds_toArray, List.set_cons_zero, List.set_cons_succ])))
    | (focus (refine Ord3.in_off hT9.out (by decide) ?_ (by rfl) ?_; (focus rfl); (try simp only [Act.put, List.setIfInBounds_toArray, List.set_cons_zero, List.set_cons_succ])))
    | (focus (refine Ord3.in_call (v := ?_) (f := ?_) (args := ?_) hT9.out (by decide) ?_ (by rfl) ?_ ?_ ?_; rotate_left 4; (focus (intro w5 hS; obtain ⟨l9, hS9⟩ := hS; have r1 := Blk.rule hS9; unfold srC at r1; go_simp; constructor <;> with_reducible rfl)); (focus (intro w5 hS; (first | (with_reducible refine (root_any _ _).mono ?_; rintro o w6 ⟨rfl, hb6⟩; constructor; with_reducible rfl; exact ⟨hS.elim fun l9 h => ⟨l9, h.under hb6⟩, fun us h => Ord3.Stage.three h (fun h => h.over hb6) (fun h => h.elim fun a h => ⟨a, h.1, h.2.over hb6⟩) (fun h => h.elim fun a h => ⟨a, h.over hb6⟩)⟩)))); rotate_right; (focus rfl); (try simp only [Act.put, List.setIfInBounds_toArray, List.set_cons_zero, List.set_cons_succ]))))
  refine Ord3.in_turn (fun u => ∃ q, u = .pointer (some ⟨q, 0, none⟩)) _ ⟨0, rfl⟩ hT9.out rfl (by decide) (by rfl) ?_ (Or.inl rfl) (by rfl) ?_ ?_
  · rfl
  · rintro w7 hC7 ⟨P7, hP7, hA7⟩
    cases hP7
    go_simp
    simp only [Ord3.Lands]
    refine (new_l S.c 4 0 k 0 key vs hA7).mono ?_
    rintro o w8 ⟨a8, rfl, hE8⟩
    exact ⟨_, rfl, ⟨a8, rfl⟩, ⟨lp, hE8.get 1 rfl⟩, _, rfl, a8, rfl, hE8⟩
  rintro _ ⟨a9, rfl⟩
  (try simp only [Act.put, List.setIfInBounds_toArray, List.set_cons_zero, List.set_cons_succ])
  repeat (first
    | (focus (refine Ord3.in_value (v := ?_) hT9.out (by decide) ?_ (by rfl) ?_ ?_; rotate_left 2; (focus (intro w5 hS; obtain ⟨l9, hS9⟩ := hS; have r1 := Blk.rule hS9; unfold srC at r1; go_simp <;> with_reducible rfl)); rotate_right; (focus rfl); (try simp only [Act.put, List.setIfInBounds_toArray, List.set_cons_zero, List.set_cons_succ])))
    | (focus (refine Ord3.in_off hT9.out (by decide) ?_ (by rfl) ?_; (focus rfl); (try simp only [Act.put, List.setIfInBounds_toArray, List.set_cons_zero, List.set_cons_succ]))))
  refine Ord3.in_turn (fun u => u = undef) _ rfl hT9.out rfl (by decide) (by rfl) ?_ (Or.inr ⟨_, 19, [], rfl, by kernel_rfl, by kernel_rfl, rfl⟩) (by rfl) ?_ ?_
  · rfl
  · rintro w7 hC7 ⟨P7, hP7, hA7⟩
    cases hP7
    obtain ⟨a8, he, hA7⟩ := hA7
    cases he
    have r := hA7.rule 1 rfl
    unfold srC at r
    have g := hA7.thaw 1 rfl 4 (by simp [srC])
    go_simp
    simp only [Ord3.Lands]
    have h9 := hA7.put 1 rfl (j := 4) (by simp [srC]) (.pointer (some ⟨a9, 0, none⟩))
    exact ⟨trivial, ⟨_, h9.get 1 rfl⟩, _, rfl, a9, h9⟩
  rintro _ rfl
  (try simp only [Act.put, List.setIfInBounds_toArray, List.set_cons_zero, List.set_cons_succ])
  refine Ord3.in_nil rfl ?_
  rintro w9 hC9 ⟨P9, hP9, hA9⟩
  cases hP9
  obtain ⟨a8, hA9⟩ := hA9
  clear hT9 hC9 hE1
  go_wp2_with fail
  go_ret
  have h1 := HS1.out
  subst h1
  exact ⟨rfl, a8, hA9⟩
end
end Go.Proofs.YtdknbegcflldjaaGreatDoor

/- Searches: Step over the model. -/
namespace Go.Proofs.YtdknbegcflldjaaGreatDoor
open Go.RowKit Go.Maps
set_option maxRecDepth 100000

/-- What a search keeps. -/
def SmOk (T : Sm) : Prop := T.on = true → LmOk T.L ∧ Wf T.L.p
theorem search_ok {k key : Int} {vs : Bool} {T : Sm} {f : Plc → Int} (hk : In64 k) (hT : SmOk T) (hW : ∀ x, InU (f x)) (h0 : (searchM k key vs T f).1 = 0) : SmOk (searchM k key vs T f).2.1 := by
  intro hon
  by_cases h : T.on = true
  · have hM : searchM k key vs T f = (if (laneM 0 key vs T.e T.L f).1 = 1 then 1 else 0, { on := decide ((laneM 0 key vs T.e T.L f).1 ≠ 2), L := (laneM 0 key vs T.e T.L f).2.1, e := T.e, r := rollM T.e T.L f T.r }, (laneM 0 key vs T.e T.L f).2.2) := by unfold searchM; rw [if_pos h]
    rw [hM] at h0 hon ⊢
    obtain ⟨h1, h2⟩ := hT h
    have h3 : (laneM 0 key vs T.e T.L f).1 = 0 := by
      rcases lane_state 0 key vs T.e T.L f with h4 | h4 | h4
      · exact h4
      · rw [h4] at h0; exact absurd h0 (by simp)
      · rw [h4] at hon; exact absurd hon (by simp)
    exact lane_ok h1 hW h2 (by omega) h3
  · have hM : searchM k key vs T f = (0, { on := true, L := L0 (4, 0, k), e := epI (f (1, 0, 0)), r := T.r }, f) := by unfold searchM; rw [if_neg h]
    rw [hM]
    refine ⟨LmOk.start _, ?_⟩
    show Wf (4, 0, k)
    unfold In64 at hk
    unfold Wf In64
    simp
    exact hk

/-- How a search stands, and all that it needs. -/
def SrchR (w0 : World) (R : List Item) (sb : Nat) (k key : Int) (vs : Bool) (S : ST) (s : Int) (T : Sm) (w : World) : Prop :=
  S.ce = T.e ∧ S.cr = T.r ∧ ((T.on = false ∧ s = 0 ∧ (Env w0 (boxI sb (srC S.c k key vs (.pointer none)) :: LT S R) w ∨ ∃ a L, LaneR w0 (boxI sb (srC S.c k key vs (.pointer (some ⟨a, 0, none⟩))) :: R) a 0 key vs S 2 L w)) ∨ (T.on = true ∧ ∃ a, LaneR w0 (boxI sb (srC S.c k key vs (.pointer (some ⟨a, 0, none⟩))) :: R) a 0 key vs S s T.L w))
/-- All of a thread and its world behind a search's step. -/
def searchS (key : Int) (vs : Bool) (S : ST) (T : Sm) (G : Nat → Prop) : ST := if T.on then laneS 0 key vs S T.L G else { S with ce := epI (S.f (1, 0, 0)), qc := { S.qc with l := wrap64 (S.qc.l + 1) } }

section
variable {w0 w : World} {R : List Item} {sb : Nat} {S : ST} {k key : Int} {vs : Bool} {T : Sm} {lp : Value}
/-- A search's box from behind a thread's things to the front. -/
theorem Env.sfront {x : Item} (h : Env w0 (LT S (x :: R)) w) : Env w0 (x :: LT S R) w := h.perm (List.perm_middle (l₁ := [_, _, _, _]))
theorem check_r (hoff : T.on = false) (he : S.ce = T.e) (hr : S.cr = T.r) (hE : Env w0 (boxI sb (srC S.c k key vs lp) :: LT S R) w) :
    Calls Tryz.prog 168 #[.pointer (some ⟨sb, 0, none⟩), .iface 26 (.pointer (some ⟨S.p, 0, none⟩))] w fun o w' => o = .returned (.int .i64 (searchM k key vs T S.f).1) ∧ ∃ G', SrchR w0 R sb k key vs (searchS key vs S T G') (searchM k key vs T S.f).1 (searchM k key vs T S.f).2.1 w' := by
  have hM : searchM k key vs T S.f = (0, { on := true, L := L0 (4, 0, k), e := epI (S.f (1, 0, 0)), r := T.r }, S.f) := by unfold searchM; rw [hoff]; rfl
  have hS : ∀ G, searchS key vs S T G = { S with ce := epI (S.f (1, 0, 0)), qc := { S.qc with l := wrap64 (S.qc.l + 1) } } := fun G => by unfold searchS; rw [hoff]; rfl
  refine (check_s hE).mono ?_
  rintro o w1 ⟨rfl, a, hE1⟩
  rw [hM]
  refine ⟨rfl, S.G, ?_⟩
  rw [hS]
  refine ⟨rfl, hr, .inr ⟨rfl, a, mvL (fnL 0) a, 0, noI, noI, fun _ => ⟨⟨fun _ => rfl, fun h => absurd h (by simp [L0, isVal])⟩, fun h => absurd h (by simp [L0]), fun h => absurd h (by simp [L0])⟩, ?_⟩⟩
  have hE2 := hE1.perm (L' := boxI a (laneC S.c 0 key vs (mvL (fnL 0) a) 0 4 0 k 0 0 0 0 false 0) :: LT { S with ce := epI (S.f (1, 0, 0)), qc := { S.qc with l := wrap64 (S.qc.l + 1) } } (boxI sb (srC S.c k key vs (.pointer (some ⟨a, 0, none⟩))) :: R)) (List.Perm.cons _ (List.perm_middle (l₁ := [_, _, _, _])).symm)
  exact hE2.none2
set_option maxHeartbeats 3200000 in
theorem search_l (hT : SmOk T) (hg : Glo w0) (hm : S.m < maxLen) (h : SrchR w0 R sb k key vs S 0 T w) :
    Calls Tryz.prog 132 #[.pointer (some ⟨sb, 0, none⟩), .iface 26 (.pointer (some ⟨S.p, 0, none⟩))] w fun o w' => o = .returned (.int .i64 (searchM k key vs T S.f).1) ∧ ∃ G', SrchR w0 R sb k key vs (searchS key vs S T G') (searchM k key vs T S.f).1 (searchM k key vs T S.f).2.1 w' := by
  obtain ⟨he, hr, ⟨hoff, -, hE | ⟨a, L, nx, wd, B1, B2, -, hE⟩⟩ | ⟨hon, a, hR⟩⟩ := h
  · have HC := Lib.hid (check_r hoff he hr hE)
    have r := hE.rule 0 rfl
    unfold srC at r
    clear hE
    go_enter Tryz.func132, Tryz.ntmps132
    go_wp2_with fail
    refine HC.out.mono ?_
    rintro o w1 ⟨rfl, hP⟩
    go_wp2_with fail
    go_ret
    exact ⟨rfl, hP⟩
  · have hE1 : Env w0 (boxI sb (srC S.c k key vs (.pointer (some ⟨a, 0, none⟩))) :: LT S R) w := (hE.sub (.cons _ (.cons _ (.cons _ (List.Sublist.refl _))))).sfront
    have HC := Lib.hid (check_r hoff he hr hE1)
    have r := hE1.rule 0 rfl
    unfold srC at r
    have ra := hE.rule 0 rfl
    have RA := Lib.hid ra
    unfold laneV laneC at ra
    clear hE hE1
    go_enter Tryz.func132, Tryz.ntmps132
    go_wp2_with fail
    refine (state_r (o := 4) (s := 2) (show w.cell? ⟨a, 5, none⟩ = some (.int .i64 2) from RA.out 5)).mono ?_
    rintro o w0' ⟨rfl, rfl⟩
    go_wp2_with fail
    refine HC.out.mono ?_
    rintro o w1 ⟨rfl, hP⟩
    go_wp2_with fail
    go_ret
    exact ⟨rfl, hP⟩
  · obtain ⟨hL, hp⟩ := hT hon
    have hst := lane_l hL (show (0 : Int) ≤ 0 ∧ (0 : Int) ≤ 1000000 by omega) hp hg hm hR
    have hM : searchM k key vs T S.f = (if (laneM 0 key vs T.e T.L S.f).1 = 1 then 1 else 0, { on := decide ((laneM 0 key vs T.e T.L S.f).1 ≠ 2), L := (laneM 0 key vs T.e T.L S.f).2.1, e := T.e, r := rollM T.e T.L S.f T.r }, (laneM 0 key vs T.e T.L S.f).2.2) := by unfold searchM; rw [if_pos hon]
    have hS : ∀ G, searchS key vs S T G = laneS 0 key vs S T.L G := fun G => by unfold searchS; rw [if_pos hon]
    have hsl := lane_state 0 key vs S.ce T.L S.f
    obtain ⟨nx, wd, B1, B2, -, hE⟩ := hR
    have r : ∀ i, w.cell? ⟨sb, i, none⟩ = _ := hE.rule 7 rfl
    unfold srC at r
    have ra := hE.rule 0 rfl
    have RA := Lib.hid ra
    unfold laneV laneC at ra
    clear hE
    rw [hM]
    simp only [hS]
    rw [← he, ← hr]
    clear he hr
    have hce : ∀ G, (laneS 0 key vs S T.L G).ce = S.ce ∧ (laneS 0 key vs S T.L G).cr = rollM S.ce T.L S.f S.cr ∧ (laneS 0 key vs S T.L G).c = S.c := fun G => ⟨rfl, rfl, rfl⟩
    generalize hq : laneM 0 key vs S.ce T.L S.f = q at *
    obtain ⟨q1, q2, q3⟩ := q
    have HST := Lib.hid hst
    have HSL := Lib.hid hsl
    have HCE := Lib.hid hce
    clear hst hsl hq hM hS hce
    go_enter Tryz.func132, Tryz.ntmps132
    go_wp2_with fail
    refine (state_r (o := 4) (s := 0) (show w.cell? ⟨a, 5, none⟩ = some (.int .i64 0) from RA.out 5)).mono ?_
    rintro o w0' ⟨rfl, rfl⟩
    go_wp2_with fail
    refine HST.out.mono ?_
    rintro o w1 ⟨rfl, G', hR'⟩
    have HR' := Lib.hid hR'
    clear hR' HST r ra
    rcases HSL.out with h1 | h1 | h1
    · have h1' : q1 = 0 := h1
      subst h1'
      go_wp2_with fail
      go_ret
      refine ⟨rfl, G', (HCE.out G').1, (HCE.out G').2.1, .inr ⟨rfl, a, ?_⟩⟩
      exact HR'.out
    · have h1' : q1 = 1 := h1
      subst h1'
      go_wp2_with fail
      go_ret
      refine ⟨rfl, G', (HCE.out G').1, (HCE.out G').2.1, .inr ⟨rfl, a, ?_⟩⟩
      exact HR'.out
    · have h1' : q1 = 2 := h1
      subst h1'
      go_wp2_with fail
      go_ret
      refine ⟨rfl, G', (HCE.out G').1, (HCE.out G').2.1, .inl ⟨rfl, rfl, .inr ⟨a, q2, ?_⟩⟩⟩
      exact HR'.out
end
end Go.Proofs.YtdknbegcflldjaaGreatDoor

/- Hash maps: what a thread's things keep, as far as its steps ask it; a search's things as a list. -/
namespace Go.Proofs.YtdknbegcflldjaaGreatDoor
open Go.RowKit Go.Maps
set_option maxRecDepth 100000

/-- A lane that goes on; what is known where one ended. -/
structure LaneOk (C : Cf) (L : Lm) : Prop where
  (ok : LmOk L)
  (wf : Wf L.p)
  (at9 : (∃ r, L.p = (4, 0, r)) ∨ ∃ c, L.p = (5, c, 7))
  (x : 6 ≤ L.pc → markB L.X = false)
  (c : 3 ≤ L.pc → 1 ≤ L.C)
  (sw : slotI L.W ≤ C.s)
  (sx : slotI L.X ≤ C.s)
  (cs : L.C ≤ C.s)
structure SpotOk (C : Cf) (L : Lm) : Prop where
  (W : InU L.W)
  (X : InU L.X)
  (wf : Wf L.p)
  (at9 : (∃ r, L.p = (4, 0, r)) ∨ ∃ c, L.p = (5, c, 7))
  (Cr : 0 ≤ L.C ∧ L.C ≤ 8388607)
  (fd : L.fd = true → 1 ≤ L.C ∧ markB L.X = false)
  (sw : slotI L.W ≤ C.s)
  (sx : slotI L.X ≤ C.s)
  (cs : L.C ≤ C.s)

/-- A search's things, as a list. -/
def SIt (c sb : Nat) (k key : Int) (vs : Bool) (on : Bool) (L : Lm) (s : Int) (sub : List Item) : Prop :=
  (on = false ∧ s = 0 ∧ (sub = [boxI sb (srC c k key vs (.pointer none))] ∨ ∃ a L' nx wd B1 B2, sub = [boxI sb (srC c k key vs (.pointer (some ⟨a, 0, none⟩))), boxI a (laneV c 0 key vs nx 2 wd (pfS 2 L') (pvS 2 L') L'), B1, B2])) ∨
  (on = true ∧ ∃ a nx wd B1 B2, (s = 0 → NxOk a L.pc nx B1 B2 ∧ (L.pc = 7 → wd = L.K) ∧ (L.pc = 9 → wd = L.V)) ∧ sub = [boxI sb (srC c k key vs (.pointer (some ⟨a, 0, none⟩))), boxI a (laneV c 0 key vs nx s wd (pfS s L) (pvS s L) L), B1, B2])
section
variable {w0 w : World} {R sub : List Item} {sb : Nat} {S : ST} {k key s e r : Int} {vs : Bool} {on : Bool} {L : Lm} {T : Sm}
theorem SIt.toR (h : SIt S.c sb k key vs on L s sub) (he : S.ce = e) (hr : S.cr = r) (hE : Env w0 (sub ++ LT S R) w) : SrchR w0 R sb k key vs S s ⟨on, L, e, r⟩ w := by
  rcases h with ⟨rfl, rfl, rfl | ⟨a, L', nx, wd, B1, B2, rfl⟩⟩ | ⟨rfl, a, nx, wd, B1, B2, hn, rfl⟩
  · exact ⟨he, hr, .inl ⟨rfl, rfl, .inl hE⟩⟩
  · exact ⟨he, hr, .inl ⟨rfl, rfl, .inr ⟨a, L', nx, wd, B1, B2, fun h => absurd h (by decide), hE.perm (List.perm_middle (l₁ := [_, _, _, _, _, _, _])).symm⟩⟩⟩
  · exact ⟨he, hr, .inr ⟨rfl, a, nx, wd, B1, B2, hn, hE.perm (List.perm_middle (l₁ := [_, _, _, _, _, _, _])).symm⟩⟩
theorem SrchR.toI (h : SrchR w0 R sb k key vs S s T w) : ∃ sub, SIt S.c sb k key vs T.on T.L s sub ∧ Env w0 (sub ++ LT S R) w := by
  obtain ⟨-, -, ⟨hoff, rfl, hE | ⟨a, L', nx, wd, B1, B2, -, hE⟩⟩ | ⟨hon, a, nx, wd, B1, B2, hn, hE⟩⟩ := h
  · exact ⟨_, .inl ⟨hoff, rfl, .inl rfl⟩, hE⟩
  · exact ⟨[_, _, B1, B2], .inl ⟨hoff, rfl, .inr ⟨a, L', nx, wd, B1, B2, rfl⟩⟩, hE.perm (List.perm_middle (l₁ := [_, _, _, _, _, _, _]))⟩
  · exact ⟨[_, _, B1, B2], .inr ⟨hon, a, nx, wd, B1, B2, hn, rfl⟩, hE.perm (List.perm_middle (l₁ := [_, _, _, _, _, _, _]))⟩
end

/-- The thread's, and the world's, in the program. -/
def SPK (C : Cf) (X : Tm) (V : Wm) (K : Kt) (f : Mem) (G : Nat → Prop) (qc : Cnt) (n : Nat) : ST := SP C { X with cr := K.r } V K.T f G qc n
section
variable {w0 w : World} {R sub : List Item} {C : Cf} {X : Tm} {V : Wm} {f : Mem} {G : Nat → Prop} {qc : Cnt} {n sb : Nat} {k key : Int} {vs : Bool} {on : Bool} {L : Lm} {T : Th} {r : Int}
theorem search_I (hT : on = true → LaneOk C L) (hg : Glo w0) (hn : n < maxLen) (hS : SIt X.c sb k key vs on L 0 sub) (hE : Env w0 (sub ++ LT (SP C { X with cr := r } V T f G qc n) R) w) :
    Calls Tryz.prog 132 #[.pointer (some ⟨sb, 0, none⟩), .iface 26 (.pointer (some ⟨V.p, 0, none⟩))] w fun o w' => o = .returned (.int .i64 (searchM k key vs ⟨on, L, T.e, r⟩ f).1) ∧ ∃ G' qc' n' sub', Nx n qc n' qc' ∧ SIt X.c sb k key vs (searchM k key vs ⟨on, L, T.e, r⟩ f).2.1.on (searchM k key vs ⟨on, L, T.e, r⟩ f).2.1.L (searchM k key vs ⟨on, L, T.e, r⟩ f).1 sub' ∧ Env w0 (sub' ++ LT (SP C { X with cr := (searchM k key vs ⟨on, L, T.e, r⟩ f).2.1.r } V { T with e := (searchM k key vs ⟨on, L, T.e, r⟩ f).2.1.e } (searchM k key vs ⟨on, L, T.e, r⟩ f).2.2 G' qc' n') R) w' := by
  have hR := hS.toR (S := SP C { X with cr := r } V T f G qc n) (e := T.e) (r := r) rfl rfl hE
  refine (search_l (S := SP C { X with cr := r } V T f G qc n) (T := ⟨on, L, T.e, r⟩) (fun h => ⟨(hT h).ok, (hT h).wf⟩) hg hn hR).mono ?_
  rintro o w1 ⟨rfl, G', hR'⟩
  have hR2 := hR'
  obtain ⟨sub', hS', hE'⟩ := hR'.toI
  refine ⟨rfl, (searchS key vs (SP C { X with cr := r } V T f G qc n) ⟨on, L, T.e, r⟩ G').G, (searchS key vs (SP C { X with cr := r } V T f G qc n) ⟨on, L, T.e, r⟩ G').qc, (searchS key vs (SP C { X with cr := r } V T f G qc n) ⟨on, L, T.e, r⟩ G').m, sub', ⟨?_, ?_⟩, ?_, ?_⟩
  · unfold searchS
    cases on
    · exact Nat.le_succ n
    · show (laneS 0 key vs (SP C { X with cr := r } V T f G qc n) L G').m ≤ n + 1
      unfold laneS
      dsimp only
      split
      · exact Nat.le_refl _
      · exact Nat.le_succ n
  · unfold searchS
    cases on
    · exact Or.inl ⟨rfl, rfl, rfl, rfl⟩
    · show One qc (laneS 0 key vs (SP C { X with cr := r } V T f G qc n) L G').qc
      unfold laneS laneQ
      dsimp only
      split
      · unfold swq
        first | exact Or.inr (Or.inr (Or.inl ⟨rfl, rfl, rfl, rfl⟩)) | (split <;> exact Or.inr (Or.inr (Or.inl ⟨rfl, rfl, rfl, rfl⟩)))
      · exact Or.inl ⟨rfl, rfl, rfl, rfl⟩
  · cases on <;> exact hS'
  · cases on <;> exact hE'
end
end Go.Proofs.YtdknbegcflldjaaGreatDoor

/- Threads: the contract of begin. -/
namespace Go.Proofs.YtdknbegcflldjaaGreatDoor
open Go.RowKit Go.Maps
set_option maxRecDepth 100000

section
variable {d : Dd} {r : List Dd} {T : Th}
theorem bm1 (h : d.kind = 1 ∨ d.kind = 2 ∨ d.kind = 3) (z : T.hs = 0) : beginM (d :: r) T = (true, { T with nd := T.nd + 1, pc := 1 }) := by simp only [beginM]; rw [if_pos h, if_pos z]
theorem bm1c (h : d.kind = 1 ∨ d.kind = 2 ∨ d.kind = 3) (z : T.hs ≠ 0) : beginM (d :: r) T = beginM r { T with nd := T.nd + 1 } := by simp only [beginM]; rw [if_pos h, if_neg z]
theorem bm4 (h : ¬ (d.kind = 1 ∨ d.kind = 2 ∨ d.kind = 3)) (h' : d.kind = 4 ∨ d.kind = 5) (z : T.hs ≠ 0) : beginM (d :: r) T = (true, { T with nd := T.nd + 1, hs := 0, rs := T.hs, rpc := 0, re := 0, pc := 3 }) := by simp only [beginM]; rw [if_neg h, if_pos h', if_neg z]
theorem bm4c (h : ¬ (d.kind = 1 ∨ d.kind = 2 ∨ d.kind = 3)) (h' : d.kind = 4 ∨ d.kind = 5) (z : T.hs = 0) : beginM (d :: r) T = beginM r { T with nd := T.nd + 1 } := by simp only [beginM]; rw [if_neg h, if_pos h', if_pos z]
theorem bm6 (h : d.kind = 6) : beginM (d :: r) T = (true, { T with nd := T.nd + 1, gpc := 0, gh := 0, gg := 0, pc := 4 }) := by simp only [beginM]; rw [if_neg (by omega), if_neg (by omega), if_pos h]
theorem bm7c (h : d.kind = 7) (z : T.hs = 0) : beginM (d :: r) T = beginM r { T with nd := T.nd + 1 } := by simp only [beginM]; rw [if_neg (by omega), if_neg (by omega), if_neg (by omega), if_pos h, if_pos z]
theorem bm7 (h : d.kind = 7) (z : T.hs ≠ 0) : beginM (d :: r) T = beginM r { T with nd := T.nd + 1, ql := T.ql ++ [(T.hs, 0, 0)], hs := 0 } := by simp only [beginM]; rw [if_neg (by omega), if_neg (by omega), if_neg (by omega), if_pos h, if_neg z]
theorem bmO (h : d.kind < 1 ∨ 7 < d.kind) : beginM (d :: r) T = beginM r { T with nd := T.nd + 1 } := by simp only [beginM]; rw [if_neg (by omega), if_neg (by omega), if_neg (by omega), if_neg (by omega)]
end
end Go.Proofs.YtdknbegcflldjaaGreatDoor

/- Threads, by plain mathematics: what holds of memory and of each thread, and that steps keep it. -/
namespace Go.Proofs.YtdknbegcflldjaaGreatDoor
open Go.RowKit Go.Maps
set_option maxRecDepth 100000

structure COk (C : Cf) : Prop where
  (s : 1 ≤ C.s ∧ C.s ≤ 8388607)
  (l : 1 ≤ C.l ∧ C.l ≤ 1099511627775)
structure OkF (C : Cf) (f : Mem) : Prop where
  (u : ∀ x, InU (f x))
  (pool : slotI (f (2, 0, 0)) ≤ C.s)
  (chain : ∀ i, slotI (f (5, i, 2)) ≤ C.s)
  (ep : f (1, 0, 0) ≤ C.l)
structure OkT (C : Cf) (ds : List Dd) (B : Nat) (T : Th) : Prop where
  (e : 0 ≤ T.e ∧ T.e ≤ C.l)
  (w : InU T.ah ∧ InU T.an ∧ InU T.ar)
  (hs : 0 ≤ T.hs ∧ T.hs ≤ C.s)
  (rs : 0 ≤ T.rs ∧ T.rs ≤ C.s)
  (ql : ∀ x ∈ T.ql, 1 ≤ x.1 ∧ x.1 ≤ C.s ∧ x.2.2 = 0)
  (nd : T.nd ≤ ds.length)
  (len : T.ql.length + (ds.length - T.nd) ≤ B)
  (done : 0 ≤ T.done ∧ T.done ≤ B)
  (pc : T.pc = 0 ∨ T.pc = 1 ∨ T.pc = 2 ∨ T.pc = 3 ∨ T.pc = 4)
  (p1 : T.pc = 1 → T.hs = 0)
  (nd1 : T.pc ≠ 0 → 1 ≤ T.nd)
  (apc : T.pc = 2 → T.apc = 1 ∨ T.apc = 2 ∨ T.apc = 3 ∨ T.apc = 4 ∨ T.apc = 5 ∨ T.apc = 6 ∨ 10 ≤ T.apc)
  (low : T.pc = 2 → T.apc ≤ 10 → T.hs = 0)
  (adv : T.pc = 2 → T.apc = 1 → T.e < C.l)
  (born : T.pc = 2 → T.apc = 10 → T.ql ≠ [])
  (pool : T.pc = 2 → 4 ≤ T.apc → T.apc ≤ 6 → 1 ≤ slotI T.ah ∧ slotI T.ah ≤ C.s ∧ verI T.ah < C.l)
  (an : slotI T.an ≤ C.s)
  (rpc : T.pc = 3 → T.rpc = 0 ∨ T.rpc = 1)
  (rsp : T.pc = 3 → 1 ≤ T.rs)
  (re : 0 ≤ T.re ∧ T.re ≤ C.l)
  (gpc : T.gpc ≤ 3)
  (give : T.pc = 4 → 1 ≤ T.gpc → T.ql ≠ [])
  (ghu : InU T.gh)
  (gh : slotI T.gh ≤ C.s)
  (gv : T.pc = 4 → 2 ≤ T.gpc → verI T.gh < C.l)

theorem no {a b : Nat} {P : Prop} (h : a = b) (hab : (a == b) = false) : P := by
  simp at hab
  exact absurd h hab
theorem slot_next {x s S : Int} (h0 : 0 ≤ S) (hs : s ≤ S) : slotI (nextW x s) ≤ S := by
  have h9 : slotI 0 = 0 := by decide
  unfold nextW
  split
  · rename_i h
    have := isS_parts h
    have hv := verI_in x
    split
    · omega
    · rw [slot_word (isL_mk this.1 this.2 (by omega) (by omega))]
      exact hs
  · omega
theorem slot_link {s S : Int} (h0 : 0 ≤ S) (hs : s ≤ S) : slotI (wordI false s 0) ≤ S := by
  have h9 : slotI 0 = 0 := by decide
  by_cases h : isL s 0 = true
  · rw [slot_word h]; exact hs
  · rw [wordI_no (by simpa using h)]; omega
theorem epI_of {x l : Int} (hx : InU x) (h : x ≤ l) (hl : l ≤ 1099511627775) : epI x = x ∧ 0 ≤ x := by
  unfold InU at hx
  unfold epI
  rw [if_pos (by omega)]
  exact ⟨rfl, by omega⟩
theorem swf_at (f : Mem) (x y : Plc) (o v : Int) : swf f x o v y = if y = x ∧ f x = o then v else f y := by
  unfold swf upd
  by_cases h : f x = o
  · rw [if_pos h]
    by_cases hy : y = x
    · rw [if_pos hy, if_pos ⟨hy, h⟩]
    · rw [if_neg hy, if_neg (fun h2 => hy h2.1)]
  · rw [if_neg h, if_neg (fun h2 => h h2.2)]
theorem part_ne (ck e key val lv : Int) (k : Nat) : ((wordsA ck e key val lv).getD k (0, 0)).1 ≠ 2 := by
  rw [List.getD_eq_getElem?_getD]
  rcases h : (wordsA ck e key val lv)[k]? with _ | ⟨a, b⟩
  · simp
  · have hm : (a, b) ∈ wordsA ck e key val lv := List.mem_of_getElem? h
    simp only [Option.getD_some]
    unfold wordsA at hm
    split at hm
    · simp at hm
      rcases hm with ⟨rfl, rfl⟩ | ⟨rfl, rfl⟩ | ⟨rfl, rfl⟩ | ⟨rfl, rfl⟩ <;> decide
    · split at hm
      · simp at hm
        rcases hm with ⟨rfl, rfl⟩ | ⟨rfl, rfl⟩ | ⟨rfl, rfl⟩ | ⟨rfl, rfl⟩ | ⟨rfl, rfl⟩ <;> decide
      · simp at hm
        rcases hm with ⟨rfl, rfl⟩ | ⟨rfl, rfl⟩ | ⟨rfl, rfl⟩ <;> decide

section
variable {C : Cf} {ds : List Dd} {B : Nat} {T : Th} {f : Mem} {d : Dd}
theorem OkT.more (h : OkT C ds B T) : OkT C ds (B + 1) T :=
  { h with len := by have := h.len; omega, done := by have := h.done; constructor <;> omega }
/-- Of another part of a slot, or of FRESH, nothing hangs on. -/
theorem OkF.upd (h : OkF C f) {x : Plc} {v : Int} (h1 : x ≠ (1, 0, 0)) (h2 : x ≠ (2, 0, 0)) (h3 : ∀ i, x = (5, i, 2) → slotI v ≤ C.s) (hu : ∀ y, InU (Proofs.YtdknbegcflldjaaGreatDoor.upd f x v y)) : OkF C (Proofs.YtdknbegcflldjaaGreatDoor.upd f x v) := by
  refine ⟨hu, ?_, ?_, ?_⟩
  · rw [upd_other f v (fun e => h2 e.symm)]; exact h.pool
  · intro i
    by_cases hx : (5, i, 2) = x
    · rw [← hx, upd_same]; exact h3 i hx.symm
    · rw [upd_other f v hx]; exact h.chain i
  · rw [upd_other f v (fun e => h1 e.symm)]; exact h.ep
theorem OkF.swp (h : OkF C f) {o v : Int} (hv : slotI v ≤ C.s) (hu : ∀ y, InU (swf f (2, 0, 0) o v y)) : OkF C (swf f (2, 0, 0) o v) := by
  refine ⟨hu, ?_, ?_, ?_⟩
  · rw [swf_at]; split
    · exact hv
    · exact h.pool
  · intro i
    rw [swf_at, if_neg (by simp)]; exact h.chain i
  · rw [swf_at, if_neg (by simp)]; exact h.ep
theorem OkF.swe (h : OkF C f) {o v : Int} (hv : v ≤ C.l) (hu : ∀ y, InU (swf f (1, 0, 0) o v y)) : OkF C (swf f (1, 0, 0) o v) := by
  refine ⟨hu, ?_, ?_, ?_⟩
  · rw [swf_at, if_neg (by simp)]; exact h.pool
  · intro i
    rw [swf_at, if_neg (by simp)]; exact h.chain i
  · rw [swf_at]; split
    · exact hv
    · exact h.ep

/-- A deed begins. -/
theorem begin_ok (k : Nat) : ∀ (r : List Dd) (T : Th), r = ds.drop T.nd → OkT C ds B T → T.pc = 0 → OkT C ds B (beginM r T).2 ∧ (beginM r T).2.pc = (if (beginM r T).1 then (beginM r T).2.pc else 0) ∧ ((beginM r T).1 = true → (beginM r T).2.pc = 1 ∨ (beginM r T).2.pc = 3 ∨ (beginM r T).2.pc = 4)
  | [], T, _, hT, hp => ⟨hT, by simp [beginM, hp], by simp [beginM]⟩
  | d :: r, T, hr, hT, hp => by
    have hlt : T.nd < ds.length := by
      have : (ds.drop T.nd).length = r.length + 1 := by rw [← hr]; rfl
      simp at this
      omega
    have hr' : r = ds.drop (T.nd + 1) := by
      rw [← List.drop_drop, ← hr]; rfl
    have hb := hT.len
    have hskip : OkT C ds B { T with nd := T.nd + 1 } := { hT with nd := hlt, len := (by show T.ql.length + (ds.length - (T.nd + 1)) ≤ B; omega), nd1 := fun _ => Nat.le_add_left 1 T.nd }
    have go := begin_ok k r { T with nd := T.nd + 1 } hr' hskip hp
    have h64 := hT.hs
    by_cases h1 : d.kind = 1 ∨ d.kind = 2 ∨ d.kind = 3
    · by_cases hz : T.hs = 0
      · rw [bm1 h1 hz]
        refine ⟨{ hskip with pc := .inr (.inl rfl), p1 := fun _ => hz, nd1 := fun _ => Nat.le_add_left 1 T.nd, apc := fun h => no h rfl, low := fun h => no h rfl, adv := fun h => no h rfl, born := fun h => no h rfl, pool := fun h => no h rfl, rpc := fun h => no h rfl, rsp := fun h => no h rfl, give := fun h => no h rfl, gv := fun h => no h rfl }, by simp, fun _ => .inl rfl⟩
      · rw [bm1c h1 hz]
        exact go
    · by_cases h4 : d.kind = 4 ∨ d.kind = 5
      · by_cases hz : T.hs = 0
        · rw [bm4c h1 h4 hz]
          exact go
        · rw [bm4 h1 h4 hz]
          refine ⟨{ hskip with hs := (by show (0 : Int) ≤ 0 ∧ (0 : Int) ≤ C.s; omega), rs := h64, re := (by have := hT.e; show (0 : Int) ≤ 0 ∧ (0 : Int) ≤ C.l; omega), pc := .inr (.inr (.inr (.inl rfl))), p1 := fun _ => rfl, nd1 := fun _ => Nat.le_add_left 1 T.nd, apc := fun h => no h rfl, low := fun h => no h rfl, adv := fun h => no h rfl, born := fun h => no h rfl, pool := fun h => no h rfl, rpc := fun _ => .inl rfl, rsp := fun _ => (by show 1 ≤ T.hs; omega), give := fun h => no h rfl, gv := fun h => no h rfl }, by simp, fun _ => .inr (.inl rfl)⟩
      · by_cases h6 : d.kind = 6
        · rw [bm6 h6]
          refine ⟨{ hskip with pc := .inr (.inr (.inr (.inr rfl))), p1 := fun h => no h rfl, nd1 := fun _ => Nat.le_add_left 1 T.nd, apc := fun h => no h rfl, low := fun h => no h rfl, adv := fun h => no h rfl, born := fun h => no h rfl, pool := fun h => no h rfl, rpc := fun h => no h rfl, rsp := fun h => no h rfl, gpc := Nat.zero_le 3, ghu := (by show InU 0; unfold InU; omega), gh := (by show slotI 0 ≤ C.s; rw [show slotI 0 = 0 from by decide]; omega), give := fun _ h => (Nat.not_succ_le_zero _ h).elim, gv := fun _ h => (Nat.not_succ_le_zero _ h).elim }, by simp, fun _ => .inr (.inr rfl)⟩
        · by_cases h7 : d.kind = 7
          · by_cases hz : T.hs = 0
            · rw [bm7c h7 hz]
              exact go
            · rw [bm7 h7 hz]
              refine begin_ok k r { T with nd := T.nd + 1, ql := T.ql ++ [(T.hs, 0, 0)], hs := 0 } hr' { hskip with hs := (by show (0 : Int) ≤ 0 ∧ (0 : Int) ≤ C.s; omega), ql := ?_, len := ?_, p1 := fun _ => rfl, low := fun _ _ => rfl, born := fun _ _ => by simp, give := fun _ _ => by simp } hp
              · intro x hx
                rcases List.mem_append.1 hx with hx | hx
                · exact hT.ql x hx
                · simp at hx
                  subst hx
                  exact ⟨by show 1 ≤ T.hs; omega, h64.2, rfl⟩
              · show (T.ql ++ [(T.hs, 0, 0)]).length + (ds.length - (T.nd + 1)) ≤ B
                simp
                omega
          · rw [bmO (by omega)]
            exact go
end
end Go.Proofs.YtdknbegcflldjaaGreatDoor

/- Hash maps, by plain mathematics: what a lane keeps as it goes on, and where it ends. -/
namespace Go.Proofs.YtdknbegcflldjaaGreatDoor
open Go.RowKit Go.Maps
set_option maxRecDepth 100000

/-- The links lead to slots that there are. -/
structure LnkF (C : Cf) (f : Mem) : Prop where
  (root : ∀ r, slotI (f (4, 0, r)) ≤ C.s)
  (link : ∀ i, slotI (f (5, i, 7)) ≤ C.s)
theorem LnkF.at9 {C : Cf} {f : Mem} (h : LnkF C f) {p : Plc} (hp : (∃ r, p = (4, 0, r)) ∨ ∃ c, p = (5, c, 7)) : slotI (f p) ≤ C.s := by
  rcases hp with ⟨r, rfl⟩ | ⟨c, rfl⟩
  · exact h.root r
  · exact h.link c
theorem slot_word_le {m : Bool} {s e S : Int} (h0 : 0 ≤ S) (hs : s ≤ S) : slotI (wordI m s e) ≤ S := by
  have hz : slotI 0 = 0 := by decide
  by_cases h : isL s e = true
  · rw [slot_word h]
    exact hs
  · have hw : wordI m s e = 0 := by unfold wordI; rw [if_neg h]
    rw [hw, hz]
    exact h0
section
variable {C : Cf} {k key e : Int} {vs : Bool} {L : Lm} {f : Mem}
theorem LaneOk.start {k : Int} (hk : In64 k) (h0 : 0 ≤ C.s) : LaneOk C (L0 (4, 0, k)) := by
  have hz : slotI 0 = 0 := by decide
  refine ⟨LmOk.start _, by show Wf (4, 0, k); exact ⟨(show In64 4 by unfold In64; omega), (show In64 0 by unfold In64; omega), hk⟩, .inl ⟨k, rfl⟩, fun h => absurd h (by simp [L0]), fun h => absurd h (by simp [L0]), ?_, ?_, ?_⟩
  · show slotI 0 ≤ C.s; omega
  · show slotI 0 ≤ C.s; omega
  · show (0 : Int) ≤ C.s; omega
theorem LaneOk.come (h : LaneOk C L) {p : Plc} (hp : (∃ r, p = (4, 0, r)) ∨ ∃ c, p = (5, c, 7)) (hwf : Wf p) (h7 : L.pc ≤ 7) (h0 : 0 ≤ C.s) {v : Int} (hv : InU v) (hvs : slotI v ≤ C.s) (hne : slotI v ≠ 0) : LaneOk C { L with p := p, W := v, X := 0, C := slotI v, pc := 3 } := by
  have hz : slotI 0 = 0 := by decide
  have hi := slotI_in v
  have hLp : LmOk { L with p := p } := ⟨h.ok.pc, h.ok.v, h.ok.fd, h.ok.ft, h.ok.x, h.ok.c0, h.ok.W, h.ok.X, h.ok.C⟩
  refine ⟨hLp.come h7 v hv, hwf, hp, fun h => absurd h (by simp), fun _ => ?_, hvs, ?_, hvs⟩
  · show 1 ≤ slotI v; omega
  · show slotI 0 ≤ C.s; omega
theorem LaneOk.comeEnd (h : LaneOk C L) {p : Plc} (hp : (∃ r, p = (4, 0, r)) ∨ ∃ c, p = (5, c, 7)) (hwf : Wf p) (h7 : L.pc ≤ 7) (h0 : 0 ≤ C.s) {v : Int} (hv : InU v) (hvs : slotI v ≤ C.s) : SpotOk C { L with p := p, W := v, X := 0, C := slotI v, pc := 3 } := by
  have hz : slotI 0 = 0 := by decide
  refine ⟨hv, by show InU 0; simp [InU], hwf, hp, slotI_in v, fun hf => ?_, hvs, ?_, hvs⟩
  · have h9 : L.fd = true := hf
    rw [h.ok.fd h7] at h9
    exact absurd h9 (by decide)
  · show slotI 0 ≤ C.s; omega
theorem LaneOk.spot (h : LaneOk C L) (h6 : 6 ≤ L.pc) : SpotOk C L :=
  ⟨h.ok.W, h.ok.X, h.wf, h.at9, h.ok.C, fun _ => ⟨h.c (by omega), h.x h6⟩, h.sw, h.sx, h.cs⟩
theorem cS_ne {v : Int} (h : cS v = 0) : slotI v ≠ 0 := fun h0 => by rw [cS, if_pos h0] at h; exact absurd h (by decide)
/-- What a lane keeps, as long as it goes on; where it ends. -/
theorem lane_keep (h : LaneOk C L) (hW : ∀ x, InU (f x)) (hS : LnkF C f) (h0 : 0 ≤ C.s) : ((laneM 0 key vs e L f).1 = 0 → LaneOk C (laneM 0 key vs e L f).2.1) ∧ ((laneM 0 key vs e L f).1 = 1 → SpotOk C (laneM 0 key vs e L f).2.1) := by
  have hL := h.ok
  have HK : (laneM 0 key vs e L f).1 = 0 → LmOk (laneM 0 key vs e L f).2.1 := fun h9 => (lane_ok hL hW h.wf (show (0 : Int) ≤ 0 ∧ (0 : Int) ≤ 1000000 by omega) h9).1
  rcases hL.pc with hpc | hpc | hpc | hpc | hpc | hpc | hpc | hpc | hpc
  · have hM : laneM 0 key vs e L f = (0, { L with W := f L.p, pc := 2 }, f) := by simp [laneM, hpc]
    rw [hM]
    refine ⟨fun h9 => ⟨(by have h8 := HK (by rw [hM]); rw [hM] at h8; exact h8), h.wf, h.at9, fun h => absurd h (by simp), fun h => absurd h (by simp), hS.at9 h.at9, h.sx, h.cs⟩, fun h9 => absurd h9 (by simp)⟩
  · by_cases hok : okB (f (1, 0, 0)) e = true
    · by_cases hmk : markB L.W = true
      · have hM : laneM 0 key vs e L f = (2, L, f) := by simp [laneM, holdsM, hpc, hok, hmk]
        rw [hM]
        exact ⟨fun h => absurd h (by simp), fun h => absurd h (by simp)⟩
      · have hM : laneM 0 key vs e L f = (cS L.W, { L with W := L.W, X := 0, C := slotI L.W, pc := 3 }, f) := by simp [laneM, holdsM, hpc, hok, hmk, comeM_cS]
        rw [hM]
        exact ⟨fun h9 => h.come h.at9 h.wf (by omega) h0 hL.W h.sw (cS_ne h9), fun _ => h.comeEnd h.at9 h.wf (by omega) h0 hL.W h.sw⟩
    · have hM : laneM 0 key vs e L f = (2, L, f) := by simp [laneM, hpc, hok]
      rw [hM]
      exact ⟨fun h => absurd h (by simp), fun h => absurd h (by simp)⟩
  · have hM : laneM 0 key vs e L f = (0, { L with X := f (5, L.C, 7), pc := 4 }, f) := by simp [laneM, hpc]
    rw [hM]
    refine ⟨fun h9 => ⟨(by have h8 := HK (by rw [hM]); rw [hM] at h8; exact h8), h.wf, h.at9, fun h => absurd h (by simp), fun _ => h.c (by omega), h.sw, hS.link _, h.cs⟩, fun h9 => absurd h9 (by simp)⟩
  · by_cases hok : okB (f (1, 0, 0)) e = true
    · have hM : laneM 0 key vs e L f = (0, { L with pc := if markB L.X then 5 else 6 }, f) := by simp [laneM, holdsM, hpc, hok]
      rw [hM]
      refine ⟨fun h9 => ⟨(by have h8 := HK (by rw [hM]); rw [hM] at h8; exact h8), h.wf, h.at9, fun h6 => ?_, fun _ => h.c (by omega), h.sw, h.sx, h.cs⟩, fun h9 => absurd h9 (by simp)⟩
      dsimp only at h6 ⊢
      cases hm : markB L.X
      · rfl
      · rw [hm] at h6; exact absurd h6 (by decide)
    · have hM : laneM 0 key vs e L f = (2, L, f) := by simp [laneM, hpc, hok]
      rw [hM]
      exact ⟨fun h => absurd h (by simp), fun h => absurd h (by simp)⟩
  · by_cases heq : f L.p = L.W
    · have hM : laneM 0 key vs e L f = (cS (wordI false (slotI L.X) e), { L with W := wordI false (slotI L.X) e, X := 0, C := slotI (wordI false (slotI L.X) e), pc := 3 }, swf f L.p L.W (wordI false (slotI L.X) e)) := by simp [laneM, hpc, heq, comeM_cS]
      rw [hM]
      have hle := slot_word_le (m := false) (e := e) h0 h.sx
      exact ⟨fun h9 => h.come h.at9 h.wf (by omega) h0 (wordI_in _ _ _) hle (cS_ne h9), fun _ => h.comeEnd h.at9 h.wf (by omega) h0 (wordI_in _ _ _) hle⟩
    · have hM : laneM 0 key vs e L f = (2, L, swf f L.p L.W (wordI false (slotI L.X) e)) := by simp [laneM, hpc, heq]
      rw [hM]
      exact ⟨fun h => absurd h (by simp), fun h => absurd h (by simp)⟩
  · have hM : laneM 0 key vs e L f = (0, { L with K := f (5, L.C, 3), pc := 7 }, f) := by simp [laneM, hpc]
    rw [hM]
    refine ⟨fun h9 => ⟨(by have h8 := HK (by rw [hM]); rw [hM] at h8; exact h8), h.wf, h.at9, fun _ => h.x (by omega), fun _ => h.c (by omega), h.sw, h.sx, h.cs⟩, fun h9 => absurd h9 (by simp)⟩
  · by_cases hok : okB (f (1, 0, 0)) e = true
    · by_cases hlt : L.K < key
      · have hM : laneM 0 key vs e L f = (cS L.X, { L with p := (5, L.C, 7), W := L.X, X := 0, C := slotI L.X, pc := 3 }, f) := by simp [laneM, holdsM, hpc, hok, hlt, comeM_cS]
        rw [hM]
        have hwf : Wf (5, L.C, 7) := wf_part hL.C (by omega)
        exact ⟨fun h9 => h.come (.inr ⟨_, rfl⟩) hwf (by omega) h0 hL.X h.sx (cS_ne h9), fun _ => h.comeEnd (.inr ⟨_, rfl⟩) hwf (by omega) h0 hL.X h.sx⟩
      · by_cases heq : L.K = key
        · cases vs
          rotate_left
          · have hM : laneM 0 key true e L f = (0, { L with fd := true, pc := 8 }, f) := by simp [laneM, holdsM, hpc, hok, heq]
            rw [hM]
            exact ⟨fun h9 => ⟨(by have h8 := HK (by rw [hM]); rw [hM] at h8; exact h8), h.wf, h.at9, fun _ => h.x (by omega), fun _ => h.c (by omega), h.sw, h.sx, h.cs⟩, fun h9 => absurd h9 (by simp)⟩
          have hM : laneM 0 key false e L f = (1, { L with fd := true }, f) := by simp [laneM, holdsM, hpc, hok, heq]
          rw [hM]
          have hsp := h.spot (by omega)
          exact ⟨fun h => absurd h (by simp), fun _ => ⟨hsp.W, hsp.X, hsp.wf, hsp.at9, hsp.Cr, fun _ => ⟨h.c (by omega), h.x (by omega)⟩, hsp.sw, hsp.sx, hsp.cs⟩⟩
        · have hM : laneM 0 key vs e L f = (1, L, f) := by simp [laneM, holdsM, hpc, hok, hlt, heq]
          rw [hM]
          exact ⟨fun h => absurd h (by simp), fun _ => h.spot (by omega)⟩
    · have hM : laneM 0 key vs e L f = (2, L, f) := by simp [laneM, hpc, hok]
      rw [hM]
      exact ⟨fun h => absurd h (by simp), fun h => absurd h (by simp)⟩
  · have hM : laneM 0 key vs e L f = (0, { L with V := f (5, L.C, 4), pc := 9 }, f) := by simp [laneM, hpc]
    rw [hM]
    refine ⟨fun h9 => ⟨(by have h8 := HK (by rw [hM]); rw [hM] at h8; exact h8), h.wf, h.at9, fun _ => h.x (by omega), fun _ => h.c (by omega), h.sw, h.sx, h.cs⟩, fun h9 => absurd h9 (by simp)⟩
  · by_cases hok : okB (f (1, 0, 0)) e = true
    · have hM : laneM 0 key vs e L f = (1, L, f) := by simp [laneM, holdsM, hpc, hok]
      rw [hM]
      exact ⟨fun h => absurd h (by simp), fun _ => h.spot (by omega)⟩
    · have hM : laneM 0 key vs e L f = (2, L, f) := by simp [laneM, hpc, hok]
      rw [hM]
      exact ⟨fun h => absurd h (by simp), fun h => absurd h (by simp)⟩
/-- A search's step. -/
theorem search_keep {on : Bool} {r : Int} (hk9 : In64 k) (h : on = true → LaneOk C L) (hW : ∀ x, InU (f x)) (hS : LnkF C f) (h0 : 0 ≤ C.s) : ((searchM k key vs ⟨on, L, e, r⟩ f).1 = 0 → (searchM k key vs ⟨on, L, e, r⟩ f).2.1.on = true → LaneOk C (searchM k key vs ⟨on, L, e, r⟩ f).2.1.L) ∧ ((searchM k key vs ⟨on, L, e, r⟩ f).1 = 1 → SpotOk C (searchM k key vs ⟨on, L, e, r⟩ f).2.1.L) := by
  cases on
  · exact ⟨fun _ _ => LaneOk.start hk9 h0, fun h => absurd h (by simp [searchM])⟩
  · have hk := lane_keep (key := key) (vs := vs) (e := e) (h rfl) hW hS h0
    have hst := lane_state 0 key vs e L f
    have hM : searchM k key vs ⟨true, L, e, r⟩ f = (if (laneM 0 key vs e L f).1 = 1 then 1 else 0, { on := decide ((laneM 0 key vs e L f).1 ≠ 2), L := (laneM 0 key vs e L f).2.1, e := e, r := rollM e L f r }, (laneM 0 key vs e L f).2.2) := by unfold searchM; rw [if_pos rfl]
    rw [hM]
    refine ⟨fun h1 h2 => hk.1 ?_, fun h1 => hk.2 ?_⟩
    · rcases hst with h9 | h9 | h9
      · exact h9
      · rw [h9] at h1; exact absurd h1 (by simp)
      · rw [h9] at h2; exact absurd h2 (by simp)
    · rcases hst with h9 | h9 | h9
      · rw [h9] at h1; exact absurd h1 (by simp)
      · exact h9
      · rw [h9] at h1; exact absurd h1 (by simp)
end
end Go.Proofs.YtdknbegcflldjaaGreatDoor
