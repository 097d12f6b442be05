/- What is proved on the way to the statement, part 8 of 13: contracts of the functions, among other things in memory. -/
import Derived.Test.YtnnjanaclgjneaaGreatDoorE7

/- Lanes: Step over the model. -/
namespace Go.Proofs.YtnnjanaclgjneaaGreatDoor
open Go.RowKit Go.Maps
set_option maxRecDepth 100000

/-- Nothing, as a thing. -/
def noI : Item where
  F := fun _ => False
  says := fun _ => True
  loc := fun _ _ _ _ _ => trivial
section
variable {w0 w : World} {L : List Item} {x : Item}
theorem Env.none1 (h : Env w0 L w) : Env w0 (noI :: L) w := h.add noI (Below.refl _ _) trivial fun k hk => absurd hk (by simp [noI])
theorem Env.none2 (h : Env w0 (x :: L) w) : Env w0 (x :: noI :: noI :: L) w := h.none1.none1.perm (List.perm_middle (l₁ := [noI, noI]))
end

section
variable {w0 w : World} {R : List Item} {a : Nat} {S : ST} {lv key : Int} {vs : Bool} {L : Lm}

set_option maxHeartbeats 1600000 in
theorem lane_0 (hpc : L.pc = 0) (hL : LmOk L) (hlv : 0 ≤ lv ∧ lv ≤ 1000000) (hwf : Wf L.p) (hg : Glo w0) (hm : S.m < maxLen) (h : LaneR w0 R a lv key vs S 0 L w) :
    Calls Tryz.prog 181 #[.pointer (some ⟨a, 0, none⟩), .iface 26 (.pointer (some ⟨S.p, 0, none⟩))] w fun o w' => o = .returned (.int .i64 (laneM lv key vs S.ce L S.f).1) ∧ ∃ G', LaneR w0 R a lv key vs (laneS lv key vs S L G') (laneM lv key vs S.ce L S.f).1 (laneM lv key vs S.ce L S.f).2.1 w' := by
  obtain ⟨nx, wd, B1, B2, hn, hE⟩ := h
  obtain ⟨⟨hnx, -⟩, -, -⟩ := hn rfl
  have hnx := hnx (by rw [hpc]; rfl)
  rw [hpc] at hnx
  have hV : L.V = 0 := hL.v (by omega)
  have hM : laneM lv key vs S.ce L S.f = (0, { L with W := S.f L.p, pc := 2 }, S.f) := by simp [laneM, hpc]
  have hS : ∀ G, laneS lv key vs S L G = { S with G := G, qc := { S.qc with l := wrap64 (S.qc.l + 1) } } := fun G => by simp [laneS, laneQ, rollM, hM, hpc, isVal]
  rw [hM]
  have hn4 : w.cell? ⟨a, 4, none⟩ = some (mvL (fnL 0) a) := by rw [hE.rule 0 rfl 4, ← hnx]; rfl
  have hs5 : w.cell? ⟨a, 5, none⟩ = some (.int .i64 0) := hE.rule 0 rfl 5
  refine stepMv_l (fnL 0) (enters_fnL 0) _ _ hn4 hs5 ?_
  refine (loadInto_l (S.f L.p) rfl hwf (hE.sub (.cons_cons _ (.cons _ (.cons _ (List.Sublist.refl _)))))).mono ?_
  rintro o w1 ⟨rfl, b1, b2, hE1⟩
  refine ⟨0, rfl, rfl, S.G, ?_⟩
  rw [hS]
  exact ⟨cvL b1 b2, wd, _, _, fun _ => ⟨⟨fun h => absurd h (by simp [isVal]), fun _ => ⟨b1, b2, rfl, rfl, rfl⟩⟩, fun h => absurd h (by simp), fun h => absurd h (by simp)⟩, hE1⟩

set_option maxHeartbeats 1600000 in
theorem lane_3 (hpc : L.pc = 3) (hL : LmOk L) (hlv : 0 ≤ lv ∧ lv ≤ 1000000) (hwf : Wf L.p) (hg : Glo w0) (hm : S.m < maxLen) (h : LaneR w0 R a lv key vs S 0 L w) :
    Calls Tryz.prog 181 #[.pointer (some ⟨a, 0, none⟩), .iface 26 (.pointer (some ⟨S.p, 0, none⟩))] w fun o w' => o = .returned (.int .i64 (laneM lv key vs S.ce L S.f).1) ∧ ∃ G', LaneR w0 R a lv key vs (laneS lv key vs S L G') (laneM lv key vs S.ce L S.f).1 (laneM lv key vs S.ce L S.f).2.1 w' := by
  obtain ⟨nx, wd, B1, B2, hn, hE⟩ := h
  obtain ⟨⟨hnx, -⟩, -, -⟩ := hn rfl
  have hnx := hnx (by rw [hpc]; rfl)
  rw [hpc] at hnx
  have hV : L.V = 0 := hL.v (by omega)
  have hM : laneM lv key vs S.ce L S.f = (0, { L with X := S.f (5, L.C, 7 + lv), pc := 4 }, S.f) := by simp [laneM, hpc]
  have hS : ∀ G, laneS lv key vs S L G = { S with G := G, qc := { S.qc with l := wrap64 (S.qc.l + 1) } } := fun G => by simp [laneS, laneQ, rollM, hM, hpc, isVal]
  rw [hM]
  have hn4 : w.cell? ⟨a, 4, none⟩ = some (mvL (fnL 3) a) := by rw [hE.rule 0 rfl 4, ← hnx]; rfl
  have hs5 : w.cell? ⟨a, 5, none⟩ = some (.int .i64 0) := hE.rule 0 rfl 5
  refine stepMv_l (fnL 3) (enters_fnL 3) _ _ hn4 hs5 ?_
  refine (loadOut_l hlv (S.f (5, L.C, 7 + lv)) rfl (wf_part hL.C (by omega)) (hE.sub (.cons_cons _ (.cons _ (.cons _ (List.Sublist.refl _)))))).mono ?_
  rintro o w1 ⟨rfl, b1, b2, hE1⟩
  refine ⟨0, rfl, rfl, S.G, ?_⟩
  rw [hS]
  exact ⟨cvL b1 b2, wd, _, _, fun _ => ⟨⟨fun h => absurd h (by simp [isVal]), fun _ => ⟨b1, b2, rfl, rfl, rfl⟩⟩, fun h => absurd h (by simp), fun h => absurd h (by simp)⟩, hE1⟩

set_option maxHeartbeats 1600000 in
theorem lane_6 (hpc : L.pc = 6) (hL : LmOk L) (hlv : 0 ≤ lv ∧ lv ≤ 1000000) (hwf : Wf L.p) (hg : Glo w0) (hm : S.m < maxLen) (h : LaneR w0 R a lv key vs S 0 L w) :
    Calls Tryz.prog 181 #[.pointer (some ⟨a, 0, none⟩), .iface 26 (.pointer (some ⟨S.p, 0, none⟩))] w fun o w' => o = .returned (.int .i64 (laneM lv key vs S.ce L S.f).1) ∧ ∃ G', LaneR w0 R a lv key vs (laneS lv key vs S L G') (laneM lv key vs S.ce L S.f).1 (laneM lv key vs S.ce L S.f).2.1 w' := by
  obtain ⟨nx, wd, B1, B2, hn, hE⟩ := h
  obtain ⟨⟨hnx, -⟩, -, -⟩ := hn rfl
  have hnx := hnx (by rw [hpc]; rfl)
  rw [hpc] at hnx
  have hV : L.V = 0 := hL.v (by omega)
  have hM : laneM lv key vs S.ce L S.f = (0, { L with K := S.f (5, L.C, 3), pc := 7 }, S.f) := by simp [laneM, hpc]
  have hS : ∀ G, laneS lv key vs S L G = { S with G := G, qc := { S.qc with l := wrap64 (S.qc.l + 1) } } := fun G => by simp [laneS, laneQ, rollM, hM, hpc, isVal]
  rw [hM]
  have hn4 : w.cell? ⟨a, 4, none⟩ = some (mvL (fnL 6) a) := by rw [hE.rule 0 rfl 4, ← hnx]; rfl
  have hs5 : w.cell? ⟨a, 5, none⟩ = some (.int .i64 0) := hE.rule 0 rfl 5
  refine stepMv_l (fnL 6) (enters_fnL 6) _ _ hn4 hs5 ?_
  refine (loadKey_l (S.f (5, L.C, 3)) rfl (wf_part hL.C (by omega)) (hE.sub (.cons_cons _ (.cons _ (.cons _ (List.Sublist.refl _)))))).mono ?_
  rintro o w1 ⟨rfl, b1, b2, hE1⟩
  refine ⟨0, rfl, rfl, S.G, ?_⟩
  rw [hS]
  exact ⟨cvL b1 b2, S.f (5, L.C, 3), _, _, fun _ => ⟨⟨fun h => absurd h (by simp [isVal]), fun _ => ⟨b1, b2, rfl, rfl, rfl⟩⟩, fun _ => rfl, fun h => absurd h (by simp)⟩, hE1⟩

set_option maxHeartbeats 1600000 in
theorem lane_8 (hpc : L.pc = 8) (hL : LmOk L) (hlv : 0 ≤ lv ∧ lv ≤ 1000000) (hwf : Wf L.p) (hg : Glo w0) (hm : S.m < maxLen) (h : LaneR w0 R a lv key vs S 0 L w) :
    Calls Tryz.prog 181 #[.pointer (some ⟨a, 0, none⟩), .iface 26 (.pointer (some ⟨S.p, 0, none⟩))] w fun o w' => o = .returned (.int .i64 (laneM lv key vs S.ce L S.f).1) ∧ ∃ G', LaneR w0 R a lv key vs (laneS lv key vs S L G') (laneM lv key vs S.ce L S.f).1 (laneM lv key vs S.ce L S.f).2.1 w' := by
  obtain ⟨nx, wd, B1, B2, hn, hE⟩ := h
  obtain ⟨⟨hnx, -⟩, -, -⟩ := hn rfl
  have hnx := hnx (by rw [hpc]; rfl)
  rw [hpc] at hnx
  have hV : L.V = 0 := hL.v (by omega)
  have hM : laneM lv key vs S.ce L S.f = (0, { L with V := S.f (5, L.C, 4), pc := 9 }, S.f) := by simp [laneM, hpc]
  have hS : ∀ G, laneS lv key vs S L G = { S with G := G, qc := { S.qc with l := wrap64 (S.qc.l + 1) } } := fun G => by simp [laneS, laneQ, rollM, hM, hpc, isVal]
  rw [hM]
  have hn4 : w.cell? ⟨a, 4, none⟩ = some (mvL (fnL 8) a) := by rw [hE.rule 0 rfl 4, ← hnx]; rfl
  have hs5 : w.cell? ⟨a, 5, none⟩ = some (.int .i64 0) := hE.rule 0 rfl 5
  refine stepMv_l (fnL 8) (enters_fnL 8) _ _ hn4 hs5 ?_
  refine (loadVal_l (S.f (5, L.C, 4)) rfl (wf_part hL.C (by omega)) (hE.sub (.cons_cons _ (.cons _ (.cons _ (List.Sublist.refl _)))))).mono ?_
  rintro o w1 ⟨rfl, b1, b2, hE1⟩
  refine ⟨0, rfl, rfl, S.G, ?_⟩
  rw [hS]
  exact ⟨cvL b1 b2, S.f (5, L.C, 4), _, _, fun _ => ⟨⟨fun h => absurd h (by simp [isVal]), fun _ => ⟨b1, b2, rfl, rfl, rfl⟩⟩, fun h => absurd h (by simp), fun _ => rfl⟩, hE1⟩

set_option maxHeartbeats 1600000 in
theorem lane_5 (hpc : L.pc = 5) (hL : LmOk L) (hlv : 0 ≤ lv ∧ lv ≤ 1000000) (hwf : Wf L.p) (hg : Glo w0) (hm : S.m < maxLen) (h : LaneR w0 R a lv key vs S 0 L w) :
    Calls Tryz.prog 181 #[.pointer (some ⟨a, 0, none⟩), .iface 26 (.pointer (some ⟨S.p, 0, none⟩))] w fun o w' => o = .returned (.int .i64 (laneM lv key vs S.ce L S.f).1) ∧ ∃ G', LaneR w0 R a lv key vs (laneS lv key vs S L G') (laneM lv key vs S.ce L S.f).1 (laneM lv key vs S.ce L S.f).2.1 w' := by
  obtain ⟨nx, wd, B1, B2, hn, hE⟩ := h
  obtain ⟨⟨hnx, -⟩, -, -⟩ := hn rfl
  have hnx := hnx (by rw [hpc]; rfl)
  rw [hpc] at hnx
  have hV : L.V = 0 := hL.v (by omega)
  have hfd : L.fd = false := hL.fd (by omega)
  have hn4 : w.cell? ⟨a, 4, none⟩ = some (mvL (fnL 5) a) := by rw [hE.rule 0 rfl 4, ← hnx]; rfl
  have hs5 : w.cell? ⟨a, 5, none⟩ = some (.int .i64 0) := hE.rule 0 rfl 5
  have hE0 : Env w0 (boxI a (laneC S.c lv key vs nx 0 L.p.1 L.p.2.1 L.p.2.2 L.W L.C L.X wd false 0) :: LT S R) w := (hE.sub (.cons_cons _ (.cons _ (.cons _ (List.Sublist.refl _)))))
  by_cases heq : S.f L.p = L.W
  · have hM : laneM lv key vs S.ce L S.f = (cS (wordI false (slotI L.X) S.ce), { L with W := wordI false (slotI L.X) S.ce, X := 0, C := slotI (wordI false (slotI L.X) S.ce), pc := 3 }, swf S.f L.p L.W (wordI false (slotI L.X) S.ce)) := by simp [laneM, hpc, heq, comeM_cS]
    have hS : ∀ G, laneS lv key vs S L G = { S with G := G, f := swf S.f L.p L.W (wordI false (slotI L.X) S.ce), qc := swq S.qc true, m := S.m + 1 } := fun G => by simp [laneS, laneQ, rollM, hM, hpc, isVal, heq]
    rw [hM]
    refine stepMv_l (fnL 5) (enters_fnL 5) _ _ hn4 hs5 ?_
    refine (cutYes_l heq hwf hL.X hg hm hE0).mono ?_
    rintro o w1 ⟨rfl, nx, G', hnx, hE1⟩
    refine ⟨_, rfl, rfl, G', ?_⟩
    rw [hS]
    exact LaneR.came rfl hfd hV hnx hE1.none2
  · have hM : laneM lv key vs S.ce L S.f = (2, L, swf S.f L.p L.W (wordI false (slotI L.X) S.ce)) := by simp [laneM, hpc, heq]
    have hS : ∀ G, laneS lv key vs S L G = { S with G := G, f := swf S.f L.p L.W (wordI false (slotI L.X) S.ce), qc := swq S.qc false, m := S.m + 1 } := fun G => by simp [laneS, laneQ, rollM, hM, hpc, isVal, heq]
    rw [hM]
    refine stepMv_l (fnL 5) (enters_fnL 5) _ _ hn4 hs5 ?_
    refine (cutNo_l heq hwf hL.X hg hm hE0).mono ?_
    rintro o w1 ⟨rfl, nx, G', hE1⟩
    refine ⟨_, rfl, rfl, G', ?_⟩
    rw [hS]
    exact ⟨nx, wd, noI, noI, fun h => absurd h (by simp), hE1.none2⟩

set_option maxHeartbeats 1600000 in
theorem lane_2 (hpc : L.pc = 2) (hL : LmOk L) (hlv : 0 ≤ lv ∧ lv ≤ 1000000) (hwf : Wf L.p) (hg : Glo w0) (hm : S.m < maxLen) (h : LaneR w0 R a lv key vs S 0 L w) :
    Calls Tryz.prog 181 #[.pointer (some ⟨a, 0, none⟩), .iface 26 (.pointer (some ⟨S.p, 0, none⟩))] w fun o w' => o = .returned (.int .i64 (laneM lv key vs S.ce L S.f).1) ∧ ∃ G', LaneR w0 R a lv key vs (laneS lv key vs S L G') (laneM lv key vs S.ce L S.f).1 (laneM lv key vs S.ce L S.f).2.1 w' := by
  obtain ⟨nx, wd, B1, B2, hn, hE⟩ := h
  obtain ⟨⟨-, hnx⟩, hw7, hw9⟩ := hn rfl
  obtain ⟨b1, b2, rfl, rfl, rfl⟩ := hnx (by rw [hpc]; rfl)
  rw [hpc] at hE hw7 hw9
  have hn4 : w.cell? ⟨a, 4, none⟩ = some (cvL b1 b2) := by rw [hE.rule 0 rfl 4]; rfl
  have hs5 : w.cell? ⟨a, 5, none⟩ = some (.int .i64 0) := hE.rule 0 rfl 5
  have hE0 : Env w0 (boxI a (laneC S.c lv key vs (cvL b1 b2) 0 L.p.1 L.p.2.1 L.p.2.2 L.W L.C L.X wd false 0) :: boxI b1 [.pointer (some ⟨a, 0, none⟩)] :: boxI b2 [mvL (bhL 2) a] :: LT S R) w := hE
  by_cases hok : okB (S.f (1, 0, 0)) S.ce = true
  · have hS : ∀ G, laneS lv key vs S L G = { S with G := G, qc := { S.qc with l := wrap64 (S.qc.l + 1) } } := fun G => by simp [laneS, laneQ, rollM, laneM, hpc, isVal, hok]
    refine stepCv_l b1 b2 _ _ hn4 hs5 ?_
    have hgo : ∀ (s : Int) (L' : Lm), laneM lv key vs S.ce L S.f = (s, L', S.f) → (∀ v, Env w0 (boxI a (laneC S.c lv key vs (cvL b1 b2) 0 L.p.1 L.p.2.1 L.p.2.2 L.W L.C L.X wd false 0) :: boxI b1 [.pointer (some ⟨a, 0, none⟩)] :: boxI b2 [mvL (bhL 2) a] :: LT { S with qc := { S.qc with l := wrap64 (S.qc.l + 1) } } R) v → Calls Tryz.prog (bhL 2) #[.pointer (some ⟨a, 0, none⟩)] v fun o w' => o = .returned (.int .i64 s) ∧ LaneR w0 R a lv key vs { S with qc := { S.qc with l := wrap64 (S.qc.l + 1) } } s L' w') →
        Calls Tryz.prog 261 #[.iface 26 (.pointer (some ⟨S.p, 0, none⟩)), .pointer (some ⟨b1, 0, none⟩), .pointer (some ⟨b2, 0, none⟩)] w fun e w' => ∃ s, e = .returned (.int .i64 s) ∧ ((.returned (.int .i64 s) : Ending) = .returned (.int .i64 (laneM lv key vs S.ce L S.f).1) ∧ ∃ G', LaneR w0 R a lv key vs (laneS lv key vs S L G') (laneM lv key vs S.ce L S.f).1 (laneM lv key vs S.ce L S.f).2.1 w') := fun s L' hM hc => by
      refine (val1Yes_l (bhL 2) (enters_bhL 2) hok hE0 s _ hc).mono ?_
      rintro o w1 ⟨rfl, hR⟩
      refine ⟨s, rfl, ?_, S.G, ?_⟩
      · rw [hM]
      · rw [hM, hS]
        exact hR
    clear hE hn
    have hV : L.V = 0 := hL.v (by omega)
    have hfd : L.fd = false := hL.fd (by omega)
    by_cases hmk : markB L.W = true
    · refine hgo 2 L (by simp [laneM, holdsM, hpc, hok, hmk]) fun v hv => ?_
      refine (intoMark_l hmk hL.W hg hv).mono ?_
      rintro o w1 ⟨rfl, nx, hE1⟩
      exact ⟨rfl, nx, wd, _, _, fun h => absurd h (by simp), hE1⟩
    · have hmk : markB L.W = false := by simpa using hmk
      refine hgo (cS L.W) { L with W := L.W, X := 0, C := slotI L.W, pc := 3 } (by simp [laneM, holdsM, hpc, hok, hmk, comeM_cS]) fun v hv => ?_
      refine (intoCome_l hmk hL.W hg hv).mono ?_
      rintro o w1 ⟨rfl, nx, hnx, hE1⟩
      exact ⟨rfl, LaneR.came rfl hfd hV hnx hE1⟩
  · have hok : okB (S.f (1, 0, 0)) S.ce = false := by simpa using hok
    have hM : laneM lv key vs S.ce L S.f = (2, L, S.f) := by simp [laneM, hpc, hok]
    have hS : ∀ G, laneS lv key vs S L G = { S with G := G, qc := { S.qc with l := wrap64 (S.qc.l + 1) }, cr := wrap64 (S.cr + 1) } := fun G => by simp [laneS, laneQ, rollM, hM, hpc, isVal, hok]
    rw [hM]
    refine stepCv_l b1 b2 _ _ hn4 hs5 ?_
    refine (val1No_l _ hok hE0).mono ?_
    rintro o w1 ⟨rfl, nx, hE1⟩
    refine ⟨2, rfl, rfl, S.G, ?_⟩
    rw [hS]
    exact ⟨nx, wd, _, _, fun h => absurd h (by simp), hE1⟩

set_option maxHeartbeats 1600000 in
theorem lane_4 (hpc : L.pc = 4) (hL : LmOk L) (hlv : 0 ≤ lv ∧ lv ≤ 1000000) (hwf : Wf L.p) (hg : Glo w0) (hm : S.m < maxLen) (h : LaneR w0 R a lv key vs S 0 L w) :
    Calls Tryz.prog 181 #[.pointer (some ⟨a, 0, none⟩), .iface 26 (.pointer (some ⟨S.p, 0, none⟩))] w fun o w' => o = .returned (.int .i64 (laneM lv key vs S.ce L S.f).1) ∧ ∃ G', LaneR w0 R a lv key vs (laneS lv key vs S L G') (laneM lv key vs S.ce L S.f).1 (laneM lv key vs S.ce L S.f).2.1 w' := by
  obtain ⟨nx, wd, B1, B2, hn, hE⟩ := h
  obtain ⟨⟨-, hnx⟩, hw7, hw9⟩ := hn rfl
  obtain ⟨b1, b2, rfl, rfl, rfl⟩ := hnx (by rw [hpc]; rfl)
  rw [hpc] at hE hw7 hw9
  have hn4 : w.cell? ⟨a, 4, none⟩ = some (cvL b1 b2) := by rw [hE.rule 0 rfl 4]; rfl
  have hs5 : w.cell? ⟨a, 5, none⟩ = some (.int .i64 0) := hE.rule 0 rfl 5
  have hE0 : Env w0 (boxI a (laneC S.c lv key vs (cvL b1 b2) 0 L.p.1 L.p.2.1 L.p.2.2 L.W L.C L.X wd false 0) :: boxI b1 [.pointer (some ⟨a, 0, none⟩)] :: boxI b2 [mvL (bhL 4) a] :: LT S R) w := hE
  by_cases hok : okB (S.f (1, 0, 0)) S.ce = true
  · have hS : ∀ G, laneS lv key vs S L G = { S with G := G, qc := { S.qc with l := wrap64 (S.qc.l + 1) } } := fun G => by simp [laneS, laneQ, rollM, laneM, hpc, isVal, hok]
    refine stepCv_l b1 b2 _ _ hn4 hs5 ?_
    have hgo : ∀ (s : Int) (L' : Lm), laneM lv key vs S.ce L S.f = (s, L', S.f) → (∀ v, Env w0 (boxI a (laneC S.c lv key vs (cvL b1 b2) 0 L.p.1 L.p.2.1 L.p.2.2 L.W L.C L.X wd false 0) :: boxI b1 [.pointer (some ⟨a, 0, none⟩)] :: boxI b2 [mvL (bhL 4) a] :: LT { S with qc := { S.qc with l := wrap64 (S.qc.l + 1) } } R) v → Calls Tryz.prog (bhL 4) #[.pointer (some ⟨a, 0, none⟩)] v fun o w' => o = .returned (.int .i64 s) ∧ LaneR w0 R a lv key vs { S with qc := { S.qc with l := wrap64 (S.qc.l + 1) } } s L' w') →
        Calls Tryz.prog 261 #[.iface 26 (.pointer (some ⟨S.p, 0, none⟩)), .pointer (some ⟨b1, 0, none⟩), .pointer (some ⟨b2, 0, none⟩)] w fun e w' => ∃ s, e = .returned (.int .i64 s) ∧ ((.returned (.int .i64 s) : Ending) = .returned (.int .i64 (laneM lv key vs S.ce L S.f).1) ∧ ∃ G', LaneR w0 R a lv key vs (laneS lv key vs S L G') (laneM lv key vs S.ce L S.f).1 (laneM lv key vs S.ce L S.f).2.1 w') := fun s L' hM hc => by
      refine (val1Yes_l (bhL 4) (enters_bhL 4) hok hE0 s _ hc).mono ?_
      rintro o w1 ⟨rfl, hR⟩
      refine ⟨s, rfl, ?_, S.G, ?_⟩
      · rw [hM]
      · rw [hM, hS]
        exact hR
    clear hE hn
    refine hgo 0 { L with pc := if markB L.X then 5 else 6 } (by simp [laneM, holdsM, hpc, hok]) fun v hv => ?_
    refine (out_l hL.X hg hv).mono ?_
    rintro o w1 ⟨rfl, hE1⟩
    cases hmk : markB L.X
    · rw [hmk] at hE1
      exact ⟨rfl, _, wd, _, _, fun _ => ⟨⟨fun _ => rfl, fun h => absurd h (by simp [isVal])⟩, fun h => absurd h (by simp), fun h => absurd h (by simp)⟩, hE1⟩
    · rw [hmk] at hE1
      exact ⟨rfl, _, wd, _, _, fun _ => ⟨⟨fun _ => rfl, fun h => absurd h (by simp [isVal])⟩, fun h => absurd h (by simp), fun h => absurd h (by simp)⟩, hE1⟩
  · have hok : okB (S.f (1, 0, 0)) S.ce = false := by simpa using hok
    have hM : laneM lv key vs S.ce L S.f = (2, L, S.f) := by simp [laneM, hpc, hok]
    have hS : ∀ G, laneS lv key vs S L G = { S with G := G, qc := { S.qc with l := wrap64 (S.qc.l + 1) }, cr := wrap64 (S.cr + 1) } := fun G => by simp [laneS, laneQ, rollM, hM, hpc, isVal, hok]
    rw [hM]
    refine stepCv_l b1 b2 _ _ hn4 hs5 ?_
    refine (val1No_l _ hok hE0).mono ?_
    rintro o w1 ⟨rfl, nx, hE1⟩
    refine ⟨2, rfl, rfl, S.G, ?_⟩
    rw [hS]
    exact ⟨nx, wd, _, _, fun h => absurd h (by simp), hE1⟩

set_option maxHeartbeats 1600000 in
theorem lane_7 (hpc : L.pc = 7) (hL : LmOk L) (hlv : 0 ≤ lv ∧ lv ≤ 1000000) (hwf : Wf L.p) (hg : Glo w0) (hm : S.m < maxLen) (h : LaneR w0 R a lv key vs S 0 L w) :
    Calls Tryz.prog 181 #[.pointer (some ⟨a, 0, none⟩), .iface 26 (.pointer (some ⟨S.p, 0, none⟩))] w fun o w' => o = .returned (.int .i64 (laneM lv key vs S.ce L S.f).1) ∧ ∃ G', LaneR w0 R a lv key vs (laneS lv key vs S L G') (laneM lv key vs S.ce L S.f).1 (laneM lv key vs S.ce L S.f).2.1 w' := by
  obtain ⟨nx, wd, B1, B2, hn, hE⟩ := h
  obtain ⟨⟨-, hnx⟩, hw7, hw9⟩ := hn rfl
  obtain ⟨b1, b2, rfl, rfl, rfl⟩ := hnx (by rw [hpc]; rfl)
  rw [hpc] at hE hw7 hw9
  have hn4 : w.cell? ⟨a, 4, none⟩ = some (cvL b1 b2) := by rw [hE.rule 0 rfl 4]; rfl
  have hs5 : w.cell? ⟨a, 5, none⟩ = some (.int .i64 0) := hE.rule 0 rfl 5
  have hE0 : Env w0 (boxI a (laneC S.c lv key vs (cvL b1 b2) 0 L.p.1 L.p.2.1 L.p.2.2 L.W L.C L.X wd false 0) :: boxI b1 [.pointer (some ⟨a, 0, none⟩)] :: boxI b2 [mvL (bhL 7) a] :: LT S R) w := hE
  by_cases hok : okB (S.f (1, 0, 0)) S.ce = true
  · have hS : ∀ G, laneS lv key vs S L G = { S with G := G, qc := { S.qc with l := wrap64 (S.qc.l + 1) } } := fun G => by simp [laneS, laneQ, rollM, laneM, hpc, isVal, hok]
    refine stepCv_l b1 b2 _ _ hn4 hs5 ?_
    have hgo : ∀ (s : Int) (L' : Lm), laneM lv key vs S.ce L S.f = (s, L', S.f) → (∀ v, Env w0 (boxI a (laneC S.c lv key vs (cvL b1 b2) 0 L.p.1 L.p.2.1 L.p.2.2 L.W L.C L.X wd false 0) :: boxI b1 [.pointer (some ⟨a, 0, none⟩)] :: boxI b2 [mvL (bhL 7) a] :: LT { S with qc := { S.qc with l := wrap64 (S.qc.l + 1) } } R) v → Calls Tryz.prog (bhL 7) #[.pointer (some ⟨a, 0, none⟩)] v fun o w' => o = .returned (.int .i64 s) ∧ LaneR w0 R a lv key vs { S with qc := { S.qc with l := wrap64 (S.qc.l + 1) } } s L' w') →
        Calls Tryz.prog 261 #[.iface 26 (.pointer (some ⟨S.p, 0, none⟩)), .pointer (some ⟨b1, 0, none⟩), .pointer (some ⟨b2, 0, none⟩)] w fun e w' => ∃ s, e = .returned (.int .i64 s) ∧ ((.returned (.int .i64 s) : Ending) = .returned (.int .i64 (laneM lv key vs S.ce L S.f).1) ∧ ∃ G', LaneR w0 R a lv key vs (laneS lv key vs S L G') (laneM lv key vs S.ce L S.f).1 (laneM lv key vs S.ce L S.f).2.1 w') := fun s L' hM hc => by
      refine (val1Yes_l (bhL 7) (enters_bhL 7) hok hE0 s _ hc).mono ?_
      rintro o w1 ⟨rfl, hR⟩
      refine ⟨s, rfl, ?_, S.G, ?_⟩
      · rw [hM]
      · rw [hM, hS]
        exact hR
    clear hE hn
    have hV : L.V = 0 := hL.v (by omega)
    have hfd : L.fd = false := hL.fd (by omega)
    have hwd : wd = L.K := hw7 rfl
    subst hwd
    by_cases hlt : L.K < key
    · refine hgo (cS L.X) { L with p := (5, L.C, 7 + lv), W := L.X, X := 0, C := slotI L.X, pc := 3 } (by simp [laneM, holdsM, hpc, hok, hlt, comeM_cS]) fun v hv => ?_
      refine (keyLess_l hlt hlv hL.X hg hv).mono ?_
      rintro o w1 ⟨rfl, nx, hnx, hE1⟩
      exact ⟨rfl, LaneR.came (L := { L with p := (5, L.C, 7 + lv) }) rfl hfd hV hnx hE1⟩
    · by_cases heq : L.K = key
      · cases vs
        · refine hgo 1 { L with fd := true } (by simp [laneM, holdsM, hpc, hok, heq]) fun v hv => ?_
          refine (keyFound_l heq hv).mono ?_
          rintro o w1 ⟨rfl, nx, hE1⟩
          have h2 : pvS 1 { L with fd := true } = 0 := hV
          refine ⟨rfl, nx, L.K, boxI b1 [.pointer (some ⟨a, 0, none⟩)], boxI b2 [mvL (bhL 7) a], fun h => absurd h (by simp), ?_⟩
          rw [h2]
          exact hE1
        · refine hgo 0 { L with fd := true, pc := 8 } (by simp [laneM, holdsM, hpc, hok, heq]) fun v hv => ?_
          refine (keyVal_l heq hv).mono ?_
          rintro o w1 ⟨rfl, hE1⟩
          exact ⟨rfl, _, L.K, _, _, fun _ => ⟨⟨fun _ => rfl, fun h => absurd h (by simp [isVal])⟩, fun h => absurd h (by simp), fun h => absurd h (by simp)⟩, hE1⟩
      · refine hgo 1 L (by simp [laneM, holdsM, hpc, hok, hlt, heq]) fun v hv => ?_
        refine (keyMore_l (by omega) hv).mono ?_
        rintro o w1 ⟨rfl, nx, hE1⟩
        have h1 : pfS 1 L = false := hfd
        have h2 : pvS 1 L = 0 := hV
        refine ⟨rfl, nx, L.K, boxI b1 [.pointer (some ⟨a, 0, none⟩)], boxI b2 [mvL (bhL 7) a], fun h => absurd h (by simp), ?_⟩
        rw [h1, h2]
        exact hE1
  · have hok : okB (S.f (1, 0, 0)) S.ce = false := by simpa using hok
    have hM : laneM lv key vs S.ce L S.f = (2, L, S.f) := by simp [laneM, hpc, hok]
    have hS : ∀ G, laneS lv key vs S L G = { S with G := G, qc := { S.qc with l := wrap64 (S.qc.l + 1) }, cr := wrap64 (S.cr + 1) } := fun G => by simp [laneS, laneQ, rollM, hM, hpc, isVal, hok]
    rw [hM]
    refine stepCv_l b1 b2 _ _ hn4 hs5 ?_
    refine (val1No_l _ hok hE0).mono ?_
    rintro o w1 ⟨rfl, nx, hE1⟩
    refine ⟨2, rfl, rfl, S.G, ?_⟩
    rw [hS]
    exact ⟨nx, wd, _, _, fun h => absurd h (by simp), hE1⟩

set_option maxHeartbeats 1600000 in
theorem lane_9 (hpc : L.pc = 9) (hL : LmOk L) (hlv : 0 ≤ lv ∧ lv ≤ 1000000) (hwf : Wf L.p) (hg : Glo w0) (hm : S.m < maxLen) (h : LaneR w0 R a lv key vs S 0 L w) :
    Calls Tryz.prog 181 #[.pointer (some ⟨a, 0, none⟩), .iface 26 (.pointer (some ⟨S.p, 0, none⟩))] w fun o w' => o = .returned (.int .i64 (laneM lv key vs S.ce L S.f).1) ∧ ∃ G', LaneR w0 R a lv key vs (laneS lv key vs S L G') (laneM lv key vs S.ce L S.f).1 (laneM lv key vs S.ce L S.f).2.1 w' := by
  obtain ⟨nx, wd, B1, B2, hn, hE⟩ := h
  obtain ⟨⟨-, hnx⟩, hw7, hw9⟩ := hn rfl
  obtain ⟨b1, b2, rfl, rfl, rfl⟩ := hnx (by rw [hpc]; rfl)
  rw [hpc] at hE hw7 hw9
  have hn4 : w.cell? ⟨a, 4, none⟩ = some (cvL b1 b2) := by rw [hE.rule 0 rfl 4]; rfl
  have hs5 : w.cell? ⟨a, 5, none⟩ = some (.int .i64 0) := hE.rule 0 rfl 5
  have hE0 : Env w0 (boxI a (laneC S.c lv key vs (cvL b1 b2) 0 L.p.1 L.p.2.1 L.p.2.2 L.W L.C L.X wd false 0) :: boxI b1 [.pointer (some ⟨a, 0, none⟩)] :: boxI b2 [mvL (bhL 9) a] :: LT S R) w := hE
  by_cases hok : okB (S.f (1, 0, 0)) S.ce = true
  · have hS : ∀ G, laneS lv key vs S L G = { S with G := G, qc := { S.qc with l := wrap64 (S.qc.l + 1) } } := fun G => by simp [laneS, laneQ, rollM, laneM, hpc, isVal, hok]
    refine stepCv_l b1 b2 _ _ hn4 hs5 ?_
    have hgo : ∀ (s : Int) (L' : Lm), laneM lv key vs S.ce L S.f = (s, L', S.f) → (∀ v, Env w0 (boxI a (laneC S.c lv key vs (cvL b1 b2) 0 L.p.1 L.p.2.1 L.p.2.2 L.W L.C L.X wd false 0) :: boxI b1 [.pointer (some ⟨a, 0, none⟩)] :: boxI b2 [mvL (bhL 9) a] :: LT { S with qc := { S.qc with l := wrap64 (S.qc.l + 1) } } R) v → Calls Tryz.prog (bhL 9) #[.pointer (some ⟨a, 0, none⟩)] v fun o w' => o = .returned (.int .i64 s) ∧ LaneR w0 R a lv key vs { S with qc := { S.qc with l := wrap64 (S.qc.l + 1) } } s L' w') →
        Calls Tryz.prog 261 #[.iface 26 (.pointer (some ⟨S.p, 0, none⟩)), .pointer (some ⟨b1, 0, none⟩), .pointer (some ⟨b2, 0, none⟩)] w fun e w' => ∃ s, e = .returned (.int .i64 s) ∧ ((.returned (.int .i64 s) : Ending) = .returned (.int .i64 (laneM lv key vs S.ce L S.f).1) ∧ ∃ G', LaneR w0 R a lv key vs (laneS lv key vs S L G') (laneM lv key vs S.ce L S.f).1 (laneM lv key vs S.ce L S.f).2.1 w') := fun s L' hM hc => by
      refine (val1Yes_l (bhL 9) (enters_bhL 9) hok hE0 s _ hc).mono ?_
      rintro o w1 ⟨rfl, hR⟩
      refine ⟨s, rfl, ?_, S.G, ?_⟩
      · rw [hM]
      · rw [hM, hS]
        exact hR
    clear hE hn
    have hft : L.fd = true := hL.ft (by omega)
    have hwd : wd = L.V := hw9 rfl
    subst hwd
    refine hgo 1 L (by simp [laneM, holdsM, hpc, hok]) fun v hv => ?_
    refine (val_l hv).mono ?_
    rintro o w1 ⟨rfl, nx, hE1⟩
    have h1 : pfS 1 L = true := hft
    refine ⟨rfl, nx, L.V, boxI b1 [.pointer (some ⟨a, 0, none⟩)], boxI b2 [mvL (bhL 9) a], fun h => absurd h (by simp), ?_⟩
    rw [h1]
    exact hE1
  · have hok : okB (S.f (1, 0, 0)) S.ce = false := by simpa using hok
    have hM : laneM lv key vs S.ce L S.f = (2, L, S.f) := by simp [laneM, hpc, hok]
    have hS : ∀ G, laneS lv key vs S L G = { S with G := G, qc := { S.qc with l := wrap64 (S.qc.l + 1) }, cr := wrap64 (S.cr + 1) } := fun G => by simp [laneS, laneQ, rollM, hM, hpc, isVal, hok]
    rw [hM]
    refine stepCv_l b1 b2 _ _ hn4 hs5 ?_
    refine (val1No_l _ hok hE0).mono ?_
    rintro o w1 ⟨rfl, nx, hE1⟩
    refine ⟨2, rfl, rfl, S.G, ?_⟩
    rw [hS]
    exact ⟨nx, wd, _, _, fun h => absurd h (by simp), hE1⟩

theorem lane_l (hL : LmOk L) (hlv : 0 ≤ lv ∧ lv ≤ 1000000) (hwf : Wf L.p) (hg : Glo w0) (hm : S.m < maxLen) (h : LaneR w0 R a lv key vs S 0 L w) :
    Calls Tryz.prog 181 #[.pointer (some ⟨a, 0, none⟩), .iface 26 (.pointer (some ⟨S.p, 0, none⟩))] w fun o w' => o = .returned (.int .i64 (laneM lv key vs S.ce L S.f).1) ∧ ∃ G', LaneR w0 R a lv key vs (laneS lv key vs S L G') (laneM lv key vs S.ce L S.f).1 (laneM lv key vs S.ce L S.f).2.1 w' := by
  rcases hL.pc with h0 | h0 | h0 | h0 | h0 | h0 | h0 | h0 | h0
  · exact lane_0 h0 hL hlv hwf hg hm h
  · exact lane_2 h0 hL hlv hwf hg hm h
  · exact lane_3 h0 hL hlv hwf hg hm h
  · exact lane_4 h0 hL hlv hwf hg hm h
  · exact lane_5 h0 hL hlv hwf hg hm h
  · exact lane_6 h0 hL hlv hwf hg hm h
  · exact lane_7 h0 hL hlv hwf hg hm h
  · exact lane_8 h0 hL hlv hwf hg hm h
  · exact lane_9 h0 hL hlv hwf hg hm h
end
end Go.Proofs.YtnnjanaclgjneaaGreatDoor

/- Lanes: what a lane keeps. -/
namespace Go.Proofs.YtnnjanaclgjneaaGreatDoor
open Go.RowKit Go.Maps
set_option maxRecDepth 100000

def St3 {α : Type} (q : Int × α) : Prop := q.1 = 0 ∨ q.1 = 1 ∨ q.1 = 2
theorem come_state (L : Lm) (v : Int) : St3 (comeM L v) := by
  unfold comeM
  by_cases h : slotI v = 0
  · simp [h, St3]
  · simp [h, St3]
theorem holds_state (lv key : Int) (vs : Bool) (L : Lm) : St3 (holdsM lv key vs L) := by
  unfold holdsM
  repeat' split
  all_goals first | exact come_state _ _ | simp [St3]
theorem lane_state (lv key : Int) (vs : Bool) (e : Int) (L : Lm) (f : Plc → Int) : (laneM lv key vs e L f).1 = 0 ∨ (laneM lv key vs e L f).1 = 1 ∨ (laneM lv key vs e L f).1 = 2 := by
  show St3 (laneM lv key vs e L f)
  unfold laneM
  repeat' split
  all_goals first | exact come_state L (wordI false (slotI L.X) e) | exact holds_state lv key vs L | simp [St3]
theorem cS_zero {v : Int} (h : cS v = 0) : slotI v ≠ 0 := fun h0 => by rw [cS, if_pos h0] at h; exact absurd h (by decide)
theorem LmOk.come {L : Lm} (hL : LmOk L) (h7 : L.pc ≤ 7) (v : Int) (hv : InU v) : LmOk { L with W := v, X := 0, C := slotI v, pc := 3 } :=
  ⟨by simp, fun _ => hL.v (by omega), fun _ => hL.fd h7, fun h => absurd h (by simp), fun _ => rfl, fun h => absurd h (by simp), hv, by simp [InU], slotI_in v⟩
/-- What a lane keeps, as long as it goes on. -/
theorem lane_ok {lv key : Int} {vs : Bool} {e : Int} {L : Lm} {f : Plc → Int} (hL : LmOk L) (hW : ∀ x, InU (f x)) (hp : Wf L.p) (hlv : 0 ≤ lv ∧ lv ≤ 1000000) (h0 : (laneM lv key vs e L f).1 = 0) : LmOk (laneM lv key vs e L f).2.1 ∧ Wf (laneM lv key vs e L f).2.1.p := by
  have hpc9 : L.pc ≤ 9 := by rcases hL.pc with h | h | h | h | h | h | h | h | h <;> omega
  rcases hL.pc with hpc | hpc | hpc | hpc | hpc | hpc | hpc | hpc | hpc
  · have hM : laneM lv key vs e L f = (0, { L with W := f L.p, pc := 2 }, f) := by simp [laneM, hpc]
    rw [hM]
    exact ⟨⟨by simp, fun _ => hL.v (by omega), fun _ => hL.fd (by omega), fun h => absurd h (by simp), fun _ => hL.x (by omega), fun _ => hL.c0 (by omega), hW _, hL.X, hL.C⟩, hp⟩
  · by_cases hok : okB (f (1, 0, 0)) e = true
    · by_cases hmk : markB L.W = true
      · have hM : laneM lv key vs e L f = (2, L, f) := by simp [laneM, holdsM, hpc, hok, hmk]
        rw [hM] at h0
        exact absurd h0 (by simp)
      · have hM : laneM lv key vs e L f = (cS L.W, { L with W := L.W, X := 0, C := slotI L.W, pc := 3 }, f) := by simp [laneM, holdsM, hpc, hok, hmk, comeM_cS]
        rw [hM]
        exact ⟨hL.come (by omega) _ hL.W, hp⟩
    · have hM : laneM lv key vs e L f = (2, L, f) := by simp [laneM, hpc, hok]
      rw [hM] at h0
      exact absurd h0 (by simp)
  · have hM : laneM lv key vs e L f = (0, { L with X := f (5, L.C, 7 + lv), pc := 4 }, f) := by simp [laneM, hpc]
    rw [hM]
    exact ⟨⟨by simp, fun _ => hL.v (by omega), fun _ => hL.fd (by omega), fun h => absurd h (by simp), fun h => absurd h (by simp), fun h => absurd h (by simp), hL.W, hW _, hL.C⟩, hp⟩
  · by_cases hok : okB (f (1, 0, 0)) e = true
    · have hM : laneM lv key vs e L f = (0, { L with pc := if markB L.X then 5 else 6 }, f) := by simp [laneM, holdsM, hpc, hok]
      rw [hM]
      cases markB L.X
      · exact ⟨⟨by simp, fun _ => hL.v (by omega), fun _ => hL.fd (by omega), fun h => absurd h (by simp), fun h => absurd h (by simp), fun h => absurd h (by simp), hL.W, hL.X, hL.C⟩, hp⟩
      · exact ⟨⟨by simp, fun _ => hL.v (by omega), fun _ => hL.fd (by omega), fun h => absurd h (by simp), fun h => absurd h (by simp), fun h => absurd h (by simp), hL.W, hL.X, hL.C⟩, hp⟩
    · have hM : laneM lv key vs e L f = (2, L, f) := by simp [laneM, hpc, hok]
      rw [hM] at h0
      exact absurd h0 (by simp)
  · by_cases heq : f L.p = L.W
    · have hM : laneM lv key vs e L f = (cS (wordI false (slotI L.X) e), { L with W := wordI false (slotI L.X) e, X := 0, C := slotI (wordI false (slotI L.X) e), pc := 3 }, swf f L.p L.W (wordI false (slotI L.X) e)) := by simp [laneM, hpc, heq, comeM_cS]
      rw [hM]
      exact ⟨hL.come (by omega) _ (wordI_in _ _ _), hp⟩
    · have hM : laneM lv key vs e L f = (2, L, swf f L.p L.W (wordI false (slotI L.X) e)) := by simp [laneM, hpc, heq]
      rw [hM] at h0
      exact absurd h0 (by simp)
  · have hM : laneM lv key vs e L f = (0, { L with K := f (5, L.C, 3), pc := 7 }, f) := by simp [laneM, hpc]
    rw [hM]
    exact ⟨⟨by simp, fun _ => hL.v (by omega), fun _ => hL.fd (by omega), fun h => absurd h (by simp), fun h => absurd h (by simp), fun h => absurd h (by simp), hL.W, hL.X, hL.C⟩, hp⟩
  · by_cases hok : okB (f (1, 0, 0)) e = true
    · by_cases hlt : L.K < key
      · have hM : laneM lv key vs e L f = (cS L.X, { L with p := (5, L.C, 7 + lv), W := L.X, X := 0, C := slotI L.X, pc := 3 }, f) := by simp [laneM, holdsM, hpc, hok, hlt, comeM_cS]
        rw [hM]
        have hLp : LmOk { L with p := (5, L.C, 7 + lv) } := ⟨hL.pc, hL.v, hL.fd, hL.ft, hL.x, hL.c0, hL.W, hL.X, hL.C⟩
        exact ⟨hLp.come (by show L.pc ≤ 7; omega) _ hL.X, wf_part hL.C (by omega)⟩
      · by_cases heq : L.K = key
        · cases vs
          · have hM : laneM lv key false e L f = (1, { L with fd := true }, f) := by simp [laneM, holdsM, hpc, hok, heq]
            rw [hM] at h0
            exact absurd h0 (by simp)
          · have hM : laneM lv key true e L f = (0, { L with fd := true, pc := 8 }, f) := by simp [laneM, holdsM, hpc, hok, heq]
            rw [hM]
            exact ⟨⟨by simp, fun _ => hL.v (by omega), fun h => absurd h (by simp), fun _ => rfl, fun h => absurd h (by simp), fun h => absurd h (by simp), hL.W, hL.X, hL.C⟩, hp⟩
        · have hM : laneM lv key vs e L f = (1, L, f) := by simp [laneM, holdsM, hpc, hok, hlt, heq]
          rw [hM] at h0
          exact absurd h0 (by simp)
    · have hM : laneM lv key vs e L f = (2, L, f) := by simp [laneM, hpc, hok]
      rw [hM] at h0
      exact absurd h0 (by simp)
  · have hM : laneM lv key vs e L f = (0, { L with V := f (5, L.C, 4), pc := 9 }, f) := by simp [laneM, hpc]
    rw [hM]
    exact ⟨⟨by simp, fun h => absurd h (by simp), fun h => absurd h (by simp), fun _ => hL.ft (by omega), fun h => absurd h (by simp), fun h => absurd h (by simp), hL.W, hL.X, hL.C⟩, hp⟩
  · by_cases hok : okB (f (1, 0, 0)) e = true
    · have hM : laneM lv key vs e L f = (1, L, f) := by simp [laneM, holdsM, hpc, hok]
      rw [hM] at h0
      exact absurd h0 (by simp)
    · have hM : laneM lv key vs e L f = (2, L, f) := by simp [laneM, hpc, hok]
      rw [hM] at h0
      exact absurd h0 (by simp)

end Go.Proofs.YtnnjanaclgjneaaGreatDoor

/- Finds: what they keep. -/
namespace Go.Proofs.YtnnjanaclgjneaaGreatDoor
open Go.RowKit Go.Maps
set_option maxRecDepth 100000

theorem down_ok {h : Nat} {key : Int} {F : Fm} {f : Plc → Int} (hh : 1 ≤ h) (hh2 : h ≤ 1000) (hF : FmOk h F) (hW : ∀ x, InU (f x)) (h0 : (downM h key F f).1 = 0) : FmOk h (downM h key F f).2.1 := by
  intro hon
  by_cases hn : F.on = true
  · obtain ⟨hlt, hL, hA⟩ := hF hn
    have hlv : (0 : Int) ≤ (F.lv : Int) ∧ (F.lv : Int) ≤ 1000000 := by omega
    have hok := lane_ok (key := key) (vs := false) (e := F.e) (f := f) hL hW (hA.wf (by omega)) hlv
    have hat : AtOk F.lv (laneM F.lv key false F.e (F.L F.lv) f).2.1.p := hA.lane hL.C
    unfold downM at h0 hon ⊢
    rw [if_pos hn] at h0 hon ⊢
    dsimp only at h0 hon ⊢
    rcases lane_state F.lv key false F.e (F.L F.lv) f with h1 | h1 | h1
    · rw [if_neg (by rw [h1]; decide), if_neg (by rw [h1]; simp)]
      refine ⟨hlt, ?_, ?_⟩
      · show LmOk (setN (α := Lm) _ _ _ F.lv)
        rw [setN_same]
        exact (hok h1).1
      · show AtOk _ (setN (α := Lm) _ _ _ F.lv).p
        rw [setN_same]
        exact hat
    · by_cases h2 : F.lv = 0
      · rw [if_pos ⟨h1, h2⟩] at h0
        exact absurd h0 (by decide)
      · rw [if_neg (by rw [h1]; decide), if_pos ⟨h1, h2⟩]
        have e1 : ((F.lv - 1 : Nat) : Int) = (F.lv : Int) - 1 := by omega
        refine ⟨?_, ?_, ?_⟩
        · show F.lv - 1 < h
          omega
        · show LmOk (setN (α := Lm) _ _ _ (F.lv - 1))
          rw [setN_same]
          exact LmOk.start _
        · show AtOk _ (setN (α := Lm) _ _ _ (F.lv - 1)).p
          rw [setN_same]
          show AtOk ((F.lv - 1 : Nat) : Int) (belowP _)
          rw [e1]
          exact hat.below
    · rw [if_pos h1] at hon
      exact absurd hon (by simp)
  · unfold downM
    rw [if_neg hn]
    refine ⟨?_, ?_, ?_⟩
    · show h - 1 < h
      omega
    · show LmOk (setN (α := Lm) _ _ _ (h - 1))
      rw [setN_same]
      exact LmOk.start _
    · show AtOk _ (setN (α := Lm) _ _ _ (h - 1)).p
      rw [setN_same]
      exact .inl rfl
theorem down_state (h : Nat) (key : Int) (F : Fm) (f : Plc → Int) : (downM h key F f).1 = 0 ∨ (downM h key F f).1 = 1 := by
  unfold downM
  repeat' split
  all_goals simp
end Go.Proofs.YtnnjanaclgjneaaGreatDoor

/- Threads: the contract of step, where an Alloc goes on. -/
namespace Go.Proofs.YtnnjanaclgjneaaGreatDoor
open Go.RowKit Go.Maps
set_option maxRecDepth 100000

/-- Permutations of things, by counting. -/
theorem perm_of {L L' : List Item} (h : ∀ [BEq Item] [LawfulBEq Item] (z : Item), L.count z = L'.count z) : L.Perm L' := by
  classical
  exact List.perm_iff_count.2 fun z => h z
theorem Env.mem {w0 w : World} {L : List Item} (h : Env w0 L w) {a : Item} (ha : a ∈ L) : a.says w := (h.2.2 a ha).1
end Go.Proofs.YtnnjanaclgjneaaGreatDoor

/- The reference's Finds: their blocks; a checkpoint, and the highest level's lane. -/
namespace Go.Proofs.YtnnjanaclgjneaaGreatDoor
open Go.RowKit Go.Maps
set_option maxRecDepth 100000

/-- A reference's Find's cells: its key, its level, sixteen lanes of thirteen cells. -/
def blkF (key lv : Int) (V : Nat → List Value) : List Value := .int .u64 key :: .int .i64 lv :: (List.range 16).flatMap V
theorem split16 : ∀ l, l < 16 → List.range 16 = List.range l ++ l :: List.range' (l + 1) (15 - l) := by decide
theorem flat_congr {V V' : Nat → List Value} : ∀ (l : List Nat), (∀ i ∈ l, V i = V' i) → l.flatMap V = l.flatMap V'
  | [], _ => rfl
  | a :: r, h => by
    rw [List.flatMap_cons, List.flatMap_cons, h a (List.mem_cons_self ..), flat_congr r fun i hi => h i (List.mem_cons_of_mem _ hi)]
def preF (key lv : Int) (V : Nat → List Value) (l : Nat) : List Value := .int .u64 key :: .int .i64 lv :: (List.range l).flatMap V
def postF (V : Nat → List Value) (l : Nat) : List Value := (List.range' (l + 1) (15 - l)).flatMap V
theorem blkF_split (key lv : Int) (V : Nat → List Value) {l : Nat} (h : l < 16) : blkF key lv V = wr (preF key lv V l) (postF V l) (V l) := by
  unfold blkF wr preF postF
  rw [split16 l h, List.flatMap_append, List.flatMap_cons]
  simp
theorem preF_length (key lv : Int) {V : Nat → List Value} (hV : ∀ i, (V i).length = 13) : ∀ l, (preF key lv V l).length = 2 + l * 13
  | 0 => rfl
  | l + 1 => by
    have ih := preF_length key lv hV l
    unfold preF at ih ⊢
    rw [List.range_succ, List.flatMap_append]
    simp only [List.length_cons, List.length_append, List.flatMap_cons, List.flatMap_nil, List.append_nil, hV] at ih ⊢
    omega
theorem preF_set (key lv : Int) (V : Nat → List Value) (l : Nat) (x : List Value) : preF key lv (setN V l x) l = preF key lv V l := by
  unfold preF
  rw [flat_congr _ fun i hi => setN_other _ _ (show i ≠ l by rw [List.mem_range] at hi; omega)]
theorem postF_set (V : Nat → List Value) (l : Nat) (x : List Value) : postF (setN V l x) l = postF V l := by
  unfold postF
  rw [flat_congr _ fun i hi => setN_other _ _ (show i ≠ l by rw [List.mem_range'_1] at hi; omega)]
theorem blkF_set (key lv : Int) (V : Nat → List Value) {l : Nat} (h : l < 16) (x : List Value) : wr (preF key lv V l) (postF V l) x = blkF key lv (setN V l x) := by
  rw [blkF_split key lv (setN V l x) h, preF_set, postF_set, setN_same]
theorem len13 : ∀ {l : List Value}, l.length = 13 → ∃ a0 a1 a2 a3 a4 a5 a6 a7 a8 a9 a10 a11 a12, l = [a0, a1, a2, a3, a4, a5, a6, a7, a8, a9, a10, a11, a12]
  | [a0, a1, a2, a3, a4, a5, a6, a7, a8, a9, a10, a11, a12], _ => ⟨a0, a1, a2, a3, a4, a5, a6, a7, a8, a9, a10, a11, a12, rfl⟩
theorem rlV_length (lv key : Int) (vs : Bool) (L : Lm) : (rlV lv key vs L).length = 13 := rfl
theorem setN_length {V : Nat → List Value} (hV : ∀ i, (V i).length = 13) {l : Nat} {x : List Value} (hx : x.length = 13) : ∀ i, (setN V l x i).length = 13 := fun i => by
  by_cases e : i = l
  · rw [e, setN_same]; exact hx
  · rw [setN_other _ _ e]; exact hV i
theorem blkF_lv (key lv lv' : Int) (V : Nat → List Value) : (blkF key lv V).set 1 (.int .i64 lv') = blkF key lv' V := rfl
section
variable {w0 w : World} {L : List Item} {q : Nat} {b0 b1 b2 b3 b4 b5 b6 b7 b8 b9 b10 b11 b12 : Value}
/-- Thirteen cells at once. -/
theorem Env.put13 (hE : Env w0 L w) {PP TT : List Value} {k0 : Nat} (hp : PP.length = k0) (hi : L[0]? = some (boxI q (wr PP TT [b0, b1, b2, b3, b4, b5, b6, b7, b8, b9, b10, b11, b12]))) (a0 a1 a2 a3 a4 a5 a6 a7 a8 a9 a10 a11 a12 : Value) :
    Env w0 (L.set 0 (boxI q (wr PP TT [a0, a1, a2, a3, a4, a5, a6, a7, a8, a9, a10, a11, a12]))) (((((((((((((w.setCell ⟨q, k0, none⟩ a0).setCell ⟨q, k0 + 1, none⟩ a1).setCell ⟨q, k0 + 2, none⟩ a2).setCell ⟨q, k0 + 3, none⟩ a3).setCell ⟨q, k0 + 4, none⟩ a4).setCell ⟨q, k0 + 5, none⟩ a5).setCell ⟨q, k0 + 6, none⟩ a6).setCell ⟨q, k0 + 7, none⟩ a7).setCell ⟨q, k0 + 8, none⟩ a8).setCell ⟨q, k0 + 9, none⟩ a9).setCell ⟨q, k0 + 10, none⟩ a10).setCell ⟨q, k0 + 11, none⟩ a11).setCell ⟨q, k0 + 12, none⟩ a12) := by
  obtain ⟨x, r, rfl⟩ : ∃ x r, L = x :: r := by
    cases L with
    | nil => cases hi
    | cons x r => exact ⟨x, r, rfl⟩
  obtain rfl : x = boxI q (wr PP TT [b0, b1, b2, b3, b4, b5, b6, b7, b8, b9, b10, b11, b12]) := by simpa using hi
  exact ((((((((((((hE.putW0 hp 0 rfl (by simp) a0).putW hp 0 rfl (j := 1) (by simp) a1).putW hp 0 rfl (j := 2) (by simp) a2).putW hp 0 rfl (j := 3) (by simp) a3).putW hp 0 rfl (j := 4) (by simp) a4).putW hp 0 rfl (j := 5) (by simp) a5).putW hp 0 rfl (j := 6) (by simp) a6).putW hp 0 rfl (j := 7) (by simp) a7).putW hp 0 rfl (j := 8) (by simp) a8).putW hp 0 rfl (j := 9) (by simp) a9).putW hp 0 rfl (j := 10) (by simp) a10).putW hp 0 rfl (j := 11) (by simp) a11).putW hp 0 rfl (j := 12) (by simp) a12
theorem Env.facts13 (hE : Env w0 L w) {PP TT : List Value} {k0 : Nat} (hp : PP.length = k0) (hi : L[0]? = some (boxI q (wr PP TT [b0, b1, b2, b3, b4, b5, b6, b7, b8, b9, b10, b11, b12]))) :
    (w.cell? ⟨q, k0, none⟩ = some b0 ∧ w.cell? ⟨q, k0 + 1, none⟩ = some b1 ∧ w.cell? ⟨q, k0 + 2, none⟩ = some b2 ∧ w.cell? ⟨q, k0 + 3, none⟩ = some b3 ∧ w.cell? ⟨q, k0 + 4, none⟩ = some b4 ∧ w.cell? ⟨q, k0 + 5, none⟩ = some b5 ∧ w.cell? ⟨q, k0 + 6, none⟩ = some b6 ∧ w.cell? ⟨q, k0 + 7, none⟩ = some b7 ∧ w.cell? ⟨q, k0 + 8, none⟩ = some b8 ∧ w.cell? ⟨q, k0 + 9, none⟩ = some b9 ∧ w.cell? ⟨q, k0 + 10, none⟩ = some b10 ∧ w.cell? ⟨q, k0 + 11, none⟩ = some b11 ∧ w.cell? ⟨q, k0 + 12, none⟩ = some b12) ∧
    (w.frozen? ⟨q, k0, none⟩ = false ∧ w.frozen? ⟨q, k0 + 1, none⟩ = false ∧ w.frozen? ⟨q, k0 + 2, none⟩ = false ∧ w.frozen? ⟨q, k0 + 3, none⟩ = false ∧ w.frozen? ⟨q, k0 + 4, none⟩ = false ∧ w.frozen? ⟨q, k0 + 5, none⟩ = false ∧ w.frozen? ⟨q, k0 + 6, none⟩ = false ∧ w.frozen? ⟨q, k0 + 7, none⟩ = false ∧ w.frozen? ⟨q, k0 + 8, none⟩ = false ∧ w.frozen? ⟨q, k0 + 9, none⟩ = false ∧ w.frozen? ⟨q, k0 + 10, none⟩ = false ∧ w.frozen? ⟨q, k0 + 11, none⟩ = false ∧ w.frozen? ⟨q, k0 + 12, none⟩ = false) := by
  have g : ∀ j, j < 13 → w.cell? ⟨q, k0 + j, none⟩ = [b0, b1, b2, b3, b4, b5, b6, b7, b8, b9, b10, b11, b12][j]? := fun j hj => by rw [hE.rule 0 hi, wr_get hp (by simpa using hj)]
  have f : ∀ j, j < 13 → w.frozen? ⟨q, k0 + j, none⟩ = false := fun j hj => hE.thawW hp 0 hi j (by simpa using hj)
  exact ⟨⟨g 0 (by omega), g 1 (by omega), g 2 (by omega), g 3 (by omega), g 4 (by omega), g 5 (by omega), g 6 (by omega), g 7 (by omega), g 8 (by omega), g 9 (by omega), g 10 (by omega), g 11 (by omega), g 12 (by omega)⟩, f 0 (by omega), f 1 (by omega), f 2 (by omega), f 3 (by omega), f 4 (by omega), f 5 (by omega), f 6 (by omega), f 7 (by omega), f 8 (by omega), f 9 (by omega), f 10 (by omega), f 11 (by omega), f 12 (by omega)⟩
end

section
variable {uc : Uc} {w0 w : World} {R : List Item} {q u m N : Nat} {G : Nat → Prop} {ml : List OneR} {key e ro l0 : Int} {V : Nat → List Value}
set_option maxHeartbeats 3200000 in
theorem roff_f (t : Nat) (ht : t < 16) (huc : uc.h = (t : Int) + 1) (hneg : l0 < 0) (hV : ∀ i, (V i).length = 13) (hml : ml.length ≤ 1000000) (hu : InU (getL ml (1, 0, 0))) (hE : Env w0 (boxI q (blkF key l0 V) :: boxI u (ruC uc e ro) :: refI m G ml :: R) w) :
    Calls Tryz.prog 47 #[.pointer (some ⟨q, 0, none⟩), .pointer (some ⟨u, 0, none⟩), .pointer (some ⟨m, 0, none⟩)] w fun o w' => o = .returned (.int .i64 0) ∧ Env w0 (boxI q (blkF key t (setN V t (rlV t key false (L0 (4, 0, (t : Int)))))) :: boxI u (ruC uc (epI (getL ml (1, 0, 0))) ro) :: refI m G ml :: R) w' := by
  have hc := rcheck_w (L := boxI q (blkF key l0 V) :: boxI u (ruC uc e ro) :: refI m G ml :: R) (k := uc.k) (s := uc.s) (b := uc.b) (h := uc.h) (l := uc.l) (A := uc.A) (n := uc.n) (c := uc.c) (N := uc.N) (hs := uc.hs) (r := ro) (e := e) _ (rfl : getL ml (1, 0, 0) = getL ml (1, 0, 0)) hu hml 1 2 hE rfl rfl
  simp only [List.set_cons_succ, List.set_cons_zero] at hc
  obtain ⟨e1, he1⟩ : ∃ e1, epI (getL ml (1, 0, 0)) = e1 := ⟨_, rfl⟩
  rw [he1] at hc ⊢
  have HC := Lib.hid hc
  have hb0 : decide (l0 < 0) = true := by simpa using hneg
  have r0 : w.cell? ⟨q, 1, none⟩ = some (.int .i64 l0) := hE.rule 0 rfl 1
  have HUC := Lib.hid huc
  clear hc hneg hu hml he1 huc
  go_enter Tryz.func47, Tryz.ntmps47
  go_wp2_with fail
  refine HC.out.mono ?_
  rintro o w1 ⟨rfl, hE1⟩
  replace hE1 : Env w0 (boxI q (blkF key l0 V) :: boxI u (ruC uc e1 ro) :: refI m G ml :: R) w1 := hE1
  clear HC hE r0
  have r3 : w1.cell? ⟨u, 3, none⟩ = some (.int .i64 ((t : Int) + 1)) := by rw [← HUC.out]; exact hE1.rule 1 rfl 3
  have r1 : w1.cell? ⟨q, 1, none⟩ = some (.int .i64 l0) := hE1.rule 0 rfl 1
  have f1 := hE1.thaw 0 rfl 1 (by simp [blkF])
  have ht2 : t ≤ 15 := by omega
  have hE2 := hE1.put 0 rfl (j := 1) (by simp [blkF]) (.int .i64 t)
  rw [blkF_lv] at hE2
  simp only [List.set_cons_zero] at hE2
  go_upto_region 4 with fail
  generalize World.setCell _ _ _ = w2 at *
  clear r1 r3 f1 hE1
  rw [blkF_split key t V ht] at hE2
  have hpl := preF_length key (t : Int) hV t
  obtain ⟨b0, b1, b2, b3, b4, b5, b6, b7, b8, b9, b10, b11, b12, hb⟩ := len13 (hV t)
  rw [hb] at hE2
  have HFN : Hid (wr (preF key t V t) (postF V t) (rlV t key false (L0 (4, 0, (t : Int)))) = blkF key t (setN V t (rlV t key false (L0 (4, 0, (t : Int)))))) := Lib.hid (blkF_set key t V ht _)
  obtain ⟨PP, hPP⟩ : ∃ PP, preF key t V t = PP := ⟨_, rfl⟩
  obtain ⟨TT, hTT⟩ : ∃ TT, postF V t = TT := ⟨_, rfl⟩
  have HC2 : Hid (∀ vs v, Env w0 (boxI q (wr PP TT vs) :: boxI u (ruC uc e1 ro) :: refI m G ml :: R) v → v.cell? ⟨q, 0, none⟩ = some (.int .u64 key) ∧ v.cell? ⟨q, 1, none⟩ = some (.int .i64 t)) := Lib.hid fun vs v hv => by
    have h0 := hv.rule 0 rfl 0
    have h1 := hv.rule 0 rfl 1
    rw [← hPP] at h0 h1
    exact ⟨h0, h1⟩
  rw [hPP, hTT] at hE2 HFN
  rw [hPP] at hpl
  have HPL := Lib.hid hpl
  have ht3 : (t : Int) < 16 := by omega
  clear hpl hb hPP hTT hb0
  refine Ord.wp_chain [22] (fun v => v.cell? ⟨q, 0, none⟩ = some (.int .u64 key) ∧ v.cell? ⟨q, 1, none⟩ = some (.int .i64 t)) (fun k w' => Env w0 (boxI q (wr PP TT (if k = 0 then [b0, b1, b2, b3, b4, b5, b6, b7, b8, b9, b10, b11, b12] else rlV t key false (L0 (4, 0, (t : Int))))) :: boxI u (ruC uc e1 ro) :: refI m G ml :: R) w') (by kernel_rfl) (by kernel_rfl) (by kernel_rfl) (HC2.out _ _ hE2.drew) hE2.drew (fun hT => ?_)
  have hT9 := Lib.hid hT
  clear hT
  repeat (first
    | (refine Ord.ch_value (v := ?_) hT9.out (by decide) (by rfl) ?_ ?_; rotate_left; (focus (intro w5 hS; obtain ⟨c0, c1⟩ := hS; go_simp <;> with_reducible rfl)); (try simp only [Act.put, List.setIfInBounds_toArray, List.set_cons_zero, List.set_cons_succ]))
    | (refine Ord.ch_off hT9.out (by decide) (by rfl) ?_; (try simp only [Act.put, List.setIfInBounds_toArray, List.set_cons_zero, List.set_cons_succ])))
  refine Ord.ch_turn (v := undef) 0 hT9.out rfl (by decide) (Or.inl rfl) (by rfl) ?_ ?_
  · rintro w5 hC5 hA5
    simp only [if_true] at hA5
    obtain ⟨⟨c0, c1, c2, c3, c4, c5, c6, c7, c8, c9, c10, c11, c12⟩, f0, f1, f2, f3, f4, f5, f6, f7, f8, f9, f10, f11, f12⟩ := hA5.facts13 HPL.out rfl
    have hE7 := hA5.put13 HPL.out rfl (.int .i64 4) (.int .i64 0) (.int .i64 t) (.int .i64 t) (.int .u64 key) (.bool false) (.int .i64 0) (.int .u64 0) (.int .u64 0) (.int .u64 0) (.int .u64 0) (.int .i64 0) (.bool false)
    go_simp
    exact ⟨rfl, HC2.out _ _ hE7, hE7⟩
  (try simp only [Act.put, List.setIfInBounds_toArray, List.set_cons_zero, List.set_cons_succ])
  refine Ord.InText.nil fun w5 hS => ?_
  clear hT9
  obtain ⟨hC9, hA9⟩ := Ord.chain_end hS
  clear hS
  simp only [List.length_cons, List.length_nil, Nat.zero_add, Nat.one_ne_zero, if_false] at hA9
  rw [HFN.out] at hA9
  clear hC9 hE2
  go_wp2_with fail
  go_ret
  exact ⟨rfl, hA9⟩
end
end Go.Proofs.YtnnjanaclgjneaaGreatDoor

/- The reference's Finds: a lane's step, and what comes behind its end. -/
namespace Go.Proofs.YtnnjanaclgjneaaGreatDoor
open Go.RowKit Go.Maps
set_option maxRecDepth 100000

/-- Where a lane of a higher level ended, the next lower one begins. -/
def LowOk (s : Int) (lv : Nat) (key : Int) (Lq : Lm) (V' : Nat → List Value) : Prop := s = 1 → lv ≠ 0 → V' (lv - 1) = rlV ((lv - 1 : Nat) : Int) key false (L0 (belowP Lq.p))
section
variable {uc : Uc} {w0 w : World} {R : List Item} {q u m N : Nat} {G : Nat → Prop} {ml : List OneR} {key e ro : Int} {V : Nat → List Value} {f : Plc → Int} {L : Lm}
set_option maxHeartbeats 6400000 in
theorem ron_f (lv : Nat) (hlv : lv < 16) (hV : ∀ i, (V i).length = 13) (hVl : V lv = rlV lv key false L) (hL : LmOk L) (hA : AtOk lv L.p) (he : 0 ≤ e ∧ e ≤ 9223372036854775807) (hu : ∀ x, InU (f x)) (hN : N ≤ 1000000) (hf : getL ml = f) (hml : ml.length ≤ N) (hE : Env w0 (boxI q (blkF key lv V) :: boxI u (ruC uc e ro) :: refI m G ml :: R) w) (s : Int) (Lq : Lm) (fq : Plc → Int) (rq : Int) (hq : laneM lv key false e L f = (s, Lq, fq)) (hr : rollM e L f ro = rq) :
    Calls Tryz.prog 47 #[.pointer (some ⟨q, 0, none⟩), .pointer (some ⟨u, 0, none⟩), .pointer (some ⟨m, 0, none⟩)] w fun o w' => ∃ s', o = .returned (.int .i64 s') ∧ s' = (if s = 1 ∧ lv = 0 then 1 else 0) ∧ ∃ V', (∀ i, (V' i).length = 13) ∧ V' lv = rlV lv key false Lq ∧ (∀ l, lv < l → V' l = V l) ∧ LowOk s lv key Lq V' ∧ ∃ ml', getL ml' = fq ∧ ml'.length ≤ N + 1 ∧ ∃ G',
      Env w0 (boxI q (blkF key (if s = 2 then -1 else if s = 1 ∧ lv ≠ 0 then ((lv - 1 : Nat) : Int) else lv) V') :: boxI u (ruC uc e rq) :: refI m G' ml' :: R) w' := by
  have hsl := lane_state lv key false e L f
  have hat : AtOk lv Lq.p := by
    have h9 : AtOk lv (laneM lv key false e L f).2.1.p := hA.lane hL.C
    rw [hq] at h9
    exact h9
  rw [hq] at hsl
  dsimp only at hsl
  have HFN : Hid (∀ x, wr (preF key lv V lv) (postF V lv) x = blkF key lv (setN V lv x)) := Lib.hid fun x => blkF_set key lv V hlv x
  have hpl := preF_length key (lv : Int) hV lv
  rw [blkF_split key lv V hlv, hVl] at hE
  obtain ⟨PP, hPP⟩ : ∃ PP, preF key lv V lv = PP := ⟨_, rfl⟩
  obtain ⟨TT, hTT⟩ : ∃ TT, postF V lv = TT := ⟨_, rfl⟩
  have HC2 : Hid (∀ vs X v, Env w0 (boxI q (wr PP TT vs) :: X) v → v.cell? ⟨q, 0, none⟩ = some (.int .u64 key) ∧ v.cell? ⟨q, 1, none⟩ = some (.int .i64 lv)) := Lib.hid fun vs X v hv => by
    have h0 := hv.rule 0 rfl 0
    have h1 := hv.rule 0 rfl 1
    rw [← hPP] at h0 h1
    exact ⟨h0, h1⟩
  rw [hPP, hTT] at hE HFN
  rw [hPP] at hpl
  have HRL : Hid (∀ v, RLno PP TT uc w0 R q u m lv key false L e ro f N v → Calls Tryz.prog 99 #[.pointer (some ⟨q, 2 + lv * 13, none⟩), .pointer (some ⟨u, 0, none⟩), .pointer (some ⟨m, 0, none⟩)] v fun o w' => o = .returned (.int .i64 s) ∧ RLno PP TT uc w0 R q u m lv key false Lq e rq fq (N + 1) w') := Lib.hid fun v hv => by
    have h9 := rlaneo (Lib.hid hpl) hL (show (0 : Int) ≤ (lv : Int) ∧ (lv : Int) ≤ 1000000 by omega) he hu hN hv
    rw [hq, hr] at h9
    exact h9
  have HVV := Lib.hid hV
  have hlv3 : (lv : Int) < 16 := by omega
  have hb0 : decide ((lv : Int) < 0) = false := by simp
  have hR0 : RLno PP TT uc w0 R q u m lv key false L e ro f N w := ⟨G, ml, hf, hml, hE⟩
  have HAT := Lib.hid hat
  clear hpl hL hA he hu hN hf hml hq hr hPP hTT hVl hV hat
  obtain ⟨c0, c1⟩ := HC2.out _ _ _ hE
  go_enter Tryz.func47, Tryz.ntmps47
  go_wp2_with fail
  clear c0 c1
  refine Ord.wp_chain [10] (fun v => v.cell? ⟨q, 1, none⟩ = some (.int .i64 lv)) (fun k w' => if k = 0 then RLno PP TT uc w0 R q u m lv key false L e ro f N w' else RLno PP TT uc w0 R q u m lv key false Lq e rq fq (N + 1) w') (by kernel_rfl) (by kernel_rfl) (by kernel_rfl) (HC2.out _ _ _ hE.drew).2 (show RLno PP TT uc w0 R q u m lv key false L e ro f N w.drew from hR0.elim fun G h => h.elim fun ml h => ⟨G, ml, h.1, h.2.1, h.2.2.drew⟩) (fun hT => ?_)
  have hT9 := Lib.hid hT
  clear hT
  repeat (first
    | (refine Ord.ch_value (v := ?_) hT9.out (by decide) (by rfl) ?_ ?_; rotate_left; (focus (intro w5 hS; have c1 := hS; go_simp <;> with_reducible rfl)); (try simp only [Act.put, List.setIfInBounds_toArray, List.set_cons_zero, List.set_cons_succ]))
    | (refine Ord.ch_off hT9.out (by decide) (by rfl) ?_; (try simp only [Act.put, List.setIfInBounds_toArray, List.set_cons_zero, List.set_cons_succ])))
  refine Ord.ch_turn (v := .int .i64 s) 0 hT9.out rfl (by decide) (Or.inl rfl) (by rfl) ?_ ?_
  · rintro w5 hC5 hA5
    simp only [if_true] at hA5
    go_simp
    simp only [Ord.LandsIn]
    refine (HRL.out _ hA5).mono ?_
    rintro o w6 ⟨rfl, hR6⟩
    obtain ⟨G6, ml6, h1, h2, hE6⟩ := hR6
    exact ⟨rfl, (HC2.out _ _ _ hE6).2, G6, ml6, h1, h2, hE6⟩
  (try simp only [Act.put, List.setIfInBounds_toArray, List.set_cons_zero, List.set_cons_succ])
  repeat (first
    | (refine Ord.ch_value (v := ?_) hT9.out (by decide) (by rfl) ?_ ?_; rotate_left; (focus (intro w5 hS; skip; go_simp <;> with_reducible rfl)); (try simp only [Act.put, List.setIfInBounds_toArray, List.set_cons_zero, List.set_cons_succ]))
    | (refine Ord.ch_off hT9.out (by decide) (by rfl) ?_; (try simp only [Act.put, List.setIfInBounds_toArray, List.set_cons_zero, List.set_cons_succ])))
  refine Ord.InText.nil fun w5 hS => ?_
  clear hT9
  obtain ⟨hC9, hA9⟩ := Ord.chain_end hS
  clear hS
  simp only [List.length_cons, List.length_nil, Nat.zero_add, Nat.one_ne_zero, if_false] at hA9
  obtain ⟨G9, ml9, hf9, hl9, hE9⟩ := hA9
  rw [HFN.out] at hE9
  obtain ⟨V1, hV1⟩ : ∃ V1, setN V lv (rlV lv key false Lq) = V1 := ⟨_, rfl⟩
  rw [hV1] at hE9
  have HV1 : Hid ((∀ i, (V1 i).length = 13) ∧ V1 lv = rlV lv key false Lq ∧ ∀ l, lv < l → V1 l = V l) := Lib.hid ⟨by rw [← hV1]; exact setN_length HVV.out rfl, by rw [← hV1, setN_same], fun l hl => by rw [← hV1, setN_other _ _ (by omega)]⟩
  have HF9 := Lib.hid (And.intro hf9 hl9)
  clear hC9 hR0 hE HFN HC2 HRL hV1 hf9 hl9
  have c1 : w5.cell? ⟨q, 1, none⟩ = some (.int .i64 lv) := hE9.rule 0 rfl 1
  rcases hsl with rfl | rfl | rfl
  · go_wp2_with fail
    go_ret
    exact ⟨_, rfl, rfl, V1, HV1.out.1, HV1.out.2.1, HV1.out.2.2, fun h => absurd h (by decide), ml9, HF9.out.1, HF9.out.2, G9, hE9⟩
  · by_cases h0 : lv = 0
    · subst h0
      go_wp2_with fail
      go_ret
      exact ⟨_, rfl, rfl, V1, HV1.out.1, HV1.out.2.1, HV1.out.2.2, fun _ h => absurd rfl h, ml9, HF9.out.1, HF9.out.2, G9, hE9⟩
    · obtain ⟨t, rfl⟩ : ∃ t, lv = t + 1 := ⟨lv - 1, by omega⟩
      obtain ⟨⟨x, y, z⟩, pc, W, X, K, VV, C, fd⟩ := Lq
      have hz : 0 ≤ z ∧ z ≤ 1000 := by
        rcases HAT.out with e9 | ⟨c9, -, -, e9⟩
        · simp only [Prod.mk.injEq] at e9
          omega
        · simp only [Prod.mk.injEq] at e9
          omega
      have hz0 := hz.1
      have hz1 := hz.2
      have ht16 : t + 1 ≤ 15 := by omega
      have ht3 : (t : Int) + 1 < 16 := by omega
      have ht4 : (t : Int) < 16 := by omega
      have hq2 : (0 : Int) ≤ (t : Int) + 1 := by omega
      have hq3 : t + 1 < 16 := by omega
      obtain ⟨LL, hLL⟩ : ∃ LL, boxI q (blkF key ((t + 1 : Nat) : Int) V1) :: boxI u (ruC uc e rq) :: refI m G9 ml9 :: R = LL := ⟨_, rfl⟩
      have HCL : Hid (∀ v, Env w0 LL v → v.cell? ⟨q, 1, none⟩ = some (.int .i64 ((t : Int) + 1)) ∧ v.cell? ⟨q, 2 + (t + 1) * 13, none⟩ = some (.int .i64 x) ∧ v.cell? ⟨q, 2 + (t + 1) * 13 + 1, none⟩ = some (.int .i64 y) ∧ v.cell? ⟨q, 2 + (t + 1) * 13 + 2, none⟩ = some (.int .i64 z)) := Lib.hid fun v hv => by
        subst hLL
        refine ⟨hv.rule 0 rfl 1, ?_⟩
        have h8 := hv.rule 0 rfl
        rw [blkF_split key _ V1 hlv, HV1.out.2.1] at h8
        obtain ⟨d0, d1, d2, -⟩ := rl_at (preF_length key ((t + 1 : Nat) : Int) HV1.out.1 (t + 1)) h8
        exact ⟨d0, d1, d2⟩
      have hEL : Env w0 LL w5 := by rw [← hLL]; exact hE9
      have HLL := Lib.hid hLL
      obtain ⟨c1, c2, c3, c4⟩ := HCL.out _ hEL
      clear hE9 hLL h0 hz HAT
      go_upto_region 13 with fail
      clear c1 c2 c3 c4
      refine OrdF.wp_float [?_, ?_, ?_, ?_, ?_, ?_, ?_, ?_, ?_, ?_, OrdF.Ptr, ?_] [11] 10 (fun v => Env w0 LL v) (OrdF.AF w0 [.int .i64 0, .int .i64 0, .int .i64 0] (OrdF.Sta [fun N zs => N = LL ∧ zs = [.int .i64 0, .int .i64 0, .int .i64 0], fun N zs => N = LL ∧ zs = [.int .i64 x, .int .i64 y, .int .i64 z]])) (by kernel_rfl) (by kernel_rfl) (by kernel_rfl) hEL.drew ⟨_, _, ⟨_, rfl, rfl, rfl⟩, .inl ⟨rfl, rfl, hEL.drew⟩⟩ (fun hT => ?_)
      rotate_left 11
      have hT9 := Lib.hid hT
      clear hT
      repeat (first
        | (focus (refine OrdF.in_value (v := ?_) hT9.out (by decide) (by decide) ?_ (by rfl) ?_ ?_; rotate_left 2; (focus (intro w5 hS; obtain ⟨c1, c2, c3, c4⟩ := HCL.out _ hS; go_simp <;> with_reducible rfl)); rotate_right; (focus rfl); (try simp only [Act.put, List.setIfInBounds_toArray, List.set_cons_zero, List.set_cons_succ])))
        | (focus (refine OrdF.in_off hT9.out (by decide) (by decide) ?_ (by rfl) ?_; (focus rfl); (try simp only [Act.put, List.setIfInBounds_toArray, List.set_cons_zero, List.set_cons_succ]))))
      refine OrdF.in_float OrdF.Ptr (.pointer (some ⟨0, 0, none⟩)) ⟨0, rfl⟩ hT9.out rfl (by decide) ?_ (by rfl) ?_ ?_
      · rfl
      · intro w5 κs5 hC5 hA5
        go_simp
        simp only [Ord3.Lands]
        exact ⟨⟨_, rfl⟩, hC5.over ((Below.refl _ _).alloc (Nat.le_refl _) _), hA5.up _⟩
      rintro _ ⟨B, rfl⟩
      (try simp only [Act.put, List.setIfInBounds_toArray, List.set_cons_zero, List.set_cons_succ])
      refine OrdF.in_turn_late (by kernel_rfl) (by decide) (by decide) (fun u => u = undef) (undef) rfl hT9.out rfl (by decide) (by rfl) ?_ (.inl rfl) (by rfl) ?_ ?_
      · rfl
      · rintro w5 hC5 ⟨M5, z5, ⟨P5, hP5, hM5⟩, ⟨hn5, _⟩ | ⟨n5, hn5, hE5⟩⟩
        · cases hn5
        cases hn5
        cases hP5
        obtain ⟨rfl, rfl⟩ := hM5
        have r := hE5.rule 0 rfl; have ff := hE5.thaw 0 rfl; have f0 := ff 0 (by simp); have f1 := ff 1 (by simp); have f2 := ff 2 (by simp); clear ff
        go_simp
        have hE6 := hE5.put3 0 rfl (.int .i64 x) (.int .i64 y) (.int .i64 z); exact ⟨rfl, hE6.sub (.cons _ (List.Sublist.refl _)), _, _, ⟨_, rfl, rfl, rfl⟩, .inr ⟨_, rfl, hE6⟩⟩
      rintro _ rfl
      (try simp only [Act.put, List.setIfInBounds_toArray, List.set_cons_zero, List.set_cons_succ])
      refine OrdF.in_nil rfl (by decide) (by decide) ?_
      rintro w5 hC5 ⟨M5, z5, ⟨P5, hP5, hM5⟩, ⟨hn5, _⟩ | ⟨n5, hn5, hE5⟩⟩
      · cases hn5
      cases hn5
      cases hP5
      obtain ⟨rfl, rfl⟩ := hM5
      clear hT9
      have h9 := HLL.out
      subst h9
      clear HCL hEL hC5 HLL
      have r0 := hE5.rule 0 rfl
      have g2 := hE5.thaw 0 rfl 2 (by simp)
      have r1 : w5.cell? ⟨q, 1, none⟩ = some (.int .i64 ((t : Int) + 1)) := hE5.rule 1 rfl 1
      have g1 := hE5.thaw 1 rfl 1 (by simp [blkF])
      have hbq : q ≠ B := fun e9 => (hE5.off (i := 1) (j := 0) rfl rfl (by decide)) q rfl e9
      have hbq' : B ≠ q := fun e9 => hbq e9.symm
      have hP := (hE5.put 0 rfl (j := 2) (by simp) (.int .i64 (z - 1))).put 1 rfl (j := 1) (by simp [blkF]) (.int .i64 t)
      simp only [List.set_cons_succ, List.set_cons_zero, blkF_lv] at hP
      go_upto_region 16 with fail
      generalize World.setCell _ _ _ = w2 at *
      clear r0 g2 r1 g1 hE5 c1
      have hE2 := hP.perm (List.Perm.swap _ _ _)
      clear hP
      have htl : t < 16 := by omega
      rw [blkF_split key t V1 htl] at hE2
      have hpl := preF_length key (t : Int) HV1.out.1 t
      obtain ⟨b0, b1, b2, b3, b4, b5, b6, b7, b8, b9, b10, b11, b12, hb⟩ := len13 (HV1.out.1 t)
      rw [hb] at hE2
      have HFN : Hid (wr (preF key t V1 t) (postF V1 t) (rlV t key false (L0 (x, y, z - 1))) = blkF key t (setN V1 t (rlV t key false (L0 (x, y, z - 1))))) := Lib.hid (blkF_set key t V1 htl _)
      obtain ⟨PP2, hPP⟩ : ∃ PP, preF key t V1 t = PP := ⟨_, rfl⟩
      obtain ⟨TT2, hTT⟩ : ∃ TT, postF V1 t = TT := ⟨_, rfl⟩
      have HC2 : Hid (∀ vs v, Env w0 (boxI q (wr PP2 TT2 vs) :: boxI B [.int .i64 x, .int .i64 y, .int .i64 (z - 1)] :: boxI u (ruC uc e rq) :: refI m G9 ml9 :: R) v → v.cell? ⟨q, 0, none⟩ = some (.int .u64 key) ∧ v.cell? ⟨q, 1, none⟩ = some (.int .i64 t) ∧ v.cell? ⟨B, 0, none⟩ = some (.int .i64 x) ∧ v.cell? ⟨B, 1, none⟩ = some (.int .i64 y) ∧ v.cell? ⟨B, 2, none⟩ = some (.int .i64 (z - 1))) := Lib.hid fun vs v hv => by
        have h0 := hv.rule 0 rfl 0
        have h1 := hv.rule 0 rfl 1
        rw [← hPP] at h0 h1
        exact ⟨h0, h1, hv.rule 1 rfl 0, hv.rule 1 rfl 1, hv.rule 1 rfl 2⟩
      rw [hPP, hTT] at hE2 HFN
      rw [hPP] at hpl
      have HPL := Lib.hid hpl
      clear hpl hb hPP hTT hb0 ht3 hq2 hq3
      refine Ord.wp_chain [18] (fun v => v.cell? ⟨q, 0, none⟩ = some (.int .u64 key) ∧ v.cell? ⟨q, 1, none⟩ = some (.int .i64 t) ∧ v.cell? ⟨B, 0, none⟩ = some (.int .i64 x) ∧ v.cell? ⟨B, 1, none⟩ = some (.int .i64 y) ∧ v.cell? ⟨B, 2, none⟩ = some (.int .i64 (z - 1))) (fun k w' => Env w0 (boxI q (wr PP2 TT2 (if k = 0 then [b0, b1, b2, b3, b4, b5, b6, b7, b8, b9, b10, b11, b12] else rlV t key false (L0 (x, y, z - 1)))) :: boxI B [.int .i64 x, .int .i64 y, .int .i64 (z - 1)] :: boxI u (ruC uc e rq) :: refI m G9 ml9 :: R) w') (by kernel_rfl) (by kernel_rfl) (by kernel_rfl) (HC2.out _ _ hE2.drew) hE2.drew (fun hT => ?_)
      have hT9 := Lib.hid hT
      clear hT
      repeat (first
        | (refine Ord.ch_value (v := ?_) hT9.out (by decide) (by rfl) ?_ ?_; rotate_left; (focus (intro w5 hS; obtain ⟨c0, c1, c2, c3, c4⟩ := hS; go_simp <;> with_reducible rfl)); (try simp only [Act.put, List.setIfInBounds_toArray, List.set_cons_zero, List.set_cons_succ]))
        | (refine Ord.ch_off hT9.out (by decide) (by rfl) ?_; (try simp only [Act.put, List.setIfInBounds_toArray, List.set_cons_zero, List.set_cons_succ])))
      refine Ord.ch_turn (v := undef) 0 hT9.out rfl (by decide) (Or.inl rfl) (by rfl) ?_ ?_
      · rintro w5 hC5 hA5
        simp only [if_true] at hA5
        obtain ⟨⟨c0, c1, c2, c3, c4, c5, c6, c7, c8, c9, c10, c11, c12⟩, f0, f1, f2, f3, f4, f5, f6, f7, f8, f9, f10, f11, f12⟩ := hA5.facts13 HPL.out rfl
        have hE7 := hA5.put13 HPL.out rfl (.int .i64 x) (.int .i64 y) (.int .i64 (z - 1)) (.int .i64 t) (.int .u64 key) (.bool false) (.int .i64 0) (.int .u64 0) (.int .u64 0) (.int .u64 0) (.int .u64 0) (.int .i64 0) (.bool false)
        go_simp
        exact ⟨rfl, HC2.out _ _ hE7, hE7⟩
      (try simp only [Act.put, List.setIfInBounds_toArray, List.set_cons_zero, List.set_cons_succ])
      refine Ord.InText.nil fun w5 hS => ?_
      clear hT9
      obtain ⟨hC9, hA9⟩ := Ord.chain_end hS
      clear hS
      simp only [List.length_cons, List.length_nil, Nat.zero_add, Nat.one_ne_zero, if_false] at hA9
      rw [HFN.out] at hA9
      clear hC9 hE2
      go_wp2_with fail
      go_ret
      have e1 : t + 1 - 1 = t := Nat.add_sub_cancel ..
      refine ⟨_, rfl, rfl, setN V1 t (rlV t key false (L0 (x, y, z - 1))), setN_length HV1.out.1 rfl, ?_, fun l hl => ?_, fun _ _ => ?_, ml9, HF9.out.1, HF9.out.2, G9, ?_⟩
      · rw [setN_other _ _ (by omega)]; exact HV1.out.2.1
      · rw [setN_other _ _ (by omega)]; exact HV1.out.2.2 l hl
      · rw [e1, setN_same]; rfl
      · exact hA9.sub (.cons_cons _ (.cons _ (List.Sublist.refl _)))
  · have f1 := hE9.thaw 0 rfl 1 (by simp [blkF])
    have hE2 := hE9.put 0 rfl (j := 1) (by simp [blkF]) (.int .i64 (-1))
    rw [blkF_lv] at hE2
    simp only [List.set_cons_zero] at hE2
    go_wp2_with fail
    go_ret
    exact ⟨_, rfl, rfl, V1, HV1.out.1, HV1.out.2.1, HV1.out.2.2, fun h => absurd h (by decide), ml9, HF9.out.1, HF9.out.2, G9, hE2⟩
end
end Go.Proofs.YtnnjanaclgjneaaGreatDoor

/- Drawn regions with a chain whose values hang on the world (Ord3): calls beside the chain that leave all as it is. -/
namespace Go.Proofs.YtnnjanaclgjneaaGreatDoor.Ord3
open Go Go.Proofs.YtnnjanaclgjneaaGreatDoor.Ord
set_option maxRecDepth 100000
variable {P : Program} {md : Region.Mode} {ops : Array Oper} {Q : Exit → Act → World → Prop} {vs : List (Value → Prop)} {ps : List Nat} {C : World → Prop} {A : List Value → World → Prop}
theorem in_call {k : Nat} {o : Oper} {rest : List Oper} {a : Act} {v : Value} {f : FuncId} {args : Array Value} {κs : List Value} (hf : textFits md ops = true) (hk : k ∉ ps) (hvs : vs[k]? = some fun u => u = v) (hw : Region.wanted o (yielded ops a.tmps) = true)
    (hr : ∀ w, C w → (execOp a.eval o).run P w = .ok (.enter f args) w) (hc : ∀ w, C w → Calls P f args w fun e w' => e = .returned v ∧ C w' ∧ ∀ us, A us w → A us w')
    (h : In P md ops Q vs ps C A (k + 1) rest κs (a.put o.dst v)) : In P md ops Q vs ps C A k (o :: rest) κs a := fun κ hκ =>
  InText.cons hf v ⟨_, hvs, rfl⟩ (Or.inl ⟨hw, fun l ρ w hr' _ _ hS => by
    rw [hr w hS.2.2.1]
    refine (hc w hS.2.2.1).mono fun e w' he => ?_
    exact ⟨_, he.1, ⟨_, hvs, rfl⟩, chain_set hk hr' hS he.2.1 he.2.2⟩⟩)
    fun u ⟨p, hp, hu⟩ => by
      rw [hvs] at hp
      cases hp
      rw [hu]
      exact h _ (by rw [map_up (fun e => hk (List.mem_of_mem_take e))]; exact hκ)
theorem Stage.three {A1 A2 A3 : List Value → World → Prop} {κs : List Value} {w w' : World} (h : Stage (fun κs => [A1 κs, A2 κs, A3 κs]) κs w) (h1 : A1 κs w → A1 κs w') (h2 : A2 κs w → A2 κs w') (h3 : A3 κs w → A3 κs w') : Stage (fun κs => [A1 κs, A2 κs, A3 κs]) κs w' := by
  obtain ⟨T, hT, hw⟩ := h
  refine ⟨T, hT, ?_⟩
  have hm := List.mem_of_getElem? hT
  simp only [List.mem_cons, List.not_mem_nil, or_false] at hm
  rcases hm with rfl | rfl | rfl
  · exact h1 hw
  · exact h2 hw
  · exact h3 hw
end Go.Proofs.YtnnjanaclgjneaaGreatDoor.Ord3

/- Lanes and searches: New, NewSearch, what they tell; the checkpoint; Step of a search over the model. -/
namespace Go.Proofs.YtnnjanaclgjneaaGreatDoor
open Go.RowKit Go.Maps
set_option maxRecDepth 100000

section
variable {w0 w : World} {L : List Item}
set_option maxHeartbeats 1600000 in
theorem new_l (c : Nat) (x y z lv key : Int) (vs : Bool) (hE : Env w0 L w) :
    Calls Tryz.prog 188 #[.pointer (some ⟨c, 0, none⟩), .agg #[.int .i64 x, .int .i64 y, .int .i64 z, .int .i64 0], .int .i64 lv, .int .u64 key, .bool vs] w fun o w' => ∃ a, o = .returned (.pointer (some ⟨a, 0, none⟩)) ∧ Env w0 (boxI a (laneC c lv key vs (mvL 216 a) 0 x y z 0 0 0 0 false 0) :: L) w' := by
  have hmf := makeF
  have hE1 := hE.box w.heap.size rfl [.int .i64 x, .int .i64 y, .int .i64 z, .int .i64 0] 122
  have r0 := hE1.rule 0 rfl
  have hE2 := hE1.box (w.heap.size + 1) (by simp) (laneC c lv key vs .nilFunc 0 x y z 0 0 0 0 false 0) 258
  have HGO := Lib.hid (goOn_l 0 (.func 216) #[.pointer (some ⟨w.heap.size + 1, 0, none⟩)] #[] (by simp [laneC]) hE2 rfl)
  clear hE hE1 hE2
  go_enter Tryz.func188, Tryz.ntmps188
  go_wp2_with fail
  refine HGO.out.mono ?_
  rintro o w1 ⟨rfl, hE3⟩
  go_wp2_with fail
  go_ret
  exact ⟨_, rfl, hE3.sub (.cons_cons _ (.cons _ (List.Sublist.refl _)))⟩
theorem newNil_l (x y z d lv key : Int) (vs : Bool) (w : World) :
    Calls Tryz.prog 188 #[.pointer none, .agg #[.int .i64 x, .int .i64 y, .int .i64 z, .int .i64 d], .int .i64 lv, .int .u64 key, .bool vs] w fun o w' => o = .returned (.pointer none) ∧ Below w.heap.size w w' := by
  go_enter Tryz.func188, Tryz.ntmps188
  go_wp2
  go_ret
  exact ⟨rfl, (Below.refl _ _).alloc (Nat.le_refl _) _⟩
end

section
variable {w : World} {a c : Nat} {lv key : Int} {vs : Bool} {nx : Value} {st x y z W C X wd : Int} {pf : Bool} {pv : Int}
theorem found_g (hb : Blk 0 w a (laneC c lv key vs nx st x y z W C X wd pf pv)) : Calls Tryz.prog 105 #[.pointer (some ⟨a, 0, none⟩)] w fun o w' => o = .returned (.bool pf) ∧ w' = w := by
  have r1 := hb.rule
  unfold laneC at r1
  go_enter Tryz.func105, Tryz.ntmps105
  go_wp2
  go_ret
  exact ⟨rfl, rfl⟩
set_option maxHeartbeats 800000 in
theorem who_g (hb : Blk 0 w a (laneC c lv key vs nx st x y z W C X wd pf pv)) : Calls Tryz.prog 101 #[.pointer (some ⟨a, 0, none⟩)] w fun o w' => o = .returned (.agg #[.int .i64 C, .int .i64 0]) ∧ Below w.heap.size w w' := by
  have r1 := cell_more hb.1 hb.rule
  unfold laneC at r1
  go_enter Tryz.func101, Tryz.ntmps101
  go_wp2
  exact bodyPost_ret (v := .agg #[.int .i64 C, .int .i64 0]) (by simp [results, Tryz.results101, go_sem]) rfl ⟨rfl, (Below.refl _ _).alloc (Nat.le_refl _) _⟩
set_option maxHeartbeats 800000 in
theorem at_g (hb : Blk 0 w a (laneC c lv key vs nx st x y z W C X wd pf pv)) : Calls Tryz.prog 103 #[.pointer (some ⟨a, 0, none⟩)] w fun o w' => o = .returned (.agg #[.int .i64 x, .int .i64 y, .int .i64 z, .int .i64 0]) ∧ Below w.heap.size w w' := by
  have r1 := cell_more hb.1 hb.rule
  unfold laneC at r1
  go_enter Tryz.func103, Tryz.ntmps103
  go_wp2
  exact bodyPost_ret (v := .agg #[.int .i64 x, .int .i64 y, .int .i64 z, .int .i64 0]) (by simp [results, Tryz.results103, go_sem]) rfl ⟨rfl, (Below.refl _ _).alloc (Nat.le_refl _) _⟩
set_option maxHeartbeats 800000 in
theorem into_g (hb : Blk 0 w a (laneC c lv key vs nx st x y z W C X wd pf pv)) : Calls Tryz.prog 104 #[.pointer (some ⟨a, 0, none⟩)] w fun o w' => o = .returned (.agg #[.int .u64 W, .int .i64 0, .bool false]) ∧ Below w.heap.size w w' := by
  have r1 := cell_more hb.1 hb.rule
  unfold laneC at r1
  go_enter Tryz.func104, Tryz.ntmps104
  go_wp2
  exact bodyPost_ret (v := .agg #[.int .u64 W, .int .i64 0, .bool false]) (by simp [results, Tryz.results104, go_sem]) rfl ⟨rfl, (Below.refl _ _).alloc (Nat.le_refl _) _⟩
set_option maxHeartbeats 800000 in
theorem out_g (hb : Blk 0 w a (laneC c lv key vs nx st x y z W C X wd pf pv)) : Calls Tryz.prog 102 #[.pointer (some ⟨a, 0, none⟩)] w fun o w' => o = .returned (.agg #[.int .u64 X, .int .i64 0, .bool false]) ∧ Below w.heap.size w w' := by
  have r1 := cell_more hb.1 hb.rule
  unfold laneC at r1
  go_enter Tryz.func102, Tryz.ntmps102
  go_wp2
  exact bodyPost_ret (v := .agg #[.int .u64 X, .int .i64 0, .bool false]) (by simp [results, Tryz.results102, go_sem]) rfl ⟨rfl, (Below.refl _ _).alloc (Nat.le_refl _) _⟩
end
end Go.Proofs.YtnnjanaclgjneaaGreatDoor

/- Machines' rows: what is played. -/
namespace Go.Proofs.YtnnjanaclgjneaaGreatDoor
open Go.RowKit Go.Maps
set_option maxRecDepth 100000

/-- The closure that plays another machine. -/
def cvP (b1 b2 : Nat) : Value := .func (.func 178) #[] #[.pointer (some ⟨b1, 0, none⟩), .pointer (some ⟨b2, 0, none⟩)]
section
variable {w0 w : World} {L : List Item} {a o : Nat} {vs : List Value}
set_option maxHeartbeats 1600000 in
theorem play_r (m : Nat) (fn1 fn2 : Fn) (fs1 cs1 fs2 cs2 : Array Value) (hv : o < vs.length) (hE : Env w0 L w) (hm : L[m]? = some (boxI a vs)) :
    Calls Tryz.prog 146 #[.pointer (some ⟨a, o, none⟩), .func fn1 fs1 cs1, .func fn2 fs2 cs2] w fun r w' => r = .returned (.int .i64 0) ∧ ∃ b1 b2, Env w0 (boxI b1 [.func fn1 fs1 cs1] :: boxI b2 [.func fn2 fs2 cs2] :: L.set m (boxI a (vs.set o (cvP b1 b2)))) w' := by
  have hmf := makeF
  have hE1 := (hE.box w.heap.size rfl [.func fn1 fs1 cs1] 153).box (w.heap.size + 1) (by simp) [.func fn2 fs2 cs2] 254
  have HGO := Lib.hid (goOn_r (o := o) (m + 2) (.func 178) #[] #[.pointer (some ⟨w.heap.size, 0, none⟩), .pointer (some ⟨w.heap.size + 1, 0, none⟩)] hv hE1 hm)
  clear hE hE1 hv hm
  go_enter Tryz.func146, Tryz.ntmps146
  go_wp2_with fail
  refine HGO.out.mono ?_
  rintro e w1 ⟨rfl, hE2⟩
  go_wp2_with fail
  go_ret
  exact ⟨rfl, _, _, hE2.perm (List.Perm.swap _ _ _)⟩
set_option maxHeartbeats 800000 in
/-- The step of what is played: it goes on, or its end is handed on. -/
theorem play1_r (X : Nat) (hx : ∀ (ar : Array Value) (v : World), (callFunc X ar).run Tryz.prog v = .ok (.enter X ar) v) (p u q : Value) (Y : Nat) (hy : ∀ (ar : Array Value) (v : World), (callFunc Y ar).run Tryz.prog v = .ok (.enter Y ar) v) (b1 b2 : Nat) (Q : Int → World → Prop) (h1 : w.cell? ⟨b1, 0, none⟩ = some (.func (.func X) #[p] #[]))
    (hc : Calls Tryz.prog X #[p, u] w fun e w1 => ∃ s, e = .returned (.int .i64 s) ∧ (s = 0 → Q 0 w1) ∧ (s ≠ 0 → w1.cell? ⟨b2, 0, none⟩ = some (.func (.func Y) #[q] #[]) ∧ Calls Tryz.prog Y #[q, .int .i64 s] w1 fun e2 w2 => ∃ s2, e2 = .returned (.int .i64 s2) ∧ Q s2 w2)) :
    Calls Tryz.prog 178 #[u, .pointer (some ⟨b1, 0, none⟩), .pointer (some ⟨b2, 0, none⟩)] w fun e w' => ∃ s, e = .returned (.int .i64 s) ∧ Q s w' := by
  have HC := Lib.hid hc
  clear hc
  go_enter Tryz.func178, Tryz.ntmps178
  go_wp2_with fail
  refine HC.out.mono ?_
  rintro e w1 ⟨s, rfl, h0, hn⟩
  by_cases hs : s = 0
  · subst hs
    have hq := h0 rfl
    clear h0 hn HC
    go_wp2_with fail
    go_ret
    exact ⟨0, rfl, hq⟩
  · obtain ⟨hb2, hcc⟩ := hn hs
    have hsb : (s == 0) = false := by simpa using hs
    have HCC := Lib.hid hcc
    clear h0 hn HC hcc
    go_wp2_with fail
    refine HCC.out.mono ?_
    rintro e2 w2 ⟨s2, rfl, hq⟩
    go_wp2_with fail
    go_ret
    exact ⟨s2, rfl, hq⟩
/-- A step of a machine that plays another one. -/
theorem stepP_r (X : Nat) (hx : ∀ (ar : Array Value) (v : World), (callFunc X ar).run Tryz.prog v = .ok (.enter X ar) v) (p u q : Value) (Y : Nat) (hy : ∀ (ar : Array Value) (v : World), (callFunc Y ar).run Tryz.prog v = .ok (.enter Y ar) v) (b1 b2 : Nat) (Q : Int → World → Prop) (hn : w.cell? ⟨a, o, none⟩ = some (cvP b1 b2)) (hs : w.cell? ⟨a, o + 1, none⟩ = some (.int .i64 0)) (h1 : w.cell? ⟨b1, 0, none⟩ = some (.func (.func X) #[p] #[]))
    (hc : Calls Tryz.prog X #[p, u] w fun e w1 => ∃ s, e = .returned (.int .i64 s) ∧ (s = 0 → Q 0 w1) ∧ (s ≠ 0 → w1.cell? ⟨b2, 0, none⟩ = some (.func (.func Y) #[q] #[]) ∧ Calls Tryz.prog Y #[q, .int .i64 s] w1 fun e2 w2 => ∃ s2, e2 = .returned (.int .i64 s2) ∧ Q s2 w2)) :
    Calls Tryz.prog 77 #[.pointer (some ⟨a, o, none⟩), u] w fun e w' => ∃ s, e = .returned (.int .i64 s) ∧ Q s w' :=
  stepCv_r 178 b1 b2 (fun _ _ => by kernel_rfl) u _ hn hs ((play1_r X hx p u q Y hy b1 b2 Q h1 hc).mono fun e w' ⟨s, he, hq⟩ => ⟨s, he, s, rfl, hq⟩)
end
end Go.Proofs.YtnnjanaclgjneaaGreatDoor
