/- CoreEpochs: of eight threads each has the epoch of its last checkpoint, and what it checked is valid as long as the epoch stays, and never again once it went on: so the law answers true, for every row of deeds, where package link's three variables hold what the program's text lays in them (tied). -/
import Derived.Test.YtlhhnaccigamjaaDoorG4
import Derived.Test.YtlhhnaccigamjaaDoorCards
import Derived.SevenTiedAt

namespace Go.Proofs.YtlhhnaccigamjaaDoor.coreEpochs
open Go.ChangeShapes Go.WideShapes Go.ChangeAt Go.RowKit Go.Joins Go.Maps
set_option maxRecDepth 100000

/-- A thread: where it is, its queue, its epoch and rolls. -/
structure CS where
  c : Nat
  q : Nat
  e : Int
  r : Int
def it (x : CS) : Item := coreI x.c 1 3 0 1 100 x.e x.r 0 0 x.q

/-- How it stands in a round. -/
def Rnd (W : World) (X p cc : Nat) (F : Nat → Prop) (f : Plc → Int) (q : Cnt) (n g cp : Nat) (cs : List Nat) (ws : List Int) (ys : List CS) (v : World) : Prop := Env W ([boxI X (ints ws), wbox p cc, cellI cc F f q n, ptrsI (.slice (some ⟨g, 0, none⟩) 8 cp) cs] ++ ys.map it) v
theorem ints_at {ws : List Int} {t : Nat} {e : Int} (hl : ws.length = 8) (ht : t < 8) (h : ws.getD t 0 = e) : (ints ws)[t]? = some (.int .i64 e) := by
  subst h
  have : t < ws.length := by omega
  simp [ints, this]
theorem it_at {a b c d : Item} {ys : List CS} {t : Nat} {y : CS} (h : ys[t]? = some y) : ([a, b, c, d] ++ ys.map it)[t + 4]? = some (coreI y.c 1 3 0 1 100 y.e y.r 0 0 y.q) := by
  show (ys.map it)[t]? = _
  rw [List.getElem?_map, h]
  rfl
theorem set_e (ws : List Int) (t : Nat) (e : Int) : ints (ws.set t e) = (ints ws).set t (.int .i64 e) := by simp [ints, List.map_set]
theorem set_y (ys : List CS) (t : Nat) (y : CS) : (ys.set t y).map it = (ys.map it).set t (it y) := by rw [List.map_set]
theorem set_c {ys : List CS} {t : Nat} {y y' : CS} (h : ys[t]? = some y) (hc : y'.c = y.c) : (ys.set t y').map CS.c = ys.map CS.c := by
  rw [List.map_set, hc]
  refine set_same ?_
  rw [List.getElem?_map, h]
  rfl
/-- What holds of each thread, behind a checkpoint; behind a look; behind an advance. -/
theorem rel_check {ys : List CS} {ws : List Int} {N : Int} {t : Nat} {y' : CS} (h : ∀ t y, ys[t]? = some y → y.e = ws.getD t 0 ∧ 0 ≤ y.e ∧ y.e ≤ N) (hw : t < ws.length) (hN : 0 ≤ N) (he : y'.e = N) :
    ∀ s z, (ys.set t y')[s]? = some z → z.e = (ws.set t N).getD s 0 ∧ 0 ≤ z.e ∧ z.e ≤ N := fun s z hz => by
  rw [List.getElem?_set] at hz
  split at hz
  · rename_i e
    subst e
    split at hz
    · cases hz
      rw [he]
      exact ⟨by simp [hw], by omega, by omega⟩
    · cases hz
  · rename_i e
    have := h s z hz
    rwa [List.getD_eq_getElem?_getD, List.getElem?_set_ne e, ← List.getD_eq_getElem?_getD]
theorem rel_look {ys : List CS} {ws : List Int} {N : Int} {t : Nat} {y y' : CS} (h : ∀ t y, ys[t]? = some y → y.e = ws.getD t 0 ∧ 0 ≤ y.e ∧ y.e ≤ N) (hy : ys[t]? = some y) (he : y'.e = y.e) :
    ∀ s z, (ys.set t y')[s]? = some z → z.e = ws.getD s 0 ∧ 0 ≤ z.e ∧ z.e ≤ N := fun s z hz => by
  rw [List.getElem?_set] at hz
  split at hz
  · rename_i e
    subst e
    split at hz
    · cases hz
      rw [he]
      exact h _ _ hy
    · cases hz
  · exact h s z hz
theorem rel_on {ys : List CS} {ws : List Int} {N : Int} (h : ∀ t y, ys[t]? = some y → y.e = ws.getD t 0 ∧ 0 ≤ y.e ∧ y.e ≤ N) : ∀ t y, ys[t]? = some y → y.e = ws.getD t 0 ∧ 0 ≤ y.e ∧ y.e ≤ N + 1 := fun t y hy => by
  have := h t y hy
  exact ⟨this.1, this.2.1, by omega⟩
theorem up_one (N : Nat) (h : N ≤ 200) : IntKind.u64.wrap ((N : Int) + 1) = ((N + 1 : Nat) : Int) := by
  have e := IntKind.wrap_u64 ((N : Int) + 1)
  omega
theorem perm4 {α : Type _} (a b c d : α) : [a, b, c, d].Perm [a, c, d, b] := .cons _ (List.perm_append_comm (l₁ := [b]) (l₂ := [c, d]))

set_option maxRecDepth 100000 in
set_option maxHeartbeats 6400000 in
theorem walk (zs : List Int) (A : Option Addr) (cap : Nat) (hl0 : zs.length ≤ 2 ^ 63 - 1) (W : World)
    (hrow : zs = [] ∨ ∃ b off, A = some ⟨b, off, none⟩ ∧ b < W.heap.size ∧ ∀ i, i < zs.length → W.cell? ⟨b, off + i, none⟩ = some (.int .i64 (zs.getD i 0))) (hg : Glo W) :
    Calls Tryd.prog 5 #[.slice A zs.length cap] W fun e w' => e = .returned (.bool true) ∧ Below W.heap.size W w' := by
  have hl : zs.length ≤ 9223372036854775807 := by omega
  clear hl0
  have HG := Lib.hid hg
  have HROW := Lib.hid hrow
  clear hg hrow
  have hE := Env.start W
  have HX1 := Lib.hid (show Wf (1, 0, 0) by unfold Wf In64; simp)
  have HC3 := Lib.hid (show chkI 1 3 0 1 100 = 0 by decide)
  have HM : Hid (∀ k : Nat, k ≤ 1000 → k < maxLen) := Lib.hid fun k hk => by unfold maxLen; omega
  by_cases hlen : zs.length ≤ 100
  · have hd : decide (100 < (zs.length : Int)) = false := by simp; omega
    go_enter Tryd.func5, Tryd.ntmps5
    go_wp2_with fail
    refine (awake13 _ HG.out).mono ?_
    rintro o w1 ⟨rfl, hb⟩
    replace hE := hE.over hb
    clear hb
    go_wp2_with fail
    refine (new_w hE).mono ?_
    rintro o w2 ⟨p, cc, rfl, hE2, hb⟩
    clear hb hE
    go_wp2_with fail
    refine (start_w 0 1 (by decide) (HM.out _ (by omega)) hE2 rfl rfl).mono ?_
    rintro o w3 ⟨rfl, F3, hE⟩
    simp only [List.set_cons_succ, List.set_cons_zero] at hE
    clear hE2
    have hE3 := (hE.ptrEmpty w3.heap.size rfl).box (w3.heap.size + 1) (by simp) [.int .i64 0, .int .i64 0, .int .i64 0, .int .i64 0, .int .i64 0, .int .i64 0, .int .i64 0, .int .i64 0] 78
    clear hE
    go_wp2_with fail
    generalize hX : w3.heap.size + 1 = X at *
    go_loopw [5, 7] (fun cv iv wr => ∃ (j : Nat) (xs : List CS) (g cp : Nat), j ≤ 8 ∧ xs.length = j ∧ iv = .int .i64 j ∧ cv = .slice (some ⟨g, 0, none⟩) j cp ∧ (∀ x ∈ xs, x.e = 0) ∧ Env W ([boxI X [.int .i64 0, .int .i64 0, .int .i64 0, .int .i64 0, .int .i64 0, .int .i64 0, .int .i64 0, .int .i64 0], wbox p cc, cellI cc F3 (upd (fun _ => 0) (1, 0, 0) 1) { l := 0, s := wrap64 (0 + 1), w := 0, f := 0, a := 0 } (0 + 1), ptrsI (.slice (some ⟨g, 0, none⟩) j cp) (xs.map CS.c)] ++ xs.map it) wr) (fun _ iv _ => 8 - (intOf iv).toNat)
    case atStart => exact ⟨0, [], w3.heap.size, 0, by omega, rfl, rfl, rfl, by simp, hE3.perm (perm4 _ _ _ _)⟩
    case round =>
      clear hE3 hX
      obtain ⟨j, xs, g, cp, hj, hxl, rfl, rfl, hx0, hE⟩ := hrel
      by_cases hlt : j < 8
      · have hb : decide ((j : Int) < 8) = true := by simp; omega
        go_wp2_with fail
        refine (list_c 3 _).mono ?_
        rintro o w4 ⟨rfl, hb1⟩
        replace hE := hE.over hb1
        clear hb1
        go_wp2_with fail
        refine (newYes_c 1 3 0 1 100 HC3.out hE).mono ?_
        rintro o w5 ⟨c, q, F, rfl, hE5⟩
        clear hE
        replace hE5 := hE5.sub (L' := coreI c 1 3 0 1 100 0 0 0 0 q :: ([boxI X [.int .i64 0, .int .i64 0, .int .i64 0, .int .i64 0, .int .i64 0, .int .i64 0, .int .i64 0, .int .i64 0], wbox p cc, cellI cc F3 (upd (fun _ => 0) (1, 0, 0) 1) { l := 0, s := wrap64 (0 + 1), w := 0, f := 0, a := 0 } (0 + 1), ptrsI (.slice (some ⟨g, 0, none⟩) j cp) (xs.map CS.c)] ++ xs.map it)) (.cons_cons _ (.cons _ (List.Sublist.refl _)))
        replace hE5 := hE5.last
        rw [List.append_assoc] at hE5
        obtain ⟨g6, cp6, w6, hrun, hE6⟩ := hE5.appendP 3 (v := .slice (some ⟨g, 0, none⟩) j cp) (cs := xs.map CS.c) rfl c (by simp; omega) w5.heap.size rfl
        simp only [List.length_map, hxl] at hrun hE6
        have HRUN := Lib.hid hrun
        clear hrun hE5
        go_wp2_with (first | (at_builtin; refine wpList_append_run rfl _ _ 77 rfl HRUN.out rfl rfl ?_))
        refine ⟨⟨j + 1, xs ++ [⟨c, q, 0, 0⟩], g6, cp6, by omega, by simp [hxl], by simp, rfl, fun x hx => ?_, ?_⟩, by simp [intOf]; omega⟩
        · rcases List.mem_append.1 hx with hx | hx
          · exact hx0 x hx
          · simp at hx; subst hx; rfl
        · rw [List.map_append, List.map_append]
          exact hE6
      · have hj8 : j = 8 := by omega
        subst hj8
        rw [show ((8 : Nat) : Int) = (8 : Int) from rfl]
        have hb : decide ((8 : Int) < 8) = false := by simp
        go_wp2_with fail
        obtain ⟨cs, hcs⟩ : ∃ cs, cs = xs.map CS.c := ⟨_, rfl⟩
        have hcl : cs.length = 8 := by rw [hcs]; simpa using hxl
        rw [← hcs] at hE
        go_loopw [4, 8] (fun nv iv wr => ∃ (k N n : Nat) (F : Nat → Prop) (f : Plc → Int) (q : Cnt) (ws : List Int) (ys : List CS), k ≤ zs.length ∧ iv = .int .i64 k ∧ nv = .int .i64 (N : Int) ∧ N ≤ k + 1 ∧ n ≤ k + 1 ∧ f (1, 0, 0) = (N : Int) ∧ ws.length = 8 ∧ ys.length = 8 ∧ ys.map CS.c = cs ∧ (∀ t y, ys[t]? = some y → y.e = ws.getD t 0 ∧ 0 ≤ y.e ∧ y.e ≤ (N : Int)) ∧ Env W ([boxI X (ints ws), wbox p cc, cellI cc F f q n, ptrsI (.slice (some ⟨g, 0, none⟩) 8 cp) cs] ++ ys.map it) wr) (fun _ iv _ => zs.length - (intOf iv).toNat)
        case atStart =>
          refine ⟨0, 1, 1, F3, _, _, [0, 0, 0, 0, 0, 0, 0, 0], xs, by omega, rfl, rfl, by omega, by omega, upd_same _ _ _, rfl, hxl, hcs.symm, fun t y hy => ?_, hE⟩
          have hy0 := hx0 y (List.mem_of_getElem? hy)
          rw [hy0]
          have ht : t < 8 := by have := (List.getElem?_eq_some_iff.1 hy).1; omega
          refine ⟨?_, by omega, by omega⟩
          match t, ht with
          | 0, _ => rfl
          | 1, _ => rfl
          | 2, _ => rfl
          | 3, _ => rfl
          | 4, _ => rfl
          | 5, _ => rfl
          | 6, _ => rfl
          | 7, _ => rfl
          | n + 8, h => omega
        case round =>
          clear hE hx0 hcs hxl
          obtain ⟨k, N, n, F, f, q, ws, ys, hk, rfl, rfl, hNk, hnk, hf, hwl, hyl, hyc, hrel2, hE⟩ := hrel
          by_cases hlt2 : k < zs.length
          · have hb2 : decide ((k : Int) < zs.length) = true := by simp; omega
            rcases HROW.out with hz0 | ⟨b, off, rfl, hbl, hc⟩
            · rw [hz0] at hlt2; simp at hlt2
            obtain ⟨z, hz⟩ : ∃ z, zs.getD k 0 = z := ⟨_, rfl⟩
            have hd0 : wr.cell? ⟨b, off + k, none⟩ = some (.int .i64 z) := by rw [hE.below.cell (p := ⟨b, off + k, none⟩) hbl, hc k hlt2, hz]
            obtain ⟨rr, hrr, hr0, hr1⟩ := cut_u z 24 (by decide) (by decide)
            go_upto_region 18 with fail
            rw [hrr]
            obtain ⟨t, ht, ht8⟩ : ∃ t : Nat, rr.tmod 8 = (t : Int) ∧ t < 8 := ⟨(rr % 8).toNat, by rw [Int.tmod_eq_emod_of_nonneg hr0]; omega, by omega⟩
            obtain ⟨dq, hdq, hd3⟩ : ∃ dq, rr.tdiv 8 = dq ∧ (dq = 0 ∨ dq = 1 ∨ dq = 2) := ⟨_, rfl, by rw [Int.tdiv_eq_ediv_of_nonneg hr0]; omega⟩
            clear hrr hd0 hc hbl hz
            obtain ⟨⟨yc, yq, ye, yr⟩, hy⟩ : ∃ y, ys[t]? = some y := ⟨ys[t]'(by omega), by simp [hyl, ht8]⟩
            obtain ⟨hye, hy0, hyN⟩ := hrel2 t _ hy
            have hyc2 : cs.getD t 0 = yc := by rw [← hyc]; simp [List.getD_eq_getElem?_getD, hy]
            simp only at hye hy0 hyN
            have hNN : epI (N : Int) = N := by unfold epI; rw [if_pos (by omega)]
            have hok : okB (N : Int) ye = (ye == (N : Int)) := by
              have hep : epB (N : Int) = true := by unfold epB; simp; omega
              unfold okB
              rw [hep, hNN, Bool.true_and]
              exact BEq.comm
            have ht8i : (t : Int) < 8 := by omega
            have hwt : t < ws.length := by omega
            have hyt : t < ys.length := by omega
            have hat := it_at (a := boxI X (ints ws)) (b := wbox p cc) (c := cellI cc F f q n) (d := ptrsI (.slice (some ⟨g, 0, none⟩) 8 cp) cs) hy
            have HNN := Lib.hid hNN
            have HOK := Lib.hid hok
            have HROW2 := HROW
            clear hNN hok
            go_upto_region 22 with fail
            clear ht hdq hr0 hr1
            have hrp := hE.ptrAt 3 (cs := cs) rfl t (by omega)
            rw [hyc2] at hrp
            rcases hd3 with rfl | rfl | rfl
            · go_wp2_with fail
              refine (check_w N hf (t + 4) 1 2 (by decide) (by omega) hE hat rfl rfl).mono ?_
              rintro o w4 ⟨rfl, hE4⟩
              rw [HNN.out] at hE4
              have rX := hE4.rule 0 rfl
              have fX := hE4.thaw 0 rfl t (by simp [ints]; omega)
              have hcx : w4.cell? ⟨X, t, none⟩ = some (.int .i64 ye) := by rw [rX t]; exact ints_at hwl ht8 hye.symm
              clear hrp rX
              go_upto_region 28 with fail
              have hE5 := hE4.put 0 rfl (j := t) (by simp [ints]; omega) (.int .i64 (N : Int))
              generalize World.setCell _ _ _ = w5 at *
              have hE : Env W ([boxI X (ints (ws.set t N)), wbox p cc, cellI cc F f { q with l := wrap64 (q.l + 1) } n, ptrsI (.slice (some ⟨g, 0, none⟩) 8 cp) cs] ++ (ys.set t ⟨yc, yq, N, yr⟩).map it) w5 := by
                simp only [List.cons_append, List.nil_append, List.set_cons_succ, List.set_cons_zero] at hE5
                rw [set_e, set_y]
                simp only [List.cons_append, List.nil_append]
                exact hE5
              clear hE4 hE5
              have hwl2 : (ws.set t (N : Int)).length = 8 := by simpa using hwl
              have hyl2 : (ys.set t ⟨yc, yq, N, yr⟩).length = 8 := by simpa using hyl
              have hws2 : (ws.set t (N : Int)).getD t 0 = N := by simp [hwt]
              have hy2 : (ys.set t ⟨yc, yq, N, yr⟩)[t]? = some ⟨yc, yq, N, yr⟩ := by rw [List.getElem?_set_self hyt]
              have hyc3 : (ys.set t ⟨yc, yq, N, yr⟩).map CS.c = cs := (set_c (y' := ⟨yc, yq, N, yr⟩) hy rfl).trans hyc
              have hrel3 := rel_check (y' := ⟨yc, yq, N, yr⟩) hrel2 hwt (by omega) rfl
              have hf2 := hf
              have HPT : Hid (∀ v, Env W ([boxI X (ints (ws.set t (N : Int))), wbox p cc, cellI cc F f { q with l := wrap64 (q.l + 1) } n, ptrsI (.slice (some ⟨g, 0, none⟩) 8 cp) cs] ++ (ys.set t ⟨yc, yq, N, yr⟩).map it) v → v.cell? ⟨g, t, none⟩ = some (.pointer (some ⟨yc, 0, none⟩)) ∧ v.cell? ⟨X, t, none⟩ = some (.int .i64 (N : Int))) := Lib.hid fun v hv => ⟨by rw [hv.ptrAt 3 (cs := cs) rfl t (by omega), hyc2], by rw [hv.rule 0 rfl t]; exact ints_at hwl2 ht8 hws2⟩
              have HEP : Hid (∀ v, Env W ([boxI X (ints (ws.set t (N : Int))), wbox p cc, cellI cc F f { q with l := wrap64 (q.l + 1) } n, ptrsI (.slice (some ⟨g, 0, none⟩) 8 cp) cs] ++ (ys.set t ⟨yc, yq, N, yr⟩).map it) v → Calls Tryd.prog 23 #[.pointer (some ⟨yc, 0, none⟩)] v fun o w' => o = .returned (.int .i64 (N : Int)) ∧ w' = v) := Lib.hid fun v hv => epoch_c (hv.get (t + 4) (it_at hy2))
              have hnn : (((N : Int) : Int) != (N : Int)) = false := by simp
              refine wp_text (S := (Env W ([boxI X (ints (ws.set t (N : Int))), wbox p cc, cellI cc F f { q with l := wrap64 (q.l + 1) } n, ptrsI (.slice (some ⟨g, 0, none⟩) 8 cp) cs] ++ (ys.set t ⟨yc, yq, N, yr⟩).map it))) (by kernel_rfl) (by kernel_rfl) hE.drew (fun hT => ?_)
              have hT9 := Lib.hid hT
              clear hT
              repeat (first
                | (refine text_value (v := ?_) hT9.out (by rfl) ?_ ?_; rotate_left; (focus (intro w5 hS; obtain ⟨c1, c2⟩ := HPT.out _ hS; go_simp <;> with_reducible rfl)); (try simp only [Act.put, List.setIfInBounds_toArray, List.set_cons_zero, List.set_cons_succ]))
                | (refine text_off hT9.out (by rfl) ?_; (try simp only [Act.put, List.setIfInBounds_toArray, List.set_cons_zero, List.set_cons_succ]))
                | (refine text_call (v := ?_) (f := ?_) (args := ?_) hT9.out (by rfl) ?_ ?_ ?_; rotate_left 3; (focus (intro w5 hS; obtain ⟨c1, c2⟩ := HPT.out _ hS; go_simp; constructor <;> with_reducible rfl)); (focus (intro w5 hS; (first | (with_reducible refine (HEP.out _ hS).mono ?_; rintro o w6 ⟨rfl, rfl⟩; constructor; with_reducible rfl; exact hS)))); (try simp only [Act.put, List.setIfInBounds_toArray, List.set_cons_zero, List.set_cons_succ])))
              refine InText.nil fun w5 hS5 => ?_
              clear hT9
              clear hE HPT HEP
              go_wp2_with fail
              exact ⟨⟨k + 1, N, n, F, f, { q with l := wrap64 (q.l + 1) }, (ws.set t (N : Int)), ys.set t ⟨yc, yq, N, yr⟩, by omega, by simp, rfl, by omega, by omega, hf2, hwl2, hyl2, hyc3, hrel3, hS5⟩, by simp [intOf]; omega⟩
            · have HYE := Lib.hid hye
              clear hye
              go_upto_region 26 with fail
              have hcx : wr.cell? ⟨X, t, none⟩ = some (.int .i64 ye) := by rw [hE.rule 0 rfl t]; exact ints_at hwl ht8 HYE.out.symm
              obtain ⟨R, hR⟩ : ∃ R, R = (if okB (N : Int) ye then yr else wrap64 (yr + 1)) := ⟨_, rfl⟩
              have HR := Lib.hid hR
              clear hR
              have hy2 : (ys.set t ⟨yc, yq, ye, R⟩)[t]? = some ⟨yc, yq, ye, R⟩ := by rw [List.getElem?_set_self hyt]
              have HVA : Hid (∀ v, Env W ([boxI X (ints ws), wbox p cc, cellI cc F f q n, ptrsI (.slice (some ⟨g, 0, none⟩) 8 cp) cs] ++ (ys).map it) v → Calls Tryd.prog 21 #[.pointer (some ⟨yc, 0, none⟩), .iface 35 (.pointer (some ⟨p, 0, none⟩))] v fun o w' => o = .returned (.bool (ye == (N : Int))) ∧ Env W ([boxI X (ints ws), wbox p cc, cellI cc F f { q with l := wrap64 (q.l + 1) } n, ptrsI (.slice (some ⟨g, 0, none⟩) 8 cp) cs] ++ (ys.set t ⟨yc, yq, ye, R⟩).map it) w') := Lib.hid fun v hv => by
                have h := valid_w N hf (t + 4) 1 2 (by decide) (by omega) hv (it_at hy) rfl rfl
                rw [← HR.out, HOK.out] at h
                refine h.mono ?_
                rintro o w6 ⟨he, hE6⟩
                refine ⟨he, ?_⟩
                simp only [List.cons_append, List.nil_append, List.set_cons_succ, List.set_cons_zero] at hE6
                rw [set_y]
                simp only [List.cons_append, List.nil_append]
                exact hE6
              have HPT1 : Hid (∀ v, Env W ([boxI X (ints ws), wbox p cc, cellI cc F f { q with l := wrap64 (q.l + 1) } n, ptrsI (.slice (some ⟨g, 0, none⟩) 8 cp) cs] ++ (ys.set t ⟨yc, yq, ye, R⟩).map it) v → v.cell? ⟨g, t, none⟩ = some (.pointer (some ⟨yc, 0, none⟩)) ∧ v.cell? ⟨X, t, none⟩ = some (.int .i64 ye)) := Lib.hid fun v hv => ⟨by rw [hv.ptrAt 3 (cs := cs) rfl t (by omega), hyc2], by rw [hv.rule 0 rfl t]; exact ints_at hwl ht8 HYE.out.symm⟩
              refine Ord.wp_chain [6] (fun w' => w'.cell? ⟨g, t, none⟩ = some (.pointer (some ⟨yc, 0, none⟩)) ∧ w'.cell? ⟨X, t, none⟩ = some (.int .i64 ye)) (Stage [Rnd W X p cc F f q n g cp cs ws ys, Rnd W X p cc F f { q with l := wrap64 (q.l + 1) } n g cp cs ws (ys.set t ⟨yc, yq, ye, R⟩)]) (by kernel_rfl) (by kernel_rfl) (by kernel_rfl) ⟨hrp, hcx⟩ ⟨_, rfl, hE.drew⟩ (fun hT => ?_)
              have hT9 := Lib.hid hT
              clear hT
              repeat (first
                | (refine Ord.ch_value (v := ?_) hT9.out (by decide) (by rfl) ?_ ?_; rotate_left; (focus (intro w5 hS; obtain ⟨c1, c2⟩ := hS; go_simp <;> with_reducible rfl)); (try simp only [Act.put, List.setIfInBounds_toArray, List.set_cons_zero, List.set_cons_succ]))
                | (refine Ord.ch_off hT9.out (by decide) (by rfl) ?_; (try simp only [Act.put, List.setIfInBounds_toArray, List.set_cons_zero, List.set_cons_succ])))
              refine Ord.ch_turn (v := .bool (ye == (N : Int))) 0 hT9.out rfl (by decide) (Or.inl rfl) (by rfl) ?_ ?_
              · rintro w5 hC5 ⟨P5, hP5, hA5⟩
                cases hP5
                go_simp
                simp only [Ord.LandsIn]
                refine (HVA.out _ hA5).mono ?_
                rintro o w6 ⟨rfl, hE6⟩
                exact ⟨rfl, HPT1.out _ hE6, _, rfl, hE6⟩
              (try simp only [Act.put, List.setIfInBounds_toArray, List.set_cons_zero, List.set_cons_succ])
              repeat (first
                | (refine Ord.ch_value (v := ?_) hT9.out (by decide) (by rfl) ?_ ?_; rotate_left; (focus (intro w5 hS; obtain ⟨c1, c2⟩ := hS; go_simp <;> with_reducible rfl)); (try simp only [Act.put, List.setIfInBounds_toArray, List.set_cons_zero, List.set_cons_succ]))
                | (refine Ord.ch_off hT9.out (by decide) (by rfl) ?_; (try simp only [Act.put, List.setIfInBounds_toArray, List.set_cons_zero, List.set_cons_succ])))
              refine Ord.InText.nil fun w5 hS => ?_
              clear hT9
              obtain ⟨hC9, hA9⟩ := Ord.chain_end hS
              clear hS
              obtain ⟨P9, hP9, hA9⟩ := hA9
              cases hP9
              clear hE hrp hcx hC9 HVA HPT1
              have hE : Env W ([boxI X (ints ws), wbox p cc, cellI cc F f { q with l := wrap64 (q.l + 1) } n, ptrsI (.slice (some ⟨g, 0, none⟩) 8 cp) cs] ++ (ys.set t ⟨yc, yq, ye, R⟩).map it) w5 := hA9
              clear hA9
              go_upto_region 28 with fail
              have hwl2 := hwl
              have hws2 := HYE.out.symm
              have hyl2 : (ys.set t ⟨yc, yq, ye, R⟩).length = 8 := by simpa using hyl
              have hyc3 : (ys.set t ⟨yc, yq, ye, R⟩).map CS.c = cs := (set_c (y' := ⟨yc, yq, ye, R⟩) hy rfl).trans hyc
              have hrel3 := rel_look (y' := ⟨yc, yq, ye, R⟩) hrel2 hy rfl
              have hf2 := hf
              have HPT : Hid (∀ v, Env W ([boxI X (ints ws), wbox p cc, cellI cc F f { q with l := wrap64 (q.l + 1) } n, ptrsI (.slice (some ⟨g, 0, none⟩) 8 cp) cs] ++ (ys.set t ⟨yc, yq, ye, R⟩).map it) v → v.cell? ⟨g, t, none⟩ = some (.pointer (some ⟨yc, 0, none⟩)) ∧ v.cell? ⟨X, t, none⟩ = some (.int .i64 ye)) := Lib.hid fun v hv => ⟨by rw [hv.ptrAt 3 (cs := cs) rfl t (by omega), hyc2], by rw [hv.rule 0 rfl t]; exact ints_at hwl2 ht8 hws2⟩
              have HEP : Hid (∀ v, Env W ([boxI X (ints ws), wbox p cc, cellI cc F f { q with l := wrap64 (q.l + 1) } n, ptrsI (.slice (some ⟨g, 0, none⟩) 8 cp) cs] ++ (ys.set t ⟨yc, yq, ye, R⟩).map it) v → Calls Tryd.prog 23 #[.pointer (some ⟨yc, 0, none⟩)] v fun o w' => o = .returned (.int .i64 ye) ∧ w' = v) := Lib.hid fun v hv => epoch_c (hv.get (t + 4) (it_at hy2))
              have hnn : ((ye : Int) != ye) = false := by simp
              refine wp_text (S := (Env W ([boxI X (ints ws), wbox p cc, cellI cc F f { q with l := wrap64 (q.l + 1) } n, ptrsI (.slice (some ⟨g, 0, none⟩) 8 cp) cs] ++ (ys.set t ⟨yc, yq, ye, R⟩).map it))) (by kernel_rfl) (by kernel_rfl) hE.drew (fun hT => ?_)
              have hT9 := Lib.hid hT
              clear hT
              repeat (first
                | (refine text_value (v := ?_) hT9.out (by rfl) ?_ ?_; rotate_left; (focus (intro w5 hS; obtain ⟨c1, c2⟩ := HPT.out _ hS; go_simp <;> with_reducible rfl)); (try simp only [Act.put, List.setIfInBounds_toArray, List.set_cons_zero, List.set_cons_succ]))
                | (refine text_off hT9.out (by rfl) ?_; (try simp only [Act.put, List.setIfInBounds_toArray, List.set_cons_zero, List.set_cons_succ]))
                | (refine text_call (v := ?_) (f := ?_) (args := ?_) hT9.out (by rfl) ?_ ?_ ?_; rotate_left 3; (focus (intro w5 hS; obtain ⟨c1, c2⟩ := HPT.out _ hS; go_simp; constructor <;> with_reducible rfl)); (focus (intro w5 hS; (first | (with_reducible refine (HEP.out _ hS).mono ?_; rintro o w6 ⟨rfl, rfl⟩; constructor; with_reducible rfl; exact hS)))); (try simp only [Act.put, List.setIfInBounds_toArray, List.set_cons_zero, List.set_cons_succ])))
              refine InText.nil fun w5 hS5 => ?_
              clear hT9
              clear hE HPT HEP
              go_wp2_with fail
              exact ⟨⟨k + 1, N, n, F, f, { q with l := wrap64 (q.l + 1) }, ws, ys.set t ⟨yc, yq, ye, R⟩, by omega, by simp, rfl, by omega, by omega, hf2, hwl2, hyl2, hyc3, hrel3, hS5⟩, by simp [intOf]; omega⟩
            · go_wp2_with fail
              refine (epoch_any _).mono ?_
              rintro o w4 ⟨rfl, hb4⟩
              replace hE := hE.over hb4
              clear hb4
              go_wp2_with fail
              refine (add_w 1 0 0 0 1 HX1.out (HM.out _ (by omega)) 1 2 (by decide) hE rfl rfl).mono ?_
              rintro o w5 ⟨rfl, F5, hE5⟩
              simp only [List.cons_append, List.nil_append, List.set_cons_succ, List.set_cons_zero] at hE5
              clear hE hrp
              have hN200 : N ≤ 200 := by omega
              obtain ⟨f5, hf5⟩ : ∃ f5, f5 = upd f (1, 0, 0) (IntKind.u64.wrap (f (1, 0, 0) + 1)) := ⟨_, rfl⟩
              rw [← hf5] at hE5
              have hf2 : f5 (1, 0, 0) = ((N + 1 : Nat) : Int) := by
                rw [hf5, upd_same, hf]
                exact up_one N hN200
              clear hf5
              have hE : Env W ([boxI X (ints ws), wbox p cc, cellI cc F5 f5 { q with a := wrap64 (q.a + 1) } (n + 1), ptrsI (.slice (some ⟨g, 0, none⟩) 8 cp) cs] ++ ys.map it) w5 := by
                simp only [List.cons_append, List.nil_append]
                exact hE5
              clear hE5
              have hwl2 := hwl
              have hyl2 := hyl
              have hws2 := hye.symm
              have hy2 := hy
              have hyc3 := hyc
              have hrel3 : ∀ t y, ys[t]? = some y → y.e = ws.getD t 0 ∧ 0 ≤ y.e ∧ y.e ≤ ((N + 1 : Nat) : Int) := fun t y hy => by
                have := rel_on hrel2 t y hy
                exact ⟨this.1, this.2.1, by omega⟩
              have HF2 := Lib.hid hf2
              have HREL3 := Lib.hid hrel3
              clear hf2 hrel3
              go_upto_region 28 with fail
              have hf2 := HF2.out
              have hrel3 := HREL3.out
              have HPT : Hid (∀ v, Env W ([boxI X (ints ws), wbox p cc, cellI cc F5 f5 { q with a := wrap64 (q.a + 1) } (n + 1), ptrsI (.slice (some ⟨g, 0, none⟩) 8 cp) cs] ++ (ys).map it) v → v.cell? ⟨g, t, none⟩ = some (.pointer (some ⟨yc, 0, none⟩)) ∧ v.cell? ⟨X, t, none⟩ = some (.int .i64 ye)) := Lib.hid fun v hv => ⟨by rw [hv.ptrAt 3 (cs := cs) rfl t (by omega), hyc2], by rw [hv.rule 0 rfl t]; exact ints_at hwl2 ht8 hws2⟩
              have HEP : Hid (∀ v, Env W ([boxI X (ints ws), wbox p cc, cellI cc F5 f5 { q with a := wrap64 (q.a + 1) } (n + 1), ptrsI (.slice (some ⟨g, 0, none⟩) 8 cp) cs] ++ (ys).map it) v → Calls Tryd.prog 23 #[.pointer (some ⟨yc, 0, none⟩)] v fun o w' => o = .returned (.int .i64 ye) ∧ w' = v) := Lib.hid fun v hv => epoch_c (hv.get (t + 4) (it_at hy2))
              have hnn : ((ye : Int) != ye) = false := by simp
              refine wp_text (S := (Env W ([boxI X (ints ws), wbox p cc, cellI cc F5 f5 { q with a := wrap64 (q.a + 1) } (n + 1), ptrsI (.slice (some ⟨g, 0, none⟩) 8 cp) cs] ++ (ys).map it))) (by kernel_rfl) (by kernel_rfl) hE.drew (fun hT => ?_)
              have hT9 := Lib.hid hT
              clear hT
              repeat (first
                | (refine text_value (v := ?_) hT9.out (by rfl) ?_ ?_; rotate_left; (focus (intro w5 hS; obtain ⟨c1, c2⟩ := HPT.out _ hS; go_simp <;> with_reducible rfl)); (try simp only [Act.put, List.setIfInBounds_toArray, List.set_cons_zero, List.set_cons_succ]))
                | (refine text_off hT9.out (by rfl) ?_; (try simp only [Act.put, List.setIfInBounds_toArray, List.set_cons_zero, List.set_cons_succ]))
                | (refine text_call (v := ?_) (f := ?_) (args := ?_) hT9.out (by rfl) ?_ ?_ ?_; rotate_left 3; (focus (intro w5 hS; obtain ⟨c1, c2⟩ := HPT.out _ hS; go_simp; constructor <;> with_reducible rfl)); (focus (intro w5 hS; (first | (with_reducible refine (HEP.out _ hS).mono ?_; rintro o w6 ⟨rfl, rfl⟩; constructor; with_reducible rfl; exact hS)))); (try simp only [Act.put, List.setIfInBounds_toArray, List.set_cons_zero, List.set_cons_succ])))
              refine InText.nil fun w5 hS5 => ?_
              clear hT9
              clear hE HPT HEP
              go_wp2_with fail
              exact ⟨⟨k + 1, (N + 1), (n + 1), F5, f5, { q with a := wrap64 (q.a + 1) }, ws, ys, by omega, by simp, rfl, by omega, by omega, hf2, hwl2, hyl2, hyc3, hrel3, hS5⟩, by simp [intOf]; omega⟩
          · have hb2 : decide ((k : Int) < zs.length) = false := by simp; omega
            go_wp2_with fail
            go_ret
            exact ⟨rfl, hE.below⟩
  · have hd : decide (100 < (zs.length : Int)) = true := by simp; omega
    go_enter Tryd.func5, Tryd.ntmps5
    go_wp2_with fail
    refine (awake13 _ HG.out).mono ?_
    rintro o w1 ⟨rfl, hb⟩
    go_wp2_with fail
    go_ret
    exact ⟨rfl, hb⟩

theorem cellsInt : Tryd.prog.cellsOf 3 = 1 := by kernel_rfl

theorem own : ownKnob Tryd.prog.godebug = none := by kernel_rfl
theorem laidOut : laidOutB Tryd.prog = true := by kernel_rfl

set_option maxRecDepth 100000 in
theorem lifted (os : Os) (started : os.Started) (H : Type) (enc : TypeId × Value → H) :
    ReturnsInHanded {} Tryd.checked os 5 .any (fun w args => (Rows.coreEpochsSpec.pre enc Tryd.prog Tryd.f5 [] false w args ∧ laidMetH Tryd.prog laid3 w) ∧ sizedMet enc Tryd.prog Tryd.f5 (OpenSpec.ofChange Rows.coreEpochsSpec) false w args)
      (Rows.coreEpochsSpec.post enc Tryd.prog Tryd.f5 false true false false) := by
  refine returnsInHanded_of_change_and (C := Tryd.checked) (X := fun w _ => laidMetH Tryd.prog laid3 w) (fun _ _ _ hh h => h.of_heap hh) own started (by kernel_rfl) Tryd.func5
    (ChangeSpec.witness_shaped (enc := enc) (C := Tryd.checked) (os := os) (X := fun w _ => laidMetH Tryd.prog laid3 w) false (World.doorLaid Tryd.prog 24 os) #[.slice none 0 0] 8 rfl (World.shaped_of_RefB (by kernel_rfl) (by kernel_rfl)) (by kernel_rfl) (by kernel_rfl) (by kernel_rfl) (door_met os _)) ?_
  intro W base args ds gs before hval0 hW _ _ hL _
  have hval : ∀ (j : Nat) t v, Tryd.f5.params[j]? = some t → args[j]? = some v → Value.okWide Tryd.prog W .any base t v := hval0
  have hW' := hW
  obtain ⟨p, q, hA0, hV, rfl, hfz, hnd⟩ := hW
  have hA : DataW.TrodAll enc Tryd.prog W 0 (fun _ => true) true Tryd.f5.params.toList args.toList ds p := hA0
  rw [Tryd.params5] at hA hval
  obtain ⟨v0, vs0, d0, ds0, p0, q0, hargs, rfl, rfl, g0, r0⟩ := trodAll_cons hA
  obtain ⟨rfl, rfl, rfl⟩ := trodAll_nil r0
  obtain rfl : args = #[v0] := by cases args; simp_all
  obtain ⟨rfl, rfl⟩ := trodVars_none hV
  obtain ⟨A0, n0, cap0, rfl⟩ := okWide_slice Tryd.underlying76 (hval 0 76 v0 rfl rfl)
  obtain ⟨zs0, rfl, h0, w0, row0⟩ := open_num_row Tryd.underlying76 Tryd.underlying3 cellsInt g0 (fun x hx => hW'.lt x (by simp [hx]))
  unfold maxLen at h0
  clear hA0 hval0
  have hG := glo_of_laid hL
  refine (walk zs0 A0 cap0 h0 W row0 hG).mono fun e W' ⟨he, hg⟩ => ?_
  subst he
  exact ⟨_, rfl, law_post laidOut (by kernel_rfl) (by kernel_rfl) Tryd.underlying4 rfl rfl hW' hg⟩

theorem over : Rows.coreEpochsRow.holds Tryd.pinned (OpenSpec.ofChange Rows.coreEpochsSpec) :=
  OpenClaim.holds_of_wide 5 Tryd.f5 rfl rfl rfl rfl rfl rfl rfl ⟨rfl, rfl, rfl, rfl, rfl⟩ rfl rfl rfl rfl rfl (by kernel_rfl) Tryd.func5 (by kernel_rfl)
    (of_decide_eq_true (by kernel_rfl)) (by unfold Func.isWrapper; first | (rw [if_pos (by decide +kernel)]; kernel_rfl) | (rw [if_neg (by decide +kernel)]; exact ⟨rfl, rfl⟩))
    (fun os started H enc _ => lifted os started H enc)

/-- THE STATEMENT. -/
theorem proved : Rows.CoreEpochsCardSaid :=
  Claim7.holds_tied_plain_at .later [] [.wider, .wider, .wider] true _ false
    over (fun _ h => by cases h) (by kernel_rfl) (fun _ h => by cases h) coreEpochs_row_tie rfl ⟨rfl, rfl⟩ (by kernel_rfl) rfl
    (fun f fn hf hfn => by
      obtain rfl : f = 5 := Option.some.inj ((show Tryd.prog.funcNamed "revenant/revenantlaw13.CoreEpochs" = some 5 by kernel_rfl).symm.trans hf) |>.symm
      obtain rfl : fn = Tryd.f5 := (Option.some.inj (Tryd.func5.symm.trans hfn)).symm
      exact ⟨by kernel_rfl, fun j t ht => by
        rw [Tryd.params5] at ht
        have hm : t ∈ [76] := by simpa using Array.mem_of_getElem? ht
        have hall : ([76].all fun u => !Tryd.prog.wantsStandIn u) = true := by kernel_rfl
        exact (show Tryd.prog.wantsStandIn t = false by simpa using List.all_eq_true.1 hall t hm)⟩)
    (by kernel_rfl)
#print axioms proved
end Go.Proofs.YtlhhnaccigamjaaDoor.coreEpochs
