/- What is proved on the way to the statement, part 16 of 17: contracts of the functions, among other things in memory. -/
import Derived.Test.YtdknbegcflldjaaGreatDoorE15
import Derived.Test.YtdknbegcflldjaaGreatDoorChecked
import Derived.Deep.Light
import Derived.Laws.Bits64
import Derived.LoopIn
import Derived.Great.BuildSlice
import Derived.Great.Walk
import Derived.Test.YtdknbegcflldjaaGreatDoorTie
import Derived.LaidMore
import Derived.Stop.Joined
import Derived.WalkKit
import Derived.ProofKit
import Derived.OpenShut
import Derived.Deep.SlicePairs

/- Hash maps: an op's step, of the program, over the model: its Unlink; the whole. -/
namespace Go.Proofs.YtdknbegcflldjaaGreatDoor
open Go.RowKit Go.Maps
set_option maxRecDepth 100000

theorem uk_perm (a b c x s t : Item) (ys : List Item) (S : ST) (R : List Item) : (a :: b :: c :: ((x :: s :: t :: ys) ++ LT S R)).Perm (x :: (ys ++ LT S (s :: t :: a :: b :: c :: R))) := perm_of fun z => by
  simp only [LT, List.count_append, List.count_cons]
  omega
section
variable {w0 w : World} {R L9 sub2 : List Item} {C : Cf} {X : Tm} {V : Wm} {K : Kt} {d : Dd} {f : Mem} {G : Nat → Prop} {qc : Cnt} {n o l r s2 sb a b1 b2 b3 b4 : Nat} {sp nx lnx : Value} {wd x y z W k key : Int}
theorem markBoth_t (hX : InU K.L.X) (hmk : markB K.L.X = false) (hs0 : K.T.hs = 0 ∨ K.to = K.T.hs) (hC : In64 K.L.C) (hg : Glo w0) (hn : n < maxLen) (hE : Env w0 (boxI l (ukC X.c x y z W K.L.C K.L.X k key K.to nx 0) :: LT (SPK C X V K f G qc n) L9) w) :
    Calls Tryz.prog 260 #[.pointer (some ⟨l, 0, none⟩), .iface 26 (.pointer (some ⟨V.p, 0, none⟩))] w fun e w' => e = .returned (.int .i64 (if f (5, K.L.C, 7) = K.L.X then 0 else 2)) ∧ ∃ G' nx', (f (5, K.L.C, 7) = K.L.X → nx' = mvL 287 l) ∧ Env w0 (boxI l (ukC X.c x y z W K.L.C K.L.X k key K.to nx' (if f (5, K.L.C, 7) = K.L.X then 0 else 2)) :: LT (SPK C X V { K with T := { K.T with hs := if f (5, K.L.C, 7) = K.L.X then 0 else K.T.hs } } (swf f (5, K.L.C, 7) K.L.X (markM K.to K.T.e)) G' (swq qc (decide (f (5, K.L.C, 7) = K.L.X))) (n + 1)) L9) w' := by
  by_cases hh : K.T.hs = 0
  · refine (mark_k (S := SPK C X V K f G qc n) hX hmk hh hC hg hn hE).mono ?_
    rintro e w1 ⟨rfl, G', nx', h1, hE2⟩
    refine ⟨rfl, G', nx', h1, ?_⟩
    rw [show (if f (5, K.L.C, 7) = K.L.X then (0 : Int) else K.T.hs) = K.T.hs by split <;> simp [hh]]
    exact hE2
  · have ht : K.to = K.T.hs := hs0.elim (fun h => absurd h hh) id
    rw [ht] at hE ⊢
    refine (markHeld_k (S := SPK C X V K f G qc n) hX hmk hh hC hg hn hE).mono ?_
    rintro e w1 ⟨rfl, G', nx', h1, hE2⟩
    exact ⟨rfl, G', nx', h1, hE2⟩
set_option maxHeartbeats 3200000 in
theorem op4_p (hpc : K.pc = 4) (hX : InU K.L.X) (hmk : markB K.L.X = false) (hs0 : K.T.hs = 0 ∨ K.to = K.T.hs) (hC : In64 K.L.C) (hda : K.err = 0 ∧ K.dn = false ∧ K.vl = 0) (hg : Glo w0) (hn : n < maxLen)
    (hE : Env w0 (boxI o (opT X.c d.ok d.key d.val d.lv (rtM C d) (cvP b1 b2) 0 (.pointer (some ⟨sb, 0, none⟩)) 0 false 0) :: boxI b1 [mvL 224 l] :: boxI b2 [mvL 244 o] :: ([boxI l (ukC X.c K.L.p.1 K.L.p.2.1 K.L.p.2.2 K.L.W K.L.C K.L.X (rtM C d) d.key K.to (mvL 260 l) 0), srT X.c sb a (rtM C d) d.key, lnT X.c a d.key lnx wd K.L] ++ LT (SPK C X V K f G qc n) R)) w) :
    Calls Tryz.prog 33 #[.pointer (some ⟨o, 0, none⟩), .iface 26 (.pointer (some ⟨V.p, 0, none⟩))] w fun e w' => ∃ s, e = .returned (.int .i64 s) ∧ OutP w0 R C X V d o n qc (opM C d K f) s w' := by
  refine step_tV 224 l 244 (.pointer (some ⟨o, 0, none⟩)) _ (fun _ _ => by kernel_rfl) (fun _ _ => by kernel_rfl) _ hE ?_
  have hE1 := hE.perm (uk_perm _ _ _ _ _ _ [] _ _)
  refine stepMv_u 260 _ (fun _ _ => by kernel_rfl) _ hE1 ?_
  refine (markBoth_t hX hmk hs0 hC hg hn hE1).mono ?_
  rintro e w1 ⟨rfl, G', nx', hnx, hE2⟩
  by_cases heq : f (5, K.L.C, 7) = K.L.X
  · have hM : opM C d K f = (0, { K with pc := 5, T := { K.T with hs := 0 } }, swf f (5, K.L.C, 7) K.L.X (markM K.to K.T.e)) := by
      unfold opM
      rw [if_neg (by omega), if_neg (by omega), if_neg (by omega), if_neg (by omega), if_pos hpc, if_pos heq]
    rw [hM]
    rw [if_pos heq, if_pos heq] at hE2
    rw [if_pos heq]
    refine ⟨0, rfl, 0, rfl, fun _ => ?_, fun h => absurd rfl h⟩
    have hnx := hnx heq
    subst hnx
    exact OutP.go (K := { K with pc := 5, T := { K.T with hs := 0 } }) (F := X.F) (k := X.kq) (sub := [_, _, _]) ⟨Nat.le_refl _, (by first | exact Or.inl ⟨rfl, rfl, rfl, rfl⟩ | exact Or.inr (Or.inl ⟨rfl, rfl, rfl, rfl⟩) | exact Or.inr (Or.inr (Or.inl ⟨rfl, rfl, rfl, rfl⟩)) | exact Or.inr (Or.inr (Or.inr ⟨rfl, rfl, rfl, rfl⟩)))⟩ (.inr (.inr (.inr (.inl ⟨.inr rfl, l, sb, a, lnx, wd, rfl, rfl, rfl, rfl⟩)))) (hE2.perm (uk_perm _ _ _ _ _ _ [] _ _).symm)
  · have hM : opM C d K f = (0, findM C d K, swf f (5, K.L.C, 7) K.L.X (markM K.to K.T.e)) := by
      unfold opM
      rw [if_neg (by omega), if_neg (by omega), if_neg (by omega), if_neg (by omega), if_pos hpc, if_neg heq]
    rw [hM]
    rw [if_neg heq, if_neg heq] at hE2
    rw [if_neg heq]
    refine ⟨2, rfl, 2, rfl, fun h => absurd h (by decide), fun _ => ?_⟩
    have hE3 := hE2.perm (uk_perm (boxI o (opT X.c d.ok d.key d.val d.lv (rtM C d) (cvP b1 b2) 0 (.pointer (some ⟨sb, 0, none⟩)) 0 false 0)) (boxI b1 [mvL 224 l]) (boxI b2 [mvL 244 o]) _ _ _ [] _ R).symm
    refine ⟨hE3.rule 2 rfl 0, ?_⟩
    have hE4 := hE3.sub (L' := boxI o (opT X.c d.ok d.key d.val d.lv (rtM C d) (cvP b1 b2) 0 (.pointer (some ⟨sb, 0, none⟩)) 0 false 0) :: LT _ R) (.cons_cons _ (.cons _ (.cons _ (.cons _ (.cons _ (.cons _ (List.Sublist.refl _)))))))
    refine (unlinkedFind_t (S := SPK C X V K (swf f (5, K.L.C, 7) K.L.X (markM K.to K.T.e)) G' (swq qc (decide (f (5, K.L.C, 7) = K.L.X))) (n + 1)) hE4).mono ?_
    rintro e w2 ⟨rfl, c1, c2, sb2, hE5⟩
    exact ⟨0, rfl, OutP.find (K0 := K) (F := X.F) (k := X.kq) hda ⟨Nat.le_refl _, (by first | exact Or.inl ⟨rfl, rfl, rfl, rfl⟩ | exact Or.inr (Or.inl ⟨rfl, rfl, rfl, rfl⟩) | exact Or.inr (Or.inr (Or.inl ⟨rfl, rfl, rfl, rfl⟩)) | exact Or.inr (Or.inr (Or.inr ⟨rfl, rfl, rfl, rfl⟩)))⟩ hE5⟩
set_option maxHeartbeats 3200000 in
theorem op5_p (hpc : K.pc = 5) (hwf : Wf K.L.p) (hg : Glo w0) (hn : n < maxLen)
    (hE : Env w0 (boxI o (opT X.c d.ok d.key d.val d.lv (rtM C d) (cvP b1 b2) 0 (.pointer (some ⟨sb, 0, none⟩)) 0 false 0) :: boxI b1 [mvL 224 l] :: boxI b2 [mvL 244 o] :: ([boxI l (ukC X.c K.L.p.1 K.L.p.2.1 K.L.p.2.2 K.L.W K.L.C K.L.X (rtM C d) d.key K.to (mvL 287 l) 0), srT X.c sb a (rtM C d) d.key, lnT X.c a d.key lnx wd K.L] ++ LT (SPK C X V K f G qc n) R)) w) :
    Calls Tryz.prog 33 #[.pointer (some ⟨o, 0, none⟩), .iface 26 (.pointer (some ⟨V.p, 0, none⟩))] w fun e w' => ∃ s, e = .returned (.int .i64 s) ∧ OutP w0 R C X V d o n qc (opM C d K f) s w' := by
  refine step_tV 224 l 244 (.pointer (some ⟨o, 0, none⟩)) _ (fun _ _ => by kernel_rfl) (fun _ _ => by kernel_rfl) _ hE ?_
  have hE1 := hE.perm (uk_perm _ _ _ _ _ _ [] _ _)
  refine stepMv_u 287 _ (fun _ _ => by kernel_rfl) _ hE1 ?_
  refine (cut_k (S := SPK C X V K f G qc n) hwf hg hn hE1).mono ?_
  rintro e w1 ⟨rfl, G', b3, b4, hc⟩
  refine ⟨0, rfl, 0, rfl, fun _ => ?_, fun h => absurd rfl h⟩
  rcases hc with ⟨heq, r, hE2⟩ | ⟨heq, s9, hE2⟩
  · have heq' : f K.L.p = K.L.W := heq
    have hM : opM C d K f = (0, { K with pc := 7, T := { K.T with pc := 3, rs := K.L.C, rpc := 0, re := 0 } }, swf f K.L.p K.L.W (wordI false K.to K.T.e)) := by
      unfold opM
      rw [if_neg (by omega), if_neg (by omega), if_neg (by omega), if_neg (by omega), if_neg (by omega), if_pos hpc, if_pos heq']
    rw [hM]
    exact OutP.go (K := { K with pc := 7, T := { K.T with pc := 3, rs := K.L.C, rpc := 0, re := 0 } }) (F := X.F) (k := X.kq) (sub := [_, _, _, _, _, _]) ⟨Nat.le_refl _, (by first | exact Or.inl ⟨rfl, rfl, rfl, rfl⟩ | exact Or.inr (Or.inl ⟨rfl, rfl, rfl, rfl⟩) | exact Or.inr (Or.inr (Or.inl ⟨rfl, rfl, rfl, rfl⟩)) | exact Or.inr (Or.inr (Or.inr ⟨rfl, rfl, rfl, rfl⟩)))⟩ (.inr (.inr (.inr (.inr (.inr ⟨rfl, l, sb, a, lnx, wd, b3, b4, r, rfl, rfl, rfl, rfl⟩))))) (hE2.perm (uk_perm _ _ _ _ _ _ [_, _, _] _ _).symm)
  · have heq' : ¬ f K.L.p = K.L.W := heq
    have hM : opM C d K f = (0, { K with pc := 6, on2 := false, L2 := L0 (4, 0, rtM C d) }, swf f K.L.p K.L.W (wordI false K.to K.T.e)) := by
      unfold opM
      rw [if_neg (by omega), if_neg (by omega), if_neg (by omega), if_neg (by omega), if_neg (by omega), if_pos hpc, if_neg heq']
    rw [hM]
    exact OutP.go (K := { K with pc := 6, on2 := false, L2 := L0 (4, 0, rtM C d) }) (F := X.F) (k := X.kq) (sub := [_, _, _, _, _, _]) ⟨Nat.le_refl _, (by first | exact Or.inl ⟨rfl, rfl, rfl, rfl⟩ | exact Or.inr (Or.inl ⟨rfl, rfl, rfl, rfl⟩) | exact Or.inr (Or.inr (Or.inl ⟨rfl, rfl, rfl, rfl⟩)) | exact Or.inr (Or.inr (Or.inr ⟨rfl, rfl, rfl, rfl⟩)))⟩ (.inr (.inr (.inr (.inr (.inl ⟨rfl, l, sb, a, lnx, wd, b3, b4, s9, [_], rfl, rfl, rfl, .inl ⟨rfl, rfl, .inl rfl⟩, rfl⟩))))) (hE2.perm (uk_perm _ _ _ _ _ _ [_, _, _] _ _).symm)
set_option maxHeartbeats 3200000 in
theorem op6_p (hpc : K.pc = 6) (hon : K.on2 = true → LaneOk C K.L2) (hg : Glo w0) (hn : n < maxLen) (hS : SIt X.c s2 (rtM C d) d.key false K.on2 K.L2 0 sub2)
    (hE : Env w0 (boxI o (opT X.c d.ok d.key d.val d.lv (rtM C d) (cvP b1 b2) 0 (.pointer (some ⟨sb, 0, none⟩)) 0 false 0) :: boxI b1 [mvL 224 l] :: boxI b2 [mvL 244 o] :: ((boxI l (ukC X.c K.L.p.1 K.L.p.2.1 K.L.p.2.2 K.L.W K.L.C K.L.X (rtM C d) d.key K.to (cvP b3 b4) 0) :: srT X.c sb a (rtM C d) d.key :: lnT X.c a d.key lnx wd K.L :: boxI b3 [mvL 132 s2] :: boxI b4 [mvL 305 l] :: sub2) ++ LT (SPK C X V K f G qc n) R)) w) :
    Calls Tryz.prog 33 #[.pointer (some ⟨o, 0, none⟩), .iface 26 (.pointer (some ⟨V.p, 0, none⟩))] w fun e w' => ∃ s, e = .returned (.int .i64 s) ∧ OutP w0 R C X V d o n qc (opM C d K f) s w' := by
  have hM : opM C d K f = if (searchM (rtM C d) d.key false ⟨K.on2, K.L2, K.T.e, K.r⟩ f).1 = 1 then (0, { K with on2 := (searchM (rtM C d) d.key false ⟨K.on2, K.L2, K.T.e, K.r⟩ f).2.1.on, L2 := (searchM (rtM C d) d.key false ⟨K.on2, K.L2, K.T.e, K.r⟩ f).2.1.L, r := (searchM (rtM C d) d.key false ⟨K.on2, K.L2, K.T.e, K.r⟩ f).2.1.r, pc := 7, T := { K.T with e := (searchM (rtM C d) d.key false ⟨K.on2, K.L2, K.T.e, K.r⟩ f).2.1.e, pc := 3, rs := K.L.C, rpc := 0, re := 0 } }, (searchM (rtM C d) d.key false ⟨K.on2, K.L2, K.T.e, K.r⟩ f).2.2) else (0, { K with on2 := (searchM (rtM C d) d.key false ⟨K.on2, K.L2, K.T.e, K.r⟩ f).2.1.on, L2 := (searchM (rtM C d) d.key false ⟨K.on2, K.L2, K.T.e, K.r⟩ f).2.1.L, r := (searchM (rtM C d) d.key false ⟨K.on2, K.L2, K.T.e, K.r⟩ f).2.1.r, T := { K.T with e := (searchM (rtM C d) d.key false ⟨K.on2, K.L2, K.T.e, K.r⟩ f).2.1.e } }, (searchM (rtM C d) d.key false ⟨K.on2, K.L2, K.T.e, K.r⟩ f).2.2) := by
    unfold opM
    rw [if_neg (by omega), if_neg (by omega), if_neg (by omega), if_neg (by omega), if_neg (by omega), if_neg (by omega), if_pos hpc]
  rw [hM]
  refine step_tV 224 l 244 (.pointer (some ⟨o, 0, none⟩)) _ (fun _ _ => by kernel_rfl) (fun _ _ => by kernel_rfl) _ hE ?_
  have hE1 : Env w0 (boxI l (ukC X.c K.L.p.1 K.L.p.2.1 K.L.p.2.2 K.L.W K.L.C K.L.X (rtM C d) d.key K.to (cvP b3 b4) 0) :: boxI b3 [mvL 132 s2] :: boxI b4 [mvL 305 l] :: (sub2 ++ LT (SPK C X V K f G qc n) (srT X.c sb a (rtM C d) d.key :: lnT X.c a d.key lnx wd K.L :: boxI o (opT X.c d.ok d.key d.val d.lv (rtM C d) (cvP b1 b2) 0 (.pointer (some ⟨sb, 0, none⟩)) 0 false 0) :: boxI b1 [mvL 224 l] :: boxI b2 [mvL 244 o] :: R))) w := hE.perm (uk_perm _ _ _ _ _ _ (_ :: _ :: sub2) _ _)
  refine (step_u 132 s2 _ (.pointer (some ⟨l, 0, none⟩)) 305 (fun _ _ => by kernel_rfl) (fun _ _ => by kernel_rfl) (fun s w' => s = 0 ∧ OutP w0 R C X V d o n qc _ 0 w') hE1 ?_).mono (fun e w' ⟨s, he, hs, hq⟩ => ⟨s, he, fun _ => hq, fun h => absurd hs h⟩)
  refine (search_I (C := C) (X := X) (V := V) (T := K.T) (r := K.r) hon hg hn hS (hE1.perm (rest_perm _ _ _ _ _ _))).mono ?_
  rintro e w1 ⟨rfl, G', qc', n', sub', hn', hS', hE'⟩
  have hst := search_state (rtM C d) d.key false ⟨K.on2, K.L2, K.T.e, K.r⟩ f
  generalize searchM (rtM C d) d.key false ⟨K.on2, K.L2, K.T.e, K.r⟩ f = q at *
  obtain ⟨q1, ⟨on', L', e', r'⟩, f'⟩ := q
  dsimp only at hst hS' hE' ⊢
  have hE2 := hE'.perm (rest_perm _ _ _ _ _ _).symm
  refine ⟨q1, rfl, fun h0 => ⟨rfl, ?_⟩, fun h0 => ?_⟩
  · subst h0
    rw [if_neg (by decide)]
    exact OutP.go (K := { K with on2 := on', L2 := L', r := r', T := { K.T with e := e' } }) (F := X.F) (k := X.kq) (sub := _ :: _ :: _ :: _ :: _ :: sub') hn' (.inr (.inr (.inr (.inr (.inl ⟨hpc, l, sb, a, lnx, wd, b3, b4, s2, sub', rfl, rfl, rfl, hS', rfl⟩))))) (hE2.perm (uk_perm _ _ _ _ _ _ (_ :: _ :: sub') _ _).symm)
  · rcases hst with h9 | ⟨h9, h8⟩
    · exact absurd h9 h0
    · subst h9
      rw [if_pos rfl]
      refine ⟨hE2.rule 2 rfl 0, ?_⟩
      have hE3 := hE2.sub (L' := boxI l (ukC X.c K.L.p.1 K.L.p.2.1 K.L.p.2.2 K.L.W K.L.C K.L.X (rtM C d) d.key K.to (cvP b3 b4) 0) :: LT (SP C { X with cr := r' } V { K.T with e := e' } f' G' qc' n') (srT X.c sb a (rtM C d) d.key :: lnT X.c a d.key lnx wd K.L :: boxI o (opT X.c d.ok d.key d.val d.lv (rtM C d) (cvP b1 b2) 0 (.pointer (some ⟨sb, 0, none⟩)) 0 false 0) :: boxI b1 [mvL 224 l] :: boxI b2 [mvL 244 o] :: R)) (.cons_cons _ (.cons _ (.cons _ (List.sublist_append_right sub' _))))
      refine (retire_k (S := SP C { X with cr := r' } V { K.T with e := e' } f' G' qc' n') 1 hE3).mono ?_
      rintro e2 w2 ⟨rfl, c3, c4, r9, hE4⟩
      refine ⟨0, rfl, rfl, ?_⟩
      exact OutP.go (K := { K with on2 := on', L2 := L', r := r', pc := 7, T := { K.T with e := e', pc := 3, rs := K.L.C, rpc := 0, re := 0 } }) (F := X.F) (k := X.kq) (sub := [_, _, _, _, _, _]) hn' (.inr (.inr (.inr (.inr (.inr ⟨rfl, l, sb, a, lnx, wd, c3, c4, r9, rfl, rfl, rfl, rfl⟩))))) (hE4.perm (uk_perm _ _ _ _ _ _ [_, _, _] _ _).symm)
set_option maxHeartbeats 3200000 in
theorem op7_p (hpc : K.pc = 7) (hl : K.T.ql.length + 1 ≤ 1000000) (he : InU K.T.re) (hs : In64 K.T.rs) (hr : K.T.rpc = 0 ∨ K.T.rpc = 1) (hda : K.err = 0 ∧ K.dn = false ∧ K.vl = 0) (hn : n < maxLen)
    (hE : Env w0 (boxI o (opT X.c d.ok d.key d.val d.lv (rtM C d) (cvP b1 b2) 0 (.pointer (some ⟨sb, 0, none⟩)) 0 false 0) :: boxI b1 [mvL 224 l] :: boxI b2 [mvL 244 o] :: ([boxI l (ukC X.c K.L.p.1 K.L.p.2.1 K.L.p.2.2 K.L.W K.L.C K.L.X (rtM C d) d.key K.to (cvP b3 b4) 0), srT X.c sb a (rtM C d) d.key, lnT X.c a d.key lnx wd K.L, boxI b3 [mvL 322 r], boxI b4 [mvE l 17], boxI r (rtv X.c (nxR r K.T.rpc) K.T.rs K.T.re)] ++ LT (SPK C X V K f G qc n) R)) w) :
    Calls Tryz.prog 33 #[.pointer (some ⟨o, 0, none⟩), .iface 26 (.pointer (some ⟨V.p, 0, none⟩))] w fun e w' => ∃ s, e = .returned (.int .i64 s) ∧ OutP w0 R C X V d o n qc (opM C d K f) s w' := by
  have hM : opM C d K f = if (retireM K.T f).1 = 0 then (0, { K with T := (retireM K.T f).2.1 }, (retireM K.T f).2.2) else (1, { K with T := { (retireM K.T f).2.1 with pc := 0 }, dn := true, vl := K.L.V }, (retireM K.T f).2.2) := by
    unfold opM
    rw [if_neg (by omega), if_neg (by omega), if_neg (by omega), if_neg (by omega), if_neg (by omega), if_neg (by omega), if_neg (by omega)]
  rw [hM]
  refine step_tV 224 l 244 (.pointer (some ⟨o, 0, none⟩)) _ (fun _ _ => by kernel_rfl) (fun _ _ => by kernel_rfl) _ hE ?_
  have hE1 := hE.perm (uk_perm _ _ _ _ _ _ [_, _, _] _ _)
  refine (step_u 322 r _ (.pointer (some ⟨l, 17, none⟩)) 194 (fun _ _ => by kernel_rfl) (fun _ _ => by kernel_rfl) (fun s w' => (s = 0 → OutP w0 R C X V d o n qc _ 0 w') ∧ (s ≠ 0 → w'.cell? ⟨b2, 0, none⟩ = some (mvL 244 o) ∧ Calls Tryz.prog 244 #[.pointer (some ⟨o, 0, none⟩), .int .i64 s] w' fun e2 w2 => ∃ s2, e2 = .returned (.int .i64 s2) ∧ OutP w0 R C X V d o n qc _ s2 w2)) hE1 ?_).mono (fun e w' ⟨s, he, hq⟩ => ⟨s, he, hq.1, hq.2⟩)
  have hE2 : Env w0 (boxI r (rtv X.c (nxR r K.T.rpc) K.T.rs K.T.re) :: LT (SP C { X with cr := K.r } V K.T f G qc n) (boxI l (ukC X.c K.L.p.1 K.L.p.2.1 K.L.p.2.2 K.L.W K.L.C K.L.X (rtM C d) d.key K.to (cvP b3 b4) 0) :: boxI b3 [mvL 322 r] :: boxI b4 [mvE l 17] :: srT X.c sb a (rtM C d) d.key :: lnT X.c a d.key lnx wd K.L :: boxI o (opT X.c d.ok d.key d.val d.lv (rtM C d) (cvP b1 b2) 0 (.pointer (some ⟨sb, 0, none⟩)) 0 false 0) :: boxI b1 [mvL 224 l] :: boxI b2 [mvL 244 o] :: R)) w := hE1.perm (rest_perm _ _ _ _ [_] _)
  refine (rePx (C := C) (X := { X with cr := K.r }) (V := V) (T := K.T) hn hl he hs hE2).mono ?_
  rintro e w1 ⟨rfl, F', k', G', qc', n', hn', hcase⟩
  have hrs : (retireM K.T f).1 = 0 ∨ (retireM K.T f).1 = 1 := by
    unfold retireM
    split
    · exact .inl rfl
    · exact .inr rfl
  have hkeep : (retireM K.T f).2.1.rs = K.T.rs := by
    unfold retireM
    split <;> rfl
  generalize retireM K.T f = q at *
  obtain ⟨q1, T', f'⟩ := q
  dsimp only at hrs hcase hkeep ⊢
  refine ⟨q1, rfl, fun h0 => ⟨fun _ => ?_, fun h => absurd rfl h⟩, fun h0 => ?_⟩
  · subst h0
    rw [if_pos rfl]
    rcases hcase with ⟨-, hE'⟩ | ⟨h9, -⟩
    · exact OutP.go (K := { K with T := T' }) (F := F') (k := k') (sub := [_, _, _, _, _, _]) hn' (.inr (.inr (.inr (.inr (.inr ⟨hpc, l, sb, a, lnx, wd, b3, b4, r, rfl, rfl, rfl, rfl⟩))))) ((hE'.perm (rest_perm _ _ _ _ [_] _).symm).perm (uk_perm _ _ _ _ _ _ [_, _, _] _ _).symm)
    · exact absurd rfl h9
  · rcases hrs with h | h
    · exact absurd h h0
    subst h
    rcases hcase with ⟨h9, -⟩ | ⟨-, hE'⟩
    · exact absurd h9 (by decide)
    have hE3 := hE'.perm (L' := boxI l (ukC X.c K.L.p.1 K.L.p.2.1 K.L.p.2.2 K.L.W K.L.C K.L.X (rtM C d) d.key K.to (cvP b3 b4) 0) :: boxI b3 [mvL 322 r] :: boxI b4 [mvE l 17] :: boxI o (opT X.c d.ok d.key d.val d.lv (rtM C d) (cvP b1 b2) 0 (.pointer (some ⟨sb, 0, none⟩)) 0 false 0) :: boxI b1 [mvL 224 l] :: boxI b2 [mvL 244 o] :: srT X.c sb a (rtM C d) d.key :: lnT X.c a d.key lnx wd K.L :: LT (SP C { { X with cr := K.r } with F := F', kq := k' } V T' f' G' qc' n') R) (perm_of fun z => by simp only [LT, List.count_cons]; omega)
    refine ⟨hE3.rule 2 rfl 0, ?_⟩
    refine (end_r (o := 17) 0 1 (by simp [ukC]) hE3 rfl).mono ?_
    rintro e2 w2 ⟨rfl, hE4⟩
    refine ⟨1, rfl, fun h => absurd h (by decide), fun _ => ⟨hE4.rule 5 rfl 0, ?_⟩⟩
    have hE5 := hE4.sub (L' := boxI o (opT X.c d.ok d.key d.val d.lv (rtM C d) (cvP b1 b2) 0 (.pointer (some ⟨sb, 0, none⟩)) 0 false 0) :: srT X.c sb a (rtM C d) d.key :: lnT X.c a d.key lnx wd K.L :: LT (SP C { { X with cr := K.r } with F := F', kq := k' } V T' f' G' qc' n') R) (.cons _ (.cons _ (.cons _ (.cons_cons _ (.cons _ (.cons _ (List.Sublist.refl _)))))))
    refine (unlinkedDone_t (S := SP C { { X with cr := K.r } with F := F', kq := k' } V T' f' G' qc' n') hE5).mono ?_
    rintro e3 w3 ⟨rfl, hE6⟩
    rw [if_neg (by decide)]
    have h5 : opT X.c d.ok d.key d.val d.lv (rtM C d) (cvP b1 b2) 1 (.pointer (some ⟨sb, 0, none⟩)) 0 true K.L.V = opT X.c d.ok d.key d.val d.lv (rtM C d) (cvP b1 b2) 1 (.pointer (some ⟨sb, 0, none⟩)) K.err true K.L.V := by rw [hda.1]
    have hE7 : Env w0 (boxI o (opT X.c d.ok d.key d.val d.lv (rtM C d) (cvP b1 b2) 1 (.pointer (some ⟨sb, 0, none⟩)) 0 true K.L.V) :: LT (SP C { { X with cr := K.r } with F := F', kq := k' } V T' f' G' qc' n') R) w3 := hE6
    rw [h5] at hE7
    exact ⟨1, rfl, OutP.fin (K := { K with T := { T' with pc := 0 }, dn := true, vl := K.L.V }) (F := F') (k := k') (show (1 : Int) ≠ 0 by decide) hn' hE7⟩
/-- What an op's step asks of its thread. -/
structure KcOk (C : Cf) (d : Dd) (K : Kt) (f : Mem) (n : Nat) : Prop where
  (pc : (1 ≤ K.pc ∧ K.pc ≤ 7) ∨ K.pc = 9)
  (da : K.err = 0 ∧ K.dn = false ∧ K.vl = 0)
  (dk : InU d.key ∧ InU d.val)
  (len : K.T.ql.length + 1 ≤ 1000000)
  (hn : n < maxLen)
  (s1 : K.pc = 1 → K.on = true → LaneOk C K.L)
  (sx : K.pc = 1 → (searchM (rtM C d) d.key true ⟨K.on, K.L, K.T.e, K.r⟩ f).1 = 1 → InU (searchM (rtM C d) d.key true ⟨K.on, K.L, K.T.e, K.r⟩ f).2.1.L.X)
  (row : K.pc = 2 → RowOk C K.T n)
  (hs : In64 K.T.hs)
  (link : K.pc = 3 ∨ K.pc = 9 → K.T.hs ≠ 0)
  (sp : 3 ≤ K.pc → SpotOk C K.L)
  (un : K.pc = 4 → markB K.L.X = false ∧ (K.T.hs = 0 ∨ K.to = K.T.hs))
  (s2 : K.pc = 6 → K.on2 = true → LaneOk C K.L2)
  (re : K.pc = 7 → InU K.T.re ∧ In64 K.T.rs ∧ (K.T.rpc = 0 ∨ K.T.rpc = 1))
theorem op_p {ps : List Item} (h : KcOk C d K f n) (hg : Glo w0) (hM : PM C X.c d K o ps) (hE : Env w0 (ps ++ LT (SPK C X V K f G qc n) R) w) :
    Calls Tryz.prog 33 #[.pointer (some ⟨o, 0, none⟩), .iface 26 (.pointer (some ⟨V.p, 0, none⟩))] w fun e w' => ∃ s, e = .returned (.int .i64 s) ∧ OutP w0 R C X V d o n qc (opM C d K f) s w' := by
  rcases hM with ⟨b1, b2, F, Y, sp, sub, rfl, hp⟩ | ⟨hpc, hd4, sb, a, lnx, wd, rfl⟩
  · rcases hp with ⟨hpc, sb, rfl, rfl, rfl, hS⟩ | ⟨hpc, a, left, s, gl, rfl, rfl, hlf, rfl⟩ | ⟨hpc, l, rfl, rfl, rfl⟩ | ⟨hpc, l, sb, a, lnx, wd, rfl, rfl, rfl, rfl⟩ | ⟨hpc, l, sb, a, lnx, wd, b3, b4, s2, sub2, rfl, rfl, rfl, hS, rfl⟩ | ⟨hpc, l, sb, a, lnx, wd, b3, b4, r, rfl, rfl, rfl, rfl⟩
    · exact op1_p hpc (h.s1 hpc) (h.sx hpc) h.da h.len hg h.hn hS hE
    · exact op2_p hpc (h.row hpc) h.dk h.da hg hlf hE
    · exact op3_p hpc (h.link (.inl hpc)) h.hs (h.sp (by omega)).W (h.sp (by omega)).wf h.da hg h.hn hE
    · have hC := (h.sp (by omega)).Cr
      rcases hpc with hpc | hpc
      · rw [if_pos hpc] at hE
        exact op4_p hpc (h.sp (by omega)).X (h.un hpc).1 (h.un hpc).2 (by unfold In64; omega) h.da hg h.hn hE
      · rw [if_neg (by omega)] at hE
        exact op5_p hpc (h.sp (by omega)).wf hg h.hn hE
    · exact op6_p hpc (h.s2 hpc) hg h.hn hS hE
    · obtain ⟨h1, h2, h3⟩ := h.re hpc
      exact op7_p hpc h.len h1 h2 h3 h.da h.hn hE
  · exact op9_p hpc hd4 (h.link (.inr hpc)) h.hs (h.sp (by omega)).X hg h.hn hE
end
end Go.Proofs.YtdknbegcflldjaaGreatDoor

/- Lists: what the contracts of an op's step ask, from what a thread keeps. -/
namespace Go.Proofs.YtdknbegcflldjaaGreatDoor
open Go.RowKit Go.Maps
set_option maxRecDepth 100000

section
variable {C : Cf} {ds : List Dd} {B : Nat} {T : Th} {d : Dd} {K : Kt} {f : Mem} {n : Nat}
theorem OkT.row (hC : COk C) (hT : OkT C ds B T) (hB : B + 1 ≤ 1000000) (hn : n < maxLen) (hp : T.pc = 2) : RowOk C T n := by
  have hl := hC.l
  have hs := hC.s
  refine ⟨by have := hT.e; constructor <;> omega, hn, by have := hT.len; omega, by constructor <;> omega, hT.w, hT.apc hp, fun h => ⟨hT.low hp (by omega), ?_⟩, by have := hT.hs; unfold In64; constructor <;> omega⟩
  rcases hq : T.ql with _ | ⟨⟨x, y, z⟩, t⟩
  · exact absurd hq (hT.born hp h)
  · have := hT.ql (x, y, z) (by rw [hq]; simp)
    obtain ⟨h1, h2, rfl⟩ := this
    exact ⟨x, y, t, rfl, h1, h2⟩
theorem KOk.kc (hC : COk C) (hR : In64 (rtM C d)) (hF : OkF C f) (hS : LnkF C f) (h : KOk C ds B d K) (h1 : 1 ≤ K.pc) (h8 : K.pc ≠ 8) (hd : InU d.key ∧ InU d.val) (hB : B + 1 ≤ 1000000) (hn : n < maxLen) : KcOk C d K f n := by
  have hl := hC.l
  have hs := hC.s
  have hlen := h.t.len
  have hpc := h.pc
  refine ⟨by omega, h.da h1 h8, hd, by omega, hn, h.s1, fun hp h9 => ?_, fun hp => h.t.row hC hB hn (by have := h.tp; rw [if_pos hp] at this; exact this), by have := h.t.hs; unfold In64; constructor <;> omega, h.lk, fun hp => h.sp hp h8, fun hp => ⟨(h.un (by omega) h8).1, ?_⟩, h.s2, fun hp => ?_⟩
  · exact ((search_keep (k := rtM C d) (vs := true) (key := d.key) (e := K.T.e) (r := K.r) hR (h.s1 hp) hF.u hS (by omega)).2 h9).X
  · by_cases h0 : K.T.hs = 0
    · exact .inl h0
    · have := (h.ho h0).1
      omega
  · have h3 : K.T.pc = 3 := by have := h.tp; rw [if_neg (by omega), if_pos hp] at this; exact this
    have hre := h.t.re
    have hrs := h.t.rs
    exact ⟨by unfold InU; constructor <;> omega, by unfold In64; constructor <;> omega, h.t.rpc h3⟩
end
end Go.Proofs.YtdknbegcflldjaaGreatDoor

/- Contracts of the functions of layer 3. -/
namespace Go.Proofs.YtdknbegcflldjaaGreatDoor
open Go.RowKit
set_option maxRecDepth 100000

set_option maxHeartbeats 400000 in
theorem alone_any (k s b h l : Int) (w : World) : Calls Tryz.prog 22 #[.agg #[.int .i64 k, .int .i64 s, .int .i64 b, .int .i64 h, .int .i64 l]] w fun e w' => e = .returned (.int .i64 (aloneI k s b h l)) ∧ Below w.heap.size w w' := by
  have hF := (Fr.start w).push w.heap.size rfl [.int .i64 k, .int .i64 s, .int .i64 b, .int .i64 h, .int .i64 l] 58
  have r := hF.rule 0 rfl
  go_enter Tryz.func22, Tryz.ntmps22
  go_wp2_with
    (with_reducible refine (check_any _ _ _ _ _ _).mono ?_; rintro e w1 ⟨rfl, hb⟩; replace hF := hF.over hb; clear hb r; have r := hF.rule 0 rfl)
  all_goals
    go_ret
    (try go_light)
    (try simp only [bne_iff_ne, ne_eq, bne_eq_false_iff_eq, beq_iff_eq, beq_eq_false_iff_ne, Bool.or_eq_true, Bool.and_eq_true, decide_eq_true_eq, decide_eq_false_iff_not, Bool.or_eq_false_iff, Bool.not_eq_true', Bool.not_eq_false'] at *)
    refine ⟨ret_int ?_, hF.below⟩
    by_cases hc : chkI k s b h l = 0
    · have hy := chk_yes hc
      simp only [aloneI, hc, if_true]
      first | exact alone_wrap (by omega) (by omega) | omega
    · simp only [aloneI, hc, if_false]
      (try (first | rfl | omega))

end Go.Proofs.YtdknbegcflldjaaGreatDoor

/- Contracts of the functions of layer 3. -/
namespace Go.Proofs.YtdknbegcflldjaaGreatDoor
open Go.RowKit
set_option maxRecDepth 100000

set_option maxHeartbeats 400000 in
theorem isAsked_any (k o : Int) (w : World) : Calls Tryz.prog 62 #[.int .i64 k, .int .i64 o] w fun e w' => e = .returned (.bool (askB k o)) ∧ w = w' := by
  go_enter Tryz.func62, Tryz.ntmps62
  go_wp2
  all_goals
    go_ret
    (try go_light)
    (try simp only [bne_iff_ne, ne_eq, bne_eq_false_iff_eq, beq_iff_eq, beq_eq_false_iff_ne, Bool.or_eq_true, Bool.and_eq_true, decide_eq_true_eq, decide_eq_false_iff_not, Bool.or_eq_false_iff, Bool.not_eq_true', Bool.not_eq_false'] at *)
    refine ⟨ret_bool ?_, (by first | rfl | trivial)⟩
    rw [Bool.eq_iff_iff]
    unfold askB
    split
    · simp; try omega
    · split
      · simp; try omega
      · simp; try omega

set_option maxHeartbeats 400000 in
theorem hasVal_any (o : Int) (w : World) : Calls Tryz.prog 64 #[.int .i64 o] w fun e w' => e = .returned (.bool (putB o)) ∧ w = w' := by
  go_enter Tryz.func64, Tryz.ntmps64
  go_wp2
  all_goals
    go_ret
    refine ⟨ret_bool (by rw [Bool.eq_iff_iff]; simp [putB]; try omega), rfl⟩

set_option maxHeartbeats 400000 in
theorem isLevel_any (k s b h l o x v y : Int) (w : World) : Calls Tryz.prog 63 #[.agg #[.int .i64 k, .int .i64 s, .int .i64 b, .int .i64 h, .int .i64 l], .agg #[.int .i64 o, .int .u64 x, .int .u64 v, .int .i64 y]] w fun e w' => e = .returned (.bool (lvlB k h o y)) ∧ Below w.heap.size w w' := by
  have hF := ((Fr.start w).push w.heap.size rfl [.int .i64 k, .int .i64 s, .int .i64 b, .int .i64 h, .int .i64 l] 58).push (w.heap.size + 1) (by simp) [.int .i64 o, .int .u64 x, .int .u64 v, .int .i64 y] 50
  go_enter Tryz.func63, Tryz.ntmps63
  go_wp2_with
    (with_reducible refine (within_any _ _ _ _).mono ?_; rintro e w1 ⟨rfl, rfl⟩)
  all_goals
    go_ret
    (try go_light)
    (try simp only [bne_iff_ne, ne_eq, bne_eq_false_iff_eq, beq_iff_eq, beq_eq_false_iff_ne, Bool.or_eq_true, Bool.and_eq_true, decide_eq_true_eq, decide_eq_false_iff_not, Bool.or_eq_false_iff, Bool.not_eq_true', Bool.not_eq_false'] at *)
    (try subst_vars)
    refine ⟨ret_bool ?_, hF.below⟩
    unfold lvlB
    split
    · first | rfl | (exfalso; omega)
    · rw [Bool.eq_iff_iff]; simp; try omega

set_option maxHeartbeats 800000 in
theorem isOp_any (k s b h l o x v y : Int) (w : World) : Calls Tryz.prog 18 #[.agg #[.int .i64 k, .int .i64 s, .int .i64 b, .int .i64 h, .int .i64 l], .agg #[.int .i64 o, .int .u64 x, .int .u64 v, .int .i64 y]] w fun e w' => e = .returned (.int .i64 (opI k s b h l o x v y)) ∧ Below w.heap.size w w' := by
  have hF := ((Fr.start w).push w.heap.size rfl [.int .i64 k, .int .i64 s, .int .i64 b, .int .i64 h, .int .i64 l] 58).push (w.heap.size + 1) (by simp) [.int .i64 o, .int .u64 x, .int .u64 v, .int .i64 y] 50
  have r := hF.rule 0 rfl
  have q := hF.rule 1 rfl
  go_enter Tryz.func18, Tryz.ntmps18
  go_wp2_with (first
    |
      (with_reducible refine (isAsked_any _ _ _).mono ?_; rintro e w1 ⟨rfl, rfl⟩)
    |
      (with_reducible refine (hasVal_any _ _).mono ?_; rintro e w1 ⟨rfl, rfl⟩)
    |
      (with_reducible refine (check_any _ _ _ _ _ _).mono ?_; rintro e w1 ⟨rfl, hb⟩; replace hF := hF.over hb; clear hb r q; have r := hF.rule 0 rfl; have q := hF.rule 1 rfl)
    |
      (with_reducible refine (isLevel_any _ _ _ _ _ _ _ _ _ _).mono ?_; rintro e w1 ⟨rfl, hb⟩; replace hF := hF.over hb; clear hb r q; have r := hF.rule 0 rfl; have q := hF.rule 1 rfl)
    )
  all_goals
    go_ret
    (try go_light)
    (try simp only [bne_iff_ne, ne_eq, bne_eq_false_iff_eq, beq_iff_eq, beq_eq_false_iff_ne, Bool.or_eq_true, Bool.and_eq_true, decide_eq_true_eq, decide_eq_false_iff_not, Bool.or_eq_false_iff, Bool.not_eq_true', Bool.not_eq_false'] at *)
    refine ⟨ret_int ?_, hF.below⟩
    (try simp only [putB, decide_eq_true_eq] at *)
    by_cases h8 : o = 8
    · subst h8
      simp_all [opI, argB]
    · simp [opI, argB, *]
      (try omega)
end Go.Proofs.YtdknbegcflldjaaGreatDoor

/- Hash maps: ops that are not made. -/
namespace Go.Proofs.YtdknbegcflldjaaGreatDoor
open Go.RowKit Go.Maps
set_option maxRecDepth 100000

theorem kind_ofT (v : World) (a b c d e : Int) : (Instr.field 58 (.agg #[.int .i64 a, .int .i64 b, .int .i64 c, .int .i64 d, .int .i64 e]) 0).run Tryz.prog v = .ok (.int .i64 a) v := by kernel_rfl
section
variable {w0 w : World} {L : List Item} {c q : Nat} {k s b h l e r hs hi : Int}
theorem newNil_t (kd key val lv : Int) (w : World) :
    Calls Tryz.prog 32 #[.pointer none, .agg #[.int .i64 kd, .int .u64 key, .int .u64 val, .int .i64 lv]] w fun o w' => o = .returned (.pointer none) ∧ Below w.heap.size w w' := by
  go_enter Tryz.func32, Tryz.ntmps32
  go_wp2_with fail
  refine wp_text (S := (fun v => Below w.heap.size w v)) (by kernel_rfl) (by kernel_rfl) ((Below.refl _ _).alloc (Nat.le_refl _) _).drew (fun hT => ?_)
  have hT9 := Lib.hid hT
  clear hT
  repeat (first
    | (refine text_value (v := ?_) hT9.out (by rfl) ?_ ?_; rotate_left; (focus (intro w5 hS; skip; go_simp <;> with_reducible rfl)); (try simp only [Act.put, List.setIfInBounds_toArray, List.set_cons_zero, List.set_cons_succ]))
    | (refine text_off hT9.out (by rfl) ?_; (try simp only [Act.put, List.setIfInBounds_toArray, List.set_cons_zero, List.set_cons_succ]))
    | (refine text_call (v := ?_) (f := ?_) (args := ?_) hT9.out (by rfl) ?_ ?_ ?_; rotate_left 3; (focus (intro w5 hS; skip; go_simp; constructor <;> with_reducible rfl)); (focus (intro w5 hS; (first | fail))); (try simp only [Act.put, List.setIfInBounds_toArray, List.set_cons_zero, List.set_cons_succ])))
  refine InText.nil fun w5 hS5 => ?_
  clear hT9
  go_wp2
  go_ret
  exact ⟨rfl, hS5⟩
set_option maxHeartbeats 3200000 in
theorem newNo_t (i : Nat) (kd key val lv : Int) (hno : k ≠ 2 ∨ kd = 8 ∨ opI k s b h l kd key val lv ≠ 0) (hm : L[i]? = some (coreI c k s b h l e r hs hi q)) (hE : Env w0 L w) :
    Calls Tryz.prog 32 #[.pointer (some ⟨c, 0, none⟩), .agg #[.int .i64 kd, .int .u64 key, .int .u64 val, .int .i64 lv]] w fun o w' => o = .returned (.pointer none) ∧ Env w0 L w' := by
  have hko := kind_ofT
  have hE1 := hE.box w.heap.size rfl [.int .i64 kd, .int .u64 key, .int .u64 val, .int .i64 lv] 50
  have hm1 : (boxI w.heap.size [.int .i64 kd, .int .u64 key, .int .u64 val, .int .i64 lv] :: L)[i + 1]? = some (coreI c k s b h l e r hs hi q) := hm
  have HCF := Lib.hid fun (v : World) (hv : Env w0 (boxI w.heap.size [.int .i64 kd, .int .u64 key, .int .u64 val, .int .i64 lv] :: L) v) => conf_c (hv.get (i + 1) hm1)
  have hIO := fun v => isOp_any k s b h l kd key val lv v
  obtain ⟨io, hio⟩ : ∃ io, opI k s b h l kd key val lv = io := ⟨_, rfl⟩
  simp only [hio] at hIO hno
  have HIO := Lib.hid hIO
  clear hio hIO hE hm
  go_enter Tryz.func32, Tryz.ntmps32
  go_wp2_with fail
  generalize w.alloc _ = w2 at *
  generalize w.heap.size = Y at *
  by_cases h1 : k = 2
  · have b1 : (k != 2) = false := by simpa using h1
    by_cases h2 : kd = 8
    · have b2 : (kd == 8) = true := by simpa using h2
      clear h1 h2 hno
      refine wp_text (S := (Env w0 (boxI Y [.int .i64 kd, .int .u64 key, .int .u64 val, .int .i64 lv] :: L))) (by kernel_rfl) (by kernel_rfl) hE1.drew (fun hT => ?_)
      have hT9 := Lib.hid hT
      clear hT
      repeat (first
        | (refine text_value (v := ?_) hT9.out (by rfl) ?_ ?_; rotate_left; (focus (intro w5 hS; have r0 := hS.rule 0 rfl; go_simp <;> with_reducible rfl)); (try simp only [Act.put, List.setIfInBounds_toArray, List.set_cons_zero, List.set_cons_succ]))
        | (refine text_off hT9.out (by rfl) ?_; (try simp only [Act.put, List.setIfInBounds_toArray, List.set_cons_zero, List.set_cons_succ]))
        | (refine text_call (v := ?_) (f := ?_) (args := ?_) hT9.out (by rfl) ?_ ?_ ?_; rotate_left 3; (focus (intro w5 hS; have r0 := hS.rule 0 rfl; go_simp; constructor <;> with_reducible rfl)); (focus (intro w5 hS; (first | (with_reducible refine (HCF.out _ hS).mono ?_; rintro e9 w6 ⟨rfl, hb5⟩; constructor; with_reducible rfl; exact hS.over hb5)))); (try simp only [Act.put, List.setIfInBounds_toArray, List.set_cons_zero, List.set_cons_succ])))
      refine InText.nil fun w5 hS5 => ?_
      clear hT9
      clear hE1
      go_wp2_with fail
      go_ret
      exact ⟨rfl, hS5.sub (.cons _ (List.Sublist.refl _))⟩
    · have b2 : (kd == 8) = false := by simpa using h2
      have b3 : (io != 0) = true := by simpa [h1, h2] using hno
      clear h1 h2 hno
      refine wp_text (S := (Env w0 (boxI Y [.int .i64 kd, .int .u64 key, .int .u64 val, .int .i64 lv] :: L))) (by kernel_rfl) (by kernel_rfl) hE1.drew (fun hT => ?_)
      have hT9 := Lib.hid hT
      clear hT
      repeat (first
        | (refine text_value (v := ?_) hT9.out (by rfl) ?_ ?_; rotate_left; (focus (intro w5 hS; have r0 := hS.rule 0 rfl; go_simp <;> with_reducible rfl)); (try simp only [Act.put, List.setIfInBounds_toArray, List.set_cons_zero, List.set_cons_succ]))
        | (refine text_off hT9.out (by rfl) ?_; (try simp only [Act.put, List.setIfInBounds_toArray, List.set_cons_zero, List.set_cons_succ]))
        | (refine text_call (v := ?_) (f := ?_) (args := ?_) hT9.out (by rfl) ?_ ?_ ?_; rotate_left 3; (focus (intro w5 hS; have r0 := hS.rule 0 rfl; go_simp; constructor <;> with_reducible rfl)); (focus (intro w5 hS; (first | (with_reducible refine (HCF.out _ hS).mono ?_; rintro e9 w6 ⟨rfl, hb5⟩; constructor; with_reducible rfl; exact hS.over hb5) | (with_reducible refine (HIO.out _).mono ?_; rintro e9 w6 ⟨rfl, hb5⟩; constructor; with_reducible rfl; exact hS.over hb5)))); (try simp only [Act.put, List.setIfInBounds_toArray, List.set_cons_zero, List.set_cons_succ])))
      refine InText.nil fun w5 hS5 => ?_
      clear hT9
      clear hE1
      go_wp2_with fail
      go_ret
      exact ⟨rfl, hS5.sub (.cons _ (List.Sublist.refl _))⟩
  · have b1 : (k != 2) = true := by simpa using h1
    clear h1 hno
    refine wp_text (S := (Env w0 (boxI Y [.int .i64 kd, .int .u64 key, .int .u64 val, .int .i64 lv] :: L))) (by kernel_rfl) (by kernel_rfl) hE1.drew (fun hT => ?_)
    have hT9 := Lib.hid hT
    clear hT
    repeat (first
      | (refine text_value (v := ?_) hT9.out (by rfl) ?_ ?_; rotate_left; (focus (intro w5 hS; have r0 := hS.rule 0 rfl; go_simp <;> with_reducible rfl)); (try simp only [Act.put, List.setIfInBounds_toArray, List.set_cons_zero, List.set_cons_succ]))
      | (refine text_off hT9.out (by rfl) ?_; (try simp only [Act.put, List.setIfInBounds_toArray, List.set_cons_zero, List.set_cons_succ]))
      | (refine text_call (v := ?_) (f := ?_) (args := ?_) hT9.out (by rfl) ?_ ?_ ?_; rotate_left 3; (focus (intro w5 hS; have r0 := hS.rule 0 rfl; go_simp; constructor <;> with_reducible rfl)); (focus (intro w5 hS; (first | (with_reducible refine (HCF.out _ hS).mono ?_; rintro e9 w6 ⟨rfl, hb5⟩; constructor; with_reducible rfl; exact hS.over hb5)))); (try simp only [Act.put, List.setIfInBounds_toArray, List.set_cons_zero, List.set_cons_succ])))
    refine InText.nil fun w5 hS5 => ?_
    clear hT9
    clear hE1
    go_wp2_with fail
    go_ret
    exact ⟨rfl, hS5.sub (.cons _ (List.Sublist.refl _))⟩
end
end Go.Proofs.YtdknbegcflldjaaGreatDoor

/- Contracts of layer 12: turn, Mix, Invert, Unmix; the reference's. -/
namespace Go.Proofs.YtdknbegcflldjaaGreatDoor
open Go.RowKit
set_option maxRecDepth 100000

theorem tu_bits {x : Int} (h : InU x) : bits .xor .u64 x (x / 8589934592) = tuI x := by
  obtain ⟨X, rfl⟩ := Int.eq_ofNat_of_zero_le h.1
  have hX : X < 18446744073709551616 := by have := h.2; omega
  have e : (X : Int) / 8589934592 = ((X / 8589934592 : Nat) : Int) := by simp
  rw [e, bits_xor_u64_nat _ _ hX (Nat.lt_of_le_of_lt (Nat.div_le_self _ _) hX)]
  rfl
theorem quo_u {x : Int} (h : InU x) {c : Int} (hc : 1 ≤ c) : IntKind.u64.wrap (x.tdiv c) = x / c := by
  rw [Int.tdiv_eq_ediv_of_nonneg h.1, IntKind.wrap_u64]
  have h1 : 0 ≤ x / c := Int.ediv_nonneg h.1 (by omega)
  have h2 : x / c ≤ x := Int.ediv_le_self _ h.1
  have := h.2
  omega

set_option maxHeartbeats 400000 in
theorem tu_any {x : Int} (hx : InU x) (w : World) : Calls Tryz.prog 165 #[.int .u64 x] w fun e w' => e = .returned (.int .u64 (tuI x)) ∧ w = w' := by
  have HX := Lib.hid hx
  clear hx
  go_enter Tryz.func165, Tryz.ntmps165
  go_wp2
  go_ret
  exact ⟨ret_int (tu_bits HX.out), rfl⟩

set_option maxHeartbeats 400000 in
theorem refTu_any {x : Int} (hx : InU x) (w : World) : Calls Tryz.prog 231 #[.int .u64 x] w fun e w' => e = .returned (.int .u64 (tuI x)) ∧ w = w' := by
  have HX := Lib.hid hx
  clear hx
  go_enter Tryz.func231, Tryz.ntmps231
  go_wp2
  go_ret
  exact ⟨ret_int (by rw [quo_u HX.out (by decide)]; exact tu_bits HX.out), rfl⟩

set_option maxHeartbeats 400000 in
theorem mix_any {x : Int} (hx : InU x) (w : World) : Calls Tryz.prog 129 #[.int .u64 x] w fun e w' => e = .returned (.int .u64 (mixI x)) ∧ w = w' := by
  have HX := Lib.hid hx
  clear hx
  have HE := Lib.hid (mixI_eq x)
  go_enter Tryz.func129, Tryz.ntmps129
  go_wp2_with fail
  refine (tu_any HX.out _).mono ?_
  rintro e w1 ⟨rfl, rfl⟩
  have m1 := Lib.hid (tiI_wrap (a := 18397679294719823053) ⟨by decide, by decide⟩ (tuI_in HX.out))
  have n1 := Lib.hid (tiI_in 18397679294719823053 (tuI x))
  generalize tuI x = y at *
  go_wp2_with fail
  refine (tu_any (by rw [m1.out]; exact n1.out) _).mono ?_
  rintro e w1 ⟨rfl, rfl⟩
  rw [m1.out]
  have m2 := Lib.hid (tiI_wrap (a := 14181476777654086739) ⟨by decide, by decide⟩ (tuI_in n1.out))
  have n2 := Lib.hid (tiI_in 14181476777654086739 (tuI (tiI 18397679294719823053 y)))
  generalize tuI (tiI 18397679294719823053 y) = z at *
  go_wp2_with fail
  refine (tu_any (by rw [m2.out]; exact n2.out) _).mono ?_
  rintro e w1 ⟨rfl, rfl⟩
  rw [m2.out]
  go_wp2
  go_ret
  exact ⟨ret_int HE.out.symm, rfl⟩

set_option maxHeartbeats 400000 in
theorem refMix_any {x : Int} (hx : InU x) (w : World) : Calls Tryz.prog 196 #[.int .u64 x] w fun e w' => e = .returned (.int .u64 (mixI x)) ∧ w = w' := by
  have HX := Lib.hid hx
  clear hx
  have HE := Lib.hid (mixI_eq x)
  go_enter Tryz.func196, Tryz.ntmps196
  go_wp2_with fail
  refine (refTu_any HX.out _).mono ?_
  rintro e w1 ⟨rfl, rfl⟩
  have m1 := Lib.hid (tiI_wrap (a := 18397679294719823053) ⟨by decide, by decide⟩ (tuI_in HX.out))
  have n1 := Lib.hid (tiI_in 18397679294719823053 (tuI x))
  generalize tuI x = y at *
  go_wp2_with fail
  refine (refTu_any (by rw [m1.out]; exact n1.out) _).mono ?_
  rintro e w1 ⟨rfl, rfl⟩
  rw [m1.out]
  have m2 := Lib.hid (tiI_wrap (a := 14181476777654086739) ⟨by decide, by decide⟩ (tuI_in n1.out))
  have n2 := Lib.hid (tiI_in 14181476777654086739 (tuI (tiI 18397679294719823053 y)))
  generalize tuI (tiI 18397679294719823053 y) = z at *
  go_wp2_with fail
  refine (refTu_any (by rw [m2.out]; exact n2.out) _).mono ?_
  rintro e w1 ⟨rfl, rfl⟩
  rw [m2.out]
  go_wp2
  go_ret
  exact ⟨ret_int HE.out.symm, rfl⟩

end Go.Proofs.YtdknbegcflldjaaGreatDoor

/- Contracts of layer 12: Bucket, of the program's and the reference's; a hash map's structure. -/
namespace Go.Proofs.YtdknbegcflldjaaGreatDoor
open Go.RowKit
set_option maxRecDepth 100000

/-- A key's bucket, of a structure. -/
def bkI (k s b h l x : Int) : Int := if k = 2 ∧ chkI k s b h l = 0 then buI b x else 0
theorem bkI_no {k s b h l x : Int} (hn : ¬ (k = 2 ∧ chkI k s b h l = 0)) : bkI k s b h l x = 0 := by simp [bkI, hn]
theorem bkI_yes {k s b h l x : Int} (h1 : k = 2) (h2 : chkI k s b h l = 0) : bkI k s b h l x = buI b x := by simp [bkI, h1]; intro h; exact absurd (h1 ▸ h2) h

theorem shr_u {x : Int} (h : InU x) : IntKind.u32.wrap (x / 4294967296) = x / 4294967296 := by
  unfold InU at h
  rw [IntKind.wrap_u32]
  omega
set_option maxRecDepth 100000 in
set_option maxHeartbeats 400000 in
theorem bucket_any (k s b h l : Int) {x : Int} (hx : InU x) (w : World) : Calls Tryz.prog 83 #[.agg #[.int .i64 k, .int .i64 s, .int .i64 b, .int .i64 h, .int .i64 l], .int .u64 x] w fun e w' => e = .returned (.int .i64 (bkI k s b h l x)) ∧ Below w.heap.size w w' := by
  have HX := Lib.hid hx
  clear hx
  have hF := (Fr.start w).push w.heap.size rfl [.int .i64 k, .int .i64 s, .int .i64 b, .int .i64 h, .int .i64 l] 58
  have r := hF.rule 0 rfl
  by_cases h2 : k = 2
  · by_cases hc : chkI k s b h l = 0
    · have hy := Lib.hid (chk_yes hc)
      have HE := Lib.hid (bkI_yes (x := x) h2 hc)
      have HC := Lib.hid hc
      clear hc
      have hk : (k != 2) = false := by simp [h2]
      have HK := Lib.hid h2
      clear h2
      go_enter Tryz.func83, Tryz.ntmps83
      go_wp2_with fail
      refine (check_any _ _ _ _ _ _).mono ?_
      rintro e w1 ⟨rfl, hb⟩
      replace hF := hF.over hb
      clear hb r
      have r := hF.rule 0 rfl
      rw [HC.out]
      go_wp2_with fail
      refine (mix_any HX.out _).mono ?_
      rintro e w2 ⟨rfl, rfl⟩
      go_wp2
      go_ret
      refine ⟨ret_int ?_, hF.below⟩
      have hh := high_in x
      have hbb : 1 ≤ b ∧ b ≤ 64 := by have := hy.out; have := HK.out; omega
      have hB := buI_in x hbb
      have hW := buI_wrap x hbb
      have e1 : IntKind.u64.wrap b = b := by rw [IntKind.wrap_u64]; omega
      have e2 : mixI x / 4294967296 % 4294967296 = mixI x / 4294967296 := by omega
      rw [HE.out, e1, e2, hW]
      exact w64 _ (by unfold buI at hB; omega)
    · have HE := Lib.hid (bkI_no (x := x) (fun h => hc h.2))
      have hk : (k != 2) = false := by simp [h2]
      have hcb : (chkI k s b h l != 0) = true := by simpa using hc
      clear h2 hc
      go_enter Tryz.func83, Tryz.ntmps83
      go_wp2_with
        (with_reducible refine (check_any _ _ _ _ _ _).mono ?_; rintro e w1 ⟨rfl, hb⟩; replace hF := hF.over hb; clear hb r; have r := hF.rule 0 rfl)
      all_goals
        go_ret
        exact ⟨ret_int HE.out.symm, hF.below⟩
  · have HE := Lib.hid (bkI_no (x := x) (s := s) (b := b) (h := h) (l := l) (fun h => h2 h.1))
    have hk : (k != 2) = true := by simpa using h2
    clear h2
    go_enter Tryz.func83, Tryz.ntmps83
    go_wp2
    go_ret
    exact ⟨ret_int HE.out.symm, hF.below⟩

set_option maxHeartbeats 400000 in
theorem refBucket_any {n x : Int} (hx : InU x) (hn : 1 ≤ n ∧ n ≤ 64) (w : World) : Calls Tryz.prog 158 #[.int .i64 n, .int .u64 x] w fun e w' => e = .returned (.int .i64 (buI n x)) ∧ w = w' := by
  have HX := Lib.hid hx
  have HB := Lib.hid (buI_in x hn)
  have HW := Lib.hid (buI_wrap x hn)
  have HN := Lib.hid hn
  clear hx hn
  go_enter Tryz.func158, Tryz.ntmps158
  go_wp2_with fail
  refine (refMix_any HX.out _).mono ?_
  rintro e w2 ⟨rfl, rfl⟩
  go_wp2
  go_ret
  refine ⟨ret_int ?_, rfl⟩
  have hh := high_in x
  have hb := HB.out
  have hn := HN.out
  have e1 : IntKind.u64.wrap n = n := by rw [IntKind.wrap_u64]; omega
  rw [quo_u (mixI_in x) (by decide), e1, HW.out]
  unfold buI at hb ⊢
  have h64 := mul_in hh (B := 64) (b := n) (by omega)
  rw [quo_u (by unfold InU; omega) (by decide)]
  exact w64 _ (by omega)

end Go.Proofs.YtdknbegcflldjaaGreatDoor

/- Hash maps: an op that is made. -/
namespace Go.Proofs.YtdknbegcflldjaaGreatDoor
open Go.RowKit Go.Maps
set_option maxRecDepth 100000

section
variable {w0 w : World} {L : List Item} {c q : Nat} {k s b h l e r hs hi : Int}
set_option maxHeartbeats 3200000 in
theorem newYes_t (i : Nat) (kd key val lv : Int) (hk : InU key) (h2 : kd ≠ 8) (h3 : opI 2 s b h l kd key val lv = 0) (hm : L[i]? = some (coreI c 2 s b h l e r hs hi q)) (hE : Env w0 L w) :
    Calls Tryz.prog 32 #[.pointer (some ⟨c, 0, none⟩), .agg #[.int .i64 kd, .int .u64 key, .int .u64 val, .int .i64 lv]] w fun p w' => ∃ o b1 b2 sb, p = .returned (.pointer (some ⟨o, 0, none⟩)) ∧ Env w0 (boxI o (opT c kd key val lv (bkI 2 s b h l key) (cvP b1 b2) 0 (.pointer (some ⟨sb, 0, none⟩)) 0 false 0) :: boxI b1 [mvL 132 sb] :: boxI b2 [mvL 133 o] :: boxI sb (srC c (bkI 2 s b h l key) key true (.pointer none)) :: L) w' := by
  have hko := kind_ofT
  have hE1 := hE.box w.heap.size rfl [.int .i64 kd, .int .u64 key, .int .u64 val, .int .i64 lv] 50
  have hm1 : (boxI w.heap.size [.int .i64 kd, .int .u64 key, .int .u64 val, .int .i64 lv] :: L)[i + 1]? = some (coreI c 2 s b h l e r hs hi q) := hm
  have HCF := Lib.hid fun (v : World) (hv : Env w0 (boxI w.heap.size [.int .i64 kd, .int .u64 key, .int .u64 val, .int .i64 lv] :: L) v) => conf_c (hv.get (i + 1) hm1)
  have hIO := fun v => isOp_any 2 s b h l kd key val lv v
  simp only [h3] at hIO
  have HIO := Lib.hid hIO
  have hbk := fun v => bucket_any 2 s b h l hk v
  generalize bkI 2 s b h l key = rt at hbk ⊢
  have HBK := Lib.hid hbk
  have b2 : (kd == 8) = false := by simpa using h2
  clear hIO hE hm h2 h3 hk hbk
  go_enter Tryz.func32, Tryz.ntmps32
  go_wp2_with fail
  generalize w.alloc _ = w2 at *
  generalize w.heap.size = Y at *
  refine wp_text (S := (Env w0 (boxI Y [.int .i64 kd, .int .u64 key, .int .u64 val, .int .i64 lv] :: L))) (by kernel_rfl) (by kernel_rfl) hE1.drew (fun hT => ?_)
  have hT9 := Lib.hid hT
  clear hT
  repeat (first
    | (refine text_value (v := ?_) hT9.out (by rfl) ?_ ?_; rotate_left; (focus (intro w5 hS; have r0 := hS.rule 0 rfl; go_simp <;> with_reducible rfl)); (try simp only [Act.put, List.setIfInBounds_toArray, List.set_cons_zero, List.set_cons_succ]))
    | (refine text_off hT9.out (by rfl) ?_; (try simp only [Act.put, List.setIfInBounds_toArray, List.set_cons_zero, List.set_cons_succ]))
    | (refine text_call (v := ?_) (f := ?_) (args := ?_) hT9.out (by rfl) ?_ ?_ ?_; rotate_left 3; (focus (intro w5 hS; have r0 := hS.rule 0 rfl; go_simp; constructor <;> with_reducible rfl)); (focus (intro w5 hS; (first | (with_reducible refine (HCF.out _ hS).mono ?_; rintro e9 w6 ⟨rfl, hb5⟩; constructor; with_reducible rfl; exact hS.over hb5) | (with_reducible refine (HIO.out _).mono ?_; rintro e9 w6 ⟨rfl, hb5⟩; constructor; with_reducible rfl; exact hS.over hb5)))); (try simp only [Act.put, List.setIfInBounds_toArray, List.set_cons_zero, List.set_cons_succ])))
  refine InText.nil fun w5 hS5 => ?_
  clear hT9
  clear hE1
  have r0 := hS5.rule 0 rfl
  go_wp2_with fail
  refine Ord3.wp_chain [?_, ?_, ?_, ?_, ?_, ?_, ?_, ?_, ?_, ?_] [3, 6, 8, 9] (fun w' => Blk 0 w' Y [.int .i64 kd, .int .u64 key, .int .u64 val, .int .i64 lv]) (Ord3.Stage fun κs => [Env w0 (boxI Y [.int .i64 kd, .int .u64 key, .int .u64 val, .int .i64 lv] :: L), Env w0 (boxI Y [.int .i64 kd, .int .u64 key, .int .u64 val, .int .i64 lv] :: L), Env w0 (boxI Y [.int .i64 kd, .int .u64 key, .int .u64 val, .int .i64 lv] :: L), fun w' => ∃ o, κs.getD 2 undef = .pointer (some ⟨o, 0, none⟩) ∧ Env w0 (boxI o (opT c kd key val lv rt .nilFunc 0 (.pointer none) 0 false 0) :: (boxI Y [.int .i64 kd, .int .u64 key, .int .u64 val, .int .i64 lv] :: L)) w', fun w' => ∃ o, κs.getD 3 undef = .pointer (some ⟨o, 0, none⟩) ∧ Env w0 (boxI o (opT c kd key val lv rt .nilFunc 0 (.pointer none) 0 false 0) :: (boxI Y [.int .i64 kd, .int .u64 key, .int .u64 val, .int .i64 lv] :: L)) w']) (by kernel_rfl) (by kernel_rfl) (by kernel_rfl) (hS5.drew.get 0 rfl) ⟨_, rfl, hS5.drew⟩ (fun hT => ?_)
  rotate_left 10
  have hT9 := Lib.hid hT
  clear hT
  repeat (first
    | (focus (refine Ord3.in_value (v := ?_) hT9.out (by decide) ?_ (by rfl) ?_ ?_; rotate_left 2; (focus (intro w5 hS; have r0 := Blk.rule hS; go_simp <;> with_reducible rfl)); rotate_right; (focus rfl); (try simp only [Act.put, List.setIfInBounds_toArray, List.set_cons_zero, List.set_cons_succ])))
    | (focus (refine Ord3.in_off hT9.out (by decide) ?_ (by rfl) ?_; (focus rfl); (try simp only [Act.put, List.setIfInBounds_toArray, List.set_cons_zero, List.set_cons_succ]))))
  refine Ord3.in_turn (fun u => u = .agg #[.int .i64 2, .int .i64 s, .int .i64 b, .int .i64 h, .int .i64 l]) _ rfl hT9.out rfl (by decide) (by rfl) ?_ (Or.inl rfl) (by rfl) ?_ ?_
  · rfl
  · rintro w7 hC7 ⟨P7, hP7, hA7⟩
    cases hP7
    go_simp
    simp only [Ord3.Lands]
    refine (HCF.out _ hA7).mono ?_
    rintro o w8 ⟨rfl, hb8⟩
    exact ⟨_, rfl, rfl, (hA7.over hb8).get 0 rfl, _, rfl, hA7.over hb8⟩
  rintro _ rfl
  (try simp only [Act.put, List.setIfInBounds_toArray, List.set_cons_zero, List.set_cons_succ])
  repeat (first
    | (focus (refine Ord3.in_value (v := ?_) hT9.out (by decide) ?_ (by rfl) ?_ ?_; rotate_left 2; (focus (intro w5 hS; have r0 := Blk.rule hS; go_simp <;> with_reducible rfl)); rotate_right; (focus rfl); (try simp only [Act.put, List.setIfInBounds_toArray, List.set_cons_zero, List.set_cons_succ])))
    | (focus (refine Ord3.in_off hT9.out (by decide) ?_ (by rfl) ?_; (focus rfl); (try simp only [Act.put, List.setIfInBounds_toArray, List.set_cons_zero, List.set_cons_succ]))))
  refine Ord3.in_turn (fun u => u = .int .i64 rt) _ rfl hT9.out rfl (by decide) (by rfl) ?_ (Or.inr ⟨_, 3, [], rfl, by kernel_rfl, by kernel_rfl, rfl⟩) (by rfl) ?_ ?_
  · rfl
  · rintro w7 hC7 ⟨P7, hP7, hA7⟩
    cases hP7
    go_simp
    simp only [Ord3.Lands]
    refine (HBK.out _).mono ?_
    rintro o w8 ⟨rfl, hb8⟩
    exact ⟨_, rfl, rfl, (hA7.over hb8).get 0 rfl, _, rfl, hA7.over hb8⟩
  rintro _ rfl
  (try simp only [Act.put, List.setIfInBounds_toArray, List.set_cons_zero, List.set_cons_succ])
  repeat (first
    | (focus (refine Ord3.in_value (v := ?_) hT9.out (by decide) ?_ (by rfl) ?_ ?_; rotate_left 2; (focus (intro w5 hS; have r0 := Blk.rule hS; go_simp <;> with_reducible rfl)); rotate_right; (focus rfl); (try simp only [Act.put, List.setIfInBounds_toArray, List.set_cons_zero, List.set_cons_succ])))
    | (focus (refine Ord3.in_off hT9.out (by decide) ?_ (by rfl) ?_; (focus rfl); (try simp only [Act.put, List.setIfInBounds_toArray, List.set_cons_zero, List.set_cons_succ]))))
  refine Ord3.in_turn (fun u => ∃ o, u = .pointer (some ⟨o, 0, none⟩)) _ ⟨0, rfl⟩ hT9.out rfl (by decide) (by rfl) ?_ (Or.inr ⟨_, 7, [6], rfl, by kernel_rfl, by kernel_rfl, rfl⟩) (by rfl) ?_ ?_
  · rfl
  · rintro w7 hC7 ⟨P7, hP7, hA7⟩
    cases hP7
    have hE8 := hA7.box w7.heap.size rfl (opT c kd key val lv rt .nilFunc 0 (.pointer none) 0 false 0) 167
    go_simp
    simp only [Ord3.Lands]
    exact ⟨⟨_, rfl⟩, hE8.get 1 rfl, _, rfl, _, rfl, hE8⟩
  rintro _ ⟨o9, rfl⟩
  (try simp only [Act.put, List.setIfInBounds_toArray, List.set_cons_zero, List.set_cons_succ])
  repeat (first
    | (focus (refine Ord3.in_value (v := ?_) hT9.out (by decide) ?_ (by rfl) ?_ ?_; rotate_left 2; (focus (intro w5 hS; have r0 := Blk.rule hS; go_simp <;> with_reducible rfl)); rotate_right; (focus rfl); (try simp only [Act.put, List.setIfInBounds_toArray, List.set_cons_zero, List.set_cons_succ])))
    | (focus (refine Ord3.in_off hT9.out (by decide) ?_ (by rfl) ?_; (focus rfl); (try simp only [Act.put, List.setIfInBounds_toArray, List.set_cons_zero, List.set_cons_succ]))))
  refine Ord3.in_turn (fun u => ∃ o, u = .pointer (some ⟨o, 0, none⟩)) _ ⟨0, rfl⟩ hT9.out rfl (by decide) (by rfl) ?_ (Or.inr ⟨_, 8, [], rfl, by kernel_rfl, by kernel_rfl, rfl⟩) (by rfl) ?_ ?_
  · rfl
  · rintro w7 hC7 ⟨P7, hP7, hA7⟩
    cases hP7
    obtain ⟨r8, he, hA7⟩ := hA7
    cases he
    go_simp
    simp only [Ord3.Lands]
    exact ⟨⟨_, rfl⟩, hC7, _, rfl, _, rfl, hA7⟩
  rintro _ ⟨o8, rfl⟩
  (try simp only [Act.put, List.setIfInBounds_toArray, List.set_cons_zero, List.set_cons_succ])
  refine Ord3.in_nil rfl ?_
  rintro w9 hC9 ⟨P9, hP9, hA9⟩
  cases hP9
  obtain ⟨o7, he, hA9⟩ := hA9
  cases he
  clear hT9 hC9 hS5 r0
  go_wp2_with fail
  refine (find_t hA9).mono ?_
  rintro p w6 ⟨rfl, b1, b3, sb, hE7⟩
  go_wp2_with fail
  go_ret
  exact ⟨_, b1, b3, sb, rfl, hE7.sub (.cons_cons _ (.cons_cons _ (.cons_cons _ (.cons_cons _ (.cons _ (List.Sublist.refl _))))))⟩
end
end Go.Proofs.YtdknbegcflldjaaGreatDoor

/- Law 17: the program is awake. -/
namespace Go.Proofs.YtdknbegcflldjaaGreatDoor
open Go.RowKit Go.Maps
set_option maxRecDepth 100000

theorem setRow_alloc (w : World) (g : Nat) (old cs : Array Value) (t : TypeId) (hg : g = w.heap.size) : (w.alloc (.cells old t)).setRow g cs = w.alloc (.cells cs t) := by
  subst hg
  have h9 : (w.heap.push (Obj.cells old t)).modify w.heap.size (fun o => match o with | .cells _ elem frozen => .cells cs elem frozen | o => o) = w.heap.push (.cells cs t) := by
    apply Array.ext
    · simp
    · intro i h1 h2
      rw [Array.getElem_modify]
      by_cases hi : w.heap.size = i
      · subst hi; simp
      · rw [if_neg hi]; simp at h2; rw [Array.getElem_push_lt (by omega), Array.getElem_push_lt (by omega)]
  show ({ w.alloc (.cells old t) with heap := (w.heap.push (Obj.cells old t)).modify w.heap.size _ } : World) = _
  exact congrArg (fun h => ({ w.alloc (.cells old t) with heap := h } : World)) h9
theorem alloc_last (w : World) (o : Obj) : (w.alloc o).heap[w.heap.size]? = some o := by show (w.heap.push o)[w.heap.size]? = some o; exact Array.getElem?_push_size
theorem hash_t (s b l : Int) (w : World) : Calls Tryz.prog 68 #[.int .i64 s, .int .i64 b, .int .i64 l] w fun e w' => e = .returned (.agg #[.int .i64 2, .int .i64 s, .int .i64 b, .int .i64 1, .int .i64 l]) ∧ Below w.heap.size w w' := by
  go_enter Tryz.func68, Tryz.ntmps68
  go_wp2
  exact bodyPost_ret (v := .agg #[.int .i64 2, .int .i64 s, .int .i64 b, .int .i64 1, .int .i64 l]) (by simp [results, Tryz.results68, go_sem]) rfl ⟨rfl, (Below.refl _ _).alloc (Nat.le_refl _) _⟩
section
variable {C : Cf} {B : Nat}
theorem T0_ok (hC : COk C) {ds : List Dd} (hd : ds.length ≤ B) : OkT C ds B T0 := by
  have hs := hC.s
  have hl := hC.l
  have hz : slotI 0 = 0 := by decide
  have hu0 : InU 0 := by unfold InU; omega
  exact { e := (by show (0 : Int) ≤ 0 ∧ (0 : Int) ≤ C.l; omega), w := ⟨hu0, hu0, hu0⟩, hs := (by show (0 : Int) ≤ 0 ∧ (0 : Int) ≤ C.s; omega), rs := (by show (0 : Int) ≤ 0 ∧ (0 : Int) ≤ C.s; omega), ql := (by intro x hx; cases hx), nd := Nat.zero_le _, len := (by show 0 + (ds.length - 0) ≤ B; omega), done := (by show (0 : Int) ≤ 0 ∧ (0 : Int) ≤ B; omega), pc := .inl rfl, p1 := fun h => no h rfl, nd1 := fun h => absurd rfl h, apc := fun h => no h rfl, low := fun h => no h rfl, adv := fun h => no h rfl, born := fun h => no h rfl, pool := fun h => no h rfl, an := (by show slotI 0 ≤ C.s; omega), rpc := fun h => no h rfl, rsp := fun h => no h rfl, re := (by show (0 : Int) ≤ 0 ∧ (0 : Int) ≤ C.l; omega), gpc := Nat.zero_le 3, give := fun h => no h rfl, ghu := hu0, gh := (by show slotI 0 ≤ C.s; omega), gv := fun h => no h rfl }
theorem K0_ok (hC : COk C) {ds : List Dd} {d : Dd} (hd : ds.length ≤ B) : KOk C ds B d K0 :=
  { t := T0_ok hC hd, tp := rfl, pc := Nat.zero_le 9, da := fun h => absurd h (by decide), s1 := fun h => no h rfl, s2 := fun h => no h rfl, sp := fun h => absurd h (by decide), un := fun h => absurd h (by decide), to := fun h => absurd h (by decide), ins := fun h => by rcases h with h | h <;> exact no h rfl, pu := fun h => no h rfl, lk := fun h => by rcases h with h | h <;> exact no h rfl, ho := fun h => absurd rfl h, kk := fun h => no h rfl, nd := fun h => absurd rfl h }
theorem f0_ok (hC : COk C) : OkF C f0 ∧ LnkF C f0 := by
  have hs := hC.s
  have hl := hC.l
  have hz : slotI 0 = 0 := by decide
  refine ⟨⟨fun x => ?_, ?_, fun i => ?_, ?_⟩, ⟨fun r => ?_, fun i => ?_⟩⟩ <;> unfold f0
  · split <;> (unfold InU; omega)
  · rw [if_neg (by decide)]; omega
  · rw [if_neg (by simp)]; omega
  · rw [if_pos rfl]; omega
  · rw [if_neg (by simp)]; omega
  · rw [if_neg (by simp)]; omega
end
theorem ok9 : COk C9 := ⟨by decide, by decide⟩
def ds17 : List Dd := [⟨0, 4, 5, 1, 0⟩, ⟨0, 4, 5, 2, 0⟩, ⟨0, 5, 5, 3, 0⟩, ⟨0, 7, 5, 0, 0⟩, ⟨0, 6, 5, 0, 0⟩, ⟨0, 5, 5, 4, 0⟩]
/-- The cells of the two rows. -/
def rowO17 : List Value := [.int .i64 4, .int .u64 5, .int .u64 1, .int .i64 0, .int .i64 4, .int .u64 5, .int .u64 2, .int .i64 0, .int .i64 5, .int .u64 5, .int .u64 3, .int .i64 0, .int .i64 7, .int .u64 5, .int .u64 0, .int .i64 0, .int .i64 6, .int .u64 5, .int .u64 0, .int .i64 0, .int .i64 5, .int .u64 5, .int .u64 4, .int .i64 0]
def rowW17 : List Value := [.int .i64 0, .bool false, .int .u64 0, .int .i64 0, .bool true, .int .u64 1, .int .i64 0, .bool false, .int .u64 2, .int .i64 0, .bool true, .int .u64 2, .int .i64 0, .bool true, .int .u64 2, .int .i64 0, .bool true, .int .u64 0]
def vm (p cc m : Nat) : Wm := ⟨p, cc, m, fun _ => False, fun _ => False, ⟨0, 0, 0, 0, 0⟩, 0, []⟩
/-- A thread's things, but for its queue. -/
def tm0 (c q : Nat) : Tm := { thr := 0, c := c, q := q, u := 0, F := fun _ => False, kq := 2, A := none, rc := 0, N := 0, cr := 0, ro := 0, dA := none, dn := 0, dc := 0, pa := .pointer none, pb := .pointer none, pr := .pointer none, pq := .pointer none, pg := .pointer none, ph := .pointer none }
/-- Of a run that is like at17 and run17. -/
structure RunOk (A : Nat → Kt × Mem) (Rn : Nat → Nat → Int × Kt × Mem) : Prop where
  (a0 : A 0 = (K0, f0))
  (an : ∀ i, A (i + 1) = (endK (Rn i (s17 i)), (Rn i (s17 i)).2.2))
  (r0 : ∀ i, Rn i 0 = (0, beginK C9 (d17 i) (A i).1, (A i).2))
  (rs : ∀ i j, Rn i (j + 1) = opM C9 (d17 i) (Rn i j).2.1 (Rn i j).2.2)
  (busy : ∀ i, i < 6 → ∀ j, j < s17 i → (Rn i j).1 = 0 ∧ 1 ≤ (Rn i j).2.1.pc ∧ (Rn i j).2.1.pc ≠ 8)
  (done : ∀ i, i < 6 → (Rn i (s17 i)).1 = 1 ∧ (Rn i (s17 i)).2.1.err = 0 ∧ (Rn i (s17 i)).2.1.dn = r17 i ∧ (Rn i (s17 i)).2.1.vl = v17 i)
  (nd : ∀ i, i < 7 → (A i).1.T.nd = i ∧ (A i).1.pc = 0)
set_option maxHeartbeats 1600000 in
theorem awake_run (A : Nat → Kt × Mem) (Rn : Nat → Nat → Int × Kt × Mem) (hr : RunOk A Rn) (w : World) (hg : Glo w) : Calls Tryz.prog 24 #[] w fun o w' => o = .returned (.bool true) ∧ Below w.heap.size w w' := by
  have hE := Env.start w
  have HG := Lib.hid hg
  have HC := Lib.hid (show chkI 2 4 3 1 9 = 0 by decide)
  clear hg
  go_enter Tryz.func24, Tryz.ntmps24
  go_wp2_with fail
  refine (new_w hE).mono ?_
  rintro o w3 ⟨p, cc, rfl, hE3, hb⟩
  clear hb hE
  go_wp2_with fail
  refine (start_w 0 1 (by decide) (by unfold maxLen; omega) hE3 rfl rfl).mono ?_
  rintro o w4 ⟨rfl, F4, hE4⟩
  simp only [List.set_cons_succ, List.set_cons_zero] at hE4
  clear hE3
  generalize ({ l := _, s := _, w := _, f := _, a := _ } : Cnt) = q4 at hE4
  go_wp2_with fail
  refine (hash_t 4 3 9 _).mono ?_
  rintro o w5 ⟨rfl, hb⟩
  replace hE4 := hE4.over hb
  clear hb
  go_wp2_with fail
  refine (newYes_c 2 4 3 1 9 HC.out hE4).mono ?_
  rintro o w6 ⟨c, q, F, rfl, hE6⟩
  clear hE4
  go_upto_region 4 with fail
  apply wp_region_lit
  refine wpList_buildTo rfl 50 _ rfl (some 15) rfl #[.int .i64 4, .int .u64 5, .int .u64 1, .int .i64 0] (by as_aux_lemma => kernel_rfl) ?_
  refine wpList_buildTo rfl 50 _ rfl (some 16) rfl #[.int .i64 4, .int .u64 5, .int .u64 2, .int .i64 0] (by as_aux_lemma => kernel_rfl) ?_
  refine wpList_buildTo rfl 50 _ rfl (some 17) rfl #[.int .i64 5, .int .u64 5, .int .u64 3, .int .i64 0] (by as_aux_lemma => kernel_rfl) ?_
  refine wpList_buildTo rfl 50 _ rfl (some 18) rfl #[.int .i64 7, .int .u64 5, .int .u64 0, .int .i64 0] (by as_aux_lemma => kernel_rfl) ?_
  refine wpList_buildTo rfl 50 _ rfl (some 19) rfl #[.int .i64 6, .int .u64 5, .int .u64 0, .int .i64 0] (by as_aux_lemma => kernel_rfl) ?_
  refine wpList_buildTo rfl 50 _ rfl (some 20) rfl #[.int .i64 5, .int .u64 5, .int .u64 4, .int .i64 0] (by as_aux_lemma => kernel_rfl) ?_
  refine wpList_buildTo rfl 145 _ rfl (some 21) rfl #[.int .i64 4, .int .u64 5, .int .u64 1, .int .i64 0, .int .i64 4, .int .u64 5, .int .u64 2, .int .i64 0, .int .i64 5, .int .u64 5, .int .u64 3, .int .i64 0, .int .i64 7, .int .u64 5, .int .u64 0, .int .i64 0, .int .i64 6, .int .u64 5, .int .u64 0, .int .i64 0, .int .i64 5, .int .u64 5, .int .u64 4, .int .i64 0] (by kernel_rfl) ?_
  refine Go.Great.wpList_allocTo rfl (some 3) rfl (.pointer (some ⟨w6.heap.size, 0, none⟩)) (.cells #[.int .i64 0, .int .u64 0, .int .u64 0, .int .i64 0, .int .i64 0, .int .u64 0, .int .u64 0, .int .i64 0, .int .i64 0, .int .u64 0, .int .u64 0, .int .i64 0, .int .i64 0, .int .u64 0, .int .u64 0, .int .i64 0, .int .i64 0, .int .u64 0, .int .u64 0, .int .i64 0, .int .i64 0, .int .u64 0, .int .u64 0, .int .i64 0] 145) (by kernel_rfl) ?_
  refine wpList_store_rowTo rfl 145 _ _ rfl rfl (w6.heap.size) #[.int .i64 4, .int .u64 5, .int .u64 1, .int .i64 0, .int .i64 4, .int .u64 5, .int .u64 2, .int .i64 0, .int .i64 5, .int .u64 5, .int .u64 3, .int .i64 0, .int .i64 7, .int .u64 5, .int .u64 0, .int .i64 0, .int .i64 6, .int .u64 5, .int .u64 0, .int .i64 0, .int .i64 5, .int .u64 5, .int .u64 4, .int .i64 0] (by kernel_rfl) (by kernel_rfl) 145 #[.int .i64 0, .int .u64 0, .int .u64 0, .int .i64 0, .int .i64 0, .int .u64 0, .int .u64 0, .int .i64 0, .int .i64 0, .int .u64 0, .int .u64 0, .int .i64 0, .int .i64 0, .int .u64 0, .int .u64 0, .int .i64 0, .int .i64 0, .int .u64 0, .int .u64 0, .int .i64 0, .int .i64 0, .int .u64 0, .int .u64 0, .int .i64 0] (alloc_last _ _) (by as_aux_lemma => kernel_rfl) (by as_aux_lemma => kernel_rfl) (by as_aux_lemma => kernel_rfl) ?_
  apply wpList_nil
  rw [setRow_alloc _ _ _ _ _ rfl]
  rename_i aK4
  refine aK4 _ _ ?_
  clear aK4
  have hE66 := hE6.box w6.heap.size rfl [.int .i64 4, .int .u64 5, .int .u64 1, .int .i64 0, .int .i64 4, .int .u64 5, .int .u64 2, .int .i64 0, .int .i64 5, .int .u64 5, .int .u64 3, .int .i64 0, .int .i64 7, .int .u64 5, .int .u64 0, .int .i64 0, .int .i64 6, .int .u64 5, .int .u64 0, .int .i64 0, .int .i64 5, .int .u64 5, .int .u64 4, .int .i64 0] 145
  generalize World.alloc w6 _ = w66 at *
  clear hE6
  generalize w6.heap.size = Z3 at *
  go_upto_region 5 with fail
  apply wp_region_lit
  refine wpList_buildTo rfl 54 _ rfl (some 22) rfl #[.int .i64 0, .bool false, .int .u64 0] (by as_aux_lemma => kernel_rfl) ?_
  refine wpList_buildTo rfl 54 _ rfl (some 23) rfl #[.int .i64 0, .bool true, .int .u64 1] (by as_aux_lemma => kernel_rfl) ?_
  refine wpList_buildTo rfl 54 _ rfl (some 24) rfl #[.int .i64 0, .bool false, .int .u64 2] (by as_aux_lemma => kernel_rfl) ?_
  refine wpList_buildTo rfl 54 _ rfl (some 25) rfl #[.int .i64 0, .bool true, .int .u64 2] (by as_aux_lemma => kernel_rfl) ?_
  refine wpList_buildTo rfl 54 _ rfl (some 26) rfl #[.int .i64 0, .bool true, .int .u64 2] (by as_aux_lemma => kernel_rfl) ?_
  refine wpList_buildTo rfl 54 _ rfl (some 27) rfl #[.int .i64 0, .bool true, .int .u64 0] (by as_aux_lemma => kernel_rfl) ?_
  refine wpList_buildTo rfl 146 _ rfl (some 28) rfl #[.int .i64 0, .bool false, .int .u64 0, .int .i64 0, .bool true, .int .u64 1, .int .i64 0, .bool false, .int .u64 2, .int .i64 0, .bool true, .int .u64 2, .int .i64 0, .bool true, .int .u64 2, .int .i64 0, .bool true, .int .u64 0] (by kernel_rfl) ?_
  refine Go.Great.wpList_allocTo rfl (some 4) rfl (.pointer (some ⟨w66.heap.size, 0, none⟩)) (.cells #[.int .i64 0, .bool false, .int .u64 0, .int .i64 0, .bool false, .int .u64 0, .int .i64 0, .bool false, .int .u64 0, .int .i64 0, .bool false, .int .u64 0, .int .i64 0, .bool false, .int .u64 0, .int .i64 0, .bool false, .int .u64 0] 146) (by kernel_rfl) ?_
  refine wpList_store_rowTo rfl 146 _ _ rfl rfl (w66.heap.size) #[.int .i64 0, .bool false, .int .u64 0, .int .i64 0, .bool true, .int .u64 1, .int .i64 0, .bool false, .int .u64 2, .int .i64 0, .bool true, .int .u64 2, .int .i64 0, .bool true, .int .u64 2, .int .i64 0, .bool true, .int .u64 0] (by kernel_rfl) (by kernel_rfl) 146 #[.int .i64 0, .bool false, .int .u64 0, .int .i64 0, .bool false, .int .u64 0, .int .i64 0, .bool false, .int .u64 0, .int .i64 0, .bool false, .int .u64 0, .int .i64 0, .bool false, .int .u64 0, .int .i64 0, .bool false, .int .u64 0] (alloc_last _ _) (by as_aux_lemma => kernel_rfl) (by as_aux_lemma => kernel_rfl) (by as_aux_lemma => kernel_rfl) ?_
  apply wpList_nil
  rw [setRow_alloc _ _ _ _ _ rfl]
  rename_i aK5
  refine aK5 _ _ ?_
  clear aK5
  have hE7 := hE66.box w66.heap.size rfl [.int .i64 0, .bool false, .int .u64 0, .int .i64 0, .bool true, .int .u64 1, .int .i64 0, .bool false, .int .u64 2, .int .i64 0, .bool true, .int .u64 2, .int .i64 0, .bool true, .int .u64 2, .int .i64 0, .bool true, .int .u64 0] 146
  generalize World.alloc w66 _ = w7 at *
  clear hE66
  generalize w66.heap.size = Z4 at *
  go_wp2_with fail
  have HRO : Hid (∀ (S : ST) (ps : List Item) (v : World), Env w (ps ++ LT S [boxI Z4 rowW17, boxI Z3 rowO17]) v → (∀ j, v.cell? ⟨Z4, j, none⟩ = rowW17[j]?) ∧ ∀ j, v.cell? ⟨Z3, j, none⟩ = rowO17[j]?) := Lib.hid fun S ps v hv => ⟨Blk.rule ((hv.2.2 (boxI Z4 rowW17) (by simp [LT])).1), Blk.rule ((hv.2.2 (boxI Z3 rowO17) (by simp [LT])).1)⟩
  have hf0 : upd (fun _ => 0) (1, 0, 0) 1 = (A 0).2 := by
    rw [hr.a0]
    funext x
    show _ = f0 x
    unfold upd f0
    by_cases hx : x = (1, 0, 0) <;> simp [hx]
  have hE8 : Env w (LT (SPK C9 { tm0 c q with F := F, kq := 2 } (vm p cc 0) (A 0).1 (A 0).2 F4 q4 (0 + 1)) [boxI Z4 rowW17, boxI Z3 rowO17]) w7 := by
    rw [← hf0, hr.a0]
    exact hE7.perm (List.perm_append_comm (l₁ := [_, _]))
  clear hE7 hf0
  have HK0 : Hid (KOk C9 ds17 6 (d17 0) (A 0).1 ∧ OkF C9 (A 0).2 ∧ LnkF C9 (A 0).2) := Lib.hid (by rw [hr.a0]; exact ⟨K0_ok ok9 (by decide), f0_ok ok9⟩)
  go_loopw [5] (fun iv wr => ∃ (i B n k : Nat) (F G : Nat → Prop) (qc : Cnt), i ≤ 6 ∧ iv = .int .i64 i ∧ B ≤ 6 + 28 * i ∧ n ≤ 2 + 28 * i ∧ Hid (∀ d, KOk C9 ds17 B d (A i).1) ∧ Hid (OkF C9 (A i).2 ∧ LnkF C9 (A i).2) ∧ Env w (LT (SPK C9 { tm0 c q with F := F, kq := k } (vm p cc 0) (A i).1 (A i).2 G qc n) [boxI Z4 rowW17, boxI Z3 rowO17]) wr) (fun iv _ => 6 - (intOf iv).toNat)
  case atStart => exact ⟨0, 6, 0 + 1, 2, F, F4, q4, by omega, rfl, by omega, by omega, Lib.hid fun d => HK0.out.1.any (by rw [hr.a0]; rfl), Lib.hid HK0.out.2, hE8⟩
  case round =>
    clear hE8 HK0
    obtain ⟨i, B, n, k, F, G, qc, hi, rfl, hB, hn, hK, hF, hE⟩ := hrel
    by_cases hlt : i < 6
    · as_aux_lemma =>
        have hb1 : decide ((i : Int) < 6) = true := by simp; omega
        have hb2 : (i : Int) < 6 := by omega
        have hrt := rt17 i hlt
        have HRT := Lib.hid hrt
        have HNW := Lib.hid fun (v : World) (hv : Env w (LT (SPK C9 { tm0 c q with F := F, kq := k } (vm p cc 0) (A i).1 (A i).2 G qc n) [boxI Z4 rowW17, boxI Z3 rowO17]) v) => newYes_t (c := c) (e := (A i).1.T.e) (r := (A i).1.r) (hs := (A i).1.T.hs) (hi := 0) (q := q) (s := 4) (b := 3) (h := 1) (l := 9) 0 (d17 i).ok (d17 i).key (d17 i).val (d17 i).lv (by show InU 5; unfold InU; omega) (by rcases (show i = 0 ∨ i = 1 ∨ i = 2 ∨ i = 3 ∨ i = 4 ∨ i = 5 by omega) with rfl | rfl | rfl | rfl | rfl | rfl <;> decide) (by rcases (show i = 0 ∨ i = 1 ∨ i = 2 ∨ i = 3 ∨ i = 4 ∨ i = 5 by omega) with rfl | rfl | rfl | rfl | rfl | rfl <;> decide) rfl hv
        rw [show bkI 2 4 3 1 9 (d17 i).key = rtM C9 (d17 i) from (bkI_yes rfl (by decide)).trans hrt.symm] at HNW
        clear hrt
        have hc9 : ∀ j, wr.cell? ⟨Z3, j, none⟩ = rowO17[j]? := (HRO.out _ [] _ hE).2
        have c0 : wr.cell? ⟨Z3, i * 4, none⟩ = some (.int .i64 (d17 i).ok) := by rw [hc9]; rcases (show i = 0 ∨ i = 1 ∨ i = 2 ∨ i = 3 ∨ i = 4 ∨ i = 5 by omega) with rfl | rfl | rfl | rfl | rfl | rfl <;> rfl
        have c1 : wr.cell? ⟨Z3, i * 4 + 1, none⟩ = some (.int .u64 (d17 i).key) := by rw [hc9]; rcases (show i = 0 ∨ i = 1 ∨ i = 2 ∨ i = 3 ∨ i = 4 ∨ i = 5 by omega) with rfl | rfl | rfl | rfl | rfl | rfl <;> rfl
        have c2 : wr.cell? ⟨Z3, i * 4 + 2, none⟩ = some (.int .u64 (d17 i).val) := by rw [hc9]; rcases (show i = 0 ∨ i = 1 ∨ i = 2 ∨ i = 3 ∨ i = 4 ∨ i = 5 by omega) with rfl | rfl | rfl | rfl | rfl | rfl <;> rfl
        have c3 : wr.cell? ⟨Z3, i * 4 + 3, none⟩ = some (.int .i64 (d17 i).lv) := by rw [hc9]; rcases (show i = 0 ∨ i = 1 ∨ i = 2 ∨ i = 3 ∨ i = 4 ∨ i = 5 by omega) with rfl | rfl | rfl | rfl | rfl | rfl <;> rfl
        have HLT := Lib.hid hlt
        clear hc9 hlt hi
        go_wp2_with fail
        refine (HNW.out _ hE).mono ?_
        rintro e w8 ⟨o, b1, b2, sb, rfl, hE8⟩
        clear hE HNW c0 c1 c2 c3
        have hnd := hr.nd i (by have := HLT.out; omega)
        have hbg := begin_keep (ds := ds17) (B := B) ok9 (hK.out (d17 i)) hnd.2 (by rw [hnd.1]; exact HLT.out) (d17 i)
        have hbk : beginK C9 (d17 i) (A i).1 = { findM C9 (d17 i) (A i).1 with T := { (A i).1.T with nd := (A i).1.T.nd + 1 }, err := 0, dn := false, vl := 0 } := by unfold beginK; rw [if_neg (by have := HLT.out; rcases (show i = 0 ∨ i = 1 ∨ i = 2 ∨ i = 3 ∨ i = 4 ∨ i = 5 by omega) with rfl | rfl | rfl | rfl | rfl | rfl <;> decide)]
        have hE9 : Env w ([boxI o (opT c (d17 i).ok (d17 i).key (d17 i).val (d17 i).lv (rtM C9 (d17 i)) (cvP b1 b2) 0 (.pointer (some ⟨sb, 0, none⟩)) 0 false 0), boxI b1 [mvL 132 sb], boxI b2 [mvL 133 o], boxI sb (srC c (rtM C9 (d17 i)) (d17 i).key true (.pointer none))] ++ LT (SPK C9 { tm0 c q with F := F, kq := k } (vm p cc 0) (Rn i 0).2.1 (Rn i 0).2.2 G qc n) [boxI Z4 rowW17, boxI Z3 rowO17]) w8 := by
          rw [hr.r0]
          show Env w ([_, _, _, _] ++ LT (SPK C9 { tm0 c q with F := F, kq := k } (vm p cc 0) (beginK C9 (d17 i) (A i).1) (A i).2 G qc n) [boxI Z4 rowW17, boxI Z3 rowO17]) w8
          rw [hbk]
          exact hE8
        have HPM : Hid (PM C9 c (d17 i) (Rn i 0).2.1 o [boxI o (opT c (d17 i).ok (d17 i).key (d17 i).val (d17 i).lv (rtM C9 (d17 i)) (cvP b1 b2) 0 (.pointer (some ⟨sb, 0, none⟩)) 0 false 0), boxI b1 [mvL 132 sb], boxI b2 [mvL 133 o], boxI sb (srC c (rtM C9 (d17 i)) (d17 i).key true (.pointer none))]) := Lib.hid (by
          rw [hr.r0]
          show PM C9 c (d17 i) (beginK C9 (d17 i) (A i).1) o _
          rw [hbk]
          exact (.inl ⟨b1, b2, _, _, _, [_], rfl, .inl ⟨rfl, sb, rfl, rfl, rfl, .inl ⟨rfl, rfl, .inl rfl⟩⟩⟩))
        have HBG : Hid (KOk C9 ds17 B (d17 i) (Rn i 0).2.1) := Lib.hid (by rw [hr.r0]; exact hbg.1)
        have HF : Hid (OkF C9 (Rn i 0).2.2 ∧ LnkF C9 (Rn i 0).2.2) := Lib.hid (by rw [hr.r0]; exact hF.out)
        clear hE8 hbk hbg hnd hK hF
        have hs12 : s17 i ≤ 28 := by unfold s17; (repeat' split) <;> omega
        have hs1 : 1 ≤ s17 i := by unfold s17; (repeat' split) <;> omega
        go_wp2_with fail
        go_loopw [7, 8] (fun nv sv wr => ∃ (j B n k : Nat) (st : Int) (F G : Nat → Prop) (qc : Cnt) (ps : List Item), j ≤ s17 i ∧ nv = .int .i64 j ∧ sv = .int .i64 st ∧ B ≤ 6 + 28 * i + j ∧ n ≤ 2 + 28 * i + j ∧ Hid (st = (Rn i j).1) ∧ Hid (st = 0 → PM C9 c (d17 i) (Rn i j).2.1 o ps ∧ KOk C9 ds17 B (d17 i) (Rn i j).2.1) ∧ Hid (st ≠ 0 → (∃ nx sp, ps = [boxI o (opT c (d17 i).ok (d17 i).key (d17 i).val (d17 i).lv (rtM C9 (d17 i)) nx st sp (Rn i j).2.1.err (Rn i j).2.1.dn (Rn i j).2.1.vl)]) ∧ KOk C9 ds17 B (d17 i) (endK (Rn i j))) ∧ Hid (OkF C9 (Rn i j).2.2 ∧ LnkF C9 (Rn i j).2.2) ∧ Env w (ps ++ LT (SPK C9 { tm0 c q with F := F, kq := k } (vm p cc 0) (Rn i j).2.1 (Rn i j).2.2 G qc n) [boxI Z4 rowW17, boxI Z3 rowO17]) wr) (fun nv _ _ => 60 - (intOf nv).toNat)
        case atStart => exact ⟨0, B, n, k, 0, F, G, qc, _, Nat.zero_le _, rfl, rfl, by omega, by omega, Lib.hid (by rw [hr.r0]), Lib.hid (fun _ => ⟨HPM.out, HBG.out⟩), Lib.hid (fun h => absurd rfl h), HF, hE9⟩
        case round =>
          clear hE9 HPM HBG HF
          obtain ⟨j, B9, n9, k9, st, F9, G9, qc9, ps, hj, rfl, rfl, hB9, hn9, hst, hP, hQ, hF, hE⟩ := hrel
          by_cases hjl : j < s17 i
          · as_aux_lemma =>
              have hby := hr.busy i HLT.out j hjl
              have h0 : st = 0 := by rw [hst.out]; exact hby.1
              subst h0
              have hb3 : decide ((j : Int) < 60) = true := by simp; omega
              have hP := (hP.out rfl)
              have hi4 := HLT.out
              have hkc := hP.2.kc (n := n9) ok9 (by rw [HRT.out]; have := bu17; unfold In64; omega) hF.out.1 hF.out.2 hby.2.1 hby.2.2 (by show InU 5 ∧ InU (d17 i).val; unfold InU; rcases (show i = 0 ∨ i = 1 ∨ i = 2 ∨ i = 3 ∨ i = 4 ∨ i = 5 by omega) with rfl | rfl | rfl | rfl | rfl | rfl <;> decide) (by omega) (by unfold maxLen; omega)
              have HST := Lib.hid (op_p (R := [boxI Z4 rowW17, boxI Z3 rowO17]) (X := { tm0 c q with F := F9, kq := k9 }) (V := vm p cc 0) hkc HG.out hP.1 hE)
              have HKE := Lib.hid fun hu => op_keep ok9 (by rw [HRT.out]; have := bu17; unfold In64; omega) hF.out.1 hF.out.2 hP.2 hby.2.1 hby.2.2 hu
              have HNX : Hid (opM C9 (d17 i) (Rn i j).2.1 (Rn i j).2.2 = Rn i (j + 1)) := Lib.hid (hr.rs i j).symm
              rw [HNX.out] at HST HKE
              clear hkc hby hst hP hQ hE hF hi4 HNX
              go_wp2_with fail
              refine HST.out.mono ?_
              rintro e w9 ⟨s9, rfl, hs9, F', k', G', qc', n', ps', ⟨hn', -⟩, h0, h1, hE'⟩
              have hu : ∀ x, InU ((Rn i (j + 1)).2.2 x) := fun x => by
                have h9 : Blk 0 w9 0 [] ∨ True := .inr trivial
                exact (hE'.perm (List.perm_append_comm)).cell 3 rfl |>.words.1 x
              have hke := HKE.out hu
              clear HST HKE
              subst hs9
              go_wp2_with fail
              refine ⟨⟨j + 1, B9 + 1, n', k', _, F', G', qc', ps', hjl, by simp, rfl, by omega, by omega, Lib.hid rfl, Lib.hid fun h => ⟨h0 h, ?_⟩, Lib.hid fun h => ⟨h1 h, ?_⟩, Lib.hid ⟨hke.f, hke.l⟩, hE'⟩, by simp [intOf]; omega⟩
              · have := hke.k
                rw [if_pos h] at this
                exact this
              · have := hke.k
                rw [if_neg h] at this
                exact this
          · as_aux_lemma =>
              have hjs : j = s17 i := by omega
              subst hjs
              have hdn := hr.done i HLT.out
              have h1 : st = 1 := by rw [hst.out]; exact hdn.1
              subst h1
              obtain ⟨⟨nx, sp, rfl⟩, hK⟩ := hQ.out (by decide)
              rw [hdn.2.1, hdn.2.2.1, hdn.2.2.2] at hE
              have HK := Lib.hid hK
              clear hP hQ hdn hst hK
              have hb3 : decide (((s17 i : Nat) : Int) < 60) = true := by simp; omega
              go_wp2_with fail
              have HAN : Hid (∀ v, Env w ([boxI o (opT c (d17 i).ok (d17 i).key (d17 i).val (d17 i).lv (rtM C9 (d17 i)) nx 1 sp 0 (r17 i) (v17 i))] ++ LT (SPK C9 { tm0 c q with F := F9, kq := k9 } (vm p cc 0) (Rn i (s17 i)).2.1 (Rn i (s17 i)).2.2 G9 qc9 n9) [boxI Z4 rowW17, boxI Z3 rowO17]) v → Calls Tryz.prog 34 #[.pointer (some ⟨o, 0, none⟩)] v fun p w' => p = .returned (.agg #[.int .i64 0, .bool (r17 i), .int .u64 (v17 i)]) ∧ Below v.heap.size v w') := Lib.hid fun v hv => answer_t (hv.get 0 rfl)
              have HCE : Hid (∀ v, Env w ([boxI o (opT c (d17 i).ok (d17 i).key (d17 i).val (d17 i).lv (rtM C9 (d17 i)) nx 1 sp 0 (r17 i) (v17 i))] ++ LT (SPK C9 { tm0 c q with F := F9, kq := k9 } (vm p cc 0) (Rn i (s17 i)).2.1 (Rn i (s17 i)).2.2 G9 qc9 n9) [boxI Z4 rowW17, boxI Z3 rowO17]) v → v.cell? ⟨Z4, i * 3, none⟩ = some (.int .i64 0) ∧ v.cell? ⟨Z4, i * 3 + 1, none⟩ = some (.bool (r17 i)) ∧ v.cell? ⟨Z4, i * 3 + 2, none⟩ = some (.int .u64 (v17 i))) := Lib.hid fun v hv => by
                have h9 := (HRO.out _ _ _ hv).1
                have hi4 := HLT.out
                rw [h9, h9, h9]
                rcases (show i = 0 ∨ i = 1 ∨ i = 2 ∨ i = 3 ∨ i = 4 ∨ i = 5 by omega) with rfl | rfl | rfl | rfl | rfl | rfl <;> exact ⟨rfl, rfl, rfl⟩
              have hi4 : (i : Int) < 6 := by have := HLT.out; omega
              refine wp_text (S := (Env w ([boxI o (opT c (d17 i).ok (d17 i).key (d17 i).val (d17 i).lv (rtM C9 (d17 i)) nx 1 sp 0 (r17 i) (v17 i))] ++ LT (SPK C9 { tm0 c q with F := F9, kq := k9 } (vm p cc 0) (Rn i (s17 i)).2.1 (Rn i (s17 i)).2.2 G9 qc9 n9) [boxI Z4 rowW17, boxI Z3 rowO17]))) (by kernel_rfl) (by kernel_rfl) hE.drew (fun hT => ?_)
              have hT9 := Lib.hid hT
              clear hT
              repeat (first
                | (refine text_value (v := ?_) hT9.out (by rfl) ?_ ?_; rotate_left; (focus (intro w5 hS; obtain ⟨e1, e2, e3⟩ := HCE.out _ hS; go_simp <;> with_reducible rfl)); (try simp only [Act.put, List.setIfInBounds_toArray, List.set_cons_zero, List.set_cons_succ]))
                | (refine text_off hT9.out (by rfl) ?_; (try simp only [Act.put, List.setIfInBounds_toArray, List.set_cons_zero, List.set_cons_succ]))
                | (refine text_call (v := ?_) (f := ?_) (args := ?_) hT9.out (by rfl) ?_ ?_ ?_; rotate_left 3; (focus (intro w5 hS; obtain ⟨e1, e2, e3⟩ := HCE.out _ hS; go_simp; constructor <;> with_reducible rfl)); (focus (intro w5 hS; (first | (with_reducible refine (HAN.out _ hS).mono ?_; rintro e9 w6 ⟨rfl, hb5⟩; constructor; with_reducible rfl; exact hS.over hb5)))); (try simp only [Act.put, List.setIfInBounds_toArray, List.set_cons_zero, List.set_cons_succ])))
              refine InText.nil fun w5 hS5 => ?_
              clear hT9
              clear hE HAN HCE
              go_wp2_with fail
              have hi4 := HLT.out
              exact ⟨⟨i + 1, B9, n9, k9, F9, G9, qc9, by omega, by simp, by omega, by omega, Lib.hid fun d => (by rw [hr.an]; exact HK.out.any rfl), Lib.hid (by rw [hr.an]; exact hF.out), (by rw [hr.an]; exact hS5.sub (.cons _ (List.Sublist.refl _)))⟩, by simp [intOf]; omega⟩
    · as_aux_lemma =>
        have hb1 : decide ((i : Int) < 6) = false := by simp; omega
        have hn := HC.out
        go_wp2_with fail
        have hE9 := hE
        refine (newNo_t (c := c) (k := 2) (s := 4) (b := 3) (h := 1) (l := 9) (q := q) 0 8 0 0 0 (.inr (.inl rfl)) rfl hE).mono ?_
        rintro e w9 ⟨rfl, hE10⟩
        go_wp2_with fail
        go_ret
        exact ⟨rfl, hE10.below⟩
theorem run_ok : RunOk at17 run17 := ⟨by rw [at17], fun i => by unfold run17; rw [at17], fun i => by unfold run17; rw [runJ], fun i j => by unfold run17; rw [runJ], busy17, done17, at17_nd⟩
theorem awake_t (w : World) (hg : Glo w) : Calls Tryz.prog 24 #[] w fun o w' => o = .returned (.bool true) ∧ Below w.heap.size w w' := awake_run at17 run17 run_ok w hg
end Go.Proofs.YtdknbegcflldjaaGreatDoor

/- Shared cells: the contracts of the accesses. -/
namespace Go.Proofs.YtdknbegcflldjaaGreatDoor
open Go.RowKit Go.Maps
set_option maxRecDepth 100000

section
variable {w w' : World} {c n : Nat} {F : Nat → Prop} {f : Plc → Int} {q : Cnt}
end

set_option maxHeartbeats 800000 in
theorem count_any {c n : Nat} {F : Nat → Prop} {f : Plc → Int} {q : Cnt} {w : World} (hC : IsC w c F f q n) :
    Calls Tryz.prog 70 #[.pointer (some ⟨c, 0, none⟩)] w fun e w' => e = .returned (.agg #[.int .i64 q.l, .int .i64 q.s, .int .i64 q.w, .int .i64 q.f, .int .i64 q.a]) ∧ Below w.heap.size w w' := by
  obtain ⟨mp, hb, hm, hF⟩ := hC
  have r1 := cell_more hb.1 hb.rule
  unfold cv at r1
  go_enter Tryz.func70, Tryz.ntmps70
  go_wp2
  refine bodyPost_ret (v := .agg #[.int .i64 q.l, .int .i64 q.s, .int .i64 q.w, .int .i64 q.f, .int .i64 q.a]) (by simp [results, Tryz.results70, go_sem]) rfl ⟨rfl, ?_⟩
  exact (Below.refl _ _).alloc (Nat.le_refl _) _
end Go.Proofs.YtdknbegcflldjaaGreatDoor

/- The plain world: contracts of its accesses: each is the cells' own, among whatever other things there are. -/
namespace Go.Proofs.YtdknbegcflldjaaGreatDoor
open Go.RowKit Go.Maps
set_option maxRecDepth 100000

section
variable {w0 w : World} {L : List Item} {p c n : Nat} {F : Nat → Prop} {f : Plc → Int} {q : Cnt}

set_option maxHeartbeats 1600000 in
theorem count_w (i j : Nat) (hE : Env w0 L w) (hi : L[i]? = some (wbox p c)) (hj : L[j]? = some (cellI c F f q n)) :
    Calls Tryz.prog 27 #[.pointer (some ⟨p, 0, none⟩)] w fun e w' => e = .returned (.agg #[.int .i64 q.l, .int .i64 q.s, .int .i64 q.w, .int .i64 q.f, .int .i64 q.a]) ∧ Below w.heap.size w w' := by
  have hb := (Below.refl w.heap.size w).alloc (Nat.le_refl _) (.cells #[.int .i64 0, .int .i64 0, .int .i64 0, .int .i64 0, .int .i64 0] 70)
  replace hE := hE.box w.heap.size rfl [.int .i64 0, .int .i64 0, .int .i64 0, .int .i64 0, .int .i64 0] 70
  go_enter Tryz.func27, Tryz.ntmps27
  go_wp2_with fail
  refine (kept_any (hE.wblk (i + 1) hi)).mono ?_
  rintro e w1 ⟨rfl, rfl⟩
  go_wp2_with fail
  refine (count_any (hE.cell (j + 1) hj)).mono ?_
  rintro e w2 ⟨rfl, hb2⟩
  have hE2 := hE.over hb2
  have f5 := hE2.thaw 0 rfl
  have f0 := f5 0 (by simp)
  have f1 := f5 1 (by simp)
  have f2 := f5 2 (by simp)
  have f3 := f5 3 (by simp)
  have f4 := f5 4 (by simp)
  have r := hE2.rule 0 rfl
  have hB := hb.trans (hb2.mono hb.size)
  clear f5
  go_wp2
  have hP := hE2.put5 0 rfl (.int .i64 q.l) (.int .i64 q.s) (.int .i64 q.w) (.int .i64 q.f) (.int .i64 q.a)
  have q9 := hP.rule 0 rfl
  refine bodyPost_ret (v := .agg #[.int .i64 q.l, .int .i64 q.s, .int .i64 q.w, .int .i64 q.f, .int .i64 q.a]) (by simp [results, Tryz.results27, go_sem, q9]) rfl ⟨rfl, ?_⟩
  exact ((((hB.setCell (Nat.le_refl _) _).setCell (Nat.le_refl _) _).setCell (Nat.le_refl _) _).setCell (Nat.le_refl _) _).setCell (Nat.le_refl _) _
end
end Go.Proofs.YtdknbegcflldjaaGreatDoor

/- What the condition on the package's variables gives: the three fields stand in them; and that the program's own start meets it. -/
namespace Go.Proofs.YtdknbegcflldjaaGreatDoor
open Go.ChangeShapes Go.WideShapes Go.ChangeAt Go.RowKit
set_option maxRecDepth 100000

section
variable {P : Program} {w : World}
theorem cell_lt {b o : Nat} {v : Value} (h : w.cell? ⟨b, o, none⟩ = some v) : b < w.heap.size := by
  rcases Nat.lt_or_ge b w.heap.size with h' | h'
  · exact h'
  · simp [World.cell?, Array.getElem?_eq_none h'] at h
/-- The head of a list of laid variables: a struct of two ints. -/
theorem laid_pair {n : String} {g : Nat} {t k : TypeId} {f0 f1 : Field} {a b : Int} {r : List (String × DataW Unit)} {ps : List MemPlace}
    (h : DataW.LaidVars P w ((n, .agg [.lit (.int .i64 a), .lit (.int .i64 b)]) :: r) ps) (hg : P.globalNamed n = some g) (ht : (P.globals[g]?).map (·.type) = some t)
    (hs : P.underlying t = some (.struct #[f0, f1])) (hc : P.cellsOf t = 2) (h0 : f0.offset = 0) (h1 : f1.offset = 1) (hk0 : f0.type = k) (hk1 : f1.type = k) (hk : P.cellsOf k = 1) (hi : P.underlying k = some (.int .i64)) :
    w.cell? ⟨g, 0, none⟩ = some (.int .i64 a) ∧ w.cell? ⟨g, 1, none⟩ = some (.int .i64 b) ∧ ∃ q, DataW.LaidVars P w r q := by
  obtain ⟨g', t', cs, fuel, p, q, hg', ht', hv, hd, hr, -⟩ := h
  obtain rfl := Option.some.inj (hg.symm.trans hg')
  obtain rfl := Option.some.inj (ht.symm.trans ht')
  obtain ⟨xs, m, -, hx, hl, hn, hel⟩ := DataW.trod_struct hs hd
  have e0 := hel 0 f0 rfl
  have e1 := hel 1 f1 rfl
  rw [h0, hk0, hk] at e0
  rw [h1, hk1, hk] at e1
  obtain ⟨l⟩ := cs
  rw [hc] at hl
  match l, hl, xs, hn, hx, e0, e1, hv with
  | [c0, c1], _, [x0, x1], _, hx, e0, e1, hv =>
    simp only [Prod.mk.injEq, List.map_cons, List.map_nil, DataW.agg.injEq, List.cons.injEq] at hx
    obtain ⟨n0, s0, y0, -⟩ := DataW.trod_int hi (show DataW.trod _ P w 0 _ false m k [c0] = some x0 from e0)
    obtain ⟨n1, s1, y1, -⟩ := DataW.trod_int hi (show DataW.trod _ P w 0 _ false m k [c1] = some x1 from e1)
    simp at s0 s1
    subst s0 s1
    have k0 := hx.1.1
    have k1 := hx.1.2.1
    rw [y0] at k0
    rw [y1] at k1
    simp at k0 k1
    subst k0 k1
    exact ⟨by rw [World.var?_cell hg hv 0]; rfl, by rw [World.var?_cell hg hv 1]; rfl, q, hr⟩
end

def laid3 : List (String × DataW Unit) := [("revenant/link.versionPart", Rows.laid_revenant_link_versionPart), ("revenant/link.slotPart", Rows.laid_revenant_link_slotPart), ("revenant/link.markPart", Rows.laid_revenant_link_markPart)]

/-- What the condition gives the walks. -/
theorem glo_of_laid {W : World} (h : laidMetH Tryz.prog laid3 W) : Glo W := by
  rw [MakeChecks.laidMetH_plain _ _ _ (by kernel_rfl)] at h
  obtain ⟨ps, h, -, -⟩ := h
  obtain ⟨a0, a1, q1, h⟩ := laid_pair (g := 2) (t := 189) (k := 3) h (by kernel_rfl) (by kernel_rfl) Tryz.underlying189 (by kernel_rfl) rfl rfl rfl rfl (by kernel_rfl) Tryz.underlying3
  obtain ⟨b0, b1, q2, h⟩ := laid_pair (g := 0) (t := 189) (k := 3) h (by kernel_rfl) (by kernel_rfl) Tryz.underlying189 (by kernel_rfl) rfl rfl rfl rfl (by kernel_rfl) Tryz.underlying3
  obtain ⟨c0, c1, q3, h⟩ := laid_pair (g := 1) (t := 189) (k := 3) h (by kernel_rfl) (by kernel_rfl) Tryz.underlying189 (by kernel_rfl) rfl rfl rfl rfl (by kernel_rfl) Tryz.underlying3
  exact ⟨⟨a0, a1⟩, ⟨b0, b1⟩, ⟨c0, c1⟩, cell_lt a0, cell_lt b0, cell_lt c0⟩

/-- The program's own start meets the condition. -/
theorem door_met (os : Os) (args : Array Value) : laidMetH Tryz.prog laid3 ((World.doorLaid Tryz.prog 24 os).forCall (fun _ _ => 0) ⟨#[], args, []⟩).memory :=
  laidMetH_of_parts3 (fuel := 8) (laidMet_of_run' 8 (by kernel_rfl) (by kernel_rfl)) (by kernel_rfl) (by kernel_rfl)
end Go.Proofs.YtdknbegcflldjaaGreatDoor

/- Slices that come in, opened once: of numbers; of structs of two numbers. -/
namespace Go.Proofs.YtdknbegcflldjaaGreatDoor
open Go.RowKit Go.WideShapes Go.ChangeShapes Go.ChangeAt Go.Deep
set_option maxRecDepth 100000

section
variable {H : Type} {enc : TypeId × Value → H} {P : Program} {W : World}

theorem open_num_row {t e : TypeId} {k : IntKind} {A : Option Addr} {len cap : Nat} {d : DataW H} {p : List MemPlace} (ht : P.underlying t = some (.slice e)) (he : P.underlying e = some (.int k)) (hc : P.cellsOf e = 1)
    (h : DataW.Trod enc P W 0 (fun _ => true) true t (.slice A len cap) d p) (hlt : ∀ x ∈ p, x.block < W.heap.size) :
    ∃ zs : List Int, zs.length = len ∧ len ≤ maxLen ∧ (∀ n ∈ zs, (Lit.int k n).wf = true) ∧ (zs = [] ∨ ∃ b off, A = some ⟨b, off, none⟩ ∧ b < W.heap.size ∧ ∀ i, i < zs.length → W.cell? ⟨b, off + i, none⟩ = some (.int k (zs.getD i 0))) := by
  obtain ⟨fuel, hf⟩ := h
  rcases open_ints ht he hc hf with ⟨hcs, hx⟩ | ⟨a, len', cap', zs, hcs, _, hl, hm, hz, hx, hcell, hwz⟩
  · simp [Value.cells] at hcs
    obtain ⟨rfl, rfl, rfl⟩ := hcs
    exact ⟨[], rfl, Nat.zero_le _, by simp, Or.inl rfl⟩
  · simp [Value.cells] at hcs
    obtain ⟨rfl, rfl, rfl⟩ := hcs
    simp only [Prod.mk.injEq] at hx
    obtain ⟨rfl, rfl⟩ := hx
    simp only [if_true] at hz
    refine ⟨zs.take len, by simp; omega, by omega, fun n hn => hwz n (List.mem_of_mem_take hn), ?_⟩
    by_cases h0 : len = 0
    · left; subst h0; simp
    · right
      obtain ⟨b, off, spot⟩ := a
      have hspot : spot = none := by simpa [Addr.add] using World.cell?_spot (hcell 0 (by omega))
      subst hspot
      refine ⟨b, off, rfl, hlt (.cell b off) (MemPlace.mem_row.2 ⟨0, by omega, by simp⟩), fun i hi => ?_⟩
      have hi' : i < len := by simp at hi; omega
      have := hcell i (by omega)
      rw [add_plain] at this
      rw [this]
      simp [hi']

def numOf' : Value → Int | .int _ n => n | _ => 0

theorem open_pair_row {t e : TypeId} {k : IntKind} {f0 f1 : Field} {A : Option Addr} {len cap : Nat} {d : DataW H} {p : List MemPlace} (ht : P.underlying t = some (.slice e)) (he : P.underlying e = some (.struct #[f0, f1]))
    (ce : P.cellsOf e = 2) (o0 : f0.offset = 0) (o1 : f1.offset = 1) (c0 : P.cellsOf f0.type = 1) (c1 : P.cellsOf f1.type = 1) (u0 : P.underlying f0.type = some (.int k)) (u1 : P.underlying f1.type = some (.int k))
    (h : DataW.Trod enc P W 0 (fun _ => true) true t (.slice A len cap) d p) (hlt : ∀ x ∈ p, x.block < W.heap.size) :
    ∃ fs : List (Int × Int), fs.length = len ∧ len ≤ maxLen ∧ (∀ q ∈ fs, (Lit.int k q.1).wf = true ∧ (Lit.int k q.2).wf = true) ∧
      (fs = [] ∨ ∃ b off, A = some ⟨b, off, none⟩ ∧ b < W.heap.size ∧ ∀ i, i < fs.length → W.cell? ⟨b, off + i * 2, none⟩ = some (.int k (fs.getD i (0, 0)).1) ∧ W.cell? ⟨b, off + i * 2 + 1, none⟩ = some (.int k (fs.getD i (0, 0)).2)) := by
  obtain ⟨fuel, hf⟩ := h
  rcases open_slice_pairs ht he ce o0 o1 c0 c1 hf with ⟨hcs, hx⟩ | ⟨a, len', cap', m, n, V0, V1, D0, D1, P0, P1, hcs, _, hl, hm, hmm, hx, hall⟩
  · simp [Value.cells] at hcs
    obtain ⟨rfl, rfl, rfl⟩ := hcs
    exact ⟨[], rfl, Nat.zero_le _, by simp, Or.inl rfl⟩
  · simp [Value.cells] at hcs
    obtain ⟨rfl, rfl, rfl⟩ := hcs
    simp only [Prod.mk.injEq] at hx
    obtain ⟨rfl, rfl⟩ := hx
    simp only [if_true] at hmm
    subst hmm
    have each : ∀ i, i < m → (∃ x, V0 i = .int k x ∧ (Lit.int k x).wf = true) ∧ ∃ x, V1 i = .int k x ∧ (Lit.int k x).wf = true := fun i hi => by
      obtain ⟨_, _, h3, h4⟩ := hall i hi
      obtain ⟨x, e0, _, w0⟩ := DataW.trod_int u0 h3
      obtain ⟨y, e1, _, w1⟩ := DataW.trod_int u1 h4
      simp at e0 e1
      exact ⟨⟨x, e0, w0⟩, ⟨y, e1, w1⟩⟩
    refine ⟨(List.range len).map fun i => (numOf' (V0 i), numOf' (V1 i)), by simp, by omega, ?_, ?_⟩
    · intro q hq
      obtain ⟨i, hi, rfl⟩ := List.mem_map.1 hq
      have hi' := List.mem_range.1 hi
      obtain ⟨⟨x, e0, w0⟩, ⟨y, e1, w1⟩⟩ := each i (by omega)
      rw [e0, e1]
      exact ⟨w0, w1⟩
    · by_cases h0 : len = 0
      · left; subst h0; simp
      · right
        obtain ⟨b, off, spot⟩ := a
        have hspot : spot = none := by simpa [Addr.add] using World.cell?_spot (hall 0 (by omega)).1
        subst hspot
        refine ⟨b, off, rfl, hlt (.cell b off) (List.mem_append_left _ (MemPlace.mem_row.2 ⟨0, by omega, by simp⟩)), fun i hi => ?_⟩
        have hi' : i < len := by simpa using hi
        obtain ⟨h1, h2, _, _⟩ := hall i (by omega)
        obtain ⟨⟨x, e0, _⟩, ⟨y, e1, _⟩⟩ := each i (by omega)
        rw [add_plain] at h1 h2
        rw [Nat.add_assoc, h1, h2, e0, e1]
        simp [hi', e0, e1, numOf']
end
end Go.Proofs.YtdknbegcflldjaaGreatDoor
