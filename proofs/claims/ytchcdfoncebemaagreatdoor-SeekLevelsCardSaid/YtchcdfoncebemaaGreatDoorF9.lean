/- SeekLevels: so it is of a lane at any level, from any link's cell; Again ends it: so the law answers true, for every input, where package link's three variables hold what the program's text lays in them (tied). -/
import Derived.Test.YtchcdfoncebemaaGreatDoorF8
import Derived.LoopIn
import Derived.Test.YtchcdfoncebemaaGreatDoorChecked
import Derived.Deep.MidRow
import Derived.Test.YtchcdfoncebemaaGreatDoorTie
import Derived.LaidMore
import Derived.Stop.Joined
import Derived.Test.YtchcdfoncebemaaGreatDoorCards
import Derived.SevenTiedAt
import Derived.Deep.CutBlock
import Derived.Deep.CutRange

/- A search of the program and one of the reference, of equal words, among other things. -/
namespace Go.Proofs.YtchcdfoncebemaaGreatDoor
open Go.RowKit Go.Maps
set_option maxRecDepth 100000

/-- Where both searches' things are. -/
structure Js where
  B : Bs
  (sb qb u m : Nat)
  (k key : Int)
  (vs : Bool)
/-- The program's things but for the world's are these. -/
def PConv (w0 : World) (J : Js) (s : Int) (T : Sm) (M : List Item) : Prop :=
  (∀ G f qc n R w, Env w0 (M ++ (wbox J.B.p J.B.cc :: cellI J.B.cc G f qc n :: R)) w → SrchR w0 R J.sb J.k J.key J.vs (mkS J.B G f qc n T.e T.r) s T w) ∧ coreI J.B.c 2 1000 3 1 1073741824 T.e T.r 0 0 J.B.q ∈ M ∧
  (T.on = true → ∃ a nx wd, boxI a (laneV J.B.c 0 J.key J.vs nx s wd (pfS s T.L) (pvS s T.L) T.L) ∈ M ∧ boxI J.sb (srC J.B.c J.k J.key J.vs (.pointer (some ⟨a, 0, none⟩))) ∈ M)
/-- The reference's things but for its memory are these. -/
def QConv (w0 : World) (J : Js) (T : Sm) (Q : List Item) : Prop :=
  (∀ F ml N R w, ml.length ≤ N → Env w0 (Q ++ (refI J.m F ml :: R)) w → RSr w0 R J.qb J.u J.m J.k J.key J.vs T (getL ml) N w) ∧ boxI J.u (ruC T.e T.r) ∈ Q ∧
  (T.on = true → ∃ b, boxI b (rlV 0 J.key J.vs T.L) ∈ Q ∧ boxI J.qb (rsC J.k J.key J.vs true (some ⟨b, 0, none⟩)) ∈ Q)
def BothE (w0 : World) (R : List Item) (J : Js) (G : Nat → Prop) (f : Plc → Int) (qc : Cnt) (n : Nat) (s : Int) (T T2 : Sm) (f2 : Plc → Int) (N : Nat) (w : World) : Prop :=
  ∃ M Q F ml, PConv w0 J s T M ∧ QConv w0 J T2 Q ∧ getL ml = f2 ∧ ml.length ≤ N ∧ Env w0 (M ++ (Q ++ (wbox J.B.p J.B.cc :: cellI J.B.cc G f qc n :: refI J.m F ml :: R))) w

section
variable {w0 w w' : World} {R M Q : List Item} {J : Js} {G F : Nat → Prop} {f f2 : Plc → Int} {qc : Cnt} {n N : Nat} {s : Int} {T T2 : Sm} {ml : List OneR}
theorem SrchR.out (h : SrchR w0 R J.sb J.k J.key J.vs (mkS J.B G f qc n T.e T.r) s T w) : ∃ M, PConv w0 J s T M ∧ Env w0 (M ++ (wbox J.B.p J.B.cc :: cellI J.B.cc G f qc n :: R)) w := by
  obtain ⟨-, -, ⟨hoff, rfl, hE | ⟨a, L, nx, wd, B1, B2, hn, hE⟩⟩ | ⟨hon, a, nx, wd, B1, B2, hn, hE⟩⟩ := h
  · exact ⟨[boxI J.sb (srC J.B.c J.k J.key J.vs (.pointer none)), coreI J.B.c 2 1000 3 1 1073741824 T.e T.r 0 0 J.B.q, queueI J.B.q J.B.F [] J.B.kq], ⟨fun G f qc n R w h => ⟨rfl, rfl, .inl ⟨hoff, rfl, .inl h⟩⟩, by simp, fun h => absurd h (by rw [hoff]; decide)⟩, hE⟩
  · refine ⟨[boxI a (laneV J.B.c 0 J.key J.vs nx 2 wd (pfS 2 L) (pvS 2 L) L), B1, B2, coreI J.B.c 2 1000 3 1 1073741824 T.e T.r 0 0 J.B.q, queueI J.B.q J.B.F [] J.B.kq, boxI J.sb (srC J.B.c J.k J.key J.vs (.pointer (some ⟨a, 0, none⟩)))], ⟨fun G f qc n R w h => ⟨rfl, rfl, .inl ⟨hoff, rfl, .inr ⟨a, L, nx, wd, B1, B2, hn, ?_⟩⟩⟩, by simp, fun h => absurd h (by rw [hoff]; decide)⟩, ?_⟩
    · exact h.perm ((List.perm_middle (l₁ := [_, _])).symm.append_left [_, _, _, _, _])
    · exact hE.perm ((List.perm_middle (l₁ := [_, _])).append_left [_, _, _, _, _])
  · refine ⟨[boxI a (laneV J.B.c 0 J.key J.vs nx s wd (pfS s T.L) (pvS s T.L) T.L), B1, B2, coreI J.B.c 2 1000 3 1 1073741824 T.e T.r 0 0 J.B.q, queueI J.B.q J.B.F [] J.B.kq, boxI J.sb (srC J.B.c J.k J.key J.vs (.pointer (some ⟨a, 0, none⟩)))], ⟨fun G f qc n R w h => ⟨rfl, rfl, .inr ⟨hon, a, nx, wd, B1, B2, hn, ?_⟩⟩, by simp, fun _ => ⟨a, nx, wd, by simp, by simp⟩⟩, ?_⟩
    · exact h.perm ((List.perm_middle (l₁ := [_, _])).symm.append_left [_, _, _, _, _])
    · exact hE.perm ((List.perm_middle (l₁ := [_, _])).append_left [_, _, _, _, _])
theorem RSr.out (h : RSr w0 R J.qb J.u J.m J.k J.key J.vs T f N w) : ∃ Q F ml, QConv w0 J T Q ∧ getL ml = f ∧ ml.length ≤ N ∧ Env w0 (Q ++ (refI J.m F ml :: R)) w := by
  rcases h with ⟨hoff, lp, F, ml, hf, hl, hE⟩ | ⟨hon, b, F, ml, hf, hl, hE⟩
  · exact ⟨[boxI J.qb (rsC J.k J.key J.vs false lp), boxI J.u (ruC T.e T.r)], F, ml, ⟨fun F ml N R w hl h => .inl ⟨hoff, lp, F, ml, rfl, hl, h⟩, by simp, fun h => absurd h (by rw [hoff]; decide)⟩, hf, hl, hE⟩
  · refine ⟨[boxI b (rlV 0 J.key J.vs T.L), boxI J.u (ruC T.e T.r), boxI J.qb (rsC J.k J.key J.vs true (some ⟨b, 0, none⟩))], F, ml, ⟨fun F ml N R w hl h => .inr ⟨hon, b, F, ml, rfl, hl, ?_⟩, by simp, fun _ => ⟨b, by simp, by simp⟩⟩, hf, hl, ?_⟩
    · exact h.perm ((List.perm_middle (l₁ := [_])).symm.append_left [_, _])
    · exact hE.perm ((List.perm_middle (l₁ := [_])).append_left [_, _])
theorem perm_prog (M Q R : List Item) (a b c : Item) : (M ++ (Q ++ (a :: b :: c :: R))).Perm (M ++ (a :: b :: (Q ++ (c :: R)))) := perm_of fun z => by simp only [List.count_append, List.count_cons]; omega
theorem perm_ref (M Q R : List Item) (a b c : Item) : (M ++ (Q ++ (a :: b :: c :: R))).Perm (Q ++ (c :: (M ++ (a :: b :: R)))) := perm_of fun z => by simp only [List.count_append, List.count_cons]; omega
theorem perm_mem (M Q R : List Item) (a b c : Item) : (M ++ (Q ++ (a :: b :: c :: R))).Perm (a :: b :: c :: (M ++ (Q ++ R))) := perm_of fun z => by simp only [List.count_append, List.count_cons]; omega
theorem BothE.over (h : BothE w0 R J G f qc n s T T2 f2 N w) (hb : Below w.heap.size w w') : BothE w0 R J G f qc n s T T2 f2 N w' := by
  obtain ⟨M, Q, F, ml, h1, h2, h3, h4, hE⟩ := h
  exact ⟨M, Q, F, ml, h1, h2, h3, h4, hE.over hb⟩
theorem BothE.below (h : BothE w0 R J G f qc n s T T2 f2 N w) : Below w0.heap.size w0 w := by
  obtain ⟨M, Q, F, ml, h1, h2, h3, h4, hE⟩ := h
  exact hE.below
theorem BothE.words (h : BothE w0 R J G f qc n s T T2 f2 N w) : Words f := by
  obtain ⟨M, Q, F, ml, h1, h2, h3, h4, hE⟩ := h
  exact ((hE.perm (perm_mem M Q R _ _ _)).cell 1 rfl).words
theorem BothE.rest (h : BothE w0 R J G f qc n s T T2 f2 N w) {x : Item} (hx : x ∈ R) : x.says w := by
  obtain ⟨M, Q, F, ml, h1, h2, h3, h4, hE⟩ := h
  exact hE.mem (by simp [hx])
theorem both_prog (hT : SmOk T) (hg : Glo w0) (hn : n < maxLen) (h : BothE w0 R J G f qc n 0 T T2 f2 N w) :
    Calls Tryz.prog 17 #[.pointer (some ⟨J.sb, 0, none⟩), .iface 33 (.pointer (some ⟨J.B.p, 0, none⟩))] w fun o w' => o = .returned (.int .i64 (searchM J.k J.key J.vs T f).1) ∧ ∃ G', BothE w0 R J G' (searchM J.k J.key J.vs T f).2.2 (qcM T f qc) (mM T n) (searchM J.k J.key J.vs T f).1 (searchM J.k J.key J.vs T f).2.1 T2 f2 N w' := by
  obtain ⟨M, Q, F, ml, h1, h2, h3, h4, hE⟩ := h
  refine (search_k hT hg hn (h1.1 _ _ _ _ _ _ (hE.perm (perm_prog M Q R _ _ _)))).mono ?_
  rintro o w1 ⟨rfl, G', hR⟩
  obtain ⟨M', hM', hE'⟩ := hR.out
  exact ⟨rfl, G', M', Q, F, ml, hM', h2, h3, h4, hE'.perm (perm_prog M' Q R _ _ _).symm⟩
theorem both_ref (hT : SmOk T2) (he : 0 ≤ T2.e ∧ T2.e ≤ 9223372036854775807) (hu : ∀ x, InU (f2 x)) (hN : N ≤ 1000000) (h : BothE w0 R J G f qc n s T T2 f2 N w) :
    Calls Tryz.prog 18 #[.pointer (some ⟨J.qb, 0, none⟩), .pointer (some ⟨J.u, 0, none⟩), .pointer (some ⟨J.m, 0, none⟩)] w fun o w' => o = .returned (.int .i64 (searchM J.k J.key J.vs T2 f2).1) ∧ BothE w0 R J G f qc n s T (searchM J.k J.key J.vs T2 f2).2.1 (searchM J.k J.key J.vs T2 f2).2.2 (N + 1) w' := by
  obtain ⟨M, Q, F, ml, h1, h2, h3, h4, hE⟩ := h
  subst h3
  refine (rsearch hT he hu hN (h2.1 _ _ _ _ _ h4 (hE.perm (perm_ref M Q R _ _ _)))).mono ?_
  rintro o w1 ⟨rfl, hR⟩
  obtain ⟨Q', F', ml', hQ', hf', hl', hE'⟩ := hR.out
  exact ⟨rfl, M, Q', F', ml', h1, hQ', hf', hl', hE'.perm (perm_ref M Q' R _ _ _).symm⟩
theorem both_count (h : BothE w0 R J G f qc n s T T2 f2 N w) : Calls Tryz.prog 15 #[.pointer (some ⟨J.B.p, 0, none⟩)] w fun e w' => e = .returned (.agg #[.int .i64 qc.l, .int .i64 qc.s, .int .i64 qc.w, .int .i64 qc.f, .int .i64 qc.a]) ∧ Below w.heap.size w w' := by
  obtain ⟨M, Q, F, ml, h1, h2, h3, h4, hE⟩ := h
  exact count_w 0 1 (hE.perm (perm_mem M Q R _ _ _)) rfl rfl
theorem both_rolls (h : BothE w0 R J G f qc n s T T2 f2 N w) : Calls Tryz.prog 19 #[.pointer (some ⟨J.B.c, 0, none⟩)] w fun o w' => o = .returned (.int .i64 T.r) ∧ w' = w := by
  obtain ⟨M, Q, F, ml, h1, h2, h3, h4, hE⟩ := h
  exact rolls_c (hE.mem (List.mem_append_left _ h1.2.1))
theorem both_epoch (h : BothE w0 R J G f qc n s T T2 f2 N w) : Calls Tryz.prog 20 #[.pointer (some ⟨J.B.c, 0, none⟩)] w fun o w' => o = .returned (.int .i64 T.e) ∧ w' = w := by
  obtain ⟨M, Q, F, ml, h1, h2, h3, h4, hE⟩ := h
  exact epoch_c (hE.mem (List.mem_append_left _ h1.2.1))
theorem both_ucell (h : BothE w0 R J G f qc n s T T2 f2 N w) : w.cell? ⟨J.u, 5, none⟩ = some (.int .i64 T2.e) ∧ w.cell? ⟨J.u, 9, none⟩ = some (.int .i64 T2.r) := by
  obtain ⟨M, Q, F, ml, h1, h2, h3, h4, hE⟩ := h
  have hb : Blk 0 w J.u (ruC T2.e T2.r) := hE.mem (List.mem_append_right _ (List.mem_append_left _ h2.2.1))
  exact ⟨hb.rule 5, hb.rule 9⟩
theorem both_disturb (kd x y z v : Int) (hx : Wf (x, y, z)) (hv : InU v) (hn : n < maxLen) (hN : N ≤ 900000) (h : BothE w0 R J G f qc n s T T2 f N w) :
    Calls Tryz.prog 16 #[.pointer (some ⟨J.B.p, 0, none⟩), .pointer (some ⟨J.m, 0, none⟩), .agg #[.int .i64 kd, .int .i64 x, .int .i64 y, .int .i64 z, .int .u64 v]] w fun o w' => o = .returned (.tuple #[]) ∧ ∃ G' f' n', n' ≤ n + 1 ∧ BothE w0 R J G' f' (dQ kd qc) n' s T T2 f' (N + 1) w' := by
  obtain ⟨M, Q, F, ml, h1, h2, rfl, h4, hE⟩ := h
  refine (disturb_t kd x y z v hx hv hn (by omega) (hE.perm (perm_mem M Q R _ _ _))).mono ?_
  rintro o w1 ⟨rfl, G', F', ml', n', hl', hn', hE'⟩
  exact ⟨rfl, G', getL ml', n', hn', M, Q, F', ml', h1, h2, rfl, by omega, hE'.perm (perm_mem M Q R _ _ _).symm⟩
theorem both_memory (hn : n ≤ 900000) (hN : N ≤ 900000) (h : BothE w0 R J G f qc n s T T2 f N w) :
    Calls Tryz.prog 27 #[.pointer (some ⟨J.B.p, 0, none⟩), .pointer (some ⟨J.m, 0, none⟩)] w fun o w' => o = .returned (.bool true) ∧ BothE w0 R J G f qc n s T T2 f N w' := by
  obtain ⟨M, Q, F, ml, h1, h2, rfl, h4, hE⟩ := h
  refine (memory15 (by omega) hn (hE.perm (perm_mem M Q R _ _ _))).mono ?_
  rintro o w1 ⟨rfl, hE'⟩
  exact ⟨rfl, M, Q, F, ml, h1, h2, rfl, h4, hE'.perm (perm_mem M Q R _ _ _).symm⟩
end
end Go.Proofs.YtchcdfoncebemaaGreatDoor

/- Both searches: boxes beside them; bounds; the end. -/
namespace Go.Proofs.YtchcdfoncebemaaGreatDoor
open Go.RowKit Go.Maps
set_option maxRecDepth 100000

section
variable {w0 w w' : World} {R R' : List Item} {J : Js} {G : Nat → Prop} {f f2 : Plc → Int} {qc : Cnt} {n N X : Nat} {s : Int} {T T2 : Sm} {vs : List Value}
theorem perm_rest (M Q R : List Item) (a b c : Item) : (M ++ (Q ++ (a :: b :: c :: R))).Perm (R ++ (M ++ (Q ++ [a, b, c]))) := perm_of fun z => by simp only [List.count_append, List.count_cons, List.count_nil]; omega
theorem BothE.perm (h : BothE w0 R J G f qc n s T T2 f2 N w) (hp : R.Perm R') : BothE w0 R' J G f qc n s T T2 f2 N w := by
  obtain ⟨M, Q, F, ml, h1, h2, h3, h4, hE⟩ := h
  exact ⟨M, Q, F, ml, h1, h2, h3, h4, hE.perm (((((hp.cons _).cons _).cons _).append_left Q).append_left M)⟩
theorem BothE.box (h : BothE w0 R J G f qc n s T T2 f2 N w) (X : Nat) (hX : w.heap.size = X) (vs : List Value) (t : TypeId) : BothE w0 (boxI X vs :: R) J G f qc n s T T2 f2 N (w.alloc (.cells vs.toArray t)) := by
  obtain ⟨M, Q, F, ml, h1, h2, h3, h4, hE⟩ := h
  refine ⟨M, Q, F, ml, h1, h2, h3, h4, (hE.box X hX vs t).perm (perm_of fun z => ?_)⟩
  simp only [List.count_append, List.count_cons]
  omega
theorem BothE.tail {x : Item} (h : BothE w0 (x :: R) J G f qc n s T T2 f2 N w) : BothE w0 R J G f qc n s T T2 f2 N w := by
  obtain ⟨M, Q, F, ml, h1, h2, h3, h4, hE⟩ := h
  refine ⟨M, Q, F, ml, h1, h2, h3, h4, hE.sub ?_⟩
  exact (((((List.sublist_cons_self x R).cons_cons _).cons_cons _).cons_cons _).append_left Q).append_left M
theorem BothE.put (h : BothE w0 (boxI X vs :: R) J G f qc n s T T2 f2 N w) {j : Nat} (hj : j < vs.length) (v : Value) : BothE w0 (boxI X (vs.set j v) :: R) J G f qc n s T T2 f2 N (w.setCell ⟨X, j, none⟩ v) := by
  obtain ⟨M, Q, F, ml, h1, h2, h3, h4, hE⟩ := h
  have h9 := (hE.perm (perm_rest M Q _ _ _ _)).put 0 rfl hj v
  exact ⟨M, Q, F, ml, h1, h2, h3, h4, h9.perm (perm_rest M Q (boxI X (vs.set j v) :: R) _ _ _).symm⟩
theorem BothE.blk (h : BothE w0 (boxI X vs :: R) J G f qc n s T T2 f2 N w) : Blk 0 w X vs := h.rest (List.mem_cons_self ..)
/-- At its end. -/
theorem BothE.done (hn : n ≤ 900000) (hN : N ≤ 900000) (h : BothE w0 R J G f qc n s T T2 f N w) (h1 : T.on = true) (h2 : T2.on = true) : ∃ (E : World → Prop) (a b : Nat) (nx : Value) (wd : Int), E w ∧ (∀ v v', E v → Below v.heap.size v v' → E v') ∧ (∀ v, E v → Calls Tryz.prog 27 #[.pointer (some ⟨J.B.p, 0, none⟩), .pointer (some ⟨J.m, 0, none⟩)] v fun o w' => o = .returned (.bool true) ∧ E w') ∧ ∀ v, E v → Below w0.heap.size w0 v ∧ Blk 0 v a (laneV J.B.c 0 J.key J.vs nx s wd (pfS s T.L) (pvS s T.L) T.L) ∧ Blk 0 v J.sb (srC J.B.c J.k J.key J.vs (.pointer (some ⟨a, 0, none⟩))) ∧ Blk 0 v b (rlV 0 J.key J.vs T2.L) ∧ Blk 0 v J.qb (rsC J.k J.key J.vs true (some ⟨b, 0, none⟩)) := by
  obtain ⟨M, Q, F, ml, hM, hQ, rfl, h4, hE⟩ := h
  obtain ⟨a, nx, wd, m1, m2⟩ := hM.2.2 h1
  obtain ⟨b, m3, m4⟩ := hQ.2.2 h2
  refine ⟨fun v => Env w0 (M ++ (Q ++ (wbox J.B.p J.B.cc :: cellI J.B.cc G (getL ml) qc n :: refI J.m F ml :: R))) v, a, b, nx, wd, hE, fun v v' h hb => h.over hb, fun v hv => ?_, fun v hv => ⟨hv.below, hv.mem (List.mem_append_left _ m1), hv.mem (List.mem_append_left _ m2), hv.mem (List.mem_append_right _ (List.mem_append_left _ m3)), hv.mem (List.mem_append_right _ (List.mem_append_left _ m4))⟩⟩
  refine (memory15 (by omega) hn (hv.perm (perm_mem M Q R _ _ _))).mono ?_
  rintro o w1 ⟨rfl, hE'⟩
  exact ⟨rfl, hE'.perm (perm_mem M Q R _ _ _).symm⟩
end
/-- Counts that are small. -/
def QB (q : Cnt) (K : Nat) : Prop := (0 ≤ q.l ∧ q.l ≤ K) ∧ (0 ≤ q.s ∧ q.s ≤ K) ∧ (0 ≤ q.w ∧ q.w ≤ K) ∧ (0 ≤ q.a ∧ q.a ≤ K)
theorem QB.d {q : Cnt} {K : Nat} (h : QB q K) (hK : K ≤ 1000000) (kd : Int) : QB (dQ kd q) (K + 1) := by
  obtain ⟨h1, h2, h3, h4⟩ := h
  unfold dQ
  split
  · refine ⟨?_, ?_, ?_, ?_⟩ <;> dsimp only <;> first | omega | (rw [w64 _ (by omega)]; omega)
  · refine ⟨?_, ?_, ?_, ?_⟩ <;> omega
/-- One access more, no store more. -/
theorem QB.step {q : Cnt} {K : Nat} (h : QB q K) (hK : K ≤ 1000000) (T : Sm) (f : Plc → Int) : QB (qcM T f q) (K + 1) ∧ (qcM T f q).l + (qcM T f q).w + (qcM T f q).s + (qcM T f q).a = q.l + q.w + q.s + q.a + 1 ∧ (qcM T f q).s = q.s := by
  obtain ⟨h1, h2, h3, h4⟩ := h
  have hl : wrap64 (q.l + 1) = q.l + 1 := w64 _ (by omega)
  have hw : wrap64 (q.w + 1) = q.w + 1 := w64 _ (by omega)
  unfold qcM laneQ swq
  by_cases c1 : T.on = true
  · by_cases c2 : T.L.pc = 5
    · rw [if_pos c1, if_pos c2]
      refine ⟨⟨?_, ?_, ?_, ?_⟩, ?_, ?_⟩ <;> dsimp only <;> omega
    · rw [if_pos c1, if_neg c2]
      refine ⟨⟨?_, ?_, ?_, ?_⟩, ?_, ?_⟩ <;> dsimp only <;> omega
  · rw [if_neg c1]
    refine ⟨⟨?_, ?_, ?_, ?_⟩, ?_, ?_⟩ <;> dsimp only <;> omega
def eR (T : Sm) : Prop := 0 ≤ T.e ∧ T.e ≤ 9223372036854775807
theorem search_e {k key : Int} {vs : Bool} {T : Sm} {f : Plc → Int} (h : eR T) (hu : ∀ x, InU (f x)) : eR (searchM k key vs T f).2.1 := by
  unfold searchM
  by_cases c : T.on = true
  · rw [if_pos c]; exact h
  · rw [if_neg c]; exact epI_in (hu _)
theorem search_one {k key : Int} {vs : Bool} {T : Sm} {f : Plc → Int} (h : (searchM k key vs T f).1 = 1) : (searchM k key vs T f).2.1.on = true := by
  unfold searchM at h ⊢
  by_cases c : T.on = true
  · rw [if_pos c] at h ⊢
    by_cases c2 : (laneM 0 key vs T.e T.L f).1 = 1
    · simp [c2]
    · simp [c2] at h
  · rw [if_neg c] at h
    simp at h
theorem search_state {k key : Int} {vs : Bool} {T : Sm} {f : Plc → Int} : (searchM k key vs T f).1 = 0 ∨ (searchM k key vs T f).1 = 1 := by
  unfold searchM
  by_cases c : T.on = true
  · rw [if_pos c]
    by_cases c2 : (laneM 0 key vs T.e T.L f).1 = 1
    · right; simp [c2]
    · left; simp [c2]
  · rw [if_neg c]; left; rfl
end Go.Proofs.YtchcdfoncebemaaGreatDoor

/- A lane of the program and one of the reference, of equal words, among other things. -/
namespace Go.Proofs.YtchcdfoncebemaaGreatDoor
open Go.RowKit Go.Maps
set_option maxRecDepth 100000

/-- The program's things but for the world's; the reference's but for its memory. -/
def PL (w0 : World) (B : Bs) (a : Nat) (lv key : Int) (vs : Bool) (e r s : Int) (L : Lm) (M : List Item) : Prop :=
  (∀ G f qc n R w, Env w0 (M ++ (wbox B.p B.cc :: cellI B.cc G f qc n :: R)) w → LaneR w0 R a lv key vs (mkS B G f qc n e r) s L w) ∧ ∃ nx wd, boxI a (laneV B.c lv key vs nx s wd (pfS s L) (pvS s L) L) ∈ M
def QL (w0 : World) (b u m : Nat) (lv key : Int) (vs : Bool) (e r : Int) (L : Lm) (Q : List Item) : Prop :=
  (∀ F ml N R w, ml.length ≤ N → Env w0 (Q ++ (refI m F ml :: R)) w → RLn w0 R b u m lv key vs L e r (getL ml) N w) ∧ boxI b (rlV lv key vs L) ∈ Q
def BothG (w0 : World) (R : List Item) (p cc m : Nat) (PC QC : List Item → Prop) (G : Nat → Prop) (f : Plc → Int) (qc : Cnt) (n : Nat) (f2 : Plc → Int) (N : Nat) (w : World) : Prop :=
  ∃ M Q F ml, PC M ∧ QC Q ∧ getL ml = f2 ∧ ml.length ≤ N ∧ Env w0 (M ++ (Q ++ (wbox p cc :: cellI cc G f qc n :: refI m F ml :: R))) w
section
variable {w0 w w' : World} {R : List Item} {p cc m n N : Nat} {PC QC : List Item → Prop} {G : Nat → Prop} {f f2 : Plc → Int} {qc : Cnt}
theorem BothG.over (h : BothG w0 R p cc m PC QC G f qc n f2 N w) (hb : Below w.heap.size w w') : BothG w0 R p cc m PC QC G f qc n f2 N w' := by
  obtain ⟨M, Q, F, ml, h1, h2, h3, h4, hE⟩ := h
  exact ⟨M, Q, F, ml, h1, h2, h3, h4, hE.over hb⟩
theorem BothG.below (h : BothG w0 R p cc m PC QC G f qc n f2 N w) : Below w0.heap.size w0 w := by
  obtain ⟨M, Q, F, ml, h1, h2, h3, h4, hE⟩ := h
  exact hE.below
theorem BothG.words (h : BothG w0 R p cc m PC QC G f qc n f2 N w) : Words f := by
  obtain ⟨M, Q, F, ml, h1, h2, h3, h4, hE⟩ := h
  exact ((hE.perm (perm_mem M Q R _ _ _)).cell 1 rfl).words
theorem g_disturb (kd x y z v : Int) (hx : Wf (x, y, z)) (hv : InU v) (hn : n < maxLen) (hN : N ≤ 900000) (h : BothG w0 R p cc m PC QC G f qc n f N w) :
    Calls Tryz.prog 16 #[.pointer (some ⟨p, 0, none⟩), .pointer (some ⟨m, 0, none⟩), .agg #[.int .i64 kd, .int .i64 x, .int .i64 y, .int .i64 z, .int .u64 v]] w fun o w' => o = .returned (.tuple #[]) ∧ ∃ G' f' n', n' ≤ n + 1 ∧ BothG w0 R p cc m PC QC G' f' (dQ kd qc) n' f' (N + 1) w' := by
  obtain ⟨M, Q, F, ml, h1, h2, rfl, h4, hE⟩ := h
  refine (disturb_t kd x y z v hx hv hn (by omega) (hE.perm (perm_mem M Q R _ _ _))).mono ?_
  rintro o w1 ⟨rfl, G', F', ml', n', hl', hn', hE'⟩
  exact ⟨rfl, G', getL ml', n', hn', M, Q, F', ml', h1, h2, rfl, by omega, hE'.perm (perm_mem M Q R _ _ _).symm⟩
theorem g_memory (hn : n ≤ 900000) (hN : N ≤ 900000) (h : BothG w0 R p cc m PC QC G f qc n f N w) :
    Calls Tryz.prog 27 #[.pointer (some ⟨p, 0, none⟩), .pointer (some ⟨m, 0, none⟩)] w fun o w' => o = .returned (.bool true) ∧ BothG w0 R p cc m PC QC G f qc n f N w' := by
  obtain ⟨M, Q, F, ml, h1, h2, rfl, h4, hE⟩ := h
  refine (memory15 (by omega) hn (hE.perm (perm_mem M Q R _ _ _))).mono ?_
  rintro o w1 ⟨rfl, hE'⟩
  exact ⟨rfl, M, Q, F, ml, h1, h2, rfl, h4, hE'.perm (perm_mem M Q R _ _ _).symm⟩
end
section
variable {w0 w : World} {R : List Item} {B : Bs} {a b u m n N : Nat} {lv key e r : Int} {vs : Bool} {G : Nat → Prop} {f f2 : Plc → Int} {qc : Cnt} {L L2 : Lm} {PC QC : List Item → Prop} {r2 s : Int}
theorem g_prog (hL : LmOk L) (hlv : 0 ≤ lv ∧ lv ≤ 1000000) (hwf : Wf L.p) (hg : Glo w0) (hn : n < maxLen) (h : BothG w0 R B.p B.cc m (PL w0 B a lv key vs e r 0 L) QC G f qc n f2 N w) :
    Calls Tryz.prog 32 #[.pointer (some ⟨a, 0, none⟩), .iface 33 (.pointer (some ⟨B.p, 0, none⟩))] w fun o w' => o = .returned (.int .i64 (laneM lv key vs e L f).1) ∧ ∃ G' n', n' ≤ n + 1 ∧ BothG w0 R B.p B.cc m (PL w0 B a lv key vs e (rollM e L f r) (laneM lv key vs e L f).1 (laneM lv key vs e L f).2.1) QC G' (laneM lv key vs e L f).2.2 (laneQ L f qc) n' f2 N w' := by
  obtain ⟨M, Q, F, ml, h1, h2, h3, h4, hE⟩ := h
  refine (lane_l (S := mkS B G f qc n e r) hL hlv hwf hg hn (h1.1 _ _ _ _ _ _ (hE.perm (perm_prog M Q R _ _ _)))).mono ?_
  rintro o w1 ⟨rfl, G', nx, wd, B1, B2, hnx, hE'⟩
  refine ⟨rfl, G', (if L.pc = 5 then n + 1 else n), by split <;> omega, [boxI a (laneV B.c lv key vs nx _ wd (pfS _ _) (pvS _ _) _), B1, B2, coreI B.c 2 1000 3 1 1073741824 e (rollM e L f r) 0 0 B.q, queueI B.q B.F [] B.kq], Q, F, ml, ⟨fun G f qc n R w h => ⟨nx, wd, B1, B2, hnx, h⟩, nx, wd, by simp⟩, h2, h3, h4, ?_⟩
  have hE2 : Env w0 ([boxI a (laneV B.c lv key vs nx (laneM lv key vs e L f).1 wd (pfS (laneM lv key vs e L f).1 (laneM lv key vs e L f).2.1) (pvS (laneM lv key vs e L f).1 (laneM lv key vs e L f).2.1) (laneM lv key vs e L f).2.1), B1, B2, coreI B.c 2 1000 3 1 1073741824 e (rollM e L f r) 0 0 B.q, queueI B.q B.F [] B.kq] ++ (wbox B.p B.cc :: cellI B.cc G' (laneM lv key vs e L f).2.2 (laneQ L f qc) (if L.pc = 5 then n + 1 else n) :: (Q ++ (refI m F ml :: R)))) w1 := hE'
  exact hE2.perm (perm_prog _ Q R _ _ _).symm
theorem g_ref (hL : LmOk L) (hlv : 0 ≤ lv ∧ lv ≤ 1000000) (he : 0 ≤ e ∧ e ≤ 9223372036854775807) (hu : ∀ x, InU (f2 x)) (hN : N ≤ 1000000) (h : BothG w0 R B.p B.cc m PC (QL w0 b u m lv key vs e r2 L) G f qc n f2 N w) :
    Calls Tryz.prog 33 #[.pointer (some ⟨b, 0, none⟩), .pointer (some ⟨u, 0, none⟩), .pointer (some ⟨m, 0, none⟩)] w fun o w' => o = .returned (.int .i64 (laneM lv key vs e L f2).1) ∧ BothG w0 R B.p B.cc m PC (QL w0 b u m lv key vs e (rollM e L f2 r2) (laneM lv key vs e L f2).2.1) G f qc n (laneM lv key vs e L f2).2.2 (N + 1) w' := by
  obtain ⟨M, Q, F, ml, h1, h2, h3, h4, hE⟩ := h
  subst h3
  refine (rlane hL hlv he hu hN (h2.1 _ _ _ _ _ h4 (hE.perm (perm_ref M Q R _ _ _)))).mono ?_
  rintro o w1 ⟨rfl, F', ml', hf', hl', hE'⟩
  refine ⟨rfl, M, [boxI b (rlV lv key vs (laneM lv key vs e L (getL ml)).2.1), boxI u (ruC e (rollM e L (getL ml) r2))], F', ml', h1, ⟨fun F ml N R w hl h => ⟨F, ml, rfl, hl, h⟩, by simp⟩, hf', hl', ?_⟩
  have hE2 : Env w0 ([boxI b (rlV lv key vs (laneM lv key vs e L (getL ml)).2.1), boxI u (ruC e (rollM e L (getL ml) r2))] ++ (refI m F' ml' :: (M ++ (wbox B.p B.cc :: cellI B.cc G f qc n :: R)))) w1 := hE'
  exact hE2.perm (perm_ref M _ R _ _ _).symm
/-- At its end. -/
theorem g_done (hn : n ≤ 900000) (hN : N ≤ 900000) (h : BothG w0 R B.p B.cc m (PL w0 B a lv key vs e r s L) (QL w0 b u m lv key vs e r2 L2) G f qc n f N w) : ∃ (E : World → Prop) (nx : Value) (wd : Int), E w ∧ (∀ v v', E v → Below v.heap.size v v' → E v') ∧ (∀ v, E v → Calls Tryz.prog 27 #[.pointer (some ⟨B.p, 0, none⟩), .pointer (some ⟨m, 0, none⟩)] v fun o w' => o = .returned (.bool true) ∧ E w') ∧ ∀ v, E v → Below w0.heap.size w0 v ∧ Blk 0 v a (laneV B.c lv key vs nx s wd (pfS s L) (pvS s L) L) ∧ Blk 0 v b (rlV lv key vs L2) := by
  obtain ⟨M, Q, F, ml, hM, hQ, rfl, h4, hE⟩ := h
  obtain ⟨nx, wd, m1⟩ := hM.2
  refine ⟨fun v => Env w0 (M ++ (Q ++ (wbox B.p B.cc :: cellI B.cc G (getL ml) qc n :: refI m F ml :: R))) v, nx, wd, hE, fun v v' h hb => h.over hb, fun v hv => ?_, fun v hv => ⟨hv.below, hv.mem (List.mem_append_left _ m1), hv.mem (List.mem_append_right _ (List.mem_append_left _ hQ.2))⟩⟩
  refine (memory15 (by omega) hn (hv.perm (perm_mem M Q R _ _ _))).mono ?_
  rintro o w1 ⟨rfl, hE'⟩
  exact ⟨rfl, hE'.perm (perm_mem M Q R _ _ _).symm⟩
end
end Go.Proofs.YtchcdfoncebemaaGreatDoor

/- Rows of the call's own, of structs of k cells each: appended to, read. General. -/
namespace Go.Proofs.YtchcdfoncebemaaGreatDoor
open Go.RowKit Go.Maps
set_option maxRecDepth 100000

section
variable {α : Type} {enc : α → List Value} {k : Nat}
def flatK (enc : α → List Value) (l : List α) : List Value := l.flatMap enc
theorem flatK_length (hk : ∀ x, (enc x).length = k) (l : List α) : (flatK enc l).length = l.length * k := by
  induction l with
  | nil => simp [flatK]
  | cons x l ih =>
    have e : flatK enc (x :: l) = enc x ++ flatK enc l := by simp [flatK]
    rw [e, List.length_append, ih, hk, List.length_cons, Nat.add_mul]
    omega
theorem flatK_append (a b : List α) : flatK enc (a ++ b) = flatK enc a ++ flatK enc b := by simp [flatK]
theorem flatK_get [Inhabited α] (hk : ∀ x, (enc x).length = k) : ∀ (l : List α) (j c : Nat), j < l.length → c < k → (flatK enc l)[j * k + c]? = (enc (l.getD j default))[c]? := by
  intro l
  induction l with
  | nil => intro j c h; simp at h
  | cons x l ih =>
    intro j c hj hc
    have e : flatK enc (x :: l) = enc x ++ flatK enc l := by simp [flatK]
    cases j with
    | zero => rw [e, List.getElem?_append_left (by rw [hk]; omega)]; simp
    | succ j =>
      have e3 : (j + 1) * k = j * k + k := by rw [Nat.add_mul, Nat.one_mul]
      rw [e, List.getElem?_append_right (by rw [hk]; omega)]
      have := ih j c (by simpa using hj) hc
      have e2 : (j + 1) * k + c - (enc x).length = j * k + c := by rw [hk]; omega
      rw [e2, this]
      simp
theorem RowX.news [Inhabited α] (hk : ∀ x, (enc x).length = k) (hk0 : 0 < k) {w : World} {ad : Addr} {xs : List α} (h : RowX enc k w (some ad) xs) : ∀ j u, (flatK enc xs)[j]? = some u → w.cell? (ad.add j) = some u := by
  intro j u hu
  rcases h with rfl | ⟨b, off, he, hl, hc⟩
  · simp [flatK] at hu
  · cases he
    have hj : j < xs.length * k := by rw [← flatK_length hk]; exact (List.getElem?_eq_some_iff.1 hu).1
    have e : (⟨b, off, none⟩ : Addr).add j = ⟨b, off + j, none⟩ := by unfold Addr.add; split <;> simp_all
    have e2 : j / k * k + j % k = j := by rw [Nat.mul_comm]; exact Nat.div_add_mod j k
    have hlt : j / k < xs.length := (Nat.div_lt_iff_lt_mul hk0).2 hj
    have h1 := hc (j / k) hlt (j % k) u (by rw [← flatK_get hk xs (j / k) (j % k) hlt (Nat.mod_lt _ hk0), e2, hu])
    rw [e]
    rwa [Nat.add_assoc, e2] at h1
theorem Blk.rowK [Inhabited α] (hk : ∀ x, (enc x).length = k) {w : World} {g : Nat} {l : List α} (h : Blk 0 w g (flatK enc l)) : RowX enc k w (some ⟨g, 0, none⟩) l := by
  refine .inr ⟨g, 0, rfl, h.1, fun i hi j v e => ?_⟩
  have hj : j < k := by have := (List.getElem?_eq_some_iff.1 e).1; rw [hk] at this; exact this
  rw [Nat.zero_add, h.rule, flatK_get hk l i j hi hj]
  exact e
theorem owns_rowK [Inhabited α] (hk : ∀ x, (enc x).length = k) {w : World} {b : Nat} {e : TypeId} {A : Option Addr} {cap : Nat} {l : List α} (h : w.ownsRow b e k (.slice A l.length cap) l.length (flatK enc l)) : RowX enc k w A l := by
  rcases h.2 with ⟨_, h0⟩ | ⟨g, cap', cur, hv, _, hg, hn, hc, hcs, htk⟩
  · exact .inl (List.eq_nil_of_length_eq_zero h0)
  · simp only [Value.slice.injEq] at hv
    obtain ⟨rfl, -, rfl⟩ := hv
    refine .inr ⟨g, 0, rfl, (Array.getElem?_eq_some_iff.1 hg).1, fun i hi j v e => ?_⟩
    have hj : j < k := by have := (List.getElem?_eq_some_iff.1 e).1; rw [hk] at this; exact this
    have h1 := flatK_get hk l i j hi hj
    have hlt : i * k + j < l.length * k := by
      have : (i + 1) * k ≤ l.length * k := Nat.mul_le_mul_right k hi
      rw [Nat.add_mul] at this
      omega
    rw [e, ← htk, List.getElem?_take_of_lt hlt] at h1
    rw [Nat.zero_add]
    simp only [World.cell?, hg]
    simpa using h1
/-- A row of its own, appended to. -/
def rowKI (enc : α → List Value) (k : Nat) (v : Value) (e : TypeId) (l : List α) : Item := rowI v e k l.length (flatK enc l)
variable {w0 w w' : World} {L : List Item}
theorem Env.rowK (h : Env w0 L w) (i : Nat) {v : Value} {e : TypeId} {l : List α} (hi : L[i]? = some (rowKI enc k v e l)) : w.ownsRow 0 e k v l.length (flatK enc l) := h.get i hi
theorem Env.cellsK [Inhabited α] (hk : ∀ x, (enc x).length = k) (h : Env w0 L w) (i : Nat) {A : Option Addr} {n cap : Nat} {e : TypeId} {l : List α} (hn : n = l.length) (hi : L[i]? = some (rowKI enc k (.slice A n cap) e l)) : RowX enc k w A l := by subst hn; exact owns_rowK hk (h.rowK i hi)
theorem Env.addEmptyK (h : Env w0 L w) (n : Nat) (hn : w.heap.size = n) (e : TypeId) : Env w0 (rowKI enc k (.slice (some ⟨n, 0, none⟩) 0 0) e [] :: L) (w.alloc (.cells #[] e)) := by
  subst hn
  have ho : (w.alloc (.cells #[] e)).ownsRow w.heap.size e k (.slice (some ⟨w.heap.size, 0, none⟩) 0 0) 0 (flatK enc []) := ⟨by simp [flatK], .inr ⟨w.heap.size, 0, #[], rfl, Nat.le_refl _, heap_alloc_new w _, Nat.le_refl _, by simp, by simp, by simp [flatK]⟩⟩
  exact h.add (rowKI enc k (.slice (some ⟨w.heap.size, 0, none⟩) 0 0) e []) ((Below.refl _ _).alloc (Nat.le_refl _) _) (ownsRow_base ho (Nat.zero_le _)) fun k hk => ho.lt k hk
/-- A row appended to a row of its own. -/
theorem Env.appendK [Inhabited α] (hk : ∀ x, (enc x).length = k) (hk0 : 0 < k) (hone : ∀ x, ∀ u ∈ enc x, u.oneCell' = true) {P : Program} (h : Env w0 L w) (i : Nat) {v : Value} {e : TypeId} {l xs : List α} (hi : L[i]? = some (rowKI enc k v e l)) (t ty : TypeId) (ht : P.underlying t = some (.slice e))
    {zz : Value} {bytes : Nat} (hzz0 : zz.cells.size = k) (hinfo : (P.info? e).map (fun i => (i.zero, i.size, i.bytes)) = some (some zz, k, bytes))
    {A : Option Addr} (c : Nat) (hx : RowX enc k w A xs) (hA : A = none → xs = []) (hz : l.length + xs.length ≤ maxLen) (hby : (l.length + xs.length) * bytes ≤ 140737488355328) :
    ∃ A' c' w', (Builtin.append_ #[t, t] ty #[v, .slice A xs.length c]).run P w = .ok (.slice A' (l.length + xs.length) c') w' ∧ Env w0 (L.set i (rowKI enc k (.slice A' (l.length + xs.length) c') e (l ++ xs))) w' := by
  obtain ⟨i0, hi0, hzz⟩ := Option.map_eq_some_iff.1 hinfo
  simp only [Prod.mk.injEq] at hzz
  obtain ⟨hz0, hs, hb⟩ := hzz
  have hown := h.rowK i hi
  obtain ⟨v', w', hrun, ho, hg, hv⟩ := run_append_rows (P := P) t ty 0 e i0 zz k bytes ht hi0 hz0 hs hb hzz0 hk0 w v l.length (flatK enc l) hown A xs.length c (flatK enc xs) (flatK_length hk xs)
    (by
      cases A with
      | none =>
        left
        have := hA rfl
        subst this
        exact ⟨rfl, rfl⟩
      | some ad => exact .inr ⟨ad, rfl, RowX.news hk hk0 hx⟩) (fun u hu => by
        obtain ⟨x, _, hx2⟩ := List.mem_flatMap.1 hu
        exact hone x u hx2) hz hby (Nat.zero_le _)
  obtain ⟨A', c', rfl⟩ := ownsRow_slice ho
  have hst : Step (fun k => v.ownBlock = some k) (fun k => (Value.slice A' (l.length + xs.length) c').ownBlock = some k) w w' := ⟨(Turn.refl _ w).grown hg fun k _ e => e, fun k hk => by
    rcases hv with e | e
    · exact .inl (by rw [← e]; exact hk)
    · right
      rw [e] at hk
      cases hk
      exact Nat.le_refl _⟩
  refine ⟨A', c', w', hrun, h.step i (rowKI enc k _ e (l ++ xs)) hi hst ?_ ?_⟩
  · show w'.ownsRow 0 e k _ (l ++ xs).length (flatK enc (l ++ xs))
    rw [List.length_append, flatK_append]
    exact ho
  · exact ownsRow_lt ho
end
end Go.Proofs.YtchcdfoncebemaaGreatDoor

/- The structure of the statements' lists; a program's memory with the words of the reference's. -/
namespace Go.Proofs.YtchcdfoncebemaaGreatDoor
open Go.RowKit Go.Maps
set_option maxRecDepth 100000

theorem conf15 (w : World) : Calls Tryz.prog 12 #[] w fun o w' => o = .returned (.agg #[.int .i64 2, .int .i64 1000, .int .i64 3, .int .i64 1, .int .i64 1073741824]) ∧ Below w.heap.size w w' := by
  go_enter Tryz.func12, Tryz.ntmps12
  go_wp2
  exact bodyPost_ret (v := .agg #[.int .i64 2, .int .i64 1000, .int .i64 3, .int .i64 1, .int .i64 1073741824]) (by simp [results, Tryz.results12, go_sem]) rfl ⟨rfl, (Below.refl _ _).alloc (Nat.le_refl _) _⟩

/-- A row of places, as a thing. -/
theorem Env.addPl {w0 w w' : World} {L : List Item} {v : Value} {l : List Plc} (h : Env w0 L w) (ho : w'.ownsRow w.heap.size 58 3 v l.length (flatP l)) (hb : Below w.heap.size w w') : Env w0 (rowKI encP 3 v 58 l :: L) w' :=
  h.add (rowKI encP 3 v 58 l) hb (ownsRow_base ho (Nat.zero_le _)) fun k hk => ho.lt k hk
theorem encP_len (x : Plc) : (encP x).length = 3 := rfl
/-- What is laid so far. -/
def laidF (f : Plc → Int) (l : List Plc) : Plc → Int := fun x => if x ∈ l then f x else 0
theorem laidF_nil (f : Plc → Int) : laidF f [] = fun _ => 0 := by funext x; simp [laidF]
theorem laidF_step {f : Plc → Int} {l : List Plc} {j : Nat} (hj : j < l.length) {x : Plc} (hx : l.getD j z3 = x) : laidF f (l.take (j + 1)) = upd (laidF f (l.take j)) x (f x) := by
  have e : l.take (j + 1) = l.take j ++ [x] := by
    rw [List.take_succ_eq_append_getElem hj, ← hx]
    simp [hj]
  funext y
  rw [e]
  unfold laidF upd
  by_cases hy : y = x
  · subst hy; simp
  · simp [hy]
theorem laidF_all {f : Plc → Int} {l : List Plc} (h : PlacesOf f l) : laidF f l = f := by
  funext y
  unfold laidF
  by_cases hy : y ∈ l
  · rw [if_pos hy]
  · rw [if_neg hy]
    exact (Classical.byContradiction fun h0 => hy ((h.2 y).2 (fun e => h0 e.symm)))

section
variable {w0 w : World} {R : List Item} {m : Nat} {FU : Nat → Prop} {ml : List OneR}
set_option maxHeartbeats 6400000 in
theorem laid_t (hml : ml.length ≤ 10000) (hW : Words (getL ml)) (hE : Env w0 (refI m FU ml :: R) w) :
    Calls Tryz.prog 10 #[.pointer (some ⟨m, 0, none⟩)] w fun o w' => ∃ (p cc n : Nat) (G : Nat → Prop), o = .returned (.pointer (some ⟨p, 0, none⟩)) ∧ n ≤ ml.length ∧ Env w0 (wbox p cc :: cellI cc G (getL ml) ⟨0, (n : Int), 0, 0, 0⟩ n :: refI m FU ml :: R) w' := by
  have HW := Lib.hid hW
  have HML := Lib.hid hml
  clear hW hml
  go_enter Tryz.func10, Tryz.ntmps10
  go_wp2_with fail
  refine (new_w hE).mono ?_
  rintro o w1 ⟨p, cc, rfl, hE1, -⟩
  clear hE
  go_wp2_with fail
  refine (refPlaces_any (by have := HML.out; omega) (hE1.ref 2 rfl).nodup (hE1.ref 2 rfl)).mono ?_
  rintro o w2 ⟨pl, v2, rfl, hpl, hpn, ho, hb⟩
  obtain ⟨A, cap, rfl⟩ := ownsRow_slice ho
  have hE2 := hE1.addPl ho hb
  have HPL := Lib.hid hpl
  have hpl1 : pl.length ≤ 10000 := by have := HML.out; omega
  have HPN := Lib.hid hpn
  clear hb ho hE1 hpl hpn
  rw [← laidF_nil (getL ml)] at hE2
  go_wp2_with fail
  go_loopw [5] (fun iv wr => ∃ (j : Nat) (G : Nat → Prop), j ≤ pl.length ∧ iv = .int .i64 j ∧ Env w0 (rowKI encP 3 (.slice A pl.length cap) 58 pl :: wbox p cc :: cellI cc G (laidF (getL ml) (pl.take j)) ⟨0, (j : Int), 0, 0, 0⟩ j :: refI m FU ml :: R) wr) (fun iv _ => pl.length - (intOf iv).toNat)
  case atStart => exact ⟨0, _, Nat.zero_le _, rfl, hE2⟩
  case round =>
    clear hE2
    obtain ⟨j, G, hj, rfl, hE⟩ := hrel
    by_cases hlt : j < pl.length
    · have hb1 : decide ((j : Int) < (pl.length : Int)) = true := by simp; omega
      have hlt1 : (j : Int) < (pl.length : Int) := by omega
      obtain ⟨⟨x, y, z⟩, hx⟩ : ∃ x, pl.getD j z3 = x := ⟨_, rfl⟩
      obtain ⟨g, off, rfl⟩ : ∃ g off, A = some ⟨g, off, none⟩ := by
        rcases hE.cellsK encP_len 0 rfl rfl with h0 | ⟨g, off, h, -⟩
        · rw [h0] at hlt; simp at hlt
        · exact ⟨g, off, h⟩
      have HC : Hid (∀ G f q n v, Env w0 (rowKI encP 3 (.slice (some ⟨g, off, none⟩) pl.length cap) 58 pl :: wbox p cc :: cellI cc G f q n :: refI m FU ml :: R) v → v.cell? ⟨g, off + j * 3, none⟩ = some (.int .i64 x) ∧ v.cell? ⟨g, off + j * 3 + 1, none⟩ = some (.int .i64 y) ∧ v.cell? ⟨g, off + j * 3 + 2, none⟩ = some (.int .i64 z)) := Lib.hid fun G f q n v hv => by
        rcases hv.cellsK encP_len 0 rfl rfl with h0 | ⟨g', off', h, -, hc⟩
        · rw [h0] at hlt; simp at hlt
        · cases h
          have h9 := hc j hlt
          rw [show pl.getD j default = (x, y, z) from hx] at h9
          exact ⟨h9 0 _ rfl, h9 1 _ rfl, h9 2 _ rfl⟩
      obtain ⟨u, hu⟩ : ∃ u, getL ml (x, y, z) = u := ⟨_, rfl⟩
      have HGT : Hid (∀ G f q n v, Env w0 (rowKI encP 3 (.slice (some ⟨g, off, none⟩) pl.length cap) 58 pl :: wbox p cc :: cellI cc G f q n :: refI m FU ml :: R) v → Calls Tryz.prog 50 #[.pointer (some ⟨m, 0, none⟩), .agg #[.int .i64 x, .int .i64 y, .int .i64 z]] v fun e v' => e = .returned (.int .u64 u) ∧ Below v.heap.size v v') := Lib.hid fun G f q n v hv => by
        rw [← hu]
        exact refGet_any x y z (by have := HML.out; omega) (hv.ref 3 rfl)
      have hmem : (x, y, z) ∈ pl := by
        rw [← hx, List.getD_eq_getElem?_getD, List.getElem?_eq_getElem hlt]
        exact List.getElem_mem hlt
      have hwf : Wf (x, y, z) := Classical.byContradiction fun h => ((HPL.out.2 _).1 hmem) (HW.out.out _ h)
      have hui : InU u := by rw [← hu]; exact HW.out.u _
      have hstep : laidF (getL ml) (pl.take (j + 1)) = upd (laidF (getL ml) (pl.take j)) (x, y, z) u := by rw [laidF_step hlt hx, hu]
      have hwj : wrap64 ((j : Int) + 1) = (j : Int) + 1 := w64 _ (by omega)
      have HWF := Lib.hid hwf
      have HUI := Lib.hid hui
      have HSTEP := Lib.hid hstep
      have HWJ := Lib.hid hwj
      clear hmem hwf hui hstep hwj hu hx
      obtain ⟨c0, c1, c2⟩ := HC.out _ _ _ _ _ hE
      go_wp2_with fail
      clear c0 c1 c2
      refine Ord.wp_chain [13] (fun v => ∃ G f q n, Env w0 (rowKI encP 3 (.slice (some ⟨g, off, none⟩) pl.length cap) 58 pl :: wbox p cc :: cellI cc G f q n :: refI m FU ml :: R) v) (fun k w' => ∃ G, Env w0 (rowKI encP 3 (.slice (some ⟨g, off, none⟩) pl.length cap) 58 pl :: wbox p cc :: (if k = 0 then cellI cc G (laidF (getL ml) (pl.take j)) ⟨0, (j : Int), 0, 0, 0⟩ j else cellI cc G (upd (laidF (getL ml) (pl.take j)) (x, y, z) u) ⟨0, wrap64 ((j : Int) + 1), 0, 0, 0⟩ (j + 1)) :: refI m FU ml :: R) w') (by kernel_rfl) (by kernel_rfl) (by kernel_rfl) ⟨_, _, _, _, hE.drew⟩ ⟨_, hE.drew⟩ (fun hT => ?_)
      have hT9 := Lib.hid hT
      clear hT
      repeat (first
        | (refine Ord.ch_value (v := ?_) hT9.out (by decide) (by rfl) ?_ ?_; rotate_left; (focus (intro w5 hS; obtain ⟨G8, f8, q8, n8, hS8⟩ := hS; obtain ⟨c0, c1, c2⟩ := HC.out _ _ _ _ _ hS8; go_simp <;> with_reducible rfl)); (try simp only [Act.put, List.setIfInBounds_toArray, List.set_cons_zero, List.set_cons_succ]))
        | (refine Ord.ch_off hT9.out (by decide) (by rfl) ?_; (try simp only [Act.put, List.setIfInBounds_toArray, List.set_cons_zero, List.set_cons_succ]))
        | (refine Ord.ch_call (v := ?_) (f := ?_) (args := ?_) hT9.out (by decide) (by rfl) ?_ ?_ ?_; rotate_left 3; (focus (intro w5 hS; obtain ⟨G8, f8, q8, n8, hS8⟩ := hS; obtain ⟨c0, c1, c2⟩ := HC.out _ _ _ _ _ hS8; go_simp; constructor <;> with_reducible rfl)); (focus (intro w5 hS; (first | (obtain ⟨G8, f8, q8, n8, hS8⟩ := hS; with_reducible refine (HGT.out _ _ _ _ _ hS8).mono ?_; rintro o w6 ⟨rfl, hb6⟩; constructor; with_reducible rfl; exact ⟨⟨G8, f8, q8, n8, hS8.over hb6⟩, fun k h => h.elim fun G h => ⟨G, h.over hb6⟩⟩)))); (try simp only [Act.put, List.setIfInBounds_toArray, List.set_cons_zero, List.set_cons_succ])))
      refine Ord.ch_turn (v := .tuple #[]) 0 hT9.out rfl (by decide) (Or.inl rfl) (by rfl) ?_ ?_
      · rintro w5 hC5 ⟨G5, hA5⟩
        simp only [if_true] at hA5
        go_simp
        simp only [Ord.LandsIn]
        refine (store_w x y z 0 u 0 false HWF.out HUI.out (by unfold maxLen; omega) 1 2 (by decide) hA5 rfl rfl).mono ?_
        rintro e w6 ⟨rfl, G6, hE6⟩
        exact ⟨rfl, ⟨_, _, _, _, hE6⟩, G6, hE6⟩
      (try simp only [Act.put, List.setIfInBounds_toArray, List.set_cons_zero, List.set_cons_succ])
      refine Ord.InText.nil fun w5 hS => ?_
      clear hT9
      obtain ⟨hC9, hA9⟩ := Ord.chain_end hS
      clear hS
      obtain ⟨G9, hA9⟩ := hA9
      simp only [List.length_cons, List.length_nil, Nat.zero_add, Nat.one_ne_zero, if_false] at hA9
      rw [← HSTEP.out, HWJ.out] at hA9
      clear hC9 hE
      go_wp2_with fail
      exact ⟨⟨j + 1, G9, by omega, by simp, by simpa using hA9⟩, by simp [intOf]; omega⟩
    · have hb1 : decide ((j : Int) < (pl.length : Int)) = false := by simp; omega
      have hjl : j = pl.length := by omega
      have HJL := Lib.hid hjl
      clear hjl
      go_wp2_with fail
      go_ret
      refine ⟨p, cc, j, G, rfl, by have := HPN.out; omega, ?_⟩
      have h9 : laidF (getL ml) (pl.take j) = getL ml := by rw [HJL.out, List.take_length]; exact laidF_all HPL.out
      rw [h9] at hE
      exact hE.sub (.cons _ (List.Sublist.refl _))
end
end Go.Proofs.YtchcdfoncebemaaGreatDoor

/- Searches: the program is awake. -/
namespace Go.Proofs.YtchcdfoncebemaaGreatDoor
open Go.RowKit Go.Maps
set_option maxRecDepth 100000

/-- The list that awake lays. -/
def ns15 : List Nd := [⟨2, 3, 30, false⟩, ⟨1, 4, 0, true⟩, ⟨3, 7, 70, false⟩]
def ml15 : List OneR := layL 0 5 ns15 (4, 0, 0) false (setL [] (1, 0, 0) 5)
/-- So many steps of a search alone. -/
def runS (k key : Int) (vs : Bool) (f : Plc → Int) : Nat → Int × Sm × (Plc → Int)
  | 0 => (0, T0s, f)
  | n + 1 => searchM k key vs (runS k key vs f n).2.1 (runS k key vs f n).2.2
theorem ok15 : ∀ n ∈ ns15, NdOk n := by
  intro n hn
  simp only [ns15, List.mem_cons, List.not_mem_nil, or_false] at hn
  rcases hn with rfl | rfl | rfl <;> simp [NdOk, InU]
theorem words15 : Words (getL ml15) := words_lay (by omega) ns15 _ _ _ ok15 (by unfold Wf In64; simp) ((show Words (getL []) from Words.zero).setL (by unfold Wf In64; simp) (by simp [InU]))
theorem busy15 : ∀ n, n < 16 → (runS 0 7 true (getL ml15) n).1 = 0 := by decide +kernel
theorem done15 : (runS 0 7 true (getL ml15) 16).1 = 1 := by decide +kernel
theorem fin15 : (runS 0 7 true (getL ml15) 16).2.1.L.fd = true ∧ (runS 0 7 true (getL ml15) 16).2.1.L.C = 3 ∧ (runS 0 7 true (getL ml15) 16).2.1.L.V = 70 ∧ (runS 0 7 true (getL ml15) 16).2.1.L.p = (5, 2, 7) := by decide +kernel
theorem runS_ok {k key : Int} {vs : Bool} {f : Plc → Int} {N : Nat} (hk : In64 k) (hw : ∀ n, n ≤ N → ∀ x, InU ((runS k key vs f n).2.2 x)) (h0 : ∀ n, n < N → (runS k key vs f n).1 = 0) : ∀ n, n < N → SmOk (runS k key vs f n).2.1
  | 0, _ => T0s_ok
  | n + 1, hn => search_ok hk (runS_ok hk hw h0 n (by omega)) (hw n (by omega)) (h0 (n + 1) hn)

theorem at_place (v : World) (x y z d : Int) : (Instr.field 72 (.agg #[.int .i64 x, .int .i64 y, .int .i64 z, .int .i64 d]) 0).run Tryz.prog v = .ok (.agg #[.int .i64 x, .int .i64 y, .int .i64 z]) v := by kernel_rfl
set_option maxHeartbeats 6400000 in
theorem awake15 (w : World) (hg : Glo w) : Calls Tryz.prog 7 #[] w fun o w' => o = .returned (.bool true) ∧ Below w.heap.size w w' := by
  have hE := (Env.start w).newU w.heap.size rfl 29
  have hE1 := hE.box (w.heap.size + 1) (by simp) (flatK encN ns15) 87
  have HG := Lib.hid hg
  have HC := Lib.hid (show chkI 2 1000 3 1 1073741824 = 0 by decide)
  clear hg hE
  go_enter Tryz.func7, Tryz.ntmps7
  go_wp2_with fail
  refine (lay_t (R := [boxI (w.heap.size + 1) (flatK encN ns15)]) 0 0 5 (some ⟨w.heap.size + 1, 0, none⟩) 3 ns15 (by omega) (by omega) (by decide) (by decide) (fun F l v hv => Blk.rowK (enc := encN) (k := 4) (fun _ => rfl) (show Blk 0 v (w.heap.size + 1) (flatK encN ns15) from hv.get 1 rfl)) (hE1.perm (List.Perm.swap _ _ _))).mono ?_
  rintro o w1 ⟨rfl, F1, hE2⟩
  replace hE2 : Env w (refI w.heap.size F1 ml15 :: [boxI (w.heap.size + 1) (flatK encN ns15)]) w1 := hE2
  clear hE1
  generalize w.heap.size = m at *
  go_wp2_with fail
  refine (laid_t (by decide) words15 hE2).mono ?_
  rintro o w2 ⟨p, cc, n2, G2, rfl, hn2, hE3⟩
  replace hn2 : n2 ≤ 12 := Nat.le_trans hn2 (by decide)
  have HN2 := Lib.hid hn2
  clear hE2 hn2
  go_wp2_with fail
  refine (conf15 _).mono ?_
  rintro o w3 ⟨rfl, hb⟩
  replace hE3 := hE3.over hb
  clear hb
  go_wp2_with fail
  refine (newYes_c 2 1000 3 1 1073741824 HC.out hE3).mono ?_
  rintro o w4 ⟨c, q, F, rfl, hE4⟩
  clear hE3
  go_wp2_with fail
  refine (newSearch_l c 0 7 true hE4).mono ?_
  rintro o w5 ⟨sb, rfl, hE5⟩
  clear hE4
  have hR : SrchR w [refI m F1 ml15, boxI (m + 1) (flatK encN ns15)] sb 0 7 true (mkS ⟨c, q, p, cc, F, 2⟩ G2 (getL ml15) ⟨0, (n2 : Int), 0, 0, 0⟩ n2 0 0) 0 T0s w5 := SrchR.start hE5
  clear hE5
  go_wp2_with fail
  go_loopw [4, 5, 6] (fun nv sv iv wr => ∃ (j mm : Nat) (G : Nat → Prop) (qc : Cnt) (s : Int) (T : Sm) (f : Plc → Int), nv = .int .i64 j ∧ iv = .int .i64 j ∧ sv = .int .i64 s ∧ j ≤ 16 ∧ mm ≤ 20 + j ∧ Hid (runS 0 7 true (getL ml15) j = (s, T, f)) ∧ Hid (s = 0 → SmOk T) ∧ SrchR w [refI m F1 ml15, boxI (m + 1) (flatK encN ns15)] sb 0 7 true (mkS ⟨c, q, p, cc, F, 2⟩ G f qc mm T.e T.r) s T wr) (fun nv _ _ _ => 40 - (intOf nv).toNat)
  case atStart => exact ⟨0, n2, G2, _, 0, T0s, _, rfl, rfl, rfl, by omega, by have := HN2.out; omega, Lib.hid rfl, Lib.hid (fun _ => T0s_ok), hR⟩
  case round =>
    clear hR
    obtain ⟨j, mm, G, qc, s, T, f, rfl, rfl, rfl, hj, hmm, hrun, hok, hR⟩ := hrel
    by_cases hlt : j < 16
    · have hs : s = 0 := by
        have h1 := busy15 j hlt
        rw [hrun.out] at h1
        exact h1
      subst hs
      have hb1 : decide ((j : Int) < 40) = true := by simp; omega
      have hW := hR.words
      have hT := hok.out rfl
      have hst := search_k hT HG.out (by unfold maxLen; omega) hR
      have HNX : Hid (runS 0 7 true (getL ml15) (j + 1) = searchM 0 7 true T f) := Lib.hid (by show searchM 0 7 true (runS 0 7 true (getL ml15) j).2.1 (runS 0 7 true (getL ml15) j).2.2 = _; rw [hrun.out])
      have HOK : Hid ((searchM 0 7 true T f).1 = 0 → SmOk (searchM 0 7 true T f).2.1) := Lib.hid (search_ok (by unfold In64; omega) hT hW.u)
      have HM : Hid (mM T mm ≤ 20 + (j + 1)) := Lib.hid (by have := mM_le T mm; omega)
      generalize searchM 0 7 true T f = q9 at *
      generalize qcM T f qc = qc9 at *
      generalize mM T mm = mm9 at *
      obtain ⟨s9, T9, f9⟩ := q9
      have HST := Lib.hid hst
      clear hst hR hW hT hok hrun
      go_wp2_with fail
      refine HST.out.mono ?_
      rintro o w6 ⟨rfl, G9, hR9⟩
      go_wp2_with fail
      exact ⟨⟨j + 1, mm9, G9, qc9, s9, T9, f9, by simp, by simp, rfl, by omega, HM.out, HNX, HOK, hR9⟩, by simp [intOf]; omega⟩
    · have hj16 : j = 16 := by omega
      subst hj16
      have hs : s = 1 := by
        have h1 := done15
        rw [hrun.out] at h1
        exact h1
      have hfin := fin15
      rw [hrun.out] at hfin
      subst hs
      obtain ⟨on, ⟨p0, pc, W, X, K, V, C, fd⟩, e, r⟩ := T
      obtain ⟨h1, h2, h3, h4⟩ := hfin
      dsimp only at h1 h2 h3 h4
      subst h1 h2 h3 h4
      obtain ⟨-, -, ⟨-, h0, -⟩ | ⟨-, a, nx, wd, B1, B2, -, hE⟩⟩ := hR
      · exact absurd h0 (by decide)
      clear hok hrun
      have hap := at_place
      have HLK : Hid (∀ v, Calls Tryz.prog 38 #[.int .i64 2, .int .i64 0] v fun e w' => e = .returned (.agg #[.int .i64 5, .int .i64 2, .int .i64 7]) ∧ Below v.heap.size v w') := Lib.hid fun v => by
        have := link_any 2 0 v
        rwa [show wrap64 (7 + 0) = 7 from w64 _ (by omega)] at this
      replace hE : Env w (boxI a (laneC c 0 7 true nx 1 5 2 7 W 3 X wd true 70) :: B1 :: B2 :: LT (mkS ⟨c, q, p, cc, F, 2⟩ G f qc mm e r) [boxI sb (srC c 0 7 true (.pointer (some ⟨a, 0, none⟩))), refI m F1 ml15, boxI (m + 1) (flatK encN ns15)]) wr := hE
      go_wp2_with fail
      refine (lane_g (hE.get 7 rfl)).mono ?_
      rintro o w6 ⟨rfl, rfl⟩
      go_wp2_with (first
        | (with_reducible refine (found_g (hE.get 0 rfl)).mono ?_; rintro o w7 ⟨rfl, rfl⟩)
        | (with_reducible refine (val_g (hE.get 0 rfl)).mono ?_; rintro o w7 ⟨rfl, rfl⟩)
        | (with_reducible refine (who_g (hE.get 0 rfl)).mono ?_; rintro o w7 ⟨rfl, hb⟩; replace hE := hE.over hb; clear hb)
        | (with_reducible refine (at_g (hE.get 0 rfl)).mono ?_; rintro o w7 ⟨rfl, hb⟩; replace hE := hE.over hb; clear hb)
        | (with_reducible refine (HLK.out _).mono ?_; rintro o w7 ⟨rfl, hb⟩; replace hE := hE.over hb; clear hb))
      go_ret
      exact ⟨rfl, hE.below⟩
end Go.Proofs.YtchcdfoncebemaaGreatDoor

/- Lists' nodes and deeds that came in: rows of structs. -/
namespace Go.Proofs.YtchcdfoncebemaaGreatDoor
open Go.RowKit Go.Maps
set_option maxRecDepth 100000

structure NdI where
  s : Int
  key : Int
  val : Int
  mb : Bool
instance : Inhabited NdI := ⟨⟨0, 0, 0, false⟩⟩
def encNdI (r : NdI) : List Value := [.int .i64 r.s, .int .u64 r.key, .int .u64 r.val, .bool r.mb]
def OkNdI (r : NdI) : Prop := In64 r.s ∧ InU r.key ∧ InU r.val
theorem flatNdI : flatT Tryz.prog 6 87 = some [.num .i64, .num .u64, .num .u64, .boo] := by kernel_rfl
theorem cellsNdI : Tryz.prog.cellsOf 87 = 4 := by kernel_rfl
theorem open_NdI {H : Type} {en : TypeId × Value → H} {W : World} {A : Option Addr} {len cap : Nat} {d : DataW H} {p : List MemPlace}
    (h : DataW.Trod en Tryz.prog W 0 (fun _ => true) true 22 (.slice A len cap) d p) (hlt : ∀ x ∈ p, x.block < W.heap.size) :
    ∃ xs : List NdI, xs.length = len ∧ len ≤ maxLen ∧ (∀ r ∈ xs, OkNdI r) ∧ RowX encNdI 4 W A xs := by
  refine open_rowX Tryz.underlying22 flatNdI cellsNdI (by simp) (fun w b o hall => ?_) h hlt
  obtain ⟨_, c0, x0, rfl, w0⟩ := hall 0 _ rfl
  obtain ⟨_, c1, x1, rfl, w1⟩ := hall 1 _ rfl
  obtain ⟨_, c2, x2, rfl, w2⟩ := hall 2 _ rfl
  obtain ⟨_, c3, x3, rfl⟩ := hall 3 _ rfl
  refine ⟨⟨x0, x1, x2, x3⟩, fun j v e => ?_, wf_i.1 w0, wf_u.1 w1, wf_u.1 w2⟩
  match j with
  | 0 => simp [encNdI] at e; subst e; exact c0
  | 1 => simp [encNdI] at e; subst e; exact c1
  | 2 => simp [encNdI] at e; subst e; exact c2
  | 3 => simp [encNdI] at e; subst e; exact c3
  | j + 4 => simp [encNdI] at e
theorem at_NdI {w : World} {b o : Nat} {s key val : Int} {mb : Bool} (h : CellsAt w b o (encNdI ⟨s, key, val, mb⟩)) :
    w.cell? ⟨b, o, none⟩ = some (.int .i64 s) ∧ w.cell? ⟨b, o + 1, none⟩ = some (.int .u64 key) ∧ w.cell? ⟨b, o + 2, none⟩ = some (.int .u64 val) ∧ w.cell? ⟨b, o + 3, none⟩ = some (.bool mb) :=
  ⟨h 0 _ rfl, h 1 _ rfl, h 2 _ rfl, h 3 _ rfl⟩
end Go.Proofs.YtchcdfoncebemaaGreatDoor

/- An array of 1001 marks in a block of the call's own. -/
namespace Go.Proofs.YtchcdfoncebemaaGreatDoor
open Go.RowKit
set_option maxRecDepth 100000

/-- 1001 marks, none set. -/
def zero1001 : Array Value := Array.replicate 1001 (.bool false)
theorem build1001 (w : World) : (Instr.build 100 #[]).run Tryz.prog w = .ok (.agg zero1001) w := by kernel_rfl
theorem one1001 : zero1001.all (·.oneCell') = true := Array.all_eq_true_iff_forall_mem.2 fun v hv => by
  have h := Array.eq_of_mem_replicate (show v ∈ Array.replicate 1001 (Value.bool false) from hv)
  rw [h]
  rfl
theorem size1001 : (Tryz.prog.info? 100).map (·.size) = some zero1001.size := by kernel_rfl

/-- The marks of a block, as a function. -/
def UsedM (h : Nat) (w wr : World) (T : Nat → Bool) : Prop := (∀ i, i < 1001 → wr.cell? ⟨h, i, none⟩ = some (.bool (T i)) ∧ wr.frozen? ⟨h, i, none⟩ = false) ∧ Below h w wr ∧ h < wr.heap.size
theorem UsedM.below {h : Nat} {w wr w1 : World} {T : Nat → Bool} (u : UsedM h w wr T) (hb : Below wr.heap.size wr w1) : UsedM h w w1 T := by
  obtain ⟨u1, u2, u3⟩ := u
  refine ⟨fun i hi => ?_, u2.trans (hb.mono (by omega)), by have := hb.size; omega⟩
  rw [hb.cell (p := ⟨h, i, none⟩) u3, hb.frozen (p := ⟨h, i, none⟩) u3]
  exact u1 i hi
theorem UsedM.store {h : Nat} {w wr : World} {T : Nat → Bool} (u : UsedM h w wr T) {j : Nat} (hj : j < 1001) : UsedM h w (wr.setCell ⟨h, j, none⟩ (.bool true)) (fun i => T i || decide (i = j)) := by
  obtain ⟨u1, u2, u3⟩ := u
  refine ⟨fun i hi => ?_, u2.setCell (Nat.le_refl _) _, by simpa using u3⟩
  rw [World.frozen?_setCell]
  refine ⟨?_, (u1 i hi).2⟩
  by_cases hij : i = j
  · subst hij
    rw [World.cell?_setCell_same _ _ _ (u1 i hi).1]
    simp
  · rw [World.cell?_setCell_other _ _ _ _ (by first | (simp; done) | (simp; omega)), (u1 i hi).1]
    simp [hij]
theorem below_setCellsM {B : Nat} {a : World} {b : Nat} (hb : B ≤ b) : ∀ (vs : List Value) (o : Nat) (w : World), Below B a w → Below B a (w.setCells b o vs)
  | [], _, _, h => h
  | _ :: r, o, _, h => below_setCellsM hb r (o + 1) _ (h.setCell hb _)
theorem size_setCellsM (b : Nat) : ∀ (vs : List Value) (o : Nat) (w : World), (w.setCells b o vs).heap.size = w.heap.size
  | [], _, _ => rfl
  | _ :: r, o, w => by rw [World.setCells, size_setCellsM b r]; simp
theorem usedM_new (w : World) : UsedM w.heap.size w ((w.alloc (.cells zero1001 100)).setCells w.heap.size 0 zero1001.toList) (fun _ => false) := by
  have hg : (w.alloc (.cells zero1001 100)).heap[w.heap.size]? = some (.cells zero1001 100 (0, 0)) := heap_alloc_new w _
  have ht : (w.alloc (.cells zero1001 100)).there w.heap.size 0 zero1001.toList.length := fun j hj => by
    rw [Nat.zero_add]
    refine ⟨?_, frozen_of_row _ _ _ _ _ hg⟩
    rw [cell_of_row _ _ _ _ _ _ hg]
    have : j < zero1001.size := by simpa using hj
    simp [this]
  refine ⟨fun i hi => ?_, below_setCellsM (Nat.le_refl _) _ _ _ ((Below.refl _ _).alloc (Nat.le_refl _) _), by rw [size_setCellsM]; simp⟩
  have h1 := World.rangeAt_setCells_same (w.alloc (.cells zero1001 100)) w.heap.size 0 zero1001.toList ht i (.bool false) (by unfold zero1001; rw [Array.toList_replicate, List.getElem?_replicate]; simp only [hi, if_true])
  rw [Nat.zero_add] at h1
  refine ⟨h1, ?_⟩
  rw [World.frozen?_setCells]
  exact frozen_of_row _ _ _ _ _ hg

set_option maxHeartbeats 3200000 in
/-- 'used := [1001]bool{}': one step of the walk. -/
theorem list_usedM {ops : Array Oper} {rest : List Oper} {o1 o2 o3 : Oper} {a : Act} {w : World} {Q : Exit → Act → World → Prop} (g1 : o1.guard = none) (g2 : o2.guard = none) (g3 : o3.guard = none)
    (h1 : o1.op = .build 100 #[]) (h2 : o2.op = .alloc 100) (x y : Operand) (h3 : o3.op = .store 100 x y)
    (hx : ((a.put o1.dst (.agg zero1001)).put o2.dst (.pointer (some ⟨w.heap.size, 0, none⟩))).eval x = .pointer (some ⟨w.heap.size, 0, none⟩)) (hy : ((a.put o1.dst (.agg zero1001)).put o2.dst (.pointer (some ⟨w.heap.size, 0, none⟩))).eval y = .agg zero1001)
    (h : ∀ w2, UsedM w.heap.size w w2 (fun _ => false) → wpList Tryz.prog ops Q rest (((a.put o1.dst (.agg zero1001)).put o2.dst (.pointer (some ⟨w.heap.size, 0, none⟩))).put o3.dst undef) w2) : wpList Tryz.prog ops Q (o1 :: o2 :: o3 :: rest) a w := by
  refine wpList_plain g1 fun K1 hK1 => ?_
  unfold Oper.wp
  have e1 : (execOp a.eval o1).run Tryz.prog w = .ok (.value (.agg zero1001)) w := by
    have hb := build1001 w
    unfold execOp
    simp only [h1]
    rw [Array.map_empty]
    simp [hb]
  rw [e1]
  refine hK1 _ _ ?_
  refine wpList_plain g2 fun K2 hK2 => ?_
  unfold Oper.wp
  have e2 : (execOp (a.put o1.dst (.agg zero1001)).eval o2).run Tryz.prog w = .ok (.value (.pointer (some ⟨w.heap.size, 0, none⟩))) (w.alloc (.cells zero1001 100)) := by
    unfold execOp
    simp only [h2]
    kernel_rfl
  rw [e2]
  refine hK2 _ _ ?_
  exact wpList_store_mid g3 100 x y h3 w.heap.size 0 zero1001 hx hy (fun j hj => by
    have hg : (w.alloc (.cells zero1001 100)).heap[w.heap.size]? = some (.cells zero1001 100 (0, 0)) := heap_alloc_new w _
    rw [Nat.zero_add]
    refine ⟨?_, frozen_of_row _ _ _ _ _ hg⟩
    rw [cell_of_row _ _ _ _ _ _ hg]
    simp [hj]) size1001 one1001 (h _ (usedM_new w))

/-- The marks as a thing. -/
def usedMI (B : Nat) (T : Nat → Bool) : Item where
  F := fun k => k = B
  says := fun w => B < w.heap.size ∧ ∀ i, i < 1001 → w.cell? ⟨B, i, none⟩ = some (.bool (T i)) ∧ w.frozen? ⟨B, i, none⟩ = false
  loc := fun w1 w2 h hk hs => ⟨Nat.lt_of_lt_of_le h.1 hs, fun i hi => by
    have hb := hk B rfl
    obtain ⟨h1, h2⟩ := h.2 i hi
    exact ⟨by rw [World.cell?_of_block (w := w1) hb]; exact h1, by rw [World.frozen?_of_block (w := w1) hb]; exact h2⟩⟩
theorem Env.usedM {w0 w w' : World} {L : List Item} {T : Nat → Bool} (h : Env w0 L w) {B : Nat} (hB : w.heap.size = B) (hu : UsedM B w w' T) : Env w0 (usedMI B T :: L) w' := by
  subst hB
  exact h.add (usedMI w.heap.size T) hu.2.1 ⟨hu.2.2, hu.1⟩ fun k hk => by cases hk; exact ⟨Nat.le_refl _, hu.2.2⟩
theorem Env.markM {w0 w : World} {L : List Item} {B : Nat} {T : Nat → Bool} (h : Env w0 L w) (i : Nat) (hi : L[i]? = some (usedMI B T)) {j : Nat} (hj : j < 1001) : Env w0 (L.set i (usedMI B (fun k => T k || decide (k = j)))) (w.setCell ⟨B, j, none⟩ (.bool true)) := by
  have hs : (usedMI B T).says w := h.get i hi
  refine h.step i (usedMI B (fun k => T k || decide (k = j))) hi ⟨(Turn.refl (fun k => k = B) w).setCell (p := ⟨B, j, none⟩) (fun _ => rfl) _, fun k hk => .inl hk⟩ ⟨by simpa using hs.1, fun k hk => ?_⟩ fun k hk => by
    have := h.lt i hi k hk
    simpa using this
  rw [World.frozen?_setCell]
  refine ⟨?_, (hs.2 k hk).2⟩
  by_cases hkj : k = j
  · subst hkj
    rw [World.cell?_setCell_same _ _ _ (hs.2 k hk).1]
    simp
  · rw [World.cell?_setCell_other _ _ _ _ (by first | (simp; done) | (simp; omega)), (hs.2 k hk).1]
    simp [hkj]
end Go.Proofs.YtchcdfoncebemaaGreatDoor

/- The contract of nodes: slots that can be, each once. -/
namespace Go.Proofs.YtchcdfoncebemaaGreatDoor
open Go.RowKit Go.Maps
set_option maxRecDepth 100000

theorem encN_len (x : Nd) : (encN x).length = 4 := rfl
theorem encN_one (x : Nd) : ∀ u ∈ encN x, u.oneCell' = true := by intro u hu; simp [encN] at hu; rcases hu with rfl | rfl | rfl | rfl <;> rfl
theorem infoNd : (Tryz.prog.info? 87).map (fun i => (i.zero, i.size, i.bytes)) = some (some (.agg #[.int .i64 0, .int .u64 0, .int .u64 0, .bool false]), 4, 32) := by kernel_rfl

section
variable {w0 w : World} {L : List Item}
set_option maxHeartbeats 6400000 in
theorem nodes_t (A : Option Addr) (cap : Nat) (xs : List NdI) (hxl : xs.length ≤ 9223372036854775807) (hok : ∀ r ∈ xs, OkNdI r) (hrow : RowX encNdI 4 w0 A xs) (hE : Env w0 L w) :
    Calls Tryz.prog 9 #[.slice A xs.length cap] w fun o w' => ∃ (g : Option Addr) (c : Nat) (ns : List Nd), o = .returned (.slice g ns.length c) ∧ ns.length ≤ 40 ∧ (∀ n ∈ ns, NdOk n) ∧ (ns.map (·.s)).Nodup ∧ Env w0 (rowKI encN 4 (.slice g ns.length c) 87 ns :: L) w' := by
  have hE1 := hE.addEmptyK (enc := encN) (k := 4) w.heap.size rfl 87
  have HROW := Lib.hid hrow
  have HOK := Lib.hid hok
  clear hrow hok hE
  go_enter Tryz.func9, Tryz.ntmps9
  go_wp2_with (first | (refine list_usedM rfl rfl rfl rfl rfl _ _ rfl rfl rfl ?_; intro w2 hu))
  have hs1 : (w.alloc (.cells #[] 87)).heap.size = w.heap.size + 1 := by simp
  rw [hs1] at hu
  have hE := hE1.usedM hs1 hu
  clear hu hE1 hs1
  generalize w.heap.size = B0 at *
  go_loopw [3, 5] (fun ov iv wr => ∃ (j : Nat) (ns : List Nd) (g : Option Addr) (c : Nat) (T : Nat → Bool), ov = .slice g ns.length c ∧ iv = .int .i64 j ∧ j ≤ xs.length ∧ j ≤ 40 ∧ ns.length ≤ j ∧ Hid ((∀ n ∈ ns, NdOk n ∧ T n.s.toNat = true) ∧ (ns.map (·.s)).Nodup) ∧ Env w0 (usedMI (B0 + 1) T :: rowKI encN 4 (.slice g ns.length c) 87 ns :: L) wr) (fun _ iv _ => 40 - (intOf iv).toNat)
  case atStart => exact ⟨0, [], _, 0, _, rfl, rfl, Nat.zero_le _, by omega, Nat.le_refl _, Lib.hid ⟨by simp, by simp⟩, hE⟩
  case round =>
    clear hE
    obtain ⟨j, ns, g, c, T, rfl, rfl, hj, hj4, hnl, hinv, hE⟩ := hrel
    by_cases hlt : j < xs.length
    · by_cases hlt4 : j < 40
      · have hb1 : decide ((j : Int) < (xs.length : Int)) = true := by simp; omega
        have hb2 : decide ((j : Int) < 40) = true := by simp; omega
        have hlt1 : (j : Int) < (xs.length : Int) := by omega
        rcases HROW.out with h0 | ⟨g0, off, rfl, hgl, hc⟩
        · rw [h0] at hlt; simp at hlt
        obtain ⟨x, hx⟩ : ∃ x, xs.getD j default = x := ⟨_, rfl⟩
        have hxo : OkNdI x := HOK.out x (by rw [← hx, List.getD_eq_getElem?_getD, List.getElem?_eq_getElem hlt]; exact List.getElem_mem hlt)
        have hcj := (hc j hlt).below hE.below hgl
        rw [hx] at hcj
        obtain ⟨s, key, val, mb⟩ := x
        obtain ⟨c0, c1, c2, c3⟩ := at_NdI hcj
        obtain ⟨r, hr, hr0, hr1⟩ := cut_u1 s 1000 (by decide) (by decide)
        obtain ⟨t, rfl⟩ : ∃ t : Nat, r = (t : Int) := ⟨r.toNat, by omega⟩
        have htl : t < 1001 := by omega
        have ht2 : (t : Int) < 1001 := by omega
        obtain ⟨-, hk, hv⟩ := hxo
        dsimp only at hk hv
        have HOKN : Hid (NdOk ⟨(t : Int), key, val, mb⟩) := Lib.hid ⟨⟨hr0, hr1⟩, hk, hv⟩
        have hE6 := hE.box wr.heap.size rfl [.int .i64 t, .int .u64 key, .int .u64 val, .bool mb] 87
        have hus := ((show (usedMI (B0 + 1) T).says _ from hE6.get 1 rfl).2 t htl)
        obtain ⟨hus1, hus2⟩ := hus
        clear hx hcj hc hk hv hr0 hr1
        cases hT : T t
        · rw [hT] at hus1
          have hE8 := hE6.markM 1 rfl htl
          simp only [List.set_cons_succ, List.set_cons_zero] at hE8
          have r8 := hE8.rule 0 rfl
          have hE9 := hE8.box (wr.heap.size + 1) (by simp) (encN ⟨(t : Int), key, val, mb⟩) 87
          obtain ⟨A9, c9, w9, hrun, hE10⟩ := hE9.appendK (xs := [(⟨(t : Int), key, val, mb⟩ : Nd)]) encN_len (by decide) encN_one 3 rfl 22 22 Tryz.underlying22 rfl infoNd 1 (Blk.rowK (enc := encN) (k := 4) encN_len (l := [(⟨(t : Int), key, val, mb⟩ : Nd)]) (show Blk 0 _ _ (flatK encN [(⟨(t : Int), key, val, mb⟩ : Nd)]) from hE9.get 0 rfl)) (fun h => by cases h) (by unfold maxLen; simp; omega) (by simp; omega)
          have HRUN := Lib.hid hrun
          have HINV : Hid ((∀ n ∈ ns ++ [(⟨(t : Int), key, val, mb⟩ : Nd)], NdOk n ∧ (fun k => T k || decide (k = t)) n.s.toNat = true) ∧ ((ns ++ [(⟨(t : Int), key, val, mb⟩ : Nd)]).map (·.s)).Nodup) := Lib.hid (by
            obtain ⟨h1, h2⟩ := hinv.out
            refine ⟨fun n hn => ?_, ?_⟩
            · rcases List.mem_append.1 hn with hn | hn
              · exact ⟨(h1 n hn).1, by simp [(h1 n hn).2]⟩
              · simp only [List.mem_singleton] at hn
                subst hn
                exact ⟨HOKN.out, by simp⟩
            · rw [List.map_append, List.nodup_append]
              refine ⟨h2, by simp, ?_⟩
              intro a ha b hb hab
              simp only [List.map_cons, List.map_nil, List.mem_singleton] at hb
              subst hab hb
              obtain ⟨n, hn, he⟩ := List.mem_map.1 ha
              have h3 := (h1 n hn).2
              rw [he] at h3
              rw [show ((t : Int)).toNat = t from by simp, hT] at h3
              exact absurd h3 (by simp))
          clear hrun hE9 hE hinv
          go_wp2_with (first | (at_builtin; refine wpList_append_run rfl _ _ 22 rfl HRUN.out rfl rfl ?_))
          refine ⟨⟨j + 1, ns ++ [⟨(t : Int), key, val, mb⟩], A9, c9, (fun k => T k || decide (k = t)), by simp, by simp, by omega, by omega, by simp; omega, HINV, ?_⟩, by simp [intOf]; omega⟩
          have h9 := hE10.sub (.cons _ (.cons _ (List.Sublist.refl _)))
          simpa using h9
        · rw [hT] at hus1
          go_wp2_with fail
          exact ⟨⟨j + 1, ns, g, c, T, rfl, by simp, by omega, by omega, by omega, hinv, hE6.sub (.cons _ (List.Sublist.refl _))⟩, by simp [intOf]; omega⟩
      · have hb1 : decide ((j : Int) < (xs.length : Int)) = true := by simp; omega
        have hb2 : decide ((j : Int) < 40) = false := by simp; omega
        go_wp2_with fail
        go_ret
        exact ⟨g, c, ns, rfl, by omega, fun n hn => (hinv.out.1 n hn).1, hinv.out.2, hE.sub (.cons _ (List.Sublist.refl _))⟩
    · have hb1 : decide ((j : Int) < (xs.length : Int)) = false := by simp; omega
      go_wp2_with fail
      go_ret
      exact ⟨g, c, ns, rfl, by omega, fun n hn => (hinv.out.1 n hn).1, hinv.out.2, hE.sub (.cons _ (List.Sublist.refl _))⟩
end
end Go.Proofs.YtchcdfoncebemaaGreatDoor

/- What the condition on the package's variables gives: the three fields stand in them; and that the program's own start meets it. -/
namespace Go.Proofs.YtchcdfoncebemaaGreatDoor
open Go.ChangeShapes Go.WideShapes Go.ChangeAt Go.RowKit
set_option maxRecDepth 100000

section
variable {P : Program} {w : World}
theorem cell_lt {b o : Nat} {v : Value} (h : w.cell? ⟨b, o, none⟩ = some v) : b < w.heap.size := by
  rcases Nat.lt_or_ge b w.heap.size with h' | h'
  · exact h'
  · simp [World.cell?, Array.getElem?_eq_none h'] at h
/-- The head of a list of laid variables: a struct of two ints. -/
theorem laid_pair {n : String} {g : Nat} {t k : TypeId} {f0 f1 : Field} {a b : Int} {r : List (String × DataW Unit)} {ps : List MemPlace}
    (h : DataW.LaidVars P w ((n, .agg [.lit (.int .i64 a), .lit (.int .i64 b)]) :: r) ps) (hg : P.globalNamed n = some g) (ht : (P.globals[g]?).map (·.type) = some t)
    (hs : P.underlying t = some (.struct #[f0, f1])) (hc : P.cellsOf t = 2) (h0 : f0.offset = 0) (h1 : f1.offset = 1) (hk0 : f0.type = k) (hk1 : f1.type = k) (hk : P.cellsOf k = 1) (hi : P.underlying k = some (.int .i64)) :
    w.cell? ⟨g, 0, none⟩ = some (.int .i64 a) ∧ w.cell? ⟨g, 1, none⟩ = some (.int .i64 b) ∧ ∃ q, DataW.LaidVars P w r q := by
  obtain ⟨g', t', cs, fuel, p, q, hg', ht', hv, hd, hr, -⟩ := h
  obtain rfl := Option.some.inj (hg.symm.trans hg')
  obtain rfl := Option.some.inj (ht.symm.trans ht')
  obtain ⟨xs, m, -, hx, hl, hn, hel⟩ := DataW.trod_struct hs hd
  have e0 := hel 0 f0 rfl
  have e1 := hel 1 f1 rfl
  rw [h0, hk0, hk] at e0
  rw [h1, hk1, hk] at e1
  obtain ⟨l⟩ := cs
  rw [hc] at hl
  match l, hl, xs, hn, hx, e0, e1, hv with
  | [c0, c1], _, [x0, x1], _, hx, e0, e1, hv =>
    simp only [Prod.mk.injEq, List.map_cons, List.map_nil, DataW.agg.injEq, List.cons.injEq] at hx
    obtain ⟨n0, s0, y0, -⟩ := DataW.trod_int hi (show DataW.trod _ P w 0 _ false m k [c0] = some x0 from e0)
    obtain ⟨n1, s1, y1, -⟩ := DataW.trod_int hi (show DataW.trod _ P w 0 _ false m k [c1] = some x1 from e1)
    simp at s0 s1
    subst s0 s1
    have k0 := hx.1.1
    have k1 := hx.1.2.1
    rw [y0] at k0
    rw [y1] at k1
    simp at k0 k1
    subst k0 k1
    exact ⟨by rw [World.var?_cell hg hv 0]; rfl, by rw [World.var?_cell hg hv 1]; rfl, q, hr⟩
end

def laid3 : List (String × DataW Unit) := [("revenant/link.versionPart", Rows.laid_revenant_link_versionPart), ("revenant/link.slotPart", Rows.laid_revenant_link_slotPart), ("revenant/link.markPart", Rows.laid_revenant_link_markPart)]

/-- What the condition gives the walks. -/
theorem glo_of_laid {W : World} (h : laidMetH Tryz.prog laid3 W) : Glo W := by
  rw [MakeChecks.laidMetH_plain _ _ _ (by kernel_rfl)] at h
  obtain ⟨ps, h, -, -⟩ := h
  obtain ⟨a0, a1, q1, h⟩ := laid_pair (g := 2) (t := 124) (k := 3) h (by kernel_rfl) (by kernel_rfl) Tryz.underlying124 (by kernel_rfl) rfl rfl rfl rfl (by kernel_rfl) Tryz.underlying3
  obtain ⟨b0, b1, q2, h⟩ := laid_pair (g := 0) (t := 124) (k := 3) h (by kernel_rfl) (by kernel_rfl) Tryz.underlying124 (by kernel_rfl) rfl rfl rfl rfl (by kernel_rfl) Tryz.underlying3
  obtain ⟨c0, c1, q3, h⟩ := laid_pair (g := 1) (t := 124) (k := 3) h (by kernel_rfl) (by kernel_rfl) Tryz.underlying124 (by kernel_rfl) rfl rfl rfl rfl (by kernel_rfl) Tryz.underlying3
  exact ⟨⟨a0, a1⟩, ⟨b0, b1⟩, ⟨c0, c1⟩, cell_lt a0, cell_lt b0, cell_lt c0⟩

/-- The program's own start meets the condition. -/
theorem door_met (os : Os) (args : Array Value) : laidMetH Tryz.prog laid3 ((World.doorLaid Tryz.prog 24 os).forCall (fun _ _ => 0) ⟨#[], args, []⟩).memory :=
  laidMetH_of_parts3 (fuel := 8) (laidMet_of_run' 8 (by kernel_rfl) (by kernel_rfl)) (by kernel_rfl) (by kernel_rfl)
end Go.Proofs.YtchcdfoncebemaaGreatDoor

namespace Go.Proofs.YtchcdfoncebemaaGreatDoor.seekLevels
open Go.ChangeShapes Go.WideShapes Go.ChangeAt Go.RowKit Go.Joins Go.Maps
set_option maxRecDepth 100000

theorem who_slot (v : World) (a b : Int) : (Instr.field 69 (.agg #[.int .i64 a, .int .i64 b]) 0).run Tryz.prog v = .ok (.int .i64 a) v := by kernel_rfl

set_option maxHeartbeats 12800000 in
theorem walk (xs : List NdI) (A : Option Addr) (cap : Nat) (hl0 : xs.length ≤ 2 ^ 63 - 1) (k0 key : Int) (zs : List ActZ) (A2 : Option Addr) (cap2 : Nat) (hz0 : zs.length ≤ 2 ^ 63 - 1) (W : World)
    (hok : ∀ r ∈ xs, OkNdI r) (hrow : RowX encNdI 4 W A xs) (hok2 : ∀ r ∈ zs, OkActZ r) (hrow2 : RowX encActZ 5 W A2 zs) (hg : Glo W) :
    Calls Tryz.prog 4 #[.slice A xs.length cap, .int .i64 k0, .int .u64 key, .slice A2 zs.length cap2] W fun e w' => e = .returned (.bool true) ∧ Below W.heap.size W w' := by
  have HG := Lib.hid hg
  have HOK := Lib.hid hok
  have HROW := Lib.hid hrow
  have HOK2 := Lib.hid hok2
  have HROW2 := Lib.hid hrow2
  have hl : xs.length ≤ 9223372036854775807 := by omega
  have hz : zs.length ≤ 9223372036854775807 := by omega
  obtain ⟨k, hk, hk0, hk1⟩ := cut_u k0 16 (by decide) (by decide)
  have HC := Lib.hid (show chkI 2 1000 3 1 1073741824 = 0 by decide)
  have hE := Env.start W
  clear hg hok hrow hok2 hrow2 hl0 hz0
  go_enter Tryz.func4, Tryz.ntmps4
  go_wp2_with fail
  refine (awake15 _ HG.out).mono ?_
  rintro o w1 ⟨rfl, hb⟩
  replace hE := (hE.over hb).newU w1.heap.size rfl 29
  clear hb
  go_wp2_with fail
  generalize w1.heap.size = m at *
  refine (nodes_t A cap xs hl HOK.out HROW.out hE).mono ?_
  rintro o w2 ⟨g, c2, ns, rfl, hn40, hnok, -, hE2⟩
  replace hE2 := hE2.perm (List.Perm.swap _ _ _)
  have HN40 := Lib.hid hn40
  have HNOK := Lib.hid hnok
  clear hE hn40 hnok
  go_wp2_with fail
  refine (lay_t k k 5 g c2 ns (by omega) (by omega) (by have := HN40.out; omega) (by simp) (fun F l v hv => hv.cellsK encN_len 1 rfl rfl) hE2).mono ?_
  rintro o w3 ⟨rfl, F3, hE3⟩
  have hwk : Wf (4, 0, k) := by unfold Wf In64; simp; omega
  have hW3 := words_lay (lv := k) (e := 5) (show 0 ≤ k ∧ k ≤ 1000 by omega) ns (4, 0, k) false (setL [] (1, 0, 0) 5) HNOK.out hwk ((show Words (getL []) from Words.zero).setL (by unfold Wf In64; simp) (by simp [InU]))
  have hL3 := layL_length k 5 ns (4, 0, k) false (setL [] (1, 0, 0) 5)
  have hL4 := setL_length (1, 0, 0) 5 []
  have hL5 : (layL k 5 ns (4, 0, k) false (setL [] (1, 0, 0) 5)).length ≤ 122 := by have := HN40.out; simp at hL4; omega
  generalize layL k 5 ns (4, 0, k) false (setL [] (1, 0, 0) 5) = ml at *
  have HW3 := Lib.hid hW3
  have HL5 := Lib.hid hL5
  clear hE2 hW3 hL3 hL4 hL5 hwk
  go_wp2_with fail
  refine (laid_t (by have := HL5.out; omega) HW3.out hE3).mono ?_
  rintro o w4 ⟨p, cc, n4, G4, rfl, hn4, hE4⟩
  have HN4 : Hid (n4 ≤ 122) := Lib.hid (by have := HL5.out; omega)
  clear hE3 hn4
  go_wp2_with fail
  refine (conf15 _).mono ?_
  rintro o w5 ⟨rfl, hb⟩
  replace hE4 := hE4.over hb
  clear hb
  go_wp2_with fail
  refine (newYes_c 2 1000 3 1 1073741824 HC.out hE4).mono ?_
  rintro o w6 ⟨c, q, F, rfl, hE6⟩
  clear hE4
  go_wp2_with fail
  refine (conf15 _).mono ?_
  rintro o w7 ⟨rfl, hb⟩
  replace hE6 := (hE6.over hb).box w7.heap.size rfl (ruC 0 0) 45
  clear hb
  go_wp2_with fail
  generalize w7.heap.size = u at *
  have hck := check_w _ (rfl : getL ml (1, 0, 0) = getL ml (1, 0, 0)) 1 3 4 (by decide) (by decide) hE6 rfl rfl rfl
  simp only [List.set_cons_succ, List.set_cons_zero] at hck
  have HCK := Lib.hid hck
  clear hck
  go_wp2_with fail
  refine HCK.out.mono ?_
  rintro o w8 ⟨rfl, hE8⟩
  have hmu : InU (getL ml (1, 0, 0)) := HW3.out.u _
  clear hE6 HCK
  have hrk := rcheck_w (k := 2) (s := 1000) (b := 3) (h := 1) (l := 1073741824) (A := none) (n := 0) (c := 0) (N := 0) (hs := 0) (r := 0) (e := 0) _ (rfl : getL ml (1, 0, 0) = getL ml (1, 0, 0)) hmu (by have := HL5.out; omega) 0 5 hE8 rfl rfl
  simp only [List.set_cons_succ, List.set_cons_zero] at hrk
  obtain ⟨e, he⟩ : ∃ e, epI (getL ml (1, 0, 0)) = e := ⟨_, rfl⟩
  have her := epI_in hmu
  rw [he] at hrk her
  have HRK := Lib.hid hrk
  have HER := Lib.hid her
  clear hrk her he hmu hE8
  go_wp2_with fail
  refine HRK.out.mono ?_
  rintro o w9 ⟨rfl, hE9⟩
  clear HRK
  go_wp2_with fail
  refine (root_any k _).mono ?_
  rintro o w10 ⟨rfl, hb⟩
  replace hE9 := hE9.over hb
  clear hb
  go_wp2_with fail
  refine (new_l c 4 0 k k key false hE9).mono ?_
  rintro o w11 ⟨a, rfl, hE11⟩
  clear hE9
  go_wp2_with fail
  refine (root_any k _).mono ?_
  rintro o w12 ⟨rfl, hb⟩
  replace hE11 := (hE11.over hb).box w12.heap.size rfl (rlC k key false 4 0 k 0 0 0 0 0 0 false) 67
  clear hb
  go_wp2_with fail
  generalize w12.heap.size = b at *
  obtain ⟨row, hrow9⟩ : ∃ x, rowKI encN 4 (.slice g ns.length c2) 87 ns = x := ⟨_, rfl⟩
  rw [hrow9] at hE11
  clear hrow9
  generalize ({ l := _, s := _, w := _, f := _, a := _ } : Cnt) = q4 at hE11
  have hEp := (hE11.none2 (x := boxI b (rlC k key false 4 0 k 0 0 0 0 0 0 false))).perm (L' := [boxI a (laneC c k key false (mvL (fnL 0) a) 0 4 0 k 0 0 0 0 false 0), noI, noI, coreI c 2 1000 3 1 1073741824 e 0 0 0 q, queueI q F [] 2] ++ ([boxI b (rlC k key false 4 0 k 0 0 0 0 0 0 false), boxI u (ruC e 0)] ++ (wbox p cc :: cellI cc G4 (getL ml) q4 n4 :: refI m F3 ml :: [row]))) (perm_of fun z => by
    show List.count z (boxI b (rlC k key false 4 0 k 0 0 0 0 0 0 false) :: noI :: noI :: boxI a (laneC c k key false (mvL (fnL 0) a) 0 4 0 k 0 0 0 0 false 0) :: boxI u (ruC e 0) :: coreI c 2 1000 3 1 1073741824 e 0 0 0 q :: queueI q F [] 2 :: wbox p cc :: cellI cc G4 (getL ml) q4 n4 :: refI m F3 ml :: [row]) = _
    simp only [List.count_append, List.count_cons, List.count_nil]
    omega)
  have hB : BothG W [row] p cc m (PL W (⟨c, q, p, cc, F, 2⟩ : Bs) a k key false e 0 0 (L0 (4, 0, k))) (QL W b u m k key false e 0 (L0 (4, 0, k))) G4 (getL ml) q4 n4 (getL ml) 130 _ :=
    ⟨_, _, F3, ml, ⟨fun G f qc n R w h => ⟨mvL (fnL 0) a, 0, noI, noI, fun _ => ⟨⟨fun _ => rfl, fun h => absurd h (by simp [L0, isVal])⟩, fun h => absurd h (by simp [L0]), fun h => absurd h (by simp [L0])⟩, h⟩, mvL (fnL 0) a, 0, List.mem_cons_self ..⟩, ⟨fun F ml N R w hl h => ⟨F, ml, rfl, hl, h⟩, List.mem_cons_self ..⟩, rfl, by have := HL5.out; omega, hEp⟩
  clear hE11 hEp
  go_loopw [16] (fun iv wr => ∃ (j n N : Nat) (G : Nat → Prop) (f : Plc → Int) (qc : Cnt) (r : Int) (L : Lm), iv = .int .i64 j ∧ j ≤ 200 ∧ n ≤ 130 + 2 * j ∧ N ≤ 130 + 2 * j ∧ Hid (LmOk L) ∧ Hid (Wf L.p) ∧ BothG W [row] p cc m (PL W (⟨c, q, p, cc, F, 2⟩ : Bs) a k key false e r 0 L) (QL W b u m k key false e r L) G f qc n f N wr) (fun iv _ => 200 - (intOf iv).toNat)
  case atStart => exact ⟨0, n4, 130, G4, _, q4, 0, L0 (4, 0, k), rfl, by omega, by have := HN4.out; omega, by omega, Lib.hid (LmOk.start _), Lib.hid (by show Wf (4, 0, k); unfold Wf In64; simp; omega), hB⟩
  case round =>
    clear hB
    obtain ⟨j, n, N, G, f, qc, r, L, rfl, hj, hn, hN, hL, hwf, hB⟩ := hrel
    by_cases hlt : j < 200
    · have hb1 : decide ((j : Int) < 200) = true := by simp; omega
      go_upto_if 66 with fail
      go_cut [66] from 67 to 73 (fun _ wx => ∃ (n N : Nat) (G : Nat → Prop) (f : Plc → Int) (qc : Cnt), n ≤ 131 + 2 * j ∧ N ≤ 131 + 2 * j ∧ BothG W [row] p cc m (PL W (⟨c, q, p, cc, F, 2⟩ : Bs) a k key false e r 0 L) (QL W b u m k key false e r L) G f qc n f N wx)
      case first =>
        by_cases hjz : j < zs.length
        · have hb2 : decide ((j : Int) < (zs.length : Int)) = true := by simp; omega
          have hjz1 : (j : Int) < (zs.length : Int) := by omega
          rcases HROW2.out with h0 | ⟨g0, off, rfl, hgl, hc⟩
          · rw [h0] at hjz; simp at hjz
          obtain ⟨a9, ha⟩ : ∃ a, zs.getD j default = a := ⟨_, rfl⟩
          have hao : OkActZ a9 := HOK2.out a9 (by rw [← ha, List.getD_eq_getElem?_getD, List.getElem?_eq_getElem hjz]; exact List.getElem_mem hjz)
          have hcj : CellsAt wr g0 (off + j * 5) (encActZ a9) := by rw [← ha]; exact (hc j hjz).below hB.below hgl
          obtain ⟨kd, ax, ay, az, av⟩ := a9
          obtain ⟨-, hx, hy, hz9, hv9⟩ := hao
          dsimp only at hx hy hz9 hv9
          have HWF : Hid (Wf (ax, ay, az)) := Lib.hid ⟨hx, hy, hz9⟩
          have HAV := Lib.hid hv9
          obtain ⟨c0, c1, c2', c3, c4⟩ := at_ActZ hcj
          have hds := Lib.hid (g_disturb kd ax ay az av HWF.out HAV.out (by unfold maxLen; omega) (by omega) hB)
          clear hc hcj hx hy hz9 hv9 ha
          go_wp2_with fail
          refine hds.out.mono ?_
          rintro o w14 ⟨rfl, G', f', n', hn', hB'⟩
          go_wp2_with fail
          go_meet
          case rel => exact ⟨n', N + 1, G', f', _, by omega, by omega, hB'⟩
        · have hb2 : decide ((j : Int) < (zs.length : Int)) = false := by simp; omega
          go_wp2_with fail
          go_meet
          case rel => exact ⟨n, N, G, f, qc, by omega, by omega, hB⟩
      case rest =>
        clear hB hn hN
        obtain ⟨n, N, G, f, qc, hn, hN, hB⟩ := hcut
        have hW := hB.words
        obtain ⟨s2, L2, f2, hq⟩ : ∃ a b c, laneM k key false e L f = (a, b, c) := ⟨_, _, _, rfl⟩
        have hlv : 0 ≤ k ∧ k ≤ 1000000 := by omega
        have hst := g_prog (B := (⟨c, q, p, cc, F, 2⟩ : Bs)) hL.out hlv hwf.out HG.out (by unfold maxLen; omega) hB
        rw [hq] at hst
        have hstate : s2 = 0 ∨ s2 = 1 ∨ s2 = 2 := by
          have := lane_state k key false e L f
          rw [hq] at this
          exact this
        have HOK9 : Hid (s2 = 0 → LmOk L2 ∧ Wf L2.p) := Lib.hid (by
          have := lane_ok (lv := k) (key := key) (vs := false) (e := e) hL.out hW.u hwf.out hlv
          rw [hq] at this
          exact this)
        have HST := Lib.hid hst
        have HREF : Hid (∀ PC G qd n v, BothG W [row] p cc m PC (QL W b u m k key false e r L) G f2 qd n f N v → Calls Tryz.prog 33 #[.pointer (some ⟨b, 0, none⟩), .pointer (some ⟨u, 0, none⟩), .pointer (some ⟨m, 0, none⟩)] v fun o w' => o = .returned (.int .i64 s2) ∧ BothG W [row] p cc m PC (QL W b u m k key false e (rollM e L f r) L2) G f2 qd n f2 (N + 1) w') := Lib.hid fun PC G qd n v hv => by
          have h9 := g_ref (B := (⟨c, q, p, cc, F, 2⟩ : Bs)) hL.out hlv HER.out hW.u (by omega) hv
          rw [hq] at h9
          exact h9
        generalize rollM e L f r = r3 at *
        clear hst hB hW hq
        go_wp2_with fail
        refine HST.out.mono ?_
        rintro o w14 ⟨rfl, G2, n2, hn2, hB2⟩
        clear HST
        go_wp2_with fail
        refine (HREF.out _ _ _ _ _ hB2).mono ?_
        rintro o w15 ⟨rfl, hB3⟩
        clear HREF hB2
        replace hB3 : BothG W [row] p cc m (PL W (⟨c, q, p, cc, F, 2⟩ : Bs) a k key false e r3 s2 L2) (QL W b u m k key false e r3 L2) G2 f2 (laneQ L f qc) n2 f2 (N + 1) w15 := hB3
        generalize laneQ L f qc = qc2 at *
        have HB3 := Lib.hid hB3
        clear hB3
        rcases hstate with hs | hs | hs
        · have hok9 := HOK9.out hs
          have HLO := Lib.hid hok9
          clear hok9 HOK9
          subst hs
          go_wp2_with fail
          exact ⟨⟨j + 1, n2, N + 1, G2, f2, qc2, r3, L2, by simp, by omega, by omega, by omega, Lib.hid HLO.out.1, Lib.hid HLO.out.2, HB3.out⟩, by simp [intOf]; omega⟩
        · clear HOK9
          subst hs
          obtain ⟨E, nx, wd, hEw, hEo, hEm, hEf⟩ := g_done (B := (⟨c, q, p, cc, F, 2⟩ : Bs)) (by omega) (by omega) HB3.out
          obtain ⟨⟨x, y, z⟩, pc9, W9, X9, K9, V9, C9, fd9⟩ := L2
          have HBK : Hid (∀ v, E v → Blk 0 v a (laneC c k key false nx 1 x y z W9 C9 X9 wd fd9 V9) ∧ Blk 0 v b (rlC k key false x y z (pc9 : Int) W9 X9 K9 V9 C9 fd9)) := Lib.hid fun v hv => (hEf v hv).2
          have HBE : Hid (∀ v, E v → Below W.heap.size W v) := Lib.hid fun v hv => (hEf v hv).1
          have HEO := Lib.hid hEo
          have HEM : Hid (∀ v, E v → Calls Tryz.prog 27 #[.pointer (some ⟨p, 0, none⟩), .pointer (some ⟨m, 0, none⟩)] v fun o w' => o = .returned (.bool true) ∧ E w') := Lib.hid hEm
          clear hEf hEm hEo HB3
          have hap := at_place
          have hws := who_slot
          have hvw := val_word
          as_aux_lemma =>
            go_wp2_with fail
            refine wp_text (S := E) (by kernel_rfl) (by kernel_rfl) (HEO.out _ _ hEw (Below.refl _ _).drew) (fun hT => ?_)
            have hT9 := Lib.hid hT
            clear hT
            repeat (first
              | (refine text_value (v := ?_) hT9.out (by rfl) ?_ ?_; rotate_left; (focus (intro w5 hS; have rb := (HBK.out _ hS).2.rule; unfold rlC at rb; go_simp <;> with_reducible rfl)); (try simp only [Act.put, List.setIfInBounds_toArray, List.set_cons_zero, List.set_cons_succ]))
              | (refine text_off hT9.out (by rfl) ?_; (try simp only [Act.put, List.setIfInBounds_toArray, List.set_cons_zero, List.set_cons_succ]))
              | (refine text_call (v := ?_) (f := ?_) (args := ?_) hT9.out (by rfl) ?_ ?_ ?_; rotate_left 3; (focus (intro w5 hS; have rb := (HBK.out _ hS).2.rule; unfold rlC at rb; go_simp; constructor <;> with_reducible rfl)); (focus (intro w5 hS; (first | (with_reducible refine (found_g (HBK.out _ hS).1).mono ?_; rintro o w6 ⟨rfl, rfl⟩; constructor; with_reducible rfl; exact hS) | (with_reducible refine (who_g (HBK.out _ hS).1).mono ?_; rintro o w6 ⟨rfl, hb⟩; constructor; with_reducible rfl; exact HEO.out _ _ hS hb) | (with_reducible refine (at_g (HBK.out _ hS).1).mono ?_; rintro o w6 ⟨rfl, hb⟩; constructor; with_reducible rfl; exact HEO.out _ _ hS hb) | (with_reducible refine (into_g (HBK.out _ hS).1).mono ?_; rintro o w6 ⟨rfl, hb⟩; constructor; with_reducible rfl; exact HEO.out _ _ hS hb) | (with_reducible refine (out_g (HBK.out _ hS).1).mono ?_; rintro o w6 ⟨rfl, hb⟩; constructor; with_reducible rfl; exact HEO.out _ _ hS hb) | (with_reducible refine (HEM.out _ hS).mono ?_; rintro o w6 ⟨rfl, hb⟩; constructor; with_reducible rfl; exact hb)))); (try simp only [Act.put, List.setIfInBounds_toArray, List.set_cons_zero, List.set_cons_succ])))
            refine InText.nil fun w5 hS5 => ?_
            clear hT9
            go_wp2_with fail
            go_ret
            exact ⟨rfl, HBE.out _ hS5⟩
        · clear HOK9
          subst hs
          go_wp2_with fail
          refine (g_memory (by omega) (by omega) HB3.out).mono ?_
          rintro o w16 ⟨rfl, hB4⟩
          go_wp2_with fail
          go_ret
          exact ⟨rfl, hB4.below⟩
    · have hb1 : decide ((j : Int) < 200) = false := by simp; omega
      have hme := Lib.hid (g_memory (by omega) (by omega) hB)
      go_wp2_with fail
      refine hme.out.mono ?_
      rintro o w13 ⟨rfl, hB2⟩
      go_wp2_with fail
      go_ret
      exact ⟨rfl, hB2.below⟩

theorem own : ownKnob Tryz.prog.godebug = none := by kernel_rfl
theorem laidOut : laidOutB Tryz.prog = true := by kernel_rfl

set_option maxRecDepth 100000 in
theorem lifted (os : Os) (started : os.Started) (H : Type) (enc : TypeId × Value → H) :
    ReturnsInHanded {} Tryz.checked os 4 .any (fun w args => (Rows.seekLevelsSpec.pre enc Tryz.prog Tryz.f4 [] false w args ∧ laidMetH Tryz.prog laid3 w) ∧ sizedMet enc Tryz.prog Tryz.f4 (OpenSpec.ofChange Rows.seekLevelsSpec) false w args)
      (Rows.seekLevelsSpec.post enc Tryz.prog Tryz.f4 false true false false) := by
  refine returnsInHanded_of_change_and (C := Tryz.checked) (X := fun w _ => laidMetH Tryz.prog laid3 w) (fun _ _ _ hh h => h.of_heap hh) own started (by kernel_rfl) Tryz.func4
    (ChangeSpec.witness_shaped (enc := enc) (C := Tryz.checked) (os := os) (X := fun w _ => laidMetH Tryz.prog laid3 w) false (World.doorLaid Tryz.prog 24 os) #[.slice none 0 0, .int .i64 0, .int .u64 0, .slice none 0 0] 8 rfl (World.shaped_of_RefB (by kernel_rfl) (by kernel_rfl)) (by kernel_rfl) (by kernel_rfl) (by kernel_rfl) (door_met os _)) ?_
  intro W base args ds gs before hval0 hW _ _ hL _
  have hval : ∀ (j : Nat) t v, Tryz.f4.params[j]? = some t → args[j]? = some v → Value.okWide Tryz.prog W .any base t v := hval0
  have hW' := hW
  obtain ⟨p, q, hA0, hV, rfl, hfz, hnd⟩ := hW
  have hA : DataW.TrodAll enc Tryz.prog W 0 (fun _ => true) true Tryz.f4.params.toList args.toList ds p := hA0
  rw [Tryz.params4] at hA hval
  obtain ⟨v0, vs0, d0, ds0, p0, q0, hargs, rfl, rfl, g0, r0⟩ := trodAll_cons hA
  obtain ⟨v1, vs1, d1, ds1, p1, q1, rfl, rfl, rfl, g1, r1⟩ := trodAll_cons r0
  obtain ⟨v2, vs2, d2, ds2, p2, q2, rfl, rfl, rfl, g2, r2⟩ := trodAll_cons r1
  obtain ⟨v3, vs3, d3, ds3, p3, q3, rfl, rfl, rfl, g3, r3⟩ := trodAll_cons r2
  obtain ⟨rfl, rfl, rfl⟩ := trodAll_nil r3
  obtain rfl : args = #[v0, v1, v2, v3] := by cases args; simp_all
  obtain ⟨rfl, rfl⟩ := trodVars_none hV
  obtain ⟨a1, rfl, rfl, rfl, w1⟩ := open_int Tryz.underlying3 (hval 1 3 v1 rfl rfl) g1
  have h1 := i64_in w1
  obtain ⟨a2, rfl, rfl, rfl, w2⟩ := open_int Tryz.underlying23 (hval 2 23 v2 rfl rfl) g2
  have h2 := u64_in w2
  obtain ⟨A0, n0, cap0, rfl⟩ := okWide_slice Tryz.underlying22 (hval 0 22 v0 rfl rfl)
  obtain ⟨zs0, rfl, h0, w0, row0⟩ := open_NdI g0 (fun x hx => hW'.lt x (by simp [hx]))
  unfold maxLen at h0
  obtain ⟨A3, n3, cap3, rfl⟩ := okWide_slice Tryz.underlying24 (hval 3 24 v3 rfl rfl)
  obtain ⟨zs3, rfl, h3, w3, row3⟩ := open_ActZ g3 (fun x hx => hW'.lt x (by simp [hx]))
  unfold maxLen at h3
  clear hA0 hval0
  have hG := glo_of_laid hL
  refine (walk zs0 A0 cap0 h0 a1 a2 zs3 A3 cap3 h3 W w0 row0 w3 row3 hG).mono fun e W' ⟨he, hg⟩ => ?_
  subst he
  exact ⟨_, rfl, law_post laidOut (by kernel_rfl) (by kernel_rfl) Tryz.underlying4 rfl rfl hW' hg⟩

theorem over : Rows.seekLevelsRow.holds Tryz.pinned (OpenSpec.ofChange Rows.seekLevelsSpec) :=
  OpenClaim.holds_of_wide 4 Tryz.f4 rfl rfl rfl rfl rfl rfl rfl ⟨rfl, rfl, rfl, rfl, rfl⟩ rfl rfl rfl rfl rfl (by kernel_rfl) Tryz.func4 (by kernel_rfl)
    (of_decide_eq_true (by kernel_rfl)) (by unfold Func.isWrapper; first | (rw [if_pos (by decide +kernel)]; kernel_rfl) | (rw [if_neg (by decide +kernel)]; exact ⟨rfl, rfl⟩))
    (fun os started H enc _ => lifted os started H enc)

/-- THE STATEMENT. -/
theorem proved : Rows.SeekLevelsCardSaid :=
  Claim7.holds_tied_plain_at .later [] [.wider, .wider, .wider] true _ true
    over (fun _ h => by cases h) (by kernel_rfl) (fun _ h => by cases h) seekLevels_row_tie rfl ⟨rfl, rfl⟩ (by kernel_rfl) rfl
    (fun f fn hf hfn => by
      obtain rfl : f = 4 := Option.some.inj ((show Tryz.prog.funcNamed "revenant/revenantlaw15.SeekLevels" = some 4 by kernel_rfl).symm.trans hf) |>.symm
      obtain rfl : fn = Tryz.f4 := (Option.some.inj (Tryz.func4.symm.trans hfn)).symm
      exact ⟨by kernel_rfl, fun j t ht => by
        rw [Tryz.params4] at ht
        have hm : t ∈ [22, 3, 23, 24] := by simpa using Array.mem_of_getElem? ht
        have hall : ([22, 3, 23, 24].all fun u => !Tryz.prog.wantsStandIn u) = true := by kernel_rfl
        exact (show Tryz.prog.wantsStandIn t = false by simpa using List.all_eq_true.1 hall t hm)⟩)
    (by kernel_rfl)
#print axioms proved
end Go.Proofs.YtchcdfoncebemaaGreatDoor.seekLevels
