/- What is proved on the way to the statement, part 10 of 14: contracts of the functions, among other things in memory. -/
import Derived.Test.YtmifdkbpbkafjaaGreatDoorE9
import Derived.Shelf.SlMaps.Clone
import Derived.Ground.SlmcProg
import Derived.Test.YtmifdkbpbkafjaaGreatDoorProg
import Derived.Shelf.SlSortCmp.NoneTotal
import Derived.Shelf.SlMaps.Equal
import Derived.Shelf.SlicesG.Cmp
import Derived.Shelf.SlGeneric
import Derived.Ground.SlsfProg
import Derived.Ground.SlmeProg
import Derived.Ground.SlgcProg
import Derived.Shelf.Lay
import Derived.Shelf.LaySoft
import Derived.LoopN
import Derived.RangeFuncNested
import Derived.RangeFuncBound
import Derived.RangeFuncCalls
import Derived.RangeFuncLeaves
import Derived.OwnWalkIn
import Derived.TacticsInMore
import Derived.LoopNIn
import Derived.LoopIn
import Derived.Maps.AppendAt
import Derived.Sort.MapsRangeIn
import Derived.Laws.IdiomRangeMap

/- Threads: an Alloc's step, of the program and of the reference, whatever its row. -/
namespace Go.Proofs.YtmifdkbpbkafjaaGreatDoor
open Go.RowKit Go.Maps
set_option maxRecDepth 100000

/-- The thread's, and the world's, in the program. -/
def SP (C : Cf) (X : Tm) (V : Wm) (T : Th) (f : Plc → Int) (G : Nat → Prop) (qc : Cnt) (n : Nat) : ST := { c := X.c, q := X.q, p := V.p, cc := V.cc, ck := C.k, cs := C.s, cb := C.b, ch := C.h, cl := C.l, ce := T.e, cr := X.cr, hs := T.hs, F := X.F, ql := T.ql, kq := X.kq, G := G, f := f, qc := qc, m := n }
/-- The words of a birth. -/
def WD (C : Cf) (d : Dd) (T : Th) : List (Int × Int) := wordsA C.k T.e d.key d.val (IntKind.u64.wrap d.lv)
def maD (a : Nat) (d : Dd) (T : Th) (left : Value) (s : Int) : MA := { nx := nxA a T.apc, left := left, k := d.ok, key := d.key, val := d.val, lv := d.lv, h := T.ah, n := T.an, r := T.ar, s := s }
def avD (c a : Nat) (d : Dd) (T : Th) (left : Value) (s : Int) : List Value := av c (maD a d T left s)
/-- What is left of a birth's words. -/
def LeftIs (C : Cf) (d : Dd) (T : Th) (left : Value) (s : Int) (gl : List Item) : Prop :=
  if T.apc ≤ 10 then gl = [] else ∃ g c9 N, gl = [lieI g (flat2 (WD C d T))] ∧ s = T.hs ∧ left = .slice (some ⟨g, 2 * (T.apc - 10), none⟩) (N + 1) c9 ∧ N + 1 ≤ c9 ∧ (WD C d T).length = (T.apc - 10) + (N + 1)
/-- What an Alloc's row asks of its thread. -/
structure RowOk (C : Cf) (T : Th) (n : Nat) : Prop where
  (he : 0 ≤ T.e ∧ T.e ≤ 9223372036854775807)
  (hn : n < maxLen)
  (hl : T.ql.length + 1 ≤ 1000000)
  (hs : 0 ≤ C.s ∧ C.s ≤ 9223372036854775806)
  (hw : InU T.ah ∧ InU T.an ∧ InU T.ar)
  (apc : T.apc = 1 ∨ T.apc = 2 ∨ T.apc = 3 ∨ T.apc = 4 ∨ T.apc = 5 ∨ T.apc = 6 ∨ 10 ≤ T.apc)
  (born : T.apc = 10 → T.hs = 0 ∧ ∃ x y t, T.ql = (x, y, 0) :: t ∧ 1 ≤ x ∧ x ≤ C.s)
  (hh : In64 T.hs)
theorem flat2_at (l : List (Int × Int)) (k : Nat) {a b : Int} (h : l[k]? = some (a, b)) : (flat2 l)[2 * k]? = some (.int .i64 a) ∧ (flat2 l)[2 * k + 1]? = some (.int .u64 b) := by
  induction l generalizing k with
  | nil => simp at h
  | cons p r ih =>
    cases k with
    | zero =>
      simp at h
      subst h
      simp [flat2]
    | succ k =>
      have h' : r[k]? = some (a, b) := by simpa using h
      have := ih k h'
      have e1 : 2 * (k + 1) = 2 * k + 1 + 1 := by omega
      rw [e1]
      simpa [flat2] using this
theorem WD_in {C : Cf} {d : Dd} {T : Th} (he : 0 ≤ T.e ∧ T.e ≤ 9223372036854775807) (hd : InU d.key ∧ InU d.val) {k : Nat} {a b : Int} (h : (WD C d T)[k]? = some (a, b)) : In64 a ∧ InU b := by
  have hm : (a, b) ∈ WD C d T := List.mem_of_getElem? h
  have hw : InU (IntKind.u64.wrap d.lv) := by rw [IntKind.wrap_u64]; unfold InU; omega
  unfold WD wordsA at hm
  have h0 : InU 0 := by unfold InU; omega
  have h1 : InU T.e := by unfold InU; omega
  split at hm
  · simp at hm
    rcases hm with ⟨rfl, rfl⟩ | ⟨rfl, rfl⟩ | ⟨rfl, rfl⟩ | ⟨rfl, rfl⟩ <;> exact ⟨by unfold In64; omega, by first | exact h1 | exact h0 | exact hd.1 | exact hd.2⟩
  · split at hm
    · simp at hm
      rcases hm with ⟨rfl, rfl⟩ | ⟨rfl, rfl⟩ | ⟨rfl, rfl⟩ | ⟨rfl, rfl⟩ | ⟨rfl, rfl⟩ <;> exact ⟨by unfold In64; omega, by first | exact h1 | exact h0 | exact hd.1 | exact hw⟩
    · simp at hm
      rcases hm with ⟨rfl, rfl⟩ | ⟨rfl, rfl⟩ | ⟨rfl, rfl⟩ <;> exact ⟨by unfold In64; omega, by first | exact h1 | exact h0 | exact hd.1⟩
theorem decP_in (ql : List Trip) (e l : Int) : decP ql e l = 0 ∨ decP ql e l = 1 ∨ decP ql e l = 2 ∨ decP ql e l = 10 := by
  rcases ql with _ | ⟨⟨x, y, z⟩, t⟩
  · exact .inr (.inr (.inl rfl))
  · simp only [decP]
    split
    · simp
    · split <;> simp
theorem fnA_store {pc : Nat} (h : 11 ≤ pc) : fnA pc = 117 := by
  unfold fnA
  rw [if_neg (by omega), if_neg (by omega), if_neg (by omega), if_neg (by omega), if_neg (by omega), if_neg (by omega), if_neg (by omega)]
theorem LeftIs.low {C : Cf} {d : Dd} {T : Th} (h : T.apc ≤ 10) : LeftIs C d T (.slice none 0 0) 0 [] := by unfold LeftIs; rw [if_pos h]
theorem LeftIs.of {C : Cf} {d : Dd} {T : Th} {left : Value} {s : Int} (h : T.apc ≤ 10) : LeftIs C d T left s [] := by unfold LeftIs; rw [if_pos h]
theorem WD_len (C : Cf) (d : Dd) (T : Th) : 3 ≤ (WD C d T).length ∧ (WD C d T).length ≤ 5 := by
  unfold WD
  rw [wordsA_len]
  split
  · omega
  · split <;> omega

section
variable {w0 w : World} {R : List Item} {C : Cf} {d : Dd} {X : Tm} {V : Wm} {T : Th} {f : Plc → Int} {G : Nat → Prop} {qc : Cnt} {n a : Nat} {left : Value} {s : Int} {gl : List Item}
set_option maxHeartbeats 1600000 in
theorem alP (hg : Glo w0) (hk : RowOk C T n) (hd : InU d.key ∧ InU d.val) (hlf : LeftIs C d T left s gl) (hE : Env w0 (boxI a (avD X.c a d T left s) :: LT (SP C X V T f G qc n) (gl ++ R)) w) :
    Calls Tryz.prog 32 #[.pointer (some ⟨a, 0, none⟩), .iface 28 (.pointer (some ⟨V.p, 0, none⟩))] w fun o w' => o = .returned (.int .i64 (allocM C d T f).1) ∧ ∃ (F' : Nat → Prop) (k' : Nat) (G' : Nat → Prop) (qc' : Cnt) (n' : Nat), n' ≤ n + 1 ∧ (((allocM C d T f).1 = 0 ∧ ∃ left' s' gl', LeftIs C d (allocM C d T f).2.1 left' s' gl' ∧ Env w0 (boxI a (avD X.c a d (allocM C d T f).2.1 left' s') :: LT (SP C { X with F := F', kq := k' } V (allocM C d T f).2.1 (allocM C d T f).2.2 G' qc' n') (gl' ++ R)) w') ∨ ((allocM C d T f).1 ≠ 0 ∧ Env w0 (LT (SP C { X with F := F', kq := k' } V (allocM C d T f).2.1 (allocM C d T f).2.2 G' qc' n') R) w')) := by
  have drop : ∀ {S : ST} {y : Item} {w' : World}, Env w0 (y :: LT S R) w' → Env w0 (LT S R) w' := fun h => h.sub (.cons _ (List.Sublist.refl _))
  have hfu : ∀ x, InU (f x) := fun x => (hE.cell 4 rfl).words.1 x
  rcases hk.apc with h1 | h1 | h1 | h1 | h1 | h1 | h1
  · have hgl : gl = [] := by unfold LeftIs at hlf; rw [if_pos (by omega)] at hlf; exact hlf
    subst hgl
    have hal : allocM C d T f = (2, T, swf f (1, 0, 0) T.e (T.e + 1)) := by unfold allocM; rw [if_pos h1]
    rw [hal]
    refine (step_ay (S := SP C X V T f G qc n) (M := maD a d T left s) 1 _ hE (by simp [maD, h1]) (advance_a (S := SP C X V T f G qc n) (M := maD a d T left s) hk.he hk.hn hE)).mono ?_
    rintro o w1 ⟨rfl, nx, G', hE1⟩
    exact ⟨rfl, X.F, X.kq, G', _, n + 1, Nat.le_refl _, .inr ⟨show (2 : Int) ≠ 0 by decide, drop hE1⟩⟩
  · have hgl : gl = [] := by unfold LeftIs at hlf; rw [if_pos (by omega)] at hlf; exact hlf
    subst hgl
    by_cases hx : C.s ≤ f (3, 0, 0)
    · have hal : allocM C d T f = (0, { T with apc := 3 }, upd f (3, 0, 0) (IntKind.u64.wrap (f (3, 0, 0) + 1))) := by unfold allocM; rw [if_neg (by omega), if_pos h1, if_pos hx]
      rw [hal]
      refine (step_ay (S := SP C X V T f G qc n) (M := maD a d T left s) 2 _ hE (by simp [maD, h1]) (freshNo_a (S := SP C X V T f G qc n) (M := maD a d T left s) _ rfl (hfu _).1 hx hk.hs hk.hn hE)).mono ?_
      rintro o w1 ⟨rfl, G', hE1⟩
      exact ⟨rfl, X.F, X.kq, G', _, n + 1, Nat.le_refl _, .inl ⟨rfl, left, s, [], .of (show (3 : Nat) ≤ 10 by decide), hE1⟩⟩
    · have hal : allocM C d T f = (decS (T.ql ++ [(f (3, 0, 0) + 1, 0, 0)]) T.e C.l, { T with ql := T.ql ++ [(f (3, 0, 0) + 1, 0, 0)], apc := decP (T.ql ++ [(f (3, 0, 0) + 1, 0, 0)]) T.e C.l }, upd f (3, 0, 0) (IntKind.u64.wrap (f (3, 0, 0) + 1))) := by unfold allocM; rw [if_neg (by omega), if_pos h1, if_neg hx]
      rw [hal]
      refine (step_ay (S := SP C X V T f G qc n) (M := maD a d T left s) 2 _ hE (by simp [maD, h1]) (freshYes_a (S := SP C X V T f G qc n) (M := maD a d T left s) _ rfl (Nat.le_trans hk.hl (by decide)) (hfu _).1 (show f (3, 0, 0) < C.s by omega) hk.hs.2 hk.hn hE)).mono ?_
      rintro o w1 ⟨rfl, nx, k', F', G', hnx, -, hE1⟩
      have hin := decP_in (T.ql ++ [(f (3, 0, 0) + 1, 0, 0)]) T.e C.l
      by_cases hz : decP (T.ql ++ [(f (3, 0, 0) + 1, 0, 0)]) T.e C.l = 0
      · exact ⟨rfl, F', k', G', _, n + 1, Nat.le_refl _, .inr ⟨show decS (T.ql ++ [(f (3, 0, 0) + 1, 0, 0)]) T.e C.l ≠ 0 by unfold decS; rw [if_pos hz]; decide, drop hE1⟩⟩
      · have hnx := hnx hz
        subst hnx
        exact ⟨rfl, F', k', G', _, n + 1, Nat.le_refl _, .inl ⟨show decS (T.ql ++ [(f (3, 0, 0) + 1, 0, 0)]) T.e C.l = 0 by unfold decS; rw [if_neg hz], left, s, [], .of (show decP (T.ql ++ [(f (3, 0, 0) + 1, 0, 0)]) T.e C.l ≤ 10 by omega), hE1⟩⟩
  · have hgl : gl = [] := by unfold LeftIs at hlf; rw [if_pos (by omega)] at hlf; exact hlf
    subst hgl
    have hal : allocM C d T f = (poolS (f (2, 0, 0)) C.l, { T with ah := f (2, 0, 0), apc := 4 }, f) := by unfold allocM; rw [if_neg (by omega), if_neg (by omega), if_pos h1]
    rw [hal]
    refine (step_ay (S := SP C X V T f G qc n) (M := maD a d T left s) 3 _ hE (by simp [maD, h1]) (loadPool_a (S := SP C X V T f G qc n) (M := maD a d T left s) _ rfl hg hE)).mono ?_
    rintro o w1 ⟨rfl, nx, hnx, hE1⟩
    by_cases hz : poolS (f (2, 0, 0)) C.l = 0
    · have hnx := hnx hz
      subst hnx
      exact ⟨rfl, X.F, X.kq, G, _, n, by omega, .inl ⟨hz, left, s, [], .of (show (4 : Nat) ≤ 10 by decide), hE1⟩⟩
    · exact ⟨rfl, X.F, X.kq, G, _, n, by omega, .inr ⟨hz, drop hE1⟩⟩
  · have hgl : gl = [] := by unfold LeftIs at hlf; rw [if_pos (by omega)] at hlf; exact hlf
    subst hgl
    have hal : allocM C d T f = (0, { T with an := f (5, slotI T.ah, 2), apc := 5 }, f) := by unfold allocM; rw [if_neg (by omega), if_neg (by omega), if_neg (by omega), if_pos h1]
    rw [hal]
    refine (step_ay (S := SP C X V T f G qc n) (M := maD a d T left s) 4 _ hE (by simp [maD, h1]) (loadChain_a (S := SP C X V T f G qc n) (M := maD a d T left s) _ rfl hk.hw.1 hg hE)).mono ?_
    rintro o w1 ⟨rfl, hE1⟩
    exact ⟨rfl, X.F, X.kq, G, _, n, by omega, .inl ⟨rfl, left, s, [], .of (show (5 : Nat) ≤ 10 by decide), hE1⟩⟩
  · have hgl : gl = [] := by unfold LeftIs at hlf; rw [if_pos (by omega)] at hlf; exact hlf
    subst hgl
    have hal : allocM C d T f = (0, { T with ar := f (5, slotI T.ah, 1), apc := 6 }, f) := by unfold allocM; rw [if_neg (by omega), if_neg (by omega), if_neg (by omega), if_neg (by omega), if_pos h1]
    rw [hal]
    refine (step_ay (S := SP C X V T f G qc n) (M := maD a d T left s) 5 _ hE (by simp [maD, h1]) (loadRetired_a (S := SP C X V T f G qc n) (M := maD a d T left s) _ rfl hk.hw.1 hg hE)).mono ?_
    rintro o w1 ⟨rfl, hE1⟩
    exact ⟨rfl, X.F, X.kq, G, _, n, by omega, .inl ⟨rfl, left, s, [], .of (show (6 : Nat) ≤ 10 by decide), hE1⟩⟩
  · have hgl : gl = [] := by unfold LeftIs at hlf; rw [if_pos (by omega)] at hlf; exact hlf
    subst hgl
    by_cases hx : f (2, 0, 0) = T.ah
    · have hal : allocM C d T f = (decS (T.ql ++ [(slotI T.ah, epI T.ar, 0)]) T.e C.l, { T with ql := T.ql ++ [(slotI T.ah, epI T.ar, 0)], apc := decP (T.ql ++ [(slotI T.ah, epI T.ar, 0)]) T.e C.l }, swf f (2, 0, 0) T.ah (nextW T.ah (slotI T.an))) := by unfold allocM; rw [if_neg (by omega), if_neg (by omega), if_neg (by omega), if_neg (by omega), if_neg (by omega), if_pos h1, if_pos hx]
      rw [hal]
      refine (step_ay (S := SP C X V T f G qc n) (M := maD a d T left s) 6 _ hE (by simp [maD, h1]) (takeYes_a (S := SP C X V T f G qc n) (M := maD a d T left s) hx hk.hw.2.2 (Nat.le_trans hk.hl (by decide)) hk.hw.1 hk.hw.2.1 hg hk.hn hE)).mono ?_
      rintro o w1 ⟨rfl, nx, k', F', G', hnx, -, hE1⟩
      have hin := decP_in (T.ql ++ [(slotI T.ah, epI T.ar, 0)]) T.e C.l
      by_cases hz : decP (T.ql ++ [(slotI T.ah, epI T.ar, 0)]) T.e C.l = 0
      · exact ⟨rfl, F', k', G', _, n + 1, Nat.le_refl _, .inr ⟨show decS (T.ql ++ [(slotI T.ah, epI T.ar, 0)]) T.e C.l ≠ 0 by unfold decS; rw [if_pos hz]; decide, drop hE1⟩⟩
      · have hnx := hnx hz
        subst hnx
        exact ⟨rfl, F', k', G', _, n + 1, Nat.le_refl _, .inl ⟨show decS (T.ql ++ [(slotI T.ah, epI T.ar, 0)]) T.e C.l = 0 by unfold decS; rw [if_neg hz], left, s, [], .of (show decP (T.ql ++ [(slotI T.ah, epI T.ar, 0)]) T.e C.l ≤ 10 by omega), hE1⟩⟩
    · have hal : allocM C d T f = (0, { T with apc := 3 }, swf f (2, 0, 0) T.ah (nextW T.ah (slotI T.an))) := by unfold allocM; rw [if_neg (by omega), if_neg (by omega), if_neg (by omega), if_neg (by omega), if_neg (by omega), if_pos h1, if_neg hx]
      rw [hal]
      refine (step_ay (S := SP C X V T f G qc n) (M := maD a d T left s) 6 _ hE (by simp [maD, h1]) (takeNo_a (S := SP C X V T f G qc n) (M := maD a d T left s) _ rfl hx hk.hw.1 hk.hw.2.1 hg hk.hn hE)).mono ?_
      rintro o w1 ⟨rfl, G', hE1⟩
      exact ⟨rfl, X.F, X.kq, G', _, n + 1, Nat.le_refl _, .inl ⟨rfl, left, s, [], .of (show (3 : Nat) ≤ 10 by decide), hE1⟩⟩
  · obtain ⟨hl3, hl5⟩ := WD_len C d T
    by_cases h10 : T.apc = 10
    · have hgl : gl = [] := by unfold LeftIs at hlf; rw [if_pos (by omega)] at hlf; exact hlf
      subst hgl
      obtain ⟨hhs, x, y, t, hql, hx1, hx2⟩ := hk.born h10
      have hal : allocM C d T f = (lastS 0 (WD C d T).length, { T with ql := t, hs := x, apc := 11 }, upd f (5, x, 0) T.e) := by
        unfold allocM
        rw [if_neg (by omega), if_neg (by omega), if_neg (by omega), if_neg (by omega), if_neg (by omega), if_neg (by omega)]
        simp only [h10, hql, if_true, List.tail_cons, List.headD_cons]
        rfl
      have hls : lastS 0 (WD C d T).length = 0 := by unfold lastS; rw [if_neg (by omega)]
      rw [hal, hls]
      refine (step_ay (S := SP C X V T f G qc n) (M := maD a d T left s) 10 _ hE (by simp [maD, h10]) (birth_a (S := SP C X V T f G qc n) (M := maD a d T left s) x y t hql ⟨hx1, hx2⟩ hk.hs.2 hhs hk.he hk.hn hE)).mono ?_
      rintro o w1 ⟨rfl, g, c, G', hgc, hE1⟩
      obtain ⟨N, hN⟩ : ∃ N, (WD C d T).length = N + 2 := ⟨(WD C d T).length - 2, by omega⟩
      have hgc2 : N + 2 ≤ c := by rw [← hN]; exact hgc
      have hli : LeftIs C d { T with ql := t, hs := x, apc := 11 } (.slice (some ⟨g, 2, none⟩) ((WD C d T).length - 1) (c - 1)) x [lieI g (flat2 (WD C d T))] := by
        unfold LeftIs
        rw [if_neg (show ¬ (11 : Nat) ≤ 10 by decide)]
        refine ⟨g, c - 1, N, rfl, rfl, ?_, by omega, ?_⟩
        · rw [hN]
          rfl
        · show (WD C d T).length = (11 - 10) + (N + 1)
          omega
      exact ⟨rfl, X.F, X.kq, G', _, n + 1, Nat.le_refl _, .inl ⟨rfl, _, x, _, hli, hE1⟩⟩
    · have h11 : 11 ≤ T.apc := by omega
      unfold LeftIs at hlf
      rw [if_neg (by omega)] at hlf
      obtain ⟨g, c9, N, rfl, rfl, rfl, hc9, hlen⟩ := hlf
      obtain ⟨k, hk10⟩ : ∃ k, T.apc = 10 + k := ⟨T.apc - 10, by omega⟩
      have hkk : T.apc - 10 = k := by omega
      rw [hkk] at hlen hE
      obtain ⟨⟨part, word⟩, hpw⟩ : ∃ pw, (WD C d T)[k]? = some pw := ⟨_, List.getElem?_eq_getElem (by omega)⟩
      obtain ⟨hp64, hwu⟩ := WD_in hk.he hd hpw
      obtain ⟨hc0, hc1⟩ := flat2_at _ _ hpw
      have hal : allocM C d T f = (lastS k (WD C d T).length, { T with apc := T.apc + 1 }, upd f (5, T.hs, part) word) := by
        unfold allocM
        rw [if_neg (by omega), if_neg (by omega), if_neg (by omega), if_neg (by omega), if_neg (by omega), if_neg (by omega)]
        have hg : (wordsA C.k T.e d.key d.val (IntKind.u64.wrap d.lv)).getD k (0, 0) = (part, word) := by
          have h9 : (wordsA C.k T.e d.key d.val (IntKind.u64.wrap d.lv))[k]? = some (part, word) := hpw
          rw [List.getD_eq_getElem?_getD, h9]
          rfl
        simp only [hkk, hg]
        rw [if_neg (by omega)]
        rfl
      have hst := store_a (S := SP C X V T f G qc n) (M := { nx := nxA a T.apc, left := .slice (some ⟨g, 2 * k, none⟩) (N + 1) c9, k := d.ok, key := d.key, val := d.val, lv := d.lv, h := T.ah, n := T.an, r := T.ar, s := T.hs }) g (2 * k) N c9 part word hc9 hp64 hwu hk.hh hk.hn rfl hc0 hc1 hE
      rw [← fnA_store h11] at hst
      rw [hal]
      have hls : lastS k (WD C d T).length = if N = 0 then 1 else 0 := by
        unfold lastS
        by_cases hN : N = 0
        · rw [if_pos hN, if_pos (by omega)]
        · rw [if_neg hN, if_neg (by omega)]
      rw [hls]
      refine (step_ay (S := SP C X V T f G qc n) T.apc _ hE rfl hst).mono ?_
      rintro o w1 ⟨rfl, nx, left, G', hnl, hE1⟩
      by_cases hN : N = 0
      · rw [if_pos hN]
        exact ⟨rfl, X.F, X.kq, G', _, n + 1, Nat.le_refl _, .inr ⟨show (1 : Int) ≠ 0 by decide, hE1.sub (.cons _ (.cons_cons _ (.cons_cons _ (.cons_cons _ (.cons_cons _ (.cons _ (List.Sublist.refl _)))))))⟩⟩
      · obtain ⟨rfl, rfl⟩ := hnl hN
        rw [if_neg hN]
        obtain ⟨M, rfl⟩ : ∃ M, N = M + 1 := ⟨N - 1, by omega⟩
        have hli : LeftIs C d { T with apc := T.apc + 1 } (.slice (some ⟨g, 2 * k + 2, none⟩) (M + 1) (c9 - 1)) T.hs [lieI g (flat2 (WD C d T))] := by
          unfold LeftIs
          rw [if_neg (show ¬ T.apc + 1 ≤ 10 by omega)]
          refine ⟨g, c9 - 1, M, rfl, rfl, ?_, by omega, ?_⟩
          · show _ = Value.slice (some ⟨g, 2 * (T.apc + 1 - 10), none⟩) (M + 1) (c9 - 1)
            rw [show 2 * (T.apc + 1 - 10) = 2 * k + 2 by omega]
          · show (WD C d T).length = (T.apc + 1 - 10) + (M + 1)
            omega
        have hnx : nxA a T.apc = nxA a (T.apc + 1) := by
          unfold nxA
          rw [fnA_store h11, fnA_store (by omega)]
        have hE2 : Env w0 (boxI a (avD X.c a d { T with apc := T.apc + 1 } (.slice (some ⟨g, 2 * k + 2, none⟩) (M + 1) (c9 - 1)) T.hs) :: LT (SP C X V { T with apc := T.apc + 1 } (upd f (5, T.hs, part) word) G' { qc with s := wrap64 (qc.s + 1) } (n + 1)) ([lieI g (flat2 (WD C d T))] ++ R)) w1 := by
          unfold avD maD
          rw [← hnx]
          exact hE1
        exact ⟨rfl, X.F, X.kq, G', _, n + 1, Nat.le_refl _, .inl ⟨rfl, _, T.hs, _, hli, hE2⟩⟩
end
end Go.Proofs.YtmifdkbpbkafjaaGreatDoor

/- Threads, by plain mathematics: what holds of memory and of each thread, and that steps keep it. -/
namespace Go.Proofs.YtmifdkbpbkafjaaGreatDoor
open Go.RowKit Go.Maps
set_option maxRecDepth 100000

structure COk (C : Cf) : Prop where
  (s : 1 ≤ C.s ∧ C.s ≤ 8388607)
  (l : 1 ≤ C.l ∧ C.l ≤ 1099511627775)
structure OkF (C : Cf) (f : Mem) : Prop where
  (u : ∀ x, InU (f x))
  (pool : slotI (f (2, 0, 0)) ≤ C.s)
  (chain : ∀ i, slotI (f (5, i, 2)) ≤ C.s)
  (ep : f (1, 0, 0) ≤ C.l)
structure OkT (C : Cf) (ds : List Dd) (B : Nat) (T : Th) : Prop where
  (e : 0 ≤ T.e ∧ T.e ≤ C.l)
  (w : InU T.ah ∧ InU T.an ∧ InU T.ar)
  (hs : 0 ≤ T.hs ∧ T.hs ≤ C.s)
  (rs : 0 ≤ T.rs ∧ T.rs ≤ C.s)
  (ql : ∀ x ∈ T.ql, 1 ≤ x.1 ∧ x.1 ≤ C.s ∧ x.2.2 = 0)
  (nd : T.nd ≤ ds.length)
  (len : T.ql.length + (ds.length - T.nd) ≤ B)
  (done : 0 ≤ T.done ∧ T.done ≤ B)
  (pc : T.pc = 0 ∨ T.pc = 1 ∨ T.pc = 2 ∨ T.pc = 3 ∨ T.pc = 4)
  (p1 : T.pc = 1 → T.hs = 0)
  (nd1 : T.pc ≠ 0 → 1 ≤ T.nd)
  (apc : T.pc = 2 → T.apc = 1 ∨ T.apc = 2 ∨ T.apc = 3 ∨ T.apc = 4 ∨ T.apc = 5 ∨ T.apc = 6 ∨ 10 ≤ T.apc)
  (low : T.pc = 2 → T.apc ≤ 10 → T.hs = 0)
  (adv : T.pc = 2 → T.apc = 1 → T.e < C.l)
  (born : T.pc = 2 → T.apc = 10 → T.ql ≠ [])
  (pool : T.pc = 2 → 4 ≤ T.apc → T.apc ≤ 6 → 1 ≤ slotI T.ah ∧ slotI T.ah ≤ C.s ∧ verI T.ah < C.l)
  (an : slotI T.an ≤ C.s)
  (rpc : T.pc = 3 → T.rpc = 0 ∨ T.rpc = 1)
  (rsp : T.pc = 3 → 1 ≤ T.rs)
  (re : 0 ≤ T.re ∧ T.re ≤ C.l)
  (gpc : T.gpc ≤ 3)
  (give : T.pc = 4 → 1 ≤ T.gpc → T.ql ≠ [])
  (ghu : InU T.gh)
  (gh : slotI T.gh ≤ C.s)
  (gv : T.pc = 4 → 2 ≤ T.gpc → verI T.gh < C.l)

theorem no {a b : Nat} {P : Prop} (h : a = b) (hab : (a == b) = false) : P := by
  simp at hab
  exact absurd h hab
theorem slot_next {x s S : Int} (h0 : 0 ≤ S) (hs : s ≤ S) : slotI (nextW x s) ≤ S := by
  have h9 : slotI 0 = 0 := by decide
  unfold nextW
  split
  · rename_i h
    have := isS_parts h
    have hv := verI_in x
    split
    · omega
    · rw [slot_word (isL_mk this.1 this.2 (by omega) (by omega))]
      exact hs
  · omega
theorem slot_link {s S : Int} (h0 : 0 ≤ S) (hs : s ≤ S) : slotI (wordI false s 0) ≤ S := by
  have h9 : slotI 0 = 0 := by decide
  by_cases h : isL s 0 = true
  · rw [slot_word h]; exact hs
  · rw [wordI_no (by simpa using h)]; omega
theorem epI_of {x l : Int} (hx : InU x) (h : x ≤ l) (hl : l ≤ 1099511627775) : epI x = x ∧ 0 ≤ x := by
  unfold InU at hx
  unfold epI
  rw [if_pos (by omega)]
  exact ⟨rfl, by omega⟩
theorem swf_at (f : Mem) (x y : Plc) (o v : Int) : swf f x o v y = if y = x ∧ f x = o then v else f y := by
  unfold swf upd
  by_cases h : f x = o
  · rw [if_pos h]
    by_cases hy : y = x
    · rw [if_pos hy, if_pos ⟨hy, h⟩]
    · rw [if_neg hy, if_neg (fun h2 => hy h2.1)]
  · rw [if_neg h, if_neg (fun h2 => h h2.2)]
theorem part_ne (ck e key val lv : Int) (k : Nat) : ((wordsA ck e key val lv).getD k (0, 0)).1 ≠ 2 := by
  rw [List.getD_eq_getElem?_getD]
  rcases h : (wordsA ck e key val lv)[k]? with _ | ⟨a, b⟩
  · simp
  · have hm : (a, b) ∈ wordsA ck e key val lv := List.mem_of_getElem? h
    simp only [Option.getD_some]
    unfold wordsA at hm
    split at hm
    · simp at hm
      rcases hm with ⟨rfl, rfl⟩ | ⟨rfl, rfl⟩ | ⟨rfl, rfl⟩ | ⟨rfl, rfl⟩ <;> decide
    · split at hm
      · simp at hm
        rcases hm with ⟨rfl, rfl⟩ | ⟨rfl, rfl⟩ | ⟨rfl, rfl⟩ | ⟨rfl, rfl⟩ | ⟨rfl, rfl⟩ <;> decide
      · simp at hm
        rcases hm with ⟨rfl, rfl⟩ | ⟨rfl, rfl⟩ | ⟨rfl, rfl⟩ <;> decide

section
variable {C : Cf} {ds : List Dd} {B : Nat} {T : Th} {f : Mem} {d : Dd}
theorem OkT.more (h : OkT C ds B T) : OkT C ds (B + 1) T :=
  { h with len := by have := h.len; omega, done := by have := h.done; constructor <;> omega }
/-- Of another part of a slot, or of FRESH, nothing hangs on. -/
theorem OkF.upd (h : OkF C f) {x : Plc} {v : Int} (h1 : x ≠ (1, 0, 0)) (h2 : x ≠ (2, 0, 0)) (h3 : ∀ i, x = (5, i, 2) → slotI v ≤ C.s) (hu : ∀ y, InU (Proofs.YtmifdkbpbkafjaaGreatDoor.upd f x v y)) : OkF C (Proofs.YtmifdkbpbkafjaaGreatDoor.upd f x v) := by
  refine ⟨hu, ?_, ?_, ?_⟩
  · rw [upd_other f v (fun e => h2 e.symm)]; exact h.pool
  · intro i
    by_cases hx : (5, i, 2) = x
    · rw [← hx, upd_same]; exact h3 i hx.symm
    · rw [upd_other f v hx]; exact h.chain i
  · rw [upd_other f v (fun e => h1 e.symm)]; exact h.ep
theorem OkF.swp (h : OkF C f) {o v : Int} (hv : slotI v ≤ C.s) (hu : ∀ y, InU (swf f (2, 0, 0) o v y)) : OkF C (swf f (2, 0, 0) o v) := by
  refine ⟨hu, ?_, ?_, ?_⟩
  · rw [swf_at]; split
    · exact hv
    · exact h.pool
  · intro i
    rw [swf_at, if_neg (by simp)]; exact h.chain i
  · rw [swf_at, if_neg (by simp)]; exact h.ep
theorem OkF.swe (h : OkF C f) {o v : Int} (hv : v ≤ C.l) (hu : ∀ y, InU (swf f (1, 0, 0) o v y)) : OkF C (swf f (1, 0, 0) o v) := by
  refine ⟨hu, ?_, ?_, ?_⟩
  · rw [swf_at, if_neg (by simp)]; exact h.pool
  · intro i
    rw [swf_at, if_neg (by simp)]; exact h.chain i
  · rw [swf_at]; split
    · exact hv
    · exact h.ep

/-- A deed begins. -/
theorem begin_ok (k : Nat) : ∀ (r : List Dd) (T : Th), r = ds.drop T.nd → OkT C ds B T → T.pc = 0 → OkT C ds B (beginM r T).2 ∧ (beginM r T).2.pc = (if (beginM r T).1 then (beginM r T).2.pc else 0) ∧ ((beginM r T).1 = true → (beginM r T).2.pc = 1 ∨ (beginM r T).2.pc = 3 ∨ (beginM r T).2.pc = 4)
  | [], T, _, hT, hp => ⟨hT, by simp [beginM, hp], by simp [beginM]⟩
  | d :: r, T, hr, hT, hp => by
    have hlt : T.nd < ds.length := by
      have : (ds.drop T.nd).length = r.length + 1 := by rw [← hr]; rfl
      simp at this
      omega
    have hr' : r = ds.drop (T.nd + 1) := by
      rw [← List.drop_drop, ← hr]; rfl
    have hb := hT.len
    have hskip : OkT C ds B { T with nd := T.nd + 1 } := { hT with nd := hlt, len := (by show T.ql.length + (ds.length - (T.nd + 1)) ≤ B; omega), nd1 := fun _ => Nat.le_add_left 1 T.nd }
    have go := begin_ok k r { T with nd := T.nd + 1 } hr' hskip hp
    have h64 := hT.hs
    by_cases h1 : d.kind = 1 ∨ d.kind = 2 ∨ d.kind = 3
    · by_cases hz : T.hs = 0
      · rw [bm1 h1 hz]
        refine ⟨{ hskip with pc := .inr (.inl rfl), p1 := fun _ => hz, nd1 := fun _ => Nat.le_add_left 1 T.nd, apc := fun h => no h rfl, low := fun h => no h rfl, adv := fun h => no h rfl, born := fun h => no h rfl, pool := fun h => no h rfl, rpc := fun h => no h rfl, rsp := fun h => no h rfl, give := fun h => no h rfl, gv := fun h => no h rfl }, by simp, fun _ => .inl rfl⟩
      · rw [bm1c h1 hz]
        exact go
    · by_cases h4 : d.kind = 4 ∨ d.kind = 5
      · by_cases hz : T.hs = 0
        · rw [bm4c h1 h4 hz]
          exact go
        · rw [bm4 h1 h4 hz]
          refine ⟨{ hskip with hs := (by show (0 : Int) ≤ 0 ∧ (0 : Int) ≤ C.s; omega), rs := h64, re := (by have := hT.e; show (0 : Int) ≤ 0 ∧ (0 : Int) ≤ C.l; omega), pc := .inr (.inr (.inr (.inl rfl))), p1 := fun _ => rfl, nd1 := fun _ => Nat.le_add_left 1 T.nd, apc := fun h => no h rfl, low := fun h => no h rfl, adv := fun h => no h rfl, born := fun h => no h rfl, pool := fun h => no h rfl, rpc := fun _ => .inl rfl, rsp := fun _ => (by show 1 ≤ T.hs; omega), give := fun h => no h rfl, gv := fun h => no h rfl }, by simp, fun _ => .inr (.inl rfl)⟩
      · by_cases h6 : d.kind = 6
        · rw [bm6 h6]
          refine ⟨{ hskip with pc := .inr (.inr (.inr (.inr rfl))), p1 := fun h => no h rfl, nd1 := fun _ => Nat.le_add_left 1 T.nd, apc := fun h => no h rfl, low := fun h => no h rfl, adv := fun h => no h rfl, born := fun h => no h rfl, pool := fun h => no h rfl, rpc := fun h => no h rfl, rsp := fun h => no h rfl, gpc := Nat.zero_le 3, ghu := (by show InU 0; unfold InU; omega), gh := (by show slotI 0 ≤ C.s; rw [show slotI 0 = 0 from by decide]; omega), give := fun _ h => (Nat.not_succ_le_zero _ h).elim, gv := fun _ h => (Nat.not_succ_le_zero _ h).elim }, by simp, fun _ => .inr (.inr rfl)⟩
        · by_cases h7 : d.kind = 7
          · by_cases hz : T.hs = 0
            · rw [bm7c h7 hz]
              exact go
            · rw [bm7 h7 hz]
              refine begin_ok k r { T with nd := T.nd + 1, ql := T.ql ++ [(T.hs, 0, 0)], hs := 0 } hr' { hskip with hs := (by show (0 : Int) ≤ 0 ∧ (0 : Int) ≤ C.s; omega), ql := ?_, len := ?_, p1 := fun _ => rfl, low := fun _ _ => rfl, born := fun _ _ => by simp, give := fun _ _ => by simp } hp
              · intro x hx
                rcases List.mem_append.1 hx with hx | hx
                · exact hT.ql x hx
                · simp at hx
                  subst hx
                  exact ⟨by show 1 ≤ T.hs; omega, h64.2, rfl⟩
              · show (T.ql ++ [(T.hs, 0, 0)]).length + (ds.length - (T.nd + 1)) ≤ B
                simp
                omega
          · rw [bmO (by omega)]
            exact go
end
end Go.Proofs.YtmifdkbpbkafjaaGreatDoor

/- Threads, by plain mathematics: what is kept by a step. -/
namespace Go.Proofs.YtmifdkbpbkafjaaGreatDoor
open Go.RowKit Go.Maps
set_option maxRecDepth 100000

theorem decP_adv {ql : List Trip} {e l : Int} (h : decP ql e l = 1) : e < l := by
  rcases ql with _ | ⟨⟨x, y, z⟩, t⟩
  · exact no h rfl
  · simp only [decP] at h
    split at h
    · exact absurd h (by decide)
    · split at h
      · exact absurd h (by decide)
      · omega
theorem decP_born {ql : List Trip} {e l : Int} (h : decP ql e l = 10) : ql ≠ [] := by
  rintro rfl
  exact no h rfl
theorem decP_head {ql : List Trip} {e l : Int} (h : decP ql e l = 10) : ∃ x y z t, ql = (x, y, z) :: t ∧ y < e := by
  rcases ql with _ | ⟨⟨x, y, z⟩, t⟩
  · exact no h rfl
  · simp only [decP] at h
    split at h
    · rename_i h9
      exact ⟨x, y, z, t, rfl, h9⟩
    · split at h <;> exact absurd h (by decide)
theorem lastS_in (k n : Nat) : lastS k n = 0 ∨ lastS k n = 1 := by
  unfold lastS
  split
  · exact .inr rfl
  · exact .inl rfl
theorem decS_in {ql : List Trip} {e l : Int} : (decP ql e l = 0 ∧ decS ql e l = 4) ∨ (decP ql e l ≠ 0 ∧ decS ql e l = 0) := by
  unfold decS
  by_cases h : decP ql e l = 0
  · exact .inl ⟨h, if_pos h⟩
  · exact .inr ⟨h, if_neg h⟩
theorem gdS_in (ql : List Trip) : (ql = [] ∧ gdS ql = 1) ∨ (ql ≠ [] ∧ gdS ql = 0) := by
  rcases ql with _ | ⟨x, t⟩
  · exact .inl ⟨rfl, rfl⟩
  · exact .inr ⟨by simp, rfl⟩
theorem ql_add {C : Cf} {l : List Trip} {x y : Int} (h : ∀ z ∈ l, 1 ≤ z.1 ∧ z.1 ≤ C.s ∧ z.2.2 = 0) (h1 : 1 ≤ x) (h2 : x ≤ C.s) : ∀ z ∈ l ++ [(x, y, 0)], 1 ≤ z.1 ∧ z.1 ≤ C.s ∧ z.2.2 = 0 := by
  intro z hz
  rcases List.mem_append.1 hz with hz | hz
  · exact h z hz
  · simp at hz
    subst hz
    exact ⟨h1, h2, rfl⟩

section
variable {C : Cf} {ds : List Dd} {B : Nat} {T : Th} {f : Mem} {d : Dd}
theorem al_cases (C : Cf) (d : Dd) (T : Th) (f : Mem) (hp : T.pc = 2) : actM C d T f = ({ (allocM C d T f).2.1 with pc := if (allocM C d T f).1 = 2 then 1 else if (allocM C d T f).1 = 0 then 2 else 0, done := if (allocM C d T f).1 = 1 then T.done + 1 else T.done, full := (allocM C d T f).1 == 3 }, (allocM C d T f).2.2) := by
  unfold actM
  rw [if_neg (by omega), if_pos hp]
set_option maxHeartbeats 1600000 in
theorem act1_ok (hC : COk C) (hF : OkF C f) (hT : OkT C ds B T) (h1 : T.pc = 1) : OkF C (actM C d T f).2 ∧ OkT C ds (B + 1) (actM C d T f).1 := by
  have hp : T.pc ≠ 0 := by omega
  have hm := hT.more
  have hz : slotI 0 = 0 := by decide
  have hu0 : InU 0 := by unfold InU; omega
  have hs := hC.s
  have he := epI_of (hF.u (1, 0, 0)) hF.ep hC.l.2
  have he9 : 0 ≤ epI (f (1, 0, 0)) ∧ epI (f (1, 0, 0)) ≤ C.l := by rw [he.1]; exact ⟨he.2, hF.ep⟩
  unfold actM
  rw [if_pos h1]
  dsimp only
  generalize epI (f (1, 0, 0)) = e at he9
  by_cases hD : decP T.ql e C.l = 0
  · rw [if_pos hD]
    exact ⟨hF, { hm with e := he9, w := ⟨hu0, hu0, hu0⟩, an := (by show slotI 0 ≤ C.s; omega), pc := .inl rfl, nd1 := fun _ => hT.nd1 hp, p1 := fun h => no h rfl, apc := fun h => no h rfl, low := fun h => no h rfl, adv := fun h => no h rfl, born := fun h => no h rfl, pool := fun h => no h rfl, rpc := fun h => no h rfl, rsp := fun h => no h rfl, give := fun h => no h rfl, gv := fun h => no h rfl }⟩
  · rw [if_neg hD]
    refine ⟨hF, { hm with e := he9, w := ⟨hu0, hu0, hu0⟩, an := (by show slotI 0 ≤ C.s; omega), pc := .inr (.inr (.inl rfl)), nd1 := fun _ => hT.nd1 hp, p1 := fun h => no h rfl, rpc := fun h => no h rfl, rsp := fun h => no h rfl, give := fun h => no h rfl, gv := fun h => no h rfl, apc := fun _ => ?_, low := fun _ _ => hT.p1 h1, adv := fun _ h => decP_adv h, born := fun _ h => decP_born h, pool := fun _ ha hb => ?_ }⟩
    · show decP T.ql e C.l = 1 ∨ decP T.ql e C.l = 2 ∨ decP T.ql e C.l = 3 ∨ decP T.ql e C.l = 4 ∨ decP T.ql e C.l = 5 ∨ decP T.ql e C.l = 6 ∨ 10 ≤ decP T.ql e C.l
      rcases decP_in T.ql e C.l with h | h | h | h <;> omega
    · have ha' : 4 ≤ decP T.ql e C.l := ha
      have hb' : decP T.ql e C.l ≤ 6 := hb
      rcases decP_in T.ql e C.l with h | h | h | h <;> omega
set_option maxHeartbeats 3200000 in
theorem act2_ok (hC : COk C) (hF : OkF C f) (hT : OkT C ds B T) (h2 : T.pc = 2) (hu : ∀ x, InU ((actM C d T f).2 x)) : OkF C (actM C d T f).2 ∧ OkT C ds (B + 1) (actM C d T f).1 := by
  have hp : T.pc ≠ 0 := by omega
  have hm := hT.more
  have hs := hC.s
  have hfu := hF.u
  have hdone := hT.done
  rw [al_cases C d T f h2] at hu ⊢
  rcases hT.apc h2 with ha | ha | ha | ha | ha | ha | ha
  · have hlow := hT.low h2 (by omega)
    have hal : allocM C d T f = (2, T, swf f (1, 0, 0) T.e (T.e + 1)) := by unfold allocM; rw [if_pos ha]
    rw [hal] at hu ⊢
    exact ⟨hF.swe (by have := hT.adv h2 ha; omega) hu, { hm with pc := .inr (.inl rfl), p1 := fun _ => hlow, nd1 := fun _ => hT.nd1 hp, apc := fun h => no h rfl, low := fun h => no h rfl, adv := fun h => no h rfl, born := fun h => no h rfl, pool := fun h => no h rfl, rpc := fun h => no h rfl, rsp := fun h => no h rfl, give := fun h => no h rfl, gv := fun h => no h rfl }⟩
  · have hlow := hT.low h2 (by omega)
    by_cases hx : C.s ≤ f (3, 0, 0)
    · have hal : allocM C d T f = (0, { T with apc := 3 }, upd f (3, 0, 0) (IntKind.u64.wrap (f (3, 0, 0) + 1))) := by unfold allocM; rw [if_neg (by omega), if_pos ha, if_pos hx]
      rw [hal] at hu ⊢
      exact ⟨hF.upd (by simp) (by simp) (fun i h => by simp at h) hu, { hm with pc := .inr (.inr (.inl rfl)), nd1 := fun _ => hT.nd1 hp, p1 := fun h => no h rfl, rpc := fun h => no h rfl, rsp := fun h => no h rfl, give := fun h => no h rfl, gv := fun h => no h rfl, apc := fun _ => .inr (.inr (.inl rfl)), low := fun _ _ => hlow, adv := fun _ h => no h rfl, born := fun _ h => no h rfl, pool := fun _ ha hb => (by have ha' : 4 ≤ (3 : Nat) := ha; have hb' : (3 : Nat) ≤ 6 := hb; omega) }⟩
    · have hal : allocM C d T f = (decS (T.ql ++ [(f (3, 0, 0) + 1, 0, 0)]) T.e C.l, { T with ql := T.ql ++ [(f (3, 0, 0) + 1, 0, 0)], apc := decP (T.ql ++ [(f (3, 0, 0) + 1, 0, 0)]) T.e C.l }, upd f (3, 0, 0) (IntKind.u64.wrap (f (3, 0, 0) + 1))) := by unfold allocM; rw [if_neg (by omega), if_pos ha, if_neg hx]
      rw [hal] at hu ⊢
      have hf3 : 0 ≤ f (3, 0, 0) := (hfu _).1
      refine ⟨hF.upd (by simp) (by simp) (fun i h => by simp at h) hu, ?_⟩
      clear hu hal
      have hq := ql_add (y := 0) hT.ql (show 1 ≤ f (3, 0, 0) + 1 by omega) (by omega)
      rcases decS_in (ql := T.ql ++ [(f (3, 0, 0) + 1, 0, 0)]) (e := T.e) (l := C.l) with ⟨hD, hS⟩ | ⟨hD, hS⟩
      · rw [hS]
        exact { hm with ql := hq, len := (by have := hT.len; simp; omega), pc := .inl rfl, nd1 := fun _ => hT.nd1 hp, p1 := fun h => no h rfl, apc := fun h => no h rfl, low := fun h => no h rfl, adv := fun h => no h rfl, born := fun h => no h rfl, pool := fun h => no h rfl, rpc := fun h => no h rfl, rsp := fun h => no h rfl, give := fun h => no h rfl, gv := fun h => no h rfl }
      · rw [hS]
        refine { hm with ql := hq, len := (by have := hT.len; simp; omega), pc := .inr (.inr (.inl rfl)), nd1 := fun _ => hT.nd1 hp, p1 := fun h => no h rfl, rpc := fun h => no h rfl, rsp := fun h => no h rfl, give := fun h => no h rfl, gv := fun h => no h rfl, apc := fun _ => ?_, low := fun _ _ => hlow, adv := fun _ h => decP_adv h, born := fun _ h => decP_born h, pool := fun _ ha hb => ?_ }
        · show decP (T.ql ++ [(f (3, 0, 0) + 1, 0, 0)]) T.e C.l = 1 ∨ decP (T.ql ++ [(f (3, 0, 0) + 1, 0, 0)]) T.e C.l = 2 ∨ decP (T.ql ++ [(f (3, 0, 0) + 1, 0, 0)]) T.e C.l = 3 ∨ decP (T.ql ++ [(f (3, 0, 0) + 1, 0, 0)]) T.e C.l = 4 ∨ decP (T.ql ++ [(f (3, 0, 0) + 1, 0, 0)]) T.e C.l = 5 ∨ decP (T.ql ++ [(f (3, 0, 0) + 1, 0, 0)]) T.e C.l = 6 ∨ 10 ≤ decP (T.ql ++ [(f (3, 0, 0) + 1, 0, 0)]) T.e C.l
          rcases decP_in (T.ql ++ [(f (3, 0, 0) + 1, 0, 0)]) T.e C.l with h | h | h | h <;> omega
        · have ha' : 4 ≤ decP (T.ql ++ [(f (3, 0, 0) + 1, 0, 0)]) T.e C.l := ha
          have hb' : decP (T.ql ++ [(f (3, 0, 0) + 1, 0, 0)]) T.e C.l ≤ 6 := hb
          rcases decP_in (T.ql ++ [(f (3, 0, 0) + 1, 0, 0)]) T.e C.l with h | h | h | h <;> omega

  · have hlow := hT.low h2 (by omega)
    have hal : allocM C d T f = (poolS (f (2, 0, 0)) C.l, { T with ah := f (2, 0, 0), apc := 4 }, f) := by unfold allocM; rw [if_neg (by omega), if_neg (by omega), if_pos ha]
    rw [hal] at hu ⊢
    refine ⟨hF, ?_⟩
    have hw : InU (f (2, 0, 0)) ∧ InU T.an ∧ InU T.ar := ⟨hfu _, hT.w.2⟩
    by_cases q1 : slotI (f (2, 0, 0)) = 0
    · rw [show poolS (f (2, 0, 0)) C.l = 3 from if_pos q1]
      exact { hm with w := hw, pc := .inl rfl, nd1 := fun _ => hT.nd1 hp, p1 := fun h => no h rfl, apc := fun h => no h rfl, low := fun h => no h rfl, adv := fun h => no h rfl, born := fun h => no h rfl, pool := fun h => no h rfl, rpc := fun h => no h rfl, rsp := fun h => no h rfl, give := fun h => no h rfl, gv := fun h => no h rfl }
    · by_cases q2 : C.l ≤ verI (f (2, 0, 0))
      · rw [show poolS (f (2, 0, 0)) C.l = 4 from (if_neg q1).trans (if_pos q2)]
        exact { hm with w := hw, pc := .inl rfl, nd1 := fun _ => hT.nd1 hp, p1 := fun h => no h rfl, apc := fun h => no h rfl, low := fun h => no h rfl, adv := fun h => no h rfl, born := fun h => no h rfl, pool := fun h => no h rfl, rpc := fun h => no h rfl, rsp := fun h => no h rfl, give := fun h => no h rfl, gv := fun h => no h rfl }
      · rw [show poolS (f (2, 0, 0)) C.l = 0 from (if_neg q1).trans (if_neg q2)]
        exact { hm with w := hw, pc := .inr (.inr (.inl rfl)), nd1 := fun _ => hT.nd1 hp, p1 := fun h => no h rfl, rpc := fun h => no h rfl, rsp := fun h => no h rfl, give := fun h => no h rfl, gv := fun h => no h rfl, apc := fun _ => .inr (.inr (.inr (.inl rfl))), low := fun _ _ => hlow, adv := fun _ h => no h rfl, born := fun _ h => no h rfl, pool := fun _ _ _ => ⟨(by have := slotI_in (f (2, 0, 0)); show 1 ≤ slotI (f (2, 0, 0)); omega), hF.pool, (by show verI (f (2, 0, 0)) < C.l; omega)⟩ }
  · have hlow := hT.low h2 (by omega)
    have hal : allocM C d T f = (0, { T with an := f (5, slotI T.ah, 2), apc := 5 }, f) := by unfold allocM; rw [if_neg (by omega), if_neg (by omega), if_neg (by omega), if_pos ha]
    rw [hal] at hu ⊢
    exact ⟨hF, { hm with w := ⟨hT.w.1, hfu _, hT.w.2.2⟩, an := hF.chain _, pc := .inr (.inr (.inl rfl)), nd1 := fun _ => hT.nd1 hp, p1 := fun h => no h rfl, rpc := fun h => no h rfl, rsp := fun h => no h rfl, give := fun h => no h rfl, gv := fun h => no h rfl, apc := fun _ => .inr (.inr (.inr (.inr (.inl rfl)))), low := fun _ _ => hlow, adv := fun _ h => no h rfl, born := fun _ h => no h rfl, pool := fun _ _ _ => hT.pool h2 (by omega) (by omega) }⟩
  · have hlow := hT.low h2 (by omega)
    have hal : allocM C d T f = (0, { T with ar := f (5, slotI T.ah, 1), apc := 6 }, f) := by unfold allocM; rw [if_neg (by omega), if_neg (by omega), if_neg (by omega), if_neg (by omega), if_pos ha]
    rw [hal] at hu ⊢
    exact ⟨hF, { hm with w := ⟨hT.w.1, hT.w.2.1, hfu _⟩, pc := .inr (.inr (.inl rfl)), nd1 := fun _ => hT.nd1 hp, p1 := fun h => no h rfl, rpc := fun h => no h rfl, rsp := fun h => no h rfl, give := fun h => no h rfl, gv := fun h => no h rfl, apc := fun _ => .inr (.inr (.inr (.inr (.inr (.inl rfl))))), low := fun _ _ => hlow, adv := fun _ h => no h rfl, born := fun _ h => no h rfl, pool := fun _ _ _ => hT.pool h2 (by omega) (by omega) }⟩
  · have hlow := hT.low h2 (by omega)
    have hpl := hT.pool h2 (by omega) (by omega)
    by_cases hx : f (2, 0, 0) = T.ah
    · have hal : allocM C d T f = (decS (T.ql ++ [(slotI T.ah, epI T.ar, 0)]) T.e C.l, { T with ql := T.ql ++ [(slotI T.ah, epI T.ar, 0)], apc := decP (T.ql ++ [(slotI T.ah, epI T.ar, 0)]) T.e C.l }, swf f (2, 0, 0) T.ah (nextW T.ah (slotI T.an))) := by unfold allocM; rw [if_neg (by omega), if_neg (by omega), if_neg (by omega), if_neg (by omega), if_neg (by omega), if_pos ha, if_pos hx]
      rw [hal] at hu ⊢
      refine ⟨hF.swp (slot_next (by omega) hT.an) hu, ?_⟩
      clear hu hal
      have hq := ql_add (y := epI T.ar) hT.ql hpl.1 hpl.2.1
      rcases decS_in (ql := T.ql ++ [(slotI T.ah, epI T.ar, 0)]) (e := T.e) (l := C.l) with ⟨hD, hS⟩ | ⟨hD, hS⟩
      · rw [hS]
        exact { hm with ql := hq, len := (by have := hT.len; simp; omega), pc := .inl rfl, nd1 := fun _ => hT.nd1 hp, p1 := fun h => no h rfl, apc := fun h => no h rfl, low := fun h => no h rfl, adv := fun h => no h rfl, born := fun h => no h rfl, pool := fun h => no h rfl, rpc := fun h => no h rfl, rsp := fun h => no h rfl, give := fun h => no h rfl, gv := fun h => no h rfl }
      · rw [hS]
        refine { hm with ql := hq, len := (by have := hT.len; simp; omega), pc := .inr (.inr (.inl rfl)), nd1 := fun _ => hT.nd1 hp, p1 := fun h => no h rfl, rpc := fun h => no h rfl, rsp := fun h => no h rfl, give := fun h => no h rfl, gv := fun h => no h rfl, apc := fun _ => ?_, low := fun _ _ => hlow, adv := fun _ h => decP_adv h, born := fun _ h => decP_born h, pool := fun _ ha hb => ?_ }
        · show decP (T.ql ++ [(slotI T.ah, epI T.ar, 0)]) T.e C.l = 1 ∨ decP (T.ql ++ [(slotI T.ah, epI T.ar, 0)]) T.e C.l = 2 ∨ decP (T.ql ++ [(slotI T.ah, epI T.ar, 0)]) T.e C.l = 3 ∨ decP (T.ql ++ [(slotI T.ah, epI T.ar, 0)]) T.e C.l = 4 ∨ decP (T.ql ++ [(slotI T.ah, epI T.ar, 0)]) T.e C.l = 5 ∨ decP (T.ql ++ [(slotI T.ah, epI T.ar, 0)]) T.e C.l = 6 ∨ 10 ≤ decP (T.ql ++ [(slotI T.ah, epI T.ar, 0)]) T.e C.l
          rcases decP_in (T.ql ++ [(slotI T.ah, epI T.ar, 0)]) T.e C.l with h | h | h | h <;> omega
        · have ha' : 4 ≤ decP (T.ql ++ [(slotI T.ah, epI T.ar, 0)]) T.e C.l := ha
          have hb' : decP (T.ql ++ [(slotI T.ah, epI T.ar, 0)]) T.e C.l ≤ 6 := hb
          rcases decP_in (T.ql ++ [(slotI T.ah, epI T.ar, 0)]) T.e C.l with h | h | h | h <;> omega

    · have hal : allocM C d T f = (0, { T with apc := 3 }, swf f (2, 0, 0) T.ah (nextW T.ah (slotI T.an))) := by unfold allocM; rw [if_neg (by omega), if_neg (by omega), if_neg (by omega), if_neg (by omega), if_neg (by omega), if_pos ha, if_neg hx]
      rw [hal] at hu ⊢
      exact ⟨hF.swp (slot_next (by omega) hT.an) hu, { hm with pc := .inr (.inr (.inl rfl)), nd1 := fun _ => hT.nd1 hp, p1 := fun h => no h rfl, rpc := fun h => no h rfl, rsp := fun h => no h rfl, give := fun h => no h rfl, gv := fun h => no h rfl, apc := fun _ => .inr (.inr (.inl rfl)), low := fun _ _ => hlow, adv := fun _ h => no h rfl, born := fun _ h => no h rfl, pool := fun _ ha hb => (by have ha' : 4 ≤ (3 : Nat) := ha; have hb' : (3 : Nat) ≤ 6 := hb; omega) }⟩
  · by_cases h10 : T.apc = 10
    · have hal : allocM C d T f = (lastS 0 (wordsA C.k T.e d.key d.val (IntKind.u64.wrap d.lv)).length, { T with ql := T.ql.tail, hs := (T.ql.headD t0).1, apc := 11 }, upd f (5, (T.ql.headD t0).1, ((wordsA C.k T.e d.key d.val (IntKind.u64.wrap d.lv)).getD (T.apc - 10) (0, 0)).1) ((wordsA C.k T.e d.key d.val (IntKind.u64.wrap d.lv)).getD (T.apc - 10) (0, 0)).2) := by unfold allocM; rw [if_neg (by omega), if_neg (by omega), if_neg (by omega), if_neg (by omega), if_neg (by omega), if_neg (by omega)]; dsimp only; rw [if_pos h10]
      rw [hal] at hu ⊢
      obtain ⟨x, t, hxt⟩ : ∃ x t, T.ql = x :: t := by
        rcases hq : T.ql with _ | ⟨x, t⟩
        · exact absurd hq (hT.born h2 h10)
        · exact ⟨x, t, rfl⟩
      have hpn := part_ne C.k T.e d.key d.val (IntKind.u64.wrap d.lv) (T.apc - 10)
      refine ⟨hF.upd (by simp) (by simp) (fun i h => by simp at h; exact absurd h.2 hpn) hu, ?_⟩
      have hxx := hT.ql x (by rw [hxt]; simp)
      have hqt : ∀ z ∈ T.ql.tail, 1 ≤ z.1 ∧ z.1 ≤ C.s ∧ z.2.2 = 0 := fun z hz => hT.ql z (List.mem_of_mem_tail hz)
      have hhs : 0 ≤ (T.ql.headD t0).1 ∧ (T.ql.headD t0).1 ≤ C.s := by rw [hxt]; exact ⟨by show 0 ≤ x.1; omega, hxx.2.1⟩
      have hln : T.ql.tail.length + (ds.length - T.nd) ≤ B + 1 := by have := hT.len; simp; omega
      rcases lastS_in 0 (wordsA C.k T.e d.key d.val (IntKind.u64.wrap d.lv)).length with h | h <;> rw [h]
      · exact { hm with hs := hhs, ql := hqt, len := hln, pc := .inr (.inr (.inl rfl)), nd1 := fun _ => hT.nd1 hp, p1 := fun h => no h rfl, rpc := fun h => no h rfl, rsp := fun h => no h rfl, give := fun h => no h rfl, gv := fun h => no h rfl, apc := fun _ => .inr (.inr (.inr (.inr (.inr (.inr (by show (10 : Nat) ≤ 11; decide)))))), low := fun _ h => absurd h (by show ¬ (11 : Nat) ≤ 10; decide), adv := fun _ h => no h rfl, born := fun _ h => no h rfl, pool := fun _ ha hb => (by have ha' : 4 ≤ (11 : Nat) := ha; have hb' : (11 : Nat) ≤ 6 := hb; omega) }
      · exact { hm with hs := hhs, ql := hqt, len := hln, done := (by show 0 ≤ T.done + 1 ∧ T.done + 1 ≤ ((B + 1 : Nat) : Int); omega), pc := .inl rfl, nd1 := fun _ => hT.nd1 hp, p1 := fun h => no h rfl, apc := fun h => no h rfl, low := fun h => no h rfl, adv := fun h => no h rfl, born := fun h => no h rfl, pool := fun h => no h rfl, rpc := fun h => no h rfl, rsp := fun h => no h rfl, give := fun h => no h rfl, gv := fun h => no h rfl }
    · have hal : allocM C d T f = (lastS (T.apc - 10) (wordsA C.k T.e d.key d.val (IntKind.u64.wrap d.lv)).length, { T with apc := T.apc + 1 }, upd f (5, T.hs, ((wordsA C.k T.e d.key d.val (IntKind.u64.wrap d.lv)).getD (T.apc - 10) (0, 0)).1) ((wordsA C.k T.e d.key d.val (IntKind.u64.wrap d.lv)).getD (T.apc - 10) (0, 0)).2) := by unfold allocM; rw [if_neg (by omega), if_neg (by omega), if_neg (by omega), if_neg (by omega), if_neg (by omega), if_neg (by omega)]; dsimp only; rw [if_neg h10]
      rw [hal] at hu ⊢
      have hpn := part_ne C.k T.e d.key d.val (IntKind.u64.wrap d.lv) (T.apc - 10)
      refine ⟨hF.upd (by simp) (by simp) (fun i h => by simp at h; exact absurd h.2 hpn) hu, ?_⟩
      rcases lastS_in (T.apc - 10) (wordsA C.k T.e d.key d.val (IntKind.u64.wrap d.lv)).length with h | h <;> rw [h]
      · exact { hm with pc := .inr (.inr (.inl rfl)), nd1 := fun _ => hT.nd1 hp, p1 := fun h => no h rfl, rpc := fun h => no h rfl, rsp := fun h => no h rfl, give := fun h => no h rfl, gv := fun h => no h rfl, apc := fun _ => .inr (.inr (.inr (.inr (.inr (.inr (by show 10 ≤ T.apc + 1; omega)))))), low := fun _ h => (by have h' : T.apc + 1 ≤ 10 := h; omega), adv := fun _ h => (by have h' : T.apc + 1 = 1 := h; omega), born := fun _ h => (by have h' : T.apc + 1 = 10 := h; omega), pool := fun _ ha hb => (by have ha' : 4 ≤ (T.apc + 1 : Nat) := ha; have hb' : (T.apc + 1 : Nat) ≤ 6 := hb; omega) }
      · exact { hm with done := (by show 0 ≤ T.done + 1 ∧ T.done + 1 ≤ ((B + 1 : Nat) : Int); omega), pc := .inl rfl, nd1 := fun _ => hT.nd1 hp, p1 := fun h => no h rfl, apc := fun h => no h rfl, low := fun h => no h rfl, adv := fun h => no h rfl, born := fun h => no h rfl, pool := fun h => no h rfl, rpc := fun h => no h rfl, rsp := fun h => no h rfl, give := fun h => no h rfl, gv := fun h => no h rfl }
set_option maxHeartbeats 1600000 in
theorem act3_ok (hC : COk C) (hF : OkF C f) (hT : OkT C ds B T) (h3 : T.pc = 3) (hu : ∀ x, InU ((actM C d T f).2 x)) : OkF C (actM C d T f).2 ∧ OkT C ds (B + 1) (actM C d T f).1 := by
  have hp : T.pc ≠ 0 := by omega
  have hm := hT.more
  have hs := hC.s
  have hact : actM C d T f = ({ (retireM T f).2.1 with pc := if (retireM T f).1 = 0 then 3 else 0, full := false }, (retireM T f).2.2) := by
    unfold actM
    rw [if_neg (by omega), if_neg (by omega), if_pos h3]
  rw [hact] at hu ⊢
  rcases hT.rpc h3 with hr | hr
  · have hal : retireM T f = (0, { T with re := f (1, 0, 0), rpc := 1 }, f) := by unfold retireM; rw [if_pos hr]
    rw [hal] at hu ⊢
    exact ⟨hF, { hm with re := ⟨(hF.u _).1, hF.ep⟩, pc := .inr (.inr (.inr (.inl rfl))), nd1 := fun _ => hT.nd1 hp, p1 := fun h => no h rfl, apc := fun h => no h rfl, low := fun h => no h rfl, adv := fun h => no h rfl, born := fun h => no h rfl, pool := fun h => no h rfl, give := fun h => no h rfl, gv := fun h => no h rfl, rpc := fun _ => .inr rfl, rsp := fun _ => hT.rsp h3 }⟩
  · have hal : retireM T f = (1, { T with ql := T.ql ++ [(T.rs, epI T.re, 0)] }, upd f (5, T.rs, 1) T.re) := by unfold retireM; rw [if_neg (by omega)]
    rw [hal] at hu ⊢
    exact ⟨hF.upd (by simp) (by simp) (fun i h => by simp at h) hu, { hm with ql := ql_add hT.ql (hT.rsp h3) hT.rs.2, len := (by have := hT.len; simp; omega), pc := .inl rfl, nd1 := fun _ => hT.nd1 hp, p1 := fun h => no h rfl, apc := fun h => no h rfl, low := fun h => no h rfl, adv := fun h => no h rfl, born := fun h => no h rfl, pool := fun h => no h rfl, rpc := fun h => no h rfl, rsp := fun h => no h rfl, give := fun h => no h rfl, gv := fun h => no h rfl }⟩
set_option maxHeartbeats 1600000 in
theorem act4_ok (hC : COk C) (hF : OkF C f) (hT : OkT C ds B T) (h4 : T.pc = 4) (hu : ∀ x, InU ((actM C d T f).2 x)) : OkF C (actM C d T f).2 ∧ OkT C ds (B + 1) (actM C d T f).1 := by
  have hp : T.pc ≠ 0 := by omega
  have hm := hT.more
  have hs := hC.s
  have hact : actM C d T f = ({ (giveM C T f).2.1 with pc := if (giveM C T f).1 = 0 then 4 else 0, full := false }, (giveM C T f).2.2) := by
    unfold actM
    rw [if_neg (by omega), if_neg (by omega), if_neg (by omega)]
  rw [hact] at hu ⊢
  have he := epI_of (hF.u (1, 0, 0)) hF.ep hC.l.2
  have he9 : 0 ≤ epI (f (1, 0, 0)) ∧ epI (f (1, 0, 0)) ≤ C.l := by rw [he.1]; exact ⟨he.2, hF.ep⟩
  rcases (show T.gpc = 0 ∨ T.gpc = 1 ∨ T.gpc = 2 ∨ T.gpc = 3 by have := hT.gpc; omega) with hr | hr | hr | hr
  · have hal : giveM C T f = (gdS T.ql, { T with e := epI (f (1, 0, 0)), gpc := 1 }, f) := by unfold giveM; rw [if_pos hr]
    rw [hal] at hu ⊢
    refine ⟨hF, ?_⟩
    rcases gdS_in T.ql with ⟨hq, hS⟩ | ⟨hq, hS⟩ <;> rw [hS]
    · exact { hm with e := he9, gpc := (by show (1 : Nat) ≤ 3; decide), pc := .inl rfl, nd1 := fun _ => hT.nd1 hp, p1 := fun h => no h rfl, apc := fun h => no h rfl, low := fun h => no h rfl, adv := fun h => no h rfl, born := fun h => no h rfl, pool := fun h => no h rfl, rpc := fun h => no h rfl, rsp := fun h => no h rfl, give := fun h => no h rfl, gv := fun h => no h rfl }
    · exact { hm with e := he9, gpc := (by show (1 : Nat) ≤ 3; decide), pc := .inr (.inr (.inr (.inr rfl))), nd1 := fun _ => hT.nd1 hp, p1 := fun h => no h rfl, apc := fun h => no h rfl, low := fun h => no h rfl, adv := fun h => no h rfl, born := fun h => no h rfl, pool := fun h => no h rfl, rpc := fun h => no h rfl, rsp := fun h => no h rfl, give := fun _ _ => hq, gv := fun _ h => absurd h (by show ¬ (2 : Nat) ≤ 1; decide) }
  · have hal : giveM C T f = (poolG (f (2, 0, 0)) C.l, { T with gh := f (2, 0, 0), gpc := 2 }, f) := by unfold giveM; rw [if_neg (by omega), if_pos hr]
    rw [hal] at hu ⊢
    refine ⟨hF, ?_⟩
    by_cases hx : C.l ≤ verI (f (2, 0, 0))
    · rw [show poolG (f (2, 0, 0)) C.l = 4 from if_pos hx]
      exact { hm with gpc := (by show (2 : Nat) ≤ 3; decide), ghu := hF.u _, gh := hF.pool, pc := .inl rfl, nd1 := fun _ => hT.nd1 hp, p1 := fun h => no h rfl, apc := fun h => no h rfl, low := fun h => no h rfl, adv := fun h => no h rfl, born := fun h => no h rfl, pool := fun h => no h rfl, rpc := fun h => no h rfl, rsp := fun h => no h rfl, give := fun h => no h rfl, gv := fun h => no h rfl }
    · rw [show poolG (f (2, 0, 0)) C.l = 0 from if_neg hx]
      exact { hm with gpc := (by show (2 : Nat) ≤ 3; decide), ghu := hF.u _, gh := hF.pool, pc := .inr (.inr (.inr (.inr rfl))), nd1 := fun _ => hT.nd1 hp, p1 := fun h => no h rfl, apc := fun h => no h rfl, low := fun h => no h rfl, adv := fun h => no h rfl, born := fun h => no h rfl, pool := fun h => no h rfl, rpc := fun h => no h rfl, rsp := fun h => no h rfl, give := fun _ _ => hT.give h4 (by omega), gv := fun _ _ => (by show verI (f (2, 0, 0)) < C.l; omega) }
  · have hal : giveM C T f = (0, { T with gpc := 3 }, upd f (5, (T.ql.headD t0).1, 2) (wordI false (slotI T.gh) 0)) := by unfold giveM; rw [if_neg (by omega), if_neg (by omega), if_pos hr]
    rw [hal] at hu ⊢
    exact ⟨hF.upd (by simp) (by simp) (fun i _ => slot_link (by omega) hT.gh) hu, { hm with gpc := (by show (3 : Nat) ≤ 3; decide), pc := .inr (.inr (.inr (.inr rfl))), nd1 := fun _ => hT.nd1 hp, p1 := fun h => no h rfl, apc := fun h => no h rfl, low := fun h => no h rfl, adv := fun h => no h rfl, born := fun h => no h rfl, pool := fun h => no h rfl, rpc := fun h => no h rfl, rsp := fun h => no h rfl, give := fun _ _ => hT.give h4 (by omega), gv := fun _ _ => hT.gv h4 (by omega) }⟩
  · obtain ⟨x, t, hxt⟩ : ∃ x t, T.ql = x :: t := by
      rcases hq : T.ql with _ | ⟨x, t⟩
      · exact absurd hq (hT.give h4 (by omega))
      · exact ⟨x, t, rfl⟩
    have hxx := hT.ql x (by rw [hxt]; simp)
    have hhd : (T.ql.headD t0).1 ≤ C.s := by rw [hxt]; exact hxx.2.1
    by_cases hx : f (2, 0, 0) = T.gh
    · have hal : giveM C T f = (gdS T.ql.tail, { T with ql := T.ql.tail, gg := wrap64 (T.gg + 1), gpc := 1 }, swf f (2, 0, 0) T.gh (nextW T.gh (T.ql.headD t0).1)) := by unfold giveM; rw [if_neg (by omega), if_neg (by omega), if_neg (by omega), if_pos hx]
      rw [hal] at hu ⊢
      refine ⟨hF.swp (slot_next (by omega) hhd) hu, ?_⟩
      have hqt : ∀ z ∈ T.ql.tail, 1 ≤ z.1 ∧ z.1 ≤ C.s ∧ z.2.2 = 0 := fun z hz => hT.ql z (List.mem_of_mem_tail hz)
      have hln : T.ql.tail.length + (ds.length - T.nd) ≤ B + 1 := by have := hT.len; simp; omega
      rcases gdS_in T.ql.tail with ⟨hq, hS⟩ | ⟨hq, hS⟩ <;> rw [hS]
      · exact { hm with ql := hqt, len := hln, gpc := (by show (1 : Nat) ≤ 3; decide), pc := .inl rfl, nd1 := fun _ => hT.nd1 hp, p1 := fun h => no h rfl, apc := fun h => no h rfl, low := fun h => no h rfl, adv := fun h => no h rfl, born := fun h => no h rfl, pool := fun h => no h rfl, rpc := fun h => no h rfl, rsp := fun h => no h rfl, give := fun h => no h rfl, gv := fun h => no h rfl }
      · exact { hm with ql := hqt, len := hln, gpc := (by show (1 : Nat) ≤ 3; decide), pc := .inr (.inr (.inr (.inr rfl))), nd1 := fun _ => hT.nd1 hp, p1 := fun h => no h rfl, apc := fun h => no h rfl, low := fun h => no h rfl, adv := fun h => no h rfl, born := fun h => no h rfl, pool := fun h => no h rfl, rpc := fun h => no h rfl, rsp := fun h => no h rfl, give := fun _ _ => hq, gv := fun _ h => absurd h (by show ¬ (2 : Nat) ≤ 1; decide) }
    · have hal : giveM C T f = (0, { T with gpc := 1 }, swf f (2, 0, 0) T.gh (nextW T.gh (T.ql.headD t0).1)) := by unfold giveM; rw [if_neg (by omega), if_neg (by omega), if_neg (by omega), if_neg hx]
      rw [hal] at hu ⊢
      exact ⟨hF.swp (slot_next (by omega) hhd) hu, { hm with gpc := (by show (1 : Nat) ≤ 3; decide), pc := .inr (.inr (.inr (.inr rfl))), nd1 := fun _ => hT.nd1 hp, p1 := fun h => no h rfl, apc := fun h => no h rfl, low := fun h => no h rfl, adv := fun h => no h rfl, born := fun h => no h rfl, pool := fun h => no h rfl, rpc := fun h => no h rfl, rsp := fun h => no h rfl, give := fun _ _ => hT.give h4 (by omega), gv := fun _ h => absurd h (by show ¬ (2 : Nat) ≤ 1; decide) }⟩
theorem act_ok (hC : COk C) (hF : OkF C f) (hT : OkT C ds B T) (hp : T.pc ≠ 0) (hu : ∀ x, InU ((actM C d T f).2 x)) : OkF C (actM C d T f).2 ∧ OkT C ds (B + 1) (actM C d T f).1 := by
  rcases hT.pc with h | h | h | h | h
  · exact absurd h hp
  · exact act1_ok hC hF hT h
  · exact act2_ok hC hF hT h hu
  · exact act3_ok hC hF hT h hu
  · exact act4_ok hC hF hT h hu
/-- A step keeps them. -/
theorem step_ok (hC : COk C) (hF : OkF C f) (hT : OkT C ds B T) (hu : ∀ x, InU ((stepM C ds T f).2 x)) : OkF C (stepM C ds T f).2 ∧ OkT C ds (B + 1) (stepM C ds T f).1 := by
  unfold stepM at hu ⊢
  by_cases hp : T.pc = 0
  · rw [if_pos hp] at hu ⊢
    obtain ⟨h1, h2, h3⟩ := begin_ok 0 (ds.drop T.nd) T rfl hT hp
    dsimp only at hu ⊢
    by_cases hb : (beginM (ds.drop T.nd) T).1 = true
    · rw [if_pos hb] at hu ⊢
      exact act_ok hC hF h1 (by have := h3 hb; omega) hu
    · rw [if_neg hb] at hu ⊢
      exact ⟨hF, h1.more⟩
  · rw [if_neg hp] at hu ⊢
    exact act_ok hC hF hT hp hu
end
end Go.Proofs.YtmifdkbpbkafjaaGreatDoor

/-
  DERIVED: THE SHELF's CONTRACTS AT THIS DUMP, IN PLAIN WORDS (tools/lay-plain.mjs out of 'YtmifdkbpbkafjaaGreatDoorShelfC.lean', which tools/lay-shelf.mjs wrote): THE SAME DECLARATIONS UNDER THE SAME NAMES: 'import', 'namespace', 'open', 'def', 'theorem' AND NOTHING ELSE: no command of the shelf's: FOR A HAND-IN. Each laying: the table of numbers ('.._ren') and one theorem, a field a fact of the dump's own or the kernel's comparison; each contract: ONE APPLICATION.
-/
namespace Go.Proofs
open Go.Shelf
def Tryz.cloneWords_ren : Go.Shelf.Ren := ⟨fun | 5 => 103 | 7 => 122 | n => n, fun | 23 => 138 | 25 => 37 | 3 => 39 | 4 => 4 | 20 => 20 | n => n, fun | n => n⟩
theorem Tryz.cloneWords : Go.Proofs.SlLaysW.n5 Tryz.prog Tryz.cloneWords_ren := {
  mixed := by kernel_rfl
  f5 := ⟨Tryz.f103.name, by decide, Tryz.func103.trans (congrArg some (by kernel_rfl))⟩
  f7 := Tryz.func122.trans (congrArg some (by kernel_rfl))
  t4 := Tryz.underlying4
  a4 := Tryz.isAgg4
  z4 := Tryz.sizeOf4
  v4 := Tryz.zeroValue4
  t20 := Tryz.underlying20
  a20 := Tryz.isAgg20
  z20 := Tryz.sizeOf20
  v20 := Tryz.zeroValue20
  t23 := Tryz.underlying138
  a23 := Tryz.isAgg138
  z23 := Tryz.sizeOf138
  v23 := Tryz.zeroValue138 }
end Go.Proofs

/-
  The library's contracts at this program.
-/
namespace Go.Proofs
open Go.Shelf
shelf_try shelf_lay_g SlLaysF0.n6 Slsf 6 at Tryz 105 as Tryz.sortPlaces
shelf_try shelf_lay_g SlLaysC2.n5 Slgc 5 at Tryz 108 as Tryz.compareInt
shelf_tried
end Go.Proofs

/- The order of places; the library's sort at it. -/
namespace Go.Proofs.YtmifdkbpbkafjaaGreatDoor
open Go.RowKit Go.Maps Go.Shelf Go.Sort
set_option maxRecDepth 100000

/-- How two places stand. -/
def orI (a b c : Int) : Int := if a ≠ 0 then a else if b ≠ 0 then b else c
def cmpP (x y : Plc) : Int := orI (Lib.compareInt x.1 y.1) (Lib.compareInt x.2.1 y.2.1) (Lib.compareInt x.2.2 y.2.2)
theorem cmp_neg (a b : Int) : Lib.compareInt a b < 0 ↔ a < b := by unfold Lib.compareInt; split <;> (try split) <;> omega
theorem cmp_zero (a b : Int) : Lib.compareInt a b = 0 ↔ a = b := by unfold Lib.compareInt; split <;> (try split) <;> omega
theorem ltP (x y : Plc) : ltOf cmpP x y = true ↔ x.1 < y.1 ∨ (x.1 = y.1 ∧ (x.2.1 < y.2.1 ∨ (x.2.1 = y.2.1 ∧ x.2.2 < y.2.2))) := by
  have h1 := cmp_neg x.1 y.1
  have h2 := cmp_neg x.2.1 y.2.1
  have h3 := cmp_neg x.2.2 y.2.2
  have z1 := cmp_zero x.1 y.1
  have z2 := cmp_zero x.2.1 y.2.1
  have e : ltOf cmpP x y = true ↔ cmpP x y < 0 := by simp [ltOf]
  rw [e]
  unfold cmpP orI
  split
  · rename_i h; rw [h1]; rw [ne_eq, z1] at h; omega
  · rename_i h
    have h := z1.1 (by simpa using h)
    split
    · rename_i k; rw [h2]; rw [ne_eq, z2] at k; omega
    · rename_i k
      have k := z2.1 (by simpa using k)
      rw [h3]; omega
theorem ltP_false (x y : Plc) : ltOf cmpP x y = false ↔ ¬ (x.1 < y.1 ∨ (x.1 = y.1 ∧ (x.2.1 < y.2.1 ∨ (x.2.1 = y.2.1 ∧ x.2.2 < y.2.2)))) := by rw [← ltP, Bool.not_eq_true]
theorem swoP : SWO (ltOf cmpP) where
  irrefl x := by rw [ltP_false]; omega
  trans x y z h1 h2 := by rw [ltP] at *; omega
  ntrans x y z h1 h2 := by rw [ltP_false] at *; omega
theorem totP (x y : Plc) (h1 : ltOf cmpP x y = false) (h2 : ltOf cmpP y x = false) : x = y := by
  rw [ltP_false] at *
  obtain ⟨a, b, c⟩ := x
  obtain ⟨a', b', c'⟩ := y
  simp only [Prod.mk.injEq]
  simp only at h1 h2
  omega

theorem compareInt_any (x y : Int) (w : World) : Calls Tryz.prog 108 #[.int .i64 x, .int .i64 y] w fun e w' => e = .returned (.int .i64 (Lib.compareInt x y)) ∧ w' = w := AnyG.cmp_Compare_int Tryz.compareInt x y w

set_option maxHeartbeats 1600000 in
theorem or_any (a b c : Int) (N : Nat) (w : World) (h : ∀ i, w.cell? ⟨N, i, none⟩ = [Value.int .i64 a, .int .i64 b, .int .i64 c][i]?) :
    Calls Tryz.prog 107 #[.slice (some ⟨N, 0, none⟩) 3 3] w fun e w' => e = .returned (.int .i64 (orI a b c)) ∧ w' = w := by
  have e1 : (a != 0) = true ∨ ((a != 0) = false ∧ (b != 0) = true) ∨ ((a != 0) = false ∧ (b != 0) = false ∧ (c != 0) = true) ∨ ((a != 0) = false ∧ (b != 0) = false ∧ (c != 0) = false) := by
    cases (a != 0) <;> cases (b != 0) <;> cases (c != 0) <;> simp
  rcases e1 with h1 | ⟨h1, h2⟩ | ⟨h1, h2, h3⟩ | ⟨h1, h2, h3⟩
  · go_enter Tryz.func107, Tryz.ntmps107
    go_wp2
    refine wp_loop_rounds 1 ?_
    rw [rounds_succ]
    go_wp2
    go_ret
    exact ⟨ret_int (by simp at h1; simp [orI, h1]), rfl⟩
  · go_enter Tryz.func107, Tryz.ntmps107
    go_wp2
    refine wp_loop_rounds 2 ?_
    rw [rounds_succ]
    go_wp2
    rw [rounds_succ]
    go_wp2
    go_ret
    exact ⟨ret_int (by simp at h1 h2; simp [orI, h1, h2]), rfl⟩
  · go_enter Tryz.func107, Tryz.ntmps107
    go_wp2
    refine wp_loop_rounds 3 ?_
    rw [rounds_succ]
    go_wp2
    rw [rounds_succ]
    go_wp2
    rw [rounds_succ]
    go_wp2
    go_ret
    exact ⟨ret_int (by simp at h1 h2 h3; simp [orI, h1, h2]), rfl⟩
  · go_enter Tryz.func107, Tryz.ntmps107
    go_wp2
    refine wp_loop_rounds 4 ?_
    rw [rounds_succ]
    go_wp2
    rw [rounds_succ]
    go_wp2
    rw [rounds_succ]
    go_wp2
    rw [rounds_succ]
    go_wp2
    go_ret
    exact ⟨ret_int (by simp at h1 h2 h3; simp [orI, h1, h2, h3]), rfl⟩

set_option maxHeartbeats 1600000 in
theorem compare_any (a b c a' b' c' : Int) (w : World) :
    Calls Tryz.prog 81 #[.agg #[.int .i64 a, .int .i64 b, .int .i64 c], .agg #[.int .i64 a', .int .i64 b', .int .i64 c']] w fun e w' => e = .returned (.int .i64 (cmpP (a, b, c) (a', b', c'))) ∧ ∃ q os', w' = grow (w.drewN q) os' := by
  have k1 : Hid (∀ w', Calls Tryz.prog 108 #[.int .i64 a, .int .i64 a'] w' fun e w'' => e = .returned (.int .i64 (Lib.compareInt a a')) ∧ w'' = w') := Lib.hid fun w' => compareInt_any a a' w'
  have k2 : Hid (∀ w', Calls Tryz.prog 108 #[.int .i64 b, .int .i64 b'] w' fun e w'' => e = .returned (.int .i64 (Lib.compareInt b b')) ∧ w'' = w') := Lib.hid fun w' => compareInt_any b b' w'
  have k3 : Hid (∀ w', Calls Tryz.prog 108 #[.int .i64 c, .int .i64 c'] w' fun e w'' => e = .returned (.int .i64 (Lib.compareInt c c')) ∧ w'' = w') := Lib.hid fun w' => compareInt_any c c' w'
  unfold cmpP
  simp only
  generalize Lib.compareInt a a' = x at *
  generalize Lib.compareInt b b' = y at *
  generalize Lib.compareInt c c' = z at *
  go_enter Tryz.func81, Tryz.ntmps81
  go_wp2_with fail
  have hw2 : ∃ w2, w2 = (w.alloc (.cells #[.int .i64 a, .int .i64 b, .int .i64 c] 37)).alloc (.cells #[.int .i64 a', .int .i64 b', .int .i64 c'] 37) := ⟨_, rfl⟩
  obtain ⟨w2, hw2⟩ := hw2
  have h1 : Blk 0 w2 w.heap.size [.int .i64 a, .int .i64 b, .int .i64 c] := by rw [hw2]; exact (Blk.new 0 w _ _).more _
  have h2 : Blk 0 w2 (w.heap.size + 1) [.int .i64 a', .int .i64 b', .int .i64 c'] := by rw [hw2]; exact (Blk.new 0 (w.alloc _) _ _).at (by simp)
  rw [← hw2]
  have HW := Lib.hid hw2
  clear hw2
  generalize w.heap.size = B at *
  refine Ord.wp_chain [15, 16] (fun w' => Blk 0 w' B [.int .i64 a, .int .i64 b, .int .i64 c] ∧ Blk 0 w' (B + 1) [.int .i64 a', .int .i64 b', .int .i64 c']) (fun j w' => ∃ q, w' = (if j = 0 then w2 else w2.alloc (.cells #[.int .i64 x, .int .i64 y, .int .i64 z] 3)).drewN q) (by kernel_rfl) (by kernel_rfl) (by kernel_rfl) ⟨h1.drew, h2.drew⟩ ⟨1, rfl⟩ (fun hT => ?_)
  have hT9 := Lib.hid hT
  clear hT
  repeat (first
    | (refine Ord.ch_value (v := ?_) hT9.out (by decide) (by rfl) ?_ ?_; rotate_left; (focus (intro w5 hS; have r := hS.1.rule; have r2 := hS.2.rule; go_simp <;> with_reducible rfl)); (try simp only [Act.put, List.setIfInBounds_toArray, List.set_cons_zero, List.set_cons_succ]))
    | (refine Ord.ch_call (v := ?_) (f := ?_) (args := ?_) hT9.out (by decide) (by rfl) ?_ ?_ ?_; rotate_left 3; (focus (intro w5 hS; have r := hS.1.rule; have r2 := hS.2.rule; go_simp; constructor <;> with_reducible rfl)); (focus (intro w5 hS; (first
        | (with_reducible refine (k1.out _).mono ?_; rintro e w6 ⟨rfl, rfl⟩; constructor; with_reducible rfl; exact ⟨hS, fun _ h => h⟩)
        | (with_reducible refine (k2.out _).mono ?_; rintro e w6 ⟨rfl, rfl⟩; constructor; with_reducible rfl; exact ⟨hS, fun _ h => h⟩)
        | (with_reducible refine (k3.out _).mono ?_; rintro e w6 ⟨rfl, rfl⟩; constructor; with_reducible rfl; exact ⟨hS, fun _ h => h⟩)))); (try simp only [Act.put, List.setIfInBounds_toArray, List.set_cons_zero, List.set_cons_succ])))
  refine Ord.ch_turn (v := .slice (some ⟨w2.heap.size, 0, none⟩) 3 3) 0 hT9.out rfl (by decide) (Or.inl rfl) (by rfl) ?_ ?_
  · rintro w5 hC5 ⟨q, hq⟩
    rw [if_pos rfl] at hq
    subst hq
    go_simp
    exact ⟨by first | rfl | simp, ⟨hC5.1.more _, hC5.2.more _⟩, q, rfl⟩
  (try simp only [Act.put, List.setIfInBounds_toArray, List.set_cons_zero, List.set_cons_succ])
  refine Ord.ch_turn (v := .int .i64 (orI x y z)) 1 hT9.out rfl (by decide) (Or.inr ⟨15, rfl, by kernel_rfl⟩) (by rfl) ?_ ?_
  · rintro w5 hC5 ⟨q, hq⟩
    rw [if_neg (by omega)] at hq
    have hcell : ∀ i, w5.cell? ⟨w2.heap.size, i, none⟩ = [Value.int .i64 x, .int .i64 y, .int .i64 z][i]? := fun i => by rw [hq]; exact (Blk.new 0 w2 [Value.int .i64 x, .int .i64 y, .int .i64 z] _).rule i
    have HQ := Lib.hid hq
    clear hq
    go_simp
    simp only [Ord.LandsIn]
    refine (or_any x y z _ w5 hcell).mono ?_
    rintro e w6 ⟨rfl, rfl⟩
    exact ⟨rfl, hC5, q, HQ.out⟩
  (try simp only [Act.put, List.setIfInBounds_toArray, List.set_cons_zero, List.set_cons_succ])
  repeat (first
    | (refine Ord.ch_value (v := ?_) hT9.out (by decide) (by rfl) ?_ ?_; rotate_left; (focus (intro w5 hS; skip; go_simp <;> with_reducible rfl)); (try simp only [Act.put, List.setIfInBounds_toArray, List.set_cons_zero, List.set_cons_succ]))
    | (refine Ord.ch_off hT9.out (by decide) (by rfl) ?_; (try simp only [Act.put, List.setIfInBounds_toArray, List.set_cons_zero, List.set_cons_succ])))
  refine Ord.InText.nil fun w5 hS => ?_
  clear hT9
  obtain ⟨hC9, hA9⟩ := Ord.chain_end hS
  clear hS
  obtain ⟨q, hq⟩ := hA9
  go_wp2
  go_ret
  refine ⟨rfl, q, #[.cells #[.int .i64 a, .int .i64 b, .int .i64 c] 37, .cells #[.int .i64 a', .int .i64 b', .int .i64 c'] 37, .cells #[.int .i64 x, .int .i64 y, .int .i64 z] 3], ?_⟩
  rw [hq, HW.out]
  simp only [List.length_cons, List.length_nil, alloc_eq_grow, grow_grow]
  rfl

/-- A place's cells. -/
def encP (x : Plc) : List Value := [.int .i64 x.1, .int .i64 x.2.1, .int .i64 x.2.2]
theorem cmpLays (blk off size : Nat) (w : World) : CmpLays Tryz.prog 81 #[] encP 3 cmpP blk off size w := fun _ _ _ _ x y => compare_any x.1 x.2.1 x.2.2 y.1 y.2.1 y.2.2 _
theorem aggPlace (w : World) : (isAgg 37).run Tryz.prog w = .ok true w := by kernel_rfl
theorem sizePlace (w : World) : (Go.sizeOf 37).run Tryz.prog w = .ok 3 w := by kernel_rfl

/-- The places in their order. -/
def sortL (l : List Plc) : List Plc := l.mergeSort fun x y => !(ltOf cmpP) y x
theorem sort_any (blk off cap : Nat) (d : Array Plc) (w : World) (hH : HoldsK encP 3 w blk off d) (hblk : blk < w.heap.size) (hsz : d.size < 4611686018427387904) :
    Calls Tryz.prog 105 #[.slice (some ⟨blk, off, none⟩) d.size cap, .func (.func 81) #[] #[]] w fun e w' => e = .returned (.tuple #[]) ∧ ∃ n os, w' = sortWorldK encP 3 w blk off n (sortL d.toList).toArray os :=
  AnyQ.slices_SortFunc_total Tryz.sortPlaces 3 aggPlace sizePlace encP (fun _ => rfl) (fun x v hv => by simp [encP] at hv; rcases hv with rfl | rfl | rfl <;> rfl) cmpP swoP 81 #[] blk off cap d w
    (enters_of Tryz.func81 (by kernel_rfl) rfl) (cmpLays blk off d.size w) hH hblk hsz totP
theorem sort_none (p : Option Addr) (cap : Nat) (fv : Value) (w : World) : Calls Tryz.prog 105 #[.slice p 0 cap, fv] w fun e w' => e = .returned (.tuple #[]) ∧ w' = w :=
  AnyF.slices_SortFunc_none { Tryz.sortPlaces with } p cap fv w
end Go.Proofs.YtmifdkbpbkafjaaGreatDoor

/- Places whose words aren't 0. -/
namespace Go.Proofs.YtmifdkbpbkafjaaGreatDoor

theorem pv_inj {x y : Plc} (h : pv x = pv y) : x = y := by
  obtain ⟨a, b, c⟩ := x
  obtain ⟨a', b', c'⟩ := y
  simp [pv] at h
  simp [h]
/-- ss are the places whose words aren't 0, each once. -/
def OpsF (f : Plc → Int) (ss : List Plc) : Prop := ss.Nodup ∧ ∀ x, x ∈ ss ↔ f x ≠ 0
end Go.Proofs.YtmifdkbpbkafjaaGreatDoor

/- The keys of a map of words, collected: each once, in whatever order; then sorted: Places. -/
namespace Go.Proofs.YtmifdkbpbkafjaaGreatDoor
open Go.RowKit Go.Maps Go.Shelf Go.Sort
set_option maxRecDepth 100000

attribute [local go_sem] Oper.semAt_some

/-- ss are the places that have come: each once, places alone, those of the map that are no longer to come. -/
structure CollP (D : DataW Unit) (left : Lit → Bool) (ss : List Plc) : Prop where
  once : ss.Nodup
  wf : ∀ x ∈ ss, Wf x
  mem : ∀ x, Wf x → (x ∈ ss ↔ Maps.has D (kl x) = true ∧ left (kl x) = false)
theorem CollP.start (D : DataW Unit) : CollP D (Maps.has D) [] := ⟨List.nodup_nil, by simp, fun x _ => by simp⟩
theorem CollP.step {D : DataW Unit} {left : Lit → Bool} {ss : List Plc} (h : CollP D left ss) {x : Plc} (hx : Wf x) (hl : left (kl x) = true) {yd : DataW Unit} (hat : ∀ zd, D.atKey (kl x) zd = yd) : CollP D (fun z => left z && !z.sameKey (kl x)) (ss ++ [x]) := by
  have hnot : x ∉ ss := fun e => by have := ((h.mem x hx).1 e).2; rw [hl] at this; cases this
  refine ⟨List.nodup_append.2 ⟨h.once, by simp, fun a ha b hb e => ?_⟩, fun y hy => ?_, fun y hy => ?_⟩
  · simp at hb; subst hb; subst e; exact hnot ha
  · rcases List.mem_append.1 hy with h1 | h1
    · exact h.wf y h1
    · simp at h1; subst h1; exact hx
  · by_cases e : y = x
    · subst e
      simp [has_true_of_atKey hat, WideAt.sameKey_self (kl_key y)]
    · have hne : kl y ≠ kl x := fun e' => e (kl_inj hy hx e')
      simp [e, h.mem y hy, sameKey_ne hne]


set_option maxRecDepth 100000 in
set_option maxHeartbeats 2000000 in
theorem keys1_any (F : Fence) (n : Nat) (hf : F.fn 106) (hro : F.round = none) (hn : 1 ≤ n) (l Bm b nn : Nat) (D0 : DataW Unit) (J Jx : List Plc → World → Prop)
    (hY : ∀ pre x W, J pre W → pre.length < Maps.size D0 → YieldAt F (n - 1) Tryz.prog l #[pv x] W fun e W' => (e = .returned (.bool true) ∧ J (pre ++ [x]) W' ∧ KeepsWalks W W') ∨ (e = .returned (.bool false) ∧ Jx (pre ++ [x]) W'))
    (W : World) (hJ : AbidesFrom W.heap.size J) (hm : W.cell? ⟨Bm, 0, none⟩ = some (.map (some b))) (hown : W.ownsMap Tryz.prog 37 (plainElem (H := Unit) Tryz.prog 39) b nn D0) (h0 : J [] W) :
    CallsIn F n Tryz.prog 106 #[.func (.yield l) #[] #[], .pointer (some ⟨Bm, 0, none⟩)] W fun e W' => (∃ v, e = .returned v) ∧
      ((∃ ss, (CollP D0 (fun _ => false) ss ∧ ss.length ≤ Maps.size D0) ∧ J ss W') ∨ (∃ pre, True ∧ Jx pre W')) := by
  refine callsIn_of_wp Tryz.func106 rfl hf ?_ hro
  simp only [Tryz.ntmps106, List.size_toArray, List.length_cons, List.length_nil, Nat.reduceAdd, Nat.reduceSub, Array.replicate_succ, Array.replicate_zero, List.push_toArray, List.append_toArray, List.nil_append, List.cons_append]
  gi_wp2_with (first
    | (gi_at_range; refine wpListIn_range_own _ rfl _ 138 rfl 37 39 keyPlace Tryz.underlying138 _ b nn _ rfl hown ?_; intro w0 hrg0 hg0 hs0)
    | gi_in)
  go_frame
  gi_loopw [3] (fun _ wr => ∃ (left : Lit → Bool) (cnt : Nat) (ss : List Plc), wr.ranges Tryz.prog 37 (plainElem (H := Unit) Tryz.prog 39) b W.heap.size nn D0 left cnt ∧ ss.length + cnt ≤ Maps.size D0 ∧ CollP D0 left ss ∧ J ss wr)
    (fun _ wr => wr.rangeLeft b W.heap.size)
  case atStart =>
    exact ⟨_, _, [], hrg0, by simp, CollP.start D0, hJ [] W w0 none h0 hg0 (fun r e => by cases e)⟩
  case round =>
    obtain ⟨left, cnt, ss, hrg, hcs, hC, hJs⟩ := hrel
    gi_wp2_with (first
      | (gi_at_next; refine wpListIn_next_ranges _ rfl _ rfl 37 keyPlace (plainElem (H := Unit) Tryz.prog 39) (fun x : Plc => Value.agg #[.int .i64 x.1, .int .i64 x.2.1, .int .i64 x.2.2]) id (fun key kl hk => by obtain ⟨x, _, hx, _⟩ := key_inv hk; exact ⟨x, hx⟩) (fun v _ _ => ⟨v, rfl⟩) b W.heap.size nn _ _ _ rfl hrg ?_ ?_)
      | gi_in)
    · intro hc0 hl0
      gi_wp2
      go_end0
      exact ⟨⟨_, rfl⟩, .inl ⟨ss, ⟨⟨hC.once, hC.wf, fun x hx => by rw [hC.mem x hx, hl0]⟩, by omega⟩, hJs⟩⟩
    · intro xa xb xc c kx yd yp w2 cnt2 hkey hlk hv hat hrg2 hlt hg2 hs2 hen
      obtain ⟨x, hx', ex, rfl⟩ := key_inv hkey
      obtain ⟨ya, yb, yc⟩ := x
      have ex' := pv_inj (x := (xa, xb, xc)) ex
      obtain ⟨rfl, rfl, rfl⟩ : xa = ya ∧ xb = yb ∧ xc = yc := by simpa using ex'
      clear ex ex'
      have hJ2 : J ss w2 := hJ ss wr w2 (some W.heap.size) hJs hg2 (fun r e => by cases e; exact ⟨Nat.le_refl _, hrg.iter_walk⟩)
      have hJ3 : J ss (w2.alloc (.cells #[.int .i64 xa, .int .i64 xb, .int .i64 xc] 37)) := hJ ss w2 _ none hJ2 (World.grownBy_alloc w2 _ none) (fun r e => by cases e)
      obtain ⟨fn, tmps, assign, body, hy, hR⟩ := hY ss (xa, xb, xc) _ hJ3 (by omega)
      have hrg2' := hrg2.alloc (.cells #[.int .i64 xa, .int .i64 xb, .int .i64 xc] 37)
      have hC2 := hC.step hx' hlk hat
      simp only [pv] at hy
      clear hs2
      gi_wp2
      refine hR.mono ?_
      rintro e W3 (⟨rfl, hJ4, hk3⟩ | ⟨rfl, hJx4⟩)
      · gi_wp2
        have hrg3 := hrg2'.of_walks hk3
        go_roundw
        case rel => exact ⟨_, cnt2, ss ++ [(xa, xb, xc)], hrg3, by simp; omega, hC2, hJ4⟩
        case measure => rw [hrg3.left_eq, hrg.left_eq]; exact hlt
      · gi_wp2
        refine bodyPost_ret (results_none rfl _ _ _) rfl ?_
        exact ⟨⟨_, rfl⟩,   .inr ⟨ss ++ [(xa, xb, xc)], trivial, hJx4⟩⟩

/-- .. and at most n of them. -/
def OpsN (f : Plc → Int) (n : Nat) (ss : List Plc) : Prop := OpsF f ss ∧ ss.length ≤ n

set_option maxRecDepth 100000 in
set_option maxHeartbeats 2000000 in
theorem keys1_none (F : Fence) (n : Nat) (hf : F.fn 106) (hro : F.round = none) (l Bm : Nat) (J : List Plc → World → Prop) (W : World) (hJ : AbidesFrom W.heap.size J)
    (hm : W.cell? ⟨Bm, 0, none⟩ = some (.map none)) (h0 : J [] W) :
    CallsIn F n Tryz.prog 106 #[.func (.yield l) #[] #[], .pointer (some ⟨Bm, 0, none⟩)] W fun e W' => (∃ v, e = .returned v) ∧ J [] W' := by
  have hrg := run_range_nilMap (P := Tryz.prog) W 138 _ _ Tryz.underlying138
  have hnx : ∀ ty, (Instr.next (.pointer (some ⟨W.heap.size, 0, none⟩)) false ty).run Tryz.prog (W.alloc (.mapIter none 0 #[] 0)) = _ := fun ty => run_next_nilMap _ ty 0 0 #[]
  refine callsIn_of_wp Tryz.func106 rfl hf ?_ hro
  simp only [Tryz.ntmps106, List.size_toArray, List.length_cons, List.length_nil, Nat.reduceAdd, Nat.reduceSub, Array.replicate_succ, Array.replicate_zero, List.push_toArray, List.append_toArray, List.nil_append, List.cons_append]
  gi_wp2
  refine wpIn_loop_rounds 1 ?_
  rw [roundsIn_succ]
  gi_wp2
  go_end0
  exact ⟨⟨_, rfl⟩, hJ [] W _ none h0 (World.grownBy_alloc W _ none) (fun r e => by cases e)⟩

theorem keys_stops (F : Fence) (n : Nat) (hf : F.fn 106) (hro : F.round = none) (hn : 1 ≤ n) {Bm nn : Nat} {mp : Option Nat} {f : Plc → Int} {w : World} (hBm : Bm < w.heap.size)
    (hm : w.cell? ⟨Bm, 0, none⟩ = some (.map mp)) (hM : MapIs w mp f nn) :
    SeqStopsK F n Tryz.prog 106 #[.pointer (some ⟨Bm, 0, none⟩)] (fun x : Plc => #[Value.agg #[.int .i64 x.1, .int .i64 x.2.1, .int .i64 x.2.2]]) KeepsWalks (OpsN f nn) (fun _ => True) nn w := fun l J Jx W hW hJ _ hY h0 => by
  rcases hM with ⟨rfl, rfl⟩ | ⟨b, D, rfl, ho, hr⟩
  · exact (keys1_none F n hf hro l Bm J W hJ ((hW.cell (p := ⟨Bm, 0, none⟩) hBm).trans hm) h0).mono fun _ _ ⟨he, hj⟩ => ⟨he, .inl ⟨[], ⟨⟨List.nodup_nil, by simp⟩, Nat.zero_le _⟩, hj⟩⟩
  · have hlt := ho.lt
    have hsz := ho.size_le
    have ho' : W.ownsMap Tryz.prog 37 (plainElem (H := Unit) Tryz.prog 39) b nn D := by
      obtain ⟨es, clock, hb, r⟩ := ho
      exact ⟨es, clock, (hW.block b hlt).trans hb, r⟩
    refine (keys1_any F n hf hro hn l Bm b nn D J Jx (fun pre x W1 h1 h2 => hY pre x W1 h1 (by omega)) W hJ ((hW.cell (p := ⟨Bm, 0, none⟩) hBm).trans hm) ho' h0).mono ?_
    rintro e W' ⟨he, ⟨ss, ⟨hC, hlen⟩, hj⟩ | hx⟩
    · refine ⟨he, .inl ⟨ss, ⟨⟨hC.once, fun x => ?_⟩, Nat.le_trans hlen hsz⟩, hj⟩⟩
      by_cases hw : Wf x
      · rw [hC.mem x hw, hr.has' x hw]; simp
      · constructor
        · intro e; exact absurd (hC.wf x e) hw
        · intro e; exact absurd (hr.words.out x hw) e
    · exact ⟨he, .inr hx⟩

set_option maxHeartbeats 1000000 in
theorem keys_in (F : Fence) (n : Nat) (hf : F.fn 80) (hro : F.round = none) (mp : Option Nat) (w : World) :
    CallsIn F n Tryz.prog 80 #[.map mp] w fun e w' => e = .returned (.func (.func 106) #[] #[.pointer (some ⟨w.heap.size, 0, none⟩)]) ∧ w' = w.alloc (.cells #[.map mp] 138) := by
  refine callsIn_of_wp Tryz.func80 rfl hf ?_ hro
  simp only [Tryz.ntmps80, List.size_toArray, List.length_cons, List.length_nil, Nat.reduceAdd, Nat.reduceSub, Array.replicate_succ, Array.replicate_zero, List.push_toArray, List.append_toArray, List.nil_append, List.cons_append]
  gi_wp2
  go_ret
  exact ⟨rfl, rfl⟩

def flatP (l : List Plc) : List Value := l.flatMap encP
theorem flatP_snoc (l : List Plc) (x : Plc) : flatP (l ++ [x]) = flatP l ++ encP x := by simp [flatP]
theorem flatP_length (l : List Plc) : (flatP l).length = l.length * 3 := by
  induction l with
  | nil => rfl
  | cons x l ih => simp [flatP, encP] at *; omega
theorem infoPlace : (Tryz.prog.info? 37).map (fun i => (i.zero, i.size, i.bytes)) = some (some (.agg #[.int .i64 0, .int .i64 0, .int .i64 0]), 3, 24) := by kernel_rfl
def Box3 (W : World) (B : Nat) (x : Plc) : Prop := W.heap[B]? = some (.cells #[.int .i64 x.1, .int .i64 x.2.1, .int .i64 x.2.2] 37 (0, 0))
theorem Box3.rule {W : World} {B : Nat} {x : Plc} (h : Box3 W B x) : ∀ i, W.cell? ⟨B, i, none⟩ = [Value.int .i64 x.1, .int .i64 x.2.1, .int .i64 x.2.2][i]? := fun i => by
  unfold Box3 at h
  simp [World.cell?, h]

set_option maxRecDepth 100000 in
set_option maxHeartbeats 2000000 in
theorem append_in (F : Fence) (n : Nat) (hf : F.fn 123) (hk : F.fn 106) (hro : F.round = none) (hn : 3 ≤ n) {Bm nn : Nat} {mp : Option Nat} {f : Plc → Int} {w : World} (hBm : Bm < w.heap.size)
    (hm : w.cell? ⟨Bm, 0, none⟩ = some (.map mp)) (hM : MapIs w mp f nn) (hN : nn ≤ maxLen) (hNb : nn * 24 ≤ 140737488355328) :
    CallsIn F n Tryz.prog 123 #[.slice none 0 0, .func (.func 106) #[] #[.pointer (some ⟨Bm, 0, none⟩)]] w fun e w' => ∃ v ss, e = .returned v ∧ OpsN f nn ss ∧ w'.ownsRow w.heap.size 37 3 v ss.length (flatP ss) ∧ (v = .slice none 0 0 ↔ ss = []) ∧ Below w.heap.size w w' := by
  have h1 : 1 ≤ n := by omega
  obtain ⟨i0, hi, hz0, hz1, hz2⟩ := info_parts infoPlace
  refine callsIn_of_wp_marks Tryz.func123 rfl hf ?_ hro
  simp only [Tryz.ntmps123, List.size_toArray, List.length_cons, List.length_nil, Nat.reduceAdd, Nat.reduceSub, Array.replicate_succ, Array.replicate_zero, List.push_toArray, List.append_toArray, List.nil_append, List.cons_append]
  gi_wp2
  have bO := Boxed.new w 115 (.slice none 0 0)
  have hB0 : Below w.heap.size w (w.alloc (.cells #[.slice none 0 0] 115)) := (Below.refl _ w).alloc (Nat.le_refl _) _
  refine wpIn_rangeFunc_ownH hro h1 (gf := 106) (lb := #[.pointer (some ⟨Bm, 0, none⟩)]) rfl hk (enters_of Tryz.func106 (by kernel_rfl) rfl)
    (keys_stops F (n - 1) hk hro (by omega) (w := w.alloc (.cells #[.slice none 0 0] 115)) (by simp; omega) ((hB0.cell (p := ⟨Bm, 0, none⟩) hBm).trans hm) (hM.more _)) walksK_t walksK_b (Below.refl _ _) (fun _ => rfl)
    (fun pre W => (∃ v, Boxed W w.heap.size 115 v ∧ W.ownsRow w.heap.size 37 3 v pre.length (flatP pre) ∧ (v = .slice none 0 0 ↔ pre = [])) ∧ Below w.heap.size w W)
    (fun _ _ _ => False)
    (OwnFrom.and (Own.from (holdsRow_own w.heap.size w.heap.size 115 37 3 (fun pre : List Plc => pre.length) flatP (fun pre v => v = .slice none 0 0 ↔ pre = [])) _) (ownFrom_below (Nat.le_refl _) (by simp)))
    (fun _ _ _ _ _ hs _ _ => hs)
    ⟨⟨_, bO, World.ownsRow_nil _ _ _ _, by simp⟩, hB0⟩
    (fun x a' W => ∃ Bx, Box3 W Bx x ∧ a' = { tmps := #[.slice none 0 0, .func (.func 106) #[] #[.pointer (some ⟨Bm, 0, none⟩)], .pointer (some ⟨w.heap.size, 0, none⟩), undef, .slice none 0 0, .pointer (some ⟨Bx, 0, none⟩), .func (.func 106) #[] #[.pointer (some ⟨Bm, 0, none⟩)], .agg #[.int .i64 x.1, .int .i64 x.2.1, .int .i64 x.2.2], undef, undef, undef, undef, undef], defers := [] })
    (fun x a' _ X Y row hs hg hr => by
      obtain ⟨Bx, h2, h3⟩ := hs
      refine ⟨Bx, (hg.block Bx (Array.getElem?_eq_some_iff.1 h2).1 (fun e => ?_)).trans h2, h3⟩
      obtain ⟨_, o, ho, hc⟩ := hr Bx e.symm
      rw [show X.heap[Bx]? = _ from h2] at ho
      cases ho
      cases hc) ?assign ?body ?done ?stop
  case assign =>
    rintro l pre x W K ⟨⟨v, bV, hrow, hnil⟩, hB1⟩ hK
    gi_wp2
    exact hK _ _ ((KeepsOthers.alloc _ _).from _) (KeepsWalks.alloc _ _) ⟨⟨v, bV.alloc _, hrow.alloc _, hnil⟩, hB1.alloc hB1.size _⟩ ⟨W.heap.size, World.alloc_heap_new W _, rfl⟩
  case body =>
    rintro l pre x a' W hl ⟨r, hr⟩ ⟨⟨v, hv, hrow, hnil⟩, hB⟩ ⟨Bx, hBx, rfl⟩ hlt
    have hc := hv.cell
    have hx := hBx.rule
    gi_wp2_with (gi_at_builtin; refine wpListIn_append_own _ rfl _ _ 115 rfl w.heap.size 37 i0 (.agg #[.int .i64 0, .int .i64 0, .int .i64 0]) 3 24 Tryz.underlying115 hi hz0 hz1 hz2 rfl (by decide) _ _ _ rfl (hrow.alloc _) ⟨W.heap.size, 0, none⟩ 1 1 [.int .i64 x.1, .int .i64 x.2.1, .int .i64 x.2.2] rfl rfl (cells_new _ _ _) (by simp [Value.oneCell']) (by omega) (by omega) (by have := hB.size; simp; omega) ?_; intro v' w1 hown' hgrow _; obtain ⟨g', cap', rfl⟩ := ownsRow_succ hown'; obtain ⟨hv1, hv2, hr2, hk2, hb2⟩ := hv.appended (by decide) hrow hB.size (Nat.le_refl _) hown' hgrow; have hc1 := hv1.cell; have hf1 := hv1.frozen)
    exact ⟨hk2.from _, hk2.walks, ⟨_, hv2, by rw [flatP_snoc]; simpa [encP] using hr2, by simp⟩, hB.trans hb2⟩
  case done =>
    rintro D ys W hD hS ⟨⟨v, hv, hrow, hnil⟩, hB⟩ hK
    have hc := hv.cell
    gi_wp2
    refine ⟨by simp, .inl ⟨_, _, rfl, run_takeDeferred hK, ?_⟩⟩
    exact ⟨_, results_tmp rfl _ _ _, v, ys, rfl, hS, ownsRow_putObj hrow _ hK rfl, hnil, hB.trans (belowK_b (w := w) (Nat.le_refl _) W D _ _ (by simp at hD; omega) hK rfl rfl)⟩
  case stop =>
    rintro D c pre W _ _ h _
    exact h.elim
end Go.Proofs.YtmifdkbpbkafjaaGreatDoor

/- Places: those whose words aren't 0, in their order. -/
namespace Go.Proofs.YtmifdkbpbkafjaaGreatDoor
open Go.RowKit Go.Maps Go.Shelf Go.Sort
set_option maxRecDepth 100000

/-! ### rows of places -/
def z3 : Plc := (0, 0, 0)
/-- v is a slice of just those places. -/
def RowP (w : World) (v : Value) (l : List Plc) : Prop :=
  (l = [] ∧ v = .slice none 0 0) ∨ ∃ g cap, v = .slice (some ⟨g, 0, none⟩) l.length cap ∧ g < w.heap.size ∧ ∀ j, j < l.length →
    w.cell? ⟨g, j * 3, none⟩ = some (.int .i64 (l.getD j z3).1) ∧ w.cell? ⟨g, j * 3 + 1, none⟩ = some (.int .i64 (l.getD j z3).2.1) ∧ w.cell? ⟨g, j * 3 + 2, none⟩ = some (.int .i64 (l.getD j z3).2.2)
theorem RowP.over {w w' : World} {v : Value} {l : List Plc} {T : Nat → Prop} (h : RowP w v l) (ht : Turn T w w') (hT : ∀ g len cap, v = .slice (some ⟨g, 0, none⟩) len cap → ¬ T g) : RowP w' v l := by
  rcases h with h | ⟨g, cap, hv, hg, hc⟩
  · exact .inl h
  · have hb := ht.block g hg (hT g _ cap hv)
    exact .inr ⟨g, cap, hv, Nat.lt_of_lt_of_le hg ht.size, fun j hj => by
      obtain ⟨h1, h2, h3⟩ := hc j hj
      refine ⟨?_, ?_, ?_⟩
      · rw [World.cell?_of_block (w := w) hb]; exact h1
      · rw [World.cell?_of_block (w := w) hb]; exact h2
      · rw [World.cell?_of_block (w := w) hb]; exact h3⟩

theorem flatP_get (l : List Plc) : ∀ (j c : Nat), j < l.length → c < 3 → (flatP l)[j * 3 + c]? = (encP (l.getD j z3))[c]? := by
  induction l with
  | nil => intro j c h; simp at h
  | cons x l ih =>
    intro j c hj hc
    have e : flatP (x :: l) = encP x ++ flatP l := by simp [flatP]
    cases j with
    | zero => rw [e, List.getElem?_append_left (by simp [encP]; omega)]; simp
    | succ j =>
      rw [e, List.getElem?_append_right (by simp [encP]; omega)]
      have := ih j c (by simpa using hj) hc
      have e2 : (j + 1) * 3 + c - (encP x).length = j * 3 + c := by simp [encP]; omega
      rw [e2, this]
      simp

theorem holds_of_row {w : World} {g cap : Nat} {cur : Array Value} {l : List Plc} {t : TypeId} (hg : w.heap[g]? = some (.cells cur t (0, 0))) (hc : cur.size = cap * 3) (hl : l.length ≤ cap) (ht : cur.toList.take (l.length * 3) = flatP l) : HoldsK encP 3 w g 0 l.toArray := by
  intro j hj
  have hj' : j < l.length * 3 := by simpa using hj
  refine ⟨?_, by simp [World.frozen?, hg]⟩
  have h1 : (cur.toList.take (l.length * 3))[j]? = (flatP l)[j]? := by rw [ht]
  rw [List.getElem?_take_of_lt hj'] at h1
  have h2 := flatP_get l (j / 3) (j % 3) (by omega) (by omega)
  rw [show j / 3 * 3 + j % 3 = j by omega] at h2
  have h3 : (encP (l.getD (j / 3) z3))[j % 3]? = some ((encP (l.getD (j / 3) z3))[j % 3]!) := by
    have : j % 3 < (encP (l.getD (j / 3) z3)).length := by simp [encP]; omega
    rw [List.getElem?_eq_getElem this, getElem!_pos (encP (l.getD (j / 3) z3)) (j % 3) this]
  simp only [World.cell?, hg, Nat.zero_add]
  rw [get_flatK _ _ _ _ (by simpa using hj')]
  have h4 : l.toArray[j / 3]! = l.getD (j / 3) z3 := by
    have hlt : j / 3 < l.length := by omega
    simp [hlt]
  have h5 : cur[j]? = some ((encP (l.getD (j / 3) z3))[j % 3]!) := by
    rw [← h3, ← h2, ← h1]; simp
  rw [h4]
  simpa using h5

theorem grown_sorted {w : World} {g n : Nat} {os : Array Obj} (d : Array Plc) : w.grownBy (sortWorldK encP 3 w g 0 n d os) (some g) := by
  refine ⟨rfl, rfl, rfl, by simp [sortWorldK, putRowK, grow, putRow, mapBlock, Sort.ahead], fun k hk hne => ?_⟩
  have h1 : g ≠ k := fun e => hne (by rw [e])
  unfold sortWorldK putRowK
  rw [heap_grow_old _ _ (by simpa [putRow, mapBlock, Sort.ahead] using hk)]
  simp [putRow, mapBlock, Sort.ahead, Array.getElem?_modify, h1]

theorem row_of_holds {w : World} {g cap : Nat} {l : List Plc} (hg : g < w.heap.size) (h : HoldsK encP 3 w g 0 l.toArray) : RowP w (.slice (some ⟨g, 0, none⟩) l.length cap) l := by
  refine .inr ⟨g, cap, rfl, hg, fun j hj => ?_⟩
  have e : l.toArray[j]! = l.getD j z3 := by simp [hj]
  have h0 := (h.cell (i := j) (c := 0) (by simpa using hj) (by omega)).1
  have h1 := (h.cell (i := j) (c := 1) (by simpa using hj) (by omega)).1
  have h2 := (h.cell (i := j) (c := 2) (by simpa using hj) (by omega)).1
  rw [e] at h0 h1 h2
  simp only [Nat.zero_add, Nat.add_zero] at h0 h1 h2
  exact ⟨h0, h1, h2⟩

/-! ### the order -/
def Rising (l : List Plc) : Prop := l.Pairwise fun x y => ltOf cmpP x y = true
theorem sortL_perm (l : List Plc) : (sortL l).Perm l := List.mergeSort_perm _ _
theorem sortL_rising {l : List Plc} (h : l.Nodup) : Rising (sortL l) := by
  have hs : (sortL l).Pairwise fun x y => (!(ltOf cmpP) y x) = true := by
    unfold sortL
    refine List.pairwise_mergeSort (fun a b c h1 h2 => ?_) (fun a b => ?_) l
    · simp only [Bool.not_eq_true'] at *
      exact swoP.ntrans _ _ _ h2 h1
    · simp only [Bool.or_eq_true, Bool.not_eq_true']
      cases h1 : ltOf cmpP b a
      · exact .inl rfl
      · refine .inr ?_
        cases h2 : ltOf cmpP a b
        · rfl
        · have := swoP.trans _ _ _ h1 h2
          rw [swoP.irrefl] at this
          cases this
  have hn : (sortL l).Nodup := (sortL_perm l).nodup_iff.2 h
  refine (hs.and hn).imp fun {x y} hxy => ?_
  obtain ⟨h1, h2⟩ := hxy
  cases h3 : ltOf cmpP x y
  · exact absurd (totP x y h3 (by simpa using h1)) h2
  · rfl
theorem rising_eq : ∀ {l m : List Plc}, Rising l → Rising m → (∀ x, x ∈ l ↔ x ∈ m) → l = m
  | [], [], _, _, _ => rfl
  | [], y :: m, _, _, h => by have := (h y).2 (by simp); simp at this
  | x :: l, [], _, _, h => by have := (h x).1 (by simp); simp at this
  | x :: l, y :: m, h1, h2, h => by
    obtain ⟨a1, a2⟩ := List.pairwise_cons.1 h1
    obtain ⟨b1, b2⟩ := List.pairwise_cons.1 h2
    have no : ∀ a b : Plc, ltOf cmpP a b = true → ltOf cmpP b a = true → False := fun a b p q => by
      have := swoP.trans _ _ _ p q
      rw [swoP.irrefl] at this
      cases this
    have hxy : x = y := by
      rcases List.mem_cons.1 ((h x).1 (by simp)) with e | hx
      · exact e
      · rcases List.mem_cons.1 ((h y).2 (by simp)) with e | hy
        · exact e.symm
        · exact (no x y (a1 y hy) (b1 x hx)).elim
    subst hxy
    rw [rising_eq a2 b2 fun z => ⟨fun hz => by
      rcases List.mem_cons.1 ((h z).1 (by simp [hz])) with e | h'
      · subst e; exact (no _ _ (a1 _ hz) (a1 _ hz)).elim
      · exact h', fun hz => by
      rcases List.mem_cons.1 ((h z).2 (by simp [hz])) with e | h'
      · subst e; exact (no _ _ (b1 _ hz) (b1 _ hz)).elim
      · exact h'⟩]
/-- l are the places whose words aren't 0, rising. -/
def PlacesOf (f : Plc → Int) (l : List Plc) : Prop := Rising l ∧ ∀ x, x ∈ l ↔ f x ≠ 0
theorem PlacesOf.eq {f : Plc → Int} {l m : List Plc} (h : PlacesOf f l) (k : PlacesOf f m) : l = m := rising_eq h.1 k.1 fun x => (h.2 x).trans (k.2 x).symm
theorem PlacesOf.sort {f : Plc → Int} {ss : List Plc} (h : OpsF f ss) : PlacesOf f (sortL ss) := ⟨sortL_rising h.1, fun x => ((sortL_perm ss).mem_iff).trans (h.2 x)⟩

/-! ### the calls -/
set_option maxHeartbeats 1000000 in
theorem collect_any {Bm nn : Nat} {mp : Option Nat} {f : Plc → Int} {w : World} (hBm : Bm < w.heap.size)
    (hm : w.cell? ⟨Bm, 0, none⟩ = some (.map mp)) (hM : MapIs w mp f nn) (hN : nn ≤ maxLen) (hNb : nn * 24 ≤ 140737488355328) :
    Calls Tryz.prog 104 #[.func (.func 106) #[] #[.pointer (some ⟨Bm, 0, none⟩)]] w fun e w' => ∃ v ss, e = .returned v ∧ OpsN f nn ss ∧ w'.ownsRow w.heap.size 37 3 v ss.length (flatP ss) ∧ (v = .slice none 0 0 ↔ ss = []) ∧ Below w.heap.size w w' := by
  have h1 : Calls Tryz.prog 123 #[.slice none 0 0, .func (.func 106) #[] #[.pointer (some ⟨Bm, 0, none⟩)]] w _ := (callsIn_wide (n := 6)).1 (append_in Fence.wide 6 trivial trivial rfl (by omega) hBm hm hM hN hNb)
  clear hm hM
  go_enter Tryz.func104, Tryz.ntmps104
  go_wp2_with (refine h1.mono ?_; rintro e w1 ⟨v, ss, rfl, h2, h3, h4, h5⟩)
  go_ret
  exact ⟨v, ss, rfl, h2, h3, h4, h5⟩

set_option maxHeartbeats 1000000 in
theorem sorted_any {Bm nn : Nat} {mp : Option Nat} {f : Plc → Int} {w : World} (hBm : Bm < w.heap.size)
    (hm : w.cell? ⟨Bm, 0, none⟩ = some (.map mp)) (hM : MapIs w mp f nn) (hN : nn ≤ maxLen) (hNb : nn * 24 ≤ 140737488355328) :
    Calls Tryz.prog 79 #[.func (.func 106) #[] #[.pointer (some ⟨Bm, 0, none⟩)], .func (.func 81) #[] #[]] w fun e w' => ∃ v l, e = .returned v ∧ PlacesOf f l ∧ RowP w' v l ∧ Below w.heap.size w w' := by
  have h1 := collect_any hBm hm hM hN hNb
  clear hm hM
  go_enter Tryz.func79, Tryz.ntmps79
  go_wp2_with fail
  refine h1.mono ?_
  rintro e w1 ⟨v, ss, rfl, ⟨h2, h2n⟩, h3, h4, h5⟩
  rcases h3.2 with ⟨rfl, hz⟩ | ⟨g, cap, cur, rfl, hg0, hg, hl, hcap, hcs, htk⟩
  · have hs : ss = [] := h4.1 rfl
    subst hs
    go_wp2_with (refine (sort_none _ _ _ _).mono ?_; rintro e w2 ⟨rfl, rfl⟩)
    go_ret
    exact ⟨_, [], rfl, ⟨List.Pairwise.nil, fun x => by simpa using h2.2 x⟩, .inl ⟨rfl, rfl⟩, h5⟩
  · have hH := holds_of_row hg hcs hl htk
    have hgl : g < w1.heap.size := (Array.getElem?_eq_some_iff.1 hg).1
    have hc := sort_any g 0 cap ss.toArray w1 hH hgl (by simp; omega)
    have h6 := PlacesOf.sort h2
    have hlen : (sortL ss).length = ss.length := (sortL_perm ss).length_eq
    simp only [List.size_toArray] at hc
    have HH := Lib.hid hH
    clear h1 h3 h4 hg htk hcs hH
    go_wp2_with (refine hc.mono ?_; rintro e w2 ⟨rfl, n, os, rfl⟩)
    go_ret
    have hgr := grown_sorted (w := w1) (g := g) (n := n) (os := os) (sortL ss).toArray
    refine ⟨_, sortL ss, rfl, h6, ?_, h5.grown hgr h5.size fun k e => by cases e; exact hg0⟩
    rw [← hlen]
    refine row_of_holds (Nat.lt_of_lt_of_le hgl hgr.size) (holdsK_grow _ _ _ _ _ _ _ (by simpa [putRowK, putRow, mapBlock, Sort.ahead] using hgl) (holdsK_putRowK _ _ _ _ _ ss.toArray _ ?_ (by simp [hlen])))
    exact holdsK_ahead _ _ _ _ _ _ _ HH.out

set_option maxHeartbeats 1000000 in
theorem places_any {c n : Nat} {F : Nat → Prop} {f : Plc → Int} {q : Cnt} {w : World} (hn : n ≤ 1000000) (hC : IsC w c F f q n) :
    Calls Tryz.prog 48 #[.pointer (some ⟨c, 0, none⟩)] w fun e w' => ∃ v l, e = .returned v ∧ PlacesOf f l ∧ RowP w' v l ∧ Below w.heap.size w w' := by
  obtain ⟨mp, hb, hm, hF⟩ := hC
  have r := hb.rule
  unfold cv at r
  have hk := fun w' => (callsIn_wide (n := 6)).1 (keys_in Fence.wide 6 trivial rfl mp w')
  have hs := sorted_any (w := w.alloc (.cells #[.map mp] 138)) (Bm := w.heap.size) (by simp) ((Blk.new 0 w [.map mp] _).rule 0) (hm.more _) (by unfold maxLen; omega) (by omega)
  go_enter Tryz.func48, Tryz.ntmps48
  go_wp2_with fail
  refine (hk _).mono ?_
  rintro e w1 ⟨rfl, rfl⟩
  clear hk
  go_wp2_with fail
  refine hs.mono ?_
  rintro e w2 ⟨v, l, rfl, h1, h2, h3⟩
  clear hs
  go_wp2
  go_ret
  exact ⟨v, l, rfl, h1, h2, ((Below.refl _ _).alloc (Nat.le_refl _) _).trans (h3.mono (by simp))⟩
/-- The one place whose word isn't 0. -/
theorem places_one {x : Plc} {v : Int} (hv : v ≠ 0) {l : List Plc} (h : PlacesOf (upd (fun _ => 0) x v) l) : l.length = 1 := by
  have h1 : PlacesOf (upd (fun _ => 0) x v) [x] := ⟨List.pairwise_singleton _ _, fun y => by unfold upd; split <;> simp_all⟩
  rw [h.eq h1]; rfl

theorem RowP.len {w : World} {v : Value} {l : List Plc} (h : RowP w v l) : ∃ a cap, v = .slice a l.length cap := by
  rcases h with ⟨rfl, rfl⟩ | ⟨g, cap, rfl, _⟩
  · exact ⟨_, _, rfl⟩
  · exact ⟨_, _, rfl⟩
theorem RowP.below {w w' : World} {v : Value} {l : List Plc} (h : RowP w v l) (hb : Below w.heap.size w w') : RowP w' v l := h.over (Turn.of_below hb : Turn (fun _ => False) w w') fun _ _ _ _ e => e
end Go.Proofs.YtmifdkbpbkafjaaGreatDoor

/- The reference's words in a row: Swap, Less. -/
namespace Go.Proofs.YtmifdkbpbkafjaaGreatDoor
open Go.RowKit Go.Maps Go.Sort
set_option maxRecDepth 100000

set_option maxHeartbeats 1600000 in
theorem less_any (x y z a b d : Int) (w : World) :
    Calls Tryz.prog 82 #[.agg #[.int .i64 x, .int .i64 y, .int .i64 z], .agg #[.int .i64 a, .int .i64 b, .int .i64 d]] w fun e w' => e = .returned (.bool (ltOf cmpP (x, y, z) (a, b, d))) ∧ Below w.heap.size w w' := by
  have hE := ((Fr.start w).push w.heap.size rfl [.int .i64 x, .int .i64 y, .int .i64 z] 37).push (w.heap.size + 1) (by simp) [.int .i64 a, .int .i64 b, .int .i64 d] 37
  have r := hE.rule 0 rfl
  have r1 := hE.rule 1 rfl
  have hL : ltOf cmpP (x, y, z) (a, b, d) = if x ≠ a then decide (x < a) else if y ≠ b then decide (y < b) else decide (z < d) := by
    have h := ltP (x, y, z) (a, b, d)
    rw [Bool.eq_iff_iff, h]
    split
    · simp; omega
    · split
      · simp; omega
      · simp; omega
  rw [hL]
  go_enter Tryz.func82, Tryz.ntmps82
  by_cases h1 : x = a
  · subst h1
    by_cases h2 : y = b
    · subst h2
      go_wp2_with fail
      go_ret
      exact ⟨by simp, hE.below⟩
    · go_wp2_with fail
      go_ret
      exact ⟨by simp [h2], hE.below⟩
  · go_wp2_with fail
    go_ret
    exact ⟨by simp [h1], hE.below⟩



end Go.Proofs.YtmifdkbpbkafjaaGreatDoor

/- The reference's words among other things; counts as cells. -/
namespace Go.Proofs.YtmifdkbpbkafjaaGreatDoor
open Go.RowKit Go.Maps
set_option maxRecDepth 100000

/-- Counts in five cells. -/
def bv (t : Cnt) : List Value := [.int .i64 t.l, .int .i64 t.s, .int .i64 t.w, .int .i64 t.f, .int .i64 t.a]
theorem swf_getL (l : List OneR) (x : Plc) (o v : Int) : swf (getL l) x o v = getL (swL l x o v) := by
  unfold swf swL
  split
  · rw [getL_set]
  · rfl
theorem LOk.sw {l : List OneR} {N : Nat} (h : LOk l N) (x : Plc) (o v : Int) : LOk (swL l x o v) (N + 1) := by
  unfold swL; split
  · exact h.set x v
  · exact h.more
end Go.Proofs.YtmifdkbpbkafjaaGreatDoor
