/- What is proved on the way to the statement, part 10 of 17: contracts of the functions, among other things in memory. -/
import Derived.Test.YtdknbegcflldjaaGreatDoorE9
import Derived.Shelf.SlSortCmp.Insertion
import Derived.Sort.Statements

/- Threads: an Alloc's step, of the program and of the reference, whatever its row. -/
namespace Go.Proofs.YtdknbegcflldjaaGreatDoor
open Go.RowKit Go.Maps
set_option maxRecDepth 100000

/-- The thread's, and the world's, in the program. -/
def SP (C : Cf) (X : Tm) (V : Wm) (T : Th) (f : Plc → Int) (G : Nat → Prop) (qc : Cnt) (n : Nat) : ST := { c := X.c, q := X.q, p := V.p, cc := V.cc, ck := C.k, cs := C.s, cb := C.b, ch := C.h, cl := C.l, ce := T.e, cr := X.cr, hs := T.hs, F := X.F, ql := T.ql, kq := X.kq, G := G, f := f, qc := qc, m := n }
/-- The words of a birth. -/
def WD (C : Cf) (d : Dd) (T : Th) : List (Int × Int) := wordsA C.k T.e d.key d.val (IntKind.u64.wrap d.lv)
def maD (a : Nat) (d : Dd) (T : Th) (left : Value) (s : Int) : MA := { nx := nxA a T.apc, left := left, k := d.ok, key := d.key, val := d.val, lv := d.lv, h := T.ah, n := T.an, r := T.ar, s := s }
def avD (c a : Nat) (d : Dd) (T : Th) (left : Value) (s : Int) : List Value := av c (maD a d T left s)
/-- What is left of a birth's words. -/
def LeftIs (C : Cf) (d : Dd) (T : Th) (left : Value) (s : Int) (gl : List Item) : Prop :=
  if T.apc ≤ 10 then gl = [] else ∃ g c9 N, gl = [lieI g (flat2 (WD C d T))] ∧ s = T.hs ∧ left = .slice (some ⟨g, 2 * (T.apc - 10), none⟩) (N + 1) c9 ∧ N + 1 ≤ c9 ∧ (WD C d T).length = (T.apc - 10) + (N + 1)
/-- What an Alloc's row asks of its thread. -/
structure RowOk (C : Cf) (T : Th) (n : Nat) : Prop where
  (he : 0 ≤ T.e ∧ T.e ≤ 9223372036854775807)
  (hn : n < maxLen)
  (hl : T.ql.length + 1 ≤ 1000000)
  (hs : 0 ≤ C.s ∧ C.s ≤ 9223372036854775806)
  (hw : InU T.ah ∧ InU T.an ∧ InU T.ar)
  (apc : T.apc = 1 ∨ T.apc = 2 ∨ T.apc = 3 ∨ T.apc = 4 ∨ T.apc = 5 ∨ T.apc = 6 ∨ 10 ≤ T.apc)
  (born : T.apc = 10 → T.hs = 0 ∧ ∃ x y t, T.ql = (x, y, 0) :: t ∧ 1 ≤ x ∧ x ≤ C.s)
  (hh : In64 T.hs)
theorem flat2_at (l : List (Int × Int)) (k : Nat) {a b : Int} (h : l[k]? = some (a, b)) : (flat2 l)[2 * k]? = some (.int .i64 a) ∧ (flat2 l)[2 * k + 1]? = some (.int .u64 b) := by
  induction l generalizing k with
  | nil => simp at h
  | cons p r ih =>
    cases k with
    | zero =>
      simp at h
      subst h
      simp [flat2]
    | succ k =>
      have h' : r[k]? = some (a, b) := by simpa using h
      have := ih k h'
      have e1 : 2 * (k + 1) = 2 * k + 1 + 1 := by omega
      rw [e1]
      simpa [flat2] using this
theorem WD_in {C : Cf} {d : Dd} {T : Th} (he : 0 ≤ T.e ∧ T.e ≤ 9223372036854775807) (hd : InU d.key ∧ InU d.val) {k : Nat} {a b : Int} (h : (WD C d T)[k]? = some (a, b)) : In64 a ∧ InU b := by
  have hm : (a, b) ∈ WD C d T := List.mem_of_getElem? h
  have hw : InU (IntKind.u64.wrap d.lv) := by rw [IntKind.wrap_u64]; unfold InU; omega
  unfold WD wordsA at hm
  have h0 : InU 0 := by unfold InU; omega
  have h1 : InU T.e := by unfold InU; omega
  split at hm
  · simp at hm
    rcases hm with ⟨rfl, rfl⟩ | ⟨rfl, rfl⟩ | ⟨rfl, rfl⟩ | ⟨rfl, rfl⟩ <;> exact ⟨by unfold In64; omega, by first | exact h1 | exact h0 | exact hd.1 | exact hd.2⟩
  · split at hm
    · simp at hm
      rcases hm with ⟨rfl, rfl⟩ | ⟨rfl, rfl⟩ | ⟨rfl, rfl⟩ | ⟨rfl, rfl⟩ | ⟨rfl, rfl⟩ <;> exact ⟨by unfold In64; omega, by first | exact h1 | exact h0 | exact hd.1 | exact hw⟩
    · simp at hm
      rcases hm with ⟨rfl, rfl⟩ | ⟨rfl, rfl⟩ | ⟨rfl, rfl⟩ <;> exact ⟨by unfold In64; omega, by first | exact h1 | exact h0 | exact hd.1⟩
theorem decP_in (ql : List Trip) (e l : Int) : decP ql e l = 0 ∨ decP ql e l = 1 ∨ decP ql e l = 2 ∨ decP ql e l = 10 := by
  rcases ql with _ | ⟨⟨x, y, z⟩, t⟩
  · exact .inr (.inr (.inl rfl))
  · simp only [decP]
    split
    · simp
    · split <;> simp
theorem fnA_store {pc : Nat} (h : 11 ≤ pc) : fnA pc = 315 := by
  unfold fnA
  rw [if_neg (by omega), if_neg (by omega), if_neg (by omega), if_neg (by omega), if_neg (by omega), if_neg (by omega), if_neg (by omega)]
theorem LeftIs.low {C : Cf} {d : Dd} {T : Th} (h : T.apc ≤ 10) : LeftIs C d T (.slice none 0 0) 0 [] := by unfold LeftIs; rw [if_pos h]
theorem LeftIs.of {C : Cf} {d : Dd} {T : Th} {left : Value} {s : Int} (h : T.apc ≤ 10) : LeftIs C d T left s [] := by unfold LeftIs; rw [if_pos h]
theorem WD_len (C : Cf) (d : Dd) (T : Th) : 3 ≤ (WD C d T).length ∧ (WD C d T).length ≤ 5 := by
  unfold WD
  rw [wordsA_len]
  split
  · omega
  · split <;> omega

section
variable {w0 w : World} {R : List Item} {C : Cf} {d : Dd} {X : Tm} {V : Wm} {T : Th} {f : Plc → Int} {G : Nat → Prop} {qc : Cnt} {n a : Nat} {left : Value} {s : Int} {gl : List Item}
set_option maxHeartbeats 1600000 in
theorem alPx (hg : Glo w0) (hk : RowOk C T n) (hd : InU d.key ∧ InU d.val) (hlf : LeftIs C d T left s gl) (hE : Env w0 (boxI a (avD X.c a d T left s) :: LT (SP C X V T f G qc n) (gl ++ R)) w) :
    Calls Tryz.prog 251 #[.pointer (some ⟨a, 0, none⟩), .iface 26 (.pointer (some ⟨V.p, 0, none⟩))] w fun o w' => o = .returned (.int .i64 (allocM C d T f).1) ∧ ∃ (F' : Nat → Prop) (k' : Nat) (G' : Nat → Prop) (qc' : Cnt) (n' : Nat), Nx n qc n' qc' ∧ (((allocM C d T f).1 = 0 ∧ ∃ left' s' gl', LeftIs C d (allocM C d T f).2.1 left' s' gl' ∧ Env w0 (boxI a (avD X.c a d (allocM C d T f).2.1 left' s') :: LT (SP C { X with F := F', kq := k' } V (allocM C d T f).2.1 (allocM C d T f).2.2 G' qc' n') (gl' ++ R)) w') ∨ ((allocM C d T f).1 ≠ 0 ∧ Env w0 (LT (SP C { X with F := F', kq := k' } V (allocM C d T f).2.1 (allocM C d T f).2.2 G' qc' n') R) w')) := by
  have drop : ∀ {S : ST} {y : Item} {w' : World}, Env w0 (y :: LT S R) w' → Env w0 (LT S R) w' := fun h => h.sub (.cons _ (List.Sublist.refl _))
  have hfu : ∀ x, InU (f x) := fun x => (hE.cell 4 rfl).words.1 x
  rcases hk.apc with h1 | h1 | h1 | h1 | h1 | h1 | h1
  · have hgl : gl = [] := by unfold LeftIs at hlf; rw [if_pos (by omega)] at hlf; exact hlf
    subst hgl
    have hal : allocM C d T f = (2, T, swf f (1, 0, 0) T.e (T.e + 1)) := by unfold allocM; rw [if_pos h1]
    rw [hal]
    refine (step_ay (S := SP C X V T f G qc n) (M := maD a d T left s) 1 _ hE (by simp [maD, h1]) (advance_a (S := SP C X V T f G qc n) (M := maD a d T left s) hk.he hk.hn hE)).mono ?_
    rintro o w1 ⟨rfl, nx, G', hE1⟩
    exact ⟨rfl, X.F, X.kq, G', _, n + 1, ⟨Nat.le_refl _, (by first | exact Or.inl ⟨rfl, rfl, rfl, rfl⟩ | exact Or.inr (Or.inl ⟨rfl, rfl, rfl, rfl⟩) | exact Or.inr (Or.inr (Or.inl ⟨rfl, rfl, rfl, rfl⟩)) | exact Or.inr (Or.inr (Or.inr ⟨rfl, rfl, rfl, rfl⟩)))⟩, .inr ⟨show (2 : Int) ≠ 0 by decide, drop hE1⟩⟩
  · have hgl : gl = [] := by unfold LeftIs at hlf; rw [if_pos (by omega)] at hlf; exact hlf
    subst hgl
    by_cases hx : C.s ≤ f (3, 0, 0)
    · have hal : allocM C d T f = (0, { T with apc := 3 }, upd f (3, 0, 0) (IntKind.u64.wrap (f (3, 0, 0) + 1))) := by unfold allocM; rw [if_neg (by omega), if_pos h1, if_pos hx]
      rw [hal]
      refine (step_ay (S := SP C X V T f G qc n) (M := maD a d T left s) 2 _ hE (by simp [maD, h1]) (freshNo_a (S := SP C X V T f G qc n) (M := maD a d T left s) _ rfl (hfu _).1 hx hk.hs hk.hn (Lib.hid rfl) hE)).mono ?_
      rintro o w1 ⟨rfl, G', hE1⟩
      exact ⟨rfl, X.F, X.kq, G', _, n + 1, ⟨Nat.le_refl _, (by first | exact Or.inl ⟨rfl, rfl, rfl, rfl⟩ | exact Or.inr (Or.inl ⟨rfl, rfl, rfl, rfl⟩) | exact Or.inr (Or.inr (Or.inl ⟨rfl, rfl, rfl, rfl⟩)) | exact Or.inr (Or.inr (Or.inr ⟨rfl, rfl, rfl, rfl⟩)))⟩, .inl ⟨rfl, left, s, [], .of (show (3 : Nat) ≤ 10 by decide), hE1⟩⟩
    · have hal : allocM C d T f = (decS (T.ql ++ [(f (3, 0, 0) + 1, 0, 0)]) T.e C.l, { T with ql := T.ql ++ [(f (3, 0, 0) + 1, 0, 0)], apc := decP (T.ql ++ [(f (3, 0, 0) + 1, 0, 0)]) T.e C.l }, upd f (3, 0, 0) (IntKind.u64.wrap (f (3, 0, 0) + 1))) := by unfold allocM; rw [if_neg (by omega), if_pos h1, if_neg hx]
      rw [hal]
      refine (step_ay (S := SP C X V T f G qc n) (M := maD a d T left s) 2 _ hE (by simp [maD, h1]) (freshYes_a (S := SP C X V T f G qc n) (M := maD a d T left s) _ rfl (Nat.le_trans hk.hl (by decide)) (hfu _).1 (show f (3, 0, 0) < C.s by omega) hk.hs.2 hk.hn (Lib.hid rfl) hE)).mono ?_
      rintro o w1 ⟨rfl, nx, k', F', G', hnx, -, hE1⟩
      have hin := decP_in (T.ql ++ [(f (3, 0, 0) + 1, 0, 0)]) T.e C.l
      by_cases hz : decP (T.ql ++ [(f (3, 0, 0) + 1, 0, 0)]) T.e C.l = 0
      · exact ⟨rfl, F', k', G', _, n + 1, ⟨Nat.le_refl _, (by first | exact Or.inl ⟨rfl, rfl, rfl, rfl⟩ | exact Or.inr (Or.inl ⟨rfl, rfl, rfl, rfl⟩) | exact Or.inr (Or.inr (Or.inl ⟨rfl, rfl, rfl, rfl⟩)) | exact Or.inr (Or.inr (Or.inr ⟨rfl, rfl, rfl, rfl⟩)))⟩, .inr ⟨show decS (T.ql ++ [(f (3, 0, 0) + 1, 0, 0)]) T.e C.l ≠ 0 by unfold decS; rw [if_pos hz]; decide, drop hE1⟩⟩
      · have hnx := hnx hz
        subst hnx
        exact ⟨rfl, F', k', G', _, n + 1, ⟨Nat.le_refl _, (by first | exact Or.inl ⟨rfl, rfl, rfl, rfl⟩ | exact Or.inr (Or.inl ⟨rfl, rfl, rfl, rfl⟩) | exact Or.inr (Or.inr (Or.inl ⟨rfl, rfl, rfl, rfl⟩)) | exact Or.inr (Or.inr (Or.inr ⟨rfl, rfl, rfl, rfl⟩)))⟩, .inl ⟨show decS (T.ql ++ [(f (3, 0, 0) + 1, 0, 0)]) T.e C.l = 0 by unfold decS; rw [if_neg hz], left, s, [], .of (show decP (T.ql ++ [(f (3, 0, 0) + 1, 0, 0)]) T.e C.l ≤ 10 by omega), hE1⟩⟩
  · have hgl : gl = [] := by unfold LeftIs at hlf; rw [if_pos (by omega)] at hlf; exact hlf
    subst hgl
    have hal : allocM C d T f = (poolS (f (2, 0, 0)) C.l, { T with ah := f (2, 0, 0), apc := 4 }, f) := by unfold allocM; rw [if_neg (by omega), if_neg (by omega), if_pos h1]
    rw [hal]
    refine (step_ay (S := SP C X V T f G qc n) (M := maD a d T left s) 3 _ hE (by simp [maD, h1]) (loadPool_a (S := SP C X V T f G qc n) (M := maD a d T left s) _ rfl hg (Lib.hid rfl) hE)).mono ?_
    rintro o w1 ⟨rfl, nx, hnx, hE1⟩
    by_cases hz : poolS (f (2, 0, 0)) C.l = 0
    · have hnx := hnx hz
      subst hnx
      exact ⟨rfl, X.F, X.kq, G, _, n, ⟨by omega, (by first | exact Or.inl ⟨rfl, rfl, rfl, rfl⟩ | exact Or.inr (Or.inl ⟨rfl, rfl, rfl, rfl⟩) | exact Or.inr (Or.inr (Or.inl ⟨rfl, rfl, rfl, rfl⟩)) | exact Or.inr (Or.inr (Or.inr ⟨rfl, rfl, rfl, rfl⟩)))⟩, .inl ⟨hz, left, s, [], .of (show (4 : Nat) ≤ 10 by decide), hE1⟩⟩
    · exact ⟨rfl, X.F, X.kq, G, _, n, ⟨by omega, (by first | exact Or.inl ⟨rfl, rfl, rfl, rfl⟩ | exact Or.inr (Or.inl ⟨rfl, rfl, rfl, rfl⟩) | exact Or.inr (Or.inr (Or.inl ⟨rfl, rfl, rfl, rfl⟩)) | exact Or.inr (Or.inr (Or.inr ⟨rfl, rfl, rfl, rfl⟩)))⟩, .inr ⟨hz, drop hE1⟩⟩
  · have hgl : gl = [] := by unfold LeftIs at hlf; rw [if_pos (by omega)] at hlf; exact hlf
    subst hgl
    have hal : allocM C d T f = (0, { T with an := f (5, slotI T.ah, 2), apc := 5 }, f) := by unfold allocM; rw [if_neg (by omega), if_neg (by omega), if_neg (by omega), if_pos h1]
    rw [hal]
    refine (step_ay (S := SP C X V T f G qc n) (M := maD a d T left s) 4 _ hE (by simp [maD, h1]) (loadChain_a (S := SP C X V T f G qc n) (M := maD a d T left s) _ rfl hk.hw.1 hg (Lib.hid rfl) hE)).mono ?_
    rintro o w1 ⟨rfl, hE1⟩
    exact ⟨rfl, X.F, X.kq, G, _, n, ⟨by omega, (by first | exact Or.inl ⟨rfl, rfl, rfl, rfl⟩ | exact Or.inr (Or.inl ⟨rfl, rfl, rfl, rfl⟩) | exact Or.inr (Or.inr (Or.inl ⟨rfl, rfl, rfl, rfl⟩)) | exact Or.inr (Or.inr (Or.inr ⟨rfl, rfl, rfl, rfl⟩)))⟩, .inl ⟨rfl, left, s, [], .of (show (5 : Nat) ≤ 10 by decide), hE1⟩⟩
  · have hgl : gl = [] := by unfold LeftIs at hlf; rw [if_pos (by omega)] at hlf; exact hlf
    subst hgl
    have hal : allocM C d T f = (0, { T with ar := f (5, slotI T.ah, 1), apc := 6 }, f) := by unfold allocM; rw [if_neg (by omega), if_neg (by omega), if_neg (by omega), if_neg (by omega), if_pos h1]
    rw [hal]
    refine (step_ay (S := SP C X V T f G qc n) (M := maD a d T left s) 5 _ hE (by simp [maD, h1]) (loadRetired_a (S := SP C X V T f G qc n) (M := maD a d T left s) _ rfl hk.hw.1 hg (Lib.hid rfl) hE)).mono ?_
    rintro o w1 ⟨rfl, hE1⟩
    exact ⟨rfl, X.F, X.kq, G, _, n, ⟨by omega, (by first | exact Or.inl ⟨rfl, rfl, rfl, rfl⟩ | exact Or.inr (Or.inl ⟨rfl, rfl, rfl, rfl⟩) | exact Or.inr (Or.inr (Or.inl ⟨rfl, rfl, rfl, rfl⟩)) | exact Or.inr (Or.inr (Or.inr ⟨rfl, rfl, rfl, rfl⟩)))⟩, .inl ⟨rfl, left, s, [], .of (show (6 : Nat) ≤ 10 by decide), hE1⟩⟩
  · have hgl : gl = [] := by unfold LeftIs at hlf; rw [if_pos (by omega)] at hlf; exact hlf
    subst hgl
    by_cases hx : f (2, 0, 0) = T.ah
    · have hal : allocM C d T f = (decS (T.ql ++ [(slotI T.ah, epI T.ar, 0)]) T.e C.l, { T with ql := T.ql ++ [(slotI T.ah, epI T.ar, 0)], apc := decP (T.ql ++ [(slotI T.ah, epI T.ar, 0)]) T.e C.l }, swf f (2, 0, 0) T.ah (nextW T.ah (slotI T.an))) := by unfold allocM; rw [if_neg (by omega), if_neg (by omega), if_neg (by omega), if_neg (by omega), if_neg (by omega), if_pos h1, if_pos hx]
      rw [hal]
      refine (step_ay (S := SP C X V T f G qc n) (M := maD a d T left s) 6 _ hE (by simp [maD, h1]) (takeYes_a (S := SP C X V T f G qc n) (M := maD a d T left s) hx hk.hw.2.2 (Nat.le_trans hk.hl (by decide)) hk.hw.1 hk.hw.2.1 hg hk.hn (Lib.hid rfl) hE)).mono ?_
      rintro o w1 ⟨rfl, nx, k', F', G', hnx, -, hE1⟩
      have hin := decP_in (T.ql ++ [(slotI T.ah, epI T.ar, 0)]) T.e C.l
      by_cases hz : decP (T.ql ++ [(slotI T.ah, epI T.ar, 0)]) T.e C.l = 0
      · exact ⟨rfl, F', k', G', _, n + 1, ⟨Nat.le_refl _, (by first | exact Or.inl ⟨rfl, rfl, rfl, rfl⟩ | exact Or.inr (Or.inl ⟨rfl, rfl, rfl, rfl⟩) | exact Or.inr (Or.inr (Or.inl ⟨rfl, rfl, rfl, rfl⟩)) | exact Or.inr (Or.inr (Or.inr ⟨rfl, rfl, rfl, rfl⟩)))⟩, .inr ⟨show decS (T.ql ++ [(slotI T.ah, epI T.ar, 0)]) T.e C.l ≠ 0 by unfold decS; rw [if_pos hz]; decide, drop hE1⟩⟩
      · have hnx := hnx hz
        subst hnx
        exact ⟨rfl, F', k', G', _, n + 1, ⟨Nat.le_refl _, (by first | exact Or.inl ⟨rfl, rfl, rfl, rfl⟩ | exact Or.inr (Or.inl ⟨rfl, rfl, rfl, rfl⟩) | exact Or.inr (Or.inr (Or.inl ⟨rfl, rfl, rfl, rfl⟩)) | exact Or.inr (Or.inr (Or.inr ⟨rfl, rfl, rfl, rfl⟩)))⟩, .inl ⟨show decS (T.ql ++ [(slotI T.ah, epI T.ar, 0)]) T.e C.l = 0 by unfold decS; rw [if_neg hz], left, s, [], .of (show decP (T.ql ++ [(slotI T.ah, epI T.ar, 0)]) T.e C.l ≤ 10 by omega), hE1⟩⟩
    · have hal : allocM C d T f = (0, { T with apc := 3 }, swf f (2, 0, 0) T.ah (nextW T.ah (slotI T.an))) := by unfold allocM; rw [if_neg (by omega), if_neg (by omega), if_neg (by omega), if_neg (by omega), if_neg (by omega), if_pos h1, if_neg hx]
      rw [hal]
      refine (step_ay (S := SP C X V T f G qc n) (M := maD a d T left s) 6 _ hE (by simp [maD, h1]) (takeNo_a (S := SP C X V T f G qc n) (M := maD a d T left s) _ rfl hx hk.hw.1 hk.hw.2.1 hg hk.hn (Lib.hid rfl) hE)).mono ?_
      rintro o w1 ⟨rfl, G', hE1⟩
      exact ⟨rfl, X.F, X.kq, G', _, n + 1, ⟨Nat.le_refl _, (by first | exact Or.inl ⟨rfl, rfl, rfl, rfl⟩ | exact Or.inr (Or.inl ⟨rfl, rfl, rfl, rfl⟩) | exact Or.inr (Or.inr (Or.inl ⟨rfl, rfl, rfl, rfl⟩)) | exact Or.inr (Or.inr (Or.inr ⟨rfl, rfl, rfl, rfl⟩)))⟩, .inl ⟨rfl, left, s, [], .of (show (3 : Nat) ≤ 10 by decide), hE1⟩⟩
  · obtain ⟨hl3, hl5⟩ := WD_len C d T
    by_cases h10 : T.apc = 10
    · have hgl : gl = [] := by unfold LeftIs at hlf; rw [if_pos (by omega)] at hlf; exact hlf
      subst hgl
      obtain ⟨hhs, x, y, t, hql, hx1, hx2⟩ := hk.born h10
      have hal : allocM C d T f = (lastS 0 (WD C d T).length, { T with ql := t, hs := x, apc := 11 }, upd f (5, x, 0) T.e) := by
        unfold allocM
        rw [if_neg (by omega), if_neg (by omega), if_neg (by omega), if_neg (by omega), if_neg (by omega), if_neg (by omega)]
        simp only [h10, hql, if_true, List.tail_cons, List.headD_cons]
        rfl
      have hls : lastS 0 (WD C d T).length = 0 := by unfold lastS; rw [if_neg (by omega)]
      rw [hal, hls]
      refine (step_ay (S := SP C X V T f G qc n) (M := maD a d T left s) 10 _ hE (by simp [maD, h10]) (birth_a (S := SP C X V T f G qc n) (M := maD a d T left s) x y t hql ⟨hx1, hx2⟩ hk.hs.2 hhs hk.he hk.hn (Lib.hid rfl) hE)).mono ?_
      rintro o w1 ⟨rfl, g, c, G', hgc, hE1⟩
      obtain ⟨N, hN⟩ : ∃ N, (WD C d T).length = N + 2 := ⟨(WD C d T).length - 2, by omega⟩
      have hgc2 : N + 2 ≤ c := by rw [← hN]; exact hgc
      have hli : LeftIs C d { T with ql := t, hs := x, apc := 11 } (.slice (some ⟨g, 2, none⟩) ((WD C d T).length - 1) (c - 1)) x [lieI g (flat2 (WD C d T))] := by
        unfold LeftIs
        rw [if_neg (show ¬ (11 : Nat) ≤ 10 by decide)]
        refine ⟨g, c - 1, N, rfl, rfl, ?_, by omega, ?_⟩
        · rw [hN]
          rfl
        · show (WD C d T).length = (11 - 10) + (N + 1)
          omega
      exact ⟨rfl, X.F, X.kq, G', _, n + 1, ⟨Nat.le_refl _, (by first | exact Or.inl ⟨rfl, rfl, rfl, rfl⟩ | exact Or.inr (Or.inl ⟨rfl, rfl, rfl, rfl⟩) | exact Or.inr (Or.inr (Or.inl ⟨rfl, rfl, rfl, rfl⟩)) | exact Or.inr (Or.inr (Or.inr ⟨rfl, rfl, rfl, rfl⟩)))⟩, .inl ⟨rfl, _, x, _, hli, hE1⟩⟩
    · have h11 : 11 ≤ T.apc := by omega
      unfold LeftIs at hlf
      rw [if_neg (by omega)] at hlf
      obtain ⟨g, c9, N, rfl, rfl, rfl, hc9, hlen⟩ := hlf
      obtain ⟨k, hk10⟩ : ∃ k, T.apc = 10 + k := ⟨T.apc - 10, by omega⟩
      have hkk : T.apc - 10 = k := by omega
      rw [hkk] at hlen hE
      obtain ⟨⟨part, word⟩, hpw⟩ : ∃ pw, (WD C d T)[k]? = some pw := ⟨_, List.getElem?_eq_getElem (by omega)⟩
      obtain ⟨hp64, hwu⟩ := WD_in hk.he hd hpw
      obtain ⟨hc0, hc1⟩ := flat2_at _ _ hpw
      have hal : allocM C d T f = (lastS k (WD C d T).length, { T with apc := T.apc + 1 }, upd f (5, T.hs, part) word) := by
        unfold allocM
        rw [if_neg (by omega), if_neg (by omega), if_neg (by omega), if_neg (by omega), if_neg (by omega), if_neg (by omega)]
        have hg : (wordsA C.k T.e d.key d.val (IntKind.u64.wrap d.lv)).getD k (0, 0) = (part, word) := by
          have h9 : (wordsA C.k T.e d.key d.val (IntKind.u64.wrap d.lv))[k]? = some (part, word) := hpw
          rw [List.getD_eq_getElem?_getD, h9]
          rfl
        simp only [hkk, hg]
        rw [if_neg (by omega)]
        rfl
      have hst := store_a (S := SP C X V T f G qc n) (M := { nx := nxA a T.apc, left := .slice (some ⟨g, 2 * k, none⟩) (N + 1) c9, k := d.ok, key := d.key, val := d.val, lv := d.lv, h := T.ah, n := T.an, r := T.ar, s := T.hs }) g (2 * k) N c9 part word hc9 hp64 hwu hk.hh hk.hn rfl hc0 hc1 hE
      rw [← fnA_store h11] at hst
      rw [hal]
      have hls : lastS k (WD C d T).length = if N = 0 then 1 else 0 := by
        unfold lastS
        by_cases hN : N = 0
        · rw [if_pos hN, if_pos (by omega)]
        · rw [if_neg hN, if_neg (by omega)]
      rw [hls]
      refine (step_ay (S := SP C X V T f G qc n) T.apc _ hE rfl hst).mono ?_
      rintro o w1 ⟨rfl, nx, left, G', hnl, hE1⟩
      by_cases hN : N = 0
      · rw [if_pos hN]
        exact ⟨rfl, X.F, X.kq, G', _, n + 1, ⟨Nat.le_refl _, (by first | exact Or.inl ⟨rfl, rfl, rfl, rfl⟩ | exact Or.inr (Or.inl ⟨rfl, rfl, rfl, rfl⟩) | exact Or.inr (Or.inr (Or.inl ⟨rfl, rfl, rfl, rfl⟩)) | exact Or.inr (Or.inr (Or.inr ⟨rfl, rfl, rfl, rfl⟩)))⟩, .inr ⟨show (1 : Int) ≠ 0 by decide, hE1.sub (.cons _ (.cons_cons _ (.cons_cons _ (.cons_cons _ (.cons_cons _ (.cons _ (List.Sublist.refl _)))))))⟩⟩
      · obtain ⟨rfl, rfl⟩ := hnl hN
        rw [if_neg hN]
        obtain ⟨M, rfl⟩ : ∃ M, N = M + 1 := ⟨N - 1, by omega⟩
        have hli : LeftIs C d { T with apc := T.apc + 1 } (.slice (some ⟨g, 2 * k + 2, none⟩) (M + 1) (c9 - 1)) T.hs [lieI g (flat2 (WD C d T))] := by
          unfold LeftIs
          rw [if_neg (show ¬ T.apc + 1 ≤ 10 by omega)]
          refine ⟨g, c9 - 1, M, rfl, rfl, ?_, by omega, ?_⟩
          · show _ = Value.slice (some ⟨g, 2 * (T.apc + 1 - 10), none⟩) (M + 1) (c9 - 1)
            rw [show 2 * (T.apc + 1 - 10) = 2 * k + 2 by omega]
          · show (WD C d T).length = (T.apc + 1 - 10) + (M + 1)
            omega
        have hnx : nxA a T.apc = nxA a (T.apc + 1) := by
          unfold nxA
          rw [fnA_store h11, fnA_store (by omega)]
        have hE2 : Env w0 (boxI a (avD X.c a d { T with apc := T.apc + 1 } (.slice (some ⟨g, 2 * k + 2, none⟩) (M + 1) (c9 - 1)) T.hs) :: LT (SP C X V { T with apc := T.apc + 1 } (upd f (5, T.hs, part) word) G' { qc with s := wrap64 (qc.s + 1) } (n + 1)) ([lieI g (flat2 (WD C d T))] ++ R)) w1 := by
          unfold avD maD
          rw [← hnx]
          exact hE1
        exact ⟨rfl, X.F, X.kq, G', _, n + 1, ⟨Nat.le_refl _, (by first | exact Or.inl ⟨rfl, rfl, rfl, rfl⟩ | exact Or.inr (Or.inl ⟨rfl, rfl, rfl, rfl⟩) | exact Or.inr (Or.inr (Or.inl ⟨rfl, rfl, rfl, rfl⟩)) | exact Or.inr (Or.inr (Or.inr ⟨rfl, rfl, rfl, rfl⟩)))⟩, .inl ⟨rfl, _, T.hs, _, hli, hE2⟩⟩
theorem alP (hg : Glo w0) (hk : RowOk C T n) (hd : InU d.key ∧ InU d.val) (hlf : LeftIs C d T left s gl) (hE : Env w0 (boxI a (avD X.c a d T left s) :: LT (SP C X V T f G qc n) (gl ++ R)) w) :
    Calls Tryz.prog 251 #[.pointer (some ⟨a, 0, none⟩), .iface 26 (.pointer (some ⟨V.p, 0, none⟩))] w fun o w' => o = .returned (.int .i64 (allocM C d T f).1) ∧ ∃ (F' : Nat → Prop) (k' : Nat) (G' : Nat → Prop) (qc' : Cnt) (n' : Nat), n' ≤ n + 1 ∧ (((allocM C d T f).1 = 0 ∧ ∃ left' s' gl', LeftIs C d (allocM C d T f).2.1 left' s' gl' ∧ Env w0 (boxI a (avD X.c a d (allocM C d T f).2.1 left' s') :: LT (SP C { X with F := F', kq := k' } V (allocM C d T f).2.1 (allocM C d T f).2.2 G' qc' n') (gl' ++ R)) w') ∨ ((allocM C d T f).1 ≠ 0 ∧ Env w0 (LT (SP C { X with F := F', kq := k' } V (allocM C d T f).2.1 (allocM C d T f).2.2 G' qc' n') R) w')) :=
  (alPx hg hk hd hlf hE).mono fun o w' ⟨h, F', k', G', qc', n', hn, hc⟩ => ⟨h, F', k', G', qc', n', hn.le, hc⟩
end
end Go.Proofs.YtdknbegcflldjaaGreatDoor

/- The order of places; the library's sort at it. -/
namespace Go.Proofs.YtdknbegcflldjaaGreatDoor
open Go.RowKit Go.Maps Go.Shelf Go.Sort
set_option maxRecDepth 100000

/-- How two places stand. -/
def orI (a b c : Int) : Int := if a ≠ 0 then a else if b ≠ 0 then b else c
def cmpP (x y : Plc) : Int := orI (Lib.compareInt x.1 y.1) (Lib.compareInt x.2.1 y.2.1) (Lib.compareInt x.2.2 y.2.2)
theorem cmp_neg (a b : Int) : Lib.compareInt a b < 0 ↔ a < b := by unfold Lib.compareInt; split <;> (try split) <;> omega
theorem cmp_zero (a b : Int) : Lib.compareInt a b = 0 ↔ a = b := by unfold Lib.compareInt; split <;> (try split) <;> omega
theorem ltP (x y : Plc) : ltOf cmpP x y = true ↔ x.1 < y.1 ∨ (x.1 = y.1 ∧ (x.2.1 < y.2.1 ∨ (x.2.1 = y.2.1 ∧ x.2.2 < y.2.2))) := by
  have h1 := cmp_neg x.1 y.1
  have h2 := cmp_neg x.2.1 y.2.1
  have h3 := cmp_neg x.2.2 y.2.2
  have z1 := cmp_zero x.1 y.1
  have z2 := cmp_zero x.2.1 y.2.1
  have e : ltOf cmpP x y = true ↔ cmpP x y < 0 := by simp [ltOf]
  rw [e]
  unfold cmpP orI
  split
  · rename_i h; rw [h1]; rw [ne_eq, z1] at h; omega
  · rename_i h
    have h := z1.1 (by simpa using h)
    split
    · rename_i k; rw [h2]; rw [ne_eq, z2] at k; omega
    · rename_i k
      have k := z2.1 (by simpa using k)
      rw [h3]; omega
theorem ltP_false (x y : Plc) : ltOf cmpP x y = false ↔ ¬ (x.1 < y.1 ∨ (x.1 = y.1 ∧ (x.2.1 < y.2.1 ∨ (x.2.1 = y.2.1 ∧ x.2.2 < y.2.2)))) := by rw [← ltP, Bool.not_eq_true]
theorem swoP : SWO (ltOf cmpP) where
  irrefl x := by rw [ltP_false]; omega
  trans x y z h1 h2 := by rw [ltP] at *; omega
  ntrans x y z h1 h2 := by rw [ltP_false] at *; omega
theorem totP (x y : Plc) (h1 : ltOf cmpP x y = false) (h2 : ltOf cmpP y x = false) : x = y := by
  rw [ltP_false] at *
  obtain ⟨a, b, c⟩ := x
  obtain ⟨a', b', c'⟩ := y
  simp only [Prod.mk.injEq]
  simp only at h1 h2
  omega

/-- A place's cells. -/
def encP (x : Plc) : List Value := [.int .i64 x.1, .int .i64 x.2.1, .int .i64 x.2.2]
end Go.Proofs.YtdknbegcflldjaaGreatDoor

/- The keys of a map of words, collected: each once, in whatever order; then sorted: Places. -/
namespace Go.Proofs.YtdknbegcflldjaaGreatDoor
open Go.RowKit Go.Maps Go.Shelf Go.Sort
set_option maxRecDepth 100000

attribute [local go_sem] Oper.semAt_some

def flatP (l : List Plc) : List Value := l.flatMap encP
theorem flatP_snoc (l : List Plc) (x : Plc) : flatP (l ++ [x]) = flatP l ++ encP x := by simp [flatP]
theorem flatP_length (l : List Plc) : (flatP l).length = l.length * 3 := by
  induction l with
  | nil => rfl
  | cons x l ih => simp [flatP, encP] at *; omega
theorem infoPlace : (Tryz.prog.info? 105).map (fun i => (i.zero, i.size, i.bytes)) = some (some (.agg #[.int .i64 0, .int .i64 0, .int .i64 0]), 3, 24) := by kernel_rfl
end Go.Proofs.YtdknbegcflldjaaGreatDoor

/- Places: those whose words aren't 0, in their order. -/
namespace Go.Proofs.YtdknbegcflldjaaGreatDoor
open Go.RowKit Go.Maps Go.Shelf Go.Sort
set_option maxRecDepth 100000

/-! ### rows of places -/
def z3 : Plc := (0, 0, 0)
/-- v is a slice of just those places. -/
def RowP (w : World) (v : Value) (l : List Plc) : Prop :=
  (l = [] ∧ v = .slice none 0 0) ∨ ∃ g cap, v = .slice (some ⟨g, 0, none⟩) l.length cap ∧ g < w.heap.size ∧ ∀ j, j < l.length →
    w.cell? ⟨g, j * 3, none⟩ = some (.int .i64 (l.getD j z3).1) ∧ w.cell? ⟨g, j * 3 + 1, none⟩ = some (.int .i64 (l.getD j z3).2.1) ∧ w.cell? ⟨g, j * 3 + 2, none⟩ = some (.int .i64 (l.getD j z3).2.2)
theorem RowP.over {w w' : World} {v : Value} {l : List Plc} {T : Nat → Prop} (h : RowP w v l) (ht : Turn T w w') (hT : ∀ g len cap, v = .slice (some ⟨g, 0, none⟩) len cap → ¬ T g) : RowP w' v l := by
  rcases h with h | ⟨g, cap, hv, hg, hc⟩
  · exact .inl h
  · have hb := ht.block g hg (hT g _ cap hv)
    exact .inr ⟨g, cap, hv, Nat.lt_of_lt_of_le hg ht.size, fun j hj => by
      obtain ⟨h1, h2, h3⟩ := hc j hj
      refine ⟨?_, ?_, ?_⟩
      · rw [World.cell?_of_block (w := w) hb]; exact h1
      · rw [World.cell?_of_block (w := w) hb]; exact h2
      · rw [World.cell?_of_block (w := w) hb]; exact h3⟩

theorem flatP_get (l : List Plc) : ∀ (j c : Nat), j < l.length → c < 3 → (flatP l)[j * 3 + c]? = (encP (l.getD j z3))[c]? := by
  induction l with
  | nil => intro j c h; simp at h
  | cons x l ih =>
    intro j c hj hc
    have e : flatP (x :: l) = encP x ++ flatP l := by simp [flatP]
    cases j with
    | zero => rw [e, List.getElem?_append_left (by simp [encP]; omega)]; simp
    | succ j =>
      rw [e, List.getElem?_append_right (by simp [encP]; omega)]
      have := ih j c (by simpa using hj) hc
      have e2 : (j + 1) * 3 + c - (encP x).length = j * 3 + c := by simp [encP]; omega
      rw [e2, this]
      simp

def Rising (l : List Plc) : Prop := l.Pairwise fun x y => ltOf cmpP x y = true
theorem rising_eq : ∀ {l m : List Plc}, Rising l → Rising m → (∀ x, x ∈ l ↔ x ∈ m) → l = m
  | [], [], _, _, _ => rfl
  | [], y :: m, _, _, h => by have := (h y).2 (by simp); simp at this
  | x :: l, [], _, _, h => by have := (h x).1 (by simp); simp at this
  | x :: l, y :: m, h1, h2, h => by
    obtain ⟨a1, a2⟩ := List.pairwise_cons.1 h1
    obtain ⟨b1, b2⟩ := List.pairwise_cons.1 h2
    have no : ∀ a b : Plc, ltOf cmpP a b = true → ltOf cmpP b a = true → False := fun a b p q => by
      have := swoP.trans _ _ _ p q
      rw [swoP.irrefl] at this
      cases this
    have hxy : x = y := by
      rcases List.mem_cons.1 ((h x).1 (by simp)) with e | hx
      · exact e
      · rcases List.mem_cons.1 ((h y).2 (by simp)) with e | hy
        · exact e.symm
        · exact (no x y (a1 y hy) (b1 x hx)).elim
    subst hxy
    rw [rising_eq a2 b2 fun z => ⟨fun hz => by
      rcases List.mem_cons.1 ((h z).1 (by simp [hz])) with e | h'
      · subst e; exact (no _ _ (a1 _ hz) (a1 _ hz)).elim
      · exact h', fun hz => by
      rcases List.mem_cons.1 ((h z).2 (by simp [hz])) with e | h'
      · subst e; exact (no _ _ (b1 _ hz) (b1 _ hz)).elim
      · exact h'⟩]
/-- l are the places whose words aren't 0, rising. -/
def PlacesOf (f : Plc → Int) (l : List Plc) : Prop := Rising l ∧ ∀ x, x ∈ l ↔ f x ≠ 0
theorem PlacesOf.eq {f : Plc → Int} {l m : List Plc} (h : PlacesOf f l) (k : PlacesOf f m) : l = m := rising_eq h.1 k.1 fun x => (h.2 x).trans (k.2 x).symm
/-- The one place whose word isn't 0. -/
theorem places_one {x : Plc} {v : Int} (hv : v ≠ 0) {l : List Plc} (h : PlacesOf (upd (fun _ => 0) x v) l) : l.length = 1 := by
  have h1 : PlacesOf (upd (fun _ => 0) x v) [x] := ⟨List.pairwise_singleton _ _, fun y => by unfold upd; split <;> simp_all⟩
  rw [h.eq h1]; rfl

theorem RowP.len {w : World} {v : Value} {l : List Plc} (h : RowP w v l) : ∃ a cap, v = .slice a l.length cap := by
  rcases h with ⟨rfl, rfl⟩ | ⟨g, cap, rfl, _⟩
  · exact ⟨_, _, rfl⟩
  · exact ⟨_, _, rfl⟩
theorem RowP.below {w w' : World} {v : Value} {l : List Plc} (h : RowP w v l) (hb : Below w.heap.size w w') : RowP w' v l := h.over (Turn.of_below hb : Turn (fun _ => False) w w') fun _ _ _ _ e => e
end Go.Proofs.YtdknbegcflldjaaGreatDoor

/- The reference's words in a row: Swap, Less. -/
namespace Go.Proofs.YtdknbegcflldjaaGreatDoor
open Go.RowKit Go.Maps Go.Sort
set_option maxRecDepth 100000

set_option maxHeartbeats 1600000 in
theorem less_any (x y z a b d : Int) (w : World) :
    Calls Tryz.prog 128 #[.agg #[.int .i64 x, .int .i64 y, .int .i64 z], .agg #[.int .i64 a, .int .i64 b, .int .i64 d]] w fun e w' => e = .returned (.bool (ltOf cmpP (x, y, z) (a, b, d))) ∧ Below w.heap.size w w' := by
  have hE := ((Fr.start w).push w.heap.size rfl [.int .i64 x, .int .i64 y, .int .i64 z] 105).push (w.heap.size + 1) (by simp) [.int .i64 a, .int .i64 b, .int .i64 d] 105
  have r := hE.rule 0 rfl
  have r1 := hE.rule 1 rfl
  have hL : ltOf cmpP (x, y, z) (a, b, d) = if x ≠ a then decide (x < a) else if y ≠ b then decide (y < b) else decide (z < d) := by
    have h := ltP (x, y, z) (a, b, d)
    rw [Bool.eq_iff_iff, h]
    split
    · simp; omega
    · split
      · simp; omega
      · simp; omega
  rw [hL]
  go_enter Tryz.func128, Tryz.ntmps128
  by_cases h1 : x = a
  · subst h1
    by_cases h2 : y = b
    · subst h2
      go_wp2_with fail
      go_ret
      exact ⟨by simp, hE.below⟩
    · go_wp2_with fail
      go_ret
      exact ⟨by simp [h2], hE.below⟩
  · go_wp2_with fail
    go_ret
    exact ⟨by simp [h1], hE.below⟩



end Go.Proofs.YtdknbegcflldjaaGreatDoor

/- The reference's words among other things; counts as cells. -/
namespace Go.Proofs.YtdknbegcflldjaaGreatDoor
open Go.RowKit Go.Maps
set_option maxRecDepth 100000

/-- Counts in five cells. -/
def bv (t : Cnt) : List Value := [.int .i64 t.l, .int .i64 t.s, .int .i64 t.w, .int .i64 t.f, .int .i64 t.a]
theorem swf_getL (l : List OneR) (x : Plc) (o v : Int) : swf (getL l) x o v = getL (swL l x o v) := by
  unfold swf swL
  split
  · rw [getL_set]
  · rfl
theorem LOk.sw {l : List OneR} {N : Nat} (h : LOk l N) (x : Plc) (o v : Int) : LOk (swL l x o v) (N + 1) := by
  unfold swL; split
  · exact h.set x v
  · exact h.more
end Go.Proofs.YtdknbegcflldjaaGreatDoor

/- Threads: an Alloc's step, of the reference, whatever its row. -/
namespace Go.Proofs.YtdknbegcflldjaaGreatDoor
open Go.RowKit Go.Maps
set_option maxRecDepth 100000

/-- The thread's, and the memory, of the reference. -/
def SR (C : Cf) (X : Tm) (V : Wm) (T : Th) (FU : Nat → Prop) (ml : List OneR) : SU := { u := X.u, m := V.m, ck := C.k, cs := C.s, cb := C.b, ch := C.h, cl := C.l, ce := T.e, hs := T.hs, ro := X.ro, N := X.N, A := X.A, c := X.rc, ql := T.ql, F := FU, ml := ml }
theorem nextW_word {x s : Int} (hs : 0 ≤ s ∧ s ≤ 8388607) (hv : verI x < 1099511627775) : nextW x s = wordI false s (verI x + 1) := by
  unfold nextW
  rw [if_pos (by simp [isS]; omega), if_neg (by omega)]
theorem swL_length (l : List OneR) (x : Plc) (o v : Int) : (swL l x o v).length ≤ l.length + 1 := by
  unfold swL
  split
  · exact setL_length _ _ _
  · omega

section
variable {w0 w : World} {R : List Item} {C : Cf} {d : Dd} {X : Tm} {V : Wm} {T : Th} {FU : Nat → Prop} {ml : List OneR} {n b : Nat}
set_option maxHeartbeats 1600000 in
theorem alR (hk : RowOk C T n) (hml : ml.length ≤ 999999) (hN : 0 ≤ X.N ∧ X.N ≤ 4000000) (hv : T.apc = 6 → verI T.ah < 1099511627775) (hfu : ∀ x, InU (getL ml x)) (hkk : T.apc ≤ 10 ∨ T.apc - 10 < (WD C d T).length) (hE : Env w0 (boxI b (rav (T.apc : Int) T.ah T.an T.ar) :: LU (SR C X V T FU ml) R) w) :
    Calls Tryz.prog 108 #[.pointer (some ⟨b, 0, none⟩), .pointer (some ⟨X.u, 0, none⟩), .pointer (some ⟨V.m, 0, none⟩), .agg #[.int .i64 d.ok, .int .u64 d.key, .int .u64 d.val, .int .i64 d.lv]] w fun o w' => o = .returned (.int .i64 (allocM C d T (getL ml)).1) ∧ ∃ (A' : Option Addr) (rc' : Nat) (N' : Int) (FU' : Nat → Prop) (ml' : List OneR), getL ml' = (allocM C d T (getL ml)).2.2 ∧ ml'.length ≤ ml.length + 1 ∧ 0 ≤ N' ∧ N' ≤ 4000000 ∧ (((allocM C d T (getL ml)).1 = 0 ∧ Env w0 (boxI b (rav ((allocM C d T (getL ml)).2.1.apc : Int) (allocM C d T (getL ml)).2.1.ah (allocM C d T (getL ml)).2.1.an (allocM C d T (getL ml)).2.1.ar) :: LU (SR C { X with A := A', rc := rc', N := N' } V (allocM C d T (getL ml)).2.1 FU' ml') R) w') ∨ ((allocM C d T (getL ml)).1 ≠ 0 ∧ Env w0 (LU (SR C { X with A := A', rc := rc', N := N' } V (allocM C d T (getL ml)).2.1 FU' ml') R) w')) := by
  have drop : ∀ {S : SU} {y : Item} {w' : World}, Env w0 (y :: LU S R) w' → Env w0 (LU S R) w' := fun h => h.sub (.cons _ (List.Sublist.refl _))
  rcases hk.apc with h1 | h1 | h1 | h1 | h1 | h1 | h1
  · have hal : allocM C d T (getL ml) = (2, T, swf (getL ml) (1, 0, 0) T.e (T.e + 1)) := by unfold allocM; rw [if_pos h1]
    rw [hal]
    rw [h1] at hE
    refine (ral1 (U := SR C X V T FU ml) hk.he (by show ml.length ≤ 1000000; omega) hk.hw.1 hE).mono ?_
    rintro o w1 ⟨rfl, F5, hE1⟩
    exact ⟨rfl, X.A, X.rc, X.N, F5, _, (swf_getL _ _ _ _).symm, swL_length _ _ _ _, hN.1, hN.2, .inr ⟨show (2 : Int) ≠ 0 by decide, drop hE1⟩⟩
  · rw [h1] at hE
    by_cases hx : C.s ≤ getL ml (3, 0, 0)
    · have hal : allocM C d T (getL ml) = (0, { T with apc := 3 }, upd (getL ml) (3, 0, 0) (IntKind.u64.wrap (getL ml (3, 0, 0) + 1))) := by unfold allocM; rw [if_neg (by omega), if_pos h1, if_pos hx]
      rw [hal]
      refine (ral2No (U := SR C X V T FU ml) _ rfl (by show ml.length ≤ 999999; omega) (hfu _).1 hx hk.hs hk.hw.1 hE).mono ?_
      rintro o w1 ⟨rfl, F5, hE1⟩
      exact ⟨rfl, X.A, X.rc, X.N, F5, _, getL_set _ _ _, setL_length _ _ _, hN.1, hN.2, .inl ⟨rfl, hE1⟩⟩
    · have hal : allocM C d T (getL ml) = (decS (T.ql ++ [(getL ml (3, 0, 0) + 1, 0, 0)]) T.e C.l, { T with ql := T.ql ++ [(getL ml (3, 0, 0) + 1, 0, 0)], apc := decP (T.ql ++ [(getL ml (3, 0, 0) + 1, 0, 0)]) T.e C.l }, upd (getL ml) (3, 0, 0) (IntKind.u64.wrap (getL ml (3, 0, 0) + 1))) := by unfold allocM; rw [if_neg (by omega), if_pos h1, if_neg hx]
      rw [hal]
      refine (ral2Yes (U := SR C X V T FU ml) _ rfl (by show ml.length ≤ 999999; omega) (hfu _).1 (show getL ml (3, 0, 0) < C.s by omega) hk.hs.2 (by have := hk.hl; show T.ql.length ≤ 1000000; omega) (by show 0 ≤ X.N ∧ X.N ≤ 1099511627776; omega) hk.hw.1 hE).mono ?_
      rintro o w1 ⟨rfl, pc', F5, A', c', hpc, hE1⟩
      have hNN := roomN_in hN hk.hl
      by_cases hz : decP (T.ql ++ [(getL ml (3, 0, 0) + 1, 0, 0)]) T.e C.l = 0
      · exact ⟨rfl, A', c', _, F5, _, getL_set _ _ _, setL_length _ _ _, hNN.1, hNN.2, .inr ⟨show decS (T.ql ++ [(getL ml (3, 0, 0) + 1, 0, 0)]) T.e C.l ≠ 0 by unfold decS; rw [if_pos hz]; decide, drop hE1⟩⟩
      · have hpc := hpc hz
        subst hpc
        exact ⟨rfl, A', c', _, F5, _, getL_set _ _ _, setL_length _ _ _, hNN.1, hNN.2, .inl ⟨show decS (T.ql ++ [(getL ml (3, 0, 0) + 1, 0, 0)]) T.e C.l = 0 by unfold decS; rw [if_neg hz], hE1⟩⟩
  · rw [h1] at hE
    have hal : allocM C d T (getL ml) = (poolS (getL ml (2, 0, 0)) C.l, { T with ah := getL ml (2, 0, 0), apc := 4 }, getL ml) := by unfold allocM; rw [if_neg (by omega), if_neg (by omega), if_pos h1]
    rw [hal]
    refine (ral3 (U := SR C X V T FU ml) _ rfl (hfu _) (by show ml.length ≤ 1000000; omega) hk.hw.1 hE).mono ?_
    rintro o w1 ⟨rfl, pc', hpc, hE1⟩
    by_cases hz : poolS (getL ml (2, 0, 0)) C.l = 0
    · have hpc := hpc hz
      subst hpc
      exact ⟨rfl, X.A, X.rc, X.N, FU, ml, rfl, by omega, hN.1, hN.2, .inl ⟨hz, hE1⟩⟩
    · exact ⟨rfl, X.A, X.rc, X.N, FU, ml, rfl, by omega, hN.1, hN.2, .inr ⟨hz, drop hE1⟩⟩
  · rw [h1] at hE
    have hal : allocM C d T (getL ml) = (0, { T with an := getL ml (5, slotI T.ah, 2), apc := 5 }, getL ml) := by unfold allocM; rw [if_neg (by omega), if_neg (by omega), if_neg (by omega), if_pos h1]
    rw [hal]
    refine (ral4 (U := SR C X V T FU ml) _ rfl (by show ml.length ≤ 1000000; omega) hk.hw.1 hE).mono ?_
    rintro o w1 ⟨rfl, hE1⟩
    exact ⟨rfl, X.A, X.rc, X.N, FU, ml, rfl, by omega, hN.1, hN.2, .inl ⟨rfl, hE1⟩⟩
  · rw [h1] at hE
    have hal : allocM C d T (getL ml) = (0, { T with ar := getL ml (5, slotI T.ah, 1), apc := 6 }, getL ml) := by unfold allocM; rw [if_neg (by omega), if_neg (by omega), if_neg (by omega), if_neg (by omega), if_pos h1]
    rw [hal]
    refine (ral5 (U := SR C X V T FU ml) _ rfl (by show ml.length ≤ 1000000; omega) hk.hw.1 hE).mono ?_
    rintro o w1 ⟨rfl, hE1⟩
    exact ⟨rfl, X.A, X.rc, X.N, FU, ml, rfl, by omega, hN.1, hN.2, .inl ⟨rfl, hE1⟩⟩
  · rw [h1] at hE
    have hnx := nextW_word (slotI_in T.an) (hv h1)
    by_cases hx : getL ml (2, 0, 0) = T.ah
    · have hal : allocM C d T (getL ml) = (decS (T.ql ++ [(slotI T.ah, epI T.ar, 0)]) T.e C.l, { T with ql := T.ql ++ [(slotI T.ah, epI T.ar, 0)], apc := decP (T.ql ++ [(slotI T.ah, epI T.ar, 0)]) T.e C.l }, swf (getL ml) (2, 0, 0) T.ah (nextW T.ah (slotI T.an))) := by unfold allocM; rw [if_neg (by omega), if_neg (by omega), if_neg (by omega), if_neg (by omega), if_neg (by omega), if_pos h1, if_pos hx]
      rw [hal, hnx]
      refine (ral6Yes (U := SR C X V T FU ml) hk.hw.2.1 (by show ml.length ≤ 1000000; omega) hx hk.hw.2.2 (by have := hk.hl; show T.ql.length ≤ 1000000; omega) (by show 0 ≤ X.N ∧ X.N ≤ 1099511627776; omega) hk.hw.1 hE).mono ?_
      rintro o w1 ⟨rfl, pc', F5, A', c', hpc, hE1⟩
      have hNN := roomN_in hN hk.hl
      by_cases hz : decP (T.ql ++ [(slotI T.ah, epI T.ar, 0)]) T.e C.l = 0
      · exact ⟨rfl, A', c', _, F5, _, (swf_getL _ _ _ _).symm, swL_length _ _ _ _, hNN.1, hNN.2, .inr ⟨show decS (T.ql ++ [(slotI T.ah, epI T.ar, 0)]) T.e C.l ≠ 0 by unfold decS; rw [if_pos hz]; decide, drop hE1⟩⟩
      · have hpc := hpc hz
        subst hpc
        exact ⟨rfl, A', c', _, F5, _, (swf_getL _ _ _ _).symm, swL_length _ _ _ _, hNN.1, hNN.2, .inl ⟨show decS (T.ql ++ [(slotI T.ah, epI T.ar, 0)]) T.e C.l = 0 by unfold decS; rw [if_neg hz], hE1⟩⟩
    · have hal : allocM C d T (getL ml) = (0, { T with apc := 3 }, swf (getL ml) (2, 0, 0) T.ah (nextW T.ah (slotI T.an))) := by unfold allocM; rw [if_neg (by omega), if_neg (by omega), if_neg (by omega), if_neg (by omega), if_neg (by omega), if_pos h1, if_neg hx]
      rw [hal, hnx]
      refine (ral6No (U := SR C X V T FU ml) hk.hw.2.1 (by show ml.length ≤ 1000000; omega) hx hk.hw.1 hE).mono ?_
      rintro o w1 ⟨rfl, F5, hE1⟩
      exact ⟨rfl, X.A, X.rc, X.N, F5, _, (swf_getL _ _ _ _).symm, swL_length _ _ _ _, hN.1, hN.2, .inl ⟨rfl, hE1⟩⟩
  · obtain ⟨hl3, hl5⟩ := WD_len C d T
    by_cases h10 : T.apc = 10
    · rw [h10] at hE
      obtain ⟨hhs, x, y, t, hql, hx1, hx2⟩ := hk.born h10
      have hal : allocM C d T (getL ml) = (lastS 0 (WD C d T).length, { T with ql := t, hs := x, apc := 11 }, upd (getL ml) (5, x, 0) T.e) := by
        unfold allocM
        rw [if_neg (by omega), if_neg (by omega), if_neg (by omega), if_neg (by omega), if_neg (by omega), if_neg (by omega)]
        simp only [h10, hql, if_true, List.tail_cons, List.headD_cons]
        rfl
      have hls : lastS 0 (WD C d T).length = 0 := by unfold lastS; rw [if_neg (by omega)]
      rw [hal, hls]
      have hl := hk.hl
      rw [hql] at hl
      have hct := ral10 (U := SR C X V T FU ml) (ok := d.ok) (key := d.key) (val := d.val) (lv := d.lv) x y t hql (by simp at hl; omega) 0 T.e rfl hk.he (by show ml.length ≤ 1000000; omega) hk.hw.1 hE
      have hls2 : lastS 0 (wordsA (SR C X V T FU ml).ck (SR C X V T FU ml).ce d.key d.val (IntKind.u64.wrap d.lv)).length = 0 := hls
      rw [hls2] at hct
      refine hct.mono ?_
      rintro o w1 ⟨rfl, F5, A', c', hE1⟩
      exact ⟨rfl, A', c', X.N, F5, _, getL_set _ _ _, setL_length _ _ _, hN.1, hN.2, .inl ⟨rfl, hE1⟩⟩
    · obtain ⟨k, hk10⟩ : ∃ k, T.apc = 10 + k := ⟨T.apc - 10, by omega⟩
      have hkk2 : T.apc - 10 = k := by omega
      have hkl : k < (WD C d T).length := by omega
      obtain ⟨⟨part, word⟩, hpw⟩ : ∃ pw, (WD C d T)[k]? = some pw := ⟨_, List.getElem?_eq_getElem hkl⟩
      have hal : allocM C d T (getL ml) = (lastS k (WD C d T).length, { T with apc := T.apc + 1 }, upd (getL ml) (5, T.hs, part) word) := by
        unfold allocM
        rw [if_neg (by omega), if_neg (by omega), if_neg (by omega), if_neg (by omega), if_neg (by omega), if_neg (by omega)]
        have hg : (wordsA C.k T.e d.key d.val (IntKind.u64.wrap d.lv)).getD k (0, 0) = (part, word) := by
          have h9 : (wordsA C.k T.e d.key d.val (IntKind.u64.wrap d.lv))[k]? = some (part, word) := hpw
          rw [List.getD_eq_getElem?_getD, h9]
          rfl
        simp only [hkk2, hg]
        rw [if_neg (by omega)]
        rfl
      have hpc : ((T.apc : Nat) : Int) = 10 + (k : Int) := by omega
      rw [hpc] at hE
      rw [hal]
      refine (ralS (U := SR C X V T FU ml) (ok := d.ok) (key := d.key) (val := d.val) (lv := d.lv) k (by omega) part word hpw hk.he (by show ml.length ≤ 1000000; omega) hk.hw.1 hE).mono ?_
      rintro o w1 ⟨rfl, F5, hE1⟩
      have hpc2 : (10 + (k : Int) + 1) = ((T.apc + 1 : Nat) : Int) := by omega
      rw [hpc2] at hE1
      by_cases hz : lastS k (WD C d T).length = 0
      · exact ⟨rfl, X.A, X.rc, X.N, F5, _, getL_set _ _ _, setL_length _ _ _, hN.1, hN.2, .inl ⟨hz, hE1⟩⟩
      · exact ⟨rfl, X.A, X.rc, X.N, F5, _, getL_set _ _ _, setL_length _ _ _, hN.1, hN.2, .inr ⟨hz, drop hE1⟩⟩
end
end Go.Proofs.YtdknbegcflldjaaGreatDoor

/- Threads: the contract of step, where an Alloc goes on. -/
namespace Go.Proofs.YtdknbegcflldjaaGreatDoor
open Go.RowKit Go.Maps
set_option maxRecDepth 100000

/-- Permutations of things, by counting. -/
theorem perm_of {L L' : List Item} (h : ∀ [BEq Item] [LawfulBEq Item] (z : Item), L.count z = L'.count z) : L.Perm L' := by
  classical
  exact List.perm_iff_count.2 fun z => h z
theorem Env.mem {w0 w : World} {L : List Item} (h : Env w0 L w) {a : Item} (ha : a ∈ L) : a.says w := (h.2.2 a ha).1
end Go.Proofs.YtdknbegcflldjaaGreatDoor

/- Threads: the contract of step, where an Alloc goes on. -/
namespace Go.Proofs.YtdknbegcflldjaaGreatDoor
open Go.RowKit Go.Maps
set_option maxRecDepth 100000

theorem gen_post {P : Program} {g : FuncId} {args : Array Value} {w : World} {Q : Ending → World → Prop} (h : ∀ PP : Ending → World → Prop, Hid (∀ o w', Q o w' → PP o w') → Calls P g args w PP) : Calls P g args w Q := h Q (Lib.hid fun _ _ h => h)
theorem allocM_keep (C : Cf) (d : Dd) (T : Th) (f : Mem) : (allocM C d T f).2.1.e = T.e ∧ (allocM C d T f).2.1.nd = T.nd ∧ (allocM C d T f).2.1.pc = T.pc ∧ (allocM C d T f).2.1.rs = T.rs ∧ (allocM C d T f).2.1.rpc = T.rpc ∧ (allocM C d T f).2.1.re = T.re ∧ (allocM C d T f).2.1.gpc = T.gpc ∧ (allocM C d T f).2.1.gh = T.gh ∧ (allocM C d T f).2.1.gg = T.gg ∧ (allocM C d T f).2.1.done = T.done ∧ (allocM C d T f).2.1.full = T.full := by
  unfold allocM
  repeat' split
  all_goals exact ⟨rfl, rfl, rfl, rfl, rfl, rfl, rfl, rfl, rfl, rfl, rfl⟩
theorem allocM_state (C : Cf) (d : Dd) (T : Th) (f : Mem) : (allocM C d T f).1 = 0 ∨ (allocM C d T f).1 = 1 ∨ (allocM C d T f).1 = 2 ∨ (allocM C d T f).1 = 3 ∨ (allocM C d T f).1 = 4 := by
  unfold allocM decS poolS lastS
  repeat' split
  all_goals first | exact .inl rfl | exact .inr (.inl rfl) | exact .inr (.inr (.inl rfl)) | exact .inr (.inr (.inr (.inl rfl))) | exact .inr (.inr (.inr (.inr rfl))) | (dsimp only; repeat' split) <;> simp

/-- A thread's things are where they were. -/
def Same (X X' : Tm) : Prop := X'.thr = X.thr ∧ X'.c = X.c ∧ X'.q = X.q ∧ X'.u = X.u ∧ X'.dA = X.dA ∧ X'.dn = X.dn ∧ X'.dc = X.dc
end Go.Proofs.YtdknbegcflldjaaGreatDoor

/- Threads: a Retire's and a Give's step, of the program and of the reference, whatever its row. -/
namespace Go.Proofs.YtdknbegcflldjaaGreatDoor
open Go.RowKit Go.Maps
set_option maxRecDepth 100000

section
variable {w0 w : World} {R : List Item} {C : Cf} {d : Dd} {X : Tm} {V : Wm} {T : Th} {f : Plc → Int} {G FU : Nat → Prop} {qc : Cnt} {n r b : Nat} {ml : List OneR}
set_option maxHeartbeats 1600000 in
theorem rePx (hn : n < maxLen) (hl : T.ql.length + 1 ≤ 1000000) (he : InU T.re) (hs : In64 T.rs) (hE : Env w0 (boxI r (rtv X.c (nxR r T.rpc) T.rs T.re) :: LT (SP C X V T f G qc n) R) w) :
    Calls Tryz.prog 322 #[.pointer (some ⟨r, 0, none⟩), .iface 26 (.pointer (some ⟨V.p, 0, none⟩))] w fun o w' => o = .returned (.int .i64 (retireM T f).1) ∧ ∃ (F' : Nat → Prop) (k' : Nat) (G' : Nat → Prop) (qc' : Cnt) (n' : Nat), Nx n qc n' qc' ∧ (((retireM T f).1 = 0 ∧ Env w0 (boxI r (rtv X.c (nxR r (retireM T f).2.1.rpc) (retireM T f).2.1.rs (retireM T f).2.1.re) :: LT (SP C { X with F := F', kq := k' } V (retireM T f).2.1 (retireM T f).2.2 G' qc' n') R) w') ∨ ((retireM T f).1 ≠ 0 ∧ Env w0 (LT (SP C { X with F := F', kq := k' } V (retireM T f).2.1 (retireM T f).2.2 G' qc' n') R) w')) := by
  by_cases h0 : T.rpc = 0
  · have hal : retireM T f = (0, { T with re := f (1, 0, 0), rpc := 1 }, f) := by unfold retireM; rw [if_pos h0]
    rw [hal]
    rw [h0] at hE
    refine (step_ry (S := SP C X V T f G qc n) 0 _ hE rfl (loadEpoch_r (S := SP C X V T f G qc n) _ rfl (Lib.hid rfl) hE)).mono ?_
    rintro o w1 ⟨rfl, hE1⟩
    exact ⟨rfl, X.F, X.kq, G, _, n, ⟨by omega, (by first | exact Or.inl ⟨rfl, rfl, rfl, rfl⟩ | exact Or.inr (Or.inl ⟨rfl, rfl, rfl, rfl⟩) | exact Or.inr (Or.inr (Or.inl ⟨rfl, rfl, rfl, rfl⟩)) | exact Or.inr (Or.inr (Or.inr ⟨rfl, rfl, rfl, rfl⟩)))⟩, .inl ⟨rfl, hE1⟩⟩
  · have hal : retireM T f = (1, { T with ql := T.ql ++ [(T.rs, epI T.re, 0)] }, upd f (5, T.rs, 1) T.re) := by unfold retireM; rw [if_neg h0]
    rw [hal]
    have hnx : nxR r T.rpc = nxR r 1 := by unfold nxR fnR; rw [if_neg h0, if_neg (by decide)]
    rw [hnx] at hE
    refine (step_ry (S := SP C X V T f G qc n) 1 _ hE rfl (store_r (S := SP C X V T f G qc n) he hs hn (Nat.le_trans hl (by decide)) hE)).mono ?_
    rintro o w1 ⟨rfl, k', F', G', -, hE1⟩
    exact ⟨rfl, F', k', G', _, n + 1, ⟨Nat.le_refl _, (by first | exact Or.inl ⟨rfl, rfl, rfl, rfl⟩ | exact Or.inr (Or.inl ⟨rfl, rfl, rfl, rfl⟩) | exact Or.inr (Or.inr (Or.inl ⟨rfl, rfl, rfl, rfl⟩)) | exact Or.inr (Or.inr (Or.inr ⟨rfl, rfl, rfl, rfl⟩)))⟩, .inr ⟨show (1 : Int) ≠ 0 by decide, hE1⟩⟩
theorem reP (hn : n < maxLen) (hl : T.ql.length + 1 ≤ 1000000) (he : InU T.re) (hs : In64 T.rs) (hE : Env w0 (boxI r (rtv X.c (nxR r T.rpc) T.rs T.re) :: LT (SP C X V T f G qc n) R) w) :
    Calls Tryz.prog 322 #[.pointer (some ⟨r, 0, none⟩), .iface 26 (.pointer (some ⟨V.p, 0, none⟩))] w fun o w' => o = .returned (.int .i64 (retireM T f).1) ∧ ∃ (F' : Nat → Prop) (k' : Nat) (G' : Nat → Prop) (qc' : Cnt) (n' : Nat), n' ≤ n + 1 ∧ (((retireM T f).1 = 0 ∧ Env w0 (boxI r (rtv X.c (nxR r (retireM T f).2.1.rpc) (retireM T f).2.1.rs (retireM T f).2.1.re) :: LT (SP C { X with F := F', kq := k' } V (retireM T f).2.1 (retireM T f).2.2 G' qc' n') R) w') ∨ ((retireM T f).1 ≠ 0 ∧ Env w0 (LT (SP C { X with F := F', kq := k' } V (retireM T f).2.1 (retireM T f).2.2 G' qc' n') R) w')) :=
  (rePx hn hl he hs hE).mono fun o w' ⟨h, F', k', G', qc', n', hn, hc⟩ => ⟨h, F', k', G', qc', n', hn.le, hc⟩
set_option maxHeartbeats 1600000 in
theorem reR (hl : T.ql.length + 1 ≤ 1000000) (he : InU T.re) (hre : T.rpc ≠ 0 → epI T.re = T.re) (hpc : T.rpc = 0 ∨ T.rpc = 1) (hml : ml.length ≤ 999999) (hN : 0 ≤ X.N ∧ X.N ≤ 4000000) (hE : Env w0 (boxI b (rrv T.rs (T.rpc : Int) T.re) :: LU (SR C X V T FU ml) R) w) :
    Calls Tryz.prog 138 #[.pointer (some ⟨b, 0, none⟩), .pointer (some ⟨X.u, 0, none⟩), .pointer (some ⟨V.m, 0, none⟩)] w fun o w' => o = .returned (.int .i64 (retireM T (getL ml)).1) ∧ ∃ (A' : Option Addr) (rc' : Nat) (N' : Int) (FU' : Nat → Prop) (ml' : List OneR), getL ml' = (retireM T (getL ml)).2.2 ∧ ml'.length ≤ ml.length + 1 ∧ 0 ≤ N' ∧ N' ≤ 4000000 ∧ (((retireM T (getL ml)).1 = 0 ∧ Env w0 (boxI b (rrv (retireM T (getL ml)).2.1.rs ((retireM T (getL ml)).2.1.rpc : Int) (retireM T (getL ml)).2.1.re) :: LU (SR C { X with A := A', rc := rc', N := N' } V (retireM T (getL ml)).2.1 FU' ml') R) w') ∨ ((retireM T (getL ml)).1 ≠ 0 ∧ Env w0 (LU (SR C { X with A := A', rc := rc', N := N' } V (retireM T (getL ml)).2.1 FU' ml') R) w')) := by
  rcases hpc with h0 | h0
  · have hal : retireM T (getL ml) = (0, { T with re := getL ml (1, 0, 0), rpc := 1 }, getL ml) := by unfold retireM; rw [if_pos h0]
    rw [hal]
    rw [h0] at hE
    refine (rret0 (U := SR C X V T FU ml) _ rfl (by show ml.length ≤ 1000000; omega) hE).mono ?_
    rintro o w1 ⟨rfl, hE1⟩
    exact ⟨rfl, X.A, X.rc, X.N, FU, ml, rfl, by omega, hN.1, hN.2, .inl ⟨rfl, hE1⟩⟩
  · have hal : retireM T (getL ml) = (1, { T with ql := T.ql ++ [(T.rs, epI T.re, 0)] }, upd (getL ml) (5, T.rs, 1) T.re) := by unfold retireM; rw [if_neg (by omega)]
    rw [hal]
    have hee := hre (by omega)
    rw [h0] at hE
    refine (rret1 (U := SR C X V T FU ml) he (by show ml.length ≤ 1000000; omega) (by show T.ql.length ≤ 1000000; omega) (by show 0 ≤ X.N ∧ X.N ≤ 1099511627776; omega) hE).mono ?_
    rintro o w1 ⟨rfl, F5, A', c', hE1⟩
    have hNN := roomN_in hN hl
    have hms : (getL (setL ml (5, T.rs, 1) (epI T.re))) = upd (getL ml) (5, T.rs, 1) T.re := by rw [getL_set, hee]
    exact ⟨rfl, A', c', _, F5, _, hms, setL_length _ _ _, hNN.1, hNN.2, .inr ⟨show (1 : Int) ≠ 0 by decide, hE1⟩⟩
set_option maxHeartbeats 1600000 in
theorem gePx (hg : Glo w0) (hn : n < maxLen) (hgh : InU T.gh) (hpc : T.gpc ≤ 3) (hq : 2 ≤ T.gpc → ∃ x y t, T.ql = (x, y, 0) :: t ∧ In64 x) (hE : Env w0 (boxI r (gvv X.c (nxG r T.gpc) T.gh T.gg) :: LT (SP C X V T f G qc n) R) w) :
    Calls Tryz.prog 58 #[.pointer (some ⟨r, 0, none⟩), .iface 26 (.pointer (some ⟨V.p, 0, none⟩))] w fun o w' => o = .returned (.int .i64 (giveM C T f).1) ∧ ∃ (G' : Nat → Prop) (qc' : Cnt) (n' : Nat) (nx : Value × Value), Nx n qc n' qc' ∧ ((giveM C T f).1 = 0 → nx = nxG r (giveM C T f).2.1.gpc) ∧ Env w0 (boxI r (gvv X.c nx (giveM C T f).2.1.gh (giveM C T f).2.1.gg) :: LT (SP C X V (giveM C T f).2.1 (giveM C T f).2.2 G' qc' n') R) w' := by
  rcases (show T.gpc = 0 ∨ T.gpc = 1 ∨ T.gpc = 2 ∨ T.gpc = 3 by omega) with h0 | h0 | h0 | h0
  · have hal : giveM C T f = (gdS T.ql, { T with e := epI (f (1, 0, 0)), gpc := 1 }, f) := by unfold giveM; rw [if_pos h0]
    rw [hal]
    rw [h0] at hE
    refine (step_gy (S := SP C X V T f G qc n) 0 _ hE rfl (check_g (S := SP C X V T f G qc n) _ rfl (Lib.hid rfl) hE)).mono ?_
    rintro o w1 ⟨rfl, nx, hnx, hE1⟩
    refine ⟨rfl, G, _, n, nx, ⟨by omega, (by first | exact Or.inl ⟨rfl, rfl, rfl, rfl⟩ | exact Or.inr (Or.inl ⟨rfl, rfl, rfl, rfl⟩) | exact Or.inr (Or.inr (Or.inl ⟨rfl, rfl, rfl, rfl⟩)) | exact Or.inr (Or.inr (Or.inr ⟨rfl, rfl, rfl, rfl⟩)))⟩, fun h => hnx ?_, hE1⟩
    intro hq0
    have hq1 : T.ql = [] := hq0
    have h' : gdS T.ql = 0 := h
    rw [hq1] at h'
    exact absurd h' (by decide)
  · have hal : giveM C T f = (poolG (f (2, 0, 0)) C.l, { T with gh := f (2, 0, 0), gpc := 2 }, f) := by unfold giveM; rw [if_neg (by omega), if_pos h0]
    rw [hal]
    rw [h0] at hE
    refine (step_gy (S := SP C X V T f G qc n) 1 _ hE rfl (loadPool_g (S := SP C X V T f G qc n) _ rfl hg (Lib.hid rfl) hE)).mono ?_
    rintro o w1 ⟨rfl, nx, hnx, hE1⟩
    exact ⟨rfl, G, _, n, nx, ⟨by omega, (by first | exact Or.inl ⟨rfl, rfl, rfl, rfl⟩ | exact Or.inr (Or.inl ⟨rfl, rfl, rfl, rfl⟩) | exact Or.inr (Or.inr (Or.inl ⟨rfl, rfl, rfl, rfl⟩)) | exact Or.inr (Or.inr (Or.inr ⟨rfl, rfl, rfl, rfl⟩)))⟩, hnx, hE1⟩
  · obtain ⟨x, y, t, hql, hx⟩ := hq (by omega)
    have hal : giveM C T f = (0, { T with gpc := 3 }, upd f (5, x, 2) (wordI false (slotI T.gh) 0)) := by unfold giveM; rw [if_neg (by omega), if_neg (by omega), if_pos h0, hql]; rfl
    rw [hal]
    rw [h0] at hE
    refine (step_gy (S := SP C X V T f G qc n) 2 _ hE rfl (storeChain_g (S := SP C X V T f G qc n) x y t hql hx hgh hg hn (Lib.hid rfl) hE)).mono ?_
    rintro o w1 ⟨rfl, G', hE1⟩
    exact ⟨rfl, G', _, n + 1, _, ⟨Nat.le_refl _, (by first | exact Or.inl ⟨rfl, rfl, rfl, rfl⟩ | exact Or.inr (Or.inl ⟨rfl, rfl, rfl, rfl⟩) | exact Or.inr (Or.inr (Or.inl ⟨rfl, rfl, rfl, rfl⟩)) | exact Or.inr (Or.inr (Or.inr ⟨rfl, rfl, rfl, rfl⟩)))⟩, fun _ => rfl, hE1⟩
  · obtain ⟨x, y, t, hql, hx⟩ := hq (by omega)
    rw [h0] at hE
    by_cases hx2 : f (2, 0, 0) = T.gh
    · have hal : giveM C T f = (gdS t, { T with ql := t, gg := wrap64 (T.gg + 1), gpc := 1 }, swf f (2, 0, 0) T.gh (nextW T.gh x)) := by unfold giveM; rw [if_neg (by omega), if_neg (by omega), if_neg (by omega), if_pos hx2, hql]; rfl
      rw [hal]
      refine (step_gy (S := SP C X V T f G qc n) 3 _ hE rfl (putYes_g (S := SP C X V T f G qc n) x y t hql hx2 hgh hg hn (Lib.hid rfl) hE)).mono ?_
      rintro o w1 ⟨rfl, nx, G', hnx, hE1⟩
      refine ⟨rfl, G', _, n + 1, nx, ⟨Nat.le_refl _, (by first | exact Or.inl ⟨rfl, rfl, rfl, rfl⟩ | exact Or.inr (Or.inl ⟨rfl, rfl, rfl, rfl⟩) | exact Or.inr (Or.inr (Or.inl ⟨rfl, rfl, rfl, rfl⟩)) | exact Or.inr (Or.inr (Or.inr ⟨rfl, rfl, rfl, rfl⟩)))⟩, fun h => hnx ?_, hE1⟩
      intro hq0
      have h' : gdS t = 0 := h
      rw [hq0] at h'
      exact absurd h' (by decide)
    · have hal : giveM C T f = (0, { T with gpc := 1 }, swf f (2, 0, 0) T.gh (nextW T.gh x)) := by unfold giveM; rw [if_neg (by omega), if_neg (by omega), if_neg (by omega), if_neg hx2, hql]; rfl
      rw [hal]
      refine (step_gy (S := SP C X V T f G qc n) 3 _ hE rfl (putNo_g (S := SP C X V T f G qc n) x y t hql hx2 hgh hg hn (Lib.hid rfl) hE)).mono ?_
      rintro o w1 ⟨rfl, G', hE1⟩
      exact ⟨rfl, G', _, n + 1, _, ⟨Nat.le_refl _, (by first | exact Or.inl ⟨rfl, rfl, rfl, rfl⟩ | exact Or.inr (Or.inl ⟨rfl, rfl, rfl, rfl⟩) | exact Or.inr (Or.inr (Or.inl ⟨rfl, rfl, rfl, rfl⟩)) | exact Or.inr (Or.inr (Or.inr ⟨rfl, rfl, rfl, rfl⟩)))⟩, fun _ => rfl, hE1⟩
theorem geP (hg : Glo w0) (hn : n < maxLen) (hgh : InU T.gh) (hpc : T.gpc ≤ 3) (hq : 2 ≤ T.gpc → ∃ x y t, T.ql = (x, y, 0) :: t ∧ In64 x) (hE : Env w0 (boxI r (gvv X.c (nxG r T.gpc) T.gh T.gg) :: LT (SP C X V T f G qc n) R) w) :
    Calls Tryz.prog 58 #[.pointer (some ⟨r, 0, none⟩), .iface 26 (.pointer (some ⟨V.p, 0, none⟩))] w fun o w' => o = .returned (.int .i64 (giveM C T f).1) ∧ ∃ (G' : Nat → Prop) (qc' : Cnt) (n' : Nat) (nx : Value × Value), n' ≤ n + 1 ∧ ((giveM C T f).1 = 0 → nx = nxG r (giveM C T f).2.1.gpc) ∧ Env w0 (boxI r (gvv X.c nx (giveM C T f).2.1.gh (giveM C T f).2.1.gg) :: LT (SP C X V (giveM C T f).2.1 (giveM C T f).2.2 G' qc' n') R) w' :=
  (gePx hg hn hgh hpc hq hE).mono fun o w' ⟨h, G', qc', n', nx, hn, hc⟩ => ⟨h, G', qc', n', nx, hn.le, hc⟩
set_option maxHeartbeats 1600000 in
theorem geR (hl : T.ql.length + 1 ≤ 1000000) (hgh : InU T.gh) (hfu : ∀ x, InU (getL ml x)) (hpc : T.gpc ≤ 3) (hq : 2 ≤ T.gpc → ∃ x y t, T.ql = (x, y, 0) :: t ∧ 0 ≤ x ∧ x ≤ 8388607) (hv : T.gpc = 3 → verI T.gh < 1099511627775) (hml : ml.length ≤ 999999) (hN : 0 ≤ X.N ∧ X.N ≤ 4000000) (hE : Env w0 (boxI b (rgv (T.gpc : Int) T.gh T.gg) :: LU (SR C X V T FU ml) R) w) :
    Calls Tryz.prog 59 #[.pointer (some ⟨b, 0, none⟩), .pointer (some ⟨X.u, 0, none⟩), .pointer (some ⟨V.m, 0, none⟩)] w fun o w' => o = .returned (.int .i64 (giveM C T (getL ml)).1) ∧ ∃ (A' : Option Addr) (rc' : Nat) (FU' : Nat → Prop) (ml' : List OneR) (pc' : Int), getL ml' = (giveM C T (getL ml)).2.2 ∧ ml'.length ≤ ml.length + 1 ∧ ((giveM C T (getL ml)).1 = 0 → pc' = ((giveM C T (getL ml)).2.1.gpc : Int)) ∧ Env w0 (boxI b (rgv pc' (giveM C T (getL ml)).2.1.gh (giveM C T (getL ml)).2.1.gg) :: LU (SR C { X with A := A', rc := rc' } V (giveM C T (getL ml)).2.1 FU' ml') R) w' := by
  rcases (show T.gpc = 0 ∨ T.gpc = 1 ∨ T.gpc = 2 ∨ T.gpc = 3 by omega) with h0 | h0 | h0 | h0
  · have hal : giveM C T (getL ml) = (gdS T.ql, { T with e := epI (getL ml (1, 0, 0)), gpc := 1 }, getL ml) := by unfold giveM; rw [if_pos h0]
    rw [hal]
    rw [h0] at hE
    refine (rgive0 (U := SR C X V T FU ml) _ rfl (hfu _) (by show ml.length ≤ 1000000; omega) hE).mono ?_
    rintro o w1 ⟨rfl, hE1⟩
    exact ⟨rfl, X.A, X.rc, FU, ml, 1, rfl, by omega, fun _ => rfl, hE1⟩
  · have hal : giveM C T (getL ml) = (poolG (getL ml (2, 0, 0)) C.l, { T with gh := getL ml (2, 0, 0), gpc := 2 }, getL ml) := by unfold giveM; rw [if_neg (by omega), if_pos h0]
    rw [hal]
    rw [h0] at hE
    refine (rgive1 (U := SR C X V T FU ml) _ rfl (hfu _) (by show ml.length ≤ 1000000; omega) hE).mono ?_
    rintro o w1 ⟨rfl, pc', hpc', hE1⟩
    exact ⟨rfl, X.A, X.rc, FU, ml, pc', rfl, by omega, hpc', hE1⟩
  · obtain ⟨x, y, t, hql, hx⟩ := hq (by omega)
    have hal : giveM C T (getL ml) = (0, { T with gpc := 3 }, upd (getL ml) (5, x, 2) (wordI false (slotI T.gh) 0)) := by unfold giveM; rw [if_neg (by omega), if_neg (by omega), if_pos h0, hql]; rfl
    rw [hal]
    rw [h0] at hE
    refine (rgive2 (U := SR C X V T FU ml) x y t hql hgh (by show ml.length ≤ 1000000; omega) hE).mono ?_
    rintro o w1 ⟨rfl, F5, hE1⟩
    exact ⟨rfl, X.A, X.rc, F5, _, 3, getL_set _ _ _, setL_length _ _ _, fun _ => rfl, hE1⟩
  · obtain ⟨x, y, t, hql, hx⟩ := hq (by omega)
    have hnx := nextW_word hx (hv h0)
    rw [h0] at hE
    by_cases hx2 : getL ml (2, 0, 0) = T.gh
    · have hal : giveM C T (getL ml) = (gdS t, { T with ql := t, gg := wrap64 (T.gg + 1), gpc := 1 }, swf (getL ml) (2, 0, 0) T.gh (nextW T.gh x)) := by unfold giveM; rw [if_neg (by omega), if_neg (by omega), if_neg (by omega), if_pos hx2, hql]; rfl
      rw [hal, hnx]
      rw [hql] at hl
      refine (rgive3Yes (U := SR C X V T FU ml) x y t hql hx2 (by simp at hl; omega) hgh (by show ml.length ≤ 1000000; omega) hE).mono ?_
      rintro o w1 ⟨rfl, F5, A', c', hE1⟩
      exact ⟨rfl, A', c', F5, _, 1, (swf_getL _ _ _ _).symm, swL_length _ _ _ _, fun _ => rfl, hE1⟩
    · have hal : giveM C T (getL ml) = (0, { T with gpc := 1 }, swf (getL ml) (2, 0, 0) T.gh (nextW T.gh x)) := by unfold giveM; rw [if_neg (by omega), if_neg (by omega), if_neg (by omega), if_neg hx2, hql]; rfl
      rw [hal, hnx]
      refine (rgive3No (U := SR C X V T FU ml) x y t hql hx2 hgh (by show ml.length ≤ 1000000; omega) hE).mono ?_
      rintro o w1 ⟨rfl, F5, hE1⟩
      exact ⟨rfl, X.A, X.rc, F5, _, 1, (swf_getL _ _ _ _).symm, swL_length _ _ _ _, fun _ => rfl, hE1⟩
end
end Go.Proofs.YtdknbegcflldjaaGreatDoor

/- Machines' rows: how they ended. -/
namespace Go.Proofs.YtdknbegcflldjaaGreatDoor
open Go.RowKit Go.Maps
set_option maxRecDepth 100000

section
variable {w : World} {a o : Nat}
theorem state_r {s : Int} (hs : w.cell? ⟨a, o + 1, none⟩ = some (.int .i64 s)) :
    Calls Tryz.prog 167 #[.pointer (some ⟨a, o, none⟩)] w fun r w' => r = .returned (.int .i64 s) ∧ w' = w := by
  go_enter Tryz.func167, Tryz.ntmps167
  go_wp2
  go_ret
  exact ⟨rfl, rfl⟩
end
end Go.Proofs.YtdknbegcflldjaaGreatDoor

/- Threads: contracts of New, To, Mark, Lead. -/
namespace Go.Proofs.YtdknbegcflldjaaGreatDoor
open Go.RowKit Go.Maps
set_option maxRecDepth 100000


section
variable {w0 w : World} {L : List Item}
end

section
variable {w : World} {c q : Nat} {k s b h l e r hs hi : Int}
set_option maxHeartbeats 1600000 in
theorem to_c (a d : Int) (hg : Glo w) (hb : Blk 0 w c (crv k s b h l e r hs hi q)) :
    Calls Tryz.prog 273 #[.pointer (some ⟨c, 0, none⟩), .agg #[.int .i64 a, .int .i64 d]] w fun o w' => o = .returned (.agg #[.int .u64 (wordI false a e), .int .i64 d, .bool false]) ∧ Below w.heap.size w w' := by
  have hcl := hb.1
  have HGB := Lib.hid fun (v : World) (hv : Below w.heap.size w v) => to_any a e v (hg.keep' hv)
  clear hg
  have hb1 := (hb.more (.cells [.int .i64 a, .int .i64 d].toArray 136)).more (.cells [.int .u64 0, .int .i64 0, .bool false].toArray 180)
  have hX := (Blk.new 0 w [.int .i64 a, .int .i64 d] 136).more (.cells [.int .u64 0, .int .i64 0, .bool false].toArray 180)
  have hB := (Blk.new 0 (w.alloc (.cells [.int .i64 a, .int .i64 d].toArray 136)) [.int .u64 0, .int .i64 0, .bool false] 180).at (n' := w.heap.size + 1) (by simp)
  have hE := ((Below.refl w.heap.size w).alloc (Nat.le_refl _) (.cells [.int .i64 a, .int .i64 d].toArray 136)).alloc (by simp) (.cells [.int .u64 0, .int .i64 0, .bool false].toArray 180)
  unfold crv at hb1
  clear hb
  go_enter Tryz.func273, Tryz.ntmps273
  go_wp2_with fail
  refine Ord.wp_chain [10] (fun w' => Below w.heap.size w w' ∧ Blk 0 w' c [.int .i64 k, .int .i64 s, .int .i64 b, .int .i64 h, .int .i64 l, .int .i64 e, .int .i64 r, .int .i64 hs, .int .i64 hi, .pointer (some ⟨q, 0, none⟩)] ∧ Blk 0 w' w.heap.size [.int .i64 a, .int .i64 d]) (fun j w' => Blk 0 w' (w.heap.size + 1) (if j = 0 then [.int .u64 0, .int .i64 0, .bool false] else [.int .u64 (wordI false a e), .int .i64 d, .bool false])) (by kernel_rfl) (by kernel_rfl) (by kernel_rfl) ⟨hE.drew, hb1.drew, hX.drew⟩ hB.drew (fun hT => ?_)
  have hT9 := Lib.hid hT
  clear hT
  repeat (first
    | (refine Ord.ch_value (v := ?_) hT9.out (by decide) (by rfl) ?_ ?_; rotate_left; (focus (intro w5 hS; have r := Blk.rule hS.2.1; have r2 := Blk.rule hS.2.2; go_simp <;> with_reducible rfl)); (try simp only [Act.put, List.setIfInBounds_toArray, List.set_cons_zero, List.set_cons_succ]))
    | (refine Ord.ch_off hT9.out (by decide) (by rfl) ?_; (try simp only [Act.put, List.setIfInBounds_toArray, List.set_cons_zero, List.set_cons_succ]))
    | (refine Ord.ch_call (v := ?_) (f := ?_) (args := ?_) hT9.out (by decide) (by rfl) ?_ ?_ ?_; rotate_left 3; (focus (intro w5 hS; have r := Blk.rule hS.2.1; have r2 := Blk.rule hS.2.2; go_simp; constructor <;> with_reducible rfl)); (focus (intro w5 hS; (first | (with_reducible refine (HGB.out _ hS.1).mono ?_; rintro o w6 ⟨rfl, hb6⟩; constructor; with_reducible rfl; exact ⟨⟨hS.1.trans (hb6.mono hS.1.size), hS.2.1.under hb6, hS.2.2.under hb6⟩, fun _ h => h.under hb6⟩)))); (try simp only [Act.put, List.setIfInBounds_toArray, List.set_cons_zero, List.set_cons_succ])))
  refine Ord.ch_turn (v := undef) 0 hT9.out rfl (by decide) (Or.inl rfl) (by rfl) ?_ ?_
  · rintro w5 hS hA2
    simp only [if_true] at hA2
    have r := hA2.rule
    have f0 := hA2.thaw 0 (by simp)
    have f1 := hA2.thaw 1 (by simp)
    have f2 := hA2.thaw 2 (by simp)
    have hz := hS.1.size
    go_simp
    refine ⟨rfl, ⟨?_, ?_, ?_⟩, ?_⟩
    · exact below_set (below_set (below_set hS.1 hz (by omega) _) (by simp; omega) (by omega) _) (by simp; omega) (by omega) _
    · exact ((hS.2.1.off (by omega) _).off (by omega) _).off (by omega) _
    · exact ((hS.2.2.off (by omega) _).off (by omega) _).off (by omega) _
    · exact Blk.put3 hA2 _ _ _
  (try simp only [Act.put, List.setIfInBounds_toArray, List.set_cons_zero, List.set_cons_succ])
  repeat (first
    | (refine Ord.ch_value (v := ?_) hT9.out (by decide) (by rfl) ?_ ?_; rotate_left; (focus (intro w5 hS; skip; go_simp <;> with_reducible rfl)); (try simp only [Act.put, List.setIfInBounds_toArray, List.set_cons_zero, List.set_cons_succ]))
    | (refine Ord.ch_off hT9.out (by decide) (by rfl) ?_; (try simp only [Act.put, List.setIfInBounds_toArray, List.set_cons_zero, List.set_cons_succ])))
  refine Ord.InText.nil fun w5 hS => ?_
  clear hT9
  obtain ⟨hC9, hA9⟩ := Ord.chain_end hS
  clear hS
  have q := hA9.rule
  simp only [show ¬ [10].length = 0 by decide, if_false] at q
  go_wp2
  exact bodyPost_ret (v := .agg #[.int .u64 (wordI false a e), .int .i64 d, .bool false]) (by simp [results, Tryz.results273, go_sem, q]) rfl ⟨rfl, hC9.1⟩
end

end Go.Proofs.YtdknbegcflldjaaGreatDoor

/- Contracts of the functions of layer 2. -/
namespace Go.Proofs.YtdknbegcflldjaaGreatDoor
open Go.RowKit
set_option maxRecDepth 100000

set_option maxHeartbeats 400000 in
theorem isMarked_any (x : Int) (w : World) (hg : Glo w) (h0 : 0 ≤ x) (h1 : x ≤ 18446744073709551615) :
    Calls Tryz.prog 57 #[.int .u64 x] w fun e w' => e = .returned (.bool (markB x)) ∧ Below w.heap.size w w' := by
  obtain ⟨-, -, ⟨c0, c1⟩, -, -, hs⟩ := hg
  have HG := Lib.hid (mark_one x h0 h1)
  go_enter Tryz.func57, Tryz.ntmps57
  go_wp2_with fail
  refine (get_any 63 1 x _ (by decide) (by decide) h0 h1).mono ?_
  rintro e w1 ⟨rfl, hb⟩
  generalize getI 63 1 x = y at *
  go_wp2
  go_ret
  exact ⟨ret_bool (by rw [← HG.out]; rfl), hb⟩

end Go.Proofs.YtdknbegcflldjaaGreatDoor

/- Contracts of the functions of layer 5: places that are made, and whether a place could be. -/
namespace Go.Proofs.YtdknbegcflldjaaGreatDoor
open Go.RowKit
set_option maxRecDepth 100000

set_option maxHeartbeats 400000 in
theorem link_any (y m : Int) (w : World) : Calls Tryz.prog 55 #[.int .i64 y, .int .i64 m] w fun e w' => e = .returned (.agg #[.int .i64 5, .int .i64 y, .int .i64 (wrap64 (7 + m))]) ∧ Below w.heap.size w w' := by
  have hF := (Fr.start w).push w.heap.size rfl [.int .i64 0, .int .i64 0, .int .i64 0] 105
  go_enter Tryz.func55, Tryz.ntmps55
  go_wp2_with fail
  refine (placeOf_any _ _ _).mono ?_
  rintro e w1 ⟨rfl, hb⟩
  replace hF := hF.over hb
  have r := hF.rule 0 rfl
  have f := hF.thaw 0 rfl (Nat.le_refl _)
  go_wp2
  have hP := hF.put3 (Nat.le_refl _) (fun x hx => by cases hx) (.int .i64 5) (.int .i64 y) (.int .i64 (wrap64 (7 + m)))
  have q := hP.rule 0 rfl
  exact bodyPost_ret (v := .agg #[.int .i64 5, .int .i64 y, .int .i64 (wrap64 (7 + m))]) (by simp [results, Tryz.results55, go_sem, q]) rfl ⟨rfl, hP.below⟩
end Go.Proofs.YtdknbegcflldjaaGreatDoor

/- Contracts of layer 5: places that are made, of few functions: Root. -/
namespace Go.Proofs.YtdknbegcflldjaaGreatDoor
open Go.RowKit
set_option maxRecDepth 100000

set_option maxHeartbeats 400000 in
theorem root_any (z : Int) (w : World) : Calls Tryz.prog 53 #[.int .i64 z] w fun e w' => e = .returned (.agg #[.int .i64 4, .int .i64 0, .int .i64 z]) ∧ Below w.heap.size w w' := by
  go_enter Tryz.func53, Tryz.ntmps53
  go_wp2
  exact bodyPost_ret (v := .agg #[.int .i64 4, .int .i64 0, .int .i64 z]) (by simp [results, Tryz.results53, go_sem]) rfl ⟨rfl, (Below.refl _ _).alloc (Nat.le_refl _) _⟩
end Go.Proofs.YtdknbegcflldjaaGreatDoor

/- Lanes: what they are in memory; their small functions. -/
namespace Go.Proofs.YtdknbegcflldjaaGreatDoor
open Go.RowKit Go.Maps
set_option maxRecDepth 100000

/-- A lane's cells. -/
def laneC (c : Nat) (lv key : Int) (vs : Bool) (nx : Value) (st x y z W C X wd : Int) (pf : Bool) (pv : Int) : List Value :=
  [.pointer (some ⟨c, 0, none⟩), .int .i64 lv, .int .u64 key, .bool vs, nx, .int .i64 st, .int .i64 x, .int .i64 y, .int .i64 z, .int .i64 0, .int .u64 W, .int .i64 0, .bool false, .int .i64 C, .int .i64 0, .int .u64 X, .int .i64 0, .bool false, .int .u64 wd, .bool pf, .int .u64 pv]
/-- The closure that validates. -/
def cvL (b1 b2 : Nat) : Value := .func (.func 293) #[] #[.pointer (some ⟨b1, 0, none⟩), .pointer (some ⟨b2, 0, none⟩)]

section
variable {w : World} {a c : Nat} {lv key : Int} {vs : Bool} {nx : Value} {st x y z W C X wd : Int} {pf : Bool} {pv : Int}

set_option maxHeartbeats 1600000 in
theorem part_l (n : Int) (hb : Blk 0 w a (laneC c lv key vs nx st x y z W C X wd pf pv)) : Calls Tryz.prog 336 #[.pointer (some ⟨a, 0, none⟩), .int .i64 n] w fun e w' => e = .returned (.agg #[.int .i64 5, .int .i64 C, .int .i64 n, .int .i64 0]) ∧ Below w.heap.size w w' := by
  have hal := hb.1
  have hX := hb.more (.cells [.int .i64 0, .int .i64 0, .int .i64 0, .int .i64 0].toArray 185)
  have hZ := Blk.new 0 w [.int .i64 0, .int .i64 0, .int .i64 0, .int .i64 0] 185
  have hE := (Below.refl w.heap.size w).alloc (Nat.le_refl _) (.cells [.int .i64 0, .int .i64 0, .int .i64 0, .int .i64 0].toArray 185)
  clear hb
  go_enter Tryz.func336, Tryz.ntmps336
  go_wp2_with fail
  refine Ord.wp_chain [13] (fun w' => Below w.heap.size w w' ∧ Blk 0 w' a (laneC c lv key vs nx st x y z W C X wd pf pv)) (fun j w' => Blk 0 w' w.heap.size (if j = 0 then [.int .i64 0, .int .i64 0, .int .i64 0, .int .i64 0] else [.int .i64 5, .int .i64 C, .int .i64 n, .int .i64 0])) (by kernel_rfl) (by kernel_rfl) (by kernel_rfl) ⟨hE.drew, hX.drew⟩ hZ.drew (fun hT => ?_)
  have hT9 := Lib.hid hT
  clear hT
  repeat (first
    | (refine Ord.ch_value (v := ?_) hT9.out (by decide) (by rfl) ?_ ?_; rotate_left; (focus (intro w5 hS; have r := Blk.rule hS.2; unfold laneC at r; go_simp <;> with_reducible rfl)); (try simp only [Act.put, List.setIfInBounds_toArray, List.set_cons_zero, List.set_cons_succ]))
    | (refine Ord.ch_off hT9.out (by decide) (by rfl) ?_; (try simp only [Act.put, List.setIfInBounds_toArray, List.set_cons_zero, List.set_cons_succ]))
    | (refine Ord.ch_call (v := ?_) (f := ?_) (args := ?_) hT9.out (by decide) (by rfl) ?_ ?_ ?_; rotate_left 3; (focus (intro w5 hS; have r := Blk.rule hS.2; unfold laneC at r; go_simp; constructor <;> with_reducible rfl)); (focus (intro w5 hS; (first | (with_reducible refine (placeOf_any _ _ _).mono ?_; rintro o w6 ⟨rfl, hb6⟩; constructor; with_reducible rfl; exact ⟨⟨hS.1.trans (hb6.mono hS.1.size), hS.2.under hb6⟩, fun _ h => h.under hb6⟩)))); (try simp only [Act.put, List.setIfInBounds_toArray, List.set_cons_zero, List.set_cons_succ])))
  refine Ord.ch_turn (v := undef) 0 hT9.out rfl (by decide) (Or.inl rfl) (by rfl) ?_ ?_
  · rintro w5 hS hA2
    simp only [if_true] at hA2
    have r := hA2.rule
    have f0 := hA2.thaw 0 (by simp)
    have f1 := hA2.thaw 1 (by simp)
    have f2 := hA2.thaw 2 (by simp)
    have f3 := hA2.thaw 3 (by simp)
    have hz := hS.1.size
    go_simp
    refine ⟨rfl, ⟨?_, ?_⟩, ?_⟩
    · exact below_set (below_set (below_set (below_set hS.1 hz (by omega) _) (by simp; omega) (by omega) _) (by simp; omega) (by omega) _) (by simp; omega) (by omega) _
    · exact (((hS.2.off (by omega) _).off (by omega) _).off (by omega) _).off (by omega) _
    · exact (((hA2.set (i := 0) (by simp) _).set (i := 1) (by simp) _).set (i := 2) (by simp) _).set (i := 3) (by simp) _
  (try simp only [Act.put, List.setIfInBounds_toArray, List.set_cons_zero, List.set_cons_succ])
  repeat (first
    | (refine Ord.ch_value (v := ?_) hT9.out (by decide) (by rfl) ?_ ?_; rotate_left; (focus (intro w5 hS; skip; go_simp <;> with_reducible rfl)); (try simp only [Act.put, List.setIfInBounds_toArray, List.set_cons_zero, List.set_cons_succ]))
    | (refine Ord.ch_off hT9.out (by decide) (by rfl) ?_; (try simp only [Act.put, List.setIfInBounds_toArray, List.set_cons_zero, List.set_cons_succ])))
  refine Ord.InText.nil fun w5 hS => ?_
  clear hT9
  obtain ⟨hC9, hA9⟩ := Ord.chain_end hS
  clear hS
  have q := hA9.rule
  simp only [show ¬ [13].length = 0 by decide, if_false] at q
  go_wp2
  exact bodyPost_ret (v := .agg #[.int .i64 5, .int .i64 C, .int .i64 n, .int .i64 0]) (by simp [results, Tryz.results336, go_sem, q]) rfl ⟨rfl, hC9.1⟩

set_option maxHeartbeats 1600000 in
theorem nextLink_l (hlv : 0 ≤ lv ∧ lv ≤ 1000000) (hb : Blk 0 w a (laneC c lv key vs nx st x y z W C X wd pf pv)) : Calls Tryz.prog 325 #[.pointer (some ⟨a, 0, none⟩)] w fun e w' => e = .returned (.agg #[.int .i64 5, .int .i64 C, .int .i64 (7 + lv), .int .i64 0]) ∧ Below w.heap.size w w' := by
  have hal := hb.1
  have hX := hb.more (.cells [.int .i64 0, .int .i64 0, .int .i64 0, .int .i64 0].toArray 185)
  have hZ := Blk.new 0 w [.int .i64 0, .int .i64 0, .int .i64 0, .int .i64 0] 185
  have hE := (Below.refl w.heap.size w).alloc (Nat.le_refl _) (.cells [.int .i64 0, .int .i64 0, .int .i64 0, .int .i64 0].toArray 185)
  clear hb
  have HLK : Hid (∀ v, Calls Tryz.prog 55 #[.int .i64 C, .int .i64 lv] v fun e w' => e = .returned (.agg #[.int .i64 5, .int .i64 C, .int .i64 (7 + lv)]) ∧ Below v.heap.size v w') := Lib.hid fun v => by
    have := link_any C lv v
    rwa [w64 (7 + lv) (by omega)] at this
  clear hlv
  go_enter Tryz.func325, Tryz.ntmps325
  go_wp2_with fail
  refine Ord.wp_chain [16] (fun w' => Below w.heap.size w w' ∧ Blk 0 w' a (laneC c lv key vs nx st x y z W C X wd pf pv)) (fun j w' => Blk 0 w' w.heap.size (if j = 0 then [.int .i64 0, .int .i64 0, .int .i64 0, .int .i64 0] else [.int .i64 5, .int .i64 C, .int .i64 (7 + lv), .int .i64 0])) (by kernel_rfl) (by kernel_rfl) (by kernel_rfl) ⟨hE.drew, hX.drew⟩ hZ.drew (fun hT => ?_)
  have hT9 := Lib.hid hT
  clear hT
  repeat (first
    | (refine Ord.ch_value (v := ?_) hT9.out (by decide) (by rfl) ?_ ?_; rotate_left; (focus (intro w5 hS; have r := Blk.rule hS.2; unfold laneC at r; go_simp <;> with_reducible rfl)); (try simp only [Act.put, List.setIfInBounds_toArray, List.set_cons_zero, List.set_cons_succ]))
    | (refine Ord.ch_off hT9.out (by decide) (by rfl) ?_; (try simp only [Act.put, List.setIfInBounds_toArray, List.set_cons_zero, List.set_cons_succ]))
    | (refine Ord.ch_call (v := ?_) (f := ?_) (args := ?_) hT9.out (by decide) (by rfl) ?_ ?_ ?_; rotate_left 3; (focus (intro w5 hS; have r := Blk.rule hS.2; unfold laneC at r; go_simp; constructor <;> with_reducible rfl)); (focus (intro w5 hS; (first | (with_reducible refine (HLK.out _).mono ?_; rintro o w6 ⟨rfl, hb6⟩; constructor; with_reducible rfl; exact ⟨⟨hS.1.trans (hb6.mono hS.1.size), hS.2.under hb6⟩, fun _ h => h.under hb6⟩)))); (try simp only [Act.put, List.setIfInBounds_toArray, List.set_cons_zero, List.set_cons_succ])))
  refine Ord.ch_turn (v := undef) 0 hT9.out rfl (by decide) (Or.inl rfl) (by rfl) ?_ ?_
  · rintro w5 hS hA2
    simp only [if_true] at hA2
    have r := hA2.rule
    have f0 := hA2.thaw 0 (by simp)
    have f1 := hA2.thaw 1 (by simp)
    have f2 := hA2.thaw 2 (by simp)
    have f3 := hA2.thaw 3 (by simp)
    have hz := hS.1.size
    go_simp
    refine ⟨rfl, ⟨?_, ?_⟩, ?_⟩
    · exact below_set (below_set (below_set (below_set hS.1 hz (by omega) _) (by simp; omega) (by omega) _) (by simp; omega) (by omega) _) (by simp; omega) (by omega) _
    · exact (((hS.2.off (by omega) _).off (by omega) _).off (by omega) _).off (by omega) _
    · exact (((hA2.set (i := 0) (by simp) _).set (i := 1) (by simp) _).set (i := 2) (by simp) _).set (i := 3) (by simp) _
  (try simp only [Act.put, List.setIfInBounds_toArray, List.set_cons_zero, List.set_cons_succ])
  repeat (first
    | (refine Ord.ch_value (v := ?_) hT9.out (by decide) (by rfl) ?_ ?_; rotate_left; (focus (intro w5 hS; skip; go_simp <;> with_reducible rfl)); (try simp only [Act.put, List.setIfInBounds_toArray, List.set_cons_zero, List.set_cons_succ]))
    | (refine Ord.ch_off hT9.out (by decide) (by rfl) ?_; (try simp only [Act.put, List.setIfInBounds_toArray, List.set_cons_zero, List.set_cons_succ])))
  refine Ord.InText.nil fun w5 hS => ?_
  clear hT9
  obtain ⟨hC9, hA9⟩ := Ord.chain_end hS
  clear hS
  have q := hA9.rule
  simp only [show ¬ [16].length = 0 by decide, if_false] at q
  go_wp2
  exact bodyPost_ret (v := .agg #[.int .i64 5, .int .i64 C, .int .i64 (7 + lv), .int .i64 0]) (by simp [results, Tryz.results325, go_sem, q]) rfl ⟨rfl, hC9.1⟩

end

section
variable {w0 w : World} {L : List Item} {a : Nat} {vs : List Value}
theorem goOn_l (m : Nat) (fn : Fn) (fs cs : Array Value) (hv : 4 < vs.length) (hE : Env w0 L w) (hm : L[m]? = some (boxI a vs)) :
    Calls Tryz.prog 116 #[.pointer (some ⟨a, 4, none⟩), .func fn fs cs] w fun o w' => o = .returned (.int .i64 0) ∧ Env w0 (L.set m (boxI a (vs.set 4 (.func fn fs cs)))) w' := goOn_r (o := 4) m fn fs cs hv hE hm
theorem end_l (m : Nat) (s : Int) (hv : 5 < vs.length) (hE : Env w0 L w) (hm : L[m]? = some (boxI a vs)) :
    Calls Tryz.prog 194 #[.pointer (some ⟨a, 4, none⟩), .int .i64 s] w fun o w' => o = .returned (.int .i64 s) ∧ ∃ nx, Env w0 (L.set m (boxI a ((vs.set 5 (.int .i64 s)).set 4 nx))) w' := by
  refine (end_r (o := 4) m s hv hE hm).mono ?_
  rintro o w1 ⟨rfl, h⟩
  refine ⟨rfl, vs[4], ?_⟩
  have h4 : (vs.set 5 (.int .i64 s)).set 4 vs[4] = vs.set 5 (.int .i64 s) := by
    apply List.ext_getElem?
    intro i
    by_cases hi : i = 4
    · subst hi
      rw [List.getElem?_set_self (by rw [List.length_set]; omega), List.getElem?_set_ne (by decide), List.getElem?_eq_getElem]
    · rw [List.getElem?_set_ne (fun e => hi e.symm)]
  rw [h4]
  exact h
set_option maxHeartbeats 1600000 in
theorem validate_l (fn : Fn) (fs cs : Array Value) (hv : 4 < vs.length) (hE : Env w0 (boxI a vs :: L) w) :
    Calls Tryz.prog 271 #[.pointer (some ⟨a, 0, none⟩), .func fn fs cs] w fun o w' => o = .returned (.int .i64 0) ∧ ∃ b1 b2, Env w0 (boxI a (vs.set 4 (cvL b1 b2)) :: boxI b1 [.pointer (some ⟨a, 0, none⟩)] :: boxI b2 [.func fn fs cs] :: L) w' := by
  have hmf := makeF
  have hE1 := (hE.box w.heap.size rfl [.pointer (some ⟨a, 0, none⟩)] 259).box (w.heap.size + 1) (by simp) [.func fn fs cs] 168
  have r0 := hE1.rule 1 rfl
  go_enter Tryz.func271, Tryz.ntmps271
  go_wp2_with fail
  refine (goOn_l 2 _ _ _ hv hE1 rfl).mono ?_
  rintro o w1 ⟨rfl, hE2⟩
  go_wp2_with fail
  go_ret
  refine ⟨rfl, w.heap.size, w.heap.size + 1, ?_⟩
  exact hE2.perm (List.reverse_perm [_, _, _] |>.append_right L)
set_option maxHeartbeats 800000 in
theorem stepMv_l (X : Nat) (hx : ∀ (ar : Array Value) (v : World), (callFunc X ar).run Tryz.prog v = .ok (.enter X ar) v) (u : Value) (Q : Ending → World → Prop) (hn : w.cell? ⟨a, 4, none⟩ = some (mvL X a)) (hs : w.cell? ⟨a, 5, none⟩ = some (.int .i64 0)) (hc : Calls Tryz.prog X #[.pointer (some ⟨a, 0, none⟩), u] w fun e w' => ∃ s, e = .returned (.int .i64 s) ∧ Q (.returned (.int .i64 s)) w') :
    Calls Tryz.prog 169 #[.pointer (some ⟨a, 0, none⟩), u] w Q := by
  have HST := Lib.hid (stepMv_r (o := 4) X hx (.pointer (some ⟨a, 0, none⟩)) u (fun o w' => ∃ s, o = .returned (.int .i64 s) ∧ Q (.returned (.int .i64 s)) w') hn hs (hc.mono fun e w' ⟨s, he, hq⟩ => ⟨s, he, s, rfl, hq⟩))
  clear hn hs hc
  go_enter Tryz.func169, Tryz.ntmps169
  go_wp2_with fail
  refine HST.out.mono ?_
  rintro o w1 ⟨s, rfl, hQ⟩
  go_wp2_with fail
  exact hQ
set_option maxHeartbeats 800000 in
theorem stepCv_l (b1 b2 : Nat) (u : Value) (Q : Ending → World → Prop) (hn : w.cell? ⟨a, 4, none⟩ = some (cvL b1 b2)) (hs : w.cell? ⟨a, 5, none⟩ = some (.int .i64 0)) (hc : Calls Tryz.prog 293 #[u, .pointer (some ⟨b1, 0, none⟩), .pointer (some ⟨b2, 0, none⟩)] w fun e w' => ∃ s, e = .returned (.int .i64 s) ∧ Q (.returned (.int .i64 s)) w') :
    Calls Tryz.prog 169 #[.pointer (some ⟨a, 0, none⟩), u] w Q := by
  have HST := Lib.hid (stepCv_r (o := 4) 293 b1 b2 (fun _ _ => by kernel_rfl) u (fun o w' => ∃ s, o = .returned (.int .i64 s) ∧ Q (.returned (.int .i64 s)) w') hn hs (hc.mono fun e w' ⟨s, he, hq⟩ => ⟨s, he, s, rfl, hq⟩))
  clear hn hs hc
  go_enter Tryz.func169, Tryz.ntmps169
  go_wp2_with fail
  refine HST.out.mono ?_
  rintro o w1 ⟨s, rfl, hQ⟩
  go_wp2_with fail
  exact hQ
end
end Go.Proofs.YtdknbegcflldjaaGreatDoor
