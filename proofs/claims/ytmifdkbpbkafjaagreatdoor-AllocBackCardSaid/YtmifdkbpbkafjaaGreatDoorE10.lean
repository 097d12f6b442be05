/- What is proved on the way to the statement, part 10 of 15: contracts of the functions, among other things in memory. -/
import Derived.Test.YtmifdkbpbkafjaaGreatDoorE9

/- Threads: an Alloc's step, of the program and of the reference, whatever its row. -/
namespace Go.Proofs.YtmifdkbpbkafjaaGreatDoor
open Go.RowKit Go.Maps
set_option maxRecDepth 100000

/-- The thread's, and the world's, in the program. -/
def SP (C : Cf) (X : Tm) (V : Wm) (T : Th) (f : Plc → Int) (G : Nat → Prop) (qc : Cnt) (n : Nat) : ST := { c := X.c, q := X.q, p := V.p, cc := V.cc, ck := C.k, cs := C.s, cb := C.b, ch := C.h, cl := C.l, ce := T.e, cr := X.cr, hs := T.hs, F := X.F, ql := T.ql, kq := X.kq, G := G, f := f, qc := qc, m := n }
/-- The words of a birth. -/
def WD (C : Cf) (d : Dd) (T : Th) : List (Int × Int) := wordsA C.k T.e d.key d.val (IntKind.u64.wrap d.lv)
def maD (a : Nat) (d : Dd) (T : Th) (left : Value) (s : Int) : MA := { nx := nxA a T.apc, left := left, k := d.ok, key := d.key, val := d.val, lv := d.lv, h := T.ah, n := T.an, r := T.ar, s := s }
def avD (c a : Nat) (d : Dd) (T : Th) (left : Value) (s : Int) : List Value := av c (maD a d T left s)
/-- What is left of a birth's words. -/
def LeftIs (C : Cf) (d : Dd) (T : Th) (left : Value) (s : Int) (gl : List Item) : Prop :=
  if T.apc ≤ 10 then gl = [] else ∃ g c9 N, gl = [lieI g (flat2 (WD C d T))] ∧ s = T.hs ∧ left = .slice (some ⟨g, 2 * (T.apc - 10), none⟩) (N + 1) c9 ∧ N + 1 ≤ c9 ∧ (WD C d T).length = (T.apc - 10) + (N + 1)
/-- What an Alloc's row asks of its thread. -/
structure RowOk (C : Cf) (T : Th) (n : Nat) : Prop where
  (he : 0 ≤ T.e ∧ T.e ≤ 9223372036854775807)
  (hn : n < maxLen)
  (hl : T.ql.length + 1 ≤ 1000000)
  (hs : 0 ≤ C.s ∧ C.s ≤ 9223372036854775806)
  (hw : InU T.ah ∧ InU T.an ∧ InU T.ar)
  (apc : T.apc = 1 ∨ T.apc = 2 ∨ T.apc = 3 ∨ T.apc = 4 ∨ T.apc = 5 ∨ T.apc = 6 ∨ 10 ≤ T.apc)
  (born : T.apc = 10 → T.hs = 0 ∧ ∃ x y t, T.ql = (x, y, 0) :: t ∧ 1 ≤ x ∧ x ≤ C.s)
  (hh : In64 T.hs)
theorem flat2_at (l : List (Int × Int)) (k : Nat) {a b : Int} (h : l[k]? = some (a, b)) : (flat2 l)[2 * k]? = some (.int .i64 a) ∧ (flat2 l)[2 * k + 1]? = some (.int .u64 b) := by
  induction l generalizing k with
  | nil => simp at h
  | cons p r ih =>
    cases k with
    | zero =>
      simp at h
      subst h
      simp [flat2]
    | succ k =>
      have h' : r[k]? = some (a, b) := by simpa using h
      have := ih k h'
      have e1 : 2 * (k + 1) = 2 * k + 1 + 1 := by omega
      rw [e1]
      simpa [flat2] using this
theorem WD_in {C : Cf} {d : Dd} {T : Th} (he : 0 ≤ T.e ∧ T.e ≤ 9223372036854775807) (hd : InU d.key ∧ InU d.val) {k : Nat} {a b : Int} (h : (WD C d T)[k]? = some (a, b)) : In64 a ∧ InU b := by
  have hm : (a, b) ∈ WD C d T := List.mem_of_getElem? h
  have hw : InU (IntKind.u64.wrap d.lv) := by rw [IntKind.wrap_u64]; unfold InU; omega
  unfold WD wordsA at hm
  have h0 : InU 0 := by unfold InU; omega
  have h1 : InU T.e := by unfold InU; omega
  split at hm
  · simp at hm
    rcases hm with ⟨rfl, rfl⟩ | ⟨rfl, rfl⟩ | ⟨rfl, rfl⟩ | ⟨rfl, rfl⟩ <;> exact ⟨by unfold In64; omega, by first | exact h1 | exact h0 | exact hd.1 | exact hd.2⟩
  · split at hm
    · simp at hm
      rcases hm with ⟨rfl, rfl⟩ | ⟨rfl, rfl⟩ | ⟨rfl, rfl⟩ | ⟨rfl, rfl⟩ | ⟨rfl, rfl⟩ <;> exact ⟨by unfold In64; omega, by first | exact h1 | exact h0 | exact hd.1 | exact hw⟩
    · simp at hm
      rcases hm with ⟨rfl, rfl⟩ | ⟨rfl, rfl⟩ | ⟨rfl, rfl⟩ <;> exact ⟨by unfold In64; omega, by first | exact h1 | exact h0 | exact hd.1⟩
theorem decP_in (ql : List Trip) (e l : Int) : decP ql e l = 0 ∨ decP ql e l = 1 ∨ decP ql e l = 2 ∨ decP ql e l = 10 := by
  rcases ql with _ | ⟨⟨x, y, z⟩, t⟩
  · exact .inr (.inr (.inl rfl))
  · simp only [decP]
    split
    · simp
    · split <;> simp
theorem fnA_store {pc : Nat} (h : 11 ≤ pc) : fnA pc = 117 := by
  unfold fnA
  rw [if_neg (by omega), if_neg (by omega), if_neg (by omega), if_neg (by omega), if_neg (by omega), if_neg (by omega), if_neg (by omega)]
theorem LeftIs.low {C : Cf} {d : Dd} {T : Th} (h : T.apc ≤ 10) : LeftIs C d T (.slice none 0 0) 0 [] := by unfold LeftIs; rw [if_pos h]
theorem LeftIs.of {C : Cf} {d : Dd} {T : Th} {left : Value} {s : Int} (h : T.apc ≤ 10) : LeftIs C d T left s [] := by unfold LeftIs; rw [if_pos h]
theorem WD_len (C : Cf) (d : Dd) (T : Th) : 3 ≤ (WD C d T).length ∧ (WD C d T).length ≤ 5 := by
  unfold WD
  rw [wordsA_len]
  split
  · omega
  · split <;> omega

section
variable {w0 w : World} {R : List Item} {C : Cf} {d : Dd} {X : Tm} {V : Wm} {T : Th} {f : Plc → Int} {G : Nat → Prop} {qc : Cnt} {n a : Nat} {left : Value} {s : Int} {gl : List Item}
set_option maxHeartbeats 1600000 in
theorem alP (hg : Glo w0) (hk : RowOk C T n) (hd : InU d.key ∧ InU d.val) (hlf : LeftIs C d T left s gl) (hE : Env w0 (boxI a (avD X.c a d T left s) :: LT (SP C X V T f G qc n) (gl ++ R)) w) :
    Calls Tryz.prog 32 #[.pointer (some ⟨a, 0, none⟩), .iface 28 (.pointer (some ⟨V.p, 0, none⟩))] w fun o w' => o = .returned (.int .i64 (allocM C d T f).1) ∧ ∃ (F' : Nat → Prop) (k' : Nat) (G' : Nat → Prop) (qc' : Cnt) (n' : Nat), n' ≤ n + 1 ∧ (((allocM C d T f).1 = 0 ∧ ∃ left' s' gl', LeftIs C d (allocM C d T f).2.1 left' s' gl' ∧ Env w0 (boxI a (avD X.c a d (allocM C d T f).2.1 left' s') :: LT (SP C { X with F := F', kq := k' } V (allocM C d T f).2.1 (allocM C d T f).2.2 G' qc' n') (gl' ++ R)) w') ∨ ((allocM C d T f).1 ≠ 0 ∧ Env w0 (LT (SP C { X with F := F', kq := k' } V (allocM C d T f).2.1 (allocM C d T f).2.2 G' qc' n') R) w')) := by
  have drop : ∀ {S : ST} {y : Item} {w' : World}, Env w0 (y :: LT S R) w' → Env w0 (LT S R) w' := fun h => h.sub (.cons _ (List.Sublist.refl _))
  have hfu : ∀ x, InU (f x) := fun x => (hE.cell 4 rfl).words.1 x
  rcases hk.apc with h1 | h1 | h1 | h1 | h1 | h1 | h1
  · have hgl : gl = [] := by unfold LeftIs at hlf; rw [if_pos (by omega)] at hlf; exact hlf
    subst hgl
    have hal : allocM C d T f = (2, T, swf f (1, 0, 0) T.e (T.e + 1)) := by unfold allocM; rw [if_pos h1]
    rw [hal]
    refine (step_ay (S := SP C X V T f G qc n) (M := maD a d T left s) 1 _ hE (by simp [maD, h1]) (advance_a (S := SP C X V T f G qc n) (M := maD a d T left s) hk.he hk.hn hE)).mono ?_
    rintro o w1 ⟨rfl, nx, G', hE1⟩
    exact ⟨rfl, X.F, X.kq, G', _, n + 1, Nat.le_refl _, .inr ⟨show (2 : Int) ≠ 0 by decide, drop hE1⟩⟩
  · have hgl : gl = [] := by unfold LeftIs at hlf; rw [if_pos (by omega)] at hlf; exact hlf
    subst hgl
    by_cases hx : C.s ≤ f (3, 0, 0)
    · have hal : allocM C d T f = (0, { T with apc := 3 }, upd f (3, 0, 0) (IntKind.u64.wrap (f (3, 0, 0) + 1))) := by unfold allocM; rw [if_neg (by omega), if_pos h1, if_pos hx]
      rw [hal]
      refine (step_ay (S := SP C X V T f G qc n) (M := maD a d T left s) 2 _ hE (by simp [maD, h1]) (freshNo_a (S := SP C X V T f G qc n) (M := maD a d T left s) _ rfl (hfu _).1 hx hk.hs hk.hn hE)).mono ?_
      rintro o w1 ⟨rfl, G', hE1⟩
      exact ⟨rfl, X.F, X.kq, G', _, n + 1, Nat.le_refl _, .inl ⟨rfl, left, s, [], .of (show (3 : Nat) ≤ 10 by decide), hE1⟩⟩
    · have hal : allocM C d T f = (decS (T.ql ++ [(f (3, 0, 0) + 1, 0, 0)]) T.e C.l, { T with ql := T.ql ++ [(f (3, 0, 0) + 1, 0, 0)], apc := decP (T.ql ++ [(f (3, 0, 0) + 1, 0, 0)]) T.e C.l }, upd f (3, 0, 0) (IntKind.u64.wrap (f (3, 0, 0) + 1))) := by unfold allocM; rw [if_neg (by omega), if_pos h1, if_neg hx]
      rw [hal]
      refine (step_ay (S := SP C X V T f G qc n) (M := maD a d T left s) 2 _ hE (by simp [maD, h1]) (freshYes_a (S := SP C X V T f G qc n) (M := maD a d T left s) _ rfl (Nat.le_trans hk.hl (by decide)) (hfu _).1 (show f (3, 0, 0) < C.s by omega) hk.hs.2 hk.hn hE)).mono ?_
      rintro o w1 ⟨rfl, nx, k', F', G', hnx, -, hE1⟩
      have hin := decP_in (T.ql ++ [(f (3, 0, 0) + 1, 0, 0)]) T.e C.l
      by_cases hz : decP (T.ql ++ [(f (3, 0, 0) + 1, 0, 0)]) T.e C.l = 0
      · exact ⟨rfl, F', k', G', _, n + 1, Nat.le_refl _, .inr ⟨show decS (T.ql ++ [(f (3, 0, 0) + 1, 0, 0)]) T.e C.l ≠ 0 by unfold decS; rw [if_pos hz]; decide, drop hE1⟩⟩
      · have hnx := hnx hz
        subst hnx
        exact ⟨rfl, F', k', G', _, n + 1, Nat.le_refl _, .inl ⟨show decS (T.ql ++ [(f (3, 0, 0) + 1, 0, 0)]) T.e C.l = 0 by unfold decS; rw [if_neg hz], left, s, [], .of (show decP (T.ql ++ [(f (3, 0, 0) + 1, 0, 0)]) T.e C.l ≤ 10 by omega), hE1⟩⟩
  · have hgl : gl = [] := by unfold LeftIs at hlf; rw [if_pos (by omega)] at hlf; exact hlf
    subst hgl
    have hal : allocM C d T f = (poolS (f (2, 0, 0)) C.l, { T with ah := f (2, 0, 0), apc := 4 }, f) := by unfold allocM; rw [if_neg (by omega), if_neg (by omega), if_pos h1]
    rw [hal]
    refine (step_ay (S := SP C X V T f G qc n) (M := maD a d T left s) 3 _ hE (by simp [maD, h1]) (loadPool_a (S := SP C X V T f G qc n) (M := maD a d T left s) _ rfl hg hE)).mono ?_
    rintro o w1 ⟨rfl, nx, hnx, hE1⟩
    by_cases hz : poolS (f (2, 0, 0)) C.l = 0
    · have hnx := hnx hz
      subst hnx
      exact ⟨rfl, X.F, X.kq, G, _, n, by omega, .inl ⟨hz, left, s, [], .of (show (4 : Nat) ≤ 10 by decide), hE1⟩⟩
    · exact ⟨rfl, X.F, X.kq, G, _, n, by omega, .inr ⟨hz, drop hE1⟩⟩
  · have hgl : gl = [] := by unfold LeftIs at hlf; rw [if_pos (by omega)] at hlf; exact hlf
    subst hgl
    have hal : allocM C d T f = (0, { T with an := f (5, slotI T.ah, 2), apc := 5 }, f) := by unfold allocM; rw [if_neg (by omega), if_neg (by omega), if_neg (by omega), if_pos h1]
    rw [hal]
    refine (step_ay (S := SP C X V T f G qc n) (M := maD a d T left s) 4 _ hE (by simp [maD, h1]) (loadChain_a (S := SP C X V T f G qc n) (M := maD a d T left s) _ rfl hk.hw.1 hg hE)).mono ?_
    rintro o w1 ⟨rfl, hE1⟩
    exact ⟨rfl, X.F, X.kq, G, _, n, by omega, .inl ⟨rfl, left, s, [], .of (show (5 : Nat) ≤ 10 by decide), hE1⟩⟩
  · have hgl : gl = [] := by unfold LeftIs at hlf; rw [if_pos (by omega)] at hlf; exact hlf
    subst hgl
    have hal : allocM C d T f = (0, { T with ar := f (5, slotI T.ah, 1), apc := 6 }, f) := by unfold allocM; rw [if_neg (by omega), if_neg (by omega), if_neg (by omega), if_neg (by omega), if_pos h1]
    rw [hal]
    refine (step_ay (S := SP C X V T f G qc n) (M := maD a d T left s) 5 _ hE (by simp [maD, h1]) (loadRetired_a (S := SP C X V T f G qc n) (M := maD a d T left s) _ rfl hk.hw.1 hg hE)).mono ?_
    rintro o w1 ⟨rfl, hE1⟩
    exact ⟨rfl, X.F, X.kq, G, _, n, by omega, .inl ⟨rfl, left, s, [], .of (show (6 : Nat) ≤ 10 by decide), hE1⟩⟩
  · have hgl : gl = [] := by unfold LeftIs at hlf; rw [if_pos (by omega)] at hlf; exact hlf
    subst hgl
    by_cases hx : f (2, 0, 0) = T.ah
    · have hal : allocM C d T f = (decS (T.ql ++ [(slotI T.ah, epI T.ar, 0)]) T.e C.l, { T with ql := T.ql ++ [(slotI T.ah, epI T.ar, 0)], apc := decP (T.ql ++ [(slotI T.ah, epI T.ar, 0)]) T.e C.l }, swf f (2, 0, 0) T.ah (nextW T.ah (slotI T.an))) := by unfold allocM; rw [if_neg (by omega), if_neg (by omega), if_neg (by omega), if_neg (by omega), if_neg (by omega), if_pos h1, if_pos hx]
      rw [hal]
      refine (step_ay (S := SP C X V T f G qc n) (M := maD a d T left s) 6 _ hE (by simp [maD, h1]) (takeYes_a (S := SP C X V T f G qc n) (M := maD a d T left s) hx hk.hw.2.2 (Nat.le_trans hk.hl (by decide)) hk.hw.1 hk.hw.2.1 hg hk.hn hE)).mono ?_
      rintro o w1 ⟨rfl, nx, k', F', G', hnx, -, hE1⟩
      have hin := decP_in (T.ql ++ [(slotI T.ah, epI T.ar, 0)]) T.e C.l
      by_cases hz : decP (T.ql ++ [(slotI T.ah, epI T.ar, 0)]) T.e C.l = 0
      · exact ⟨rfl, F', k', G', _, n + 1, Nat.le_refl _, .inr ⟨show decS (T.ql ++ [(slotI T.ah, epI T.ar, 0)]) T.e C.l ≠ 0 by unfold decS; rw [if_pos hz]; decide, drop hE1⟩⟩
      · have hnx := hnx hz
        subst hnx
        exact ⟨rfl, F', k', G', _, n + 1, Nat.le_refl _, .inl ⟨show decS (T.ql ++ [(slotI T.ah, epI T.ar, 0)]) T.e C.l = 0 by unfold decS; rw [if_neg hz], left, s, [], .of (show decP (T.ql ++ [(slotI T.ah, epI T.ar, 0)]) T.e C.l ≤ 10 by omega), hE1⟩⟩
    · have hal : allocM C d T f = (0, { T with apc := 3 }, swf f (2, 0, 0) T.ah (nextW T.ah (slotI T.an))) := by unfold allocM; rw [if_neg (by omega), if_neg (by omega), if_neg (by omega), if_neg (by omega), if_neg (by omega), if_pos h1, if_neg hx]
      rw [hal]
      refine (step_ay (S := SP C X V T f G qc n) (M := maD a d T left s) 6 _ hE (by simp [maD, h1]) (takeNo_a (S := SP C X V T f G qc n) (M := maD a d T left s) _ rfl hx hk.hw.1 hk.hw.2.1 hg hk.hn hE)).mono ?_
      rintro o w1 ⟨rfl, G', hE1⟩
      exact ⟨rfl, X.F, X.kq, G', _, n + 1, Nat.le_refl _, .inl ⟨rfl, left, s, [], .of (show (3 : Nat) ≤ 10 by decide), hE1⟩⟩
  · obtain ⟨hl3, hl5⟩ := WD_len C d T
    by_cases h10 : T.apc = 10
    · have hgl : gl = [] := by unfold LeftIs at hlf; rw [if_pos (by omega)] at hlf; exact hlf
      subst hgl
      obtain ⟨hhs, x, y, t, hql, hx1, hx2⟩ := hk.born h10
      have hal : allocM C d T f = (lastS 0 (WD C d T).length, { T with ql := t, hs := x, apc := 11 }, upd f (5, x, 0) T.e) := by
        unfold allocM
        rw [if_neg (by omega), if_neg (by omega), if_neg (by omega), if_neg (by omega), if_neg (by omega), if_neg (by omega)]
        simp only [h10, hql, if_true, List.tail_cons, List.headD_cons]
        rfl
      have hls : lastS 0 (WD C d T).length = 0 := by unfold lastS; rw [if_neg (by omega)]
      rw [hal, hls]
      refine (step_ay (S := SP C X V T f G qc n) (M := maD a d T left s) 10 _ hE (by simp [maD, h10]) (birth_a (S := SP C X V T f G qc n) (M := maD a d T left s) x y t hql ⟨hx1, hx2⟩ hk.hs.2 hhs hk.he hk.hn hE)).mono ?_
      rintro o w1 ⟨rfl, g, c, G', hgc, hE1⟩
      obtain ⟨N, hN⟩ : ∃ N, (WD C d T).length = N + 2 := ⟨(WD C d T).length - 2, by omega⟩
      have hgc2 : N + 2 ≤ c := by rw [← hN]; exact hgc
      have hli : LeftIs C d { T with ql := t, hs := x, apc := 11 } (.slice (some ⟨g, 2, none⟩) ((WD C d T).length - 1) (c - 1)) x [lieI g (flat2 (WD C d T))] := by
        unfold LeftIs
        rw [if_neg (show ¬ (11 : Nat) ≤ 10 by decide)]
        refine ⟨g, c - 1, N, rfl, rfl, ?_, by omega, ?_⟩
        · rw [hN]
          rfl
        · show (WD C d T).length = (11 - 10) + (N + 1)
          omega
      exact ⟨rfl, X.F, X.kq, G', _, n + 1, Nat.le_refl _, .inl ⟨rfl, _, x, _, hli, hE1⟩⟩
    · have h11 : 11 ≤ T.apc := by omega
      unfold LeftIs at hlf
      rw [if_neg (by omega)] at hlf
      obtain ⟨g, c9, N, rfl, rfl, rfl, hc9, hlen⟩ := hlf
      obtain ⟨k, hk10⟩ : ∃ k, T.apc = 10 + k := ⟨T.apc - 10, by omega⟩
      have hkk : T.apc - 10 = k := by omega
      rw [hkk] at hlen hE
      obtain ⟨⟨part, word⟩, hpw⟩ : ∃ pw, (WD C d T)[k]? = some pw := ⟨_, List.getElem?_eq_getElem (by omega)⟩
      obtain ⟨hp64, hwu⟩ := WD_in hk.he hd hpw
      obtain ⟨hc0, hc1⟩ := flat2_at _ _ hpw
      have hal : allocM C d T f = (lastS k (WD C d T).length, { T with apc := T.apc + 1 }, upd f (5, T.hs, part) word) := by
        unfold allocM
        rw [if_neg (by omega), if_neg (by omega), if_neg (by omega), if_neg (by omega), if_neg (by omega), if_neg (by omega)]
        have hg : (wordsA C.k T.e d.key d.val (IntKind.u64.wrap d.lv)).getD k (0, 0) = (part, word) := by
          have h9 : (wordsA C.k T.e d.key d.val (IntKind.u64.wrap d.lv))[k]? = some (part, word) := hpw
          rw [List.getD_eq_getElem?_getD, h9]
          rfl
        simp only [hkk, hg]
        rw [if_neg (by omega)]
        rfl
      have hst := store_a (S := SP C X V T f G qc n) (M := { nx := nxA a T.apc, left := .slice (some ⟨g, 2 * k, none⟩) (N + 1) c9, k := d.ok, key := d.key, val := d.val, lv := d.lv, h := T.ah, n := T.an, r := T.ar, s := T.hs }) g (2 * k) N c9 part word hc9 hp64 hwu hk.hh hk.hn rfl hc0 hc1 hE
      rw [← fnA_store h11] at hst
      rw [hal]
      have hls : lastS k (WD C d T).length = if N = 0 then 1 else 0 := by
        unfold lastS
        by_cases hN : N = 0
        · rw [if_pos hN, if_pos (by omega)]
        · rw [if_neg hN, if_neg (by omega)]
      rw [hls]
      refine (step_ay (S := SP C X V T f G qc n) T.apc _ hE rfl hst).mono ?_
      rintro o w1 ⟨rfl, nx, left, G', hnl, hE1⟩
      by_cases hN : N = 0
      · rw [if_pos hN]
        exact ⟨rfl, X.F, X.kq, G', _, n + 1, Nat.le_refl _, .inr ⟨show (1 : Int) ≠ 0 by decide, hE1.sub (.cons _ (.cons_cons _ (.cons_cons _ (.cons_cons _ (.cons_cons _ (.cons _ (List.Sublist.refl _)))))))⟩⟩
      · obtain ⟨rfl, rfl⟩ := hnl hN
        rw [if_neg hN]
        obtain ⟨M, rfl⟩ : ∃ M, N = M + 1 := ⟨N - 1, by omega⟩
        have hli : LeftIs C d { T with apc := T.apc + 1 } (.slice (some ⟨g, 2 * k + 2, none⟩) (M + 1) (c9 - 1)) T.hs [lieI g (flat2 (WD C d T))] := by
          unfold LeftIs
          rw [if_neg (show ¬ T.apc + 1 ≤ 10 by omega)]
          refine ⟨g, c9 - 1, M, rfl, rfl, ?_, by omega, ?_⟩
          · show _ = Value.slice (some ⟨g, 2 * (T.apc + 1 - 10), none⟩) (M + 1) (c9 - 1)
            rw [show 2 * (T.apc + 1 - 10) = 2 * k + 2 by omega]
          · show (WD C d T).length = (T.apc + 1 - 10) + (M + 1)
            omega
        have hnx : nxA a T.apc = nxA a (T.apc + 1) := by
          unfold nxA
          rw [fnA_store h11, fnA_store (by omega)]
        have hE2 : Env w0 (boxI a (avD X.c a d { T with apc := T.apc + 1 } (.slice (some ⟨g, 2 * k + 2, none⟩) (M + 1) (c9 - 1)) T.hs) :: LT (SP C X V { T with apc := T.apc + 1 } (upd f (5, T.hs, part) word) G' { qc with s := wrap64 (qc.s + 1) } (n + 1)) ([lieI g (flat2 (WD C d T))] ++ R)) w1 := by
          unfold avD maD
          rw [← hnx]
          exact hE1
        exact ⟨rfl, X.F, X.kq, G', _, n + 1, Nat.le_refl _, .inl ⟨rfl, _, T.hs, _, hli, hE2⟩⟩
end
end Go.Proofs.YtmifdkbpbkafjaaGreatDoor

/- Threads, by plain mathematics: what holds of memory and of each thread, and that steps keep it. -/
namespace Go.Proofs.YtmifdkbpbkafjaaGreatDoor
open Go.RowKit Go.Maps
set_option maxRecDepth 100000

structure COk (C : Cf) : Prop where
  (s : 1 ≤ C.s ∧ C.s ≤ 8388607)
  (l : 1 ≤ C.l ∧ C.l ≤ 1099511627775)
structure OkF (C : Cf) (f : Mem) : Prop where
  (u : ∀ x, InU (f x))
  (pool : slotI (f (2, 0, 0)) ≤ C.s)
  (chain : ∀ i, slotI (f (5, i, 2)) ≤ C.s)
  (ep : f (1, 0, 0) ≤ C.l)
structure OkT (C : Cf) (ds : List Dd) (B : Nat) (T : Th) : Prop where
  (e : 0 ≤ T.e ∧ T.e ≤ C.l)
  (w : InU T.ah ∧ InU T.an ∧ InU T.ar)
  (hs : 0 ≤ T.hs ∧ T.hs ≤ C.s)
  (rs : 0 ≤ T.rs ∧ T.rs ≤ C.s)
  (ql : ∀ x ∈ T.ql, 1 ≤ x.1 ∧ x.1 ≤ C.s ∧ x.2.2 = 0)
  (nd : T.nd ≤ ds.length)
  (len : T.ql.length + (ds.length - T.nd) ≤ B)
  (done : 0 ≤ T.done ∧ T.done ≤ B)
  (pc : T.pc = 0 ∨ T.pc = 1 ∨ T.pc = 2 ∨ T.pc = 3 ∨ T.pc = 4)
  (p1 : T.pc = 1 → T.hs = 0)
  (nd1 : T.pc ≠ 0 → 1 ≤ T.nd)
  (apc : T.pc = 2 → T.apc = 1 ∨ T.apc = 2 ∨ T.apc = 3 ∨ T.apc = 4 ∨ T.apc = 5 ∨ T.apc = 6 ∨ 10 ≤ T.apc)
  (low : T.pc = 2 → T.apc ≤ 10 → T.hs = 0)
  (adv : T.pc = 2 → T.apc = 1 → T.e < C.l)
  (born : T.pc = 2 → T.apc = 10 → T.ql ≠ [])
  (pool : T.pc = 2 → 4 ≤ T.apc → T.apc ≤ 6 → 1 ≤ slotI T.ah ∧ slotI T.ah ≤ C.s ∧ verI T.ah < C.l)
  (an : slotI T.an ≤ C.s)
  (rpc : T.pc = 3 → T.rpc = 0 ∨ T.rpc = 1)
  (rsp : T.pc = 3 → 1 ≤ T.rs)
  (re : 0 ≤ T.re ∧ T.re ≤ C.l)
  (gpc : T.gpc ≤ 3)
  (give : T.pc = 4 → 1 ≤ T.gpc → T.ql ≠ [])
  (ghu : InU T.gh)
  (gh : slotI T.gh ≤ C.s)
  (gv : T.pc = 4 → 2 ≤ T.gpc → verI T.gh < C.l)

theorem no {a b : Nat} {P : Prop} (h : a = b) (hab : (a == b) = false) : P := by
  simp at hab
  exact absurd h hab
theorem slot_next {x s S : Int} (h0 : 0 ≤ S) (hs : s ≤ S) : slotI (nextW x s) ≤ S := by
  have h9 : slotI 0 = 0 := by decide
  unfold nextW
  split
  · rename_i h
    have := isS_parts h
    have hv := verI_in x
    split
    · omega
    · rw [slot_word (isL_mk this.1 this.2 (by omega) (by omega))]
      exact hs
  · omega
theorem slot_link {s S : Int} (h0 : 0 ≤ S) (hs : s ≤ S) : slotI (wordI false s 0) ≤ S := by
  have h9 : slotI 0 = 0 := by decide
  by_cases h : isL s 0 = true
  · rw [slot_word h]; exact hs
  · rw [wordI_no (by simpa using h)]; omega
theorem epI_of {x l : Int} (hx : InU x) (h : x ≤ l) (hl : l ≤ 1099511627775) : epI x = x ∧ 0 ≤ x := by
  unfold InU at hx
  unfold epI
  rw [if_pos (by omega)]
  exact ⟨rfl, by omega⟩
theorem swf_at (f : Mem) (x y : Plc) (o v : Int) : swf f x o v y = if y = x ∧ f x = o then v else f y := by
  unfold swf upd
  by_cases h : f x = o
  · rw [if_pos h]
    by_cases hy : y = x
    · rw [if_pos hy, if_pos ⟨hy, h⟩]
    · rw [if_neg hy, if_neg (fun h2 => hy h2.1)]
  · rw [if_neg h, if_neg (fun h2 => h h2.2)]
theorem part_ne (ck e key val lv : Int) (k : Nat) : ((wordsA ck e key val lv).getD k (0, 0)).1 ≠ 2 := by
  rw [List.getD_eq_getElem?_getD]
  rcases h : (wordsA ck e key val lv)[k]? with _ | ⟨a, b⟩
  · simp
  · have hm : (a, b) ∈ wordsA ck e key val lv := List.mem_of_getElem? h
    simp only [Option.getD_some]
    unfold wordsA at hm
    split at hm
    · simp at hm
      rcases hm with ⟨rfl, rfl⟩ | ⟨rfl, rfl⟩ | ⟨rfl, rfl⟩ | ⟨rfl, rfl⟩ <;> decide
    · split at hm
      · simp at hm
        rcases hm with ⟨rfl, rfl⟩ | ⟨rfl, rfl⟩ | ⟨rfl, rfl⟩ | ⟨rfl, rfl⟩ | ⟨rfl, rfl⟩ <;> decide
      · simp at hm
        rcases hm with ⟨rfl, rfl⟩ | ⟨rfl, rfl⟩ | ⟨rfl, rfl⟩ <;> decide

section
variable {C : Cf} {ds : List Dd} {B : Nat} {T : Th} {f : Mem} {d : Dd}
theorem OkT.more (h : OkT C ds B T) : OkT C ds (B + 1) T :=
  { h with len := by have := h.len; omega, done := by have := h.done; constructor <;> omega }
/-- Of another part of a slot, or of FRESH, nothing hangs on. -/
theorem OkF.upd (h : OkF C f) {x : Plc} {v : Int} (h1 : x ≠ (1, 0, 0)) (h2 : x ≠ (2, 0, 0)) (h3 : ∀ i, x = (5, i, 2) → slotI v ≤ C.s) (hu : ∀ y, InU (Proofs.YtmifdkbpbkafjaaGreatDoor.upd f x v y)) : OkF C (Proofs.YtmifdkbpbkafjaaGreatDoor.upd f x v) := by
  refine ⟨hu, ?_, ?_, ?_⟩
  · rw [upd_other f v (fun e => h2 e.symm)]; exact h.pool
  · intro i
    by_cases hx : (5, i, 2) = x
    · rw [← hx, upd_same]; exact h3 i hx.symm
    · rw [upd_other f v hx]; exact h.chain i
  · rw [upd_other f v (fun e => h1 e.symm)]; exact h.ep
theorem OkF.swp (h : OkF C f) {o v : Int} (hv : slotI v ≤ C.s) (hu : ∀ y, InU (swf f (2, 0, 0) o v y)) : OkF C (swf f (2, 0, 0) o v) := by
  refine ⟨hu, ?_, ?_, ?_⟩
  · rw [swf_at]; split
    · exact hv
    · exact h.pool
  · intro i
    rw [swf_at, if_neg (by simp)]; exact h.chain i
  · rw [swf_at, if_neg (by simp)]; exact h.ep
theorem OkF.swe (h : OkF C f) {o v : Int} (hv : v ≤ C.l) (hu : ∀ y, InU (swf f (1, 0, 0) o v y)) : OkF C (swf f (1, 0, 0) o v) := by
  refine ⟨hu, ?_, ?_, ?_⟩
  · rw [swf_at, if_neg (by simp)]; exact h.pool
  · intro i
    rw [swf_at, if_neg (by simp)]; exact h.chain i
  · rw [swf_at]; split
    · exact hv
    · exact h.ep

/-- A deed begins. -/
theorem begin_ok (k : Nat) : ∀ (r : List Dd) (T : Th), r = ds.drop T.nd → OkT C ds B T → T.pc = 0 → OkT C ds B (beginM r T).2 ∧ (beginM r T).2.pc = (if (beginM r T).1 then (beginM r T).2.pc else 0) ∧ ((beginM r T).1 = true → (beginM r T).2.pc = 1 ∨ (beginM r T).2.pc = 3 ∨ (beginM r T).2.pc = 4)
  | [], T, _, hT, hp => ⟨hT, by simp [beginM, hp], by simp [beginM]⟩
  | d :: r, T, hr, hT, hp => by
    have hlt : T.nd < ds.length := by
      have : (ds.drop T.nd).length = r.length + 1 := by rw [← hr]; rfl
      simp at this
      omega
    have hr' : r = ds.drop (T.nd + 1) := by
      rw [← List.drop_drop, ← hr]; rfl
    have hb := hT.len
    have hskip : OkT C ds B { T with nd := T.nd + 1 } := { hT with nd := hlt, len := (by show T.ql.length + (ds.length - (T.nd + 1)) ≤ B; omega), nd1 := fun _ => Nat.le_add_left 1 T.nd }
    have go := begin_ok k r { T with nd := T.nd + 1 } hr' hskip hp
    have h64 := hT.hs
    by_cases h1 : d.kind = 1 ∨ d.kind = 2 ∨ d.kind = 3
    · by_cases hz : T.hs = 0
      · rw [bm1 h1 hz]
        refine ⟨{ hskip with pc := .inr (.inl rfl), p1 := fun _ => hz, nd1 := fun _ => Nat.le_add_left 1 T.nd, apc := fun h => no h rfl, low := fun h => no h rfl, adv := fun h => no h rfl, born := fun h => no h rfl, pool := fun h => no h rfl, rpc := fun h => no h rfl, rsp := fun h => no h rfl, give := fun h => no h rfl, gv := fun h => no h rfl }, by simp, fun _ => .inl rfl⟩
      · rw [bm1c h1 hz]
        exact go
    · by_cases h4 : d.kind = 4 ∨ d.kind = 5
      · by_cases hz : T.hs = 0
        · rw [bm4c h1 h4 hz]
          exact go
        · rw [bm4 h1 h4 hz]
          refine ⟨{ hskip with hs := (by show (0 : Int) ≤ 0 ∧ (0 : Int) ≤ C.s; omega), rs := h64, re := (by have := hT.e; show (0 : Int) ≤ 0 ∧ (0 : Int) ≤ C.l; omega), pc := .inr (.inr (.inr (.inl rfl))), p1 := fun _ => rfl, nd1 := fun _ => Nat.le_add_left 1 T.nd, apc := fun h => no h rfl, low := fun h => no h rfl, adv := fun h => no h rfl, born := fun h => no h rfl, pool := fun h => no h rfl, rpc := fun _ => .inl rfl, rsp := fun _ => (by show 1 ≤ T.hs; omega), give := fun h => no h rfl, gv := fun h => no h rfl }, by simp, fun _ => .inr (.inl rfl)⟩
      · by_cases h6 : d.kind = 6
        · rw [bm6 h6]
          refine ⟨{ hskip with pc := .inr (.inr (.inr (.inr rfl))), p1 := fun h => no h rfl, nd1 := fun _ => Nat.le_add_left 1 T.nd, apc := fun h => no h rfl, low := fun h => no h rfl, adv := fun h => no h rfl, born := fun h => no h rfl, pool := fun h => no h rfl, rpc := fun h => no h rfl, rsp := fun h => no h rfl, gpc := Nat.zero_le 3, ghu := (by show InU 0; unfold InU; omega), gh := (by show slotI 0 ≤ C.s; rw [show slotI 0 = 0 from by decide]; omega), give := fun _ h => (Nat.not_succ_le_zero _ h).elim, gv := fun _ h => (Nat.not_succ_le_zero _ h).elim }, by simp, fun _ => .inr (.inr rfl)⟩
        · by_cases h7 : d.kind = 7
          · by_cases hz : T.hs = 0
            · rw [bm7c h7 hz]
              exact go
            · rw [bm7 h7 hz]
              refine begin_ok k r { T with nd := T.nd + 1, ql := T.ql ++ [(T.hs, 0, 0)], hs := 0 } hr' { hskip with hs := (by show (0 : Int) ≤ 0 ∧ (0 : Int) ≤ C.s; omega), ql := ?_, len := ?_, p1 := fun _ => rfl, low := fun _ _ => rfl, born := fun _ _ => by simp, give := fun _ _ => by simp } hp
              · intro x hx
                rcases List.mem_append.1 hx with hx | hx
                · exact hT.ql x hx
                · simp at hx
                  subst hx
                  exact ⟨by show 1 ≤ T.hs; omega, h64.2, rfl⟩
              · show (T.ql ++ [(T.hs, 0, 0)]).length + (ds.length - (T.nd + 1)) ≤ B
                simp
                omega
          · rw [bmO (by omega)]
            exact go
end
end Go.Proofs.YtmifdkbpbkafjaaGreatDoor

/- Threads, by plain mathematics: what is kept by a step. -/
namespace Go.Proofs.YtmifdkbpbkafjaaGreatDoor
open Go.RowKit Go.Maps
set_option maxRecDepth 100000

theorem decP_adv {ql : List Trip} {e l : Int} (h : decP ql e l = 1) : e < l := by
  rcases ql with _ | ⟨⟨x, y, z⟩, t⟩
  · exact no h rfl
  · simp only [decP] at h
    split at h
    · exact absurd h (by decide)
    · split at h
      · exact absurd h (by decide)
      · omega
theorem decP_born {ql : List Trip} {e l : Int} (h : decP ql e l = 10) : ql ≠ [] := by
  rintro rfl
  exact no h rfl
theorem decP_head {ql : List Trip} {e l : Int} (h : decP ql e l = 10) : ∃ x y z t, ql = (x, y, z) :: t ∧ y < e := by
  rcases ql with _ | ⟨⟨x, y, z⟩, t⟩
  · exact no h rfl
  · simp only [decP] at h
    split at h
    · rename_i h9
      exact ⟨x, y, z, t, rfl, h9⟩
    · split at h <;> exact absurd h (by decide)
theorem lastS_in (k n : Nat) : lastS k n = 0 ∨ lastS k n = 1 := by
  unfold lastS
  split
  · exact .inr rfl
  · exact .inl rfl
theorem decS_in {ql : List Trip} {e l : Int} : (decP ql e l = 0 ∧ decS ql e l = 4) ∨ (decP ql e l ≠ 0 ∧ decS ql e l = 0) := by
  unfold decS
  by_cases h : decP ql e l = 0
  · exact .inl ⟨h, if_pos h⟩
  · exact .inr ⟨h, if_neg h⟩
theorem gdS_in (ql : List Trip) : (ql = [] ∧ gdS ql = 1) ∨ (ql ≠ [] ∧ gdS ql = 0) := by
  rcases ql with _ | ⟨x, t⟩
  · exact .inl ⟨rfl, rfl⟩
  · exact .inr ⟨by simp, rfl⟩
theorem ql_add {C : Cf} {l : List Trip} {x y : Int} (h : ∀ z ∈ l, 1 ≤ z.1 ∧ z.1 ≤ C.s ∧ z.2.2 = 0) (h1 : 1 ≤ x) (h2 : x ≤ C.s) : ∀ z ∈ l ++ [(x, y, 0)], 1 ≤ z.1 ∧ z.1 ≤ C.s ∧ z.2.2 = 0 := by
  intro z hz
  rcases List.mem_append.1 hz with hz | hz
  · exact h z hz
  · simp at hz
    subst hz
    exact ⟨h1, h2, rfl⟩

section
variable {C : Cf} {ds : List Dd} {B : Nat} {T : Th} {f : Mem} {d : Dd}
theorem al_cases (C : Cf) (d : Dd) (T : Th) (f : Mem) (hp : T.pc = 2) : actM C d T f = ({ (allocM C d T f).2.1 with pc := if (allocM C d T f).1 = 2 then 1 else if (allocM C d T f).1 = 0 then 2 else 0, done := if (allocM C d T f).1 = 1 then T.done + 1 else T.done, full := (allocM C d T f).1 == 3 }, (allocM C d T f).2.2) := by
  unfold actM
  rw [if_neg (by omega), if_pos hp]
set_option maxHeartbeats 1600000 in
theorem act1_ok (hC : COk C) (hF : OkF C f) (hT : OkT C ds B T) (h1 : T.pc = 1) : OkF C (actM C d T f).2 ∧ OkT C ds (B + 1) (actM C d T f).1 := by
  have hp : T.pc ≠ 0 := by omega
  have hm := hT.more
  have hz : slotI 0 = 0 := by decide
  have hu0 : InU 0 := by unfold InU; omega
  have hs := hC.s
  have he := epI_of (hF.u (1, 0, 0)) hF.ep hC.l.2
  have he9 : 0 ≤ epI (f (1, 0, 0)) ∧ epI (f (1, 0, 0)) ≤ C.l := by rw [he.1]; exact ⟨he.2, hF.ep⟩
  unfold actM
  rw [if_pos h1]
  dsimp only
  generalize epI (f (1, 0, 0)) = e at he9
  by_cases hD : decP T.ql e C.l = 0
  · rw [if_pos hD]
    exact ⟨hF, { hm with e := he9, w := ⟨hu0, hu0, hu0⟩, an := (by show slotI 0 ≤ C.s; omega), pc := .inl rfl, nd1 := fun _ => hT.nd1 hp, p1 := fun h => no h rfl, apc := fun h => no h rfl, low := fun h => no h rfl, adv := fun h => no h rfl, born := fun h => no h rfl, pool := fun h => no h rfl, rpc := fun h => no h rfl, rsp := fun h => no h rfl, give := fun h => no h rfl, gv := fun h => no h rfl }⟩
  · rw [if_neg hD]
    refine ⟨hF, { hm with e := he9, w := ⟨hu0, hu0, hu0⟩, an := (by show slotI 0 ≤ C.s; omega), pc := .inr (.inr (.inl rfl)), nd1 := fun _ => hT.nd1 hp, p1 := fun h => no h rfl, rpc := fun h => no h rfl, rsp := fun h => no h rfl, give := fun h => no h rfl, gv := fun h => no h rfl, apc := fun _ => ?_, low := fun _ _ => hT.p1 h1, adv := fun _ h => decP_adv h, born := fun _ h => decP_born h, pool := fun _ ha hb => ?_ }⟩
    · show decP T.ql e C.l = 1 ∨ decP T.ql e C.l = 2 ∨ decP T.ql e C.l = 3 ∨ decP T.ql e C.l = 4 ∨ decP T.ql e C.l = 5 ∨ decP T.ql e C.l = 6 ∨ 10 ≤ decP T.ql e C.l
      rcases decP_in T.ql e C.l with h | h | h | h <;> omega
    · have ha' : 4 ≤ decP T.ql e C.l := ha
      have hb' : decP T.ql e C.l ≤ 6 := hb
      rcases decP_in T.ql e C.l with h | h | h | h <;> omega
set_option maxHeartbeats 3200000 in
theorem act2_ok (hC : COk C) (hF : OkF C f) (hT : OkT C ds B T) (h2 : T.pc = 2) (hu : ∀ x, InU ((actM C d T f).2 x)) : OkF C (actM C d T f).2 ∧ OkT C ds (B + 1) (actM C d T f).1 := by
  have hp : T.pc ≠ 0 := by omega
  have hm := hT.more
  have hs := hC.s
  have hfu := hF.u
  have hdone := hT.done
  rw [al_cases C d T f h2] at hu ⊢
  rcases hT.apc h2 with ha | ha | ha | ha | ha | ha | ha
  · have hlow := hT.low h2 (by omega)
    have hal : allocM C d T f = (2, T, swf f (1, 0, 0) T.e (T.e + 1)) := by unfold allocM; rw [if_pos ha]
    rw [hal] at hu ⊢
    exact ⟨hF.swe (by have := hT.adv h2 ha; omega) hu, { hm with pc := .inr (.inl rfl), p1 := fun _ => hlow, nd1 := fun _ => hT.nd1 hp, apc := fun h => no h rfl, low := fun h => no h rfl, adv := fun h => no h rfl, born := fun h => no h rfl, pool := fun h => no h rfl, rpc := fun h => no h rfl, rsp := fun h => no h rfl, give := fun h => no h rfl, gv := fun h => no h rfl }⟩
  · have hlow := hT.low h2 (by omega)
    by_cases hx : C.s ≤ f (3, 0, 0)
    · have hal : allocM C d T f = (0, { T with apc := 3 }, upd f (3, 0, 0) (IntKind.u64.wrap (f (3, 0, 0) + 1))) := by unfold allocM; rw [if_neg (by omega), if_pos ha, if_pos hx]
      rw [hal] at hu ⊢
      exact ⟨hF.upd (by simp) (by simp) (fun i h => by simp at h) hu, { hm with pc := .inr (.inr (.inl rfl)), nd1 := fun _ => hT.nd1 hp, p1 := fun h => no h rfl, rpc := fun h => no h rfl, rsp := fun h => no h rfl, give := fun h => no h rfl, gv := fun h => no h rfl, apc := fun _ => .inr (.inr (.inl rfl)), low := fun _ _ => hlow, adv := fun _ h => no h rfl, born := fun _ h => no h rfl, pool := fun _ ha hb => (by have ha' : 4 ≤ (3 : Nat) := ha; have hb' : (3 : Nat) ≤ 6 := hb; omega) }⟩
    · have hal : allocM C d T f = (decS (T.ql ++ [(f (3, 0, 0) + 1, 0, 0)]) T.e C.l, { T with ql := T.ql ++ [(f (3, 0, 0) + 1, 0, 0)], apc := decP (T.ql ++ [(f (3, 0, 0) + 1, 0, 0)]) T.e C.l }, upd f (3, 0, 0) (IntKind.u64.wrap (f (3, 0, 0) + 1))) := by unfold allocM; rw [if_neg (by omega), if_pos ha, if_neg hx]
      rw [hal] at hu ⊢
      have hf3 : 0 ≤ f (3, 0, 0) := (hfu _).1
      refine ⟨hF.upd (by simp) (by simp) (fun i h => by simp at h) hu, ?_⟩
      clear hu hal
      have hq := ql_add (y := 0) hT.ql (show 1 ≤ f (3, 0, 0) + 1 by omega) (by omega)
      rcases decS_in (ql := T.ql ++ [(f (3, 0, 0) + 1, 0, 0)]) (e := T.e) (l := C.l) with ⟨hD, hS⟩ | ⟨hD, hS⟩
      · rw [hS]
        exact { hm with ql := hq, len := (by have := hT.len; simp; omega), pc := .inl rfl, nd1 := fun _ => hT.nd1 hp, p1 := fun h => no h rfl, apc := fun h => no h rfl, low := fun h => no h rfl, adv := fun h => no h rfl, born := fun h => no h rfl, pool := fun h => no h rfl, rpc := fun h => no h rfl, rsp := fun h => no h rfl, give := fun h => no h rfl, gv := fun h => no h rfl }
      · rw [hS]
        refine { hm with ql := hq, len := (by have := hT.len; simp; omega), pc := .inr (.inr (.inl rfl)), nd1 := fun _ => hT.nd1 hp, p1 := fun h => no h rfl, rpc := fun h => no h rfl, rsp := fun h => no h rfl, give := fun h => no h rfl, gv := fun h => no h rfl, apc := fun _ => ?_, low := fun _ _ => hlow, adv := fun _ h => decP_adv h, born := fun _ h => decP_born h, pool := fun _ ha hb => ?_ }
        · show decP (T.ql ++ [(f (3, 0, 0) + 1, 0, 0)]) T.e C.l = 1 ∨ decP (T.ql ++ [(f (3, 0, 0) + 1, 0, 0)]) T.e C.l = 2 ∨ decP (T.ql ++ [(f (3, 0, 0) + 1, 0, 0)]) T.e C.l = 3 ∨ decP (T.ql ++ [(f (3, 0, 0) + 1, 0, 0)]) T.e C.l = 4 ∨ decP (T.ql ++ [(f (3, 0, 0) + 1, 0, 0)]) T.e C.l = 5 ∨ decP (T.ql ++ [(f (3, 0, 0) + 1, 0, 0)]) T.e C.l = 6 ∨ 10 ≤ decP (T.ql ++ [(f (3, 0, 0) + 1, 0, 0)]) T.e C.l
          rcases decP_in (T.ql ++ [(f (3, 0, 0) + 1, 0, 0)]) T.e C.l with h | h | h | h <;> omega
        · have ha' : 4 ≤ decP (T.ql ++ [(f (3, 0, 0) + 1, 0, 0)]) T.e C.l := ha
          have hb' : decP (T.ql ++ [(f (3, 0, 0) + 1, 0, 0)]) T.e C.l ≤ 6 := hb
          rcases decP_in (T.ql ++ [(f (3, 0, 0) + 1, 0, 0)]) T.e C.l with h | h | h | h <;> omega

  · have hlow := hT.low h2 (by omega)
    have hal : allocM C d T f = (poolS (f (2, 0, 0)) C.l, { T with ah := f (2, 0, 0), apc := 4 }, f) := by unfold allocM; rw [if_neg (by omega), if_neg (by omega), if_pos ha]
    rw [hal] at hu ⊢
    refine ⟨hF, ?_⟩
    have hw : InU (f (2, 0, 0)) ∧ InU T.an ∧ InU T.ar := ⟨hfu _, hT.w.2⟩
    by_cases q1 : slotI (f (2, 0, 0)) = 0
    · rw [show poolS (f (2, 0, 0)) C.l = 3 from if_pos q1]
      exact { hm with w := hw, pc := .inl rfl, nd1 := fun _ => hT.nd1 hp, p1 := fun h => no h rfl, apc := fun h => no h rfl, low := fun h => no h rfl, adv := fun h => no h rfl, born := fun h => no h rfl, pool := fun h => no h rfl, rpc := fun h => no h rfl, rsp := fun h => no h rfl, give := fun h => no h rfl, gv := fun h => no h rfl }
    · by_cases q2 : C.l ≤ verI (f (2, 0, 0))
      · rw [show poolS (f (2, 0, 0)) C.l = 4 from (if_neg q1).trans (if_pos q2)]
        exact { hm with w := hw, pc := .inl rfl, nd1 := fun _ => hT.nd1 hp, p1 := fun h => no h rfl, apc := fun h => no h rfl, low := fun h => no h rfl, adv := fun h => no h rfl, born := fun h => no h rfl, pool := fun h => no h rfl, rpc := fun h => no h rfl, rsp := fun h => no h rfl, give := fun h => no h rfl, gv := fun h => no h rfl }
      · rw [show poolS (f (2, 0, 0)) C.l = 0 from (if_neg q1).trans (if_neg q2)]
        exact { hm with w := hw, pc := .inr (.inr (.inl rfl)), nd1 := fun _ => hT.nd1 hp, p1 := fun h => no h rfl, rpc := fun h => no h rfl, rsp := fun h => no h rfl, give := fun h => no h rfl, gv := fun h => no h rfl, apc := fun _ => .inr (.inr (.inr (.inl rfl))), low := fun _ _ => hlow, adv := fun _ h => no h rfl, born := fun _ h => no h rfl, pool := fun _ _ _ => ⟨(by have := slotI_in (f (2, 0, 0)); show 1 ≤ slotI (f (2, 0, 0)); omega), hF.pool, (by show verI (f (2, 0, 0)) < C.l; omega)⟩ }
  · have hlow := hT.low h2 (by omega)
    have hal : allocM C d T f = (0, { T with an := f (5, slotI T.ah, 2), apc := 5 }, f) := by unfold allocM; rw [if_neg (by omega), if_neg (by omega), if_neg (by omega), if_pos ha]
    rw [hal] at hu ⊢
    exact ⟨hF, { hm with w := ⟨hT.w.1, hfu _, hT.w.2.2⟩, an := hF.chain _, pc := .inr (.inr (.inl rfl)), nd1 := fun _ => hT.nd1 hp, p1 := fun h => no h rfl, rpc := fun h => no h rfl, rsp := fun h => no h rfl, give := fun h => no h rfl, gv := fun h => no h rfl, apc := fun _ => .inr (.inr (.inr (.inr (.inl rfl)))), low := fun _ _ => hlow, adv := fun _ h => no h rfl, born := fun _ h => no h rfl, pool := fun _ _ _ => hT.pool h2 (by omega) (by omega) }⟩
  · have hlow := hT.low h2 (by omega)
    have hal : allocM C d T f = (0, { T with ar := f (5, slotI T.ah, 1), apc := 6 }, f) := by unfold allocM; rw [if_neg (by omega), if_neg (by omega), if_neg (by omega), if_neg (by omega), if_pos ha]
    rw [hal] at hu ⊢
    exact ⟨hF, { hm with w := ⟨hT.w.1, hT.w.2.1, hfu _⟩, pc := .inr (.inr (.inl rfl)), nd1 := fun _ => hT.nd1 hp, p1 := fun h => no h rfl, rpc := fun h => no h rfl, rsp := fun h => no h rfl, give := fun h => no h rfl, gv := fun h => no h rfl, apc := fun _ => .inr (.inr (.inr (.inr (.inr (.inl rfl))))), low := fun _ _ => hlow, adv := fun _ h => no h rfl, born := fun _ h => no h rfl, pool := fun _ _ _ => hT.pool h2 (by omega) (by omega) }⟩
  · have hlow := hT.low h2 (by omega)
    have hpl := hT.pool h2 (by omega) (by omega)
    by_cases hx : f (2, 0, 0) = T.ah
    · have hal : allocM C d T f = (decS (T.ql ++ [(slotI T.ah, epI T.ar, 0)]) T.e C.l, { T with ql := T.ql ++ [(slotI T.ah, epI T.ar, 0)], apc := decP (T.ql ++ [(slotI T.ah, epI T.ar, 0)]) T.e C.l }, swf f (2, 0, 0) T.ah (nextW T.ah (slotI T.an))) := by unfold allocM; rw [if_neg (by omega), if_neg (by omega), if_neg (by omega), if_neg (by omega), if_neg (by omega), if_pos ha, if_pos hx]
      rw [hal] at hu ⊢
      refine ⟨hF.swp (slot_next (by omega) hT.an) hu, ?_⟩
      clear hu hal
      have hq := ql_add (y := epI T.ar) hT.ql hpl.1 hpl.2.1
      rcases decS_in (ql := T.ql ++ [(slotI T.ah, epI T.ar, 0)]) (e := T.e) (l := C.l) with ⟨hD, hS⟩ | ⟨hD, hS⟩
      · rw [hS]
        exact { hm with ql := hq, len := (by have := hT.len; simp; omega), pc := .inl rfl, nd1 := fun _ => hT.nd1 hp, p1 := fun h => no h rfl, apc := fun h => no h rfl, low := fun h => no h rfl, adv := fun h => no h rfl, born := fun h => no h rfl, pool := fun h => no h rfl, rpc := fun h => no h rfl, rsp := fun h => no h rfl, give := fun h => no h rfl, gv := fun h => no h rfl }
      · rw [hS]
        refine { hm with ql := hq, len := (by have := hT.len; simp; omega), pc := .inr (.inr (.inl rfl)), nd1 := fun _ => hT.nd1 hp, p1 := fun h => no h rfl, rpc := fun h => no h rfl, rsp := fun h => no h rfl, give := fun h => no h rfl, gv := fun h => no h rfl, apc := fun _ => ?_, low := fun _ _ => hlow, adv := fun _ h => decP_adv h, born := fun _ h => decP_born h, pool := fun _ ha hb => ?_ }
        · show decP (T.ql ++ [(slotI T.ah, epI T.ar, 0)]) T.e C.l = 1 ∨ decP (T.ql ++ [(slotI T.ah, epI T.ar, 0)]) T.e C.l = 2 ∨ decP (T.ql ++ [(slotI T.ah, epI T.ar, 0)]) T.e C.l = 3 ∨ decP (T.ql ++ [(slotI T.ah, epI T.ar, 0)]) T.e C.l = 4 ∨ decP (T.ql ++ [(slotI T.ah, epI T.ar, 0)]) T.e C.l = 5 ∨ decP (T.ql ++ [(slotI T.ah, epI T.ar, 0)]) T.e C.l = 6 ∨ 10 ≤ decP (T.ql ++ [(slotI T.ah, epI T.ar, 0)]) T.e C.l
          rcases decP_in (T.ql ++ [(slotI T.ah, epI T.ar, 0)]) T.e C.l with h | h | h | h <;> omega
        · have ha' : 4 ≤ decP (T.ql ++ [(slotI T.ah, epI T.ar, 0)]) T.e C.l := ha
          have hb' : decP (T.ql ++ [(slotI T.ah, epI T.ar, 0)]) T.e C.l ≤ 6 := hb
          rcases decP_in (T.ql ++ [(slotI T.ah, epI T.ar, 0)]) T.e C.l with h | h | h | h <;> omega

    · have hal : allocM C d T f = (0, { T with apc := 3 }, swf f (2, 0, 0) T.ah (nextW T.ah (slotI T.an))) := by unfold allocM; rw [if_neg (by omega), if_neg (by omega), if_neg (by omega), if_neg (by omega), if_neg (by omega), if_pos ha, if_neg hx]
      rw [hal] at hu ⊢
      exact ⟨hF.swp (slot_next (by omega) hT.an) hu, { hm with pc := .inr (.inr (.inl rfl)), nd1 := fun _ => hT.nd1 hp, p1 := fun h => no h rfl, rpc := fun h => no h rfl, rsp := fun h => no h rfl, give := fun h => no h rfl, gv := fun h => no h rfl, apc := fun _ => .inr (.inr (.inl rfl)), low := fun _ _ => hlow, adv := fun _ h => no h rfl, born := fun _ h => no h rfl, pool := fun _ ha hb => (by have ha' : 4 ≤ (3 : Nat) := ha; have hb' : (3 : Nat) ≤ 6 := hb; omega) }⟩
  · by_cases h10 : T.apc = 10
    · have hal : allocM C d T f = (lastS 0 (wordsA C.k T.e d.key d.val (IntKind.u64.wrap d.lv)).length, { T with ql := T.ql.tail, hs := (T.ql.headD t0).1, apc := 11 }, upd f (5, (T.ql.headD t0).1, ((wordsA C.k T.e d.key d.val (IntKind.u64.wrap d.lv)).getD (T.apc - 10) (0, 0)).1) ((wordsA C.k T.e d.key d.val (IntKind.u64.wrap d.lv)).getD (T.apc - 10) (0, 0)).2) := by unfold allocM; rw [if_neg (by omega), if_neg (by omega), if_neg (by omega), if_neg (by omega), if_neg (by omega), if_neg (by omega)]; dsimp only; rw [if_pos h10]
      rw [hal] at hu ⊢
      obtain ⟨x, t, hxt⟩ : ∃ x t, T.ql = x :: t := by
        rcases hq : T.ql with _ | ⟨x, t⟩
        · exact absurd hq (hT.born h2 h10)
        · exact ⟨x, t, rfl⟩
      have hpn := part_ne C.k T.e d.key d.val (IntKind.u64.wrap d.lv) (T.apc - 10)
      refine ⟨hF.upd (by simp) (by simp) (fun i h => by simp at h; exact absurd h.2 hpn) hu, ?_⟩
      have hxx := hT.ql x (by rw [hxt]; simp)
      have hqt : ∀ z ∈ T.ql.tail, 1 ≤ z.1 ∧ z.1 ≤ C.s ∧ z.2.2 = 0 := fun z hz => hT.ql z (List.mem_of_mem_tail hz)
      have hhs : 0 ≤ (T.ql.headD t0).1 ∧ (T.ql.headD t0).1 ≤ C.s := by rw [hxt]; exact ⟨by show 0 ≤ x.1; omega, hxx.2.1⟩
      have hln : T.ql.tail.length + (ds.length - T.nd) ≤ B + 1 := by have := hT.len; simp; omega
      rcases lastS_in 0 (wordsA C.k T.e d.key d.val (IntKind.u64.wrap d.lv)).length with h | h <;> rw [h]
      · exact { hm with hs := hhs, ql := hqt, len := hln, pc := .inr (.inr (.inl rfl)), nd1 := fun _ => hT.nd1 hp, p1 := fun h => no h rfl, rpc := fun h => no h rfl, rsp := fun h => no h rfl, give := fun h => no h rfl, gv := fun h => no h rfl, apc := fun _ => .inr (.inr (.inr (.inr (.inr (.inr (by show (10 : Nat) ≤ 11; decide)))))), low := fun _ h => absurd h (by show ¬ (11 : Nat) ≤ 10; decide), adv := fun _ h => no h rfl, born := fun _ h => no h rfl, pool := fun _ ha hb => (by have ha' : 4 ≤ (11 : Nat) := ha; have hb' : (11 : Nat) ≤ 6 := hb; omega) }
      · exact { hm with hs := hhs, ql := hqt, len := hln, done := (by show 0 ≤ T.done + 1 ∧ T.done + 1 ≤ ((B + 1 : Nat) : Int); omega), pc := .inl rfl, nd1 := fun _ => hT.nd1 hp, p1 := fun h => no h rfl, apc := fun h => no h rfl, low := fun h => no h rfl, adv := fun h => no h rfl, born := fun h => no h rfl, pool := fun h => no h rfl, rpc := fun h => no h rfl, rsp := fun h => no h rfl, give := fun h => no h rfl, gv := fun h => no h rfl }
    · have hal : allocM C d T f = (lastS (T.apc - 10) (wordsA C.k T.e d.key d.val (IntKind.u64.wrap d.lv)).length, { T with apc := T.apc + 1 }, upd f (5, T.hs, ((wordsA C.k T.e d.key d.val (IntKind.u64.wrap d.lv)).getD (T.apc - 10) (0, 0)).1) ((wordsA C.k T.e d.key d.val (IntKind.u64.wrap d.lv)).getD (T.apc - 10) (0, 0)).2) := by unfold allocM; rw [if_neg (by omega), if_neg (by omega), if_neg (by omega), if_neg (by omega), if_neg (by omega), if_neg (by omega)]; dsimp only; rw [if_neg h10]
      rw [hal] at hu ⊢
      have hpn := part_ne C.k T.e d.key d.val (IntKind.u64.wrap d.lv) (T.apc - 10)
      refine ⟨hF.upd (by simp) (by simp) (fun i h => by simp at h; exact absurd h.2 hpn) hu, ?_⟩
      rcases lastS_in (T.apc - 10) (wordsA C.k T.e d.key d.val (IntKind.u64.wrap d.lv)).length with h | h <;> rw [h]
      · exact { hm with pc := .inr (.inr (.inl rfl)), nd1 := fun _ => hT.nd1 hp, p1 := fun h => no h rfl, rpc := fun h => no h rfl, rsp := fun h => no h rfl, give := fun h => no h rfl, gv := fun h => no h rfl, apc := fun _ => .inr (.inr (.inr (.inr (.inr (.inr (by show 10 ≤ T.apc + 1; omega)))))), low := fun _ h => (by have h' : T.apc + 1 ≤ 10 := h; omega), adv := fun _ h => (by have h' : T.apc + 1 = 1 := h; omega), born := fun _ h => (by have h' : T.apc + 1 = 10 := h; omega), pool := fun _ ha hb => (by have ha' : 4 ≤ (T.apc + 1 : Nat) := ha; have hb' : (T.apc + 1 : Nat) ≤ 6 := hb; omega) }
      · exact { hm with done := (by show 0 ≤ T.done + 1 ∧ T.done + 1 ≤ ((B + 1 : Nat) : Int); omega), pc := .inl rfl, nd1 := fun _ => hT.nd1 hp, p1 := fun h => no h rfl, apc := fun h => no h rfl, low := fun h => no h rfl, adv := fun h => no h rfl, born := fun h => no h rfl, pool := fun h => no h rfl, rpc := fun h => no h rfl, rsp := fun h => no h rfl, give := fun h => no h rfl, gv := fun h => no h rfl }
set_option maxHeartbeats 1600000 in
theorem act3_ok (hC : COk C) (hF : OkF C f) (hT : OkT C ds B T) (h3 : T.pc = 3) (hu : ∀ x, InU ((actM C d T f).2 x)) : OkF C (actM C d T f).2 ∧ OkT C ds (B + 1) (actM C d T f).1 := by
  have hp : T.pc ≠ 0 := by omega
  have hm := hT.more
  have hs := hC.s
  have hact : actM C d T f = ({ (retireM T f).2.1 with pc := if (retireM T f).1 = 0 then 3 else 0, full := false }, (retireM T f).2.2) := by
    unfold actM
    rw [if_neg (by omega), if_neg (by omega), if_pos h3]
  rw [hact] at hu ⊢
  rcases hT.rpc h3 with hr | hr
  · have hal : retireM T f = (0, { T with re := f (1, 0, 0), rpc := 1 }, f) := by unfold retireM; rw [if_pos hr]
    rw [hal] at hu ⊢
    exact ⟨hF, { hm with re := ⟨(hF.u _).1, hF.ep⟩, pc := .inr (.inr (.inr (.inl rfl))), nd1 := fun _ => hT.nd1 hp, p1 := fun h => no h rfl, apc := fun h => no h rfl, low := fun h => no h rfl, adv := fun h => no h rfl, born := fun h => no h rfl, pool := fun h => no h rfl, give := fun h => no h rfl, gv := fun h => no h rfl, rpc := fun _ => .inr rfl, rsp := fun _ => hT.rsp h3 }⟩
  · have hal : retireM T f = (1, { T with ql := T.ql ++ [(T.rs, epI T.re, 0)] }, upd f (5, T.rs, 1) T.re) := by unfold retireM; rw [if_neg (by omega)]
    rw [hal] at hu ⊢
    exact ⟨hF.upd (by simp) (by simp) (fun i h => by simp at h) hu, { hm with ql := ql_add hT.ql (hT.rsp h3) hT.rs.2, len := (by have := hT.len; simp; omega), pc := .inl rfl, nd1 := fun _ => hT.nd1 hp, p1 := fun h => no h rfl, apc := fun h => no h rfl, low := fun h => no h rfl, adv := fun h => no h rfl, born := fun h => no h rfl, pool := fun h => no h rfl, rpc := fun h => no h rfl, rsp := fun h => no h rfl, give := fun h => no h rfl, gv := fun h => no h rfl }⟩
set_option maxHeartbeats 1600000 in
theorem act4_ok (hC : COk C) (hF : OkF C f) (hT : OkT C ds B T) (h4 : T.pc = 4) (hu : ∀ x, InU ((actM C d T f).2 x)) : OkF C (actM C d T f).2 ∧ OkT C ds (B + 1) (actM C d T f).1 := by
  have hp : T.pc ≠ 0 := by omega
  have hm := hT.more
  have hs := hC.s
  have hact : actM C d T f = ({ (giveM C T f).2.1 with pc := if (giveM C T f).1 = 0 then 4 else 0, full := false }, (giveM C T f).2.2) := by
    unfold actM
    rw [if_neg (by omega), if_neg (by omega), if_neg (by omega)]
  rw [hact] at hu ⊢
  have he := epI_of (hF.u (1, 0, 0)) hF.ep hC.l.2
  have he9 : 0 ≤ epI (f (1, 0, 0)) ∧ epI (f (1, 0, 0)) ≤ C.l := by rw [he.1]; exact ⟨he.2, hF.ep⟩
  rcases (show T.gpc = 0 ∨ T.gpc = 1 ∨ T.gpc = 2 ∨ T.gpc = 3 by have := hT.gpc; omega) with hr | hr | hr | hr
  · have hal : giveM C T f = (gdS T.ql, { T with e := epI (f (1, 0, 0)), gpc := 1 }, f) := by unfold giveM; rw [if_pos hr]
    rw [hal] at hu ⊢
    refine ⟨hF, ?_⟩
    rcases gdS_in T.ql with ⟨hq, hS⟩ | ⟨hq, hS⟩ <;> rw [hS]
    · exact { hm with e := he9, gpc := (by show (1 : Nat) ≤ 3; decide), pc := .inl rfl, nd1 := fun _ => hT.nd1 hp, p1 := fun h => no h rfl, apc := fun h => no h rfl, low := fun h => no h rfl, adv := fun h => no h rfl, born := fun h => no h rfl, pool := fun h => no h rfl, rpc := fun h => no h rfl, rsp := fun h => no h rfl, give := fun h => no h rfl, gv := fun h => no h rfl }
    · exact { hm with e := he9, gpc := (by show (1 : Nat) ≤ 3; decide), pc := .inr (.inr (.inr (.inr rfl))), nd1 := fun _ => hT.nd1 hp, p1 := fun h => no h rfl, apc := fun h => no h rfl, low := fun h => no h rfl, adv := fun h => no h rfl, born := fun h => no h rfl, pool := fun h => no h rfl, rpc := fun h => no h rfl, rsp := fun h => no h rfl, give := fun _ _ => hq, gv := fun _ h => absurd h (by show ¬ (2 : Nat) ≤ 1; decide) }
  · have hal : giveM C T f = (poolG (f (2, 0, 0)) C.l, { T with gh := f (2, 0, 0), gpc := 2 }, f) := by unfold giveM; rw [if_neg (by omega), if_pos hr]
    rw [hal] at hu ⊢
    refine ⟨hF, ?_⟩
    by_cases hx : C.l ≤ verI (f (2, 0, 0))
    · rw [show poolG (f (2, 0, 0)) C.l = 4 from if_pos hx]
      exact { hm with gpc := (by show (2 : Nat) ≤ 3; decide), ghu := hF.u _, gh := hF.pool, pc := .inl rfl, nd1 := fun _ => hT.nd1 hp, p1 := fun h => no h rfl, apc := fun h => no h rfl, low := fun h => no h rfl, adv := fun h => no h rfl, born := fun h => no h rfl, pool := fun h => no h rfl, rpc := fun h => no h rfl, rsp := fun h => no h rfl, give := fun h => no h rfl, gv := fun h => no h rfl }
    · rw [show poolG (f (2, 0, 0)) C.l = 0 from if_neg hx]
      exact { hm with gpc := (by show (2 : Nat) ≤ 3; decide), ghu := hF.u _, gh := hF.pool, pc := .inr (.inr (.inr (.inr rfl))), nd1 := fun _ => hT.nd1 hp, p1 := fun h => no h rfl, apc := fun h => no h rfl, low := fun h => no h rfl, adv := fun h => no h rfl, born := fun h => no h rfl, pool := fun h => no h rfl, rpc := fun h => no h rfl, rsp := fun h => no h rfl, give := fun _ _ => hT.give h4 (by omega), gv := fun _ _ => (by show verI (f (2, 0, 0)) < C.l; omega) }
  · have hal : giveM C T f = (0, { T with gpc := 3 }, upd f (5, (T.ql.headD t0).1, 2) (wordI false (slotI T.gh) 0)) := by unfold giveM; rw [if_neg (by omega), if_neg (by omega), if_pos hr]
    rw [hal] at hu ⊢
    exact ⟨hF.upd (by simp) (by simp) (fun i _ => slot_link (by omega) hT.gh) hu, { hm with gpc := (by show (3 : Nat) ≤ 3; decide), pc := .inr (.inr (.inr (.inr rfl))), nd1 := fun _ => hT.nd1 hp, p1 := fun h => no h rfl, apc := fun h => no h rfl, low := fun h => no h rfl, adv := fun h => no h rfl, born := fun h => no h rfl, pool := fun h => no h rfl, rpc := fun h => no h rfl, rsp := fun h => no h rfl, give := fun _ _ => hT.give h4 (by omega), gv := fun _ _ => hT.gv h4 (by omega) }⟩
  · obtain ⟨x, t, hxt⟩ : ∃ x t, T.ql = x :: t := by
      rcases hq : T.ql with _ | ⟨x, t⟩
      · exact absurd hq (hT.give h4 (by omega))
      · exact ⟨x, t, rfl⟩
    have hxx := hT.ql x (by rw [hxt]; simp)
    have hhd : (T.ql.headD t0).1 ≤ C.s := by rw [hxt]; exact hxx.2.1
    by_cases hx : f (2, 0, 0) = T.gh
    · have hal : giveM C T f = (gdS T.ql.tail, { T with ql := T.ql.tail, gg := wrap64 (T.gg + 1), gpc := 1 }, swf f (2, 0, 0) T.gh (nextW T.gh (T.ql.headD t0).1)) := by unfold giveM; rw [if_neg (by omega), if_neg (by omega), if_neg (by omega), if_pos hx]
      rw [hal] at hu ⊢
      refine ⟨hF.swp (slot_next (by omega) hhd) hu, ?_⟩
      have hqt : ∀ z ∈ T.ql.tail, 1 ≤ z.1 ∧ z.1 ≤ C.s ∧ z.2.2 = 0 := fun z hz => hT.ql z (List.mem_of_mem_tail hz)
      have hln : T.ql.tail.length + (ds.length - T.nd) ≤ B + 1 := by have := hT.len; simp; omega
      rcases gdS_in T.ql.tail with ⟨hq, hS⟩ | ⟨hq, hS⟩ <;> rw [hS]
      · exact { hm with ql := hqt, len := hln, gpc := (by show (1 : Nat) ≤ 3; decide), pc := .inl rfl, nd1 := fun _ => hT.nd1 hp, p1 := fun h => no h rfl, apc := fun h => no h rfl, low := fun h => no h rfl, adv := fun h => no h rfl, born := fun h => no h rfl, pool := fun h => no h rfl, rpc := fun h => no h rfl, rsp := fun h => no h rfl, give := fun h => no h rfl, gv := fun h => no h rfl }
      · exact { hm with ql := hqt, len := hln, gpc := (by show (1 : Nat) ≤ 3; decide), pc := .inr (.inr (.inr (.inr rfl))), nd1 := fun _ => hT.nd1 hp, p1 := fun h => no h rfl, apc := fun h => no h rfl, low := fun h => no h rfl, adv := fun h => no h rfl, born := fun h => no h rfl, pool := fun h => no h rfl, rpc := fun h => no h rfl, rsp := fun h => no h rfl, give := fun _ _ => hq, gv := fun _ h => absurd h (by show ¬ (2 : Nat) ≤ 1; decide) }
    · have hal : giveM C T f = (0, { T with gpc := 1 }, swf f (2, 0, 0) T.gh (nextW T.gh (T.ql.headD t0).1)) := by unfold giveM; rw [if_neg (by omega), if_neg (by omega), if_neg (by omega), if_neg hx]
      rw [hal] at hu ⊢
      exact ⟨hF.swp (slot_next (by omega) hhd) hu, { hm with gpc := (by show (1 : Nat) ≤ 3; decide), pc := .inr (.inr (.inr (.inr rfl))), nd1 := fun _ => hT.nd1 hp, p1 := fun h => no h rfl, apc := fun h => no h rfl, low := fun h => no h rfl, adv := fun h => no h rfl, born := fun h => no h rfl, pool := fun h => no h rfl, rpc := fun h => no h rfl, rsp := fun h => no h rfl, give := fun _ _ => hT.give h4 (by omega), gv := fun _ h => absurd h (by show ¬ (2 : Nat) ≤ 1; decide) }⟩
theorem act_ok (hC : COk C) (hF : OkF C f) (hT : OkT C ds B T) (hp : T.pc ≠ 0) (hu : ∀ x, InU ((actM C d T f).2 x)) : OkF C (actM C d T f).2 ∧ OkT C ds (B + 1) (actM C d T f).1 := by
  rcases hT.pc with h | h | h | h | h
  · exact absurd h hp
  · exact act1_ok hC hF hT h
  · exact act2_ok hC hF hT h hu
  · exact act3_ok hC hF hT h hu
  · exact act4_ok hC hF hT h hu
/-- A step keeps them. -/
theorem step_ok (hC : COk C) (hF : OkF C f) (hT : OkT C ds B T) (hu : ∀ x, InU ((stepM C ds T f).2 x)) : OkF C (stepM C ds T f).2 ∧ OkT C ds (B + 1) (stepM C ds T f).1 := by
  unfold stepM at hu ⊢
  by_cases hp : T.pc = 0
  · rw [if_pos hp] at hu ⊢
    obtain ⟨h1, h2, h3⟩ := begin_ok 0 (ds.drop T.nd) T rfl hT hp
    dsimp only at hu ⊢
    by_cases hb : (beginM (ds.drop T.nd) T).1 = true
    · rw [if_pos hb] at hu ⊢
      exact act_ok hC hF h1 (by have := h3 hb; omega) hu
    · rw [if_neg hb] at hu ⊢
      exact ⟨hF, h1.more⟩
  · rw [if_neg hp] at hu ⊢
    exact act_ok hC hF hT hp hu
end
end Go.Proofs.YtmifdkbpbkafjaaGreatDoor

/- Threads, by plain mathematics: which slots are whose. -/
namespace Go.Proofs.YtmifdkbpbkafjaaGreatDoor
open Go.RowKit Go.Maps
set_option maxRecDepth 100000

def hq (hs : Int) (ql : List Trip) : List Int := (if hs = 0 then [] else [hs]) ++ ql.map (·.1)
/-- What is in a thread's hands. -/
def holdT (T : Th) : List Int := hq T.hs T.ql ++ (if T.pc = 3 then [T.rs] else [])
def rng (n : Int) : List Int := (List.range n.toNat).map fun i : Nat => (i : Int) + 1
/-- How many slots were ever asked for. -/
def circ (C : Cf) (f : Mem) : Int := if f (3, 0, 0) ≤ C.s then f (3, 0, 0) else C.s
/-- The pool's slots, from x on. -/
def Path (f : Mem) : Int → List Int → Prop
  | x, [] => x = 0
  | x, y :: P => y = x ∧ x ≠ 0 ∧ Path f (slotI (f (5, x, 2))) P
theorem Path.over {f f' : Mem} : ∀ {P : List Int} {x : Int}, Path f x P → (∀ y ∈ P, slotI (f' (5, y, 2)) = slotI (f (5, y, 2))) → Path f' x P
  | [], _, h, _ => h
  | y :: P, x, ⟨h1, h2, h3⟩, h => by
    subst h1
    refine ⟨rfl, h2, ?_⟩
    rw [h y (by simp)]
    exact Path.over h3 fun z hz => h z (by simp [hz])
theorem Path.zero {f : Mem} {P : List Int} (h : Path f 0 P) : P = [] := by
  rcases P with _ | ⟨y, P⟩
  · rfl
  · exact absurd rfl h.2.1
theorem Path.some {f : Mem} {P : List Int} {x : Int} (h : Path f x P) (hx : x ≠ 0) : ∃ P', P = x :: P' ∧ Path f (slotI (f (5, x, 2))) P' := by
  rcases P with _ | ⟨y, P⟩
  · exact absurd h hx
  · obtain ⟨rfl, -, h3⟩ := h
    exact ⟨P, rfl, h3⟩
structure TIn (C : Cf) (f : Mem) (T : Th) : Prop where
  (ver : T.pc = 2 → 4 ≤ T.apc → T.apc ≤ 6 → verI T.ah ≤ verI (f (2, 0, 0)))
  (an : T.pc = 2 → T.apc = 5 ∨ T.apc = 6 → f (2, 0, 0) = T.ah → slotI T.an = slotI (f (5, slotI T.ah, 2)))
  (fresh : T.pc = 2 → 3 ≤ T.apc → T.apc ≤ 6 → C.s ≤ f (3, 0, 0))
  (noq : T.pc = 2 → 2 ≤ T.apc → T.apc ≤ 6 → T.ql = [])
  (give : T.pc = 4 → T.gpc = 3 → slotI (f (5, (T.ql.headD t0).1, 2)) = slotI T.gh)
/-- What a step of T does that others may see. -/
structure Eff (f f' : Mem) (T : Th) : Prop where
  (pool : f' (2, 0, 0) = f (2, 0, 0) ∨ verI (f' (2, 0, 0)) = verI (f (2, 0, 0)) + 1)
  (fresh : f (3, 0, 0) ≤ f' (3, 0, 0) ∧ f' (3, 0, 0) ≤ f (3, 0, 0) + 1)
  (chain : ∀ x, x ∉ holdT T → f' (5, x, 2) = f (5, x, 2))
/-- How a step turns hands and pool. -/
def Turns (C : Cf) (f f' : Mem) (T T' : Th) (P P' : List Int) : Prop :=
  ((holdT T' ++ P').Perm (holdT T ++ P) ∧ circ C f' = circ C f) ∨ (circ C f' = circ C f + 1 ∧ 0 ≤ circ C f ∧ (holdT T' ++ P').Perm ((circ C f + 1) :: (holdT T ++ P)))
theorem hold_of {T : Th} (h : T.pc ≠ 3) : holdT T = hq T.hs T.ql := by simp [holdT, h]
theorem hold_3 {T : Th} (h : T.pc = 3) : holdT T = hq T.hs T.ql ++ [T.rs] := by simp [holdT, h]
theorem hq_add (hs : Int) (ql : List Trip) (x y z : Int) : (hq hs (ql ++ [(x, y, z)])) = hq hs ql ++ [x] := by simp [hq]
theorem mem_head {T : Th} {C : Cf} {ds : List Dd} {B : Nat} (hT : OkT C ds B T) (hq0 : T.ql ≠ []) : (T.ql.headD t0).1 ∈ holdT T ∧ 1 ≤ (T.ql.headD t0).1 ∧ (T.ql.headD t0).1 ≤ C.s := by
  rcases hq9 : T.ql with _ | ⟨x, t⟩
  · exact absurd hq9 hq0
  · have h1 := hT.ql x (by rw [hq9]; simp)
    refine ⟨?_, h1.1, h1.2.1⟩
    simp [holdT, hq, hq9]
theorem hq_head {ql : List Trip} (h : ql ≠ []) : ∃ t, ql = ql.headD t0 :: t ∧ ql.tail = t := by
  rcases ql with _ | ⟨x, t⟩
  · exact absurd rfl h
  · exact ⟨t, rfl, rfl⟩
theorem Eff.same {f : Mem} {T : Th} (h0 : 0 ≤ f (3, 0, 0)) : Eff f f T := ⟨.inl rfl, by omega, fun _ _ => rfl⟩
theorem next_parts {x s : Int} (hs : 0 ≤ s ∧ s ≤ 8388607) (hv : verI x < 1099511627775) : slotI (nextW x s) = s ∧ verI (nextW x s) = verI x + 1 := by
  have h0 := verI_in x
  have hl : isL s (verI x + 1) = true := isL_mk hs.1 hs.2 (by omega) (by omega)
  unfold nextW
  rw [if_pos (isS_mk hs.1 hs.2), if_neg (by omega)]
  exact ⟨slot_word hl, ver_word hl⟩
theorem decP_two {ql : List Trip} {e l : Int} (h : decP ql e l = 2) : ql = [] := by
  rcases ql with _ | ⟨⟨x, y, z⟩, t⟩
  · rfl
  · simp only [decP] at h
    split at h
    · exact absurd h (by decide)
    · split at h <;> exact absurd h (by decide)

section
variable {C : Cf} {ds : List Dd} {B : Nat} {T : Th} {f : Mem} {d : Dd} {P : List Int}
/-- Where no thread looks at the pool. -/
theorem TIn.of_dec {f' : Mem} {T' : Th} (h : T'.pc = 2 → (2 < T'.apc → 6 < T'.apc) ∧ (T'.apc = 2 → T'.ql = [])) (h4 : T'.pc ≠ 4) : TIn C f' T' :=
  ⟨fun a b c => by have := (h a).1; omega, fun a b => by have := (h a).1; omega, fun a b c => by have := (h a).1; omega, fun a b c => by
    by_cases h2 : T'.apc = 2
    · exact (h a).2 h2
    · have := (h a).1; omega, fun a => absurd a h4⟩
theorem dec_fine (ql : List Trip) (e l : Int) : (2 < decP ql e l → 6 < decP ql e l) ∧ (decP ql e l = 2 → ql = []) := by
  refine ⟨fun h => ?_, decP_two⟩
  rcases decP_in ql e l with h9 | h9 | h9 | h9 <;> omega
theorem act1_hold (hf3 : 0 ≤ f (3, 0, 0)) (hP : Path f (slotI (f (2, 0, 0))) P) (h1 : T.pc = 1) :
    ∃ P', Path (actM C d T f).2 (slotI ((actM C d T f).2 (2, 0, 0))) P' ∧ TIn C (actM C d T f).2 (actM C d T f).1 ∧ Eff f (actM C d T f).2 T ∧ Turns C f (actM C d T f).2 T (actM C d T f).1 P P' := by
  unfold actM
  rw [if_pos h1]
  dsimp only
  generalize epI (f (1, 0, 0)) = e
  refine ⟨P, hP, TIn.of_dec (fun _ => dec_fine _ _ _) ?_, Eff.same hf3, .inl ⟨?_, rfl⟩⟩
  · dsimp only
    split <;> omega
  · rw [hold_of (T := T) (by omega), hold_of]
    dsimp only
    split <;> omega
theorem act3_hold (hf3 : 0 ≤ f (3, 0, 0)) (hP : Path f (slotI (f (2, 0, 0))) P) (h3 : T.pc = 3) (hr : T.rpc = 0 ∨ T.rpc = 1) :
    ∃ P', Path (actM C d T f).2 (slotI ((actM C d T f).2 (2, 0, 0))) P' ∧ TIn C (actM C d T f).2 (actM C d T f).1 ∧ Eff f (actM C d T f).2 T ∧ Turns C f (actM C d T f).2 T (actM C d T f).1 P P' := by
  have ha : actM C d T f = ({ (retireM T f).2.1 with pc := if (retireM T f).1 = 0 then 3 else 0, full := false }, (retireM T f).2.2) := by
    unfold actM
    rw [if_neg (by omega), if_neg (by omega), if_pos h3]
  rw [ha]
  rcases hr with hr | hr
  · have hal : retireM T f = (0, { T with re := f (1, 0, 0), rpc := 1 }, f) := by unfold retireM; rw [if_pos hr]
    rw [hal]
    refine ⟨P, hP, TIn.of_dec (fun h => no h rfl) (fun h => no h rfl), Eff.same hf3, .inl ⟨?_, rfl⟩⟩
    rw [hold_3 (T := T) h3, hold_3]
    rfl
  · have hal : retireM T f = (1, { T with ql := T.ql ++ [(T.rs, epI T.re, 0)] }, upd f (5, T.rs, 1) T.re) := by unfold retireM; rw [if_neg (by omega)]
    rw [hal]
    have hc : ∀ y : Plc, y.2.2 ≠ 1 → upd f (5, T.rs, 1) T.re y = f y := fun y hy => upd_other f _ (fun e => hy (by rw [e]))
    refine ⟨P, ?_, TIn.of_dec (fun h => no h rfl) (fun h => no h rfl), ⟨.inl (hc (2, 0, 0) (by decide)), ?_, fun x _ => hc (5, x, 2) (by show (2 : Int) ≠ 1; decide)⟩, .inl ⟨?_, ?_⟩⟩
    · show Path (upd f (5, T.rs, 1) T.re) (slotI (upd f (5, T.rs, 1) T.re (2, 0, 0))) P
      rw [hc (2, 0, 0) (by decide)]
      exact hP.over fun y _ => by rw [hc (5, y, 2) (by show (2 : Int) ≠ 1; decide)]
    · show f (3, 0, 0) ≤ upd f (5, T.rs, 1) T.re (3, 0, 0) ∧ upd f (5, T.rs, 1) T.re (3, 0, 0) ≤ f (3, 0, 0) + 1
      rw [hc (3, 0, 0) (by decide)]
      omega
    · rw [hold_3 (T := T) h3, hold_of (fun h => no h rfl)]
      show (hq T.hs (T.ql ++ [(T.rs, epI T.re, 0)]) ++ P).Perm _
      rw [hq_add]
    · unfold circ
      show (if upd f (5, T.rs, 1) T.re (3, 0, 0) ≤ C.s then upd f (5, T.rs, 1) T.re (3, 0, 0) else C.s) = _
      rw [hc (3, 0, 0) (by decide)]
theorem act4_hold (hC : COk C) (hF : OkF C f) (hT : OkT C ds B T) (hI : TIn C f T) (hP : Path f (slotI (f (2, 0, 0))) P) (hdis : ∀ x ∈ holdT T, x ∉ P) (h4 : T.pc = 4) :
    ∃ P', Path (actM C d T f).2 (slotI ((actM C d T f).2 (2, 0, 0))) P' ∧ TIn C (actM C d T f).2 (actM C d T f).1 ∧ Eff f (actM C d T f).2 T ∧ Turns C f (actM C d T f).2 T (actM C d T f).1 P P' := by
  have hs := hC.s
  have hl := hC.l
  have hf3 : 0 ≤ f (3, 0, 0) := (hF.u _).1
  have ha : actM C d T f = ({ (giveM C T f).2.1 with pc := if (giveM C T f).1 = 0 then 4 else 0, full := false }, (giveM C T f).2.2) := by
    unfold actM
    rw [if_neg (by omega), if_neg (by omega), if_neg (by omega)]
  rw [ha]
  have hT0 : holdT T = hq T.hs T.ql := hold_of (by omega)
  rcases (show T.gpc = 0 ∨ T.gpc = 1 ∨ T.gpc = 2 ∨ T.gpc = 3 by have := hT.gpc; omega) with hr | hr | hr | hr
  · have hal : giveM C T f = (gdS T.ql, { T with e := epI (f (1, 0, 0)), gpc := 1 }, f) := by unfold giveM; rw [if_pos hr]
    rw [hal]
    refine ⟨P, hP, ⟨fun h => ?_, fun h => ?_, fun h => ?_, fun h => ?_, fun _ h => no h rfl⟩, Eff.same hf3, .inl ⟨?_, rfl⟩⟩
    all_goals try (exfalso; dsimp only at h; split at h <;> omega)
    rw [hT0, hold_of (by dsimp only; split <;> omega)]
  · have hal : giveM C T f = (poolG (f (2, 0, 0)) C.l, { T with gh := f (2, 0, 0), gpc := 2 }, f) := by unfold giveM; rw [if_neg (by omega), if_pos hr]
    rw [hal]
    refine ⟨P, hP, ⟨fun h => ?_, fun h => ?_, fun h => ?_, fun h => ?_, fun _ h => no h rfl⟩, Eff.same hf3, .inl ⟨?_, rfl⟩⟩
    all_goals try (exfalso; dsimp only at h; split at h <;> omega)
    rw [hT0, hold_of (by dsimp only; split <;> omega)]
  · have hal : giveM C T f = (0, { T with gpc := 3 }, upd f (5, (T.ql.headD t0).1, 2) (wordI false (slotI T.gh) 0)) := by unfold giveM; rw [if_neg (by omega), if_neg (by omega), if_pos hr]
    rw [hal]
    obtain ⟨hm, hx1, hx2⟩ := mem_head hT (hT.give h4 (by omega))
    generalize hxx : (T.ql.headD t0).1 = x at hm hx1 hx2
    have hc : ∀ y : Plc, y ≠ (5, x, 2) → upd f (5, x, 2) (wordI false (slotI T.gh) 0) y = f y := fun y hy => upd_other f _ hy
    refine ⟨P, ?_, ⟨fun h => no h rfl, fun h => no h rfl, fun h => no h rfl, fun h => no h rfl, fun _ _ => ?_⟩, ⟨.inl (hc (2, 0, 0) (by simp)), ?_, fun y hy => hc (5, y, 2) (fun e => ?_)⟩, .inl ⟨?_, ?_⟩⟩
    · show Path (upd f (5, x, 2) (wordI false (slotI T.gh) 0)) (slotI (upd f (5, x, 2) (wordI false (slotI T.gh) 0) (2, 0, 0))) P
      rw [hc (2, 0, 0) (by simp)]
      refine hP.over fun y hy => ?_
      have hne : y ≠ x := fun e => hdis x hm (e ▸ hy)
      rw [hc (5, y, 2) (fun e => hne (by simpa using e))]
    · show slotI (upd f (5, x, 2) (wordI false (slotI T.gh) 0) (5, (T.ql.headD t0).1, 2)) = slotI T.gh
      rw [hxx, upd_same]
      exact slot_word (isL_mk (slotI_in _).1 (slotI_in _).2 (by omega) (by omega))
    · show f (3, 0, 0) ≤ upd f (5, x, 2) (wordI false (slotI T.gh) 0) (3, 0, 0) ∧ upd f (5, x, 2) (wordI false (slotI T.gh) 0) (3, 0, 0) ≤ f (3, 0, 0) + 1
      rw [hc (3, 0, 0) (by simp)]
      omega
    · have : y = x := by simpa using e
      exact hy (this ▸ hm)
    · rw [hT0, hold_of (fun h => no h rfl)]
    · unfold circ
      show (if upd f (5, x, 2) (wordI false (slotI T.gh) 0) (3, 0, 0) ≤ C.s then upd f (5, x, 2) (wordI false (slotI T.gh) 0) (3, 0, 0) else C.s) = _
      rw [hc (3, 0, 0) (by simp)]
  · have hq0 := hT.give h4 (by omega)
    obtain ⟨hm, hx1, hx2⟩ := mem_head hT hq0
    obtain ⟨t, ht, htl⟩ := hq_head hq0
    have hgv := hT.gv h4 (by omega)
    by_cases hx : f (2, 0, 0) = T.gh
    · have hal : giveM C T f = (gdS T.ql.tail, { T with ql := T.ql.tail, gg := wrap64 (T.gg + 1), gpc := 1 }, swf f (2, 0, 0) T.gh (nextW T.gh (T.ql.headD t0).1)) := by unfold giveM; rw [if_neg (by omega), if_neg (by omega), if_neg (by omega), if_pos hx]
      rw [hal]
      have hgc := hI.give h4 hr
      obtain ⟨n1, n2⟩ := next_parts (x := T.gh) (s := (T.ql.headD t0).1) (by omega) (by omega)
      generalize hxx : T.ql.headD t0 = x at *
      have hc2 : swf f (2, 0, 0) T.gh (nextW T.gh x.1) (2, 0, 0) = nextW T.gh x.1 := by rw [swf_at, if_pos ⟨rfl, hx⟩]
      have hc : ∀ y : Plc, y ≠ (2, 0, 0) → swf f (2, 0, 0) T.gh (nextW T.gh x.1) y = f y := fun y hy => by rw [swf_at, if_neg (fun h => hy h.1)]
      refine ⟨x.1 :: P, ?_, ⟨fun h => ?_, fun h => ?_, fun h => ?_, fun h => ?_, fun _ h => no h rfl⟩, ⟨.inr ?_, ?_, fun y _ => hc (5, y, 2) (by simp)⟩, .inl ⟨?_, ?_⟩⟩
      · show Path (swf f (2, 0, 0) T.gh (nextW T.gh x.1)) (slotI (swf f (2, 0, 0) T.gh (nextW T.gh x.1) (2, 0, 0))) (x.1 :: P)
        rw [hc2, n1]
        refine ⟨rfl, by omega, ?_⟩
        have hP9 : Path f (slotI T.gh) P := by rw [← hx]; exact hP
        rw [hc (5, x.1, 2) (by simp), hgc]
        exact hP9.over fun y _ => by rw [hc (5, y, 2) (by simp)]
      any_goals (exfalso; dsimp only at h; split at h <;> omega)
      · show verI (swf f (2, 0, 0) T.gh (nextW T.gh x.1) (2, 0, 0)) = _
        rw [hc2, n2, hx]
      · show f (3, 0, 0) ≤ swf f (2, 0, 0) T.gh (nextW T.gh x.1) (3, 0, 0) ∧ swf f (2, 0, 0) T.gh (nextW T.gh x.1) (3, 0, 0) ≤ f (3, 0, 0) + 1
        rw [hc (3, 0, 0) (by decide)]
        omega
      · rw [hT0, hold_of (by dsimp only; split <;> omega)]
        show (hq T.hs T.ql.tail ++ x.1 :: P).Perm _
        rw [htl, show T.ql = x :: t from ht]
        unfold hq
        refine List.perm_iff_count.2 fun z => ?_
        simp only [List.count_append, List.map_cons, List.count_cons]
        omega
      · unfold circ
        show (if swf f (2, 0, 0) T.gh (nextW T.gh x.1) (3, 0, 0) ≤ C.s then swf f (2, 0, 0) T.gh (nextW T.gh x.1) (3, 0, 0) else C.s) = _
        rw [hc (3, 0, 0) (by decide)]
    · have hal : giveM C T f = (0, { T with gpc := 1 }, swf f (2, 0, 0) T.gh (nextW T.gh (T.ql.headD t0).1)) := by unfold giveM; rw [if_neg (by omega), if_neg (by omega), if_neg (by omega), if_neg hx]
      rw [hal]
      have hf : swf f (2, 0, 0) T.gh (nextW T.gh (T.ql.headD t0).1) = f := by
        unfold swf
        rw [if_neg hx]
      dsimp only
      rw [hf]
      refine ⟨P, hP, ⟨fun h => no h rfl, fun h => no h rfl, fun h => no h rfl, fun h => no h rfl, fun _ h => no h rfl⟩, Eff.same hf3, .inl ⟨?_, rfl⟩⟩
      rw [hT0, hold_of (fun h => no h rfl)]
theorem part_upd (f : Mem) (x v : Int) (p : Int) (hp : p ≠ 2) (y : Plc) (hy : y.1 ≠ 5 ∨ y.2.2 = 2) : upd f (5, x, p) v y = f y := upd_other f _ (fun e => by
  rcases hy with hy | hy
  · exact hy (by rw [e])
  · rw [e] at hy; exact hp hy)
theorem act2_hold (hC : COk C) (hF : OkF C f) (hT : OkT C ds B T) (hI : TIn C f T) (hfb : f (3, 0, 0) ≤ 4000000) (hP : Path f (slotI (f (2, 0, 0))) P) (h2 : T.pc = 2) :
    ∃ P', Path (actM C d T f).2 (slotI ((actM C d T f).2 (2, 0, 0))) P' ∧ TIn C (actM C d T f).2 (actM C d T f).1 ∧ Eff f (actM C d T f).2 T ∧ Turns C f (actM C d T f).2 T (actM C d T f).1 P P' := by
  have hs := hC.s
  have hl := hC.l
  have hf3 : 0 ≤ f (3, 0, 0) := (hF.u _).1
  have hT0 : holdT T = hq T.hs T.ql := hold_of (by omega)
  rw [al_cases C d T f h2]
  have hh : ∀ (r : Int) (T1 : Th) (b : Bool) (n : Int), holdT { T1 with pc := if r = 2 then 1 else if r = 0 then 2 else 0, done := n, full := b } = hq T1.hs T1.ql := fun r T1 b n => hold_of (by dsimp only; split; omega; split <;> omega)
  have hp2 : ∀ (r : Int), (if r = 2 then 1 else if r = 0 then 2 else (0 : Nat)) = 2 → r = 0 := fun r h => by split at h; omega; split at h; assumption; omega
  have hp4 : ∀ (r : Int), (if r = 2 then 1 else if r = 0 then 2 else (0 : Nat)) ≠ 4 := fun r => by split; omega; split <;> omega
  rcases hT.apc h2 with ha | ha | ha | ha | ha | ha | ha
  · have hal : allocM C d T f = (2, T, swf f (1, 0, 0) T.e (T.e + 1)) := by unfold allocM; rw [if_pos ha]
    rw [hal]
    have hc : ∀ y : Plc, y ≠ (1, 0, 0) → swf f (1, 0, 0) T.e (T.e + 1) y = f y := fun y hy => by rw [swf_at, if_neg (fun h => hy h.1)]
    refine ⟨P, ?_, TIn.of_dec (fun h => no h rfl) (fun h => no h rfl), ⟨.inl (hc (2, 0, 0) (by decide)), ?_, fun x _ => hc (5, x, 2) (by simp)⟩, .inl ⟨?_, ?_⟩⟩
    · show Path (swf f (1, 0, 0) T.e (T.e + 1)) (slotI (swf f (1, 0, 0) T.e (T.e + 1) (2, 0, 0))) P
      rw [hc (2, 0, 0) (by decide)]
      exact hP.over fun y _ => by rw [hc (5, y, 2) (by simp)]
    · show f (3, 0, 0) ≤ swf f (1, 0, 0) T.e (T.e + 1) (3, 0, 0) ∧ swf f (1, 0, 0) T.e (T.e + 1) (3, 0, 0) ≤ f (3, 0, 0) + 1
      rw [hc (3, 0, 0) (by decide)]
      omega
    · rw [hT0, hh]
    · unfold circ
      show (if swf f (1, 0, 0) T.e (T.e + 1) (3, 0, 0) ≤ C.s then swf f (1, 0, 0) T.e (T.e + 1) (3, 0, 0) else C.s) = _
      rw [hc (3, 0, 0) (by decide)]
  · have hw : IntKind.u64.wrap (f (3, 0, 0) + 1) = f (3, 0, 0) + 1 := by rw [IntKind.wrap_u64]; omega
    have hc : ∀ y : Plc, y ≠ (3, 0, 0) → upd f (3, 0, 0) (IntKind.u64.wrap (f (3, 0, 0) + 1)) y = f y := fun y hy => upd_other f _ hy
    have hc3 : upd f (3, 0, 0) (IntKind.u64.wrap (f (3, 0, 0) + 1)) (3, 0, 0) = f (3, 0, 0) + 1 := by rw [upd_same, hw]
    have hP' : Path (upd f (3, 0, 0) (IntKind.u64.wrap (f (3, 0, 0) + 1))) (slotI (upd f (3, 0, 0) (IntKind.u64.wrap (f (3, 0, 0) + 1)) (2, 0, 0))) P := by
      rw [hc (2, 0, 0) (by decide)]
      exact hP.over fun y _ => by rw [hc (5, y, 2) (by simp)]
    have hEf : Eff f (upd f (3, 0, 0) (IntKind.u64.wrap (f (3, 0, 0) + 1))) T := ⟨.inl (hc (2, 0, 0) (by decide)), by rw [hc3]; omega, fun x _ => hc (5, x, 2) (by simp)⟩
    have hno := hI.noq h2 (by omega) (by omega)
    by_cases hx : C.s ≤ f (3, 0, 0)
    · have hal : allocM C d T f = (0, { T with apc := 3 }, upd f (3, 0, 0) (IntKind.u64.wrap (f (3, 0, 0) + 1))) := by unfold allocM; rw [if_neg (by omega), if_pos ha, if_pos hx]
      rw [hal]
      refine ⟨P, hP', ⟨fun _ h => absurd h (by show ¬ (4 : Nat) ≤ 3; decide), fun _ h => absurd h (by show ¬ ((3 : Nat) = 5 ∨ (3 : Nat) = 6); decide), fun _ _ _ => ?_, fun _ _ _ => hno, fun h => no h rfl⟩, hEf, .inl ⟨?_, ?_⟩⟩
      · show C.s ≤ upd f (3, 0, 0) (IntKind.u64.wrap (f (3, 0, 0) + 1)) (3, 0, 0)
        rw [hc3]; omega
      · rw [hT0, hh]
      · unfold circ
        show (if upd f (3, 0, 0) (IntKind.u64.wrap (f (3, 0, 0) + 1)) (3, 0, 0) ≤ C.s then upd f (3, 0, 0) (IntKind.u64.wrap (f (3, 0, 0) + 1)) (3, 0, 0) else C.s) = _
        rw [hc3]
        split <;> split <;> omega
    · have hal : allocM C d T f = (decS (T.ql ++ [(f (3, 0, 0) + 1, 0, 0)]) T.e C.l, { T with ql := T.ql ++ [(f (3, 0, 0) + 1, 0, 0)], apc := decP (T.ql ++ [(f (3, 0, 0) + 1, 0, 0)]) T.e C.l }, upd f (3, 0, 0) (IntKind.u64.wrap (f (3, 0, 0) + 1))) := by unfold allocM; rw [if_neg (by omega), if_pos ha, if_neg hx]
      rw [hal]
      refine ⟨P, hP', TIn.of_dec (fun _ => dec_fine _ _ _) (hp4 _), hEf, .inr ⟨?_, ?_, ?_⟩⟩
      · unfold circ
        show (if upd f (3, 0, 0) (IntKind.u64.wrap (f (3, 0, 0) + 1)) (3, 0, 0) ≤ C.s then upd f (3, 0, 0) (IntKind.u64.wrap (f (3, 0, 0) + 1)) (3, 0, 0) else C.s) = _
        rw [hc3]
        split <;> split <;> omega
      · unfold circ
        split <;> omega
      · rw [hT0, hh]
        have hcc : circ C f = f (3, 0, 0) := by unfold circ; rw [if_pos (by omega)]
        dsimp only
        rw [hq_add, hcc]
        refine List.perm_iff_count.2 fun z => ?_
        simp only [List.count_append, List.count_cons, List.count_nil]
        omega
  · have hal : allocM C d T f = (poolS (f (2, 0, 0)) C.l, { T with ah := f (2, 0, 0), apc := 4 }, f) := by unfold allocM; rw [if_neg (by omega), if_neg (by omega), if_pos ha]
    rw [hal]
    refine ⟨P, hP, ⟨fun _ _ _ => Int.le_refl _, fun _ h => absurd h (by show ¬ ((4 : Nat) = 5 ∨ (4 : Nat) = 6); decide), fun _ _ _ => hI.fresh h2 (by omega) (by omega), fun _ _ _ => hI.noq h2 (by omega) (by omega), fun h => absurd h (hp4 _)⟩, Eff.same hf3, .inl ⟨?_, rfl⟩⟩
    rw [hT0, hh]
  · have hal : allocM C d T f = (0, { T with an := f (5, slotI T.ah, 2), apc := 5 }, f) := by unfold allocM; rw [if_neg (by omega), if_neg (by omega), if_neg (by omega), if_pos ha]
    rw [hal]
    refine ⟨P, hP, ⟨fun _ _ _ => hI.ver h2 (by omega) (by omega), fun _ _ _ => rfl, fun _ _ _ => hI.fresh h2 (by omega) (by omega), fun _ _ _ => hI.noq h2 (by omega) (by omega), fun h => no h rfl⟩, Eff.same hf3, .inl ⟨?_, rfl⟩⟩
    rw [hT0, hh]
  · have hal : allocM C d T f = (0, { T with ar := f (5, slotI T.ah, 1), apc := 6 }, f) := by unfold allocM; rw [if_neg (by omega), if_neg (by omega), if_neg (by omega), if_neg (by omega), if_pos ha]
    rw [hal]
    refine ⟨P, hP, ⟨fun _ _ _ => hI.ver h2 (by omega) (by omega), fun _ _ => hI.an h2 (.inl ha), fun _ _ _ => hI.fresh h2 (by omega) (by omega), fun _ _ _ => hI.noq h2 (by omega) (by omega), fun h => no h rfl⟩, Eff.same hf3, .inl ⟨?_, rfl⟩⟩
    rw [hT0, hh]
  · have hno := hI.noq h2 (by omega) (by omega)
    have hpl := hT.pool h2 (by omega) (by omega)
    by_cases hx : f (2, 0, 0) = T.ah
    · have hal : allocM C d T f = (decS (T.ql ++ [(slotI T.ah, epI T.ar, 0)]) T.e C.l, { T with ql := T.ql ++ [(slotI T.ah, epI T.ar, 0)], apc := decP (T.ql ++ [(slotI T.ah, epI T.ar, 0)]) T.e C.l }, swf f (2, 0, 0) T.ah (nextW T.ah (slotI T.an))) := by unfold allocM; rw [if_neg (by omega), if_neg (by omega), if_neg (by omega), if_neg (by omega), if_neg (by omega), if_pos ha, if_pos hx]
      rw [hal]
      have han := hI.an h2 (.inr ha) hx
      have hans := slotI_in T.an
      obtain ⟨n1, n2⟩ := next_parts (x := T.ah) (s := slotI T.an) hans (by omega)
      have hP9 : Path f (slotI T.ah) P := by rw [← hx]; exact hP
      obtain ⟨P', rfl, hP2⟩ := hP9.some (by omega)
      have hc2 : swf f (2, 0, 0) T.ah (nextW T.ah (slotI T.an)) (2, 0, 0) = nextW T.ah (slotI T.an) := by rw [swf_at, if_pos ⟨rfl, hx⟩]
      have hc : ∀ y : Plc, y ≠ (2, 0, 0) → swf f (2, 0, 0) T.ah (nextW T.ah (slotI T.an)) y = f y := fun y hy => by rw [swf_at, if_neg (fun h => hy h.1)]
      refine ⟨P', ?_, TIn.of_dec (fun _ => dec_fine _ _ _) (hp4 _), ⟨.inr ?_, ?_, fun y _ => hc (5, y, 2) (by simp)⟩, .inl ⟨?_, ?_⟩⟩
      · show Path (swf f (2, 0, 0) T.ah (nextW T.ah (slotI T.an))) (slotI (swf f (2, 0, 0) T.ah (nextW T.ah (slotI T.an)) (2, 0, 0))) P'
        have hP3 : Path f (slotI T.an) P' := by rw [han]; exact hP2
        rw [hc2, n1]
        exact hP3.over fun y _ => by rw [hc (5, y, 2) (by simp)]
      · show verI (swf f (2, 0, 0) T.ah (nextW T.ah (slotI T.an)) (2, 0, 0)) = _
        rw [hc2, n2, hx]
      · show f (3, 0, 0) ≤ swf f (2, 0, 0) T.ah (nextW T.ah (slotI T.an)) (3, 0, 0) ∧ swf f (2, 0, 0) T.ah (nextW T.ah (slotI T.an)) (3, 0, 0) ≤ f (3, 0, 0) + 1
        rw [hc (3, 0, 0) (by decide)]
        omega
      · rw [hT0, hh]
        dsimp only
        rw [hq_add]
        refine List.perm_iff_count.2 fun z => ?_
        simp only [List.count_append, List.count_cons, List.count_nil]
        omega
      · unfold circ
        show (if swf f (2, 0, 0) T.ah (nextW T.ah (slotI T.an)) (3, 0, 0) ≤ C.s then swf f (2, 0, 0) T.ah (nextW T.ah (slotI T.an)) (3, 0, 0) else C.s) = _
        rw [hc (3, 0, 0) (by decide)]
    · have hal : allocM C d T f = (0, { T with apc := 3 }, swf f (2, 0, 0) T.ah (nextW T.ah (slotI T.an))) := by unfold allocM; rw [if_neg (by omega), if_neg (by omega), if_neg (by omega), if_neg (by omega), if_neg (by omega), if_pos ha, if_neg hx]
      rw [hal]
      have hf : swf f (2, 0, 0) T.ah (nextW T.ah (slotI T.an)) = f := by
        unfold swf
        rw [if_neg hx]
      dsimp only
      rw [hf]
      refine ⟨P, hP, ⟨fun _ h => absurd h (by show ¬ (4 : Nat) ≤ 3; decide), fun _ h => absurd h (by show ¬ ((3 : Nat) = 5 ∨ (3 : Nat) = 6); decide), fun _ _ _ => hI.fresh h2 (by omega) (by omega), fun _ _ _ => hno, fun h => no h rfl⟩, Eff.same hf3, .inl ⟨?_, rfl⟩⟩
      rw [hT0, hold_of (fun h => no h rfl)]
  · obtain ⟨W, hW⟩ : ∃ W, wordsA C.k T.e d.key d.val (IntKind.u64.wrap d.lv) = W := ⟨_, rfl⟩
    have hp : (W.getD (T.apc - 10) (0, 0)).1 ≠ 2 := by rw [← hW]; exact part_ne _ _ _ _ _ _
    obtain ⟨pw, hpw⟩ : ∃ pw, W.getD (T.apc - 10) (0, 0) = pw := ⟨_, rfl⟩
    rw [hpw] at hp
    have key : ∀ (x : Int) (r : Int) (T1 : Th), 11 ≤ T1.apc → (hq T1.hs T1.ql).Perm (hq T.hs T.ql) → ∃ P', Path (upd f (5, x, pw.1) pw.2) (slotI (upd f (5, x, pw.1) pw.2 (2, 0, 0))) P' ∧ TIn C (upd f (5, x, pw.1) pw.2) { T1 with pc := if r = 2 then 1 else if r = 0 then 2 else 0, done := if r = 1 then T.done + 1 else T.done, full := r == 3 } ∧ Eff f (upd f (5, x, pw.1) pw.2) T ∧ Turns C f (upd f (5, x, pw.1) pw.2) T { T1 with pc := if r = 2 then 1 else if r = 0 then 2 else 0, done := if r = 1 then T.done + 1 else T.done, full := r == 3 } P P' := by
      intro x r T1 h11 hpm
      have hc : ∀ y : Plc, (y.1 ≠ 5 ∨ y.2.2 = 2) → upd f (5, x, pw.1) pw.2 y = f y := part_upd f x pw.2 pw.1 hp
      refine ⟨P, ?_, TIn.of_dec (fun _ => ⟨fun _ => by show 6 < T1.apc; omega, fun h => by have h9 : T1.apc = 2 := h; omega⟩) (hp4 _), ⟨.inl (hc (2, 0, 0) (.inl (by decide))), ?_, fun y _ => hc (5, y, 2) (.inr rfl)⟩, .inl ⟨?_, ?_⟩⟩
      · rw [hc (2, 0, 0) (.inl (by decide))]
        exact hP.over fun y _ => by rw [hc (5, y, 2) (.inr rfl)]
      · rw [hc (3, 0, 0) (.inl (by decide))]
        omega
      · rw [hT0, hh]
        exact hpm.append_right P
      · unfold circ
        rw [hc (3, 0, 0) (.inl (by decide))]
    by_cases hb : T.apc = 10
    · have hal : allocM C d T f = (lastS 0 W.length, { T with ql := T.ql.tail, hs := (T.ql.headD t0).1, apc := 11 }, upd f (5, (T.ql.headD t0).1, pw.1) pw.2) := by
        unfold allocM
        rw [if_neg (by omega), if_neg (by omega), if_neg (by omega), if_neg (by omega), if_neg (by omega), if_neg (by omega)]
        dsimp only
        rw [hW, hpw, if_pos hb]
      rw [hal]
      have hq0 := hT.born h2 hb
      obtain ⟨hm, hx1, hx2⟩ := mem_head hT hq0
      obtain ⟨t, ht, htl⟩ := hq_head hq0
      have hlow := hT.low h2 (by omega)
      refine key (T.ql.headD t0).1 (lastS 0 W.length) { T with ql := T.ql.tail, hs := (T.ql.headD t0).1, apc := 11 } (Nat.le_refl 11) ?_
      dsimp only
      rw [htl]
      generalize T.ql.headD t0 = x at *
      rw [ht, hlow]
      unfold hq
      rw [if_neg (by omega), if_pos rfl]
      exact List.Perm.refl _
    · have hal : allocM C d T f = (lastS (T.apc - 10) W.length, { T with apc := T.apc + 1 }, upd f (5, T.hs, pw.1) pw.2) := by
        unfold allocM
        rw [if_neg (by omega), if_neg (by omega), if_neg (by omega), if_neg (by omega), if_neg (by omega), if_neg (by omega)]
        dsimp only
        rw [hW, hpw, if_neg hb]
      rw [hal]
      exact key T.hs (lastS (T.apc - 10) W.length) { T with apc := T.apc + 1 } (by show 11 ≤ T.apc + 1; omega) (List.Perm.refl _)
end
end Go.Proofs.YtmifdkbpbkafjaaGreatDoor

/- Threads, by plain mathematics: a step of an Alloc by cases; epochs. -/
namespace Go.Proofs.YtmifdkbpbkafjaaGreatDoor
open Go.RowKit Go.Maps
set_option maxRecDepth 100000

theorem part_one (ck e key val lv : Int) (k : Nat) : ((wordsA ck e key val lv).getD k (0, 0)).1 = 1 → ((wordsA ck e key val lv).getD k (0, 0)).2 = 0 := by
  rw [List.getD_eq_getElem?_getD]
  rcases h : (wordsA ck e key val lv)[k]? with _ | ⟨a, b⟩
  · simp
  · have hm : (a, b) ∈ wordsA ck e key val lv := List.mem_of_getElem? h
    simp only [Option.getD_some]
    unfold wordsA at hm
    split at hm
    · simp at hm
      rcases hm with ⟨rfl, rfl⟩ | ⟨rfl, rfl⟩ | ⟨rfl, rfl⟩ | ⟨rfl, rfl⟩ <;> simp
    · split at hm
      · simp at hm
        rcases hm with ⟨rfl, rfl⟩ | ⟨rfl, rfl⟩ | ⟨rfl, rfl⟩ | ⟨rfl, rfl⟩ | ⟨rfl, rfl⟩ <;> simp
      · simp at hm
        rcases hm with ⟨rfl, rfl⟩ | ⟨rfl, rfl⟩ | ⟨rfl, rfl⟩ <;> simp
section
variable {C : Cf} {ds : List Dd} {B : Nat} {T : Th} {f : Mem} {d : Dd}
theorem alloc_cases (C : Cf) (d : Dd) (T : Th) (f : Mem) (ha : T.apc = 1 ∨ T.apc = 2 ∨ T.apc = 3 ∨ T.apc = 4 ∨ T.apc = 5 ∨ T.apc = 6 ∨ 10 ≤ T.apc) :
    (T.apc = 1 ∧ allocM C d T f = (2, T, swf f (1, 0, 0) T.e (T.e + 1))) ∨
    (T.apc = 2 ∧ C.s ≤ f (3, 0, 0) ∧ allocM C d T f = (0, { T with apc := 3 }, upd f (3, 0, 0) (IntKind.u64.wrap (f (3, 0, 0) + 1)))) ∨
    (T.apc = 2 ∧ ¬ C.s ≤ f (3, 0, 0) ∧ allocM C d T f = (decS (T.ql ++ [(f (3, 0, 0) + 1, 0, 0)]) T.e C.l, { T with ql := T.ql ++ [(f (3, 0, 0) + 1, 0, 0)], apc := decP (T.ql ++ [(f (3, 0, 0) + 1, 0, 0)]) T.e C.l }, upd f (3, 0, 0) (IntKind.u64.wrap (f (3, 0, 0) + 1)))) ∨
    (T.apc = 3 ∧ allocM C d T f = (poolS (f (2, 0, 0)) C.l, { T with ah := f (2, 0, 0), apc := 4 }, f)) ∨
    (T.apc = 4 ∧ allocM C d T f = (0, { T with an := f (5, slotI T.ah, 2), apc := 5 }, f)) ∨
    (T.apc = 5 ∧ allocM C d T f = (0, { T with ar := f (5, slotI T.ah, 1), apc := 6 }, f)) ∨
    (T.apc = 6 ∧ f (2, 0, 0) = T.ah ∧ allocM C d T f = (decS (T.ql ++ [(slotI T.ah, epI T.ar, 0)]) T.e C.l, { T with ql := T.ql ++ [(slotI T.ah, epI T.ar, 0)], apc := decP (T.ql ++ [(slotI T.ah, epI T.ar, 0)]) T.e C.l }, swf f (2, 0, 0) T.ah (nextW T.ah (slotI T.an)))) ∨
    (T.apc = 6 ∧ f (2, 0, 0) ≠ T.ah ∧ allocM C d T f = (0, { T with apc := 3 }, f)) ∨
    (T.apc = 10 ∧ allocM C d T f = (lastS 0 (wordsA C.k T.e d.key d.val (IntKind.u64.wrap d.lv)).length, { T with ql := T.ql.tail, hs := (T.ql.headD t0).1, apc := 11 }, upd f (5, (T.ql.headD t0).1, 0) T.e)) ∨
    (11 ≤ T.apc ∧ ∃ p v, p ≠ 2 ∧ (p = 1 → v = 0) ∧ allocM C d T f = (lastS (T.apc - 10) (wordsA C.k T.e d.key d.val (IntKind.u64.wrap d.lv)).length, { T with apc := T.apc + 1 }, upd f (5, T.hs, p) v)) := by
  rcases ha with ha | ha | ha | ha | ha | ha | ha
  · exact .inl ⟨ha, by unfold allocM; rw [if_pos ha]⟩
  · by_cases hx : C.s ≤ f (3, 0, 0)
    · exact .inr (.inl ⟨ha, hx, by unfold allocM; rw [if_neg (by omega), if_pos ha, if_pos hx]⟩)
    · exact .inr (.inr (.inl ⟨ha, hx, by unfold allocM; rw [if_neg (by omega), if_pos ha, if_neg hx]⟩))
  · exact .inr (.inr (.inr (.inl ⟨ha, by unfold allocM; rw [if_neg (by omega), if_neg (by omega), if_pos ha]⟩)))
  · exact .inr (.inr (.inr (.inr (.inl ⟨ha, by unfold allocM; rw [if_neg (by omega), if_neg (by omega), if_neg (by omega), if_pos ha]⟩))))
  · exact .inr (.inr (.inr (.inr (.inr (.inl ⟨ha, by unfold allocM; rw [if_neg (by omega), if_neg (by omega), if_neg (by omega), if_neg (by omega), if_pos ha]⟩)))))
  · by_cases hx : f (2, 0, 0) = T.ah
    · exact .inr (.inr (.inr (.inr (.inr (.inr (.inl ⟨ha, hx, by unfold allocM; rw [if_neg (by omega), if_neg (by omega), if_neg (by omega), if_neg (by omega), if_neg (by omega), if_pos ha, if_pos hx]⟩))))))
    · refine .inr (.inr (.inr (.inr (.inr (.inr (.inr (.inl ⟨ha, hx, ?_⟩)))))))
      unfold allocM
      rw [if_neg (by omega), if_neg (by omega), if_neg (by omega), if_neg (by omega), if_neg (by omega), if_pos ha, if_neg hx]
      unfold swf
      rw [if_neg hx]
  · by_cases hb : T.apc = 10
    · refine .inr (.inr (.inr (.inr (.inr (.inr (.inr (.inr (.inl ⟨hb, ?_⟩))))))))
      unfold allocM
      rw [if_neg (by omega), if_neg (by omega), if_neg (by omega), if_neg (by omega), if_neg (by omega), if_neg (by omega)]
      dsimp only
      rw [if_pos hb, hb]
      rfl
    · refine .inr (.inr (.inr (.inr (.inr (.inr (.inr (.inr (.inr ⟨by omega, _, ((wordsA C.k T.e d.key d.val (IntKind.u64.wrap d.lv)).getD (T.apc - 10) (0, 0)).2, part_ne C.k T.e d.key d.val (IntKind.u64.wrap d.lv) (T.apc - 10), part_one C.k T.e d.key d.val (IntKind.u64.wrap d.lv) (T.apc - 10), ?_⟩))))))))
      unfold allocM
      rw [if_neg (by omega), if_neg (by omega), if_neg (by omega), if_neg (by omega), if_neg (by omega), if_neg (by omega)]
      dsimp only
      rw [if_neg hb]
/-- Whom a thread is to bear was retired below its epoch. -/
def TEp (T : Th) : Prop := T.pc = 2 → T.apc = 10 → ∃ x y z t, T.ql = (x, y, z) :: t ∧ y < T.e
/-- What a step does to the epoch, and who is held behind it. -/
def EpS (f f' : Mem) (T T' : Th) : Prop :=
  TEp T' ∧ (f' (1, 0, 0) = f (1, 0, 0) ∨ f' (1, 0, 0) = f (1, 0, 0) + 1) ∧ (T.hs = 0 → T'.hs ≠ 0 → ∃ x y z t, T.ql = (x, y, z) :: t ∧ T'.hs = x ∧ y < T'.e ∧ f' (5, x, 0) = T'.e)
theorem ep_of {f g : Mem} {x : Plc} {v : Int} (hg : g = upd f x v) (hx : x.1 ≠ 1) : g (1, 0, 0) = f (1, 0, 0) := by
  rw [hg]
  exact upd_other f v (fun e => hx (by rw [← e]))
theorem act_ep (hT : OkT C ds B T) (hE : TEp T) (hp : T.pc ≠ 0) : EpS f (actM C d T f).2 T (actM C d T f).1 := by
  rcases hT.pc with h | h | h | h | h
  · exact absurd h hp
  · unfold actM
    rw [if_pos h]
    exact ⟨fun _ h2 => decP_head h2, .inl rfl, fun h1 h2 => absurd h1 h2⟩
  · rw [al_cases C d T f h]
    rcases alloc_cases C d T f (hT.apc h) with ⟨ha, he⟩ | ⟨ha, hx, he⟩ | ⟨ha, hx, he⟩ | ⟨ha, he⟩ | ⟨ha, he⟩ | ⟨ha, he⟩ | ⟨ha, hx, he⟩ | ⟨ha, hx, he⟩ | ⟨ha, he⟩ | ⟨ha, p, v, hp2, -, he⟩ <;> rw [he]
    · refine ⟨fun h => no h rfl, ?_, fun h1 h2 => absurd h1 h2⟩
      show swf f (1, 0, 0) T.e (T.e + 1) (1, 0, 0) = _ ∨ swf f (1, 0, 0) T.e (T.e + 1) (1, 0, 0) = _
      rw [swf_at]
      split
      · rename_i h9
        exact .inr (by rw [h9.2])
      · exact .inl rfl
    · exact ⟨fun _ h => no h rfl, .inl (ep_of (x := (3, 0, 0)) rfl (by show ¬ (3 : Int) = 1; decide)), fun h1 h2 => absurd h1 h2⟩
    · exact ⟨fun _ h => decP_head h, .inl (ep_of (x := (3, 0, 0)) rfl (by show ¬ (3 : Int) = 1; decide)), fun h1 h2 => absurd h1 h2⟩
    · exact ⟨fun _ h => no h rfl, .inl rfl, fun h1 h2 => absurd h1 h2⟩
    · exact ⟨fun _ h => no h rfl, .inl rfl, fun h1 h2 => absurd h1 h2⟩
    · exact ⟨fun _ h => no h rfl, .inl rfl, fun h1 h2 => absurd h1 h2⟩
    · exact ⟨fun _ h => decP_head h, .inl (by show swf f _ _ _ _ = _; rw [swf_at, if_neg (by simp)]), fun h1 h2 => absurd h1 h2⟩
    · exact ⟨fun _ h => no h rfl, .inl rfl, fun h1 h2 => absurd h1 h2⟩
    · refine ⟨fun _ h => no h rfl, .inl (ep_of (x := (5, (T.ql.headD t0).1, 0)) rfl (by show ¬ (5 : Int) = 1; decide)), fun h1 h2 => ?_⟩
      obtain ⟨x, y, z, t, hq, hy⟩ := hE h ha
      refine ⟨x, y, z, t, hq, ?_, hy, ?_⟩
      · show (T.ql.headD t0).1 = x
        rw [hq]; rfl
      · show upd f (5, (T.ql.headD t0).1, 0) T.e (5, x, 0) = T.e
        rw [hq]
        exact upd_same _ _ _
    · exact ⟨fun _ h => by have h9 : T.apc + 1 = 10 := h; omega, .inl (ep_of (x := (5, T.hs, p)) rfl (by show ¬ (5 : Int) = 1; decide)), fun h1 h2 => absurd h1 h2⟩
  · have ha : actM C d T f = ({ (retireM T f).2.1 with pc := if (retireM T f).1 = 0 then 3 else 0, full := false }, (retireM T f).2.2) := by
      unfold actM
      rw [if_neg (by omega), if_neg (by omega), if_pos h]
    rw [ha]
    unfold retireM
    split
    · exact ⟨fun h => no h rfl, .inl rfl, fun h1 h2 => absurd h1 h2⟩
    · exact ⟨fun h => no h rfl, .inl (ep_of (x := (5, T.rs, 1)) rfl (by show ¬ (5 : Int) = 1; decide)), fun h1 h2 => absurd h1 h2⟩
  · have ha : actM C d T f = ({ (giveM C T f).2.1 with pc := if (giveM C T f).1 = 0 then 4 else 0, full := false }, (giveM C T f).2.2) := by
      unfold actM
      rw [if_neg (by omega), if_neg (by omega), if_neg (by omega)]
    rw [ha]
    have hk : ∀ r : Int × Th × Mem, r.2.1.hs = T.hs → (r.2.2 (1, 0, 0) = f (1, 0, 0)) → EpS f r.2.2 T { r.2.1 with pc := if r.1 = 0 then 4 else 0, full := false } := fun r h1 h2 =>
      ⟨fun h => by exfalso; dsimp only at h; split at h <;> omega, .inl h2, fun h3 h4 => absurd (h1.trans h3) h4⟩
    refine hk _ ?_ ?_
    · unfold giveM
      split; rfl
      split; rfl
      split; rfl
      split <;> rfl
    · unfold giveM
      split; rfl
      split; rfl
      split; exact ep_of (x := (5, (T.ql.headD t0).1, 2)) rfl (by show ¬ (5 : Int) = 1; decide)
      split
      all_goals (show swf f _ _ _ _ = _; rw [swf_at, if_neg (by simp)])
theorem begin_hs : ∀ (r : List Dd) (T : Th), T.hs = 0 → (beginM r T).2.hs = 0
  | [], T, h => h
  | d :: r, T, h => by
    unfold beginM
    split
    · (try rw [if_pos h]); exact h
    · split
      · (try rw [if_pos h]); exact begin_hs r _ h
      · split
        · exact h
        · split
          · (try rw [if_pos h]); exact begin_hs r _ h
          · exact begin_hs r _ h
theorem step_ep (hT : OkT C ds B T) (hE : TEp T) : EpS f (stepM C ds T f).2 T (stepM C ds T f).1 := by
  unfold stepM
  by_cases hp : T.pc = 0
  · rw [if_pos hp]
    obtain ⟨h1, h2, h3⟩ := begin_ok 0 (ds.drop T.nd) T rfl hT hp
    dsimp only at h1 h2 h3 ⊢
    by_cases hb : (beginM (ds.drop T.nd) T).1 = true
    · rw [if_pos hb]
      have h4 := h3 hb
      have hE1 : TEp (beginM (ds.drop T.nd) T).2 := fun h => by omega
      obtain ⟨g1, g2, g3⟩ := act_ep (f := f) (d := ds.getD ((beginM (ds.drop T.nd) T).2.nd - 1) ⟨0, 0, 0, 0, 0⟩) h1 hE1 (by omega)
      refine ⟨g1, g2, fun h5 h6 => ?_⟩
      exfalso
      have h7 := begin_hs (ds.drop T.nd) T h5
      have hpc := h1.pc
      refine h6 ?_
      rcases h4 with h | h | h
      · unfold actM
        rw [if_pos h]
        exact h7
      · unfold actM
        rw [if_neg (by omega), if_neg (by omega), if_pos h]
        unfold retireM
        split <;> exact h7
      · unfold actM
        rw [if_neg (by omega), if_neg (by omega), if_neg (by omega)]
        unfold giveM
        split; exact h7
        split; exact h7
        split; exact h7
        split <;> exact h7
    · rw [if_neg hb]
      have hpc : (beginM (ds.drop T.nd) T).2.pc = 0 := by
        rw [h2]
        rw [if_neg hb]
      exact ⟨fun h => by have h' : (beginM (ds.drop T.nd) T).2.pc = 2 := h; omega, .inl rfl, fun h5 h6 => absurd (begin_hs _ T h5) h6⟩
  · rw [if_neg hp]
    exact act_ep hT hE hp
end
end Go.Proofs.YtmifdkbpbkafjaaGreatDoor
