/- Places as a map's keys; a map of words by places, read as a function that is 0 where nothing is. -/
import Derived.Test.YtnlepgbmbdmjbaaChecked
import Derived.Test.YtnlepgbmbdmjbaaTurn
import Derived.Test.YtnlepgbmbdmjbaaNum
import Derived.DeepKeys4
import Derived.Maps.Range
namespace Go.Proofs.Ytnlepgbmbdmjbaa
open Go.RowKit Go.Maps
set_option maxRecDepth 100000

/-- Three numbers. -/
abbrev Plc := Int × Int × Int
def Wf (x : Plc) : Prop := In64 x.1 ∧ In64 x.2.1 ∧ In64 x.2.2
def pv (x : Plc) : Value := .agg #[.int .i64 x.1, .int .i64 x.2.1, .int .i64 x.2.2]
def kl (x : Plc) : Lit := .string (keyBytes [.int .i64 x.1, .int .i64 x.2.1, .int .i64 x.2.2])

theorem laidOutP : laidOutB Try.prog = true := by kernel_rfl
theorem rowPlace : (39 : TypeId) < Try.prog.types.size := of_decide_eq_true (by kernel_rfl)
theorem widePlace : (match Try.prog.underlying 39 with | some (.array _ _) | some (.struct _) => true | _ => false) = true := by rw [Try.underlying39]
theorem keyPlace : Keyed Try.prog 39 := Keyed.of_law (deep_law_laid laidOutP (m := 2) (by omega) rowPlace (by kernel_rfl) widePlace)
theorem typePlace : Try.prog.keyType 39 = true := by kernel_rfl
theorem cellsPlace : Try.prog.cellsOf 39 = 3 := by kernel_rfl
theorem cellsIntP : Try.prog.cellsOf 3 = 1 := by kernel_rfl
theorem typesPos : 0 < Try.prog.types.size := Nat.lt_of_le_of_lt (Nat.zero_le _) rowPlace

section
variable {P : Program} {k e : TypeId} {f0 f1 f2 : Field}
theorem lits_three (hk : P.underlying k = some (.struct #[f0, f1, f2])) (t0 : f0.type = e) (t1 : f1.type = e) (t2 : f2.type = e) (he : P.underlying e = some (.int .i64)) (ck : P.cellsOf k = 3) (ce : P.cellsOf e = 1)
    (o0 : f0.offset = 0) (o1 : f1.offset = 1) (o2 : f2.offset = 2) (hn : (#[f0, f1, f2] : Array Field).all (·.name != "_") = true) (d : Nat) (u v w : Value) :
    P.keyLits (d + 2) k [u, v, w] = (P.keyLits (d + 1) e [u]).bind fun a => (P.keyLits (d + 1) e [v]).bind fun b => (P.keyLits (d + 1) e [w]).map fun c => a ++ (b ++ c) := by
  generalize hR : (P.keyLits (d + 1) e [u]).bind _ = R
  unfold Program.keyLits
  rw [hk]
  dsimp only
  rw [if_pos ⟨by rw [ck]; rfl, hn⟩, ← hR]
  simp only [List.mapM_cons, List.mapM_nil, t0, t1, t2, o0, o1, o2, ce, List.drop_zero, List.drop_succ_cons, List.take_succ_cons, List.take_zero]
  cases P.keyLits (d + 1) e [u] with
  | none => rfl
  | some a =>
    cases P.keyLits (d + 1) e [v] with
    | none => rfl
    | some b =>
      cases P.keyLits (d + 1) e [w] with
      | none => rfl
      | some c => simp [pure]
theorem lits_one (he : P.underlying e = some (.int .i64)) (d : Nat) (u : Value) {l : List Lit} : P.keyLits (d + 1) e [u] = some l ↔ ∃ n, u = .int .i64 n ∧ In64 n ∧ l = [.int .i64 n] := by
  constructor
  · intro h
    unfold Program.keyLits at h
    rw [he] at h
    cases u <;> simp at h
    obtain ⟨⟨rfl, hw⟩, rfl⟩ := h
    exact ⟨_, rfl, wf_i.1 hw, rfl⟩
  · rintro ⟨n, rfl, hn, rfl⟩
    unfold Program.keyLits
    rw [he]
    simp [wf_i.2 hn]
end

theorem litsPlace (d : Nat) (u v w : Value) : Try.prog.keyLits (d + 2) 39 [u, v, w] = (Try.prog.keyLits (d + 1) 3 [u]).bind fun a => (Try.prog.keyLits (d + 1) 3 [v]).bind fun b => (Try.prog.keyLits (d + 1) 3 [w]).map fun c => a ++ (b ++ c) :=
  lits_three Try.underlying39 rfl rfl rfl Try.underlying3 cellsPlace cellsIntP rfl rfl rfl (by kernel_rfl) d u v w
theorem depthP : ∃ d, Try.prog.types.size + 1 = d + 2 := ⟨Try.prog.types.size - 1, by have := typesPos; omega⟩

theorem key_mk (x : Plc) (h : Wf x) : keyOf Try.prog 39 (pv x) = some (kl x) := by
  obtain ⟨a, b, c⟩ := x
  obtain ⟨h1, h2, h3⟩ := h
  unfold keyOf
  rw [Try.underlying39, typePlace]
  have hf : (pv (a, b, c)).formed Try.prog 39 = true := by simp [pv, Value.formed, Try.underlying39, cellsPlace]
  rw [hf]
  obtain ⟨d, hd⟩ := depthP
  rw [hd]
  show (if (true && true) = true then (Try.prog.keyLits (d + 2) 39 [.int .i64 a, .int .i64 b, .int .i64 c]).map fun ls => Lit.string (keyBytes ls) else none) = _
  rw [litsPlace, (lits_one Try.underlying3 d _).2 ⟨a, rfl, h1, rfl⟩, (lits_one Try.underlying3 d _).2 ⟨b, rfl, h2, rfl⟩, (lits_one Try.underlying3 d _).2 ⟨c, rfl, h3, rfl⟩]
  rfl

theorem key_inv {v : Value} {l : Lit} (h : keyOf Try.prog 39 v = some l) : ∃ x, Wf x ∧ v = pv x ∧ l = kl x := by
  unfold keyOf at h
  rw [Try.underlying39, typePlace] at h
  simp only [Bool.true_and] at h
  split at h
  · rename_i hf
    have hv : ∃ a b c, v = .agg #[a, b, c] := by
      cases v <;> simp [Value.formed, Try.underlying39, cellsPlace] at hf
      rename_i cs
      obtain ⟨l⟩ := cs
      match l, hf with
      | [a, b, c], _ => exact ⟨a, b, c, rfl⟩
    obtain ⟨a, b, c, rfl⟩ := hv
    obtain ⟨d, hd⟩ := depthP
    rw [hd] at h
    change (Try.prog.keyLits (d + 2) 39 [a, b, c]).map (fun ls => Lit.string (keyBytes ls)) = some l at h
    rw [litsPlace] at h
    cases ha : Try.prog.keyLits (d + 1) 3 [a] with
    | none => rw [ha] at h; cases h
    | some la =>
      cases hb : Try.prog.keyLits (d + 1) 3 [b] with
      | none => rw [ha, hb] at h; cases h
      | some lb =>
        cases hc : Try.prog.keyLits (d + 1) 3 [c] with
        | none => rw [ha, hb, hc] at h; cases h
        | some lc =>
          rw [ha, hb, hc] at h
          obtain ⟨na, rfl, ia, rfl⟩ := (lits_one Try.underlying3 d _).1 ha
          obtain ⟨nb, rfl, ib, rfl⟩ := (lits_one Try.underlying3 d _).1 hb
          obtain ⟨nc, rfl, ic, rfl⟩ := (lits_one Try.underlying3 d _).1 hc
          exact ⟨(na, nb, nc), ⟨ia, ib, ic⟩, rfl, (Option.some.inj h).symm⟩
  · cases h
theorem kl_inj {x y : Plc} (hx : Wf x) (hy : Wf y) (h : kl x = kl y) : x = y := by
  have := keyPlace.inj (key_mk x hx) (h ▸ key_mk y hy)
  obtain ⟨a, b, c⟩ := x
  obtain ⟨a', b', c'⟩ := y
  simp [pv] at this
  simp [this]
theorem kl_key (x : Plc) : WideAt.IsKeyLit (kl x) := trivial

/-! ### a map of words, as a function -/
def wd (v : Int) : DataW Unit := .lit (.int .u64 v)
def upd (f : Plc → Int) (x : Plc) (v : Int) : Plc → Int := fun y => if y = x then v else f y
theorem upd_same (f : Plc → Int) (x : Plc) (v : Int) : upd f x v x = v := by simp [upd]
theorem upd_other (f : Plc → Int) {x y : Plc} (v : Int) (h : y ≠ x) : upd f x v y = f y := by simp [upd, h]
theorem upd_self (f : Plc → Int) (x : Plc) : upd f x (f x) = f := by funext y; unfold upd; split <;> simp_all
/-- A function that is a word everywhere, and 0 but at places. -/
structure Words (f : Plc → Int) : Prop where
  u : ∀ x, InU (f x)
  out : ∀ x, ¬ Wf x → f x = 0
theorem Words.zero : Words fun _ => 0 := ⟨fun _ => ⟨by omega, by omega⟩, fun _ _ => rfl⟩
theorem Words.set {f : Plc → Int} (h : Words f) {x : Plc} (hx : Wf x) {v : Int} (hv : InU v) : Words (upd f x v) := by
  refine ⟨fun y => ?_, fun y hy => ?_⟩
  · unfold upd; split
    · exact hv
    · exact h.u y
  · rw [upd_other _ _ (fun e => hy (by rw [e]; exact hx))]
    exact h.out y hy
structure ReadsF (D : DataW Unit) (f : Plc → Int) : Prop where
  words : Words f
  at' : ∀ x, Wf x → D.atKey (kl x) (wd 0) = wd (f x)
  has' : ∀ x, Wf x → Maps.has D (kl x) = decide (f x ≠ 0)
theorem ReadsF.empty : ReadsF (.map []) fun _ => 0 := ⟨Words.zero, fun _ _ => rfl, fun _ _ => by simp [Maps.has]⟩
theorem ReadsF.put {D : DataW Unit} {f : Plc → Int} (h : ReadsF D f) (hD : IsMap D) {x : Plc} (hx : Wf x) {v : Int} (hv : InU v) (h0 : v ≠ 0) : ReadsF (D.put (kl x) (wd v)) (upd f x v) := by
  refine ⟨h.words.set hx hv, fun y hy => ?_, fun y hy => ?_⟩
  · by_cases e : y = x
    · subst e; rw [upd_same]; exact atKey_put_same hD (kl_key _) _ _
    · rw [upd_other _ _ e, atKey_put_other (fun e' => e (kl_inj hy hx e')), h.at' y hy]
  · by_cases e : y = x
    · subst e; rw [upd_same, has_put_same hD (kl_key _)]; simp [h0]
    · rw [upd_other _ _ e, has_put_other (fun e' => e (kl_inj hy hx e')), h.has' y hy]
theorem ReadsF.del {D : DataW Unit} {f : Plc → Int} (h : ReadsF D f) {x : Plc} (hx : Wf x) : ReadsF (D.del (kl x)) (upd f x 0) := by
  refine ⟨h.words.set hx ⟨by omega, by omega⟩, fun y hy => ?_, fun y hy => ?_⟩
  · by_cases e : y = x
    · subst e; rw [upd_same]; exact atKey_del_same _
    · rw [upd_other _ _ e, atKey_del_other (fun e' => e (kl_inj hy hx e')), h.at' y hy]
  · by_cases e : y = x
    · subst e; rw [upd_same, has_del_same]; simp
    · rw [upd_other _ _ e, has_del_other (fun e' => e (kl_inj hy hx e')), h.has' y hy]

theorem zeroWord (w : World) : (zeroValue 35).run Try.prog w = .ok (.int .u64 0) w := by kernel_rfl
/-- What a map, nil or not, is good for: f, in at most n entries. -/
def MapIs (w : World) (mp : Option Nat) (f : Plc → Int) (n : Nat) : Prop :=
  (mp = none ∧ f = fun _ => 0) ∨ ∃ b D, mp = some b ∧ w.ownsMap Try.prog 39 (plainElem (H := Unit) Try.prog 35) b n D ∧ ReadsF D f
theorem MapIs.words {w : World} {mp : Option Nat} {f : Plc → Int} {n : Nat} (h : MapIs w mp f n) : Words f := by
  rcases h with ⟨_, rfl⟩ | ⟨b, D, _, _, h⟩
  · exact Words.zero
  · exact h.words
theorem MapIs.mono {w : World} {mp : Option Nat} {f : Plc → Int} {n m : Nat} (h : MapIs w mp f n) (hm : n ≤ m) : MapIs w mp f m := by
  rcases h with h | ⟨b, D, e, ho, hr⟩
  · exact .inl h
  · exact .inr ⟨b, D, e, ho.mono hm, hr⟩
theorem MapIs.lt {w : World} {mp : Option Nat} {f : Plc → Int} {n : Nat} (h : MapIs w mp f n) : ∀ b, mp = some b → b < w.heap.size := by
  rcases h with ⟨rfl, _⟩ | ⟨b, D, rfl, ho, hr⟩
  · intro b e; cases e
  · intro b' e; cases e; exact ho.lt
theorem MapIs.kept {w w' : World} {mp : Option Nat} {f : Plc → Int} {n : Nat} (h : MapIs w mp f n) (hk : ∀ b, mp = some b → w'.heap[b]? = w.heap[b]?) : MapIs w' mp f n := by
  rcases h with h | ⟨b, D, e, ⟨es, clock, hb, r⟩, hr⟩
  · exact .inl h
  · exact .inr ⟨b, D, e, ⟨es, clock, (hk b e).trans hb, r⟩, hr⟩
theorem MapIs.more {w : World} {mp : Option Nat} {f : Plc → Int} {n : Nat} (h : MapIs w mp f n) (o : Obj) : MapIs (w.alloc o) mp f n := h.kept fun b e => Below.heap_alloc _ _ _ (h.lt b e)
theorem MapIs.drew {w : World} {mp : Option Nat} {f : Plc → Int} {n : Nat} (h : MapIs w mp f n) : MapIs w.drew mp f n := h.kept fun _ _ => rfl
theorem MapIs.look {w : World} {mp : Option Nat} {f : Plc → Int} {n : Nat} (h : MapIs w mp f n) {x : Plc} (hx : Wf x) : (Instr.lookup 84 (.map mp) (pv x) false).run Try.prog w = .ok (.int .u64 (f x)) w := by
  rcases h with ⟨rfl, rfl⟩ | ⟨b, D, rfl, ho, hr⟩
  · have := Maps.look_nil (w := w) false keyPlace Try.underlying84 (zeroWord w) (key_mk x hx)
    simpa using this
  · obtain ⟨c, hrun, hat, _⟩ := ho.lookup_int keyPlace Try.underlying84 Try.underlying35 (zeroWord w) (key_mk x hx)
    have h1 := hr.at' x hx
    unfold wd at h1
    rw [h1] at hat
    simp at hat
    rw [hrun, hat]
theorem MapIs.drop {w : World} {mp : Option Nat} {f : Plc → Int} {n : Nat} (h : MapIs w mp f n) {x : Plc} (hx : Wf x) (ty : TypeId) :
    ∃ w', (Builtin.delete_ #[84, 39] ty #[.map mp, pv x]).run Try.prog w = .ok (.tuple #[]) w' ∧ MapIs w' mp (upd f x 0) n ∧ Turn (fun k => mp = some k) w w' := by
  rcases h with ⟨rfl, rfl⟩ | ⟨b, D, rfl, ho, hr⟩
  · refine ⟨w, Maps.drop_nil keyPlace Try.underlying84 (key_mk x hx) ty, .inl ⟨rfl, ?_⟩, Turn.refl _ _⟩
    funext y; simp [upd]
  · obtain ⟨w', hrun, ho', ht⟩ := ho.drop keyPlace Try.underlying84 (key_mk x hx) ty
    exact ⟨w', hrun, .inr ⟨b, _, rfl, ho', hr.del hx⟩, (Turn.refl _ _).turned ht fun _ => rfl⟩
theorem MapIs.store {w : World} {b : Nat} {f : Plc → Int} {n : Nat} (h : MapIs w (some b) f n) (hn : n < maxLen) {x : Plc} (hx : Wf x) {v : Int} (hv : InU v) (h0 : v ≠ 0) :
    ∃ w', (Instr.mapUpdate 84 (.map (some b)) (pv x) (.int .u64 v)).run Try.prog w = .ok () w' ∧ MapIs w' (some b) (upd f x v) (n + 1) ∧ Turn (fun k => k = b) w w' := by
  rcases h with ⟨e, _⟩ | ⟨b', D, e, ho, hr⟩
  · cases e
  · cases e
    obtain ⟨w', hrun, ho', ht⟩ := ho.store keyPlace Try.underlying84 hn (key_mk x hx) (plainElem_int Try.underlying35 (wf_u.2 hv))
    exact ⟨w', hrun, .inr ⟨b, _, rfl, ho', hr.put ho.isMap hx hv h0⟩, (Turn.refl _ _).turned ht fun _ => rfl⟩
theorem MapIs.made (w : World) : MapIs (w.alloc (.map #[] 0)) (some w.heap.size) (fun _ => 0) 0 := .inr ⟨_, _, rfl, World.ownsMap_made w _ _ _, ReadsF.empty⟩
end Go.Proofs.Ytnlepgbmbdmjbaa
