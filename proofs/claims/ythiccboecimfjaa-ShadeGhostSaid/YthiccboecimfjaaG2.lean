/- What is proved on the way to the statement, part 2 of 5: contracts of the functions, among other things in memory. -/
import Derived.Test.YthiccboecimfjaaG1
import Derived.Test.YthiccboecimfjaaChecked
import Derived.DeepKeys4
import Derived.Maps.Range
import Derived.Deep.Light
import Derived.Shelf.SlMaps.Clone
import Derived.Deep.AppendLies
import Derived.Maps.AppendAt
import Derived.OneCell
import Derived.Laws.OwnMore

/- Places as a map's keys; a map of words by places, read as a function that is 0 where nothing is. -/
namespace Go.Proofs.Ythiccboecimfjaa
open Go.RowKit Go.Maps
set_option maxRecDepth 100000

/-- Three numbers. -/
abbrev Plc := Int × Int × Int
def Wf (x : Plc) : Prop := In64 x.1 ∧ In64 x.2.1 ∧ In64 x.2.2
def pv (x : Plc) : Value := .agg #[.int .i64 x.1, .int .i64 x.2.1, .int .i64 x.2.2]
def kl (x : Plc) : Lit := .string (keyBytes [.int .i64 x.1, .int .i64 x.2.1, .int .i64 x.2.2])

theorem laidOutP : laidOutB Try.prog = true := by kernel_rfl
theorem rowPlace : (44 : TypeId) < Try.prog.types.size := of_decide_eq_true (by kernel_rfl)
theorem widePlace : (match Try.prog.underlying 44 with | some (.array _ _) | some (.struct _) => true | _ => false) = true := by rw [Try.underlying44]
theorem keyPlace : Keyed Try.prog 44 := Keyed.of_law (deep_law_laid laidOutP (m := 2) (by omega) rowPlace (by kernel_rfl) widePlace)
theorem typePlace : Try.prog.keyType 44 = true := by kernel_rfl
theorem cellsPlace : Try.prog.cellsOf 44 = 3 := by kernel_rfl
theorem cellsIntP : Try.prog.cellsOf 3 = 1 := by kernel_rfl
theorem typesPos : 0 < Try.prog.types.size := Nat.lt_of_le_of_lt (Nat.zero_le _) rowPlace

section
variable {P : Program} {k e : TypeId} {f0 f1 f2 : Field}
theorem lits_three (hk : P.underlying k = some (.struct #[f0, f1, f2])) (t0 : f0.type = e) (t1 : f1.type = e) (t2 : f2.type = e) (he : P.underlying e = some (.int .i64)) (ck : P.cellsOf k = 3) (ce : P.cellsOf e = 1)
    (o0 : f0.offset = 0) (o1 : f1.offset = 1) (o2 : f2.offset = 2) (hn : (#[f0, f1, f2] : Array Field).all (·.name != "_") = true) (d : Nat) (u v w : Value) :
    P.keyLits (d + 2) k [u, v, w] = (P.keyLits (d + 1) e [u]).bind fun a => (P.keyLits (d + 1) e [v]).bind fun b => (P.keyLits (d + 1) e [w]).map fun c => a ++ (b ++ c) := by
  generalize hR : (P.keyLits (d + 1) e [u]).bind _ = R
  unfold Program.keyLits
  rw [hk]
  dsimp only
  rw [if_pos ⟨by rw [ck]; rfl, hn⟩, ← hR]
  simp only [List.mapM_cons, List.mapM_nil, t0, t1, t2, o0, o1, o2, ce, List.drop_zero, List.drop_succ_cons, List.take_succ_cons, List.take_zero]
  cases P.keyLits (d + 1) e [u] with
  | none => rfl
  | some a =>
    cases P.keyLits (d + 1) e [v] with
    | none => rfl
    | some b =>
      cases P.keyLits (d + 1) e [w] with
      | none => rfl
      | some c => simp [pure]
theorem lits_one (he : P.underlying e = some (.int .i64)) (d : Nat) (u : Value) {l : List Lit} : P.keyLits (d + 1) e [u] = some l ↔ ∃ n, u = .int .i64 n ∧ In64 n ∧ l = [.int .i64 n] := by
  constructor
  · intro h
    unfold Program.keyLits at h
    rw [he] at h
    cases u <;> simp at h
    obtain ⟨⟨rfl, hw⟩, rfl⟩ := h
    exact ⟨_, rfl, wf_i.1 hw, rfl⟩
  · rintro ⟨n, rfl, hn, rfl⟩
    unfold Program.keyLits
    rw [he]
    simp [wf_i.2 hn]
end

theorem litsPlace (d : Nat) (u v w : Value) : Try.prog.keyLits (d + 2) 44 [u, v, w] = (Try.prog.keyLits (d + 1) 3 [u]).bind fun a => (Try.prog.keyLits (d + 1) 3 [v]).bind fun b => (Try.prog.keyLits (d + 1) 3 [w]).map fun c => a ++ (b ++ c) :=
  lits_three Try.underlying44 rfl rfl rfl Try.underlying3 cellsPlace cellsIntP rfl rfl rfl (by kernel_rfl) d u v w
theorem depthP : ∃ d, Try.prog.types.size + 1 = d + 2 := ⟨Try.prog.types.size - 1, by have := typesPos; omega⟩

theorem key_mk (x : Plc) (h : Wf x) : keyOf Try.prog 44 (pv x) = some (kl x) := by
  obtain ⟨a, b, c⟩ := x
  obtain ⟨h1, h2, h3⟩ := h
  unfold keyOf
  rw [Try.underlying44, typePlace]
  have hf : (pv (a, b, c)).formed Try.prog 44 = true := by simp [pv, Value.formed, Try.underlying44, cellsPlace]
  rw [hf]
  obtain ⟨d, hd⟩ := depthP
  rw [hd]
  show (if (true && true) = true then (Try.prog.keyLits (d + 2) 44 [.int .i64 a, .int .i64 b, .int .i64 c]).map fun ls => Lit.string (keyBytes ls) else none) = _
  rw [litsPlace, (lits_one Try.underlying3 d _).2 ⟨a, rfl, h1, rfl⟩, (lits_one Try.underlying3 d _).2 ⟨b, rfl, h2, rfl⟩, (lits_one Try.underlying3 d _).2 ⟨c, rfl, h3, rfl⟩]
  rfl

theorem key_inv {v : Value} {l : Lit} (h : keyOf Try.prog 44 v = some l) : ∃ x, Wf x ∧ v = pv x ∧ l = kl x := by
  unfold keyOf at h
  rw [Try.underlying44, typePlace] at h
  simp only [Bool.true_and] at h
  split at h
  · rename_i hf
    have hv : ∃ a b c, v = .agg #[a, b, c] := by
      cases v <;> simp [Value.formed, Try.underlying44, cellsPlace] at hf
      rename_i cs
      obtain ⟨l⟩ := cs
      match l, hf with
      | [a, b, c], _ => exact ⟨a, b, c, rfl⟩
    obtain ⟨a, b, c, rfl⟩ := hv
    obtain ⟨d, hd⟩ := depthP
    rw [hd] at h
    change (Try.prog.keyLits (d + 2) 44 [a, b, c]).map (fun ls => Lit.string (keyBytes ls)) = some l at h
    rw [litsPlace] at h
    cases ha : Try.prog.keyLits (d + 1) 3 [a] with
    | none => rw [ha] at h; cases h
    | some la =>
      cases hb : Try.prog.keyLits (d + 1) 3 [b] with
      | none => rw [ha, hb] at h; cases h
      | some lb =>
        cases hc : Try.prog.keyLits (d + 1) 3 [c] with
        | none => rw [ha, hb, hc] at h; cases h
        | some lc =>
          rw [ha, hb, hc] at h
          obtain ⟨na, rfl, ia, rfl⟩ := (lits_one Try.underlying3 d _).1 ha
          obtain ⟨nb, rfl, ib, rfl⟩ := (lits_one Try.underlying3 d _).1 hb
          obtain ⟨nc, rfl, ic, rfl⟩ := (lits_one Try.underlying3 d _).1 hc
          exact ⟨(na, nb, nc), ⟨ia, ib, ic⟩, rfl, (Option.some.inj h).symm⟩
  · cases h
theorem kl_inj {x y : Plc} (hx : Wf x) (hy : Wf y) (h : kl x = kl y) : x = y := by
  have := keyPlace.inj (key_mk x hx) (h ▸ key_mk y hy)
  obtain ⟨a, b, c⟩ := x
  obtain ⟨a', b', c'⟩ := y
  simp [pv] at this
  simp [this]
theorem kl_key (x : Plc) : WideAt.IsKeyLit (kl x) := trivial

/-! ### a map of words, as a function -/
def wd (v : Int) : DataW Unit := .lit (.int .u64 v)
def upd (f : Plc → Int) (x : Plc) (v : Int) : Plc → Int := fun y => if y = x then v else f y
theorem upd_same (f : Plc → Int) (x : Plc) (v : Int) : upd f x v x = v := by simp [upd]
theorem upd_other (f : Plc → Int) {x y : Plc} (v : Int) (h : y ≠ x) : upd f x v y = f y := by simp [upd, h]
theorem upd_self (f : Plc → Int) (x : Plc) : upd f x (f x) = f := by funext y; unfold upd; split <;> simp_all
/-- A function that is a word everywhere, and 0 but at places. -/
structure Words (f : Plc → Int) : Prop where
  u : ∀ x, InU (f x)
  out : ∀ x, ¬ Wf x → f x = 0
theorem Words.zero : Words fun _ => 0 := ⟨fun _ => ⟨by omega, by omega⟩, fun _ _ => rfl⟩
theorem Words.set {f : Plc → Int} (h : Words f) {x : Plc} (hx : Wf x) {v : Int} (hv : InU v) : Words (upd f x v) := by
  refine ⟨fun y => ?_, fun y hy => ?_⟩
  · unfold upd; split
    · exact hv
    · exact h.u y
  · rw [upd_other _ _ (fun e => hy (by rw [e]; exact hx))]
    exact h.out y hy
structure ReadsF (D : DataW Unit) (f : Plc → Int) : Prop where
  words : Words f
  at' : ∀ x, Wf x → D.atKey (kl x) (wd 0) = wd (f x)
  has' : ∀ x, Wf x → Maps.has D (kl x) = decide (f x ≠ 0)
theorem ReadsF.empty : ReadsF (.map []) fun _ => 0 := ⟨Words.zero, fun _ _ => rfl, fun _ _ => by simp [Maps.has]⟩
theorem ReadsF.put {D : DataW Unit} {f : Plc → Int} (h : ReadsF D f) (hD : IsMap D) {x : Plc} (hx : Wf x) {v : Int} (hv : InU v) (h0 : v ≠ 0) : ReadsF (D.put (kl x) (wd v)) (upd f x v) := by
  refine ⟨h.words.set hx hv, fun y hy => ?_, fun y hy => ?_⟩
  · by_cases e : y = x
    · subst e; rw [upd_same]; exact atKey_put_same hD (kl_key _) _ _
    · rw [upd_other _ _ e, atKey_put_other (fun e' => e (kl_inj hy hx e')), h.at' y hy]
  · by_cases e : y = x
    · subst e; rw [upd_same, has_put_same hD (kl_key _)]; simp [h0]
    · rw [upd_other _ _ e, has_put_other (fun e' => e (kl_inj hy hx e')), h.has' y hy]
theorem ReadsF.del {D : DataW Unit} {f : Plc → Int} (h : ReadsF D f) {x : Plc} (hx : Wf x) : ReadsF (D.del (kl x)) (upd f x 0) := by
  refine ⟨h.words.set hx ⟨by omega, by omega⟩, fun y hy => ?_, fun y hy => ?_⟩
  · by_cases e : y = x
    · subst e; rw [upd_same]; exact atKey_del_same _
    · rw [upd_other _ _ e, atKey_del_other (fun e' => e (kl_inj hy hx e')), h.at' y hy]
  · by_cases e : y = x
    · subst e; rw [upd_same, has_del_same]; simp
    · rw [upd_other _ _ e, has_del_other (fun e' => e (kl_inj hy hx e')), h.has' y hy]

theorem zeroWord (w : World) : (zeroValue 40).run Try.prog w = .ok (.int .u64 0) w := by kernel_rfl
/-- What a map, nil or not, is good for: f, in at most n entries. -/
def MapIs (w : World) (mp : Option Nat) (f : Plc → Int) (n : Nat) : Prop :=
  (mp = none ∧ f = fun _ => 0) ∨ ∃ b D, mp = some b ∧ w.ownsMap Try.prog 44 (plainElem (H := Unit) Try.prog 40) b n D ∧ ReadsF D f
theorem MapIs.words {w : World} {mp : Option Nat} {f : Plc → Int} {n : Nat} (h : MapIs w mp f n) : Words f := by
  rcases h with ⟨_, rfl⟩ | ⟨b, D, _, _, h⟩
  · exact Words.zero
  · exact h.words
theorem MapIs.mono {w : World} {mp : Option Nat} {f : Plc → Int} {n m : Nat} (h : MapIs w mp f n) (hm : n ≤ m) : MapIs w mp f m := by
  rcases h with h | ⟨b, D, e, ho, hr⟩
  · exact .inl h
  · exact .inr ⟨b, D, e, ho.mono hm, hr⟩
theorem MapIs.lt {w : World} {mp : Option Nat} {f : Plc → Int} {n : Nat} (h : MapIs w mp f n) : ∀ b, mp = some b → b < w.heap.size := by
  rcases h with ⟨rfl, _⟩ | ⟨b, D, rfl, ho, hr⟩
  · intro b e; cases e
  · intro b' e; cases e; exact ho.lt
theorem MapIs.kept {w w' : World} {mp : Option Nat} {f : Plc → Int} {n : Nat} (h : MapIs w mp f n) (hk : ∀ b, mp = some b → w'.heap[b]? = w.heap[b]?) : MapIs w' mp f n := by
  rcases h with h | ⟨b, D, e, ⟨es, clock, hb, r⟩, hr⟩
  · exact .inl h
  · exact .inr ⟨b, D, e, ⟨es, clock, (hk b e).trans hb, r⟩, hr⟩
theorem MapIs.more {w : World} {mp : Option Nat} {f : Plc → Int} {n : Nat} (h : MapIs w mp f n) (o : Obj) : MapIs (w.alloc o) mp f n := h.kept fun b e => Below.heap_alloc _ _ _ (h.lt b e)
theorem MapIs.drew {w : World} {mp : Option Nat} {f : Plc → Int} {n : Nat} (h : MapIs w mp f n) : MapIs w.drew mp f n := h.kept fun _ _ => rfl
theorem MapIs.look {w : World} {mp : Option Nat} {f : Plc → Int} {n : Nat} (h : MapIs w mp f n) {x : Plc} (hx : Wf x) : (Instr.lookup 87 (.map mp) (pv x) false).run Try.prog w = .ok (.int .u64 (f x)) w := by
  rcases h with ⟨rfl, rfl⟩ | ⟨b, D, rfl, ho, hr⟩
  · have := Maps.look_nil (w := w) false keyPlace Try.underlying87 (zeroWord w) (key_mk x hx)
    simpa using this
  · obtain ⟨c, hrun, hat, _⟩ := ho.lookup_int keyPlace Try.underlying87 Try.underlying40 (zeroWord w) (key_mk x hx)
    have h1 := hr.at' x hx
    unfold wd at h1
    rw [h1] at hat
    simp at hat
    rw [hrun, hat]
theorem MapIs.drop {w : World} {mp : Option Nat} {f : Plc → Int} {n : Nat} (h : MapIs w mp f n) {x : Plc} (hx : Wf x) (ty : TypeId) :
    ∃ w', (Builtin.delete_ #[87, 44] ty #[.map mp, pv x]).run Try.prog w = .ok (.tuple #[]) w' ∧ MapIs w' mp (upd f x 0) n ∧ Turn (fun k => mp = some k) w w' := by
  rcases h with ⟨rfl, rfl⟩ | ⟨b, D, rfl, ho, hr⟩
  · refine ⟨w, Maps.drop_nil keyPlace Try.underlying87 (key_mk x hx) ty, .inl ⟨rfl, ?_⟩, Turn.refl _ _⟩
    funext y; simp [upd]
  · obtain ⟨w', hrun, ho', ht⟩ := ho.drop keyPlace Try.underlying87 (key_mk x hx) ty
    exact ⟨w', hrun, .inr ⟨b, _, rfl, ho', hr.del hx⟩, (Turn.refl _ _).turned ht fun _ => rfl⟩
theorem MapIs.store {w : World} {b : Nat} {f : Plc → Int} {n : Nat} (h : MapIs w (some b) f n) (hn : n < maxLen) {x : Plc} (hx : Wf x) {v : Int} (hv : InU v) (h0 : v ≠ 0) :
    ∃ w', (Instr.mapUpdate 87 (.map (some b)) (pv x) (.int .u64 v)).run Try.prog w = .ok () w' ∧ MapIs w' (some b) (upd f x v) (n + 1) ∧ Turn (fun k => k = b) w w' := by
  rcases h with ⟨e, _⟩ | ⟨b', D, e, ho, hr⟩
  · cases e
  · cases e
    obtain ⟨w', hrun, ho', ht⟩ := ho.store keyPlace Try.underlying87 hn (key_mk x hx) (plainElem_int Try.underlying40 (wf_u.2 hv))
    exact ⟨w', hrun, .inr ⟨b, _, rfl, ho', hr.put ho.isMap hx hv h0⟩, (Turn.refl _ _).turned ht fun _ => rfl⟩
theorem MapIs.made (w : World) : MapIs (w.alloc (.map #[] 0)) (some w.heap.size) (fun _ => 0) 0 := .inr ⟨_, _, rfl, World.ownsMap_made w _ _ _, ReadsF.empty⟩
end Go.Proofs.Ythiccboecimfjaa

/- Shared cells: what they are in memory; the contracts of the functions of package cell that work on words. -/
namespace Go.Proofs.Ythiccboecimfjaa
open Go.RowKit Go.Maps
set_option maxRecDepth 100000

/-- How many accesses there were. -/
structure Cnt where
  l : Int
  s : Int
  w : Int
  f : Int
  a : Int
def cv (mp : Option Nat) (q : Cnt) : List Value := [.map mp, .int .i64 q.l, .int .i64 q.s, .int .i64 q.w, .int .i64 q.f, .int .i64 q.a]
/-- Block c is shared cells: the words f, in at most n entries, the counts q; F are the blocks that it is made of. -/
def IsC (w : World) (c : Nat) (F : Nat → Prop) (f : Plc → Int) (q : Cnt) (n : Nat) : Prop :=
  ∃ mp, Blk 0 w c (cv mp q) ∧ MapIs w mp f n ∧ ∀ k, F k ↔ (k = c ∨ mp = some k)

theorem not_map_cells {w : World} {mp : Option Nat} {f : Plc → Int} {n c : Nat} {v : Value} {vs : List Value} (h : MapIs w mp f n) (hb : Blk 0 w c (v :: vs)) : mp ≠ some c := by
  rintro rfl
  rcases h with ⟨e, _⟩ | ⟨b, D, e, ⟨es, clock, hm, _⟩, _⟩
  · cases e
  · cases e
    have := hb.rule 0
    simp [World.cell?, hm] at this
theorem IsC.lt {w : World} {c : Nat} {F : Nat → Prop} {f : Plc → Int} {q : Cnt} {n : Nat} (h : IsC w c F f q n) : ∀ k, F k → k < w.heap.size := by
  obtain ⟨mp, hb, hm, hF⟩ := h
  intro k hk
  rcases (hF k).1 hk with rfl | e
  · exact hb.1
  · exact hm.lt k e
theorem IsC.over {w w' : World} {c : Nat} {F T : Nat → Prop} {f : Plc → Int} {q : Cnt} {n : Nat} (h : IsC w c F f q n) (ht : Turn T w w') (hd : ∀ k, F k → ¬ T k) : IsC w' c F f q n := by
  have hlt := h.lt
  obtain ⟨mp, hb, hm, hF⟩ := h
  exact ⟨mp, hb.kept ht.size (ht.block c hb.1 (hd c ((hF c).2 (.inl rfl)))), hm.kept fun b e => ht.block b (hm.lt b e) (hd b ((hF b).2 (.inr e))), hF⟩
theorem IsC.mono {w : World} {c : Nat} {F : Nat → Prop} {f : Plc → Int} {q : Cnt} {n m : Nat} (h : IsC w c F f q n) (hm : n ≤ m) : IsC w c F f q m := by
  obtain ⟨mp, hb, hp, hF⟩ := h
  exact ⟨mp, hb, hp.mono hm, hF⟩
theorem IsC.words {w : World} {c : Nat} {F : Nat → Prop} {f : Plc → Int} {q : Cnt} {n : Nat} (h : IsC w c F f q n) : Words f := by
  obtain ⟨mp, hb, hp, hF⟩ := h
  exact hp.words

/-- What the call itself has boxed and made; the cells as they are. -/
def At (F : Nat → Prop) (c : Nat) (w0 : World) (B : Nat) (bv : List Value) (mp : Option Nat) (q : Cnt) (w : World) : Prop := Turn F w0 w ∧ Blk 0 w c (cv mp q) ∧ Blk 0 w B bv

theorem At.drew {F : Nat → Prop} {c B : Nat} {w0 w : World} {bv : List Value} {mp : Option Nat} {q : Cnt} (h : At F c w0 B bv mp q w) : At F c w0 B bv mp q w.drew := ⟨h.1.drew, h.2.1, h.2.2⟩

/-- The map's own block turns: what the call has boxed and the cells' block stay. -/
theorem At.map {F T : Nat → Prop} {c B : Nat} {w0 w w' : World} {bv : List Value} {mp : Option Nat} {q : Cnt} (h : At F c w0 B bv mp q w) (ht : Turn T w w') (hF : ∀ k, k < w0.heap.size → T k → F k) (hc : ¬ T c) (hB : ¬ T B) : At F c w0 B bv mp q w' :=
  ⟨h.1.then ht hF, h.2.1.kept ht.size (ht.block _ h.2.1.1 hc), h.2.2.kept ht.size (ht.block _ h.2.2.1 hB)⟩

set_option maxHeartbeats 800000 in
theorem put_zero {c n : Nat} {F : Nat → Prop} {f : Plc → Int} {q : Cnt} {w : World} (a b d : Int) (hx : Wf (a, b, d)) (hC : IsC w c F f q n) :
    Calls Try.prog 70 #[.pointer (some ⟨c, 0, none⟩), .agg #[.int .i64 a, .int .i64 b, .int .i64 d], .int .u64 0] w fun e w' => e = .returned (.tuple #[]) ∧ ∃ F', IsC w' c F' (upd f (a, b, d) 0) q n ∧ Step F F' w w' := by
  obtain ⟨mp, hb, hm, hF⟩ := hC
  have hcl := hb.1
  have hA : At F c w w.heap.size [.int .i64 a, .int .i64 b, .int .i64 d] mp q (w.alloc (.cells #[.int .i64 a, .int .i64 b, .int .i64 d] 44)) := ⟨(Turn.refl _ _).alloc _, hb.kept (by simp) (Below.heap_alloc _ _ _ hcl), Blk.new _ _ _ _⟩
  have hM : MapIs (w.alloc (.cells #[.int .i64 a, .int .i64 b, .int .i64 d] 44)) mp f n := hm.kept fun k e => Below.heap_alloc _ _ _ (hm.lt k e)
  go_enter Try.func70, Try.ntmps70
  go_wp2_with fail
  refine Ord.wp_chain [5] (At F c w w.heap.size [.int .i64 a, .int .i64 b, .int .i64 d] mp q) (fun j w' => MapIs w' mp (if j = 0 then f else upd f (a, b, d) 0) n) (by kernel_rfl) (by kernel_rfl) (by kernel_rfl) hA.drew hM.drew (fun hT => ?_)
  have hT9 := Lib.hid hT
  clear hT
  repeat (first
    | (refine Ord.ch_value (v := ?_) hT9.out (by decide) (by rfl) ?_ ?_; rotate_left; (focus (intro w5 hS; have r := hS.2.1.rule; unfold cv at r; have r2 := hS.2.2.rule; go_simp <;> with_reducible rfl)); (try simp only [Act.put, List.setIfInBounds_toArray, List.set_cons_zero, List.set_cons_succ]))
    | (refine Ord.ch_off hT9.out (by decide) (by rfl) ?_; (try simp only [Act.put, List.setIfInBounds_toArray, List.set_cons_zero, List.set_cons_succ])))
  refine Ord.ch_turn (v := .tuple #[]) 0 hT9.out rfl (by decide) (Or.inl rfl) (by rfl) ?_ ?_
  · intro w5 hA5 hM5
    obtain ⟨w6, hrun, hM6, ht⟩ := MapIs.drop hM5 hx 0
    simp only [pv] at hrun
    simp [execOp, resolve, invoke, builtin, Act.eval, hrun, Result.andThen]
    refine ⟨rfl, hA5.map ht (fun k hk e => (hF k).2 (.inr e)) (fun e => not_map_cells hM5 hA5.2.1 e) (fun e => not_map_cells hM5 hA5.2.2 e), hM6⟩
  refine Ord.InText.nil fun w5 hS => ?_
  clear hT9
  obtain ⟨hA9, hM9⟩ := Ord.chain_end hS
  clear hS
  go_wp2
  refine bodyPost_ret (results_none rfl _ _ _) rfl ?_
  exact ⟨rfl, F, ⟨mp, hA9.2.1, hM9, hF⟩, ⟨hA9.1, fun k h => .inl h⟩⟩

/-- m is the cells' own map, or new. -/
def MapOf (F : Nat → Prop) (w : World) (c m : Nat) : Prop := (∀ k, k < w.heap.size → k = m → F k) ∧ ∀ k, (k = c ∨ some m = some k) → F k ∨ w.heap.size ≤ k
theorem MapOf.mk {F : Nat → Prop} {w : World} {c m : Nat} (hc : F c) (hm : F m ∨ w.heap.size ≤ m) : MapOf F w c m := by
  refine ⟨fun k hk e => ?_, fun k e => ?_⟩
  · subst e
    rcases hm with h | h
    · exact h
    · omega
  · rcases e with rfl | e
    · exact .inl hc
    · cases e; exact hm

set_option maxHeartbeats 1600000 in
theorem put_word {c n : Nat} {F : Nat → Prop} {f : Plc → Int} {q : Cnt} {w : World} (a b d v : Int) (hx : Wf (a, b, d)) (hv : InU v) (h0 : v ≠ 0) (hn : n < maxLen) (hC : IsC w c F f q n) :
    Calls Try.prog 70 #[.pointer (some ⟨c, 0, none⟩), .agg #[.int .i64 a, .int .i64 b, .int .i64 d], .int .u64 v] w fun e w' => e = .returned (.tuple #[]) ∧ ∃ F', IsC w' c F' (upd f (a, b, d) v) q (n + 1) ∧ Step F F' w w' := by
  obtain ⟨mp, hb, hm, hF⟩ := hC
  have hcl := hb.1
  have hv0 : (v == 0) = false := by simpa using h0
  have hq := fun w => run_eql_map_nil_sl (P := Try.prog) w 87 _ _ mp Try.underlying87
  have hmm := @run_makeMap Try.prog
  have r0 : ∀ (o1 : Obj) i, (w.alloc o1).cell? ⟨c, i, none⟩ = (cv mp q)[i]? := fun o1 i => (hb.more o1).rule i
  have z0 : w.frozen? ⟨c, 0, none⟩ = false := hb.thaw 0 (by simp [cv])
  simp only [cv] at r0
  have hE : Hid (∃ m n' W1, At F c w w.heap.size [.int .i64 a, .int .i64 b, .int .i64 d] (some m) q W1 ∧ MapIs W1 (some m) f n' ∧ n' ≤ n ∧ MapOf F w c m ∧
      (W1 = w.alloc (.cells #[.int .i64 a, .int .i64 b, .int .i64 d] 44) ∧ mp = some m ∨ mp = none ∧ W1 = ((w.setCell ⟨c, 0, none⟩ (.map (some (w.heap.size + 1)))).alloc (.cells #[.int .i64 a, .int .i64 b, .int .i64 d] 44)).alloc (.map #[] 0))) := by
    cases mp with
    | none =>
      rcases hm with ⟨_, rfl⟩ | ⟨b', D, e, _⟩
      · refine ⟨w.heap.size + 1, 0, _, ⟨(((Turn.refl _ _).setCell (fun _ => (hF c).2 (.inl rfl)) _).alloc _).alloc _, (((hb.set (i := 0) (by simp [cv]) (.map (some (w.heap.size + 1)))).more _).more _), (Blk.new 0 (w.setCell ⟨c, 0, none⟩ (.map (some (w.heap.size + 1)))) [.int .i64 a, .int .i64 b, .int .i64 d] 44).at (by simp) |>.more _⟩, ?_, Nat.zero_le _, MapOf.mk ((hF c).2 (.inl rfl)) (.inr (by omega)), .inr ⟨rfl, rfl⟩⟩
        have := MapIs.made ((w.setCell ⟨c, 0, none⟩ (.map (some (w.heap.size + 1)))).alloc (.cells #[.int .i64 a, .int .i64 b, .int .i64 d] 44))
        simpa using this
      · cases e
    | some m => exact ⟨m, n, _, ⟨(Turn.refl _ _).alloc _, hb.more _, Blk.new _ _ _ _⟩, hm.more _, Nat.le_refl _, MapOf.mk ((hF c).2 (.inl rfl)) (.inl ((hF m).2 (.inr rfl))), .inl ⟨rfl, rfl⟩⟩
  clear hF hm
  obtain ⟨m, n', W1, hA, hM, hn', hmm', hW⟩ := hE.out
  clear hE
  rcases hW with ⟨rfl, rfl⟩ | ⟨rfl, rfl⟩
  all_goals
    simp only [Option.isNone_none, Option.isNone_some] at hq
    go_enter Try.func70, Try.ntmps70
    go_wp2_with fail
    clear r0 z0 hq hb
    refine Ord.wp_chain [6] (At F c w w.heap.size [.int .i64 a, .int .i64 b, .int .i64 d] (some m) q) (fun j w' => MapIs w' (some m) (if j = 0 then f else upd f (a, b, d) v) (n' + j)) (by kernel_rfl) (by kernel_rfl) (by kernel_rfl) hA.drew hM.drew (fun hT => ?_)
    have hT9 := Lib.hid hT
    clear hT
    repeat (first
      | (refine Ord.ch_value (v := ?_) hT9.out (by decide) (by rfl) ?_ ?_; rotate_left; (focus (intro w5 hS; have r := hS.2.1.rule; unfold cv at r; have r2 := hS.2.2.rule; go_simp <;> with_reducible rfl)); (try simp only [Act.put, List.setIfInBounds_toArray, List.set_cons_zero, List.set_cons_succ]))
      | (refine Ord.ch_off hT9.out (by decide) (by rfl) ?_; (try simp only [Act.put, List.setIfInBounds_toArray, List.set_cons_zero, List.set_cons_succ])))
    refine Ord.ch_turn (v := undef) 0 hT9.out rfl (by decide) (Or.inl rfl) (by rfl) ?_ ?_
    · intro w5 hA5 hM5
      obtain ⟨w6, hrun, hM6, ht⟩ := MapIs.store hM5 (by omega) hx hv h0
      simp only [pv] at hrun
      simp [execOp, Act.eval, hrun, Result.andThen]
      refine ⟨rfl, hA5.map ht hmm'.1 (fun e => not_map_cells hM5 hA5.2.1 (by rw [e])) (fun e => not_map_cells hM5 hA5.2.2 (by rw [e])), hM6⟩
    refine Ord.InText.nil fun w5 hS => ?_
    clear hT9
    obtain ⟨hA9, hM9⟩ := Ord.chain_end hS
    clear hS
    go_wp2
    go_end0
    refine ⟨rfl, fun k => k = c ∨ some m = some k, ⟨some m, hA9.2.1, hM9.mono (by simp; omega), fun k => Iff.rfl⟩, ⟨hA9.1, hmm'.2⟩⟩
end Go.Proofs.Ythiccboecimfjaa

/- Shared cells: the contracts of the accesses. -/
namespace Go.Proofs.Ythiccboecimfjaa
open Go.RowKit Go.Maps
set_option maxRecDepth 100000

section
variable {w w' : World} {c n : Nat} {F : Nat → Prop} {f : Plc → Int} {q : Cnt}
theorem IsC.more (h : IsC w c F f q n) (o : Obj) : IsC (w.alloc o) c F f q n := by
  obtain ⟨mp, hb, hm, hF⟩ := h
  exact ⟨mp, hb.more o, hm.more o, hF⟩
theorem IsC.drew (h : IsC w c F f q n) : IsC w.drew c F f q n := by
  obtain ⟨mp, hb, hm, hF⟩ := h
  exact ⟨mp, hb, hm.drew, hF⟩
theorem IsC.at (h : IsC w c F f q n) : F c := by
  obtain ⟨mp, hb, hm, hF⟩ := h
  exact (hF c).2 (.inl rfl)
theorem IsC.tick (h : IsC w c F f q n) {i : Nat} {v : Value} {q' : Cnt} (hi : 0 < i ∧ i < 6) (hq : ∀ mp, (cv mp q).set i v = cv mp q') : IsC (w.setCell ⟨c, i, none⟩ v) c F f q' n := by
  obtain ⟨mp, hb, hm, hF⟩ := h
  refine ⟨mp, hq mp ▸ hb.set (by simp [cv]; omega) v, hm.kept fun b e => Below.heap_setCell _ _ _ _ fun e' => not_map_cells hm hb (by rw [e]; exact congrArg some e'), hF⟩
theorem IsC.seen (h : IsC w c F f q n) : ∃ mp, (∀ i, w.cell? ⟨c, i, none⟩ = (cv mp q)[i]?) ∧ (∀ i, i < 6 → w.frozen? ⟨c, i, none⟩ = false) ∧ c < w.heap.size := by
  obtain ⟨mp, hb, hm, hF⟩ := h
  exact ⟨mp, hb.rule, hb.thaw, hb.1⟩
/-- A field of c, whatever has been made since. -/
theorem cell_more {vs : List Value} (hc : c < w.heap.size) (h : ∀ i, w.cell? ⟨c, i, none⟩ = vs[i]?) (o : Obj) : ∀ i, (w.alloc o).cell? ⟨c, i, none⟩ = vs[i]? := fun i => by rw [World.cell?_of_block (w := w) (Below.heap_alloc w o c hc)]; exact h i
end

theorem put_any {c n : Nat} {F : Nat → Prop} {f : Plc → Int} {q : Cnt} {w : World} (a b d v : Int) (hx : Wf (a, b, d)) (hv : InU v) (hn : n < maxLen) (hC : IsC w c F f q n) :
    Calls Try.prog 70 #[.pointer (some ⟨c, 0, none⟩), .agg #[.int .i64 a, .int .i64 b, .int .i64 d], .int .u64 v] w fun e w' => e = .returned (.tuple #[]) ∧ ∃ F', IsC w' c F' (upd f (a, b, d) v) q (n + 1) ∧ Step F F' w w' := by
  by_cases h0 : v = 0
  · subst h0
    exact (put_zero a b d hx hC).mono fun e w' ⟨h1, F', h2, h3⟩ => ⟨h1, F', h2.mono (Nat.le_succ _), h3⟩
  · exact put_word a b d v hx hv h0 hn hC

set_option maxHeartbeats 800000 in
theorem new_any (w : World) : Calls Try.prog 58 #[] w fun e w' => e = .returned (.pointer (some ⟨w.heap.size, 0, none⟩)) ∧ IsC w' w.heap.size (fun k => k = w.heap.size) (fun _ => 0) ⟨0, 0, 0, 0, 0⟩ 0 ∧ Below w.heap.size w w' := by
  go_enter Try.func58, Try.ntmps58
  go_wp2
  go_ret
  exact ⟨rfl, ⟨none, Blk.new 0 w (cv none ⟨0, 0, 0, 0, 0⟩) 89, .inl ⟨rfl, rfl⟩, fun k => by simp⟩, (Below.refl _ _).alloc (Nat.le_refl _) _⟩

set_option maxHeartbeats 800000 in
theorem peek_any {c n : Nat} {F : Nat → Prop} {f : Plc → Int} {q : Cnt} {w : World} (a b d : Int) (hx : Wf (a, b, d)) (hC : IsC w c F f q n) :
    Calls Try.prog 69 #[.pointer (some ⟨c, 0, none⟩), .agg #[.int .i64 a, .int .i64 b, .int .i64 d]] w fun e w' => e = .returned (.int .u64 (f (a, b, d))) ∧ Below w.heap.size w w' := by
  obtain ⟨mp, hb, hm, hF⟩ := hC
  go_enter Try.func69, Try.ntmps69
  go_wp2_with fail
  refine Ord.wp_chain [] (fun w' => (Below w.heap.size w w' ∧ Blk 0 w' c (cv mp q) ∧ Blk 0 w' w.heap.size [.int .i64 a, .int .i64 b, .int .i64 d]) ∧ MapIs w' mp f n) (fun _ _ => True) (by kernel_rfl) (by kernel_rfl) (by kernel_rfl) ⟨⟨((Below.refl _ _).alloc (Nat.le_refl _) _).drew, (hb.more _).drew, (Blk.new 0 w _ _).drew⟩, (hm.more _).drew⟩ trivial (fun hT => ?_)
  have hT9 := Lib.hid hT
  clear hT
  repeat (first
    | (refine Ord.ch_value (v := ?_) hT9.out (by decide) (by rfl) ?_ ?_; rotate_left; (focus (intro w5 hS; have r := hS.1.2.1.rule; unfold cv at r; have r2 := hS.1.2.2.rule; have hl := hS.2.look hx; simp only [pv] at hl; go_simp <;> with_reducible rfl)); (try simp only [Act.put, List.setIfInBounds_toArray, List.set_cons_zero, List.set_cons_succ]))
    | (refine Ord.ch_off hT9.out (by decide) (by rfl) ?_; (try simp only [Act.put, List.setIfInBounds_toArray, List.set_cons_zero, List.set_cons_succ])))
  refine Ord.InText.nil fun w5 hS => ?_
  clear hT9
  obtain ⟨hA9, hM9⟩ := Ord.chain_end hS
  clear hS
  go_wp2
  go_ret
  exact ⟨rfl, hA9.1.1⟩

theorem ticked {w : World} {c n : Nat} {F : Nat → Prop} {f : Plc → Int} {q q1 : Cnt} {mp : Option Nat} (hb : Blk 0 w c (cv mp q)) (hm : MapIs w mp f n) (hF : F c) {i : Nat} {v : Value} (hi : i < 6) (hq : (cv mp q).set i v = cv mp q1) (vs : List Value) (t : TypeId) :
    At F c w w.heap.size vs mp q1 ((w.setCell ⟨c, i, none⟩ v).alloc (.cells vs.toArray t)) ∧ MapIs ((w.setCell ⟨c, i, none⟩ v).alloc (.cells vs.toArray t)) mp f n :=
  ⟨⟨((Turn.refl _ _).setCell (fun _ => hF) _).alloc _, hq ▸ (hb.set hi v).more _, (Blk.new 0 (w.setCell ⟨c, i, none⟩ v) vs t).at (by simp)⟩,
    (hm.kept fun b e => Below.heap_setCell _ _ _ _ fun e' => not_map_cells hm hb (by rw [e]; exact congrArg some e')).more _⟩
theorem IsC.of {w w0 : World} {c n B : Nat} {F : Nat → Prop} {f : Plc → Int} {q : Cnt} {mp : Option Nat} {bv : List Value} (h : At F c w0 B bv mp q w) (hm : MapIs w mp f n) (hF : ∀ k, F k ↔ (k = c ∨ mp = some k)) : IsC w c F f q n := ⟨mp, h.2.1, hm, hF⟩

set_option maxHeartbeats 800000 in
theorem load_any {c n : Nat} {F : Nat → Prop} {f : Plc → Int} {q : Cnt} {w : World} (a b d : Int) (hx : Wf (a, b, d)) (hC : IsC w c F f q n) :
    Calls Try.prog 61 #[.pointer (some ⟨c, 0, none⟩), .agg #[.int .i64 a, .int .i64 b, .int .i64 d]] w fun e w' => e = .returned (.int .u64 (f (a, b, d))) ∧ IsC w' c F f { q with l := wrap64 (q.l + 1) } n ∧ Step F F w w' := by
  have hFc := hC.at
  obtain ⟨mp, hb, hm, hF⟩ := hC
  have r0 := hb.rule
  have hcl := hb.1
  have r1 := cell_more hcl r0
  have z1 := hb.thaw 1 (by simp [cv])
  have hS0 := ticked hb hm hFc (i := 1) (v := .int .i64 (wrap64 (q.l + 1))) (q1 := { q with l := wrap64 (q.l + 1) }) (by omega) rfl [.int .i64 a, .int .i64 b, .int .i64 d] 44
  unfold cv at r0 r1
  go_enter Try.func61, Try.ntmps61
  go_wp2_with fail
  generalize (w.setCell ⟨c, 1, none⟩ (.int .i64 (wrap64 (q.l + 1)))).alloc _ = w1 at *
  clear r0 r1 z1
  refine Ord.wp_chain [] (fun w' => At F c w w.heap.size [.int .i64 a, .int .i64 b, .int .i64 d] mp { q with l := wrap64 (q.l + 1) } w' ∧ MapIs w' mp f n) (fun _ _ => True) (by kernel_rfl) (by kernel_rfl) (by kernel_rfl) ⟨hS0.1.drew, hS0.2.drew⟩ trivial (fun hT => ?_)
  have hT9 := Lib.hid hT
  clear hT
  repeat (first
    | (refine Ord.ch_value (v := ?_) hT9.out (by decide) (by rfl) ?_ ?_; rotate_left; (focus (intro w5 hS; have r := hS.1.2.1.rule; unfold cv at r; have r2 := hS.1.2.2.rule; have hl := hS.2.look hx; simp only [pv] at hl; go_simp <;> with_reducible rfl)); (try simp only [Act.put, List.setIfInBounds_toArray, List.set_cons_zero, List.set_cons_succ]))
    | (refine Ord.ch_off hT9.out (by decide) (by rfl) ?_; (try simp only [Act.put, List.setIfInBounds_toArray, List.set_cons_zero, List.set_cons_succ])))
  refine Ord.InText.nil fun w5 hS => ?_
  clear hT9
  obtain ⟨hA9, hM9⟩ := Ord.chain_end hS
  clear hS
  go_wp2
  go_ret
  exact ⟨rfl, .of hA9.1 hA9.2 hF, ⟨hA9.1.1, fun k h => .inl h⟩⟩

set_option maxHeartbeats 800000 in
theorem store_any {c n : Nat} {F : Nat → Prop} {f : Plc → Int} {q : Cnt} {w : World} (a b d v : Int) (hx : Wf (a, b, d)) (hv : InU v) (hn : n < maxLen) (hC : IsC w c F f q n) :
    Calls Try.prog 62 #[.pointer (some ⟨c, 0, none⟩), .agg #[.int .i64 a, .int .i64 b, .int .i64 d], .int .u64 v] w fun e w' => e = .returned (.tuple #[]) ∧ ∃ F', IsC w' c F' (upd f (a, b, d) v) { q with s := wrap64 (q.s + 1) } (n + 1) ∧ Step F F' w w' := by
  have hFc := hC.at
  obtain ⟨mp, hb, hm, hF⟩ := hC
  have r0 := hb.rule
  have hcl := hb.1
  have r1 := cell_more hcl r0
  have z1 := hb.thaw 2 (by simp [cv])
  have hS0 := ticked hb hm hFc (i := 2) (v := .int .i64 (wrap64 (q.s + 1))) (q1 := { q with s := wrap64 (q.s + 1) }) (by omega) rfl [.int .i64 a, .int .i64 b, .int .i64 d] 44
  unfold cv at r0 r1
  go_enter Try.func62, Try.ntmps62
  go_wp2_with fail
  generalize (w.setCell ⟨c, 2, none⟩ (.int .i64 (wrap64 (q.s + 1)))).alloc _ = w1 at *
  clear r0 r1 z1
  refine (put_any a b d v hx hv hn (.of hS0.1 hS0.2 hF)).mono ?_
  rintro e w2 ⟨rfl, F', hC2, hs2⟩
  go_wp2
  go_end0
  exact ⟨rfl, F', hC2, (Step.mk hS0.1.1 fun k h => .inl h).trans hs2⟩

/-- Whether it was, and the words and counts behind it. -/
def swq (q : Cnt) (b : Bool) : Cnt := { q with w := wrap64 (q.w + 1), f := if b then q.f else wrap64 (q.f + 1) }
def swf (f : Plc → Int) (x : Plc) (o v : Int) : Plc → Int := if f x = o then upd f x v else f

set_option maxHeartbeats 1600000 in
theorem swap_any {c n : Nat} {F : Nat → Prop} {f : Plc → Int} {q : Cnt} {w : World} (a b d o v : Int) (hx : Wf (a, b, d)) (hv : InU v) (hn : n < maxLen) (hC : IsC w c F f q n) :
    Calls Try.prog 63 #[.pointer (some ⟨c, 0, none⟩), .agg #[.int .i64 a, .int .i64 b, .int .i64 d], .int .u64 o, .int .u64 v] w fun e w' => e = .returned (.bool (decide (f (a, b, d) = o))) ∧ ∃ F', IsC w' c F' (swf f (a, b, d) o v) (swq q (decide (f (a, b, d) = o))) (n + 1) ∧ Step F F' w w' := by
  have hFc := hC.at
  obtain ⟨mp, hb, hm, hF⟩ := hC
  have r0 := hb.rule
  have hcl := hb.1
  have r1 := cell_more hcl r0
  have z1 := hb.thaw 3 (by simp [cv])
  have hS0 := ticked hb hm hFc (i := 3) (v := .int .i64 (wrap64 (q.w + 1))) (q1 := { q with w := wrap64 (q.w + 1) }) (by omega) rfl [.int .i64 a, .int .i64 b, .int .i64 d] 44
  unfold cv at r0 r1
  go_enter Try.func63, Try.ntmps63
  go_wp2_with fail
  generalize (w.setCell ⟨c, 3, none⟩ (.int .i64 (wrap64 (q.w + 1)))).alloc _ = w1 at *
  clear r0 r1 z1
  refine Ord.wp_chain [] (fun w' => At F c w w.heap.size [.int .i64 a, .int .i64 b, .int .i64 d] mp { q with w := wrap64 (q.w + 1) } w' ∧ MapIs w' mp f n) (fun _ _ => True) (by kernel_rfl) (by kernel_rfl) (by kernel_rfl) ⟨hS0.1.drew, hS0.2.drew⟩ trivial (fun hT => ?_)
  have hT9 := Lib.hid hT
  clear hT
  repeat (first
    | (refine Ord.ch_value (v := ?_) hT9.out (by decide) (by rfl) ?_ ?_; rotate_left; (focus (intro w5 hS; have r := hS.1.2.1.rule; unfold cv at r; have r2 := hS.1.2.2.rule; have hl := hS.2.look hx; simp only [pv] at hl; go_simp <;> with_reducible rfl)); (try simp only [Act.put, List.setIfInBounds_toArray, List.set_cons_zero, List.set_cons_succ]))
    | (refine Ord.ch_off hT9.out (by decide) (by rfl) ?_; (try simp only [Act.put, List.setIfInBounds_toArray, List.set_cons_zero, List.set_cons_succ])))
  refine Ord.InText.nil fun w5 hS => ?_
  clear hT9
  obtain ⟨hA9, hM9⟩ := Ord.chain_end hS
  clear hS
  have HX := Lib.hid hx
  clear hx
  by_cases he : f (a, b, d) = o
  · have r := hA9.1.2.1.rule
    have r2 := hA9.1.2.2.rule
    unfold cv at r
    have hb1 : (f (a, b, d) != o) = false := by simpa using he
    have hE := Lib.hid he
    clear he
    go_wp2_with fail
    refine (put_any a b d v HX.out hv hn (.of hA9.1 hA9.2 hF)).mono ?_
    rintro e w2 ⟨rfl, F', hC2, hs2⟩
    clear r r2
    go_wp2
    go_ret
    have hE' := hE.out
    refine ⟨by simp [hE'], F', ?_, (Step.mk hA9.1.1 fun k h => .inl h).trans hs2⟩
    simp only [swf, swq, hE', if_true, decide_true]
    exact hC2
  · have r := hA9.1.2.1.rule
    have r2 := hA9.1.2.2.rule
    have z4 := hA9.1.2.1.thaw 4 (by simp [cv])
    unfold cv at r
    have hb1 : (f (a, b, d) != o) = true := by simpa using he
    have hE := Lib.hid he
    clear he
    go_wp2
    go_ret
    have hE' := hE.out
    refine ⟨by simp [hE'], F, ?_, ⟨hA9.1.1.setCell (fun _ => hFc) _, fun k h => .inl h⟩⟩
    simp only [swf, swq, hE', if_false, decide_false, Bool.false_eq_true]
    exact (IsC.tick (.of hA9.1 hA9.2 hF) (by omega) fun _ => rfl).mono (Nat.le_succ _)

set_option maxHeartbeats 1600000 in
theorem add_any {c n : Nat} {F : Nat → Prop} {f : Plc → Int} {q : Cnt} {w : World} (a b d v : Int) (hx : Wf (a, b, d)) (hn : n < maxLen) (hC : IsC w c F f q n) :
    Calls Try.prog 64 #[.pointer (some ⟨c, 0, none⟩), .agg #[.int .i64 a, .int .i64 b, .int .i64 d], .int .u64 v] w fun e w' => e = .returned (.int .u64 (f (a, b, d))) ∧ ∃ F', IsC w' c F' (upd f (a, b, d) (IntKind.u64.wrap (f (a, b, d) + v))) { q with a := wrap64 (q.a + 1) } (n + 1) ∧ Step F F' w w' := by
  have hFc := hC.at
  obtain ⟨mp, hb, hm, hF⟩ := hC
  have r0 := hb.rule
  have hcl := hb.1
  have r1 := cell_more hcl r0
  have z1 := hb.thaw 5 (by simp [cv])
  have hS0 := ticked hb hm hFc (i := 5) (v := .int .i64 (wrap64 (q.a + 1))) (q1 := { q with a := wrap64 (q.a + 1) }) (by omega) rfl [.int .i64 a, .int .i64 b, .int .i64 d] 44
  unfold cv at r0 r1
  go_enter Try.func64, Try.ntmps64
  go_wp2_with fail
  generalize (w.setCell ⟨c, 5, none⟩ (.int .i64 (wrap64 (q.a + 1)))).alloc _ = w1 at *
  clear r0 r1 z1
  refine Ord.wp_chain [] (fun w' => At F c w w.heap.size [.int .i64 a, .int .i64 b, .int .i64 d] mp { q with a := wrap64 (q.a + 1) } w' ∧ MapIs w' mp f n) (fun _ _ => True) (by kernel_rfl) (by kernel_rfl) (by kernel_rfl) ⟨hS0.1.drew, hS0.2.drew⟩ trivial (fun hT => ?_)
  have hT9 := Lib.hid hT
  clear hT
  repeat (first
    | (refine Ord.ch_value (v := ?_) hT9.out (by decide) (by rfl) ?_ ?_; rotate_left; (focus (intro w5 hS; have r := hS.1.2.1.rule; unfold cv at r; have r2 := hS.1.2.2.rule; have hl := hS.2.look hx; simp only [pv] at hl; go_simp <;> with_reducible rfl)); (try simp only [Act.put, List.setIfInBounds_toArray, List.set_cons_zero, List.set_cons_succ]))
    | (refine Ord.ch_off hT9.out (by decide) (by rfl) ?_; (try simp only [Act.put, List.setIfInBounds_toArray, List.set_cons_zero, List.set_cons_succ])))
  refine Ord.InText.nil fun w5 hS => ?_
  clear hT9
  obtain ⟨hA9, hM9⟩ := Ord.chain_end hS
  clear hS
  have r2 := hA9.1.2.2.rule
  have HX := Lib.hid hx
  have hu : InU (IntKind.u64.wrap (f (a, b, d) + v)) := by rw [IntKind.wrap_u64]; unfold InU; omega
  clear hx
  go_wp2_with fail
  refine (put_any a b d (IntKind.u64.wrap (f (a, b, d) + v)) HX.out hu hn (.of hA9.1 hA9.2 hF)).mono ?_
  rintro e w2 ⟨rfl, F', hC2, hs2⟩
  clear r2
  go_wp2
  go_ret
  exact ⟨rfl, F', hC2, (Step.mk hA9.1.1 fun k h => .inl h).trans hs2⟩

set_option maxHeartbeats 800000 in
theorem count_any {c n : Nat} {F : Nat → Prop} {f : Plc → Int} {q : Cnt} {w : World} (hC : IsC w c F f q n) :
    Calls Try.prog 66 #[.pointer (some ⟨c, 0, none⟩)] w fun e w' => e = .returned (.agg #[.int .i64 q.l, .int .i64 q.s, .int .i64 q.w, .int .i64 q.f, .int .i64 q.a]) ∧ Below w.heap.size w w' := by
  obtain ⟨mp, hb, hm, hF⟩ := hC
  have r1 := cell_more hb.1 hb.rule
  unfold cv at r1
  go_enter Try.func66, Try.ntmps66
  go_wp2
  refine bodyPost_ret (v := .agg #[.int .i64 q.l, .int .i64 q.s, .int .i64 q.w, .int .i64 q.f, .int .i64 q.a]) (by simp [results, Try.results66, go_sem]) rfl ⟨rfl, ?_⟩
  exact (Below.refl _ _).alloc (Nat.le_refl _) _
end Go.Proofs.Ythiccboecimfjaa

/- Shared cells among other things: the thing. -/
namespace Go.Proofs.Ythiccboecimfjaa
open Go.RowKit Go.Maps
set_option maxRecDepth 100000

/-- Shared cells, as a thing. -/
def cellI (c : Nat) (F : Nat → Prop) (f : Plc → Int) (q : Cnt) (n : Nat) : Item where
  F := F
  says := fun w => IsC w c F f q n
  loc := fun w1 w2 h hk hs => by
    obtain ⟨mp, hb, hm, hF⟩ := h
    exact ⟨mp, hb.kept hs (hk c ((hF c).2 (.inl rfl))), hm.kept fun b e => hk b ((hF b).2 (.inr e)), hF⟩
section
variable {w0 w w' : World} {L : List Item} {c n : Nat} {F F' : Nat → Prop} {f f' : Plc → Int} {q q' : Cnt} {m : Nat}
theorem Env.made (h : Env w0 L w) (hC : IsC w' c (fun k => k = c) f q n) (hc : w.heap.size ≤ c) (hb : Below w.heap.size w w') : Env w0 (cellI c (fun k => k = c) f q n :: L) w' :=
  h.add (cellI c (fun k => k = c) f q n) hb hC fun k hk => ⟨by have hk : k = c := hk; omega, hC.lt k hk⟩
theorem Env.cell (h : Env w0 L w) (i : Nat) (hi : L[i]? = some (cellI c F f q n)) : IsC w c F f q n := h.get i hi
theorem Env.turn (h : Env w0 L w) (i : Nat) (hi : L[i]? = some (cellI c F f q n)) (hC : IsC w' c F' f' q' m) (hs : Step F F' w w') : Env w0 (L.set i (cellI c F' f' q' m)) w' :=
  h.step i (cellI c F' f' q' m) hi hs hC hC.lt
end

theorem upd_upd (f : Plc → Int) (x : Plc) (a b : Int) : upd (upd f x a) x b = upd f x b := by funext y; unfold upd; split <;> rfl
theorem Env.made2 {w0 w w' : World} {L : List Item} {c n : Nat} {F : Nat → Prop} {f : Plc → Int} {q : Cnt} (h : Env w0 L w) (hC : IsC w' c F f q n) (hF : ∀ k, F k → w.heap.size ≤ k) (hb : Below w.heap.size w w') : Env w0 (cellI c F f q n :: L) w' :=
  h.add (cellI c F f q n) hb hC fun k hk => ⟨hF k hk, hC.lt k hk⟩
end Go.Proofs.Ythiccboecimfjaa

/- The plain world: contracts of its accesses: each is the cells' own, among whatever other things there are. -/
namespace Go.Proofs.Ythiccboecimfjaa
open Go.RowKit Go.Maps
set_option maxRecDepth 100000

theorem wset {L : List Item} {i j : Nat} {a b : Item} (hij : j ≠ i) (h : L[i]? = some a) : (L.set j b)[i]? = some a := by rw [List.getElem?_set_ne hij, h]
theorem Env.put3 {w0 w : World} {L : List Item} (h : Env w0 L w) (i : Nat) {B : Nat} {a b c : Value} (hi : L[i]? = some (boxI B [a, b, c])) (u v t : Value) :
    Env w0 (L.set i (boxI B [u, v, t])) (((w.setCell ⟨B, 0, none⟩ u).setCell ⟨B, 1, none⟩ v).setCell ⟨B, 2, none⟩ t) := by
  have hl : i < L.length := (List.getElem?_eq_some_iff.1 hi).1
  have h1 := h.put i hi (j := 0) (by simp) u
  have h2 := h1.put i (by rw [List.getElem?_set_self hl]) (j := 1) (by simp) v
  have h3 := h2.put i (by rw [List.getElem?_set_self (by simpa using hl)]) (j := 2) (by simp) t
  simpa using h3
theorem Env.put5 {w0 w : World} {L : List Item} (h : Env w0 L w) (i : Nat) {B : Nat} {a b c d e : Value} (hi : L[i]? = some (boxI B [a, b, c, d, e])) (u v t x y : Value) :
    Env w0 (L.set i (boxI B [u, v, t, x, y])) (((((w.setCell ⟨B, 0, none⟩ u).setCell ⟨B, 1, none⟩ v).setCell ⟨B, 2, none⟩ t).setCell ⟨B, 3, none⟩ x).setCell ⟨B, 4, none⟩ y) := by
  have hl : i < L.length := (List.getElem?_eq_some_iff.1 hi).1
  have h1 := h.put i hi (j := 0) (by simp) u
  have h2 := h1.put i (by rw [List.getElem?_set_self hl]) (j := 1) (by simp) v
  have h3 := h2.put i (by rw [List.getElem?_set_self (by simpa using hl)]) (j := 2) (by simp) t
  have h4 := h3.put i (by rw [List.getElem?_set_self (by simpa using hl)]) (j := 3) (by simp) x
  have h5 := h4.put i (by rw [List.getElem?_set_self (by simpa using hl)]) (j := 4) (by simp) y
  simpa using h5
/-- A world at p: a pointer to its cells. -/
def wbox (p c : Nat) : Item := boxI p [.pointer (some ⟨c, 0, none⟩)]

theorem Env.wblk {w0 w : World} {L : List Item} {p c : Nat} (h : Env w0 L w) (i : Nat) (hi : L[i]? = some (wbox p c)) : Blk 0 w p [.pointer (some ⟨c, 0, none⟩)] := h.get i hi
theorem kept_any {w : World} {p c : Nat} (hb : Blk 0 w p [.pointer (some ⟨c, 0, none⟩)]) :
    Calls Try.prog 60 #[.pointer (some ⟨p, 0, none⟩)] w fun e w' => e = .returned (.pointer (some ⟨c, 0, none⟩)) ∧ w' = w := by
  have r := hb.rule
  go_enter Try.func60, Try.ntmps60
  go_wp2
  go_ret
  exact ⟨rfl, rfl⟩

section
variable {w0 w : World} {L : List Item} {p c n : Nat} {F : Nat → Prop} {f : Plc → Int} {q : Cnt}

set_option maxHeartbeats 1600000 in
theorem load_w (x y z d : Int) (hx : Wf (x, y, z)) (i j : Nat) (hij : j ≠ i) (hE : Env w0 L w) (hi : L[i]? = some (wbox p c)) (hj : L[j]? = some (cellI c F f q n)) :
    Calls Try.prog 43 #[.pointer (some ⟨p, 0, none⟩), .agg #[.int .i64 x, .int .i64 y, .int .i64 z, .int .i64 d]] w fun e w' => e = .returned (.agg #[.int .u64 (f (x, y, z)), .int .i64 0, .bool false]) ∧ Env w0 (L.set j (cellI c F f { q with l := wrap64 (q.l + 1) } n)) w' := by
  replace hE := (hE.box w.heap.size rfl [.int .i64 x, .int .i64 y, .int .i64 z, .int .i64 d] 46).box (w.heap.size + 1) (by simp) [.int .u64 0, .int .i64 0, .bool false] 42
  have hi' : (boxI (w.heap.size + 1) [.int .u64 0, .int .i64 0, .bool false] :: boxI w.heap.size [.int .i64 x, .int .i64 y, .int .i64 z, .int .i64 d] :: L)[i + 2]? = some (wbox p c) := hi
  have hj' : (boxI (w.heap.size + 1) [.int .u64 0, .int .i64 0, .bool false] :: boxI w.heap.size [.int .i64 x, .int .i64 y, .int .i64 z, .int .i64 d] :: L)[j + 2]? = some (cellI c F f q n) := hj
  have HX := Lib.hid hx
  clear hx
  go_enter Try.func43, Try.ntmps43
  go_wp2_with fail
  generalize w.heap.size + 1 = Y at *
  generalize w.heap.size = X at *
  refine Ord.wp_chain [4, 6] (fun w' => Blk 0 w' X [.int .i64 x, .int .i64 y, .int .i64 z, .int .i64 d] ∧ Blk 0 w' p [.pointer (some ⟨c, 0, none⟩)]) (Stage [Env w0 (boxI Y [.int .u64 0, .int .i64 0, .bool false] :: boxI X [.int .i64 x, .int .i64 y, .int .i64 z, .int .i64 d] :: L), Env w0 (boxI Y [.int .u64 0, .int .i64 0, .bool false] :: boxI X [.int .i64 x, .int .i64 y, .int .i64 z, .int .i64 d] :: L.set j (cellI c F f { q with l := wrap64 (q.l + 1) } n)), Env w0 (boxI Y [.int .u64 (f (x, y, z)), .int .i64 0, .bool false] :: boxI X [.int .i64 x, .int .i64 y, .int .i64 z, .int .i64 d] :: L.set j (cellI c F f { q with l := wrap64 (q.l + 1) } n))]) (by kernel_rfl) (by kernel_rfl) (by kernel_rfl) ⟨hE.drew.get 1 rfl, hE.drew.get (i + 2) hi'⟩ ⟨_, rfl, hE.drew⟩ (fun hT => ?_)
  have hT9 := Lib.hid hT
  clear hT
  repeat (first
    | (refine Ord.ch_value (v := ?_) hT9.out (by decide) (by rfl) ?_ ?_; rotate_left; (focus (intro w5 hS; have r := hS.1.rule; go_simp <;> with_reducible rfl)); (try simp only [Act.put, List.setIfInBounds_toArray, List.set_cons_zero, List.set_cons_succ]))
    | (refine Ord.ch_off hT9.out (by decide) (by rfl) ?_; (try simp only [Act.put, List.setIfInBounds_toArray, List.set_cons_zero, List.set_cons_succ]))
    | (refine Ord.ch_call (v := ?_) (f := ?_) (args := ?_) hT9.out (by decide) (by rfl) ?_ ?_ ?_; rotate_left 3; (focus (intro w5 hS; have r := hS.1.rule; go_simp; constructor <;> with_reducible rfl)); (focus (intro w5 hS; (first | (with_reducible refine (kept_any hS.2).mono ?_; rintro e w6 ⟨rfl, rfl⟩; constructor; with_reducible rfl; exact ⟨hS, fun _ h => h⟩)))); (try simp only [Act.put, List.setIfInBounds_toArray, List.set_cons_zero, List.set_cons_succ])))
  refine Ord.ch_turn (v := .int .u64 (f (x, y, z))) 0 hT9.out rfl (by decide) (Or.inl rfl) (by rfl) ?_ ?_
  · rintro w5 hC5 ⟨P5, hP5, hA5⟩
    cases hP5
    go_simp
    simp only [Ord.LandsIn]
    refine (load_any x y z HX.out (hA5.cell (j + 2) hj')).mono ?_
    rintro e w6 ⟨rfl, hC, hs⟩
    have hE6 := hA5.turn (j + 2) hj' hC hs
    exact ⟨rfl, ⟨hE6.get 1 rfl, hE6.get (i + 2) (wset (j := j + 2) (by omega) hi')⟩, _, rfl, hE6⟩
  (try simp only [Act.put, List.setIfInBounds_toArray, List.set_cons_zero, List.set_cons_succ])
  repeat (first
    | (refine Ord.ch_value (v := ?_) hT9.out (by decide) (by rfl) ?_ ?_; rotate_left; (focus (intro w5 hS; skip; go_simp <;> with_reducible rfl)); (try simp only [Act.put, List.setIfInBounds_toArray, List.set_cons_zero, List.set_cons_succ]))
    | (refine Ord.ch_off hT9.out (by decide) (by rfl) ?_; (try simp only [Act.put, List.setIfInBounds_toArray, List.set_cons_zero, List.set_cons_succ])))
  refine Ord.ch_turn (v := undef) 1 hT9.out rfl (by decide) (Or.inr ⟨_, rfl, by kernel_rfl⟩) (by rfl) ?_ ?_
  · rintro w5 hC5 ⟨P5, hP5, hA5⟩
    cases hP5
    have r := hA5.rule 0 rfl
    have f := hA5.thaw 0 rfl
    have f0 := f 0 (by simp)
    have f1 := f 1 (by simp)
    have f2 := f 2 (by simp)
    clear f
    go_simp
    have hE6 := hA5.put3 0 rfl (.int .u64 (f (x, y, z))) (.int .i64 0) (.bool false)
    exact ⟨rfl, ⟨hE6.get 1 rfl, hE6.get (i + 2) (wset (j := j + 2) (by omega) hi')⟩, _, rfl, hE6⟩
  (try simp only [Act.put, List.setIfInBounds_toArray, List.set_cons_zero, List.set_cons_succ])
  repeat (first
    | (refine Ord.ch_value (v := ?_) hT9.out (by decide) (by rfl) ?_ ?_; rotate_left; (focus (intro w5 hS; skip; go_simp <;> with_reducible rfl)); (try simp only [Act.put, List.setIfInBounds_toArray, List.set_cons_zero, List.set_cons_succ]))
    | (refine Ord.ch_off hT9.out (by decide) (by rfl) ?_; (try simp only [Act.put, List.setIfInBounds_toArray, List.set_cons_zero, List.set_cons_succ])))
  refine Ord.InText.nil fun w5 hS => ?_
  clear hT9
  obtain ⟨hC9, hA9⟩ := Ord.chain_end hS
  clear hS
  obtain ⟨P9, hP9, hA9⟩ := hA9
  cases hP9
  have q9 := hA9.rule 0 rfl
  go_wp2
  exact bodyPost_ret (v := .agg #[.int .u64 (f (x, y, z)), .int .i64 0, .bool false]) (by simp [results, Try.results43, go_sem, q9]) rfl ⟨rfl, hA9.sub (.cons _ (.cons _ (List.Sublist.refl _)))⟩
set_option maxHeartbeats 1600000 in
theorem store_w (x y z d v e : Int) (b : Bool) (hx : Wf (x, y, z)) (hv : InU v) (hn : n < maxLen) (i j : Nat) (hij : j ≠ i) (hE : Env w0 L w) (hi : L[i]? = some (wbox p c)) (hj : L[j]? = some (cellI c F f q n)) :
    Calls Try.prog 44 #[.pointer (some ⟨p, 0, none⟩), .agg #[.int .i64 x, .int .i64 y, .int .i64 z, .int .i64 d], .agg #[.int .u64 v, .int .i64 e, .bool b]] w fun e w' => e = .returned (.tuple #[]) ∧ ∃ F', Env w0 (L.set j (cellI c F' (upd f (x, y, z) v) { q with s := wrap64 (q.s + 1) } (n + 1))) w' := by
  replace hE := ((hE.box w.heap.size rfl [.int .i64 x, .int .i64 y, .int .i64 z, .int .i64 d] 46).box (w.heap.size + 1) (by simp) [.int .u64 v, .int .i64 e, .bool b] 42)
  have hi' : (boxI (w.heap.size + 1) [.int .u64 v, .int .i64 e, .bool b] :: boxI (w.heap.size) [.int .i64 x, .int .i64 y, .int .i64 z, .int .i64 d] :: L)[i + 2]? = some (wbox p c) := hi
  have hj' : (boxI (w.heap.size + 1) [.int .u64 v, .int .i64 e, .bool b] :: boxI (w.heap.size) [.int .i64 x, .int .i64 y, .int .i64 z, .int .i64 d] :: L)[j + 2]? = some (cellI c F f q n) := hj
  have HX := Lib.hid hx
  clear hx
  go_enter Try.func44, Try.ntmps44
  go_wp2_with fail
  generalize w.heap.size + 1 = Y at *
  generalize w.heap.size = X at *
  refine Ord.wp_chain [6] (fun w' => Blk 0 w' X [.int .i64 x, .int .i64 y, .int .i64 z, .int .i64 d] ∧ Blk 0 w' Y [.int .u64 v, .int .i64 e, .bool b] ∧ Blk 0 w' p [.pointer (some ⟨c, 0, none⟩)]) (Stage [Env w0 (boxI Y [.int .u64 v, .int .i64 e, .bool b] :: boxI X [.int .i64 x, .int .i64 y, .int .i64 z, .int .i64 d] :: L), fun w' => ∃ F', Env w0 (boxI Y [.int .u64 v, .int .i64 e, .bool b] :: boxI X [.int .i64 x, .int .i64 y, .int .i64 z, .int .i64 d] :: L.set j (cellI c F' (upd f (x, y, z) v) { q with s := wrap64 (q.s + 1) } (n + 1))) w']) (by kernel_rfl) (by kernel_rfl) (by kernel_rfl) ⟨hE.drew.get 1 rfl, hE.drew.get 0 rfl, hE.drew.get (i + 2) hi'⟩ ⟨_, rfl, hE.drew⟩ (fun hT => ?_)
  have hT9 := Lib.hid hT
  clear hT
  repeat (first
    | (refine Ord.ch_value (v := ?_) hT9.out (by decide) (by rfl) ?_ ?_; rotate_left; (focus (intro w5 hS; have r0 := hS.1.rule; have r1 := hS.2.1.rule; go_simp <;> with_reducible rfl)); (try simp only [Act.put, List.setIfInBounds_toArray, List.set_cons_zero, List.set_cons_succ]))
    | (refine Ord.ch_off hT9.out (by decide) (by rfl) ?_; (try simp only [Act.put, List.setIfInBounds_toArray, List.set_cons_zero, List.set_cons_succ]))
    | (refine Ord.ch_call (v := ?_) (f := ?_) (args := ?_) hT9.out (by decide) (by rfl) ?_ ?_ ?_; rotate_left 3; (focus (intro w5 hS; have r0 := hS.1.rule; have r1 := hS.2.1.rule; go_simp; constructor <;> with_reducible rfl)); (focus (intro w5 hS; (first | (with_reducible refine (kept_any hS.2.2).mono ?_; rintro e w6 ⟨rfl, rfl⟩; constructor; with_reducible rfl; exact ⟨hS, fun _ h => h⟩)))); (try simp only [Act.put, List.setIfInBounds_toArray, List.set_cons_zero, List.set_cons_succ])))
  refine Ord.ch_turn (v := .tuple #[]) 0 hT9.out rfl (by decide) (Or.inl rfl) (by rfl) ?_ ?_
  · rintro w5 hC5 ⟨P5, hP5, hA5⟩
    cases hP5
    go_simp
    simp only [Ord.LandsIn]
    refine (store_any x y z v HX.out hv hn (hA5.cell (j + 2) hj')).mono ?_
    rintro e w6 ⟨rfl, F6, hC, hs⟩
    have hE6 := hA5.turn (j + 2) hj' hC hs
    exact ⟨rfl, ⟨hE6.get 1 rfl, hE6.get 0 rfl, hE6.get (i + 2) (wset (j := j + 2) (by omega) hi')⟩, _, rfl, F6, hE6⟩
  (try simp only [Act.put, List.setIfInBounds_toArray, List.set_cons_zero, List.set_cons_succ])
  repeat (first
    | (refine Ord.ch_value (v := ?_) hT9.out (by decide) (by rfl) ?_ ?_; rotate_left; (focus (intro w5 hS; skip; go_simp <;> with_reducible rfl)); (try simp only [Act.put, List.setIfInBounds_toArray, List.set_cons_zero, List.set_cons_succ]))
    | (refine Ord.ch_off hT9.out (by decide) (by rfl) ?_; (try simp only [Act.put, List.setIfInBounds_toArray, List.set_cons_zero, List.set_cons_succ])))
  refine Ord.InText.nil fun w5 hS => ?_
  clear hT9
  obtain ⟨hC9, hA9⟩ := Ord.chain_end hS
  clear hS
  obtain ⟨P9, hP9, hA9⟩ := hA9
  cases hP9
  obtain ⟨F9, hA9⟩ := hA9
  clear hC9
  go_wp2
  go_end0
  exact ⟨rfl, F9, hA9.sub (.cons _ (.cons _ (List.Sublist.refl _)))⟩
set_option maxHeartbeats 1600000 in
theorem swap_w (x y z d o oe v e : Int) (ob b : Bool) (hx : Wf (x, y, z)) (hv : InU v) (hn : n < maxLen) (i j : Nat) (hij : j ≠ i) (hE : Env w0 L w) (hi : L[i]? = some (wbox p c)) (hj : L[j]? = some (cellI c F f q n)) :
    Calls Try.prog 46 #[.pointer (some ⟨p, 0, none⟩), .agg #[.int .i64 x, .int .i64 y, .int .i64 z, .int .i64 d], .agg #[.int .u64 o, .int .i64 oe, .bool ob], .agg #[.int .u64 v, .int .i64 e, .bool b]] w fun e w' => e = .returned (.bool (decide (f (x, y, z) = o))) ∧ ∃ F', Env w0 (L.set j (cellI c F' (swf f (x, y, z) o v) (swq q (decide (f (x, y, z) = o))) (n + 1))) w' := by
  replace hE := (((hE.box w.heap.size rfl [.int .i64 x, .int .i64 y, .int .i64 z, .int .i64 d] 46).box (w.heap.size + 1) (by simp) [.int .u64 o, .int .i64 oe, .bool ob] 42).box (w.heap.size + 1 + 1) (by simp) [.int .u64 v, .int .i64 e, .bool b] 42)
  have hi' : (boxI (w.heap.size + 1 + 1) [.int .u64 v, .int .i64 e, .bool b] :: boxI (w.heap.size + 1) [.int .u64 o, .int .i64 oe, .bool ob] :: boxI (w.heap.size) [.int .i64 x, .int .i64 y, .int .i64 z, .int .i64 d] :: L)[i + 3]? = some (wbox p c) := hi
  have hj' : (boxI (w.heap.size + 1 + 1) [.int .u64 v, .int .i64 e, .bool b] :: boxI (w.heap.size + 1) [.int .u64 o, .int .i64 oe, .bool ob] :: boxI (w.heap.size) [.int .i64 x, .int .i64 y, .int .i64 z, .int .i64 d] :: L)[j + 3]? = some (cellI c F f q n) := hj
  have HX := Lib.hid hx
  clear hx
  go_enter Try.func46, Try.ntmps46
  go_wp2_with fail
  generalize w.heap.size + 1 + 1 = Z at *
  generalize w.heap.size + 1 = Y at *
  generalize w.heap.size = X at *
  refine Ord.wp_chain [8] (fun w' => Blk 0 w' X [.int .i64 x, .int .i64 y, .int .i64 z, .int .i64 d] ∧ Blk 0 w' Y [.int .u64 o, .int .i64 oe, .bool ob] ∧ Blk 0 w' Z [.int .u64 v, .int .i64 e, .bool b] ∧ Blk 0 w' p [.pointer (some ⟨c, 0, none⟩)]) (Stage [Env w0 (boxI Z [.int .u64 v, .int .i64 e, .bool b] :: boxI Y [.int .u64 o, .int .i64 oe, .bool ob] :: boxI X [.int .i64 x, .int .i64 y, .int .i64 z, .int .i64 d] :: L), fun w' => ∃ F', Env w0 (boxI Z [.int .u64 v, .int .i64 e, .bool b] :: boxI Y [.int .u64 o, .int .i64 oe, .bool ob] :: boxI X [.int .i64 x, .int .i64 y, .int .i64 z, .int .i64 d] :: L.set j (cellI c F' (swf f (x, y, z) o v) (swq q (decide (f (x, y, z) = o))) (n + 1))) w']) (by kernel_rfl) (by kernel_rfl) (by kernel_rfl) ⟨hE.drew.get 2 rfl, hE.drew.get 1 rfl, hE.drew.get 0 rfl, hE.drew.get (i + 3) hi'⟩ ⟨_, rfl, hE.drew⟩ (fun hT => ?_)
  have hT9 := Lib.hid hT
  clear hT
  repeat (first
    | (refine Ord.ch_value (v := ?_) hT9.out (by decide) (by rfl) ?_ ?_; rotate_left; (focus (intro w5 hS; have r0 := hS.1.rule; have r1 := hS.2.1.rule; have r2 := hS.2.2.1.rule; go_simp <;> with_reducible rfl)); (try simp only [Act.put, List.setIfInBounds_toArray, List.set_cons_zero, List.set_cons_succ]))
    | (refine Ord.ch_off hT9.out (by decide) (by rfl) ?_; (try simp only [Act.put, List.setIfInBounds_toArray, List.set_cons_zero, List.set_cons_succ]))
    | (refine Ord.ch_call (v := ?_) (f := ?_) (args := ?_) hT9.out (by decide) (by rfl) ?_ ?_ ?_; rotate_left 3; (focus (intro w5 hS; have r0 := hS.1.rule; have r1 := hS.2.1.rule; have r2 := hS.2.2.1.rule; go_simp; constructor <;> with_reducible rfl)); (focus (intro w5 hS; (first | (with_reducible refine (kept_any hS.2.2.2).mono ?_; rintro e w6 ⟨rfl, rfl⟩; constructor; with_reducible rfl; exact ⟨hS, fun _ h => h⟩)))); (try simp only [Act.put, List.setIfInBounds_toArray, List.set_cons_zero, List.set_cons_succ])))
  refine Ord.ch_turn (v := .bool (decide (f (x, y, z) = o))) 0 hT9.out rfl (by decide) (Or.inl rfl) (by rfl) ?_ ?_
  · rintro w5 hC5 ⟨P5, hP5, hA5⟩
    cases hP5
    go_simp
    simp only [Ord.LandsIn]
    refine (swap_any x y z o v HX.out hv hn (hA5.cell (j + 3) hj')).mono ?_
    rintro e w6 ⟨rfl, F6, hC, hs⟩
    have hE6 := hA5.turn (j + 3) hj' hC hs
    exact ⟨rfl, ⟨hE6.get 2 rfl, hE6.get 1 rfl, hE6.get 0 rfl, hE6.get (i + 3) (wset (j := j + 3) (by omega) hi')⟩, _, rfl, F6, hE6⟩
  (try simp only [Act.put, List.setIfInBounds_toArray, List.set_cons_zero, List.set_cons_succ])
  repeat (first
    | (refine Ord.ch_value (v := ?_) hT9.out (by decide) (by rfl) ?_ ?_; rotate_left; (focus (intro w5 hS; skip; go_simp <;> with_reducible rfl)); (try simp only [Act.put, List.setIfInBounds_toArray, List.set_cons_zero, List.set_cons_succ]))
    | (refine Ord.ch_off hT9.out (by decide) (by rfl) ?_; (try simp only [Act.put, List.setIfInBounds_toArray, List.set_cons_zero, List.set_cons_succ])))
  refine Ord.InText.nil fun w5 hS => ?_
  clear hT9
  obtain ⟨hC9, hA9⟩ := Ord.chain_end hS
  clear hS
  obtain ⟨P9, hP9, hA9⟩ := hA9
  cases hP9
  obtain ⟨F9, hA9⟩ := hA9
  clear hC9
  go_wp2
  go_ret
  exact ⟨rfl, F9, hA9.sub (.cons _ (.cons _ (.cons _ (List.Sublist.refl _))))⟩
set_option maxHeartbeats 1600000 in
theorem add_w (x y z d v : Int) (hx : Wf (x, y, z)) (hn : n < maxLen) (i j : Nat) (hij : j ≠ i) (hE : Env w0 L w) (hi : L[i]? = some (wbox p c)) (hj : L[j]? = some (cellI c F f q n)) :
    Calls Try.prog 48 #[.pointer (some ⟨p, 0, none⟩), .agg #[.int .i64 x, .int .i64 y, .int .i64 z, .int .i64 d], .int .u64 v] w fun e w' => e = .returned (.int .u64 (f (x, y, z))) ∧ ∃ F', Env w0 (L.set j (cellI c F' (upd f (x, y, z) (IntKind.u64.wrap (f (x, y, z) + v))) { q with a := wrap64 (q.a + 1) } (n + 1))) w' := by
  replace hE := (hE.box w.heap.size rfl [.int .i64 x, .int .i64 y, .int .i64 z, .int .i64 d] 46)
  have hi' : (boxI (w.heap.size) [.int .i64 x, .int .i64 y, .int .i64 z, .int .i64 d] :: L)[i + 1]? = some (wbox p c) := hi
  have hj' : (boxI (w.heap.size) [.int .i64 x, .int .i64 y, .int .i64 z, .int .i64 d] :: L)[j + 1]? = some (cellI c F f q n) := hj
  have HX := Lib.hid hx
  clear hx
  go_enter Try.func48, Try.ntmps48
  go_wp2_with fail
  generalize w.heap.size = X at *
  refine Ord.wp_chain [5] (fun w' => Blk 0 w' X [.int .i64 x, .int .i64 y, .int .i64 z, .int .i64 d] ∧ Blk 0 w' p [.pointer (some ⟨c, 0, none⟩)]) (Stage [Env w0 (boxI X [.int .i64 x, .int .i64 y, .int .i64 z, .int .i64 d] :: L), fun w' => ∃ F', Env w0 (boxI X [.int .i64 x, .int .i64 y, .int .i64 z, .int .i64 d] :: L.set j (cellI c F' (upd f (x, y, z) (IntKind.u64.wrap (f (x, y, z) + v))) { q with a := wrap64 (q.a + 1) } (n + 1))) w']) (by kernel_rfl) (by kernel_rfl) (by kernel_rfl) ⟨hE.drew.get 0 rfl, hE.drew.get (i + 1) hi'⟩ ⟨_, rfl, hE.drew⟩ (fun hT => ?_)
  have hT9 := Lib.hid hT
  clear hT
  repeat (first
    | (refine Ord.ch_value (v := ?_) hT9.out (by decide) (by rfl) ?_ ?_; rotate_left; (focus (intro w5 hS; have r0 := hS.1.rule; go_simp <;> with_reducible rfl)); (try simp only [Act.put, List.setIfInBounds_toArray, List.set_cons_zero, List.set_cons_succ]))
    | (refine Ord.ch_off hT9.out (by decide) (by rfl) ?_; (try simp only [Act.put, List.setIfInBounds_toArray, List.set_cons_zero, List.set_cons_succ]))
    | (refine Ord.ch_call (v := ?_) (f := ?_) (args := ?_) hT9.out (by decide) (by rfl) ?_ ?_ ?_; rotate_left 3; (focus (intro w5 hS; have r0 := hS.1.rule; go_simp; constructor <;> with_reducible rfl)); (focus (intro w5 hS; (first | (with_reducible refine (kept_any hS.2).mono ?_; rintro e w6 ⟨rfl, rfl⟩; constructor; with_reducible rfl; exact ⟨hS, fun _ h => h⟩)))); (try simp only [Act.put, List.setIfInBounds_toArray, List.set_cons_zero, List.set_cons_succ])))
  refine Ord.ch_turn (v := .int .u64 (f (x, y, z))) 0 hT9.out rfl (by decide) (Or.inl rfl) (by rfl) ?_ ?_
  · rintro w5 hC5 ⟨P5, hP5, hA5⟩
    cases hP5
    go_simp
    simp only [Ord.LandsIn]
    refine (add_any x y z v HX.out hn (hA5.cell (j + 1) hj')).mono ?_
    rintro e w6 ⟨rfl, F6, hC, hs⟩
    have hE6 := hA5.turn (j + 1) hj' hC hs
    exact ⟨rfl, ⟨hE6.get 0 rfl, hE6.get (i + 1) (wset (j := j + 1) (by omega) hi')⟩, _, rfl, F6, hE6⟩
  (try simp only [Act.put, List.setIfInBounds_toArray, List.set_cons_zero, List.set_cons_succ])
  repeat (first
    | (refine Ord.ch_value (v := ?_) hT9.out (by decide) (by rfl) ?_ ?_; rotate_left; (focus (intro w5 hS; skip; go_simp <;> with_reducible rfl)); (try simp only [Act.put, List.setIfInBounds_toArray, List.set_cons_zero, List.set_cons_succ]))
    | (refine Ord.ch_off hT9.out (by decide) (by rfl) ?_; (try simp only [Act.put, List.setIfInBounds_toArray, List.set_cons_zero, List.set_cons_succ])))
  refine Ord.InText.nil fun w5 hS => ?_
  clear hT9
  obtain ⟨hC9, hA9⟩ := Ord.chain_end hS
  clear hS
  obtain ⟨P9, hP9, hA9⟩ := hA9
  cases hP9
  obtain ⟨F9, hA9⟩ := hA9
  clear hC9
  go_wp2
  go_ret
  exact ⟨rfl, F9, hA9.sub (.cons _ (List.Sublist.refl _))⟩

set_option maxHeartbeats 1600000 in
theorem peek_w (x y z : Int) (hx : Wf (x, y, z)) (i j : Nat) (hE : Env w0 L w) (hi : L[i]? = some (wbox p c)) (hj : L[j]? = some (cellI c F f q n)) :
    Calls Try.prog 57 #[.pointer (some ⟨p, 0, none⟩), .agg #[.int .i64 x, .int .i64 y, .int .i64 z]] w fun e w' => e = .returned (.int .u64 (f (x, y, z))) ∧ Below w.heap.size w w' := by
  have hb := (Below.refl w.heap.size w).alloc (Nat.le_refl _) (.cells #[.int .i64 x, .int .i64 y, .int .i64 z] 44)
  replace hE := hE.box w.heap.size rfl [.int .i64 x, .int .i64 y, .int .i64 z] 44
  have HX := Lib.hid hx
  clear hx
  go_enter Try.func57, Try.ntmps57
  go_wp2_with fail
  obtain ⟨X, hXw⟩ : ∃ X, X = w.heap.size := ⟨_, rfl⟩
  rw [← hXw] at hE ⊢
  have HXW := Lib.hid hXw
  clear hXw
  have hi1 : (boxI X [.int .i64 x, .int .i64 y, .int .i64 z] :: L)[i + 1]? = some (wbox p c) := hi
  have hj1 : (boxI X [.int .i64 x, .int .i64 y, .int .i64 z] :: L)[j + 1]? = some (cellI c F f q n) := hj
  refine Ord.wp_chain [] (fun w' => Env w0 (boxI X [.int .i64 x, .int .i64 y, .int .i64 z] :: L) w' ∧ Below w.heap.size w w') (fun _ _ => True) (by kernel_rfl) (by kernel_rfl) (by kernel_rfl) ⟨hE.drew, hb.drew⟩ trivial (fun hT => ?_)
  have hT9 := Lib.hid hT
  clear hT
  repeat (first
    | (refine Ord.ch_value (v := ?_) hT9.out (by decide) (by rfl) ?_ ?_; rotate_left; (focus (intro w5 hS; have r := hS.1.rule 0 rfl; go_simp <;> with_reducible rfl)); (try simp only [Act.put, List.setIfInBounds_toArray, List.set_cons_zero, List.set_cons_succ]))
    | (refine Ord.ch_off hT9.out (by decide) (by rfl) ?_; (try simp only [Act.put, List.setIfInBounds_toArray, List.set_cons_zero, List.set_cons_succ]))
    | (refine Ord.ch_call (v := ?_) (f := ?_) (args := ?_) hT9.out (by decide) (by rfl) ?_ ?_ ?_; rotate_left 3; (focus (intro w5 hS; have r := hS.1.rule 0 rfl; go_simp; constructor <;> with_reducible rfl)); (focus (intro w5 hS; (first | (with_reducible refine (kept_any (hS.1.wblk (i + 1) hi1)).mono ?_; rintro e w6 ⟨rfl, rfl⟩; constructor; with_reducible rfl; exact ⟨hS, fun _ h => h⟩) | (with_reducible refine (peek_any x y z HX.out (hS.1.cell (j + 1) hj1)).mono ?_; rintro e w6 ⟨rfl, hb6⟩; constructor; with_reducible rfl; exact ⟨⟨hS.1.over hb6, hS.2.trans (hb6.mono hS.2.size)⟩, fun _ h => h⟩)))); (try simp only [Act.put, List.setIfInBounds_toArray, List.set_cons_zero, List.set_cons_succ])))
  refine Ord.InText.nil fun w5 hS => ?_
  clear hT9
  obtain ⟨hC9, hA9⟩ := Ord.chain_end hS
  clear hS
  go_wp2
  go_ret
  exact ⟨rfl, hC9.2⟩
set_option maxHeartbeats 1600000 in
theorem count_w (i j : Nat) (hE : Env w0 L w) (hi : L[i]? = some (wbox p c)) (hj : L[j]? = some (cellI c F f q n)) :
    Calls Try.prog 53 #[.pointer (some ⟨p, 0, none⟩)] w fun e w' => e = .returned (.agg #[.int .i64 q.l, .int .i64 q.s, .int .i64 q.w, .int .i64 q.f, .int .i64 q.a]) ∧ Below w.heap.size w w' := by
  have hb := (Below.refl w.heap.size w).alloc (Nat.le_refl _) (.cells #[.int .i64 0, .int .i64 0, .int .i64 0, .int .i64 0, .int .i64 0] 58)
  replace hE := hE.box w.heap.size rfl [.int .i64 0, .int .i64 0, .int .i64 0, .int .i64 0, .int .i64 0] 58
  go_enter Try.func53, Try.ntmps53
  go_wp2_with fail
  refine (kept_any (hE.wblk (i + 1) hi)).mono ?_
  rintro e w1 ⟨rfl, rfl⟩
  go_wp2_with fail
  refine (count_any (hE.cell (j + 1) hj)).mono ?_
  rintro e w2 ⟨rfl, hb2⟩
  have hE2 := hE.over hb2
  have f5 := hE2.thaw 0 rfl
  have f0 := f5 0 (by simp)
  have f1 := f5 1 (by simp)
  have f2 := f5 2 (by simp)
  have f3 := f5 3 (by simp)
  have f4 := f5 4 (by simp)
  have r := hE2.rule 0 rfl
  have hB := hb.trans (hb2.mono hb.size)
  clear f5
  go_wp2
  have hP := hE2.put5 0 rfl (.int .i64 q.l) (.int .i64 q.s) (.int .i64 q.w) (.int .i64 q.f) (.int .i64 q.a)
  have q9 := hP.rule 0 rfl
  refine bodyPost_ret (v := .agg #[.int .i64 q.l, .int .i64 q.s, .int .i64 q.w, .int .i64 q.f, .int .i64 q.a]) (by simp [results, Try.results53, go_sem, q9]) rfl ⟨rfl, ?_⟩
  exact ((((hB.setCell (Nat.le_refl _) _).setCell (Nat.le_refl _) _).setCell (Nat.le_refl _) _).setCell (Nat.le_refl _) _).setCell (Nat.le_refl _) _
theorem new_w (hE : Env w0 L w) : Calls Try.prog 40 #[] w fun e w' => ∃ p c, e = .returned (.pointer (some ⟨p, 0, none⟩)) ∧ Env w0 (wbox p c :: cellI c (fun k => k = c) (fun _ => 0) ⟨0, 0, 0, 0, 0⟩ 0 :: L) w' ∧ Below w.heap.size w w' := by
  go_enter Try.func40, Try.ntmps40
  go_wp2_with fail
  refine (new_any w).mono ?_
  rintro e w1 ⟨rfl, hC, hb⟩
  replace hE := (hE.made hC (Nat.le_refl _) hb).box w1.heap.size rfl [.pointer (some ⟨w.heap.size, 0, none⟩)] 98
  go_wp2
  go_ret
  exact ⟨_, _, rfl, hE, hb.alloc hb.size _⟩
end
end Go.Proofs.Ythiccboecimfjaa

/- A map of numbers by places, read as a function that is 0 where nothing is. -/
namespace Go.Proofs.Ythiccboecimfjaa
open Go.RowKit Go.Maps
set_option maxRecDepth 100000

def wdI (v : Int) : DataW Unit := .lit (.int .i64 v)
/-- A function that is a word everywhere, and 0 but at places. -/
structure Nums (f : Plc → Int) : Prop where
  u : ∀ x, In64 (f x)
  out : ∀ x, ¬ Wf x → f x = 0
theorem Nums.zero : Nums fun _ => 0 := ⟨fun _ => (by unfold In64; omega), fun _ _ => rfl⟩
theorem Nums.set {f : Plc → Int} (h : Nums f) {x : Plc} (hx : Wf x) {v : Int} (hv : In64 v) : Nums (upd f x v) := by
  refine ⟨fun y => ?_, fun y hy => ?_⟩
  · unfold upd; split
    · exact hv
    · exact h.u y
  · rw [upd_other _ _ (fun e => hy (by rw [e]; exact hx))]
    exact h.out y hy
structure ReadsN (D : DataW Unit) (f : Plc → Int) : Prop where
  nums : Nums f
  at' : ∀ x, Wf x → D.atKey (kl x) (wdI 0) = wdI (f x)
  has' : ∀ x, Wf x → Maps.has D (kl x) = decide (f x ≠ 0)
theorem ReadsN.empty : ReadsN (.map []) fun _ => 0 := ⟨Nums.zero, fun _ _ => rfl, fun _ _ => by simp [Maps.has]⟩
theorem ReadsN.put {D : DataW Unit} {f : Plc → Int} (h : ReadsN D f) (hD : IsMap D) {x : Plc} (hx : Wf x) {v : Int} (hv : In64 v) (h0 : v ≠ 0) : ReadsN (D.put (kl x) (wdI v)) (upd f x v) := by
  refine ⟨h.nums.set hx hv, fun y hy => ?_, fun y hy => ?_⟩
  · by_cases e : y = x
    · subst e; rw [upd_same]; exact atKey_put_same hD (kl_key _) _ _
    · rw [upd_other _ _ e, atKey_put_other (fun e' => e (kl_inj hy hx e')), h.at' y hy]
  · by_cases e : y = x
    · subst e; rw [upd_same, has_put_same hD (kl_key _)]; simp [h0]
    · rw [upd_other _ _ e, has_put_other (fun e' => e (kl_inj hy hx e')), h.has' y hy]
theorem ReadsN.del {D : DataW Unit} {f : Plc → Int} (h : ReadsN D f) {x : Plc} (hx : Wf x) : ReadsN (D.del (kl x)) (upd f x 0) := by
  refine ⟨h.nums.set hx (by unfold In64; omega), fun y hy => ?_, fun y hy => ?_⟩
  · by_cases e : y = x
    · subst e; rw [upd_same]; exact atKey_del_same _
    · rw [upd_other _ _ e, atKey_del_other (fun e' => e (kl_inj hy hx e')), h.at' y hy]
  · by_cases e : y = x
    · subst e; rw [upd_same, has_del_same]; simp
    · rw [upd_other _ _ e, has_del_other (fun e' => e (kl_inj hy hx e')), h.has' y hy]

theorem zeroNum (w : World) : (zeroValue 3).run Try.prog w = .ok (.int .i64 0) w := by kernel_rfl
/-- What a map, nil or not, is good for: f, in at most n entries. -/
def LeadsIs (w : World) (mp : Option Nat) (f : Plc → Int) (n : Nat) : Prop :=
  (mp = none ∧ f = fun _ => 0) ∨ ∃ b D, mp = some b ∧ w.ownsMap Try.prog 44 (plainElem (H := Unit) Try.prog 3) b n D ∧ ReadsN D f
theorem LeadsIs.nums {w : World} {mp : Option Nat} {f : Plc → Int} {n : Nat} (h : LeadsIs w mp f n) : Nums f := by
  rcases h with ⟨_, rfl⟩ | ⟨b, D, _, _, h⟩
  · exact Nums.zero
  · exact h.nums
theorem LeadsIs.mono {w : World} {mp : Option Nat} {f : Plc → Int} {n m : Nat} (h : LeadsIs w mp f n) (hm : n ≤ m) : LeadsIs w mp f m := by
  rcases h with h | ⟨b, D, e, ho, hr⟩
  · exact .inl h
  · exact .inr ⟨b, D, e, ho.mono hm, hr⟩
theorem LeadsIs.lt {w : World} {mp : Option Nat} {f : Plc → Int} {n : Nat} (h : LeadsIs w mp f n) : ∀ b, mp = some b → b < w.heap.size := by
  rcases h with ⟨rfl, _⟩ | ⟨b, D, rfl, ho, hr⟩
  · intro b e; cases e
  · intro b' e; cases e; exact ho.lt
theorem LeadsIs.kept {w w' : World} {mp : Option Nat} {f : Plc → Int} {n : Nat} (h : LeadsIs w mp f n) (hk : ∀ b, mp = some b → w'.heap[b]? = w.heap[b]?) : LeadsIs w' mp f n := by
  rcases h with h | ⟨b, D, e, ⟨es, clock, hb, r⟩, hr⟩
  · exact .inl h
  · exact .inr ⟨b, D, e, ⟨es, clock, (hk b e).trans hb, r⟩, hr⟩
theorem LeadsIs.more {w : World} {mp : Option Nat} {f : Plc → Int} {n : Nat} (h : LeadsIs w mp f n) (o : Obj) : LeadsIs (w.alloc o) mp f n := h.kept fun b e => Below.heap_alloc _ _ _ (h.lt b e)
theorem LeadsIs.drew {w : World} {mp : Option Nat} {f : Plc → Int} {n : Nat} (h : LeadsIs w mp f n) : LeadsIs w.drew mp f n := h.kept fun _ _ => rfl
theorem LeadsIs.look {w : World} {mp : Option Nat} {f : Plc → Int} {n : Nat} (h : LeadsIs w mp f n) {x : Plc} (hx : Wf x) : (Instr.lookup 81 (.map mp) (pv x) false).run Try.prog w = .ok (.int .i64 (f x)) w := by
  rcases h with ⟨rfl, rfl⟩ | ⟨b, D, rfl, ho, hr⟩
  · have := Maps.look_nil (w := w) false keyPlace Try.underlying81 (zeroNum w) (key_mk x hx)
    simpa using this
  · obtain ⟨c, hrun, hat, _⟩ := ho.lookup_int keyPlace Try.underlying81 Try.underlying3 (zeroNum w) (key_mk x hx)
    have h1 := hr.at' x hx
    unfold wdI at h1
    rw [h1] at hat
    simp at hat
    rw [hrun, hat]
theorem LeadsIs.drop {w : World} {mp : Option Nat} {f : Plc → Int} {n : Nat} (h : LeadsIs w mp f n) {x : Plc} (hx : Wf x) (ty : TypeId) :
    ∃ w', (Builtin.delete_ #[81, 44] ty #[.map mp, pv x]).run Try.prog w = .ok (.tuple #[]) w' ∧ LeadsIs w' mp (upd f x 0) n ∧ Turn (fun k => mp = some k) w w' := by
  rcases h with ⟨rfl, rfl⟩ | ⟨b, D, rfl, ho, hr⟩
  · refine ⟨w, Maps.drop_nil keyPlace Try.underlying81 (key_mk x hx) ty, .inl ⟨rfl, ?_⟩, Turn.refl _ _⟩
    funext y; simp [upd]
  · obtain ⟨w', hrun, ho', ht⟩ := ho.drop keyPlace Try.underlying81 (key_mk x hx) ty
    exact ⟨w', hrun, .inr ⟨b, _, rfl, ho', hr.del hx⟩, (Turn.refl _ _).turned ht fun _ => rfl⟩
theorem LeadsIs.store {w : World} {b : Nat} {f : Plc → Int} {n : Nat} (h : LeadsIs w (some b) f n) (hn : n < maxLen) {x : Plc} (hx : Wf x) {v : Int} (hv : In64 v) (h0 : v ≠ 0) :
    ∃ w', (Instr.mapUpdate 81 (.map (some b)) (pv x) (.int .i64 v)).run Try.prog w = .ok () w' ∧ LeadsIs w' (some b) (upd f x v) (n + 1) ∧ Turn (fun k => k = b) w w' := by
  rcases h with ⟨e, _⟩ | ⟨b', D, e, ho, hr⟩
  · cases e
  · cases e
    obtain ⟨w', hrun, ho', ht⟩ := ho.store keyPlace Try.underlying81 hn (key_mk x hx) (plainElem_int Try.underlying3 (wf_i.2 hv))
    exact ⟨w', hrun, .inr ⟨b, _, rfl, ho', hr.put ho.isMap hx hv h0⟩, (Turn.refl _ _).turned ht fun _ => rfl⟩
theorem LeadsIs.made (w : World) : LeadsIs (w.alloc (.map #[] 0)) (some w.heap.size) (fun _ => 0) 0 := .inr ⟨_, _, rfl, World.ownsMap_made w _ _ _, ReadsN.empty⟩
end Go.Proofs.Ythiccboecimfjaa

/- A map of numbers by places, as a thing among others. -/
namespace Go.Proofs.Ythiccboecimfjaa
open Go.RowKit Go.Maps
set_option maxRecDepth 100000

/-- Whom words lead to, as a thing. -/
def leadsI (mp : Option Nat) (h : Plc → Int) (m : Nat) : Item where
  F := fun k => mp = some k
  says := fun w => LeadsIs w mp h m
  loc := fun _ _ h hk _ => h.kept fun b e => hk b e

section
variable {w0 w w' : World} {L : List Item} {mp : Option Nat} {h h' : Plc → Int} {m m' : Nat}
theorem Env.leads (hE : Env w0 L w) (i : Nat) (hi : L[i]? = some (leadsI mp h m)) : LeadsIs w mp h m := hE.get i hi
theorem Env.turnL (hE : Env w0 L w) (i : Nat) (hi : L[i]? = some (leadsI mp h m)) (hM : LeadsIs w' mp h' m') (ht : Turn (fun k => mp = some k) w w') : Env w0 (L.set i (leadsI mp h' m')) w' :=
  hE.step i (leadsI mp h' m') hi ⟨ht, fun _ hk => .inl hk⟩ hM hM.lt
theorem Env.mapMade (hE : Env w0 L w) (i : Nat) (hi : L[i]? = some (leadsI none h m)) (n : Nat) (hn : w.heap.size = n) : Env w0 (L.set i (leadsI (some n) h m)) (w.alloc (.map #[] 0)) := by
  subst hn
  have hM := hE.leads i hi
  have e : h = fun _ => 0 := by
    rcases hM with ⟨_, e⟩ | ⟨b, D, e, _⟩
    · exact e
    · cases e
  subst e
  have hM' : LeadsIs (w.alloc (.map #[] 0)) (some w.heap.size) (fun _ => 0) m := (LeadsIs.made w).mono (Nat.zero_le _)
  exact hE.step i (leadsI (some w.heap.size) (fun _ => 0) m) hi ⟨(Turn.refl _ w).alloc _, fun k hk => by cases hk; exact .inr (Nat.le_refl _)⟩ hM' hM'.lt
theorem Env.newL (hE : Env w0 L w) : Env w0 (leadsI none (fun _ => 0) 0 :: L) w :=
  hE.add (leadsI none (fun _ => 0) 0) (Below.refl _ _) (.inl ⟨rfl, rfl⟩) fun k hk => by cases hk
end

theorem setSelf {L : List Item} {i : Nat} {a : Item} (h : L[i]? = some a) : L.set i a = L := by
  apply List.ext_getElem?
  intro j
  rw [List.getElem?_set]
  split
  · rename_i e; subst e; rw [h]; have := (List.getElem?_eq_some_iff.1 h).1; simp [this]
  · rfl
theorem wself {L : List Item} {i : Nat} {a b : Item} (h : L[i]? = some a) : (L.set i b)[i]? = some b := by
  have := (List.getElem?_eq_some_iff.1 h).1
  rw [List.getElem?_set_self this]
theorem Blk.over {m n : Nat} {vs : List Value} {w w' : World} (h : Blk m w n vs) (hb : Below w.heap.size w w') : Blk m w' n vs := h.kept hb.size (hb.block n h.1)
/-- What is said at each of two stations stays, whatever the station. -/
theorem Stage.two {P0 P1 : World → Prop} {w w' : World} (h0 : P0 w → P0 w') (h1 : P1 w → P1 w') (j : Nat) (h : Stage [P0, P1] j w) : Stage [P0, P1] j w' := by
  obtain ⟨P, hP, h⟩ := h
  match j, hP with
  | 0, hP => cases hP; exact ⟨_, rfl, h0 h⟩
  | 1, hP => cases hP; exact ⟨_, rfl, h1 h⟩
  | j + 2, hP => simp at hP
theorem Stage.three {P0 P1 P2 : World → Prop} {w w' : World} (h0 : P0 w → P0 w') (h1 : P1 w → P1 w') (h2 : P2 w → P2 w') (j : Nat) (h : Stage [P0, P1, P2] j w) : Stage [P0, P1, P2] j w' := by
  obtain ⟨P, hP, h⟩ := h
  match j, hP with
  | 0, hP => cases hP; exact ⟨_, rfl, h0 h⟩
  | 1, hP => cases hP; exact ⟨_, rfl, h1 h⟩
  | 2, hP => cases hP; exact ⟨_, rfl, h2 h⟩
  | j + 3, hP => simp at hP
theorem swf_yes {f : Plc → Int} {x : Plc} {o v : Int} (h : f x = o) : swf f x o v = upd f x v := if_pos h
theorem swf_no {f : Plc → Int} {x : Plc} {o v : Int} (h : ¬ f x = o) : swf f x o v = f := if_neg h
end Go.Proofs.Ythiccboecimfjaa

/- Rows of the call's own: kept while others turn; appended to; as things among others. -/
namespace Go.Proofs.Ythiccboecimfjaa
open Go.RowKit
set_option maxRecDepth 100000

theorem ownsRow_lt {w : World} {b : Nat} {v : Value} {e : TypeId} {n s : Nat} {xs : List Value} (h : w.ownsRow b e s v n xs) : ∀ k, v.ownBlock = some k → k < w.heap.size := fun k hk => (h.lt k hk).2
theorem ownsRow_kept {w w' : World} {b : Nat} {v : Value} {e : TypeId} {n s : Nat} {xs : List Value} (h : w.ownsRow b e s v n xs) (hk : ∀ k, v.ownBlock = some k → w'.heap[k]? = w.heap[k]?) : w'.ownsRow b e s v n xs := by
  refine ⟨h.1, ?_⟩
  rcases h.2 with hn | ⟨g, cap, cur, rfl, hb, hg, rest⟩
  · exact .inl hn
  · exact .inr ⟨g, cap, cur, rfl, hb, (hk g rfl).trans hg, rest⟩
theorem run_call_append {P : Program} {o : Oper} {f : Operand → Value} (s x : Operand) (t : TypeId) (ho : o.op = .call { callee := .builtin .append, args := #[s, x], argTypes := #[t, t] }) {vs vx r : Value} {w w' : World} (hs : f s = vs) (hx : f x = vx)
    (hr : (Builtin.append_ #[t, t] o.type #[vs, vx]).run P w = .ok r w') : (execOp f o).run P w = .ok (.value r) w' := by
  unfold execOp
  simp only [ho, resolve, invoke, builtin, Sem.run_bind, Sem.run_pure, Result.andThen_ok, List.map_toArray, List.map_cons, List.map_nil, hs, hx, hr]
theorem append_lands {P : Program} {o : Oper} {f : Operand → Value} {T : World → Prop} {s x : Operand} {t : TypeId} {vs vx r : Value} {w w' : World} (ho : o.op = .call { callee := .builtin .append, args := #[s, x], argTypes := #[t, t] }) (hr : (Builtin.append_ #[t, t] o.type #[vs, vx]).run P w = .ok r w') (hs : f s = vs) (hx : f x = vx) (hT : T w') : Ord.LandsIn P T r ((execOp f o).run P w) := by
  rw [run_call_append s x t ho hs hx hr]
  exact ⟨rfl, hT⟩
theorem Step.of_below {w w' : World} (F : Nat → Prop) (hb : Below w.heap.size w w') : Step F F w w' := ⟨Turn.of_below hb, fun _ h => .inl h⟩
/-- A row appended to a row of ours: what is appended is nothing, or cells behind an address. -/
theorem run_append_rows {P : Program} (t ty : TypeId) (base : Nat) (e : TypeId) (i : TypeInfo) (z : Value) (size bytes : Nat) (ht : P.underlying t = some (.slice e)) (hi : P.info? e = some i) (hz : i.zero = some z)
    (hsize : i.size = size) (hby : i.bytes = bytes) (hzs : z.cells.size = size) (hsz : 0 < size) (w : World)
    (v : Value) (n : Nat) (xs : List Value) (hown : w.ownsRow base e size v n xs) (A : Option Addr) (m c : Nat) (news : List Value) (hl : news.length = m * size)
    (hnews : (A = none ∧ m = 0) ∨ ∃ ad, A = some ad ∧ ∀ j u, news[j]? = some u → w.cell? (ad.add j) = some u) (h1 : ∀ u ∈ news, u.oneCell' = true)
    (h63 : n + m ≤ maxLen) (hbytes : (n + m) * bytes ≤ 140737488355328) (hbase : base ≤ w.heap.size) :
    ∃ v' w', (Builtin.append_ #[t, t] ty #[v, .slice A m c]).run P w = .ok v' w' ∧ w'.ownsRow base e size v' (n + m) (xs ++ news) ∧ w.grownBy w' v.ownBlock ∧ (v'.ownBlock = v.ownBlock ∨ v'.ownBlock = some w.heap.size) := by
  rcases hnews with ⟨rfl, rfl⟩ | ⟨ad, rfl, hn⟩
  · have h0 : news = [] := List.eq_nil_of_length_eq_zero (by simpa using hl)
    subst h0
    refine ⟨v, w, ?_, by simpa using hown, ⟨rfl, rfl, rfl, Nat.le_refl _, fun _ _ _ => rfl⟩, .inl rfl⟩
    rcases hown.2 with ⟨rfl, rfl⟩ | ⟨g, cap, cur, rfl, hb, hg, hnc, hcm, hcs, htk⟩
    · simp [Builtin.append_, run_underlying ht, sizeOf, typeInfo, hi, Builtin.lenOf, Builtin.firstCells]
    · simp [Builtin.append_, run_underlying ht, sizeOf, typeInfo, hi, Builtin.lenOf, Builtin.firstCells, hnc, storeCells]
  · obtain ⟨v', w', hr, h2, h3, _, h5⟩ := run_append_own_at (P := P) w base t ty e i z size bytes ht hi hz hsize hby hzs hsz v n xs hown ad m c news hl hn h1 h63 hbytes hbase
    exact ⟨v', w', hr, h2, h3, h5⟩
theorem wpList_append_run {P : Program} {ops : Array Oper} {rest : List Oper} {o : Oper} {a : Act} {w : World} {Q : Exit → Act → World → Prop} (hgd : o.guard = none) (s x : Operand) (t : TypeId) (ho : o.op = .call { callee := .builtin .append, args := #[s, x], argTypes := #[t, t] })
    {vs vx r : Value} {w' : World} (hr : (Builtin.append_ #[t, t] o.type #[vs, vx]).run P w = .ok r w') (hs : a.eval s = vs) (hx : a.eval x = vx) (h : wpList P ops Q rest (a.put o.dst r) w') : wpList P ops Q (o :: rest) a w :=
  wpList_plain hgd fun K hK => by
    unfold Oper.wp
    rw [run_call_append s x t ho hs hx hr]
    exact hK _ _ h
theorem ownsRow_base {w : World} {b b' : Nat} {e : TypeId} {s n : Nat} {v : Value} {xs : List Value} (h : w.ownsRow b e s v n xs) (hb : b' ≤ b) : w.ownsRow b' e s v n xs :=
  ⟨h.1, h.2.imp id fun ⟨g, cap, cur, h1, h2, h3⟩ => ⟨g, cap, cur, h1, Nat.le_trans hb h2, h3⟩⟩
theorem ownsRow_slice {w : World} {b : Nat} {e : TypeId} {s n : Nat} {v : Value} {xs : List Value} (h : w.ownsRow b e s v n xs) : ∃ A c, v = .slice A n c := by
  rcases h.2 with ⟨rfl, rfl⟩ | ⟨g, cap, cur, rfl, _⟩
  · exact ⟨_, _, rfl⟩
  · exact ⟨_, _, rfl⟩
theorem cells_new (w : World) (vs : List Value) (t : TypeId) : ∀ j u, vs[j]? = some u → (w.alloc (.cells vs.toArray t)).cell? ((⟨w.heap.size, 0, none⟩ : Addr).add j) = some u := fun j u h => by
  have e : (⟨w.heap.size, 0, none⟩ : Addr).add j = ⟨w.heap.size, j, none⟩ := by unfold Addr.add; split <;> simp_all
  rw [e, (Blk.new 0 w vs t).rule j]
  exact h

/-! ### as things -/
/-- A row: the slice v owns the cells xs. -/
def rowI (v : Value) (e : TypeId) (s n : Nat) (xs : List Value) : Item where
  F := fun k => v.ownBlock = some k
  says := fun w => w.ownsRow 0 e s v n xs
  loc := fun w1 w2 h hk _ => ownsRow_kept h hk
/-- Whole numbers in a row. -/
def ints (zs : List Int) : List Value := zs.map (Value.int .i64)
theorem ints_length (zs : List Int) : (ints zs).length = zs.length * 1 := by simp [ints]
theorem ints_append (a b : List Int) : ints (a ++ b) = ints a ++ ints b := by simp [ints]
def intsI (v : Value) (zs : List Int) : Item := rowI v 3 1 zs.length (ints zs)
theorem infoInt : (Try.prog.info? 3).map (fun i => (i.zero, i.size, i.bytes)) = some (some (.int .i64 0), 1, 8) := by kernel_rfl
/-- What the cells of such a row hold. -/
def Cells1 (w : World) (A : Option Addr) (zs : List Int) : Prop := zs = [] ∨ ∃ g, A = some ⟨g, 0, none⟩ ∧ g < w.heap.size ∧ ∀ i, i < zs.length → w.cell? ⟨g, i, none⟩ = some (.int .i64 (zs.getD i 0))
theorem cells1 {w : World} {b : Nat} {A : Option Addr} {cap : Nat} {zs : List Int} (h : w.ownsRow b 3 1 (.slice A zs.length cap) zs.length (ints zs)) : Cells1 w A zs := by
  rcases h.2 with ⟨_, h0⟩ | ⟨g, cap', cur, hv, _, hg, hn, hc, hcs, htk⟩
  · exact .inl (List.eq_nil_of_length_eq_zero h0)
  · simp only [Value.slice.injEq] at hv
    obtain ⟨rfl, -, rfl⟩ := hv
    refine .inr ⟨g, rfl, (Array.getElem?_eq_some_iff.1 hg).1, fun j hj => ?_⟩
    have h1 : (ints zs)[j]? = some (.int .i64 (zs.getD j 0)) := by simp [ints, hj]
    rw [← h1, ← htk, List.getElem?_take_of_lt (by omega)]
    simp [World.cell?, hg]
theorem Cells1.over {w w' : World} {A : Option Addr} {zs : List Int} (h : Cells1 w A zs) (hk : ∀ k, (Value.slice A zs.length 0).ownBlock = some k → w'.heap[k]? = w.heap[k]?) (hs : w.heap.size ≤ w'.heap.size) : Cells1 w' A zs := by
  rcases h with h | ⟨g, rfl, hg, hc⟩
  · exact .inl h
  · exact .inr ⟨g, rfl, Nat.lt_of_lt_of_le hg hs, fun i hi => by rw [World.cell?_of_block (w := w) (hk g rfl)]; exact hc i hi⟩

section
variable {w0 w w' : World} {L : List Item}
theorem Env.row (h : Env w0 L w) (i : Nat) {v : Value} {zs : List Int} (hi : L[i]? = some (intsI v zs)) : w.ownsRow 0 3 1 v zs.length (ints zs) := h.get i hi
theorem Env.rowCells (h : Env w0 L w) (i : Nat) {A : Option Addr} {n cap : Nat} {zs : List Int} (hn : n = zs.length) (hi : L[i]? = some (intsI (.slice A n cap) zs)) : Cells1 w A zs := by subst hn; exact cells1 (h.row i hi)
/-- A row that has come into being. -/
theorem Env.addRow (h : Env w0 L w) {v : Value} {zs : List Int} (ho : w'.ownsRow w.heap.size 3 1 v zs.length (ints zs)) (hb : Below w.heap.size w w') : Env w0 (intsI v zs :: L) w' :=
  h.add (intsI v zs) hb (ownsRow_base ho (Nat.zero_le _)) fun k hk => ho.lt k hk
theorem Env.addNone (h : Env w0 L w) : Env w0 (intsI (.slice none 0 0) [] :: L) w :=
  h.add (intsI (.slice none 0 0) []) (Below.refl _ _) (World.ownsRow_nil _ _ _ _) fun k hk => by cases hk
/-- An empty row that has been made. -/
theorem Env.addEmpty (h : Env w0 L w) (n : Nat) (hn : w.heap.size = n) : Env w0 (intsI (.slice (some ⟨n, 0, none⟩) 0 0) [] :: L) (w.alloc (.cells #[] 3)) := by
  subst hn
  exact h.addRow (v := .slice (some ⟨w.heap.size, 0, none⟩) 0 0) (zs := []) ⟨rfl, .inr ⟨w.heap.size, 0, #[], rfl, Nat.le_refl _, heap_alloc_new w _, Nat.le_refl _, Nat.zero_le _, rfl, rfl⟩⟩ ((Below.refl _ _).alloc (Nat.le_refl _) _)
/-- One number appended to a row. -/
theorem Env.append1 (h : Env w0 L w) (i : Nat) {v : Value} {zs : List Int} (hi : L[i]? = some (intsI v zs)) (x : Int) (hz : zs.length ≤ 1000000) (n : Nat) (hn : w.heap.size = n) :
    ∃ g cap w', (Builtin.append_ #[31, 31] 31 #[v, .slice (some ⟨n, 0, none⟩) 1 1]).run Try.prog (w.alloc (.cells #[.int .i64 x] 3)) = .ok (.slice (some ⟨g, 0, none⟩) (zs.length + 1) cap) w' ∧
      Env w0 (L.set i (intsI (.slice (some ⟨g, 0, none⟩) (zs.length + 1) cap) (zs ++ [x]))) w' ∧ Step (fun k => v.ownBlock = some k) (fun k => k = g) w w' := by
  subst hn
  obtain ⟨i0, hi0, hz0, hz1, hz2⟩ := info_parts infoInt
  have hown := h.row i hi
  obtain ⟨g, cap, w', hrun, ho, hgr, hg, hgl⟩ := run_append_lies (P := Try.prog) (w.alloc (.cells #[.int .i64 x] 3)) 31 31 0 3 i0 (.int .i64 0) 1 8 Try.underlying31 hi0 hz0 hz1 hz2 rfl (by decide) v zs.length (ints zs) (hown.alloc _)
    ⟨w.heap.size, 0, none⟩ 1 1 [.int .i64 x] rfl (cells_new _ _ _) (by simp [Value.oneCell']) (by omega) (by simp [maxLen]; omega) (by omega) (by simp) _ rfl
  have hst : Step (fun k => v.ownBlock = some k) (fun k => k = g) w w' := ⟨((Turn.refl _ w).alloc _).grown hgr fun k _ e => e, fun k hk => by
    subst hk
    rcases hg with e | e
    · exact .inl e
    · right; rw [e]; simp⟩
  refine ⟨g, cap, w', hrun, ?_, hst⟩
  refine h.step i (intsI (.slice (some ⟨g, 0, none⟩) (zs.length + 1) cap) (zs ++ [x])) hi ⟨hst.turn, fun k hk => hst.from' k (by cases hk; rfl)⟩ ?_ fun k hk => by cases hk; exact hgl
  have e1 : (zs ++ [x]).length = zs.length + 1 := by simp
  show w'.ownsRow 0 3 1 _ (zs ++ [x]).length (ints (zs ++ [x]))
  rw [e1, ints_append]
  exact ho
end
end Go.Proofs.Ythiccboecimfjaa

/- Souls: mathematics: births in a row; who a slot ever was, who it is. -/
namespace Go.Proofs.Ythiccboecimfjaa

/-- Who x ever was, the births in a row from the identity n on. -/
def idsFrom : Nat → List Int → Int → List Int
  | _, [], _ => []
  | n, y :: l, x => if y = x then (n : Int) :: idsFrom (n + 1) l x else idsFrom (n + 1) l x
def ids (l : List Int) (x : Int) : List Int := idsFrom 1 l x
/-- Who it is. -/
def nowL (l : List Int) (x : Int) : Int := (ids l x).getLastD 0
theorem idsFrom_snoc (y x : Int) : ∀ (l : List Int) (n : Nat), idsFrom n (l ++ [y]) x = idsFrom n l x ++ (if y = x then [((n + l.length : Nat) : Int)] else [])
  | [], n => by simp only [List.nil_append, idsFrom]; split <;> simp
  | z :: l, n => by
    simp only [List.cons_append, idsFrom, idsFrom_snoc y x l (n + 1), List.length_cons]
    rw [show n + 1 + l.length = n + (l.length + 1) by omega]
    split <;> simp
theorem ids_snoc (l : List Int) (y x : Int) : ids (l ++ [y]) x = ids l x ++ (if y = x then [(l.length : Int) + 1] else []) := by
  unfold ids
  rw [idsFrom_snoc]
  split
  · simp; omega
  · rfl
theorem ids_nil (x : Int) : ids [] x = [] := rfl
theorem ids_other {l : List Int} {x : Int} (h : x ∉ l) : ids l x = [] := by
  unfold ids
  generalize 1 = n
  induction l generalizing n with
  | nil => rfl
  | cons y l ih =>
    simp only [List.mem_cons, not_or] at h
    have h1 : ¬ y = x := fun e => h.1 e.symm
    simp only [idsFrom, if_neg h1, ih h.2]
theorem idsFrom_mem (l : List Int) (x : Int) : ∀ (n : Nat) (i : Int), i ∈ idsFrom n l x ↔ ∃ k : Nat, i = (n + k : Nat) ∧ l[k]? = some x := by
  induction l with
  | nil => intro n i; simp [idsFrom]
  | cons y l ih =>
    intro n i
    simp only [idsFrom]
    split
    · rename_i e
      rw [List.mem_cons, ih]
      constructor
      · rintro (rfl | ⟨k, rfl, hk⟩)
        · exact ⟨0, rfl, by simp [e]⟩
        · exact ⟨k + 1, by simp; omega, by simpa using hk⟩
      · rintro ⟨k, rfl, hk⟩
        cases k with
        | zero => exact .inl rfl
        | succ k => exact .inr ⟨k, by simp; omega, by simpa using hk⟩
    · rename_i e
      rw [ih]
      constructor
      · rintro ⟨k, rfl, hk⟩
        exact ⟨k + 1, by simp; omega, by simpa using hk⟩
      · rintro ⟨k, rfl, hk⟩
        cases k with
        | zero => simp at hk; exact absurd hk e
        | succ k => exact ⟨k, by simp; omega, by simpa using hk⟩
/-- i is one of x's: the i-th birth is in x. -/
theorem ids_mem {l : List Int} {x i : Int} : i ∈ ids l x ↔ ∃ k : Nat, i = (k : Int) + 1 ∧ l[k]? = some x := by
  unfold ids
  rw [idsFrom_mem]
  constructor
  · rintro ⟨k, rfl, h⟩; exact ⟨k, by omega, h⟩
  · rintro ⟨k, rfl, h⟩; exact ⟨k, by omega, h⟩
theorem ids_ne_nil {l : List Int} {x : Int} : ids l x ≠ [] ↔ x ∈ l := by
  constructor
  · intro h
    by_cases hx : x ∈ l
    · exact hx
    · exact absurd (ids_other hx) h
  · intro h e
    obtain ⟨k, hk⟩ := List.getElem?_of_mem h
    have : ((k : Int) + 1) ∈ ids l x := ids_mem.2 ⟨k, rfl, hk⟩
    rw [e] at this
    simp at this
theorem ids_length_le (l : List Int) (x : Int) : (ids l x).length ≤ l.length := by
  unfold ids
  generalize 1 = n
  induction l generalizing n with
  | nil => simp [idsFrom]
  | cons y l ih =>
    simp only [idsFrom]
    split
    · have := ih (n + 1); simp; omega
    · have := ih (n + 1); simp; omega
theorem nowL_snoc (l : List Int) (y x : Int) : nowL (l ++ [y]) x = if y = x then (l.length : Int) + 1 else nowL l x := by
  unfold nowL
  rw [ids_snoc]
  split
  · simp
  · simp
theorem nowL_mem {l : List Int} {x : Int} (h : nowL l x ≠ 0) : nowL l x ∈ ids l x := by
  unfold nowL at *
  rcases e : ids l x with _ | ⟨a, r⟩
  · rw [e] at h; exact absurd rfl h
  · exact List.getLast_mem (l := a :: r) (by simp)
theorem nowL_bound (l : List Int) (x : Int) : 0 ≤ nowL l x ∧ nowL l x ≤ l.length := by
  by_cases h : nowL l x = 0
  · omega
  · obtain ⟨k, e, hk⟩ := ids_mem.1 (nowL_mem h)
    have := (List.getElem?_eq_some_iff.1 hk).1
    omega
theorem nowL_zero {l : List Int} {x : Int} : nowL l x = 0 ↔ x ∉ l := by
  constructor
  · intro h hx
    have h1 := ids_ne_nil.2 hx
    unfold nowL at h
    rcases e : ids l x with _ | ⟨a, r⟩
    · exact h1 e
    · have : (a :: r).getLastD 0 ∈ ids l x := by rw [e]; exact List.getLast_mem (l := a :: r) (by simp)
      rw [e] at h
      rw [h] at this
      obtain ⟨k, e2, _⟩ := ids_mem.1 this
      omega
  · intro h
    simp [nowL, ids_other h]
/-- Two slots are never the same one. -/
theorem nowL_inj {l : List Int} {x y : Int} (h : nowL l x = nowL l y) (h0 : nowL l x ≠ 0) : x = y := by
  obtain ⟨k, e, hk⟩ := ids_mem.1 (nowL_mem h0)
  obtain ⟨j, e2, hj⟩ := ids_mem.1 (nowL_mem (h ▸ h0))
  have : k = j := by omega
  subst this
  rw [hk] at hj
  exact Option.some.inj hj
/-- Where i was born; 0: nowhere. -/
def slotL (l : List Int) (i : Int) : Int := if 1 ≤ i ∧ i ≤ l.length then l.getD (i - 1).toNat 0 else 0

/-- In which slots some were: each once, rising. -/
def Rises (m : List Int) : Prop := m.Pairwise (fun a b => a < b)
def SlotsOf (l m : List Int) : Prop := Rises m ∧ ∀ x, x ∈ m ↔ x ∈ l
theorem rises_eq : ∀ {l m : List Int}, Rises l → Rises m → (∀ x, x ∈ l ↔ x ∈ m) → l = m
  | [], [], _, _, _ => rfl
  | [], y :: m, _, _, h => by have := (h y).2 (by simp); simp at this
  | x :: l, [], _, _, h => by have := (h x).1 (by simp); simp at this
  | x :: l, y :: m, h1, h2, h => by
    obtain ⟨a1, a2⟩ := List.pairwise_cons.1 h1
    obtain ⟨b1, b2⟩ := List.pairwise_cons.1 h2
    have hxy : x = y := by
      rcases List.mem_cons.1 ((h x).1 (by simp)) with e | hx
      · exact e
      · rcases List.mem_cons.1 ((h y).2 (by simp)) with e | hy
        · exact e.symm
        · have := a1 y hy; have := b1 x hx; omega
    subst hxy
    rw [rises_eq a2 b2 fun z => ⟨fun hz => by
      rcases List.mem_cons.1 ((h z).1 (by simp [hz])) with e | h'
      · subst e; have := a1 _ hz; omega
      · exact h', fun hz => by
      rcases List.mem_cons.1 ((h z).2 (by simp [hz])) with e | h'
      · subst e; have := b1 _ hz; omega
      · exact h'⟩]
theorem SlotsOf.eq {l m n : List Int} (h : SlotsOf l m) (k : SlotsOf l n) : m = n := rises_eq h.1 k.1 fun x => (h.2 x).trans (k.2 x).symm
/-- Each once. -/
def each : List Int → List Int
  | [] => []
  | x :: l => if x ∈ each l then each l else x :: each l
theorem each_spec (l : List Int) : (each l).Nodup ∧ ∀ x, x ∈ each l ↔ x ∈ l := by
  induction l with
  | nil => exact ⟨List.nodup_nil, fun x => Iff.rfl⟩
  | cons y l ih =>
    unfold each
    split
    · rename_i h
      refine ⟨ih.1, fun x => ?_⟩
      rw [ih.2, List.mem_cons]
      exact ⟨.inr, fun e => e.elim (fun e => by rw [e]; exact (ih.2 y).1 h) id⟩
    · rename_i h
      exact ⟨List.nodup_cons.2 ⟨h, ih.1⟩, fun x => by rw [List.mem_cons, List.mem_cons, ih.2]⟩
end Go.Proofs.Ythiccboecimfjaa
