/- A map of numbers by places, read as a function that is 0 where nothing is. -/
import Derived.Test.YtnlepgbmbdmjbaaPlc
namespace Go.Proofs.Ytnlepgbmbdmjbaa
open Go.RowKit Go.Maps
set_option maxRecDepth 100000

def wdI (v : Int) : DataW Unit := .lit (.int .i64 v)
/-- A function that is a word everywhere, and 0 but at places. -/
structure Nums (f : Plc → Int) : Prop where
  u : ∀ x, In64 (f x)
  out : ∀ x, ¬ Wf x → f x = 0
theorem Nums.zero : Nums fun _ => 0 := ⟨fun _ => (by unfold In64; omega), fun _ _ => rfl⟩
theorem Nums.set {f : Plc → Int} (h : Nums f) {x : Plc} (hx : Wf x) {v : Int} (hv : In64 v) : Nums (upd f x v) := by
  refine ⟨fun y => ?_, fun y hy => ?_⟩
  · unfold upd; split
    · exact hv
    · exact h.u y
  · rw [upd_other _ _ (fun e => hy (by rw [e]; exact hx))]
    exact h.out y hy
structure ReadsN (D : DataW Unit) (f : Plc → Int) : Prop where
  nums : Nums f
  at' : ∀ x, Wf x → D.atKey (kl x) (wdI 0) = wdI (f x)
  has' : ∀ x, Wf x → Maps.has D (kl x) = decide (f x ≠ 0)
theorem ReadsN.empty : ReadsN (.map []) fun _ => 0 := ⟨Nums.zero, fun _ _ => rfl, fun _ _ => by simp [Maps.has]⟩
theorem ReadsN.put {D : DataW Unit} {f : Plc → Int} (h : ReadsN D f) (hD : IsMap D) {x : Plc} (hx : Wf x) {v : Int} (hv : In64 v) (h0 : v ≠ 0) : ReadsN (D.put (kl x) (wdI v)) (upd f x v) := by
  refine ⟨h.nums.set hx hv, fun y hy => ?_, fun y hy => ?_⟩
  · by_cases e : y = x
    · subst e; rw [upd_same]; exact atKey_put_same hD (kl_key _) _ _
    · rw [upd_other _ _ e, atKey_put_other (fun e' => e (kl_inj hy hx e')), h.at' y hy]
  · by_cases e : y = x
    · subst e; rw [upd_same, has_put_same hD (kl_key _)]; simp [h0]
    · rw [upd_other _ _ e, has_put_other (fun e' => e (kl_inj hy hx e')), h.has' y hy]
theorem ReadsN.del {D : DataW Unit} {f : Plc → Int} (h : ReadsN D f) {x : Plc} (hx : Wf x) : ReadsN (D.del (kl x)) (upd f x 0) := by
  refine ⟨h.nums.set hx (by unfold In64; omega), fun y hy => ?_, fun y hy => ?_⟩
  · by_cases e : y = x
    · subst e; rw [upd_same]; exact atKey_del_same _
    · rw [upd_other _ _ e, atKey_del_other (fun e' => e (kl_inj hy hx e')), h.at' y hy]
  · by_cases e : y = x
    · subst e; rw [upd_same, has_del_same]; simp
    · rw [upd_other _ _ e, has_del_other (fun e' => e (kl_inj hy hx e')), h.has' y hy]

theorem zeroNum (w : World) : (zeroValue 3).run Try.prog w = .ok (.int .i64 0) w := by kernel_rfl
/-- What a map, nil or not, is good for: f, in at most n entries. -/
def LeadsIs (w : World) (mp : Option Nat) (f : Plc → Int) (n : Nat) : Prop :=
  (mp = none ∧ f = fun _ => 0) ∨ ∃ b D, mp = some b ∧ w.ownsMap Try.prog 39 (plainElem (H := Unit) Try.prog 3) b n D ∧ ReadsN D f
theorem LeadsIs.nums {w : World} {mp : Option Nat} {f : Plc → Int} {n : Nat} (h : LeadsIs w mp f n) : Nums f := by
  rcases h with ⟨_, rfl⟩ | ⟨b, D, _, _, h⟩
  · exact Nums.zero
  · exact h.nums
theorem LeadsIs.mono {w : World} {mp : Option Nat} {f : Plc → Int} {n m : Nat} (h : LeadsIs w mp f n) (hm : n ≤ m) : LeadsIs w mp f m := by
  rcases h with h | ⟨b, D, e, ho, hr⟩
  · exact .inl h
  · exact .inr ⟨b, D, e, ho.mono hm, hr⟩
theorem LeadsIs.lt {w : World} {mp : Option Nat} {f : Plc → Int} {n : Nat} (h : LeadsIs w mp f n) : ∀ b, mp = some b → b < w.heap.size := by
  rcases h with ⟨rfl, _⟩ | ⟨b, D, rfl, ho, hr⟩
  · intro b e; cases e
  · intro b' e; cases e; exact ho.lt
theorem LeadsIs.kept {w w' : World} {mp : Option Nat} {f : Plc → Int} {n : Nat} (h : LeadsIs w mp f n) (hk : ∀ b, mp = some b → w'.heap[b]? = w.heap[b]?) : LeadsIs w' mp f n := by
  rcases h with h | ⟨b, D, e, ⟨es, clock, hb, r⟩, hr⟩
  · exact .inl h
  · exact .inr ⟨b, D, e, ⟨es, clock, (hk b e).trans hb, r⟩, hr⟩
theorem LeadsIs.more {w : World} {mp : Option Nat} {f : Plc → Int} {n : Nat} (h : LeadsIs w mp f n) (o : Obj) : LeadsIs (w.alloc o) mp f n := h.kept fun b e => Below.heap_alloc _ _ _ (h.lt b e)
theorem LeadsIs.drew {w : World} {mp : Option Nat} {f : Plc → Int} {n : Nat} (h : LeadsIs w mp f n) : LeadsIs w.drew mp f n := h.kept fun _ _ => rfl
theorem LeadsIs.look {w : World} {mp : Option Nat} {f : Plc → Int} {n : Nat} (h : LeadsIs w mp f n) {x : Plc} (hx : Wf x) : (Instr.lookup 69 (.map mp) (pv x) false).run Try.prog w = .ok (.int .i64 (f x)) w := by
  rcases h with ⟨rfl, rfl⟩ | ⟨b, D, rfl, ho, hr⟩
  · have := Maps.look_nil (w := w) false keyPlace Try.underlying69 (zeroNum w) (key_mk x hx)
    simpa using this
  · obtain ⟨c, hrun, hat, _⟩ := ho.lookup_int keyPlace Try.underlying69 Try.underlying3 (zeroNum w) (key_mk x hx)
    have h1 := hr.at' x hx
    unfold wdI at h1
    rw [h1] at hat
    simp at hat
    rw [hrun, hat]
theorem LeadsIs.drop {w : World} {mp : Option Nat} {f : Plc → Int} {n : Nat} (h : LeadsIs w mp f n) {x : Plc} (hx : Wf x) (ty : TypeId) :
    ∃ w', (Builtin.delete_ #[69, 39] ty #[.map mp, pv x]).run Try.prog w = .ok (.tuple #[]) w' ∧ LeadsIs w' mp (upd f x 0) n ∧ Turn (fun k => mp = some k) w w' := by
  rcases h with ⟨rfl, rfl⟩ | ⟨b, D, rfl, ho, hr⟩
  · refine ⟨w, Maps.drop_nil keyPlace Try.underlying69 (key_mk x hx) ty, .inl ⟨rfl, ?_⟩, Turn.refl _ _⟩
    funext y; simp [upd]
  · obtain ⟨w', hrun, ho', ht⟩ := ho.drop keyPlace Try.underlying69 (key_mk x hx) ty
    exact ⟨w', hrun, .inr ⟨b, _, rfl, ho', hr.del hx⟩, (Turn.refl _ _).turned ht fun _ => rfl⟩
theorem LeadsIs.store {w : World} {b : Nat} {f : Plc → Int} {n : Nat} (h : LeadsIs w (some b) f n) (hn : n < maxLen) {x : Plc} (hx : Wf x) {v : Int} (hv : In64 v) (h0 : v ≠ 0) :
    ∃ w', (Instr.mapUpdate 69 (.map (some b)) (pv x) (.int .i64 v)).run Try.prog w = .ok () w' ∧ LeadsIs w' (some b) (upd f x v) (n + 1) ∧ Turn (fun k => k = b) w w' := by
  rcases h with ⟨e, _⟩ | ⟨b', D, e, ho, hr⟩
  · cases e
  · cases e
    obtain ⟨w', hrun, ho', ht⟩ := ho.store keyPlace Try.underlying69 hn (key_mk x hx) (plainElem_int Try.underlying3 (wf_i.2 hv))
    exact ⟨w', hrun, .inr ⟨b, _, rfl, ho', hr.put ho.isMap hx hv h0⟩, (Turn.refl _ _).turned ht fun _ => rfl⟩
theorem LeadsIs.made (w : World) : LeadsIs (w.alloc (.map #[] 0)) (some w.heap.size) (fun _ => 0) 0 := .inr ⟨_, _, rfl, World.ownsMap_made w _ _ _, ReadsN.empty⟩
end Go.Proofs.Ytnlepgbmbdmjbaa
