/- What is proved on the way to the statement, part 4 of 5: contracts of the functions, among other things in memory. -/
import Derived.Test.YthiccboecimfjaaG3
import Derived.SizedLaws
import Derived.Lib.SliceRun
import Derived.Test.YthiccboecimfjaaChecked
import Derived.Lib.SmallJoins

/- Rows of words: that came in, the call's own; slices.Clone of one. General. -/
namespace Go.Proofs.Ythiccboecimfjaa
open Go.RowKit Go.Maps Go.WideShapes Go.ChangeShapes Go.ChangeAt Go.Deep
set_option maxRecDepth 100000

/-- Words in a row. -/
def wordsV (zs : List Int) : List Value := zs.map (Value.int .u64)
theorem wordsV_length (zs : List Int) : (wordsV zs).length = zs.length * 1 := by simp [wordsV]
def wordsI (v : Value) (zs : List Int) : Item := rowI v 40 1 zs.length (wordsV zs)
theorem infoWord : (Try.prog.info? 40).map (fun i => (i.zero, i.size, i.bytes)) = some (some (.int .u64 0), 1, 8) := by kernel_rfl
/-- Words that came in. -/
def InWords (w : World) (A : Option Addr) (zs : List Int) : Prop := zs = [] ∨ ∃ b off, A = some ⟨b, off, none⟩ ∧ b < w.heap.size ∧ ∀ i, i < zs.length → w.cell? ⟨b, off + i, none⟩ = some (.int .u64 (zs.getD i 0))
theorem InWords.below {w w' : World} {A : Option Addr} {zs : List Int} (h : InWords w A zs) (hb : Below w.heap.size w w') : InWords w' A zs := by
  rcases h with h | ⟨b, off, rfl, hl, hc⟩
  · exact .inl h
  · exact .inr ⟨b, off, rfl, Nat.lt_of_lt_of_le hl hb.size, fun i hi => by rw [hb.cell (p := ⟨b, off + i, none⟩) hl]; exact hc i hi⟩
theorem InWords.news {w : World} {ad : Addr} {zs : List Int} (h : InWords w (some ad) zs) : ∀ j u, (wordsV zs)[j]? = some u → w.cell? (ad.add j) = some u := by
  rcases h with rfl | ⟨b, off, he, hl, hc⟩
  · intro j u hu
    simp [wordsV] at hu
  · intro j u hu
    cases he
    have hj : j < zs.length := by
      have := (List.getElem?_eq_some_iff.1 hu).1
      simpa [wordsV] using this
    have e : (⟨b, off, none⟩ : Addr).add j = ⟨b, off + j, none⟩ := by unfold Addr.add; split <;> simp_all
    rw [e, hc j hj]
    simp only [wordsV, List.getElem?_map] at hu
    rw [List.getElem?_eq_getElem hj] at hu
    simp only [Option.map_some, Option.some.injEq] at hu
    rw [← hu]
    simp [hj]
/-- What the cells of such a row hold. -/
def CellsU (w : World) (A : Option Addr) (zs : List Int) : Prop := zs = [] ∨ ∃ g, A = some ⟨g, 0, none⟩ ∧ g < w.heap.size ∧ ∀ i, i < zs.length → w.cell? ⟨g, i, none⟩ = some (.int .u64 (zs.getD i 0))
theorem cellsU {w : World} {b : Nat} {A : Option Addr} {cap : Nat} {zs : List Int} (h : w.ownsRow b 40 1 (.slice A zs.length cap) zs.length (wordsV zs)) : CellsU w A zs := by
  rcases h.2 with ⟨_, h0⟩ | ⟨g, cap', cur, hv, _, hg, hn, hc, hcs, htk⟩
  · exact .inl (List.eq_nil_of_length_eq_zero h0)
  · simp only [Value.slice.injEq] at hv
    obtain ⟨rfl, -, rfl⟩ := hv
    refine .inr ⟨g, rfl, (Array.getElem?_eq_some_iff.1 hg).1, fun j hj => ?_⟩
    have h1 : (wordsV zs)[j]? = some (.int .u64 (zs.getD j 0)) := by simp [wordsV, hj]
    rw [← h1, ← htk, List.getElem?_take_of_lt (by omega)]
    simp [World.cell?, hg]

section
variable {w0 w w' : World} {L : List Item}
theorem Env.words (h : Env w0 L w) (i : Nat) {v : Value} {zs : List Int} (hi : L[i]? = some (wordsI v zs)) : w.ownsRow 0 40 1 v zs.length (wordsV zs) := h.get i hi
theorem Env.wordCells (h : Env w0 L w) (i : Nat) {A : Option Addr} {n cap : Nat} {zs : List Int} (hn : n = zs.length) (hi : L[i]? = some (wordsI (.slice A n cap) zs)) : CellsU w A zs := by subst hn; exact cellsU (h.words i hi)
theorem Env.addWords (h : Env w0 L w) {v : Value} {zs : List Int} (ho : w'.ownsRow w.heap.size 40 1 v zs.length (wordsV zs)) (hb : Below w.heap.size w w') : Env w0 (wordsI v zs :: L) w' :=
  h.add (wordsI v zs) hb (ownsRow_base ho (Nat.zero_le _)) fun k hk => ho.lt k hk
end

/-- Words appended to an empty row that has been made. -/
theorem run_append_words {w : World} {A : Option Addr} {cap : Nat} {zs : List Int} (hz : zs.length * 8 ≤ 140737488351232) (hr : InWords w A zs) :
    ∃ A' cap' w2, (Builtin.append_ #[22, 22] 22 #[.slice (some ⟨w.heap.size, 0, none⟩) 0 0, .slice A zs.length cap]).run Try.prog (w.alloc (.cells #[] 40)) = .ok (.slice A' zs.length cap') w2 ∧
      w2.ownsRow w.heap.size 40 1 (.slice A' zs.length cap') zs.length (wordsV zs) ∧ Below w.heap.size w w2 := by
  obtain ⟨i0, hi, hz0, hz1, hz2⟩ := info_parts infoWord
  have hown0 : (w.alloc (.cells #[] 40)).ownsRow w.heap.size 40 1 (.slice (some ⟨w.heap.size, 0, none⟩) 0 0) 0 [] := ⟨rfl, .inr ⟨w.heap.size, 0, #[], rfl, Nat.le_refl _, heap_alloc_new w _, Nat.le_refl _, Nat.zero_le _, rfl, rfl⟩⟩
  have hr' : InWords (w.alloc (.cells #[] 40)) A zs := hr.below ((Below.refl _ _).alloc (Nat.le_refl _) _)
  have hnews : (A = none ∧ zs.length = 0) ∨ ∃ ad, A = some ad ∧ ∀ j u, (wordsV zs)[j]? = some u → (w.alloc (.cells #[] 40)).cell? (ad.add j) = some u := by
    rcases A with _ | ad
    · left
      rcases hr with rfl | ⟨_, _, h, _⟩
      · exact ⟨rfl, rfl⟩
      · cases h
    · exact .inr ⟨ad, rfl, hr'.news⟩
  obtain ⟨v', w2, hrun, hown2, hgrow, hv'⟩ := run_append_rows (P := Try.prog) 22 22 w.heap.size 40 i0 (.int .u64 0) 1 8 Try.underlying22 hi hz0 hz1 hz2 rfl (by decide) _ _ 0 [] hown0 A zs.length cap (wordsV zs) (wordsV_length zs)
    hnews (fun x hx => by obtain ⟨o, _, rfl⟩ := List.mem_map.1 hx; rfl) (by simp [maxLen]; omega) (by omega) (by simp)
  simp only [Nat.zero_add, List.nil_append] at hown2
  obtain ⟨A', cap2, rfl⟩ := ownsRow_slice hown2
  exact ⟨A', cap2, w2, hrun, hown2, ((Below.refl _ w).alloc (Nat.le_refl _) _).grown hgrow (by simp) (by intro k hk; simp [Value.ownBlock] at hk; omega)⟩

set_option maxHeartbeats 800000 in
/-- slices.Clone of words. -/
theorem cloneW_any {w : World} {A : Option Addr} {cap : Nat} {zs : List Int} (hz : zs.length * 8 ≤ 140737488351232) (hr : InWords w A zs) :
    Calls Try.prog 30 #[.slice A zs.length cap] w fun e w' => ∃ A' cap', e = .returned (.slice A' zs.length cap') ∧ w'.ownsRow w.heap.size 40 1 (.slice A' zs.length cap') zs.length (wordsV zs) ∧ Below w.heap.size w w' := by
  have q22 : ∀ (w : World) (a : Option Addr) (n c n' c' : Nat), (binOp .eql 22 (.slice a n c) (.slice none n' c')).run Try.prog w = .ok (.bool a.isNone) w := fun w a n c n' c' => Lib.run_eql_slice_nil w _ _ a n c n' c' Try.underlying22
  rcases A with _ | ad
  · have hm0 : zs = [] := by
      rcases hr with h | ⟨_, _, h, _⟩
      · exact h
      · cases h
    subst hm0
    go_enter Try.func30, Try.ntmps30
    go_wp2
    go_ret
    exact ⟨none, 0, rfl, World.ownsRow_nil _ _ _ _, Below.refl _ _⟩
  · obtain ⟨A', cap2, w2, hrun, hown2, hb⟩ := run_append_words (cap := cap) hz hr
    go_enter Try.func30, Try.ntmps30
    go_wp2_with (first | (at_builtin; refine wpList_append_run rfl _ _ 22 rfl hrun rfl rfl ?_))
    go_ret
    exact ⟨A', cap2, rfl, hown2, hb⟩

section
variable {H : Type} {enc : TypeId × Value → H} {P : Program} {W : World}
/-- How many there are, by what they read as. -/
theorem num_row_size {t e : TypeId} {k : IntKind} {A : Option Addr} {len cap j : Nat} {d : DataW H} {p : List MemPlace} {ts : List TypeId} {ds : List (DataW H)} (ht : P.underlying t = some (.slice e)) (he : P.underlying e = some (.int k)) (hc : P.cellsOf e = 1) (hby : P.bytesOf e = 8)
    (h : DataW.Trod enc P W 0 (fun _ => true) true t (.slice A len cap) d p) (hsz : (DataW.weightsEach P ts ds).all (· ≤ reachBytes) = true) (hts : ts[j]? = some t) (hds : ds[j]? = some d) : len * 8 ≤ 140737488351232 := by
  obtain ⟨fuel, hf⟩ := h
  rcases open_ints ht he hc hf with ⟨hcs, _⟩ | ⟨a, len', cap', zs, hcs, _, hl, _, hz, hx, _⟩
  · simp [Value.cells] at hcs
    obtain ⟨_, rfl, _⟩ := hcs
    omega
  · simp [Value.cells] at hcs
    obtain ⟨_, rfl, rfl⟩ := hcs
    simp only [Prod.mk.injEq] at hx
    obtain ⟨rfl, _⟩ := hx
    have := sized_slice hsz hts hds ht
    rw [hby] at this
    simp only [lits, List.length_map, List.length_take, List.length_drop, reachBytes] at this
    simp only [if_true] at hz
    omega
end
end Go.Proofs.Ythiccboecimfjaa

/- A memory that tells anything of those who aren't any more: what it is in memory; its small functions; New. -/
namespace Go.Proofs.Ythiccboecimfjaa
open Go.RowKit Go.Maps
set_option maxRecDepth 100000

/-- A shade's cells. -/
def sv (g : Nat) (v : Value) : List Value := [.pointer (some ⟨g, 0, none⟩), v]
/-- The word of the load that was stale n-th, from 0 on. -/
def lastW (zs : List Int) (n : Nat) : Int := if zs.length = 0 then 0 else zs.getD (n % zs.length) 0
/-- What a load answers: the word, whom it leads to. -/
def ldW (zs : List Int) (t : Bool) (n : Nat) (a : Int) : Int := if t = true then lastW zs n else a
def ldI (t : Bool) (a : Int) : Int := if t = true then 0 else a

section
variable {w0 w : World} {L : List Item} {b g p s c n m : Nat} {mp : Option Nat} {S F : Nat → Prop} {h f : Plc → Int} {l zs : List Int} {q : Cnt} {st fa : Int} {v : Value}
theorem watched_s {w : World} (hb : Blk 0 w b (sv g v)) :
    Calls Try.prog 37 #[.pointer (some ⟨b, 0, none⟩)] w fun e w' => e = .returned (.pointer (some ⟨g, 0, none⟩)) ∧ w' = w := by
  have r := hb.rule
  unfold sv at r
  go_enter Try.func37, Try.ntmps37
  go_wp2
  go_ret
  exact ⟨rfl, rfl⟩
theorem Env.sblk (hE : Env w0 L w) (i : Nat) (hi : L[i]? = some (boxI b (sv g v))) : Blk 0 w b (sv g v) := hE.get i hi
theorem told_s {w : World} (hb : Blk 0 w b (sv g v)) (hg : Blk 0 w g (gv p mp s st fa)) :
    Calls Try.prog 8 #[.pointer (some ⟨b, 0, none⟩)] w fun e w' => e = .returned (.int .i64 st) ∧ w' = w := by
  go_enter Try.func8, Try.ntmps8
  go_wp2_with fail
  refine (watched_s hb).mono ?_
  rintro e w1 ⟨rfl, rfl⟩
  go_wp2_with fail
  refine (stale_any hg).mono ?_
  rintro e w1 ⟨rfl, rfl⟩
  go_wp2
  go_ret
  exact ⟨rfl, rfl⟩
theorem faults_s {w : World} (hb : Blk 0 w b (sv g v)) (hg : Blk 0 w g (gv p mp s st fa)) :
    Calls Try.prog 9 #[.pointer (some ⟨b, 0, none⟩)] w fun e w' => e = .returned (.int .i64 fa) ∧ w' = w := by
  go_enter Try.func9, Try.ntmps9
  go_wp2_with fail
  refine (watched_s hb).mono ?_
  rintro e w1 ⟨rfl, rfl⟩
  go_wp2_with fail
  refine (faults_any hg).mono ?_
  rintro e w1 ⟨rfl, rfl⟩
  go_wp2
  go_ret
  exact ⟨rfl, rfl⟩

set_option maxHeartbeats 800000 in
theorem new_s {A : Option Addr} {cap : Nat} (hz : zs.length * 8 ≤ 140737488351232) (hE : Env w0 L w) (hr : InWords w A zs) :
    Calls Try.prog 6 #[.slice A zs.length cap] w fun e w' => ∃ b g p s c v, e = .returned (.pointer (some ⟨b, 0, none⟩)) ∧ Env w0 (boxI b (sv g v) :: wordsI v zs :: boxI g (gv p none s 0 0) :: leadsI none (fun _ => 0) 0 :: soulI s (fun k => k = s) [] :: wbox p c :: cellI c (fun k => k = c) (fun _ => 0) ⟨0, 0, 0, 0, 0⟩ 0 :: L) w' ∧ Below w.heap.size w w' := by
  go_enter Try.func6, Try.ntmps6
  go_wp2_with fail
  refine (new_g hE).mono ?_
  rintro e w1 ⟨g, p, s, c, rfl, hE, hb⟩
  go_wp2_with fail
  refine (cloneW_any hz (hr.below hb)).mono ?_
  rintro e w2 ⟨A', cap', rfl, ho, hb2⟩
  replace hE := hE.addWords ho hb2
  have hB := hb.trans (hb2.mono hb.size)
  clear ho hb hb2
  replace hE := hE.box w2.heap.size rfl (sv g (.slice A' zs.length cap')) 69
  go_wp2
  go_ret
  exact ⟨_, _, _, _, _, _, rfl, hE, hB.alloc hB.size _⟩
end
end Go.Proofs.Ythiccboecimfjaa

/- A drawn region some of whose operations come to values that hang on the world (a call that makes a row: its address). 'Chain': these, and all that turn the world, come one behind the other, in a fixed order; C holds throughout, A of the values that they have come to so far. All other operations come to one value each, whatever the order. The region is walked once, in the order of the text. -/
namespace Go.Proofs.Ythiccboecimfjaa.Ord3
open Go Go.Proofs.Ythiccboecimfjaa.Ord
set_option maxRecDepth 100000

section
variable {P : Program} {ops : Array Oper} {Q : Exit → Act → World → Prop} {md : Region.Mode} {V : Nat → Value → Prop} {S : Array Bool → (Nat → Value) → World → Prop}

/-- What a run comes to: some value v with T v. -/
def Lands (P : Program) (T : Value → World → Prop) : Result Next → Prop
  | .ok (.value u) w' => T u w'
  | .ok .skip w' => T undef w'
  | .ok (.enter f args) w' => Calls P f args w' fun e w'' => ∃ v, e = .returned v ∧ T v w''
  | _ => False
theorem Lands.mono {T T' : Value → World → Prop} {r : Result Next} (h : Lands P T r) (hT : ∀ v w, T v w → T' v w) : Lands P T' r := by
  cases r with
  | ok n w' =>
    cases n <;> simp only [Lands] at *
    case value u => exact hT _ _ h
    case skip => exact hT _ _ h
    case enter f args => exact h.mono fun e w'' ⟨v, he, ht⟩ => ⟨v, he, hT _ _ ht⟩
  | halt x w' => simp only [Lands] at h

def up (f : Nat → Value) (i : Nat) (v : Value) : Nat → Value := fun j => if j = i then v else f j
theorem up_comm (f : Nat → Value) {i j : Nat} (u v : Value) (h : i ≠ j) : up (up f i u) j v = up (up f j v) i u := by
  funext k; unfold up; by_cases h1 : k = j <;> by_cases h2 : k = i <;> simp [h1, h2] <;> omega

/-- In frame a, where what is listed has come to κ, the operation comes to a value of its kind, from every world that is met when it comes up. -/
def Settles (P : Program) (md : Region.Mode) (ops : Array Oper) (V : Nat → Value → Prop) (S : Array Bool → (Nat → Value) → World → Prop) (i : Nat) (o : Oper) (listed : Array Bool) (κ : Nat → Value) (a : Act) : Prop :=
  (Region.wanted o (yielded ops a.tmps) = true ∧ ∀ l ρ w, i ∈ Region.ready md ops l → (∀ j, l.getD j false = true → V j (ρ j)) → (∀ j, listed.getD j false = true → l.getD j false = true → ρ j = κ j) → S l ρ w →
    Lands P (fun v w' => V i v ∧ S (l.setIfInBounds i true) (up ρ i v) w') ((execOp a.eval o).run P w)) ∨
  (Region.wanted o (yielded ops a.tmps) = false ∧ V i undef ∧ ∀ l ρ w, i ∈ Region.ready md ops l → S l ρ w → S (l.setIfInBounds i true) (up ρ i undef) w)

theorem Settles.wpOp {i : Nat} {o : Oper} {a : Act} {l : Array Bool} {κ : Nat → Value} (hi : ops[i]? = some o) (h : Settles P md ops V S i o l κ a) (hr : i ∈ Region.ready md ops l) {K : Act → World → Prop} {w : World} (hV : ∀ j, l.getD j false = true → V j (κ j)) (hS : S l κ w)
    (hK : ∀ v w', V i v → S (l.setIfInBounds i true) (up κ i v) w' → K (a.put o.dst v) w') : wpOp P ops Q i K a w := by
  unfold Go.wpOp
  simp only [hi]
  rcases h with ⟨hw, hv⟩ | ⟨hw, hu, hv⟩
  · simp only [hw, if_true]
    have := hv l κ w hr hV (fun _ _ _ => rfl) hS
    refine .inl ?_
    unfold Oper.wp
    generalize (execOp a.eval o).run P w = r at *
    cases r with
    | ok n w' =>
      cases n <;> simp only [Lands] at this <;> simp only [Oper.upon]
      case value u => exact hK _ _ this.1 this.2
      case skip => exact hK _ _ this.1 this.2
      case enter f args =>
        refine Calls.mono this fun e w'' he => ?_
        obtain ⟨v, rfl, h1, h2⟩ := he
        exact hK _ _ h1 h2
    | halt x w' => simp only [Lands] at this
  · simp only [hw, Bool.false_eq_true, if_false]
    exact hK _ _ hu (hv l κ w hr hS)

def Every (P : Program) (md : Region.Mode) (ops : Array Oper) (Q : Exit → Act → World → Prop) (V : Nat → Value → Prop) (S : Array Bool → (Nat → Value) → World → Prop) : Nat → Array Bool → (Nat → Value) → Act → Prop
  | 0, listed, κ, a => Region.ready md ops listed = [] ∧ ∀ w, S listed κ w → Q .normal a w
  | fuel + 1, listed, κ, a => (Region.ready md ops listed = [] → ∀ w, S listed κ w → Q .normal a w) ∧
    ∀ i ∈ Region.ready md ops listed, ∃ o, ops[i]? = some o ∧ Settles P md ops V S i o listed κ a ∧ ∀ v, V i v → Every P md ops Q V S fuel (listed.setIfInBounds i true) (up κ i v) (a.put o.dst v)

theorem listed_set {l : Array Bool} {i j : Nat} (h : (l.setIfInBounds i true).getD j false = true) : j = i ∨ l.getD j false = true := by
  by_cases e : i = j
  · exact .inl e.symm
  · right
    rw [Array.getD_eq_getD_getElem?, Array.getElem?_setIfInBounds, if_neg e, ← Array.getD_eq_getD_getElem?] at h
    exact h
theorem ready_not {l : Array Bool} {i : Nat} (h : i ∈ Region.ready md ops l) : l.getD i false = false := by
  have h2 : l.getD i true = false := (mem_ready.1 h).1
  rw [Array.getD_eq_getD_getElem?] at h2 ⊢
  rcases Nat.lt_or_ge i l.size with hh' | hh'
  · simp [hh'] at h2 ⊢; exact h2
  · simp [Array.getElem?_eq_none hh'] at h2

theorem Every.sound : ∀ (fuel : Nat) (listed : Array Bool) (κ : Nat → Value) (a : Act), Every P md ops Q V S fuel listed κ a → (∀ j, listed.getD j false = true → V j (κ j)) → ∀ w, S listed κ w → wpAny P md ops Q fuel listed a w
  | 0, _, _, _, h, _, w, hS => ⟨h.1, h.2 w hS⟩
  | fuel + 1, listed, κ, a, h, hV, w, hS => ⟨fun h0 => h.1 h0 w hS, fun i hi => by
      obtain ⟨o, ho, hs, hE⟩ := h.2 i hi
      refine hs.wpOp ho hi hV hS fun v w' hv hS' => Every.sound fuel _ _ _ (hE v hv) (fun j hj => ?_) w' hS'
      unfold up
      split
      · rename_i e; subst e; exact hv
      · rename_i e; exact hV j ((listed_set hj).resolve_left e)⟩

theorem Settles.of_same {i : Nat} {o : Oper} {a a' : Act} {l : Array Bool} {κ : Nat → Value} (h : Settles P md ops V S i o l κ a) (he : execOp a'.eval o = execOp a.eval o)
    (hw : Region.wanted o (yielded ops a'.tmps) = Region.wanted o (yielded ops a.tmps)) : Settles P md ops V S i o l κ a' := by
  unfold Settles at *
  rw [he, hw]
  exact h

theorem Every.first {i : Nat} {oi : Oper} (hi : ops[i]? = some oi) (hsel : ∀ (j : Nat) (o : Oper) cs b, ops[j]? = some o → o.op ≠ .select cs b) (v0 : Value) (hv0 : V i v0) :
    ∀ (fuel : Nat) (listed : Array Bool) (κ : Nat → Value) (a : Act),
      (∀ j oj, ops[j]? = some oj → j ≠ i → listed.getD j true = false → (∀ e ∈ oj.after, Region.binds md e = true → e.on ≠ i) → oi.apart ops oj = true) →
      i ∈ Region.ready md ops listed → Settles P md ops V S i oi listed κ a →
      (∀ v, V i v → Every P md ops Q V S fuel (listed.setIfInBounds i true) (up κ i v) (a.put oi.dst v)) → Every P md ops Q V S (fuel + 1) listed κ a := by
  intro fuel
  induction fuel with
  | zero =>
    intro listed κ a _ hr hy H
    refine ⟨fun h => (by rw [h] at hr; cases hr), fun j hj => ?_⟩
    by_cases hji : j = i
    · subst hji; exact ⟨oi, hi, hy, H⟩
    · have := ready_mono hj hji
      rw [(H v0 hv0).1] at this
      cases this
  | succ fuel ih =>
    intro listed κ a hfree hr hy H
    refine ⟨fun h => (by rw [h] at hr; cases hr), fun j hj => ?_⟩
    by_cases hji : j = i
    · subst hji; exact ⟨oi, hi, hy, H⟩
    · obtain ⟨oj, hoj, hsj0, hE0⟩ := (H v0 hv0).2 j (ready_mono hj hji)
      have HJ : ∀ v, V i v → Settles P md ops V S j oj (listed.setIfInBounds i true) (up κ i v) (a.put oi.dst v) ∧ ∀ u, V j u → Every P md ops Q V S fuel ((listed.setIfInBounds i true).setIfInBounds j true) (up (up κ i v) j u) ((a.put oi.dst v).put oj.dst u) := fun v hv => by
        obtain ⟨oj', hoj', hsj, hE⟩ := (H v hv).2 j (ready_mono hj hji)
        obtain rfl : oj = oj' := Option.some.inj (hoj.symm.trans hoj')
        exact ⟨hsj, hE⟩
      obtain ⟨hjun, oj', hoj', hall⟩ := mem_ready.1 hj
      obtain rfl : oj = oj' := Option.some.inj (hoj.symm.trans hoj')
      have hnot : ∀ e ∈ oj.after, Region.binds md e = true → e.on ≠ i := fun e he hb heq => by
        have h1 := hall e he hb
        rw [heq, Array.getD_eq_getD_getElem?] at h1
        have h0 := ready_not hr
        rw [Array.getD_eq_getD_getElem?] at h0
        rw [h0] at h1
        cases h1
      have hap := hfree j oj hoj hji hjun hnot
      obtain ⟨p1, p2, p3⟩ := Oper.apart_spec hap
      have hfree' : ∀ k ok, ops[k]? = some ok → k ≠ i → (listed.setIfInBounds j true).getD k true = false →
          (∀ e ∈ ok.after, Region.binds md e = true → e.on ≠ i) → oi.apart ops ok = true := fun k ok hk hki hun hno => by
        refine hfree k ok hk hki ?_ hno
        by_cases hjk : j = k
        · subst hjk; exact hjun
        · rw [getD_set_ne true hjk] at hun; exact hun
      have hex : ∀ v, execOp a.eval oj = execOp (a.put oi.dst v).eval oj := fun v => (execOp_put oj (fun cs b => hsel j oj cs b hoj) a oi.dst v p1).symm
      have hwt : ∀ v, Region.wanted oj (yielded ops a.tmps) = Region.wanted oj (yielded ops (a.put oi.dst v).tmps) := fun v => (wanted_put oj a oi.dst v p1).symm
      refine ⟨oj, hoj, ?_, fun u hu => ?_⟩
      · rcases hsj0 with ⟨hw, _⟩ | ⟨hw, hu, hv⟩
        · refine .inl ⟨(hwt v0).trans hw, fun l ρ w hrl hVl hagree hSl => ?_⟩
          have pick : ∃ v, V i v ∧ (l.getD i false = true → ρ i = v) := by
            cases hli : l.getD i false
            · exact ⟨v0, hv0, fun h => by cases h⟩
            · exact ⟨ρ i, hVl i hli, fun _ => rfl⟩
          obtain ⟨v, hv, hρ⟩ := pick
          rcases (HJ v hv).1 with ⟨_, hrun⟩ | ⟨hw', _⟩
          · rw [hex v]
            refine hrun l ρ w hrl hVl (fun j' h1 h2 => ?_) hSl
            unfold up
            split
            · rename_i e; subst e; exact hρ h2
            · rename_i e; exact hagree j' ((listed_set h1).resolve_left e) h2
          · rw [← hwt v, hwt v0, hw] at hw'
            cases hw'
        · exact .inr ⟨(hwt v0).trans hw, hu, hv⟩
      · refine ih (listed.setIfInBounds j true) (up κ j u) (a.put oj.dst u) hfree' (ready_mono hr (Ne.symm hji)) ?_ fun v hv => ?_
        · refine (show Settles P md ops V S i oi (listed.setIfInBounds j true) (up κ j u) a from ?_).of_same (execOp_put oi (fun cs b => hsel i oi cs b hi) a oj.dst u p3) (wanted_put oi a oj.dst u p3)
          rcases hy with ⟨hw, hrun⟩ | hy
          · refine .inl ⟨hw, fun l ρ w hrl hVl hagree hSl => hrun l ρ w hrl hVl (fun j' h1 h2 => ?_) hSl⟩
            have hne : j' ≠ j := fun e => by
              rw [e, ready_not hj] at h1; cases h1
            have h3 : (listed.setIfInBounds j true).getD j' false = true := by
              rw [Array.getD_eq_getD_getElem?, Array.getElem?_setIfInBounds, if_neg (fun e => hne e.symm), ← Array.getD_eq_getD_getElem?]; exact h1
            have := hagree j' h3 h2
            rw [this]; unfold up; rw [if_neg hne]
          · exact .inr hy
        · have := (HJ v hv).2 u hu
          rw [Array.setIfInBounds_comm _ _ hji, ← Act.put_comm a v u p2, up_comm κ u v hji]
          exact this

/-- The operations from the k-th on, in the order of the text. -/
def InText (P : Program) (md : Region.Mode) (ops : Array Oper) (Q : Exit → Act → World → Prop) (V : Nat → Value → Prop) (S : Array Bool → (Nat → Value) → World → Prop) (k : Nat) (rest : List Oper) (κ : Nat → Value) (a : Act) : Prop :=
  k + rest.length = ops.size → ops.toList.drop k = rest → Every P md ops Q V S rest.length (firstK ops.size k) κ a
theorem InText.nil {a : Act} {k : Nat} {κ : Nat → Value} (h : ∀ w, S (firstK ops.size ops.size) κ w → Q .normal a w) : InText P md ops Q V S k [] κ a := fun hk _ => by
  have hk' : k = ops.size := by simpa using hk
  subst hk'
  refine ⟨?_, h⟩
  unfold Region.ready
  rw [List.filter_eq_nil_iff]
  intro i hi
  have : i < ops.size := by simpa using hi
  simp [firstK, this]
theorem InText.cons {o : Oper} {rest : List Oper} {a : Act} {k : Nat} {κ : Nat → Value} (hf : textFits md ops = true) (v0 : Value) (hv0 : V k v0) (hs : Settles P md ops V S k o (firstK ops.size k) κ a) (h : ∀ v, V k v → InText P md ops Q V S (k + 1) rest (up κ k v) (a.put o.dst v)) : InText P md ops Q V S k (o :: rest) κ a := fun hk hd => by
  unfold textFits at hf
  rw [Bool.and_eq_true, List.all_eq_true] at hf
  have hlt : k < ops.size := by simp at hk; omega
  have hf2 := hf.2 k (by simpa using hlt)
  rw [Bool.and_eq_true] at hf2
  have ho : ops[k]? = some o := by
    have h0 : (ops.toList.drop k)[0]? = some o := by rw [hd]; rfl
    simpa using h0
  have hsel : ∀ (j : Nat) (o : Oper) cs b, ops[j]? = some o → o.op ≠ .select cs b := Region.noSelect_spec hf.1
  refine Every.first ho hsel v0 hv0 rest.length (firstK ops.size k) κ a (Region.free_spec ho hf2.1) (by simpa using hf2.2) hs fun v hv => ?_
  rw [firstK_succ]
  refine h v hv (by simp at hk; omega) ?_
  rw [← List.drop_drop, hd]
  rfl
theorem wp_ord {id : Nat} {a : Act} {w : World} (κ : Nat → Value) (hm : P.follows .mixedOrders = true) (hf : textFits .any ops = true) (hS : S (firstK ops.size 0) κ w.drew) (h : textFits .any ops = true → InText P .any ops Q V S 0 ops.toList κ a) : (Code.region id ops true).wp P Q a w :=
  wp_region_any hm (by
    have h0 := h hf (by simp) rfl
    have e : firstK ops.size 0 = Array.replicate ops.size false := by
      apply Array.ext
      · simp [firstK]
      · intro i h1 h2; simp [firstK]
    rw [e] at h0 hS
    simpa using Every.sound _ _ _ _ h0 (fun j hj => by
      rw [Array.getD_eq_getD_getElem?, Array.getElem?_replicate] at hj
      split at hj <;> simp at hj) _ hS)
end

/-! ### one behind the other -/
section
variable {P : Program} {ops : Array Oper} {Q : Exit → Act → World → Prop} {md : Region.Mode} {C : World → Prop} {A : List Value → World → Prop} {ps : List Nat} {vs : List (Value → Prop)}

/-- The kinds of the values. -/
def VS (vs : List (Value → Prop)) (k : Nat) (v : Value) : Prop := ∃ p, vs[k]? = some p ∧ p v
def Chain (md : Region.Mode) (ops : Array Oper) (ps : List Nat) (C : World → Prop) (A : List Value → World → Prop) (l : Array Bool) (ρ : Nat → Value) (w : World) : Prop :=
  Closed md ops l ∧ l.size = ops.size ∧ C w ∧ ∃ j, j ≤ ps.length ∧ (∀ i p, ps[i]? = some p → p < ops.size ∧ l.getD p false = decide (i < j)) ∧ A ((ps.take j).map ρ) w

theorem map_up {ps : List Nat} {ρ : Nat → Value} {k : Nat} {v : Value} (h : k ∉ ps) : ps.map (up ρ k v) = ps.map ρ :=
  List.map_congr_left fun x hx => by
    have hne : x ≠ k := fun e => h (by rw [← e]; exact hx)
    unfold up; rw [if_neg hne]
theorem chain_start {w : World} {ρ : Nat → Value} (hlt : ∀ p ∈ ps, p < ops.size) (hC : C w) (hA : A [] w) : Chain md ops ps C A (firstK ops.size 0) ρ w := by
  refine ⟨fun i o ho hl => ?_, by simp [firstK], hC, 0, Nat.zero_le _, fun i p hp => ?_, by simpa using hA⟩
  · have hi : i < ops.size := (Array.getElem?_eq_some_iff.1 ho).1
    rw [firstK_get _ _ _ hi] at hl
    simp at hl
  · have h := hlt p (List.mem_of_getElem? hp)
    exact ⟨h, by rw [firstK_get _ _ _ h]; simp⟩
theorem chain_end {w : World} {ρ : Nat → Value} (h : Chain md ops ps C A (firstK ops.size ops.size) ρ w) : C w ∧ A (ps.map ρ) w := by
  obtain ⟨_, _, hC, j, hj, hl, hA⟩ := h
  refine ⟨hC, ?_⟩
  rcases Nat.lt_or_ge j ps.length with hlt | hge
  · exfalso
    have h1 := hl j ps[j] (by simp [hlt])
    rw [firstK_get _ _ _ h1.1] at h1
    simp at h1
    omega
  · rwa [List.take_of_length_le hge] at hA
theorem chain_set {l : Array Bool} {ρ : Nat → Value} {k : Nat} {v : Value} {w w' : World} (hk : k ∉ ps) (hr : k ∈ Region.ready md ops l) (h : Chain md ops ps C A l ρ w) (hC : C w') (hA : ∀ vs, A vs w → A vs w') : Chain md ops ps C A (l.setIfInBounds k true) (up ρ k v) w' := by
  obtain ⟨hc, hs, _, j, hj, hl, hA0⟩ := h
  refine ⟨hc.set hr, by simpa using hs, hC, j, hj, fun i p hp => ?_, by rw [map_up (fun e => hk (List.mem_of_mem_take e))]; exact hA _ hA0⟩
  have hne : k ≠ p := fun e => hk (e ▸ List.mem_of_getElem? hp)
  rw [Array.getD_eq_getD_getElem?, Array.getElem?_setIfInBounds, if_neg hne, ← Array.getD_eq_getD_getElem?]
  exact hl i p hp

/-- The text from the k-th operation on, where the first of the chain have come to κs. -/
def In (P : Program) (md : Region.Mode) (ops : Array Oper) (Q : Exit → Act → World → Prop) (vs : List (Value → Prop)) (ps : List Nat) (C : World → Prop) (A : List Value → World → Prop) (k : Nat) (rest : List Oper) (κs : List Value) (a : Act) : Prop :=
  ∀ κ : Nat → Value, (ps.take κs.length).map κ = κs → InText P md ops Q (VS vs) (Chain md ops ps C A) k rest κ a

theorem wp_chain (vs : List (Value → Prop)) (ps : List Nat) (C : World → Prop) (A : List Value → World → Prop) {id : Nat} {a : Act} {w : World} (hm : P.follows .mixedOrders = true) (hf : textFits .any ops = true) (hlt : (ps.all fun p => decide (p < ops.size)) = true) (hC : C w.drew) (hA : A [] w.drew)
    (h : textFits .any ops = true → In P .any ops Q vs ps C A 0 ops.toList [] a) : (Code.region id ops true).wp P Q a w :=
  wp_ord (fun _ => undef) hm hf (chain_start (fun p hp => by simpa using List.all_eq_true.1 hlt p hp) hC hA) fun hT => h hT _ rfl

theorem in_value {k : Nat} {o : Oper} {rest : List Oper} {a : Act} {v : Value} {κs : List Value} (hf : textFits md ops = true) (hk : k ∉ ps) (hvs : vs[k]? = some fun u => u = v) (hw : Region.wanted o (yielded ops a.tmps) = true) (hv : ∀ w, C w → (execOp a.eval o).run P w = .ok (.value v) w)
    (h : In P md ops Q vs ps C A (k + 1) rest κs (a.put o.dst v)) : In P md ops Q vs ps C A k (o :: rest) κs a := fun κ hκ =>
  InText.cons hf v ⟨_, hvs, rfl⟩ (Or.inl ⟨hw, fun l ρ w hr _ _ hS => by rw [hv w hS.2.2.1]; exact ⟨⟨_, hvs, rfl⟩, chain_set hk hr hS hS.2.2.1 fun _ h => h⟩⟩)
    fun u ⟨p, hp, hu⟩ => by
      rw [hvs] at hp
      cases hp
      rw [hu]
      exact h _ (by rw [map_up (fun e => hk (List.mem_of_mem_take e))]; exact hκ)
theorem in_off {k : Nat} {o : Oper} {rest : List Oper} {a : Act} {κs : List Value} (hf : textFits md ops = true) (hk : k ∉ ps) (hvs : vs[k]? = some fun u => u = undef) (hw : Region.wanted o (yielded ops a.tmps) = false)
    (h : In P md ops Q vs ps C A (k + 1) rest κs (a.put o.dst undef)) : In P md ops Q vs ps C A k (o :: rest) κs a := fun κ hκ =>
  InText.cons hf undef ⟨_, hvs, rfl⟩ (Or.inr ⟨hw, ⟨_, hvs, rfl⟩, fun l ρ w hr hS => chain_set hk hr hS hS.2.2.1 fun _ h => h⟩)
    fun u ⟨p, hp, hu⟩ => by
      rw [hvs] at hp
      cases hp
      rw [hu]
      exact h _ (by rw [map_up (fun e => hk (List.mem_of_mem_take e))]; exact hκ)
/-- The next of the chain. -/
theorem in_turn {k : Nat} {o : Oper} {rest : List Oper} {a : Act} {κs : List Value} (p : Value → Prop) (v0 : Value) (hv0 : p v0) (hf : textFits md ops = true) (hk : ps[κs.length]? = some k) (hnd : ps.Nodup) (hris : (ps.take κs.length).all (fun q => decide (q < k)) = true) (hvs : vs[k]? = some p)
    (hh : κs.length = 0 ∨ ∃ q b path, ps[κs.length - 1]? = some q ∧ hangs md ops k b = true ∧ hangsPath md ops (b :: path) = true ∧ (b :: path).getLast? = some q) (hw : Region.wanted o (yielded ops a.tmps) = true)
    (hv : ∀ w, C w → A κs w → Lands P (fun v w' => p v ∧ C w' ∧ A (κs ++ [v]) w') ((execOp a.eval o).run P w))
    (h : ∀ v, p v → In P md ops Q vs ps C A (k + 1) rest (κs ++ [v]) (a.put o.dst v)) : In P md ops Q vs ps C A k (o :: rest) κs a := fun κ hκ => by
  have hjl : κs.length < ps.length := (List.getElem?_eq_some_iff.1 hk).1
  have hjk : ps[κs.length] = k := (List.getElem?_eq_some_iff.1 hk).2
  have hkn : k ∉ ps.take κs.length := fun e => by
    have := List.all_eq_true.1 hris k e
    simp at this
  refine InText.cons hf v0 ⟨p, hvs, hv0⟩ (Or.inl ⟨hw, fun l ρ w hr hVl hagree hS => ?_⟩) fun v ⟨p', hp', hpv⟩ => ?_
  · obtain ⟨hc, hs, hC, j', hj', hl, hA⟩ := hS
    have h1 := hl κs.length k hk
    have e2 : l.getD k false = false := ready_not hr
    have h3 : ¬ κs.length < j' := by rw [h1.2] at e2; simpa using e2
    have h4 : κs.length = j' := by
      rcases hh with h0 | ⟨q, b, path, hq, hg, hpath, hlast⟩
      · omega
      · have := late hc hr hg hpath hlast hq hl
        omega
    subst h4
    have hm : (ps.take κs.length).map ρ = κs := by
      rw [← hκ]
      have hlen : ((ps.take κs.length).map κ).length = κs.length := by rw [hκ]
      rw [hlen]
      refine List.map_congr_left fun q hq => ?_
      obtain ⟨i, hi, he⟩ := List.getElem_of_mem hq
      have hi' : i < κs.length := by simp at hi; omega
      have hiq : ps[i]? = some q := by rw [← he, List.getElem_take]; simp
      have hqk : q < k := by simpa using List.all_eq_true.1 hris q hq
      refine hagree q ?_ ?_
      · rw [firstK_get _ _ _ (by have := h1.1; omega)]; simpa using hqk
      · rw [(hl i q hiq).2]; simpa using hi'
    rw [hm] at hA
    refine (hv w hC hA).mono fun v w' ⟨hp, hC', hA'⟩ => ⟨⟨p, hvs, hp⟩, hc.set hr, by simpa using hs, hC', κs.length + 1, by omega, fun i q hq => ?_, ?_⟩
    · refine ⟨(hl i q hq).1, ?_⟩
      by_cases hik : q = k
      · subst hik
        have : i = κs.length := (List.getElem?_inj (List.getElem?_eq_some_iff.1 hq).1 hnd).1 (hq.trans hk.symm)
        subst this
        have hp' : q < l.size := by rw [hs]; exact h1.1
        rw [Array.getD_eq_getD_getElem?, Array.getElem?_setIfInBounds, if_pos rfl]
        simp [hp']
      · rw [Array.getD_eq_getD_getElem?, Array.getElem?_setIfInBounds, if_neg (fun e => hik e.symm), ← Array.getD_eq_getD_getElem?, (hl i q hq).2]
        have hne : i ≠ κs.length := fun e => hik (by subst e; exact Option.some.inj (hq.symm.trans hk))
        congr 1
        apply propext
        omega
    · rw [List.take_succ_eq_append_getElem hjl, hjk, List.map_append, map_up hkn, hm]
      simpa [up] using hA'
  · rw [hvs] at hp'
    cases hp'
    refine h v hpv _ ?_
    rw [List.length_append, List.length_singleton, List.take_succ_eq_append_getElem hjl, hjk, List.map_append, map_up hkn, hκ]
    simp [up]
/-- The station that is reached, told by what has been come to so far. -/
def Stage (L : List Value → List (World → Prop)) (κs : List Value) (w : World) : Prop := ∃ T, (L κs)[κs.length]? = some T ∧ T w
theorem in_nil {a : Act} {k : Nat} {κs : List Value} (hlen : κs.length = ps.length) (h : ∀ w, C w → A κs w → Q .normal a w) : In P md ops Q vs ps C A k [] κs a := fun κ hκ =>
  InText.nil fun w hS => by
    obtain ⟨hC, hA⟩ := chain_end hS
    rw [hlen, List.take_length] at hκ
    rw [hκ] at hA
    exact h w hC hA
end
end Go.Proofs.Ythiccboecimfjaa.Ord3

/- A drawn region in which one operation floats: it makes memory (its value: an address that hangs on the world) and hangs on nothing, while others turn the world one behind the other ('v := f(x)' where v stands in a cell: the cell is made ahead of the call or behind it). The region is walked once, in the order of the text: A tells what the chain has come to so far, and the float's value, if it has come up. -/
namespace Go.Proofs.Ythiccboecimfjaa.OrdF
open Go Go.Proofs.Ythiccboecimfjaa.Ord Go.Proofs.Ythiccboecimfjaa.Ord3
set_option maxRecDepth 100000

section
variable {P : Program} {ops : Array Oper} {Q : Exit → Act → World → Prop} {md : Region.Mode} {C : World → Prop} {A : List Value → Option Value → World → Prop} {ps : List Nat} {q : Nat} {vs : List (Value → Prop)}

/-- The float's value, if it has come up. -/
def seen (q : Nat) (l : Array Bool) (ρ : Nat → Value) : Option Value := if l.getD q false = true then some (ρ q) else none
def Chain (md : Region.Mode) (ops : Array Oper) (ps : List Nat) (q : Nat) (C : World → Prop) (A : List Value → Option Value → World → Prop) (l : Array Bool) (ρ : Nat → Value) (w : World) : Prop :=
  Closed md ops l ∧ l.size = ops.size ∧ C w ∧ ∃ j, j ≤ ps.length ∧ (∀ i p, ps[i]? = some p → p < ops.size ∧ l.getD p false = decide (i < j)) ∧ A ((ps.take j).map ρ) (seen q l ρ) w

theorem getD_other {l : Array Bool} {k p : Nat} (h : k ≠ p) : (l.setIfInBounds k true).getD p false = l.getD p false := by
  rw [Array.getD_eq_getD_getElem?, Array.getElem?_setIfInBounds, if_neg h, ← Array.getD_eq_getD_getElem?]
theorem getD_self {l : Array Bool} {k : Nat} (h : k < l.size) : (l.setIfInBounds k true).getD k false = true := by
  rw [Array.getD_eq_getD_getElem?, Array.getElem?_setIfInBounds, if_pos rfl]
  simp [h]
theorem seen_other {l : Array Bool} {ρ : Nat → Value} {k : Nat} {v : Value} (h : k ≠ q) : seen q (l.setIfInBounds k true) (up ρ k v) = seen q l ρ := by
  have hne : ¬ q = k := fun e => h e.symm
  unfold seen up
  simp only [getD_other h, if_neg hne]
theorem seen_self {l : Array Bool} {ρ : Nat → Value} {v : Value} (h : q < l.size) : seen q (l.setIfInBounds q true) (up ρ q v) = some v := by
  unfold seen up
  rw [getD_self h, if_pos rfl, if_pos rfl]
theorem seen_not {l : Array Bool} {ρ : Nat → Value} (h : q ∈ Region.ready md ops l) : seen q l ρ = none := by
  unfold seen
  rw [ready_not h]
  rfl

theorem chain_start {w : World} {ρ : Nat → Value} (hlt : ∀ p ∈ ps, p < ops.size) (hC : C w) (hA : A [] none w) : Chain md ops ps q C A (firstK ops.size 0) ρ w := by
  refine ⟨fun i o ho hl => ?_, by simp [firstK], hC, 0, Nat.zero_le _, fun i p hp => ?_, ?_⟩
  · have hi : i < ops.size := (Array.getElem?_eq_some_iff.1 ho).1
    rw [firstK_get _ _ _ hi] at hl
    simp at hl
  · have h := hlt p (List.mem_of_getElem? hp)
    exact ⟨h, by rw [firstK_get _ _ _ h]; simp⟩
  · have e : seen q (firstK ops.size 0) ρ = none := by
      unfold seen
      rw [if_neg]
      rw [Array.getD_eq_getD_getElem?]
      rcases Nat.lt_or_ge q ops.size with h | h
      · simp [firstK, h]
      · simp [firstK, Array.getElem?_eq_none (xs := Array.ofFn _) (by simpa using h)]
    rw [e]
    simpa using hA
theorem chain_set {l : Array Bool} {ρ : Nat → Value} {k : Nat} {v : Value} {w w' : World} (hk : k ∉ ps) (hkq : k ≠ q) (hr : k ∈ Region.ready md ops l) (h : Chain md ops ps q C A l ρ w) (hC : C w') (hA : ∀ vs fo, A vs fo w → A vs fo w') : Chain md ops ps q C A (l.setIfInBounds k true) (up ρ k v) w' := by
  obtain ⟨hc, hs, _, j, hj, hl, hA0⟩ := h
  refine ⟨hc.set hr, by simpa using hs, hC, j, hj, fun i p hp => ?_, by rw [map_up (fun e => hk (List.mem_of_mem_take e)), seen_other hkq]; exact hA _ _ hA0⟩
  have hne : k ≠ p := fun e => hk (by rw [e]; exact List.mem_of_getElem? hp)
  rw [getD_other hne]
  exact hl i p hp

/-- The text from the k-th operation on, where the first of the chain have come to κs, the float to fo. -/
def In (P : Program) (md : Region.Mode) (ops : Array Oper) (Q : Exit → Act → World → Prop) (vs : List (Value → Prop)) (ps : List Nat) (q : Nat) (C : World → Prop) (A : List Value → Option Value → World → Prop) (k : Nat) (rest : List Oper) (κs : List Value) (fo : Option Value) (a : Act) : Prop :=
  ∀ κ : Nat → Value, (ps.take κs.length).map κ = κs → fo = (if q < k then some (κ q) else none) → InText P md ops Q (VS vs) (Chain md ops ps q C A) k rest κ a

theorem wp_float (vs : List (Value → Prop)) (ps : List Nat) (q : Nat) (C : World → Prop) (A : List Value → Option Value → World → Prop) {id : Nat} {a : Act} {w : World} (hm : P.follows .mixedOrders = true) (hf : textFits .any ops = true) (hlt : (ps.all fun p => decide (p < ops.size)) = true) (hC : C w.drew) (hA : A [] none w.drew)
    (h : textFits .any ops = true → In P .any ops Q vs ps q C A 0 ops.toList [] none a) : (Code.region id ops true).wp P Q a w :=
  wp_ord (fun _ => undef) hm hf (chain_start (fun p hp => by simpa using List.all_eq_true.1 hlt p hp) hC hA) fun hT => h hT _ rfl (by simp)

theorem fo_next {κ : Nat → Value} {fo : Option Value} {k : Nat} {u : Value} (hkq : k ≠ q) (h : fo = (if q < k then some (κ q) else none)) : fo = (if q < k + 1 then some (up κ k u q) else none) := by
  have e1 : up κ k u q = κ q := by unfold up; rw [if_neg (fun e => hkq e.symm)]
  rw [h, e1]
  by_cases hq : q < k
  · rw [if_pos hq, if_pos (by omega)]
  · rw [if_neg hq, if_neg (by omega)]

theorem in_value {k : Nat} {o : Oper} {rest : List Oper} {a : Act} {v : Value} {κs : List Value} {fo : Option Value} (hf : textFits md ops = true) (hk : k ∉ ps) (hkq : k ≠ q) (hvs : vs[k]? = some fun u => u = v) (hw : Region.wanted o (yielded ops a.tmps) = true) (hv : ∀ w, C w → (execOp a.eval o).run P w = .ok (.value v) w)
    (h : In P md ops Q vs ps q C A (k + 1) rest κs fo (a.put o.dst v)) : In P md ops Q vs ps q C A k (o :: rest) κs fo a := fun κ hκ hfo =>
  InText.cons hf v ⟨_, hvs, rfl⟩ (Or.inl ⟨hw, fun l ρ w hr _ _ hS => by rw [hv w hS.2.2.1]; exact ⟨⟨_, hvs, rfl⟩, chain_set hk hkq hr hS hS.2.2.1 fun _ _ h => h⟩⟩)
    fun u ⟨p, hp, hu⟩ => by
      rw [hvs] at hp
      cases hp
      rw [hu]
      exact h _ (by rw [map_up (fun e => hk (List.mem_of_mem_take e))]; exact hκ) (fo_next hkq hfo)
theorem in_off {k : Nat} {o : Oper} {rest : List Oper} {a : Act} {κs : List Value} {fo : Option Value} (hf : textFits md ops = true) (hk : k ∉ ps) (hkq : k ≠ q) (hvs : vs[k]? = some fun u => u = undef) (hw : Region.wanted o (yielded ops a.tmps) = false)
    (h : In P md ops Q vs ps q C A (k + 1) rest κs fo (a.put o.dst undef)) : In P md ops Q vs ps q C A k (o :: rest) κs fo a := fun κ hκ hfo =>
  InText.cons hf undef ⟨_, hvs, rfl⟩ (Or.inr ⟨hw, ⟨_, hvs, rfl⟩, fun l ρ w hr hS => chain_set hk hkq hr hS hS.2.2.1 fun _ _ h => h⟩)
    fun u ⟨p, hp, hu⟩ => by
      rw [hvs] at hp
      cases hp
      rw [hu]
      exact h _ (by rw [map_up (fun e => hk (List.mem_of_mem_take e))]; exact hκ) (fo_next hkq hfo)
/-- A call that leaves all as it is. -/
theorem in_call {k : Nat} {o : Oper} {rest : List Oper} {a : Act} {v : Value} {f : FuncId} {args : Array Value} {κs : List Value} {fo : Option Value} (hf : textFits md ops = true) (hk : k ∉ ps) (hkq : k ≠ q) (hvs : vs[k]? = some fun u => u = v) (hw : Region.wanted o (yielded ops a.tmps) = true)
    (hr : ∀ w, C w → (execOp a.eval o).run P w = .ok (.enter f args) w) (hc : ∀ w, C w → Calls P f args w fun e w' => e = .returned v ∧ C w' ∧ ∀ κs fo, A κs fo w → A κs fo w')
    (h : In P md ops Q vs ps q C A (k + 1) rest κs fo (a.put o.dst v)) : In P md ops Q vs ps q C A k (o :: rest) κs fo a := fun κ hκ hfo =>
  InText.cons hf v ⟨_, hvs, rfl⟩ (Or.inl ⟨hw, fun l ρ w hr' _ _ hS => by
      rw [hr w hS.2.2.1]
      exact (hc w hS.2.2.1).mono fun e w' he => ⟨v, he.1, ⟨_, hvs, rfl⟩, chain_set hk hkq hr' hS he.2.1 he.2.2⟩⟩)
    fun u ⟨p, hp, hu⟩ => by
      rw [hvs] at hp
      cases hp
      rw [hu]
      exact h _ (by rw [map_up (fun e => hk (List.mem_of_mem_take e))]; exact hκ) (fo_next hkq hfo)
/-- The float, wherever the chain is. -/
theorem in_float {k : Nat} {o : Oper} {rest : List Oper} {a : Act} {κs : List Value} {fo : Option Value} (p : Value → Prop) (v0 : Value) (hv0 : p v0) (hf : textFits md ops = true) (hk : k = q) (hqs : q ∉ ps) (hvs : vs[k]? = some p) (hw : Region.wanted o (yielded ops a.tmps) = true)
    (hv : ∀ w κs', C w → A κs' none w → Lands P (fun v w' => p v ∧ C w' ∧ A κs' (some v) w') ((execOp a.eval o).run P w))
    (h : ∀ v, p v → In P md ops Q vs ps q C A (k + 1) rest κs (some v) (a.put o.dst v)) : In P md ops Q vs ps q C A k (o :: rest) κs fo a := fun κ hκ _ => by
  subst hk
  refine InText.cons hf v0 ⟨p, hvs, hv0⟩ (Or.inl ⟨hw, fun l ρ w hr _ _ hS => ?_⟩) fun v ⟨p', hp', hpv⟩ => ?_
  · obtain ⟨hc, hs, hC, j, hj, hl, hA⟩ := hS
    rw [seen_not hr] at hA
    have hkl : k < l.size := by
      have h2 : l.getD k true = false := (mem_ready.1 hr).1
      rw [Array.getD_eq_getD_getElem?] at h2
      rcases Nat.lt_or_ge k l.size with hh' | hh'
      · exact hh'
      · simp [Array.getElem?_eq_none hh'] at h2
    refine (hv w _ hC hA).mono fun v w' ⟨hp, hC', hA'⟩ => ⟨⟨p, hvs, hp⟩, hc.set hr, by simpa using hs, hC', j, hj, fun i p' hp' => ?_, ?_⟩
    · have hne : k ≠ p' := fun e => hqs (by rw [e]; exact List.mem_of_getElem? hp')
      rw [getD_other hne]
      exact hl i p' hp'
    · rw [map_up (fun e => hqs (List.mem_of_mem_take e)), seen_self hkl]
      exact hA'
  · rw [hvs] at hp'
    cases hp'
    refine h v hpv _ (by rw [map_up (fun e => hqs (List.mem_of_mem_take e))]; exact hκ) ?_
    rw [if_pos (by omega)]
    unfold up
    rw [if_pos rfl]
/-- The next of the chain; F: what it may find of the float. -/
theorem in_turn0 {k : Nat} {o : Oper} {rest : List Oper} {a : Act} {κs : List Value} {fo : Option Value} (F : Option Value → Prop) (hF : ∀ (κ : Nat → Value) (l : Array Bool) (ρ : Nat → Value), fo = (if q < k then some (κ q) else none) → k ∈ Region.ready md ops l → (∀ j, l.getD j false = true → VS vs j (ρ j)) → (∀ j, (firstK ops.size k).getD j false = true → l.getD j false = true → ρ j = κ j) → F (seen q l ρ))
    (p : Value → Prop) (v0 : Value) (hv0 : p v0) (hf : textFits md ops = true) (hk : ps[κs.length]? = some k) (hkq : k ≠ q) (hnd : ps.Nodup) (hris : (ps.take κs.length).all (fun q => decide (q < k)) = true) (hvs : vs[k]? = some p)
    (hh : κs.length = 0 ∨ ∃ q b path, ps[κs.length - 1]? = some q ∧ hangs md ops k b = true ∧ hangsPath md ops (b :: path) = true ∧ (b :: path).getLast? = some q) (hw : Region.wanted o (yielded ops a.tmps) = true)
    (hv : ∀ fo' w, F fo' → C w → A κs fo' w → Lands P (fun v w' => p v ∧ C w' ∧ A (κs ++ [v]) fo' w') ((execOp a.eval o).run P w))
    (h : ∀ v, p v → In P md ops Q vs ps q C A (k + 1) rest (κs ++ [v]) fo (a.put o.dst v)) : In P md ops Q vs ps q C A k (o :: rest) κs fo a := fun κ hκ hfo => by
  have hjl : κs.length < ps.length := (List.getElem?_eq_some_iff.1 hk).1
  have hjk : ps[κs.length] = k := (List.getElem?_eq_some_iff.1 hk).2
  have hkn : k ∉ ps.take κs.length := fun e => by
    have := List.all_eq_true.1 hris k e
    simp at this
  refine InText.cons hf v0 ⟨p, hvs, hv0⟩ (Or.inl ⟨hw, fun l ρ w hr hVl hagree hS => ?_⟩) fun v ⟨p', hp', hpv⟩ => ?_
  · obtain ⟨hc, hs, hC, j', hj', hl, hA⟩ := hS
    have h1 := hl κs.length k hk
    have e2 : l.getD k false = false := ready_not hr
    have h3 : ¬ κs.length < j' := by rw [h1.2] at e2; simpa using e2
    have h4 : κs.length = j' := by
      rcases hh with h0 | ⟨q, b, path, hq, hg, hpath, hlast⟩
      · omega
      · have := late hc hr hg hpath hlast hq hl
        omega
    subst h4
    have hm : (ps.take κs.length).map ρ = κs := by
      rw [← hκ]
      have hlen : ((ps.take κs.length).map κ).length = κs.length := by rw [hκ]
      rw [hlen]
      refine List.map_congr_left fun q hq => ?_
      obtain ⟨i, hi, he⟩ := List.getElem_of_mem hq
      have hi' : i < κs.length := by simp at hi; omega
      have hiq : ps[i]? = some q := by rw [← he, List.getElem_take]; simp
      have hqk : q < k := by simpa using List.all_eq_true.1 hris q hq
      refine hagree q ?_ ?_
      · rw [firstK_get _ _ _ (by have := h1.1; omega)]; simpa using hqk
      · rw [(hl i q hiq).2]; simpa using hi'
    rw [hm] at hA
    refine (hv _ w (hF κ l ρ hfo hr hVl hagree) hC hA).mono fun v w' ⟨hp, hC', hA'⟩ => ⟨⟨p, hvs, hp⟩, hc.set hr, by simpa using hs, hC', κs.length + 1, by omega, fun i q hq => ?_, ?_⟩
    · refine ⟨(hl i q hq).1, ?_⟩
      by_cases hik : q = k
      · subst hik
        have : i = κs.length := (List.getElem?_inj (List.getElem?_eq_some_iff.1 hq).1 hnd).1 (hq.trans hk.symm)
        subst this
        have hp' : q < l.size := by rw [hs]; exact h1.1
        rw [getD_self hp']
        simp
      · rw [getD_other (fun e => hik e.symm), (hl i q hq).2]
        have hne : i ≠ κs.length := fun e => hik (by subst e; exact Option.some.inj (hq.symm.trans hk))
        congr 1
        apply propext
        omega
    · rw [List.take_succ_eq_append_getElem hjl, hjk, List.map_append, map_up hkn, hm, seen_other hkq]
      simpa [up] using hA'
  · rw [hvs] at hp'
    cases hp'
    refine h v hpv _ ?_ (fo_next hkq hfo)
    rw [List.length_append, List.length_singleton, List.take_succ_eq_append_getElem hjl, hjk, List.map_append, map_up hkn, hκ]
    simp [up]
/-- The next of the chain, the float up or not. -/
theorem in_turn {k : Nat} {o : Oper} {rest : List Oper} {a : Act} {κs : List Value} {fo : Option Value} (pq : Value → Prop) (hpq : vs[q]? = some pq)
    (p : Value → Prop) (v0 : Value) (hv0 : p v0) (hf : textFits md ops = true) (hk : ps[κs.length]? = some k) (hkq : k ≠ q) (hnd : ps.Nodup) (hris : (ps.take κs.length).all (fun q => decide (q < k)) = true) (hvs : vs[k]? = some p)
    (hh : κs.length = 0 ∨ ∃ q b path, ps[κs.length - 1]? = some q ∧ hangs md ops k b = true ∧ hangsPath md ops (b :: path) = true ∧ (b :: path).getLast? = some q) (hw : Region.wanted o (yielded ops a.tmps) = true)
    (hv : ∀ fo' w, (fo' = none ∨ ∃ v, fo' = some v ∧ pq v) → C w → A κs fo' w → Lands P (fun v w' => p v ∧ C w' ∧ A (κs ++ [v]) fo' w') ((execOp a.eval o).run P w))
    (h : ∀ v, p v → In P md ops Q vs ps q C A (k + 1) rest (κs ++ [v]) fo (a.put o.dst v)) : In P md ops Q vs ps q C A k (o :: rest) κs fo a :=
  in_turn0 (fun fo' => fo' = none ∨ ∃ v, fo' = some v ∧ pq v) (fun κ l ρ _ _ hVl _ => by
    unfold seen
    cases hlq : l.getD q false
    · exact .inl rfl
    · obtain ⟨p', hp', h'⟩ := hVl q hlq
      rw [hpq] at hp'
      cases hp'
      exact .inr ⟨_, rfl, h'⟩) p v0 hv0 hf hk hkq hnd hris hvs hh hw hv h
/-- The next of the chain, which hangs on the float. -/
theorem in_turn_late {k : Nat} {o : Oper} {rest : List Oper} {a : Act} {κs : List Value} {u : Value} (hg : hangs md ops k q = true) (hqk : q < k) (hql : q < ops.size)
    (p : Value → Prop) (v0 : Value) (hv0 : p v0) (hf : textFits md ops = true) (hk : ps[κs.length]? = some k) (hnd : ps.Nodup) (hris : (ps.take κs.length).all (fun q => decide (q < k)) = true) (hvs : vs[k]? = some p)
    (hh : κs.length = 0 ∨ ∃ q b path, ps[κs.length - 1]? = some q ∧ hangs md ops k b = true ∧ hangsPath md ops (b :: path) = true ∧ (b :: path).getLast? = some q) (hw : Region.wanted o (yielded ops a.tmps) = true)
    (hv : ∀ w, C w → A κs (some u) w → Lands P (fun v w' => p v ∧ C w' ∧ A (κs ++ [v]) (some u) w') ((execOp a.eval o).run P w))
    (h : ∀ v, p v → In P md ops Q vs ps q C A (k + 1) rest (κs ++ [v]) (some u) (a.put o.dst v)) : In P md ops Q vs ps q C A k (o :: rest) κs (some u) a :=
  in_turn0 (fun fo' => fo' = some u) (fun κ l ρ hfo hr _ hagree => by
    have hlq := hangs_listed hg hr
    rw [if_pos hqk] at hfo
    have := hagree q (by rw [firstK_get _ _ _ hql]; simpa using hqk) hlq
    unfold seen
    rw [if_pos hlq, this, hfo]) p v0 hv0 hf hk (by omega) hnd hris hvs hh hw (fun fo' w e hC hA => by subst e; exact hv w hC hA) h
theorem in_nil {a : Act} {k : Nat} {κs : List Value} {fo : Option Value} (hlen : κs.length = ps.length) (hql : q < ops.size) (hqk : q < k) (h : ∀ w, C w → A κs fo w → Q .normal a w) : In P md ops Q vs ps q C A k [] κs fo a := fun κ hκ hfo =>
  InText.nil fun w hS => by
    obtain ⟨_, _, hC, j, hj, hl, hA⟩ := hS
    have hjl : j = ps.length := by
      rcases Nat.lt_or_ge j ps.length with hlt | hge
      · exfalso
        have h1 := hl j ps[j] (by simp [hlt])
        rw [firstK_get _ _ _ h1.1] at h1
        simp at h1
        omega
      · omega
    subst hjl
    rw [hlen] at hκ
    rw [hκ] at hA
    rw [if_pos hqk] at hfo
    have e : seen q (firstK ops.size ops.size) κ = fo := by
      unfold seen
      rw [firstK_get _ _ _ hql, hfo]
      simp [hql]
    rw [e] at hA
    exact h w hC hA
end

/-- Things, and what has floated among them: a box of cells, that are z0 when it comes up. -/
def AF (w0 : World) (z0 : List Value) (St : List Value → List Item → List Value → Prop) (κs : List Value) (fo : Option Value) (w : World) : Prop :=
  ∃ L zs, St κs L zs ∧ ((fo = none ∧ zs = z0 ∧ Env w0 L w) ∨ ∃ n, fo = some (.pointer (some ⟨n, 0, none⟩)) ∧ Env w0 (boxI n zs :: L) w)
/-- How far it is: of the row the one behind what has been come to holds. -/
def Sta (Ps : List (List Item → List Value → Prop)) (κs : List Value) (L : List Item) (zs : List Value) : Prop := ∃ P, Ps[κs.length]? = some P ∧ P L zs
/-- The float's kind. -/
def Ptr (v : Value) : Prop := ∃ n, v = .pointer (some ⟨n, 0, none⟩)
theorem AF.up {w0 w : World} {z0 : List Value} {St : List Value → List Item → List Value → Prop} {κs : List Value} (h : AF w0 z0 St κs none w) (t : TypeId) : AF w0 z0 St κs (some (.pointer (some ⟨w.heap.size, 0, none⟩))) (w.alloc (.cells z0.toArray t)) := by
  obtain ⟨L, zs, hst, ⟨_, rfl, hE⟩ | ⟨n, hn, _⟩⟩ := h
  · exact ⟨L, _, hst, .inr ⟨_, rfl, hE.box _ rfl _ _⟩⟩
  · cases hn
end Go.Proofs.Ythiccboecimfjaa.OrdF

/- A memory that tells anything of those who aren't any more: the word of a stale load; a load. -/
namespace Go.Proofs.Ythiccboecimfjaa
open Go.RowKit Go.Maps
set_option maxRecDepth 100000

theorem tmod_nat (n k : Nat) : Int.tmod (n : Int) (k : Int) = ((n % k : Nat) : Int) := rfl

section
variable {w0 w : World} {L : List Item} {b g p s c n m : Nat} {mp : Option Nat} {S F : Nat → Prop} {h f : Plc → Int} {l zs : List Int} {q : Cnt} {st fa : Int} {v : Value}
set_option maxHeartbeats 1600000 in
theorem last_s (t : Nat) (ht : t ≤ 1000000) (i : Nat) (hE : Env w0 L w) (hs : L[i]? = some (boxI b (sv g v))) (hr : L[i + 1]? = some (wordsI v zs)) (hg : L[i + 2]? = some (boxI g (gv p mp s ((t : Int) + 1) fa))) (hz : zs.length ≤ 9223372036854775807) :
    Calls Try.prog 38 #[.pointer (some ⟨b, 0, none⟩)] w fun e w' => e = .returned (.int .u64 (lastW zs t)) ∧ Below w.heap.size w w' := by
  obtain ⟨A, cap, rfl⟩ := ownsRow_slice (hE.words (i + 1) hr)
  have rS := hE.rule i hs
  unfold sv at rS
  by_cases h0 : zs.length = 0
  · have e0 : lastW zs t = 0 := if_pos h0
    rw [e0]
    have hb0 : ((zs.length : Int) == 0) = true := by simp [h0]
    go_enter Try.func38, Try.ntmps38
    go_wp2
    go_ret
    exact ⟨rfl, Below.refl _ _⟩
  · have hb0 : ((zs.length : Int) == 0) = false := by rw [beq_eq_false_iff_ne]; omega
    have e0 : lastW zs t = zs.getD (t % zs.length) 0 := if_neg h0
    rw [e0]
    obtain hnil | ⟨g', rfl, hg', hc⟩ := hE.wordCells (i + 1) rfl hr
    · rw [hnil] at h0; simp at h0
    have hk := Nat.mod_lt t (Nat.pos_of_ne_zero h0)
    have hw2 := tmod_nat t zs.length
    have HC : Hid (∀ w', Below w.heap.size w w' → w'.cell? ⟨g', t % zs.length, none⟩ = some (.int .u64 (zs.getD (t % zs.length) 0))) := Lib.hid fun w' hb => by rw [hb.cell (p := ⟨g', t % zs.length, none⟩) hg']; exact hc _ hk
    generalize zs.getD (t % zs.length) 0 = a at *
    generalize t % zs.length = k at *
    have hw1 : IntKind.i64.wrap (t : Int) = (t : Int) := by rw [wrap_i, w64 _ (by omega)]
    have hin0 : (0 : Int) ≤ (k : Int) := by omega
    have hin1 : (k : Int) < (zs.length : Int) := by omega
    have hb1 : ((zs.length : Int) == 0) = false := hb0
    clear hc e0
    go_enter Try.func38, Try.ntmps38
    go_wp2_with fail
    refine Ord.wp_chain [] (fun w' => Env w0 L w' ∧ Below w.heap.size w w') (fun _ _ => True) (by kernel_rfl) (by kernel_rfl) (by kernel_rfl) ⟨hE.drew, (Below.refl _ _).drew⟩ trivial (fun hT => ?_)
    have hT9 := Lib.hid hT
    clear hT
    repeat (first
      | (refine Ord.ch_value (v := ?_) hT9.out (by decide) (by rfl) ?_ ?_; rotate_left; (focus (intro w5 hS; have r := hS.1.rule i hs; unfold sv at r; have hc := HC.out _ hS.2; go_simp <;> with_reducible rfl)); (try simp only [Act.put, List.setIfInBounds_toArray, List.set_cons_zero, List.set_cons_succ]))
      | (refine Ord.ch_off hT9.out (by decide) (by rfl) ?_; (try simp only [Act.put, List.setIfInBounds_toArray, List.set_cons_zero, List.set_cons_succ]))
      | (refine Ord.ch_call (v := ?_) (f := ?_) (args := ?_) hT9.out (by decide) (by rfl) ?_ ?_ ?_; rotate_left 3; (focus (intro w5 hS; have r := hS.1.rule i hs; unfold sv at r; have hc := HC.out _ hS.2; go_simp; constructor <;> with_reducible rfl)); (focus (intro w5 hS; (first | (with_reducible refine (told_s (hS.1.sblk i hs) (hS.1.gblk (i + 2) hg)).mono ?_; rintro e w6 ⟨rfl, rfl⟩; constructor; with_reducible rfl; exact ⟨hS, fun _ h => h⟩)))); (try simp only [Act.put, List.setIfInBounds_toArray, List.set_cons_zero, List.set_cons_succ])))
    refine Ord.InText.nil fun w5 hS => ?_
    clear hT9
    obtain ⟨hC9, hA9⟩ := Ord.chain_end hS
    clear hS
    go_wp2
    go_ret
    exact ⟨rfl, hC9.2⟩

/-- How many loads were stale. -/
def stN (t : Bool) (k : Nat) : Nat := if t = true then k + 1 else k
set_option maxHeartbeats 3200000 in
theorem load_s (x y z d : Int) (k : Nat) (hx : Wf (x, y, z)) (hk : k ≤ 100000) (hl : l.length ≤ 1000000) (hz : zs.length ≤ 9223372036854775807) (i : Nat) (hE : Env w0 L w) (hb : L[i]? = some (boxI b (sv g v))) (hr : L[i + 1]? = some (wordsI v zs)) (hg : L[i + 2]? = some (boxI g (gv p mp s (k : Nat) fa))) (hh : L[i + 3]? = some (leadsI mp h m)) (hs : L[i + 4]? = some (soulI s S l)) (hw : L[i + 5]? = some (wbox p c)) (hc : L[i + 6]? = some (cellI c F f q n)) :
    Calls Try.prog 11 #[.pointer (some ⟨b, 0, none⟩), .agg #[.int .i64 x, .int .i64 y, .int .i64 z, .int .i64 d]] w fun e w' => e = .returned (.agg #[.int .u64 (ldW zs (stB l x y d) k (f (x, y, z))), .int .i64 (ldI (stB l x y d) (h (x, y, z))), .bool (stB l x y d)]) ∧ Env w0 ((L.set (i + 2) (boxI g (gv p mp s (stN (stB l x y d) k : Nat) fa))).set (i + 6) (cellI c F f { q with l := wrap64 (q.l + 1) } n)) w' := by
  replace hE := (hE.box w.heap.size rfl [.int .i64 x, .int .i64 y, .int .i64 z, .int .i64 d] 46).box (w.heap.size + 1) (by simp) [.int .u64 0, .int .i64 0, .bool false] 42
  have HX := Lib.hid hx
  clear hx
  have hst : (if stB l x y d = true then wrap64 ((k : Int) + 1) else (k : Int)) = ((stN (stB l x y d) k : Nat) : Int) := by
    unfold stN
    split
    · rw [w64 _ (by omega)]; rfl
    · rfl
  have HST := Lib.hid hst
  clear hst
  have cL := fun (M : List Item) (w' : World) (j : Nat) (hE : Env w0 M w') => load_g (w0 := w0) (L := M) (w := w') (g := g) (p := p) (s := s) (c := c) (n := n) (m := m) (mp := mp) (S := S) (F := F) (h := h) (f := f) (l := l) (q := q) (st := k) (fa := fa) x y z d HX.out hl j hE
  rw [HST.out] at cL
  have CL := Lib.hid cL
  clear cL HST
  obtain ⟨t, ht⟩ : ∃ t, stB l x y d = t := ⟨_, rfl⟩
  rw [ht] at CL
  rw [ht]
  clear ht
  generalize hsz : ((stN t k : Nat) : Int) = sz at *
  have HSZ := Lib.hid hsz
  clear hsz
  obtain ⟨q', hq'⟩ : ∃ q', ({ q with l := wrap64 (q.l + 1) } : Cnt) = q' := ⟨_, rfl⟩
  rw [hq'] at CL ⊢
  clear hq'
  go_enter Try.func11, Try.ntmps11
  go_wp2_with fail
  generalize (w.alloc _).alloc _ = w1 at *
  generalize w.heap.size + 1 = Y at *
  generalize w.heap.size = X at *
  refine OrdF.wp_float [?_, ?_, ?_, ?_, OrdF.Ptr, ?_] [3, 5] 4 (fun w' => Blk 0 w' X [.int .i64 x, .int .i64 y, .int .i64 z, .int .i64 d] ∧ Blk 0 w' b (sv g v)) (OrdF.AF w0 [.int .u64 0, .int .i64 0, .bool false] (OrdF.Sta [fun M zs => M = boxI Y [.int .u64 0, .int .i64 0, .bool false] :: boxI X [.int .i64 x, .int .i64 y, .int .i64 z, .int .i64 d] :: L ∧ zs = [.int .u64 0, .int .i64 0, .bool false], fun M zs => M = boxI Y [.int .u64 0, .int .i64 0, .bool false] :: boxI X [.int .i64 x, .int .i64 y, .int .i64 z, .int .i64 d] :: (L.set (i + 2) (boxI g (gv p mp s sz fa))).set (i + 6) (cellI c F f q' n) ∧ zs = [.int .u64 0, .int .i64 0, .bool false], fun M zs => M = boxI Y [.int .u64 0, .int .i64 0, .bool false] :: boxI X [.int .i64 x, .int .i64 y, .int .i64 z, .int .i64 d] :: (L.set (i + 2) (boxI g (gv p mp s sz fa))).set (i + 6) (cellI c F f q' n) ∧ zs = [.int .u64 (f (x, y, z)), .int .i64 (h (x, y, z)), .bool t]])) (by kernel_rfl) (by kernel_rfl) (by kernel_rfl) ⟨hE.drew.get 1 rfl, hE.drew.get (i + 2) hb⟩ ⟨_, _, ⟨_, rfl, rfl, rfl⟩, .inl ⟨rfl, rfl, hE.drew⟩⟩ (fun hT => ?_)
  rotate_left 5
  have hT9 := Lib.hid hT
  clear hT
  repeat (first
    | (focus (refine OrdF.in_value (v := ?_) hT9.out (by decide) (by decide) ?_ (by rfl) ?_ ?_; rotate_left 2; (focus (intro w5 hS; have r := hS.1.rule; go_simp <;> with_reducible rfl)); rotate_right; (focus rfl); (try simp only [Act.put, List.setIfInBounds_toArray, List.set_cons_zero, List.set_cons_succ])))
    | (focus (refine OrdF.in_off hT9.out (by decide) (by decide) ?_ (by rfl) ?_; (focus rfl); (try simp only [Act.put, List.setIfInBounds_toArray, List.set_cons_zero, List.set_cons_succ]))))
  focus (refine OrdF.in_call (v := .pointer (some ⟨g, 0, none⟩)) (f := ?_) (args := ?_) hT9.out (by decide) (by decide) ?_ (by rfl) ?_ ?_ ?_; rotate_left 2; (focus rfl); (focus (intro w5 hS; skip; go_simp; constructor <;> with_reducible rfl)); (focus (intro w5 hS; refine (watched_s hS.2).mono ?_; rintro e w6 ⟨rfl, rfl⟩; exact ⟨rfl, hS, fun _ _ h => h⟩)); (try simp only [Act.put, List.setIfInBounds_toArray, List.set_cons_zero, List.set_cons_succ]))
  repeat (first
    | (focus (refine OrdF.in_value (v := ?_) hT9.out (by decide) (by decide) ?_ (by rfl) ?_ ?_; rotate_left 2; (focus (intro w5 hS; have r := hS.1.rule; go_simp <;> with_reducible rfl)); rotate_right; (focus rfl); (try simp only [Act.put, List.setIfInBounds_toArray, List.set_cons_zero, List.set_cons_succ])))
    | (focus (refine OrdF.in_off hT9.out (by decide) (by decide) ?_ (by rfl) ?_; (focus rfl); (try simp only [Act.put, List.setIfInBounds_toArray, List.set_cons_zero, List.set_cons_succ]))))
  refine OrdF.in_turn OrdF.Ptr rfl (fun u => u = .agg #[.int .u64 (f (x, y, z)), .int .i64 (h (x, y, z)), .bool t]) (.agg #[.int .u64 (f (x, y, z)), .int .i64 (h (x, y, z)), .bool t]) rfl hT9.out rfl (by decide) (by decide) (by rfl) ?_ (.inl rfl) (by rfl) ?_ ?_
  · rfl
  · rintro fo5 w5 _ hC5 ⟨M5, z5, ⟨P5, hP5, hM5⟩, hA5⟩
    cases hP5
    obtain ⟨rfl, rfl⟩ := hM5
    skip
    go_simp
    simp only [Ord3.Lands]
    rcases hA5 with ⟨rfl, -, hE5⟩ | ⟨n5, rfl, hE5⟩
    · refine (CL.out _ _ (i + 4) hE5 hg hh hs hw hc).mono ?_
      rintro e w6 ⟨rfl, hE6⟩; exact ⟨_, rfl, rfl, ⟨hE6.get 1 rfl, hE6.get (i + 2) (wset (j := i + 6) (by omega) (wset (j := i + 2) (by omega) hb))⟩, _, _, ⟨_, rfl, rfl, rfl⟩, .inl ⟨rfl, rfl, hE6⟩⟩
    · refine (CL.out _ _ (i + 5) hE5 hg hh hs hw hc).mono ?_
      rintro e w6 ⟨rfl, hE6⟩; exact ⟨_, rfl, rfl, ⟨hE6.get 2 rfl, hE6.get (i + 3) (wset (j := i + 6) (by omega) (wset (j := i + 2) (by omega) hb))⟩, _, _, ⟨_, rfl, rfl, rfl⟩, .inr ⟨n5, rfl, hE6⟩⟩
  rintro _ rfl
  (try simp only [Act.put, List.setIfInBounds_toArray, List.set_cons_zero, List.set_cons_succ])
  repeat (first
    | (focus (refine OrdF.in_value (v := ?_) hT9.out (by decide) (by decide) ?_ (by rfl) ?_ ?_; rotate_left 2; (focus (intro w5 hS; have r := hS.1.rule; go_simp <;> with_reducible rfl)); rotate_right; (focus rfl); (try simp only [Act.put, List.setIfInBounds_toArray, List.set_cons_zero, List.set_cons_succ])))
    | (focus (refine OrdF.in_off hT9.out (by decide) (by decide) ?_ (by rfl) ?_; (focus rfl); (try simp only [Act.put, List.setIfInBounds_toArray, List.set_cons_zero, List.set_cons_succ]))))
  refine OrdF.in_float OrdF.Ptr (.pointer (some ⟨0, 0, none⟩)) ⟨0, rfl⟩ hT9.out rfl (by decide) ?_ (by rfl) ?_ ?_
  · rfl
  · intro w5 κs5 hC5 hA5
    go_simp
    simp only [Ord3.Lands]
    exact ⟨⟨_, rfl⟩, ⟨hC5.1.more _, hC5.2.more _⟩, hA5.up _⟩
  rintro _ ⟨V, rfl⟩
  (try simp only [Act.put, List.setIfInBounds_toArray, List.set_cons_zero, List.set_cons_succ])
  refine OrdF.in_turn_late (by kernel_rfl) (by decide) (by decide) (fun u => u = undef) (undef) rfl hT9.out rfl (by decide) (by rfl) ?_ (.inr ⟨_, 3, [], rfl, by kernel_rfl, by kernel_rfl, rfl⟩) (by rfl) ?_ ?_
  · rfl
  · rintro w5 hC5 ⟨M5, z5, ⟨P5, hP5, hM5⟩, ⟨hn5, _⟩ | ⟨n5, hn5, hE5⟩⟩
    · cases hn5
    cases hn5
    cases hP5
    obtain ⟨rfl, rfl⟩ := hM5
    have r := hE5.rule 0 rfl; have ff := hE5.thaw 0 rfl; have f0 := ff 0 (by simp); have f1 := ff 1 (by simp); have f2 := ff 2 (by simp); clear ff
    go_simp
    have hE6 := hE5.put3 0 rfl (.int .u64 (f (x, y, z))) (.int .i64 (h (x, y, z))) (.bool t); exact ⟨rfl, ⟨hE6.get 2 rfl, hE6.get (i + 3) (wset (j := i + 6) (by omega) (wset (j := i + 2) (by omega) hb))⟩, _, _, ⟨_, rfl, rfl, rfl⟩, .inr ⟨_, rfl, hE6⟩⟩
  rintro _ rfl
  (try simp only [Act.put, List.setIfInBounds_toArray, List.set_cons_zero, List.set_cons_succ])
  refine OrdF.in_nil rfl (by decide) (by decide) ?_
  rintro w5 hC5 ⟨M5, z5, ⟨P5, hP5, hM5⟩, ⟨hn5, _⟩ | ⟨n5, hn5, hE5⟩⟩
  · cases hn5
  cases hn5
  cases hP5
  obtain ⟨rfl, rfl⟩ := hM5
  clear hT9
  clear hC5 hE
  have hb1 : ((L.set (i + 2) (boxI g (gv p mp s sz fa))).set (i + 6) (cellI c F f q' n))[i]? = some (boxI b (sv g v)) := wset (j := i + 6) (by omega) (wset (j := i + 2) (by omega) hb)
  have hr1 : ((L.set (i + 2) (boxI g (gv p mp s sz fa))).set (i + 6) (cellI c F f q' n))[i + 1]? = some (wordsI v zs) := wset (j := i + 6) (by omega) (wset (j := i + 2) (by omega) hr)
  have hg1 : ((L.set (i + 2) (boxI g (gv p mp s sz fa))).set (i + 6) (cellI c F f q' n))[i + 2]? = some (boxI g (gv p mp s sz fa)) := wset (j := i + 6) (by omega) (wself hg)
  generalize hL2 : (L.set (i + 2) (boxI g (gv p mp s sz fa))).set (i + 6) (cellI c F f q' n) = L2 at *
  have HL2 := Lib.hid hL2
  clear hL2
  have ff := hE5.thaw 1 rfl
  have f0 := ff 0 (by simp)
  have f1 := ff 1 (by simp)
  have f2 := ff 2 (by simp)
  have r0 := hE5.rule 0 rfl
  have r1 := hE5.rule 1 rfl
  cases t
  · have hE6 := hE5.put3 1 rfl (.int .u64 (f (x, y, z))) (.int .i64 (h (x, y, z))) (.bool false)
    simp only [List.set_cons_succ, List.set_cons_zero] at hE6
    have q9 := hE6.rule 1 rfl
    clear ff
    go_wp2
    exact bodyPost_ret (v := .agg #[.int .u64 (f (x, y, z)), .int .i64 (h (x, y, z)), .bool false]) (by simp [results, Try.results11, go_sem, q9]) rfl ⟨rfl, by rw [HL2.out]; exact hE6.sub (.cons _ (.cons _ (.cons _ (List.Sublist.refl _))))⟩
  · have es : sz = (k : Int) + 1 := by have := HSZ.out; simp [stN] at this; omega
    subst es
    clear ff f0 f1 f2 r1
    go_wp2_with fail
    refine (last_s k (by omega) (i + 3) hE5 hb1 hr1 hg1 hz).mono ?_
    rintro e w6 ⟨rfl, hb6⟩
    clear r0
    replace hE5 := hE5.over hb6
    have hE6 := hE5.put3 1 rfl (.int .u64 (lastW zs k)) (.int .i64 0) (.bool true)
    simp only [List.set_cons_succ, List.set_cons_zero] at hE6
    have ff := hE5.thaw 1 rfl
    have f0 := ff 0 (by simp)
    have f1 := ff 1 (by simp)
    have f2 := ff 2 (by simp)
    have r1 := hE5.rule 1 rfl
    have q9 := hE6.rule 1 rfl
    clear ff
    go_wp2
    exact bodyPost_ret (v := .agg #[.int .u64 (lastW zs k), .int .i64 0, .bool true]) (by simp [results, Try.results11, go_sem, q9]) rfl ⟨rfl, by rw [HL2.out]; exact hE6.sub (.cons _ (.cons _ (.cons _ (List.Sublist.refl _))))⟩
end
end Go.Proofs.Ythiccboecimfjaa

/- A memory that tells anything of those who aren't any more: all else is the watched world's. -/
namespace Go.Proofs.Ythiccboecimfjaa
open Go.RowKit Go.Maps
set_option maxRecDepth 100000

section
variable {w0 w : World} {L : List Item} {u g p s c n m : Nat} {mp : Option Nat} {S F : Nat → Prop} {h f : Plc → Int} {l : List Int} {q : Cnt} {st fa : Int} {vr : Value}
theorem born_s (x : Int) (hx : In64 x) (hl : l.length ≤ 100000) (i : Nat) (hE : Env w0 L w) (hb : L[i]? = some (boxI u (sv g vr))) (hg : L[i + 2]? = some (boxI g (gv p mp s st fa))) (hs : L[i + 4]? = some (soulI s S l)) :
    Calls Try.prog 14 #[.pointer (some ⟨u, 0, none⟩), .int .i64 x] w fun e w' => e = .returned (.int .i64 (bornV l x)) ∧ ∃ S', Env w0 (L.set (i + 4) (soulI s S' (bornL l x))) w' := by
  go_enter Try.func14, Try.ntmps14
  go_wp2_with fail
  refine (watched_s (hE.sblk i hb)).mono ?_
  rintro e w1 ⟨rfl, rfl⟩
  go_wp2_with fail
  refine (born_g x hx hl (i + 2) hE hg hs).mono ?_
  rintro e w2 ⟨rfl, S', hE⟩
  go_wp2
  go_ret
  exact ⟨rfl, S', hE⟩

theorem cells_s (i : Nat) (hE : Env w0 L w) (hb : L[i]? = some (boxI u (sv g vr))) (hg : L[i + 2]? = some (boxI g (gv p mp s st fa))) (hw : L[i + 5]? = some (wbox p c)) (hc : L[i + 6]? = some (cellI c F f q n)) :
    Calls Try.prog 17 #[.pointer (some ⟨u, 0, none⟩)] w fun e w' => ∃ c' F', e = .returned (.pointer (some ⟨c', 0, none⟩)) ∧ Env w0 (cellI c' F' f ⟨0, 0, 0, 0, 0⟩ n :: L) w' := by
  go_enter Try.func17, Try.ntmps17
  go_wp2_with fail
  refine (watched_s (hE.sblk i hb)).mono ?_
  rintro e w1 ⟨rfl, rfl⟩
  go_wp2_with fail
  refine (cells_g (i + 2) hE hg hw hc).mono ?_
  rintro e w2 ⟨c', F', rfl, hE2⟩
  go_wp2
  go_ret
  exact ⟨c', F', rfl, hE2⟩

set_option maxHeartbeats 1600000 in
theorem count_s (i : Nat) (hE : Env w0 L w) (hb : L[i]? = some (boxI u (sv g vr))) (hg : L[i + 2]? = some (boxI g (gv p mp s st fa))) (hw : L[i + 5]? = some (wbox p c)) (hc : L[i + 6]? = some (cellI c F f q n)) :
    Calls Try.prog 16 #[.pointer (some ⟨u, 0, none⟩)] w fun e w' => e = .returned (.agg #[.int .i64 q.l, .int .i64 q.s, .int .i64 q.w, .int .i64 q.f, .int .i64 q.a]) ∧ Below w.heap.size w w' := by
  have hb0 := (Below.refl w.heap.size w).alloc (Nat.le_refl _) (.cells #[.int .i64 0, .int .i64 0, .int .i64 0, .int .i64 0, .int .i64 0] 58)
  replace hE := hE.box w.heap.size rfl [.int .i64 0, .int .i64 0, .int .i64 0, .int .i64 0, .int .i64 0] 58
  go_enter Try.func16, Try.ntmps16
  go_wp2_with fail
  refine (watched_s (hE.sblk (i + 1) hb)).mono ?_
  rintro e w1 ⟨rfl, rfl⟩
  go_wp2_with fail
  refine (count_g (i + 3) hE hg hw hc).mono ?_
  rintro e w2 ⟨rfl, hb2⟩
  have hE2 := hE.over hb2
  have f5 := hE2.thaw 0 rfl
  have f0 := f5 0 (by simp)
  have f1 := f5 1 (by simp)
  have f2 := f5 2 (by simp)
  have f3 := f5 3 (by simp)
  have f4 := f5 4 (by simp)
  have r := hE2.rule 0 rfl
  have hB := hb0.trans (hb2.mono hb0.size)
  clear f5
  go_wp2
  have hP := hE2.put5 0 rfl (.int .i64 q.l) (.int .i64 q.s) (.int .i64 q.w) (.int .i64 q.f) (.int .i64 q.a)
  have q9 := hP.rule 0 rfl
  refine bodyPost_ret (v := .agg #[.int .i64 q.l, .int .i64 q.s, .int .i64 q.w, .int .i64 q.f, .int .i64 q.a]) (by simp [results, Try.results16, go_sem, q9]) rfl ⟨rfl, ?_⟩
  exact ((((hB.setCell (Nat.le_refl _) _).setCell (Nat.le_refl _) _).setCell (Nat.le_refl _) _).setCell (Nat.le_refl _) _).setCell (Nat.le_refl _) _

set_option maxHeartbeats 1600000 in
theorem peek_s (x y z : Int) (hx : Wf (x, y, z)) (i : Nat) (hE : Env w0 L w) (hb : L[i]? = some (boxI u (sv g vr))) (hg : L[i + 2]? = some (boxI g (gv p mp s st fa))) (hw : L[i + 5]? = some (wbox p c)) (hc : L[i + 6]? = some (cellI c F f q n)) :
    Calls Try.prog 15 #[.pointer (some ⟨u, 0, none⟩), .agg #[.int .i64 x, .int .i64 y, .int .i64 z]] w fun e w' => e = .returned (.int .u64 (f (x, y, z))) ∧ Below w.heap.size w w' := by
  have hb0 := (Below.refl w.heap.size w).alloc (Nat.le_refl _) (.cells #[.int .i64 x, .int .i64 y, .int .i64 z] 44)
  replace hE := hE.box w.heap.size rfl [.int .i64 x, .int .i64 y, .int .i64 z] 44
  have HX := Lib.hid hx
  clear hx
  go_enter Try.func15, Try.ntmps15
  go_wp2_with fail
  obtain ⟨X, hXw⟩ : ∃ X, X = w.heap.size := ⟨_, rfl⟩
  rw [← hXw] at hE ⊢
  have HXW := Lib.hid hXw
  clear hXw
  have hb1 : (boxI X [.int .i64 x, .int .i64 y, .int .i64 z] :: L)[i + 1]? = some (boxI u (sv g vr)) := hb
  have hg1 : (boxI X [.int .i64 x, .int .i64 y, .int .i64 z] :: L)[i + 3]? = some (boxI g (gv p mp s st fa)) := hg
  have hw1 : (boxI X [.int .i64 x, .int .i64 y, .int .i64 z] :: L)[i + 6]? = some (wbox p c) := hw
  have hc1 : (boxI X [.int .i64 x, .int .i64 y, .int .i64 z] :: L)[i + 7]? = some (cellI c F f q n) := hc
  refine Ord.wp_chain [] (fun w' => Env w0 (boxI X [.int .i64 x, .int .i64 y, .int .i64 z] :: L) w' ∧ Below w.heap.size w w') (fun _ _ => True) (by kernel_rfl) (by kernel_rfl) (by kernel_rfl) ⟨hE.drew, hb0.drew⟩ trivial (fun hT => ?_)
  have hT9 := Lib.hid hT
  clear hT
  repeat (first
    | (refine Ord.ch_value (v := ?_) hT9.out (by decide) (by rfl) ?_ ?_; rotate_left; (focus (intro w5 hS; have r := hS.1.rule 0 rfl; go_simp <;> with_reducible rfl)); (try simp only [Act.put, List.setIfInBounds_toArray, List.set_cons_zero, List.set_cons_succ]))
    | (refine Ord.ch_off hT9.out (by decide) (by rfl) ?_; (try simp only [Act.put, List.setIfInBounds_toArray, List.set_cons_zero, List.set_cons_succ]))
    | (refine Ord.ch_call (v := ?_) (f := ?_) (args := ?_) hT9.out (by decide) (by rfl) ?_ ?_ ?_; rotate_left 3; (focus (intro w5 hS; have r := hS.1.rule 0 rfl; go_simp; constructor <;> with_reducible rfl)); (focus (intro w5 hS; (first | (with_reducible refine (watched_s (hS.1.sblk (i + 1) hb1)).mono ?_; rintro e w6 ⟨rfl, rfl⟩; constructor; with_reducible rfl; exact ⟨hS, fun _ h => h⟩) | (with_reducible refine (peek_g x y z HX.out (i + 3) hS.1 hg1 hw1 hc1).mono ?_; rintro e w6 ⟨rfl, hb6⟩; constructor; with_reducible rfl; exact ⟨⟨hS.1.over hb6, hS.2.trans (hb6.mono hS.2.size)⟩, fun _ h => h⟩)))); (try simp only [Act.put, List.setIfInBounds_toArray, List.set_cons_zero, List.set_cons_succ])))
  refine Ord.InText.nil fun w5 hS => ?_
  clear hT9
  obtain ⟨hC9, hA9⟩ := Ord.chain_end hS
  clear hS
  go_wp2
  go_ret
  exact ⟨rfl, hC9.2⟩

set_option maxHeartbeats 1600000 in
theorem store_s (x y z d v e : Int) (b : Bool) (hx : Wf (x, y, z)) (hv : InU v) (he : In64 e) (hn : n < maxLen) (hm : m < maxLen) (hl : l.length ≤ 1000000) (i : Nat) (hE : Env w0 L w) (hb : L[i]? = some (boxI u (sv g vr))) (hg : L[i + 2]? = some (boxI g (gv p mp s st fa))) (hh : L[i + 3]? = some (leadsI mp h m)) (hs : L[i + 4]? = some (soulI s S l)) (hw : L[i + 5]? = some (wbox p c)) (hc : L[i + 6]? = some (cellI c F f q n)) :
    Calls Try.prog 10 #[.pointer (some ⟨u, 0, none⟩), .agg #[.int .i64 x, .int .i64 y, .int .i64 z, .int .i64 d], .agg #[.int .u64 v, .int .i64 e, .bool b]] w fun e' w' => e' = .returned (.tuple #[]) ∧ ∃ mp' F', Env w0 (((L.set (i + 6) (cellI c F' (upd f (x, y, z) v) { q with s := wrap64 (q.s + 1) } (n + 1))).set (i + 2) (boxI g (gv p mp' s st (faS l x y d b fa)))).set (i + 3) (leadsI mp' (upd h (x, y, z) e) (m + 1))) w' := by
  replace hE := ((hE.box (w.heap.size) rfl [.int .i64 x, .int .i64 y, .int .i64 z, .int .i64 d] 46).box (w.heap.size + 1) (by simp) [.int .u64 v, .int .i64 e, .bool b] 42)
  have HX := Lib.hid hx
  have HE := Lib.hid he
  have HV := Lib.hid hv
  clear hx he hv
  go_enter Try.func10, Try.ntmps10
  go_wp2_with fail
  generalize (w.alloc _).alloc _ = w1 at *
  generalize w.heap.size + 1 = Y at *
  generalize w.heap.size = X at *
  refine Ord.wp_chain [4] (fun w' => Blk 0 w' X [.int .i64 x, .int .i64 y, .int .i64 z, .int .i64 d] ∧ Blk 0 w' Y [.int .u64 v, .int .i64 e, .bool b] ∧ Blk 0 w' u (sv g vr)) (Stage [Env w0 (boxI Y [.int .u64 v, .int .i64 e, .bool b] :: boxI X [.int .i64 x, .int .i64 y, .int .i64 z, .int .i64 d] :: L), fun w' => ∃ mp' F', Env w0 (boxI Y [.int .u64 v, .int .i64 e, .bool b] :: boxI X [.int .i64 x, .int .i64 y, .int .i64 z, .int .i64 d] :: ((L.set (i + 6) (cellI c F' (upd f (x, y, z) v) { q with s := wrap64 (q.s + 1) } (n + 1))).set (i + 2) (boxI g (gv p mp' s st (faS l x y d b fa)))).set (i + 3) (leadsI mp' (upd h (x, y, z) e) (m + 1))) w']) (by kernel_rfl) (by kernel_rfl) (by kernel_rfl) ⟨hE.drew.get 1 rfl, hE.drew.get 0 rfl, hE.drew.get (i + 2) hb⟩ ⟨_, rfl, hE.drew⟩ (fun hT => ?_)
  have hT9 := Lib.hid hT
  clear hT
  repeat (first
    | (refine Ord.ch_value (v := ?_) hT9.out (by decide) (by rfl) ?_ ?_; rotate_left; (focus (intro w5 hS; have r0 := hS.1.rule; have r1 := hS.2.1.rule; go_simp <;> with_reducible rfl)); (try simp only [Act.put, List.setIfInBounds_toArray, List.set_cons_zero, List.set_cons_succ]))
    | (refine Ord.ch_off hT9.out (by decide) (by rfl) ?_; (try simp only [Act.put, List.setIfInBounds_toArray, List.set_cons_zero, List.set_cons_succ]))
    | (refine Ord.ch_call (v := ?_) (f := ?_) (args := ?_) hT9.out (by decide) (by rfl) ?_ ?_ ?_; rotate_left 3; (focus (intro w5 hS; have r0 := hS.1.rule; have r1 := hS.2.1.rule; go_simp; constructor <;> with_reducible rfl)); (focus (intro w5 hS; (first | (with_reducible refine (watched_s hS.2.2).mono ?_; rintro e w6 ⟨rfl, rfl⟩; constructor; with_reducible rfl; exact ⟨hS, fun _ h => h⟩)))); (try simp only [Act.put, List.setIfInBounds_toArray, List.set_cons_zero, List.set_cons_succ])))
  refine Ord.ch_turn (v := .tuple #[]) 0 hT9.out rfl (by decide) (Or.inl rfl) (by rfl) ?_ ?_
  · rintro w5 hC5 ⟨P5, hP5, hA5⟩
    cases hP5
    skip
    go_simp
    simp only [Ord.LandsIn]
    refine (store_g x y z d v e b HX.out HV.out HE.out hn hm hl (i + 4) hA5 hg hh hs hw hc).mono ?_
    rintro e6 w6 ⟨rfl, mp', F', hE6⟩; exact ⟨rfl, ⟨hE6.get 1 rfl, hE6.get 0 rfl, hE6.get (i + 2) (wset (j := i + 3) (by omega) (wset (j := i + 2) (by omega) (wset (j := i + 6) (by omega) (hb))))⟩, _, rfl, mp', F', hE6⟩
  (try simp only [Act.put, List.setIfInBounds_toArray, List.set_cons_zero, List.set_cons_succ])
  repeat (first
    | (refine Ord.ch_value (v := ?_) hT9.out (by decide) (by rfl) ?_ ?_; rotate_left; (focus (intro w5 hS; skip; go_simp <;> with_reducible rfl)); (try simp only [Act.put, List.setIfInBounds_toArray, List.set_cons_zero, List.set_cons_succ]))
    | (refine Ord.ch_off hT9.out (by decide) (by rfl) ?_; (try simp only [Act.put, List.setIfInBounds_toArray, List.set_cons_zero, List.set_cons_succ])))
  refine Ord.InText.nil fun w5 hS => ?_
  clear hT9
  obtain ⟨hC9, hA9⟩ := Ord.chain_end hS
  clear hS
  obtain ⟨P9, hP9, hA9⟩ := hA9
  cases hP9
  obtain ⟨mp', F', hA9⟩ := hA9
  clear hC9
  go_wp2
  (first | go_end0 | refine bodyPost_ret (results_none rfl _ _ _) rfl ?_)
  exact ⟨rfl, mp', F', hA9.sub (.cons _ (.cons _ (List.Sublist.refl _)))⟩

set_option maxHeartbeats 1600000 in
theorem swap_s (x y z d o oe v e : Int) (ob b : Bool) (hx : Wf (x, y, z)) (hv : InU v) (he : In64 e) (hn : n < maxLen) (hm : m < maxLen) (hl : l.length ≤ 1000000) (i : Nat) (hE : Env w0 L w) (hb : L[i]? = some (boxI u (sv g vr))) (hg : L[i + 2]? = some (boxI g (gv p mp s st fa))) (hh : L[i + 3]? = some (leadsI mp h m)) (hs : L[i + 4]? = some (soulI s S l)) (hw : L[i + 5]? = some (wbox p c)) (hc : L[i + 6]? = some (cellI c F f q n)) :
    Calls Try.prog 12 #[.pointer (some ⟨u, 0, none⟩), .agg #[.int .i64 x, .int .i64 y, .int .i64 z, .int .i64 d], .agg #[.int .u64 o, .int .i64 oe, .bool ob], .agg #[.int .u64 v, .int .i64 e, .bool b]] w fun e' w' => e' = .returned (.bool (decide (f (x, y, z) = o))) ∧ ∃ mp' F', Env w0 (((L.set (i + 6) (cellI c F' (swf f (x, y, z) o v) (swq q (decide (f (x, y, z) = o))) (n + 1))).set (i + 2) (boxI g (gv p mp' s st (if f (x, y, z) = o then faS l x y d (ob || b) fa else fa)))).set (i + 3) (leadsI mp' (if f (x, y, z) = o then upd h (x, y, z) e else h) (m + 1))) w' := by
  replace hE := (((hE.box (w.heap.size) rfl [.int .i64 x, .int .i64 y, .int .i64 z, .int .i64 d] 46).box (w.heap.size + 1) (by simp) [.int .u64 o, .int .i64 oe, .bool ob] 42).box (w.heap.size + 1 + 1) (by simp) [.int .u64 v, .int .i64 e, .bool b] 42)
  have HX := Lib.hid hx
  have HE := Lib.hid he
  have HV := Lib.hid hv
  clear hx he hv
  generalize hdo : decide (f (x, y, z) = o) = D
  generalize hfz : (if f (x, y, z) = o then faS l x y d (ob || b) fa else fa) = fz
  generalize hhz : (if f (x, y, z) = o then upd h (x, y, z) e else h) = hz
  have cS := fun (M : List Item) (w' : World) (j : Nat) (hE : Env w0 M w') => swap_g (w0 := w0) (L := M) (w := w') (g := g) (p := p) (s := s) (c := c) (n := n) (m := m) (mp := mp) (S := S) (F := F) (h := h) (f := f) (l := l) (q := q) (st := st) (fa := fa) x y z d o oe v e ob b HX.out HV.out HE.out hn hm hl j hE
  rw [hdo, hfz, hhz] at cS
  have CS := Lib.hid cS
  clear hdo hfz hhz cS
  go_enter Try.func12, Try.ntmps12
  go_wp2_with fail
  generalize ((w.alloc _).alloc _).alloc _ = w1 at *
  generalize w.heap.size + 1 + 1 = Z at *
  generalize w.heap.size + 1 = Y at *
  generalize w.heap.size = X at *
  refine Ord.wp_chain [5] (fun w' => Blk 0 w' X [.int .i64 x, .int .i64 y, .int .i64 z, .int .i64 d] ∧ Blk 0 w' Y [.int .u64 o, .int .i64 oe, .bool ob] ∧ Blk 0 w' Z [.int .u64 v, .int .i64 e, .bool b] ∧ Blk 0 w' u (sv g vr)) (Stage [Env w0 (boxI Z [.int .u64 v, .int .i64 e, .bool b] :: boxI Y [.int .u64 o, .int .i64 oe, .bool ob] :: boxI X [.int .i64 x, .int .i64 y, .int .i64 z, .int .i64 d] :: L), fun w' => ∃ mp' F', Env w0 (boxI Z [.int .u64 v, .int .i64 e, .bool b] :: boxI Y [.int .u64 o, .int .i64 oe, .bool ob] :: boxI X [.int .i64 x, .int .i64 y, .int .i64 z, .int .i64 d] :: ((L.set (i + 6) (cellI c F' (swf f (x, y, z) o v) (swq q D) (n + 1))).set (i + 2) (boxI g (gv p mp' s st fz))).set (i + 3) (leadsI mp' hz (m + 1))) w']) (by kernel_rfl) (by kernel_rfl) (by kernel_rfl) ⟨hE.drew.get 2 rfl, hE.drew.get 1 rfl, hE.drew.get 0 rfl, hE.drew.get (i + 3) hb⟩ ⟨_, rfl, hE.drew⟩ (fun hT => ?_)
  have hT9 := Lib.hid hT
  clear hT
  repeat (first
    | (refine Ord.ch_value (v := ?_) hT9.out (by decide) (by rfl) ?_ ?_; rotate_left; (focus (intro w5 hS; have r0 := hS.1.rule; have r1 := hS.2.1.rule; have r2 := hS.2.2.1.rule; go_simp <;> with_reducible rfl)); (try simp only [Act.put, List.setIfInBounds_toArray, List.set_cons_zero, List.set_cons_succ]))
    | (refine Ord.ch_off hT9.out (by decide) (by rfl) ?_; (try simp only [Act.put, List.setIfInBounds_toArray, List.set_cons_zero, List.set_cons_succ]))
    | (refine Ord.ch_call (v := ?_) (f := ?_) (args := ?_) hT9.out (by decide) (by rfl) ?_ ?_ ?_; rotate_left 3; (focus (intro w5 hS; have r0 := hS.1.rule; have r1 := hS.2.1.rule; have r2 := hS.2.2.1.rule; go_simp; constructor <;> with_reducible rfl)); (focus (intro w5 hS; (first | (with_reducible refine (watched_s hS.2.2.2).mono ?_; rintro e w6 ⟨rfl, rfl⟩; constructor; with_reducible rfl; exact ⟨hS, fun _ h => h⟩)))); (try simp only [Act.put, List.setIfInBounds_toArray, List.set_cons_zero, List.set_cons_succ])))
  refine Ord.ch_turn (v := .bool D) 0 hT9.out rfl (by decide) (Or.inl rfl) (by rfl) ?_ ?_
  · rintro w5 hC5 ⟨P5, hP5, hA5⟩
    cases hP5
    skip
    go_simp
    simp only [Ord.LandsIn]
    refine (CS.out _ _ (i + 5) hA5 hg hh hs hw hc).mono ?_
    rintro e6 w6 ⟨rfl, mp', F', hE6⟩; exact ⟨rfl, ⟨hE6.get 2 rfl, hE6.get 1 rfl, hE6.get 0 rfl, hE6.get (i + 3) (wset (j := i + 3) (by omega) (wset (j := i + 2) (by omega) (wset (j := i + 6) (by omega) (hb))))⟩, _, rfl, mp', F', hE6⟩
  (try simp only [Act.put, List.setIfInBounds_toArray, List.set_cons_zero, List.set_cons_succ])
  repeat (first
    | (refine Ord.ch_value (v := ?_) hT9.out (by decide) (by rfl) ?_ ?_; rotate_left; (focus (intro w5 hS; skip; go_simp <;> with_reducible rfl)); (try simp only [Act.put, List.setIfInBounds_toArray, List.set_cons_zero, List.set_cons_succ]))
    | (refine Ord.ch_off hT9.out (by decide) (by rfl) ?_; (try simp only [Act.put, List.setIfInBounds_toArray, List.set_cons_zero, List.set_cons_succ])))
  refine Ord.InText.nil fun w5 hS => ?_
  clear hT9
  obtain ⟨hC9, hA9⟩ := Ord.chain_end hS
  clear hS
  obtain ⟨P9, hP9, hA9⟩ := hA9
  cases hP9
  obtain ⟨mp', F', hA9⟩ := hA9
  clear hC9
  go_wp2
  go_ret
  exact ⟨rfl, mp', F', hA9.sub (.cons _ (.cons _ (.cons _ (List.Sublist.refl _))))⟩

set_option maxHeartbeats 1600000 in
theorem add_s (x y z d v : Int) (hx : Wf (x, y, z)) (hn : n < maxLen) (i : Nat) (hE : Env w0 L w) (hb : L[i]? = some (boxI u (sv g vr))) (hg : L[i + 2]? = some (boxI g (gv p mp s st fa))) (hw : L[i + 5]? = some (wbox p c)) (hc : L[i + 6]? = some (cellI c F f q n)) :
    Calls Try.prog 13 #[.pointer (some ⟨u, 0, none⟩), .agg #[.int .i64 x, .int .i64 y, .int .i64 z, .int .i64 d], .int .u64 v] w fun e' w' => e' = .returned (.int .u64 (f (x, y, z))) ∧ ∃ F', Env w0 (L.set (i + 6) (cellI c F' (upd f (x, y, z) (IntKind.u64.wrap (f (x, y, z) + v))) { q with a := wrap64 (q.a + 1) } (n + 1))) w' := by
  replace hE := (hE.box (w.heap.size) rfl [.int .i64 x, .int .i64 y, .int .i64 z, .int .i64 d] 46)
  have HX := Lib.hid hx
  clear hx
  go_enter Try.func13, Try.ntmps13
  go_wp2_with fail
  generalize w.alloc _ = w1 at *
  generalize w.heap.size = X at *
  refine Ord.wp_chain [4] (fun w' => Blk 0 w' X [.int .i64 x, .int .i64 y, .int .i64 z, .int .i64 d] ∧ Blk 0 w' u (sv g vr)) (Stage [Env w0 (boxI X [.int .i64 x, .int .i64 y, .int .i64 z, .int .i64 d] :: L), fun w' => ∃ F', Env w0 (boxI X [.int .i64 x, .int .i64 y, .int .i64 z, .int .i64 d] :: L.set (i + 6) (cellI c F' (upd f (x, y, z) (IntKind.u64.wrap (f (x, y, z) + v))) { q with a := wrap64 (q.a + 1) } (n + 1))) w']) (by kernel_rfl) (by kernel_rfl) (by kernel_rfl) ⟨hE.drew.get 0 rfl, hE.drew.get (i + 1) hb⟩ ⟨_, rfl, hE.drew⟩ (fun hT => ?_)
  have hT9 := Lib.hid hT
  clear hT
  repeat (first
    | (refine Ord.ch_value (v := ?_) hT9.out (by decide) (by rfl) ?_ ?_; rotate_left; (focus (intro w5 hS; have r0 := hS.1.rule; go_simp <;> with_reducible rfl)); (try simp only [Act.put, List.setIfInBounds_toArray, List.set_cons_zero, List.set_cons_succ]))
    | (refine Ord.ch_off hT9.out (by decide) (by rfl) ?_; (try simp only [Act.put, List.setIfInBounds_toArray, List.set_cons_zero, List.set_cons_succ]))
    | (refine Ord.ch_call (v := ?_) (f := ?_) (args := ?_) hT9.out (by decide) (by rfl) ?_ ?_ ?_; rotate_left 3; (focus (intro w5 hS; have r0 := hS.1.rule; go_simp; constructor <;> with_reducible rfl)); (focus (intro w5 hS; (first | (with_reducible refine (watched_s hS.2).mono ?_; rintro e w6 ⟨rfl, rfl⟩; constructor; with_reducible rfl; exact ⟨hS, fun _ h => h⟩)))); (try simp only [Act.put, List.setIfInBounds_toArray, List.set_cons_zero, List.set_cons_succ])))
  refine Ord.ch_turn (v := .int .u64 (f (x, y, z))) 0 hT9.out rfl (by decide) (Or.inl rfl) (by rfl) ?_ ?_
  · rintro w5 hC5 ⟨P5, hP5, hA5⟩
    cases hP5
    skip
    go_simp
    simp only [Ord.LandsIn]
    refine (add_g x y z d v HX.out hn (i + 3) hA5 hg hw hc).mono ?_
    rintro e6 w6 ⟨rfl, F', hE6⟩; exact ⟨rfl, ⟨hE6.get 0 rfl, hE6.get (i + 1) (wset (j := i + 6) (by omega) (hb))⟩, _, rfl, F', hE6⟩
  (try simp only [Act.put, List.setIfInBounds_toArray, List.set_cons_zero, List.set_cons_succ])
  repeat (first
    | (refine Ord.ch_value (v := ?_) hT9.out (by decide) (by rfl) ?_ ?_; rotate_left; (focus (intro w5 hS; skip; go_simp <;> with_reducible rfl)); (try simp only [Act.put, List.setIfInBounds_toArray, List.set_cons_zero, List.set_cons_succ]))
    | (refine Ord.ch_off hT9.out (by decide) (by rfl) ?_; (try simp only [Act.put, List.setIfInBounds_toArray, List.set_cons_zero, List.set_cons_succ])))
  refine Ord.InText.nil fun w5 hS => ?_
  clear hT9
  obtain ⟨hC9, hA9⟩ := Ord.chain_end hS
  clear hS
  obtain ⟨P9, hP9, hA9⟩ := hA9
  cases hP9
  obtain ⟨F', hA9⟩ := hA9
  clear hC9
  go_wp2
  go_ret
  exact ⟨rfl, F', hA9.sub (.cons _ (List.Sublist.refl _))⟩
end
end Go.Proofs.Ythiccboecimfjaa

/- Contracts of layer 5: a slot's place. -/
namespace Go.Proofs.Ythiccboecimfjaa
open Go.RowKit
set_option maxRecDepth 100000

set_option maxHeartbeats 400000 in
theorem placeOf_any (y z : Int) (w : World) : Calls Try.prog 29 #[.int .i64 y, .int .i64 z] w fun e w' => e = .returned (.agg #[.int .i64 5, .int .i64 y, .int .i64 z]) ∧ Below w.heap.size w w' := by
  go_enter Try.func29, Try.ntmps29
  go_wp2
  exact bodyPost_ret (v := .agg #[.int .i64 5, .int .i64 y, .int .i64 z]) (by simp [results, Try.results29, go_sem]) rfl ⟨rfl, (Below.refl _ _).alloc (Nat.le_refl _) _⟩
end Go.Proofs.Ythiccboecimfjaa

/- A memory that tells anything: answers that the document fixes. -/
namespace Go.Proofs.Ythiccboecimfjaa
open Go.RowKit Go.Maps
set_option maxRecDepth 100000

set_option maxHeartbeats 3200000 in
theorem awake10 (w : World) : Calls Try.prog 5 #[] w fun e w' => e = .returned (.bool true) ∧ Below w.heap.size w w' := by
  have hE := Env.start w
  have h1 : Hid (In64 1) := Lib.hid (by unfold In64; omega)
  have h0 : Hid (In64 0) := Lib.hid (by unfold In64; omega)
  have HW : Hid (Wf (5, 1, 3)) := Lib.hid ⟨show In64 5 by unfold In64; omega, show In64 1 by unfold In64; omega, show In64 3 by unfold In64; omega⟩
  have HM : Hid (∀ n : Nat, n ≤ 10 → n < maxLen) := Lib.hid fun n hn => by unfold maxLen; omega
  replace hE := hE.box w.heap.size rfl [.int .u64 7, .int .u64 8] 40
  have hr : InWords (w.alloc (.cells #[.int .u64 7, .int .u64 8] 40)) (some ⟨w.heap.size, 0, none⟩) [7, 8] := .inr ⟨w.heap.size, 0, rfl, by simp, fun i hi => by
    rw [Nat.zero_add, hE.rule 0 rfl i]
    simp at hi
    rcases i with _ | _ | i
    · rfl
    · rfl
    · omega⟩
  have cN := new_s (zs := [7, 8]) (cap := 2) (by decide) hE hr
  go_enter Try.func5, Try.ntmps5
  go_wp2_with fail
  refine cN.mono ?_
  clear cN hr
  rintro e w1 ⟨u, g, p, s, c, v, rfl, hE, hb⟩
  clear hb
  replace hE := hE.sub (.cons_cons _ (.cons_cons _ (.cons_cons _ (.cons_cons _ (.cons_cons _ (.cons_cons _ (.cons_cons _ (.cons _ (List.Sublist.refl _)))))))))
  go_wp2_with fail
  refine (placeOf_any 1 3 _).mono ?_
  rintro e w2 ⟨rfl, hb⟩
  replace hE := hE.over hb
  clear hb
  go_wp2_with fail
  refine (born_s 1 h1.out (by simp) 0 hE rfl rfl rfl).mono ?_
  rintro e w3 ⟨rfl, S3, hE⟩
  rw [show bornV [] 1 = 1 by decide]
  rw [show bornL [] 1 = [1] by decide] at hE
  simp only [List.set_cons_succ, List.set_cons_zero] at hE
  replace hE := hE.box w3.heap.size rfl [.int .i64 5, .int .i64 1, .int .i64 3, .int .i64 1] 46
  go_upto_region 3 with fail
  generalize w3.alloc _ = w4 at *
  generalize w3.heap.size = A at *
  have rA := hE.rule 0 rfl
  go_wp2_with fail
  refine (store_s 5 1 3 1 5 0 false HW.out (by unfold InU; omega) h0.out (HM.out 0 (by omega)) (HM.out 0 (by omega)) (by simp) 1 hE rfl rfl rfl rfl rfl rfl).mono ?_
  rintro e w5 ⟨rfl, mp5, F5, hE⟩
  rw [show faS [1] 5 1 1 false 0 = 0 by decide] at hE
  simp only [List.set_cons_succ, List.set_cons_zero] at hE
  clear rA
  have rA := hE.rule 0 rfl
  go_wp2_with fail
  refine (load_s 5 1 3 1 0 HW.out (by omega) (by simp) (by simp) 1 hE rfl rfl rfl rfl rfl rfl rfl).mono ?_
  rintro e w6 ⟨rfl, hE⟩
  rw [upd_same, upd_same, show stB [1] 5 1 1 = false by decide]
  rw [show stB [1] 5 1 1 = false by decide] at hE
  rw [show ldW [7, 8] false 0 5 = 5 from rfl, show ldI false 0 = 0 from rfl]
  simp only [List.set_cons_succ, List.set_cons_zero] at hE
  rw [show stN false 0 = 0 from rfl] at hE
  clear rA
  replace hE := hE.box w6.heap.size rfl [.int .u64 5, .int .i64 0, .bool false] 42
  go_upto_region 5 with fail
  generalize w6.alloc _ = w7 at *
  generalize w6.heap.size = U at *
  go_wp2_with fail
  refine (born_s 1 h1.out (by simp) 2 hE rfl rfl rfl).mono ?_
  rintro e w8 ⟨rfl, S8, hE⟩
  rw [show bornL [1] 1 = [1, 1] by decide] at hE
  simp only [List.set_cons_succ, List.set_cons_zero] at hE
  have hst : stB [1, 1] 5 1 1 = true := by decide
  have HST := Lib.hid hst
  clear hst
  have rA := hE.rule 1 rfl
  go_wp2_with fail
  refine (load_s 5 1 3 1 0 HW.out (by omega) (by simp) (by simp) 2 hE rfl rfl rfl rfl rfl rfl rfl).mono ?_
  rintro e w20 ⟨rfl, hE⟩
  rw [HST.out] at hE ⊢
  rw [show ∀ a, ldW [7, 8] true 0 a = 7 from fun _ => rfl, show ∀ a, ldI true a = 0 from fun _ => rfl]
  simp only [List.set_cons_succ, List.set_cons_zero] at hE
  rw [show stN true 0 = 1 from rfl] at hE
  clear rA
  replace hE := hE.box w20.heap.size rfl [.int .u64 7, .int .i64 0, .bool true] 42
  go_upto_region 7 with fail
  generalize w20.alloc _ = v0 at *
  generalize w20.heap.size = Y0 at *
  have rA := hE.rule 2 rfl
  go_wp2_with fail
  refine (load_s 5 1 3 1 1 HW.out (by omega) (by simp) (by simp) 3 hE rfl rfl rfl rfl rfl rfl rfl).mono ?_
  rintro e w21 ⟨rfl, hE⟩
  rw [HST.out] at hE ⊢
  rw [show ∀ a, ldW [7, 8] true 1 a = 8 from fun _ => rfl, show ∀ a, ldI true a = 0 from fun _ => rfl]
  simp only [List.set_cons_succ, List.set_cons_zero] at hE
  rw [show stN true 1 = 2 from rfl] at hE
  clear rA
  replace hE := hE.box w21.heap.size rfl [.int .u64 8, .int .i64 0, .bool true] 42
  go_upto_region 8 with fail
  generalize w21.alloc _ = v1 at *
  generalize w21.heap.size = Y1 at *
  have rA := hE.rule 3 rfl
  go_wp2_with fail
  refine (load_s 5 1 3 1 2 HW.out (by omega) (by simp) (by simp) 4 hE rfl rfl rfl rfl rfl rfl rfl).mono ?_
  rintro e w22 ⟨rfl, hE⟩
  rw [HST.out] at hE ⊢
  rw [show ∀ a, ldW [7, 8] true 2 a = 7 from fun _ => rfl, show ∀ a, ldI true a = 0 from fun _ => rfl]
  simp only [List.set_cons_succ, List.set_cons_zero] at hE
  rw [show stN true 2 = 3 from rfl] at hE
  clear rA
  replace hE := hE.box w22.heap.size rfl [.int .u64 7, .int .i64 0, .bool true] 42
  go_upto_region 9 with fail
  generalize w22.alloc _ = v2 at *
  generalize w22.heap.size = Y2 at *
  have rA := hE.rule 4 rfl
  have rU := hE.rule 3 rfl
  have rX := hE.rule 2 rfl
  have rY := hE.rule 1 rfl
  have rZ := hE.rule 0 rfl
  go_wp2_with fail
  refine (told_s (hE.sblk 5 rfl) (hE.gblk 7 rfl)).mono ?_
  rintro e w12 ⟨rfl, rfl⟩
  go_wp2_with fail
  refine (faults_s (hE.sblk 5 rfl) (hE.gblk 7 rfl)).mono ?_
  rintro e w13 ⟨rfl, rfl⟩
  go_wp2_with fail
  refine (peek_s 5 1 3 HW.out 5 hE rfl rfl rfl rfl).mono ?_
  rintro e w16 ⟨rfl, hb⟩
  rw [upd_same]
  replace hE := hE.over hb
  go_wp2
  go_ret
  exact ⟨rfl, hE.below⟩
end Go.Proofs.Ythiccboecimfjaa

/- A struct by value whose fields are numbers and bools, of however many fields: opened. -/
namespace Go.Proofs.Ythiccboecimfjaa
open Go.RowKit Go.WideShapes Go.ChangeShapes Go.ChangeAt Go.Deep
set_option maxRecDepth 100000

inductive Sca | num (k : IntKind) | boo
/-- A field's type is of that form; a value is. -/
def Sca.fits (P : Program) (t : TypeId) : Sca → Prop
  | .num k => P.underlying t = some (.int k)
  | .boo => P.underlying t = some .bool
def Sca.ok (v : Value) : Sca → Prop
  | .num k => ∃ n, v = .int k n ∧ (Lit.int k n).wf = true
  | .boo => ∃ b, v = .bool b
def FitAll (P : Program) : List Field → List Sca → Prop
  | [], [] => True
  | f :: fs, s :: ss => s.fits P f.type ∧ FitAll P fs ss
  | _, _ => False
theorem FitAll.length {P : Program} : ∀ {fs : List Field} {ss : List Sca}, FitAll P fs ss → fs.length = ss.length
  | [], [], _ => rfl
  | _ :: _, _ :: _, h => by simp [FitAll.length h.2]
theorem FitAll.get {P : Program} : ∀ {fs : List Field} {ss : List Sca}, FitAll P fs ss → ∀ {i : Nat} {s : Sca}, ss[i]? = some s → ∃ f, fs[i]? = some f ∧ s.fits P f.type := by
  intro fs
  induction fs with
  | nil =>
    intro ss h i s e
    cases ss with
    | nil => simp at e
    | cons x ss => exact absurd h (by simp [FitAll])
  | cons f fs ih =>
    intro ss h i s e
    cases ss with
    | nil => exact absurd h (by simp [FitAll])
    | cons x ss =>
      cases i with
      | zero =>
        simp at e
        subst e
        exact ⟨f, rfl, h.1⟩
      | succ i =>
        obtain ⟨f', hf, hs⟩ := ih h.2 (i := i) (by simpa using e)
        exact ⟨f', by simpa using hf, hs⟩

section
variable {H : Type} {enc : TypeId × Value → H} {P : Program} {w : World} {base : Nat} {spare : Nat → Bool} {held : Bool}
theorem open_flat {r : Reach} {b0 : Nat} {t : TypeId} {fs : Array Field} {ss : List Sca} {v : Value} {d : DataW H} {p : List MemPlace} (hs : P.underlying t = some (.struct fs)) (hone : oneCellFields P fs = true) (hC : P.cellsOf t = ss.length) (hfit : FitAll P fs.toList ss)
    (hv : Value.okWide P w r b0 t v) (h : DataW.Trod enc P w base spare held t v d p) :
    ∃ cs : Array Value, v = .agg cs ∧ cs.size = ss.length ∧ ∀ (i : Nat) (s : Sca), ss[i]? = some s → ∃ x, cs[i]? = some x ∧ s.ok x := by
  obtain ⟨cs, rfl, hsz⟩ := okWide_struct hs hv
  obtain ⟨fuel, hf⟩ := h
  obtain ⟨xs, n, -, -, hl, hlen, hall⟩ := DataW.trod_struct hs hf
  refine ⟨cs, rfl, hsz.trans hC, fun i s e => ?_⟩
  obtain ⟨f, hfi, hfs⟩ := hfit.get e
  have hfi' : fs[i]? = some f := by simpa using hfi
  obtain ⟨o, k⟩ := hone_of hone i f hfi'
  have hi : i < cs.size := by
    have : i < ss.length := by
      rcases Nat.lt_or_ge i ss.length with hh | hh
      · exact hh
      · rw [List.getElem?_eq_none hh] at e; cases e
    omega
  have hx : xs[i]? ≠ none := by
    have := (Array.getElem?_eq_some_iff.1 hfi').1
    rw [List.getElem?_eq_getElem (by omega)]
    simp
  have ht := hall i f hfi'
  have hcell : ((Value.agg cs).cells.toList.drop f.offset).take (P.cellsOf f.type) = [cs[i]] := by
    rw [o, k]
    show (cs.toList.drop i).take 1 = _
    have hi' : i < cs.toList.length := by simpa using hi
    rw [List.drop_eq_getElem_cons hi']
    simp
  rw [hcell] at ht
  obtain ⟨y, hy⟩ := Option.ne_none_iff_exists'.1 hx
  rw [hy] at ht
  refine ⟨cs[i], by simp [hi], ?_⟩
  cases s with
  | num k =>
    obtain ⟨n, e1, -, wf⟩ := DataW.trod_int hfs ht
    exact ⟨n, by simpa using e1, wf⟩
  | boo =>
    obtain ⟨b, e1, -⟩ := DataW.trod_bool hfs ht
    exact ⟨b, by simpa using e1⟩
end
theorem list_of {α : Type} {cs : Array α} {n : Nat} (h : cs.size = n) : ∃ l : List α, cs = l.toArray ∧ l.length = n := ⟨cs.toList, rfl, by simpa using h⟩
theorem list2 {α : Type} {l : List α} (h : l.length = 2) : ∃ a b, l = [a, b] := by
  match l, h with
  | [a, b], _ => exact ⟨a, b, rfl⟩
theorem list3 {α : Type} {l : List α} (h : l.length = 3) : ∃ a b c, l = [a, b, c] := by
  match l, h with
  | [a, b, c], _ => exact ⟨a, b, c, rfl⟩
theorem list4 {α : Type} {l : List α} (h : l.length = 4) : ∃ a b c d, l = [a, b, c, d] := by
  match l, h with
  | [a, b, c, d], _ => exact ⟨a, b, c, d, rfl⟩
theorem list5 {α : Type} {l : List α} (h : l.length = 5) : ∃ a b c d e, l = [a, b, c, d, e] := by
  match l, h with
  | [a, b, c, d, e], _ => exact ⟨a, b, c, d, e, rfl⟩
theorem list6 {α : Type} {l : List α} (h : l.length = 6) : ∃ a b c d e f, l = [a, b, c, d, e, f] := by
  match l, h with
  | [a, b, c, d, e, f], _ => exact ⟨a, b, c, d, e, f, rfl⟩
end Go.Proofs.Ythiccboecimfjaa
