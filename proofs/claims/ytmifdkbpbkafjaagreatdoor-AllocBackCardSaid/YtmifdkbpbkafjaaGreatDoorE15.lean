/- AllocBack: what a thread retired comes back to it, by one of its next Allocs that are Done, as many as there are slots, wherever all others stopped: so the law answers true, for every input, where package link's three variables hold what the program's text lays in them (tied). -/
import Derived.Test.YtmifdkbpbkafjaaGreatDoorE14
import Derived.LoopN
import Derived.Test.YtmifdkbpbkafjaaGreatDoorTie
import Derived.LaidMore
import Derived.Stop.Joined
import Derived.WalkKit
import Derived.ProofKit
import Derived.OpenShut
import Derived.Deep.SlicePairs
import Derived.Test.YtmifdkbpbkafjaaGreatDoorCards
import Derived.SevenTiedAt

/- Threads: what is asked of all ahead of who goes on alone; another row of deeds. -/
namespace Go.Proofs.YtmifdkbpbkafjaaGreatDoor
open Go.RowKit Go.Maps
set_option maxRecDepth 100000

/-- Who is retiring holds nothing. -/
def R3 (T : Th) : Prop := T.pc = 3 → T.hs = 0
theorem begin_r3 : ∀ (r : List Dd) (T : Th), T.pc = 0 → R3 (beginM r T).2
  | [], T, hp => fun h => by have h : T.pc = 3 := h; omega
  | d :: r, T, hp => by
    unfold beginM
    split
    · split
      · exact fun h => no h rfl
      · exact begin_r3 r { T with nd := T.nd + 1 } hp
    · split
      · split
        · exact begin_r3 r { T with nd := T.nd + 1 } hp
        · exact fun _ => rfl
      · split
        · exact fun h => no h rfl
        · split
          · split
            · exact begin_r3 r { T with nd := T.nd + 1 } hp
            · exact begin_r3 r { T with nd := T.nd + 1, ql := T.ql ++ [(T.hs, 0, 0)], hs := 0 } hp
          · exact begin_r3 r { T with nd := T.nd + 1 } hp
section
variable {C : Cf} {ds : List Dd} {B : Nat} {T : Th} {f : Mem} {d : Dd}
theorem act_r3 (h3 : R3 T) : R3 (actM C d T f).1 := by
  unfold actM
  split
  · intro h
    exfalso
    dsimp only at h
    split at h <;> omega
  · split
    · intro h
      exfalso
      dsimp only at h
      split at h
      · omega
      · split at h <;> omega
    · split
      · rename_i hp
        intro _
        have hh : (retireM T f).2.1.hs = T.hs := by unfold retireM; split <;> rfl
        show (retireM T f).2.1.hs = 0
        rw [hh]
        exact h3 hp
      · intro h
        exfalso
        dsimp only at h
        split at h <;> omega
theorem step_r3 (hT : OkT C ds B T) (h3 : R3 T) : R3 (stepM C ds T f).1 := by
  unfold stepM
  by_cases hp : T.pc = 0
  · rw [if_pos hp]
    have hb := begin_r3 (ds.drop T.nd) T hp
    dsimp only
    split
    · exact act_r3 hb
    · exact hb
  · rw [if_neg hp]
    exact act_r3 h3
end
structure Bq (S : GS) (j : Nat) : Prop where
  (mem : RMem (getL S.ml))
  (thr : ∀ (i : Nat) (q : Pk), S.ps[i]? = some q → RT (getL S.ml) q.T ∧ TEp q.T ∧ R3 q.T)
  (ep : getL S.ml (1, 0, 0) ≤ 1 + (j : Int))
theorem Bq.step {C : Cf} {S S' : GS} {rs : List Rw} {B j i : Nat} {q q' : Pk} (h : Bq S j) (hS : GOk C rs B S) (hi : i < rs.length) (hq : S.ps[i]? = some q)
    (hps : S'.ps = S.ps.set i q') (hT' : q'.T = (stepM C (rs.getD i default).ds q.T (getL S.ml)).1) (hml : getL S'.ml = (stepM C (rs.getD i default).ds q.T (getL S.ml)).2) : Bq S' (j + 1) := by
  obtain ⟨q0, hq0, hQ⟩ := hS.ps i hi
  obtain rfl : q0 = q := by rw [hq] at hq0; exact (Option.some.inj hq0).symm
  obtain ⟨hR, hE, h3⟩ := h.thr i q0 hq
  obtain ⟨g1, g2⟩ := step_rb hS.f hQ.t h.mem hR
  obtain ⟨e1, e2, -⟩ := step_ep (f := getL S.ml) (C := C) hQ.t hE
  have hil : i < S.ps.length := (List.getElem?_eq_some_iff.1 hq).1
  have hep := h.ep
  refine ⟨by rw [hml]; exact g1, fun k q2 hk => ?_, ?_⟩
  · rw [hps] at hk
    by_cases he : i = k
    · subst he
      simp [hil] at hk
      subst hk
      rw [hml, hT']
      exact ⟨g2, e1, step_r3 hQ.t h3⟩
    · rw [List.getElem?_set_ne he] at hk
      rw [hml]
      refine ⟨(h.thr k q2 hk).1.over ?_, (h.thr k q2 hk).2⟩
      rcases e2 with e | e <;> omega
  · rw [hml]
    rcases e2 with e | e <;> omega
theorem Bq.start {S : GS} {rs : List Rw} (hml : S.ml = ml0) (hlen : S.ps.length = rs.length) (hps : ∀ i, i < rs.length → ∃ q, S.ps[i]? = some q ∧ New0 q (rs.getD i default)) : Bq S 0 := by
  have hg : ∀ x, getL S.ml x = if x = (1, 0, 0) then 1 else 0 := fun x => by
    rw [hml]
    show getL [((1, 0, 0), 1)] x = _
    simp only [getL]
    by_cases hx : x = (1, 0, 0)
    · rw [if_pos hx.symm, if_pos hx]
    · rw [if_neg (fun e => hx e.symm), if_neg hx]
  refine ⟨fun i => ?_, fun i q hi => ?_, ?_⟩
  · rw [hg, hg, if_neg (by simp), if_pos rfl]
    decide
  · have hil : i < rs.length := by rw [← hlen]; exact (List.getElem?_eq_some_iff.1 hi).1
    obtain ⟨q9, h1, h2⟩ := hps i hil
    rw [hi] at h1
    obtain rfl := Option.some.inj h1
    rw [h2.2.2.1]
    exact ⟨⟨fun x hx => (by cases hx), fun h => no h rfl, fun h => no h rfl⟩, fun h => no h rfl, fun h => no h rfl⟩
  · rw [hg, if_pos rfl]
    omega
/-- What is laid behind the deeds that were begun. -/
def moreL : Nat → List Dd
  | 0 => []
  | i + 1 => moreL i ++ [⟨4, 0, 0, 0, 0⟩, ⟨1, 1, 0, 0, 0⟩]
theorem moreL_len : ∀ i, (moreL i).length = 2 * i
  | 0 => rfl
  | i + 1 => by simp [moreL, moreL_len i]; omega
theorem moreL_at : ∀ (k i : Nat), i < k → ((moreL k).getD (2 * i) default).kind = 4 ∧ ((moreL k).getD (2 * i + 1) default).kind = 1
  | k + 1, i, h => by
    have hl := moreL_len k
    by_cases hik : i < k
    · obtain ⟨h1, h2⟩ := moreL_at k i hik
      rw [List.getD_eq_getElem?_getD] at h1 h2 ⊢
      rw [List.getD_eq_getElem?_getD]
      unfold moreL
      rw [List.getElem?_append_left (by omega), List.getElem?_append_left (by omega)]
      exact ⟨h1, h2⟩
    · have : i = k := by omega
      subst this
      rw [List.getD_eq_getElem?_getD, List.getD_eq_getElem?_getD]
      unfold moreL
      rw [List.getElem?_append_right (by omega), List.getElem?_append_right (by omega), hl]
      rw [show 2 * i - 2 * i = 0 by omega, show 2 * i + 1 - 2 * i = 1 by omega]
      exact ⟨rfl, rfl⟩
theorem moreL_in : ∀ (k : Nat), ∀ d ∈ moreL k, InU d.key ∧ InU d.val
  | 0, d, h => by cases h
  | k + 1, d, h => by
    unfold moreL at h
    rcases List.mem_append.1 h with h | h
    · exact moreL_in k d h
    · simp at h
      rcases h with rfl | rfl <;> (unfold InU; exact ⟨by decide, by decide⟩)
theorem alt_of {ds : List Dd} {n k : Nat} (hn : n ≤ ds.length) : Alt (ds.take n ++ moreL k) n k := by
  have hl := moreL_len k
  have ht : (ds.take n).length = n := by rw [List.length_take]; omega
  refine ⟨by rw [List.length_append, ht, hl], fun i hi => ?_⟩
  have := moreL_at k i hi
  rw [List.getD_eq_getElem?_getD, List.getD_eq_getElem?_getD] at this ⊢
  rw [List.getElem?_append_right (by omega), List.getElem?_append_right (by omega), ht]
  rw [show n + 2 * i - n = 2 * i by omega, show n + 2 * i + 1 - n = 2 * i + 1 by omega]
  exact this
section
variable {C : Cf} {ds ds' : List Dd} {B B' : Nat} {T : Th}
theorem OkT.le (h : OkT C ds B T) (hB : B ≤ B') : OkT C ds B' T :=
  { h with len := by have := h.len; omega, done := by have := h.done; constructor <;> omega }
/-- The same thread with another row of deeds. -/
theorem OkT.other (h : OkT C ds B T) (hB : B + ds'.length ≤ B') (hn : T.nd ≤ ds'.length) : OkT C ds' B' T :=
  { h with nd := hn, len := by have := h.len; omega, done := by have := h.done; constructor <;> omega }
end
theorem OkP.le {C : Cf} {B B' : Nat} {q : Pk} {r : Rw} (h : OkP C B q r) (hB : B ≤ B') : OkP C B' q r := { h with t := h.t.le hB }
/-- Where nothing hangs on a deed, a thread may have another row. -/
theorem GOk.other {C : Cf} {rs : List Rw} {B i : Nat} {S : GS} {q : Pk} (h : GOk C rs B S) (hi : i < rs.length) (hq : S.ps[i]? = some q) (hp : q.T.pc ≠ 2) (r' : Rw) (hn : q.T.nd ≤ r'.ds.length) (hl : r'.ds.length ≤ 1000) :
    GOk C (rs.set i r') (B + 1000) { S with ps := S.ps.set i ⟨{ q.X with dA := r'.A, dn := r'.ds.length, dc := r'.cap }, q.T, q.ms⟩ } := by
  refine ⟨h.f, by have := h.n; show S.n ≤ B + 1000; omega, by have := h.ml; show S.ml.length ≤ B + 1000; omega, by simp [h.len], fun k hk => ?_⟩
  rw [List.length_set] at hk
  by_cases hki : k = i
  · subst hki
    obtain ⟨q0, hq0, hQ⟩ := h.ps k hi
    obtain rfl : q0 = q := by rw [hq] at hq0; exact (Option.some.inj hq0).symm
    have hil : k < S.ps.length := (List.getElem?_eq_some_iff.1 hq).1
    refine ⟨⟨{ q0.X with dA := r'.A, dn := r'.ds.length, dc := r'.cap }, q0.T, q0.ms⟩, by simp [hil], ?_⟩
    have hr : (rs.set k r').getD k default = r' := by simp [List.getD_eq_getElem?_getD, hi]
    rw [hr]
    refine ⟨hQ.t.other (by omega) hn, ?_, rfl, rfl, hQ.N⟩
    have hm := hQ.m
    unfold Mach at hm ⊢
    rw [if_neg hp] at hm ⊢
    exact hm
  · obtain ⟨q9, h1, h2⟩ := h.ps k hk
    have hr : (rs.set i r').getD k default = rs.getD k default := by
      rw [List.getD_eq_getElem?_getD, List.getD_eq_getElem?_getD, List.getElem?_set_ne (fun e => hki e.symm)]
    refine ⟨q9, by show (S.ps.set i _)[k]? = _; rw [List.getElem?_set_ne (fun e => hki e.symm)]; exact h1, ?_⟩
    rw [hr]
    exact h2.le (by omega)
/-- Who has something queued, and isn't coming to a slot, or giving, goes on alone from there. -/
theorem bk_start {C : Cf} {f : Mem} {T : Th} {k m0 : Nat} {last y z : Int} {A : List Trip} (hC : COk C) (hl : C.l = 1048576) (hF : OkF C f) (hR : RT f T) (hep : f (1, 0, 0) ≤ 1000) (hq : T.ql = A ++ [(last, y, z)]) (hm : m0 = A.length) (hk : A.length + 1 ≤ k)
    (hpc : T.pc = 0 ∨ T.pc = 1 ∨ T.pc = 3) (hrp : T.pc = 3 → T.rpc = 0 ∨ T.rpc = 1) (h1 : T.pc = 1 → T.hs = 0) (h3 : T.pc = 3 → T.hs = 0) (hm40 : A.length ≤ 1000) : Bk C T.nd k m0 T.done last (10 * A.length + 6) f T := by
  refine ⟨A, y, z, [], 0, hq, hR.ql, by omega, rfl, by omega, by omega, ?_⟩
  rcases hpc with h | h | h
  · exact .inl ⟨h, fun h9 => by omega, by omega, by omega, fun _ => by omega⟩
  · exact .inr (.inr (.inl ⟨h, h1 h, rfl, by omega, .inl (by omega)⟩))
  · refine .inr (.inl ⟨h, h3 h, by omega, ?_⟩)
    rcases hrp h with h9 | h9
    · exact .inl ⟨h9, by omega⟩
    · exact .inr ⟨h9, hR.re h h9, by omega⟩
theorem RowX.take {α : Type} [Inhabited α] {enc : α → List Value} {k : Nat} {w : World} {A : Option Addr} {l : List α} (h : RowX enc k w A l) (n : Nat) : RowX enc k w A (l.take n) := by
  rcases h with h | ⟨b, off, hA, hl, hc⟩
  · exact .inl (by rw [h]; simp)
  · refine .inr ⟨b, off, hA, hl, fun i hi => ?_⟩
    rw [List.length_take] at hi
    have := hc i (by omega)
    rw [List.getD_eq_getElem?_getD] at this ⊢
    rw [List.getElem?_take_of_lt (by omega)]
    exact this
theorem RowX.none {α : Type} [Inhabited α] {enc : α → List Value} {k : Nat} {w : World} {A : Option Addr} {l : List α} (h : RowX enc k w A l) (hA : A = .none) : l = [] := by
  rcases h with h | ⟨b, off, hA', -⟩
  · exact h
  · rw [hA] at hA'; cases hA'
/-- A thread is given another row of deeds. -/
theorem Env.deeds {w0 w : World} {C : Cf} {sl : Value} {p cc m i : Nat} {S : GS} {L : List Item} {q : Pk} (h : Env w0 (EL C sl p cc m S L) w) (hq : S.ps[i]? = some q) (A : Option Addr) (n c : Nat) :
    Env w0 (EL C sl p cc m { S with ps := S.ps.set i ⟨{ q.X with dA := A, dn := n, dc := c }, q.T, q.ms⟩ } L) (w.setCell ⟨q.X.thr, 2, none⟩ (.slice A n c)) := by
  have hil : i < S.ps.length := (List.getElem?_eq_some_iff.1 hq).1
  have hq2 : (S.ps.set i ⟨{ q.X with dA := A, dn := n, dc := c }, q.T, q.ms⟩)[i]? = some ⟨{ q.X with dA := A, dn := n, dc := c }, q.T, q.ms⟩ := by simp [hil]
  have hmap : (S.ps.set i ⟨{ q.X with dA := A, dn := n, dc := c }, q.T, q.ms⟩).map (fun q => q.X.thr) = S.ps.map fun q => q.X.thr := by
    apply List.ext_getElem?
    intro k
    simp only [List.getElem?_map]
    by_cases hk : k = i
    · subst hk
      rw [hq2, hq]
      rfl
    · rw [List.getElem?_set_ne (fun e => hk e.symm)]
  refine Env.toE (i := i) (q := ⟨{ q.X with dA := A, dn := n, dc := c }, q.T, q.ms⟩) ?_ hq2
  show Env w0 (LT _ (LU _ (_ :: (q.ms ++ (tpsI sl ((S.ps.set i ⟨{ q.X with dA := A, dn := n, dc := c }, q.T, q.ms⟩).map fun q => q.X.thr) :: (((S.ps.set i ⟨{ q.X with dA := A, dn := n, dc := c }, q.T, q.ms⟩).eraseIdx i).flatMap (Pk.its C) ++ L)))))) _
  rw [hmap, List.eraseIdx_set_eq]
  exact (h.toT hq).put 7 rfl (j := 2) (by simp [thv]) (.slice A n c)
theorem DsAt.of_own {w0 w : World} {L : List Item} {A : Option Addr} {n c : Nat} {e : TypeId} {ds : List Dd} (hl : ∀ x : Dd, (encD x).length = 5) (hn : n = ds.length) (hm : rowKI encD 5 (.slice A n c) e ds ∈ L) (hx : RowX encD 5 w A ds) : DsAt w0 L A ds := by
  rcases hx with h | ⟨b, off, hA, -, -⟩
  · exact .inl h
  · refine .inr ⟨b, off, hA, fun i hi v hv => ?_⟩
    subst hn
    have ho : v.ownsRow 0 e 5 (.slice A ds.length c) ds.length (flatK encD ds) := (hv.2 _ hm).1
    rcases owns_rowK hl ho with h | ⟨b', off', hA', -, hc⟩
    · rw [h] at hi; simp at hi
    · rw [hA] at hA'
      cases hA'
      exact hc i hi
end Go.Proofs.YtmifdkbpbkafjaaGreatDoor

/- The contract of small: at most 40 slots. -/
namespace Go.Proofs.YtmifdkbpbkafjaaGreatDoor
open Go.RowKit Go.Maps
set_option maxRecDepth 100000

def smI (s : Int) : Int := wrap64 (1 + wrap64 ((IntKind.u64.wrap s).tmod 40))
theorem smI_in (s : Int) : 1 ≤ smI s ∧ smI s ≤ 40 := by
  obtain ⟨r, h1, h2, h3⟩ := cut_u1 s 40 (by decide) (by decide)
  unfold smI
  rw [h1]
  exact ⟨h2, h3⟩
set_option maxHeartbeats 1600000 in
theorem small_t (k s b h l : Int) (w : World) : Calls Tryz.prog 17 #[.agg #[.int .i64 k, .int .i64 s, .int .i64 b, .int .i64 h, .int .i64 l]] w fun o w' => o = .returned (.agg #[.int .i64 k, .int .i64 (smI s), .int .i64 b, .int .i64 h, .int .i64 l]) ∧ Below w.heap.size w w' := by
  have hE := (Env.start w).box w.heap.size rfl [.int .i64 k, .int .i64 s, .int .i64 b, .int .i64 h, .int .i64 l] 23
  have hE2 := hE.box (w.heap.size + 1) (by simp) [.int .i64 0, .int .i64 0, .int .i64 0, .int .i64 0, .int .i64 0] 23
  have r0 := hE2.rule 1 rfl
  have f0 := hE2.thaw 1 rfl 1 (by simp)
  go_enter Tryz.func17, Tryz.ntmps17
  go_wp2_with fail
  exact bodyPost_ret (v := .agg #[.int .i64 k, .int .i64 (smI s), .int .i64 b, .int .i64 h, .int .i64 l]) (by simp [results, Tryz.results17, go_sem, smI]) rfl ⟨rfl, ((Below.refl _ _).alloc (Nat.le_refl _) _).alloc (by simp) _⟩
end Go.Proofs.YtmifdkbpbkafjaaGreatDoor

/- Whatever comes to numbers, bools, structs and rows of such: what its cells hold, rows within rows too. General. -/
namespace Go.Proofs.YtmifdkbpbkafjaaGreatDoor
open Go.RowKit Go.WideShapes Go.ChangeShapes Go.ChangeAt Go.Deep
set_option maxRecDepth 100000

/-- Types that this reads. -/
def plainT (P : Program) : Nat → TypeId → Bool
  | 0, _ => false
  | d + 1, t =>
    match P.underlying t with
    | some .bool => true
    | some (.int _) => true
    | some (.struct fs) => fs.toList.all fun f => plainT P d f.type
    | some (.slice e) => plainT P d e && decide (0 < P.cellsOf e)
    | _ => false
/-- The cells cs are a value of type t, and so is whatever they lead to. -/
def Good (P : Program) (w : World) : Nat → TypeId → List Value → Prop
  | 0, _, _ => False
  | d + 1, t, cs =>
    match P.underlying t with
    | some .bool => ∃ b, cs = [.bool b]
    | some (.int k) => ∃ n, cs = [.int k n] ∧ (Lit.int k n).wf = true
    | some (.struct fs) => cs.length = P.cellsOf t ∧ ∀ f ∈ fs.toList, Good P w d f.type ((cs.drop f.offset).take (P.cellsOf f.type))
    | some (.slice e) => ∃ A len cap, cs = [.slice A len cap] ∧ len ≤ maxLen ∧ len ≤ cap ∧ (len = 0 ∨ ∃ b off, A = some ⟨b, off, none⟩ ∧ b < w.heap.size ∧ ∀ i, i < len → ∃ us : List Value, us.length = P.cellsOf e ∧ CellsAt w b (off + i * P.cellsOf e) us ∧ Good P w d e us)
    | _ => False

section
variable {H : Type} {enc : TypeId × Value → H} {P : Program} {w : World} {held : Bool}
theorem good_of_trod : ∀ (d : Nat) {t : TypeId} {fuel : Nat} {cs : List Value} {x : DataW H × List MemPlace}, plainT P d t = true → DataW.trod enc P w 0 (fun _ => true) held fuel t cs = some x → (∀ p ∈ x.2, p.block < w.heap.size) → Good P w d t cs
  | 0, _, _, _, _, h, _, _ => by simp [plainT] at h
  | d + 1, t, fuel, cs, x, h, hx, hlt => by
    unfold plainT at h
    unfold Good
    split at h
    · rename_i hu
      obtain ⟨b, rfl, _⟩ := DataW.trod_bool hu hx
      try rw [hu]
      exact ⟨b, rfl⟩
    · rename_i k hu
      obtain ⟨n, rfl, _, hw⟩ := DataW.trod_int hu hx
      try rw [hu]
      exact ⟨n, rfl, hw⟩
    · rename_i fs hu
      obtain ⟨xs, n, _, rfl, hl, hlen, hall⟩ := DataW.trod_struct hu hx
      try rw [hu]
      refine ⟨hl, fun f hf => ?_⟩
      obtain ⟨i, hi, he⟩ := List.getElem_of_mem hf
      have hi' : i < fs.size := by simpa using hi
      have h1 := hall i f (by simp [hi']; simpa using he)
      have hix : i < xs.length := by omega
      rw [List.getElem?_eq_getElem hix] at h1
      exact good_of_trod d (List.all_eq_true.1 h f hf) h1 fun p hp => hlt p (List.mem_flatMap.2 ⟨xs[i], List.getElem_mem hix, hp⟩)
    · rename_i e hu
      rw [Bool.and_eq_true, decide_eq_true_iff] at h
      obtain ⟨h1, h0⟩ := h
      try rw [hu]
      rcases open_slice hu hx with ⟨rfl, _⟩ | ⟨a, len, cap, m, n, D, Pl, rfl, _, hl, hm, hmm, rfl, hall⟩
      · exact ⟨none, 0, 0, rfl, Nat.zero_le _, Nat.le_refl _, .inl rfl⟩
      · simp only [if_true] at hmm
        subst hmm
        refine ⟨some a, len, m, rfl, by omega, by omega, ?_⟩
        by_cases hz : len = 0
        · exact .inl hz
        · right
          have each : ∀ i, i < m → ∃ us : List Value, us.length = P.cellsOf e ∧ (∀ j v, us[j]? = some v → w.cell? (a.add (i * P.cellsOf e + j)) = some v) ∧ Good P w d e us := fun i hi => by
            obtain ⟨cs', h2, h3⟩ := hall i hi
            obtain ⟨_, hlen, hcell⟩ := World.cells?_some h2
            refine ⟨cs', hlen, fun j v hj => ?_, good_of_trod d h1 h3 fun p hp => hlt p (List.mem_append_right _ (List.mem_flatMap.2 ⟨i, by simpa using hi, hp⟩))⟩
            have hjl : j < P.cellsOf e := by have := (List.getElem?_eq_some_iff.1 hj).1; omega
            have := hcell j hjl
            rw [add_add, hj] at this
            exact this
          obtain ⟨b, off, spot⟩ := a
          have hspot : spot = none := by
            obtain ⟨us, hl', hc, _⟩ := each 0 (by omega)
            have := hc 0 (us[0]'(by omega)) (by simp)
            simpa [Addr.add] using World.cell?_spot this
          subst hspot
          refine ⟨b, off, rfl, hlt (.cell b off) (List.mem_append_left _ (MemPlace.mem_row.2 ⟨0, Nat.mul_pos (by omega) h0, by simp⟩)), fun i hi => ?_⟩
          obtain ⟨us, h4, h5, h6⟩ := each i (by omega)
          refine ⟨us, h4, fun j v hj => ?_, h6⟩
          have := h5 j v hj
          rw [add_plain] at this
          rw [Nat.add_assoc]; exact this
    · cases h
end

/-- A row within: its elements, decoded. -/
theorem Good.rowC {α : Type} [Inhabited α] {enc : α → List Value} {Ok : α → Prop} {P : Program} {w : World} {t e : TypeId} {d : Nat} {cs : List Value} (ht : P.underlying t = some (.slice e)) (h : Good P w (d + 1) t cs)
    (hdec : ∀ us, us.length = P.cellsOf e → Good P w d e us → ∃ r : α, enc r = us ∧ Ok r) :
    ∃ A cap, ∃ xs : List α, cs = [.slice A xs.length cap] ∧ xs.length ≤ maxLen ∧ xs.length ≤ cap ∧ (∀ r ∈ xs, Ok r) ∧ RowX enc (P.cellsOf e) w A xs := by
  unfold Good at h
  rw [ht] at h
  obtain ⟨A, len, cap, rfl, hm, hcap, hz | ⟨b, off, rfl, hb, hall⟩⟩ := h
  · subst hz
    exact ⟨A, cap, [], rfl, hm, Nat.zero_le _, by simp, .inl rfl⟩
  · have each : ∀ i, i < len → ∃ r : α, CellsAt w b (off + i * P.cellsOf e) (enc r) ∧ Ok r := fun i hi => by
      obtain ⟨us, h1, h2, h3⟩ := hall i hi
      obtain ⟨r, rfl, hr⟩ := hdec us h1 h3
      exact ⟨r, h2, hr⟩
    obtain ⟨f, hf⟩ := choose_lt each
    refine ⟨some ⟨b, off, none⟩, cap, (List.range len).map f, by simp, by simpa using hm, by simpa using hcap, fun r hr => ?_, ?_⟩
    · obtain ⟨i, hi, rfl⟩ := List.mem_map.1 hr
      exact (hf i (by simpa using hi)).2
    · refine .inr ⟨b, off, rfl, hb, fun i hi => ?_⟩
      have hi' : i < len := by simpa using hi
      have e : ((List.range len).map f).getD i default = f i := by simp [hi']
      rw [e]
      exact (hf i hi').1
theorem Good.row {α : Type} [Inhabited α] {enc : α → List Value} {Ok : α → Prop} {P : Program} {w : World} {t e : TypeId} {d : Nat} {cs : List Value} (ht : P.underlying t = some (.slice e)) (h : Good P w (d + 1) t cs)
    (hdec : ∀ us, us.length = P.cellsOf e → Good P w d e us → ∃ r : α, enc r = us ∧ Ok r) :
    ∃ A cap, ∃ xs : List α, cs = [.slice A xs.length cap] ∧ xs.length ≤ maxLen ∧ (∀ r ∈ xs, Ok r) ∧ RowX enc (P.cellsOf e) w A xs := by
  obtain ⟨A, cap, xs, h1, h2, -, h3, h4⟩ := h.rowC ht hdec
  exact ⟨A, cap, xs, h1, h2, h3, h4⟩
/-- A row that came in, whatever its elements lead to. -/
theorem open_rowG {α : Type} [Inhabited α] {enc : α → List Value} {Ok : α → Prop} {P : Program} {H : Type} {en : TypeId × Value → H} {W : World} {t e : TypeId} {d : Nat} {A : Option Addr} {len cap : Nat} {dt : DataW H} {p : List MemPlace}
    (ht : P.underlying t = some (.slice e)) (hpl : plainT P (d + 1) t = true)
    (hdec : ∀ us, us.length = P.cellsOf e → Good P W d e us → ∃ r : α, enc r = us ∧ Ok r)
    (h : DataW.Trod en P W 0 (fun _ => true) true t (.slice A len cap) dt p) (hlt : ∀ x ∈ p, x.block < W.heap.size) :
    ∃ xs : List α, xs.length = len ∧ len ≤ maxLen ∧ (∀ r ∈ xs, Ok r) ∧ RowX enc (P.cellsOf e) W A xs := by
  obtain ⟨fuel, hf⟩ := h
  have hg := good_of_trod (d + 1) hpl hf hlt
  obtain ⟨A', cap', xs, he, h1, h2, h3⟩ := hg.row ht hdec
  simp only [Value.cells, List.cons.injEq, Value.slice.injEq, and_true] at he
  obtain ⟨rfl, rfl, rfl⟩ := he
  exact ⟨xs, rfl, h1, h2, h3⟩
/-- A number, a bool within. -/
theorem Good.int {P : Program} {w : World} {t : TypeId} {k : IntKind} {d : Nat} {cs : List Value} (ht : P.underlying t = some (.int k)) (h : Good P w (d + 1) t cs) : ∃ n, cs = [.int k n] ∧ (Lit.int k n).wf = true := by
  unfold Good at h; rw [ht] at h; exact h
theorem Good.bool {P : Program} {w : World} {t : TypeId} {d : Nat} {cs : List Value} (ht : P.underlying t = some .bool) (h : Good P w (d + 1) t cs) : ∃ b, cs = [.bool b] := by
  unfold Good at h; rw [ht] at h; exact h
theorem Good.struct {P : Program} {w : World} {t : TypeId} {fs : Array Field} {d : Nat} {cs : List Value} (ht : P.underlying t = some (.struct fs)) (h : Good P w (d + 1) t cs) : cs.length = P.cellsOf t ∧ ∀ f ∈ fs.toList, Good P w d f.type ((cs.drop f.offset).take (P.cellsOf f.type)) := by
  unfold Good at h; rw [ht] at h; exact h
end Go.Proofs.YtmifdkbpbkafjaaGreatDoor

/- Rows of rows of deeds that came in. -/
namespace Go.Proofs.YtmifdkbpbkafjaaGreatDoor
open Go.RowKit Go.Maps Go.Deep
set_option maxRecDepth 100000

def OkRw (W : World) (r : Rw) : Prop := r.ds.length ≤ maxLen ∧ (∀ d ∈ r.ds, InU d.key ∧ InU d.val) ∧ RowX encD 5 W r.A r.ds
/-- .. with room for what it holds. -/
def OkRwC (W : World) (r : Rw) : Prop := OkRw W r ∧ r.ds.length ≤ r.cap
theorem cellsIntA : Tryz.prog.cellsOf 3 = 1 := by kernel_rfl
theorem cellsU64A : Tryz.prog.cellsOf 39 = 1 := by kernel_rfl
theorem cellsOpA : Tryz.prog.cellsOf 75 = 4 := by kernel_rfl
theorem cellsDdA : Tryz.prog.cellsOf 77 = 5 := by kernel_rfl
theorem cellsRwA : Tryz.prog.cellsOf 50 = 1 := by kernel_rfl
theorem dec_Dd (W : World) (us : List Value) (hl : us.length = Tryz.prog.cellsOf 77) (h : Good Tryz.prog W 5 77 us) : ∃ r : Dd, encD r = us ∧ (InU r.key ∧ InU r.val) := by
  rw [cellsDdA] at hl
  match us, hl with
  | [u0, u1, u2, u3, u4], _ =>
    obtain ⟨_, hf⟩ := Good.struct Tryz.underlying77 h
    have h0 := hf _ (List.Mem.head _)
    have h1 := hf _ (List.Mem.tail _ (List.Mem.head _))
    simp only [cellsIntA, cellsOpA, List.drop_zero, List.drop_succ_cons, List.take_succ_cons, List.take_zero] at h0 h1
    obtain ⟨_, hg⟩ := Good.struct Tryz.underlying75 h1
    have g0 := hg _ (List.Mem.head _)
    have g1 := hg _ (List.Mem.tail _ (List.Mem.head _))
    have g2 := hg _ (List.Mem.tail _ (List.Mem.tail _ (List.Mem.head _)))
    have g3 := hg _ (List.Mem.tail _ (List.Mem.tail _ (List.Mem.tail _ (List.Mem.head _))))
    simp only [cellsIntA, cellsU64A, List.drop_zero, List.drop_succ_cons, List.take_succ_cons, List.take_zero] at g0 g1 g2 g3
    obtain ⟨n0, e0, _⟩ := Good.int Tryz.underlying3 h0
    obtain ⟨n1, e1, _⟩ := Good.int Tryz.underlying3 g0
    obtain ⟨n2, e2, w2⟩ := Good.int Tryz.underlying39 g1
    obtain ⟨n3, e3, w3⟩ := Good.int Tryz.underlying39 g2
    obtain ⟨n4, e4, _⟩ := Good.int Tryz.underlying3 g3
    simp only [List.cons.injEq, and_true] at e0 e1 e2 e3 e4
    exact ⟨⟨n0, n1, n2, n3, n4⟩, by rw [e0, e1, e2, e3, e4]; rfl, u64_in w2, u64_in w3⟩
theorem dec_Rw (W : World) (us : List Value) (_ : us.length = Tryz.prog.cellsOf 50) (h : Good Tryz.prog W 6 50 us) : ∃ r : Rw, encRw r = us ∧ OkRw W r := by
  obtain ⟨A, cap, xs, e, h1, h2, h3⟩ := Good.row Tryz.underlying50 h (dec_Dd W)
  rw [cellsDdA] at h3
  exact ⟨⟨A, cap, xs⟩, e.symm, h1, h2, h3⟩
theorem dec_RwC (W : World) (us : List Value) (_ : us.length = Tryz.prog.cellsOf 50) (h : Good Tryz.prog W 6 50 us) : ∃ r : Rw, encRw r = us ∧ OkRwC W r := by
  obtain ⟨A, cap, xs, e, h1, hc, h2, h3⟩ := Good.rowC Tryz.underlying50 h (dec_Dd W)
  rw [cellsDdA] at h3
  exact ⟨⟨A, cap, xs⟩, e.symm, ⟨h1, h2, h3⟩, hc⟩
theorem plainRws : plainT Tryz.prog 7 24 = true := by kernel_rfl
theorem open_Rws {H : Type} {en : TypeId × Value → H} {W : World} {A : Option Addr} {len cap : Nat} {d : DataW H} {p : List MemPlace}
    (h : DataW.Trod en Tryz.prog W 0 (fun _ => true) true 24 (.slice A len cap) d p) (hlt : ∀ x ∈ p, x.block < W.heap.size) :
    ∃ xs : List Rw, xs.length = len ∧ len ≤ maxLen ∧ (∀ r ∈ xs, OkRw W r) ∧ RowX encRw 1 W A xs := by
  obtain ⟨xs, h1, h2, h3, h4⟩ := open_rowG (d := 6) Tryz.underlying24 plainRws (dec_Rw W) h hlt
  rw [cellsRwA] at h4
  exact ⟨xs, h1, h2, h3, h4⟩
theorem open_RwsC {H : Type} {en : TypeId × Value → H} {W : World} {A : Option Addr} {len cap : Nat} {d : DataW H} {p : List MemPlace}
    (h : DataW.Trod en Tryz.prog W 0 (fun _ => true) true 24 (.slice A len cap) d p) (hlt : ∀ x ∈ p, x.block < W.heap.size) :
    ∃ xs : List Rw, xs.length = len ∧ len ≤ maxLen ∧ (∀ r ∈ xs, OkRwC W r) ∧ RowX encRw 1 W A xs := by
  obtain ⟨xs, h1, h2, h3, h4⟩ := open_rowG (d := 6) Tryz.underlying24 plainRws (dec_RwC W) h hlt
  rw [cellsRwA] at h4
  exact ⟨xs, h1, h2, h3, h4⟩
end Go.Proofs.YtmifdkbpbkafjaaGreatDoor

/- Allocs: the program is awake. -/
namespace Go.Proofs.YtmifdkbpbkafjaaGreatDoor
open Go.RowKit Go.Maps
set_option maxRecDepth 100000

theorem list14 (s : Int) (w : World) : Calls Tryz.prog 29 #[.int .i64 s] w fun o w' => o = .returned (.agg #[.int .i64 1, .int .i64 s, .int .i64 0, .int .i64 1, .int .i64 100]) ∧ Below w.heap.size w w' := by
  go_enter Tryz.func29, Tryz.ntmps29
  go_wp2
  exact bodyPost_ret (v := .agg #[.int .i64 1, .int .i64 s, .int .i64 0, .int .i64 1, .int .i64 100]) (by simp [results, Tryz.results29, go_sem]) rfl ⟨rfl, (Below.refl _ _).alloc (Nat.le_refl _) _⟩

set_option maxHeartbeats 3200000 in
theorem awake14 (w : World) (hg : Glo w) : Calls Tryz.prog 7 #[] w fun o w' => o = .returned (.bool true) ∧ Below w.heap.size w w' := by
  have hE := Env.start w
  have hM : ∀ k : Nat, k ≤ 100 → k < maxLen := fun k hk => by unfold maxLen; omega
  have HM := Lib.hid hM
  have HC4 := Lib.hid (show chkI 1 4 0 1 100 = 0 by decide)
  have HG := Lib.hid hg
  clear hM hg
  go_enter Tryz.func7, Tryz.ntmps7
  go_wp2_with fail
  refine (new_w hE).mono ?_
  rintro o w1 ⟨p, cc, rfl, hE, hb⟩
  clear hb
  go_wp2_with fail
  refine (start_w 0 1 (by decide) (HM.out _ (by omega)) hE rfl rfl).mono ?_
  rintro o w2 ⟨rfl, F2, hE⟩
  simp only [List.set_cons_succ, List.set_cons_zero] at hE
  go_wp2_with fail
  refine (list14 4 _).mono ?_
  rintro o w3 ⟨rfl, hb⟩
  replace hE := hE.over hb
  clear hb
  go_wp2_with fail
  refine (newYes_c 1 4 0 1 100 HC4.out hE).mono ?_
  rintro o w4 ⟨c, q, F, rfl, hE⟩
  go_wp2_with fail
  refine (check_w 1 (upd_same _ _ _) 0 2 3 (by decide) (by decide) hE rfl rfl rfl).mono ?_
  rintro o w5 ⟨rfl, hE⟩
  simp only [List.set_cons_succ, List.set_cons_zero] at hE
  rw [show epI 1 = 1 by decide] at hE
  generalize hf5 : upd (fun _ => 0) (1, 0, 0) 1 = f5 at hE
  have HF5 := Lib.hid hf5
  clear hf5
  generalize hq5 : ({ l := _, s := _, w := _, f := _, a := _ } : Cnt) = q5 at hE
  clear hq5
  go_wp2_with fail
  refine (new_a (S := { c := c, q := q, p := p, cc := cc, ck := 1, cs := 4, cb := 0, ch := 1, cl := 100, ce := 1, cr := 0, hs := 0, F := F, ql := [], kq := 2, G := F2, f := f5, qc := q5, m := 0 + 1 }) _ 9 _ _ rfl hE).mono ?_
  rintro o w6 (⟨h, -⟩ | ⟨-, a, rfl, hE⟩)
  · exact absurd (show (2 : Nat) = 0 from h) (by decide)
  replace hE : Env w (boxI a (av c { nx := nxA a 2, left := .slice none 0 0, k := 1, key := 9, val := 0, lv := 0, h := 0, n := 0, r := 0, s := 0 }) :: LT { c := c, q := q, p := p, cc := cc, ck := 1, cs := 4, cb := 0, ch := 1, cl := 100, ce := 1, cr := 0, hs := 0, F := F, ql := [], kq := 2, G := F2, f := f5, qc := q5, m := 0 + 1 } []) w6 := hE
  have h30 : f5 (3, 0, 0) = 0 := by rw [← HF5.out]; simp [upd]
  have H30 := Lib.hid h30
  clear h30
  go_wp2_with fail
  refine wp_loop_rounds 5 ?_
  rw [rounds_succ]
  go_wp2_with fail
  refine (step_ay (S := { c := c, q := q, p := p, cc := cc, ck := 1, cs := 4, cb := 0, ch := 1, cl := 100, ce := 1, cr := 0, hs := 0, F := F, ql := [], kq := 2, G := F2, f := f5, qc := q5, m := 0 + 1 }) (M := { nx := nxA a 2, left := .slice none 0 0, k := 1, key := 9, val := 0, lv := 0, h := 0, n := 0, r := 0, s := 0 }) 2 _ hE rfl (freshYes_a (S := { c := c, q := q, p := p, cc := cc, ck := 1, cs := 4, cb := 0, ch := 1, cl := 100, ce := 1, cr := 0, hs := 0, F := F, ql := [], kq := 2, G := F2, f := f5, qc := q5, m := 0 + 1 }) (M := { nx := nxA a 2, left := .slice none 0 0, k := 1, key := 9, val := 0, lv := 0, h := 0, n := 0, r := 0, s := 0 }) 0 H30.out (by simp) (by decide) (show (0 : Int) < 4 by decide) (show (4 : Int) ≤ 9223372036854775806 by decide) (HM.out 1 (by omega)) hE)).mono ?_
  rintro o w7 ⟨rfl, nx, k7, F7, G7, hnx, -, hE7⟩
  rw [show nx = nxA a 10 from hnx (show (10 : Nat) ≠ 0 by decide)] at hE7
  clear hnx
  rw [show decS ([] ++ [((0 : Int) + 1, (0 : Int), (0 : Int))]) 1 100 = 0 from rfl]
  generalize hf : upd f5 (3, 0, 0) (IntKind.u64.wrap (0 + 1)) = f7 at *
  have HF7 := Lib.hid hf
  clear hf
  generalize hq : ({ l := _, s := _, w := _, f := _, a := _ } : Cnt) = q7 at hE7
  clear hq
  replace hE7 : Env w (boxI a (av c { nx := nxA a 10, left := .slice none 0 0, k := 1, key := 9, val := 0, lv := 0, h := 0, n := 0, r := 0, s := 0 }) :: LT { c := c, q := q, p := p, cc := cc, ck := 1, cs := 4, cb := 0, ch := 1, cl := 100, ce := 1, cr := 0, hs := 0, F := F7, ql := [(1, 0, 0)], kq := k7, G := G7, f := f7, qc := q7, m := 2 } []) w7 := hE7
  go_wp2_with fail
  rw [rounds_succ]
  go_wp2_with fail
  refine (step_ay (S := { c := c, q := q, p := p, cc := cc, ck := 1, cs := 4, cb := 0, ch := 1, cl := 100, ce := 1, cr := 0, hs := 0, F := F7, ql := [(1, 0, 0)], kq := k7, G := G7, f := f7, qc := q7, m := 2 }) (M := { nx := nxA a 10, left := .slice none 0 0, k := 1, key := 9, val := 0, lv := 0, h := 0, n := 0, r := 0, s := 0 }) 10 _ hE7 rfl (birth_a (S := { c := c, q := q, p := p, cc := cc, ck := 1, cs := 4, cb := 0, ch := 1, cl := 100, ce := 1, cr := 0, hs := 0, F := F7, ql := [(1, 0, 0)], kq := k7, G := G7, f := f7, qc := q7, m := 2 }) (M := { nx := nxA a 10, left := .slice none 0 0, k := 1, key := 9, val := 0, lv := 0, h := 0, n := 0, r := 0, s := 0 }) 1 0 [] rfl (show (1 : Int) ≤ 1 ∧ (1 : Int) ≤ 4 by decide) (show (4 : Int) ≤ 9223372036854775806 by decide) rfl (show (0 : Int) ≤ 1 ∧ (1 : Int) ≤ 9223372036854775807 by decide) (HM.out 2 (by omega)) hE7)).mono ?_
  rintro o w8 ⟨rfl, g, cg, G8, hcg, hE8⟩
  generalize hf : upd f7 (5, 1, 0) 1 = f8 at *
  have HF8 := Lib.hid hf
  clear hf
  generalize hq : ({ l := _, s := _, w := _, f := _, a := _ } : Cnt) = q8 at hE8
  clear hq
  replace hcg : 3 ≤ cg := hcg
  replace hE8 : Env w (boxI a (av c { nx := nxA a 11, left := .slice (some ⟨g, 2, none⟩) 2 (cg - 1), k := 1, key := 9, val := 0, lv := 0, h := 0, n := 0, r := 0, s := 1 }) :: LT { c := c, q := q, p := p, cc := cc, ck := 1, cs := 4, cb := 0, ch := 1, cl := 100, ce := 1, cr := 0, hs := 1, F := F7, ql := [], kq := k7, G := G8, f := f8, qc := q8, m := 3 } (lieI g (flat2 (wordsA 1 1 9 0 (IntKind.u64.wrap 0))) :: [])) w8 := hE8
  go_wp2_with fail
  rw [rounds_succ]
  go_wp2_with fail
  refine (step_ay (S := { c := c, q := q, p := p, cc := cc, ck := 1, cs := 4, cb := 0, ch := 1, cl := 100, ce := 1, cr := 0, hs := 1, F := F7, ql := [], kq := k7, G := G8, f := f8, qc := q8, m := 3 }) (M := { nx := nxA a 11, left := .slice (some ⟨g, 2, none⟩) 2 (cg - 1), k := 1, key := 9, val := 0, lv := 0, h := 0, n := 0, r := 0, s := 1 }) 11 _ hE8 rfl (store_a (S := { c := c, q := q, p := p, cc := cc, ck := 1, cs := 4, cb := 0, ch := 1, cl := 100, ce := 1, cr := 0, hs := 1, F := F7, ql := [], kq := k7, G := G8, f := f8, qc := q8, m := 3 }) (M := { nx := nxA a 11, left := .slice (some ⟨g, 2, none⟩) 2 (cg - 1), k := 1, key := 9, val := 0, lv := 0, h := 0, n := 0, r := 0, s := 1 }) g 2 1 (cg - 1) 1 0 (by omega) (by unfold In64; decide) (by unfold InU; decide) (show In64 1 by unfold In64; decide) (HM.out 3 (by omega)) rfl rfl rfl hE8)).mono ?_
  rintro o w9 ⟨rfl, nx, left, G9, hnl, hE9⟩
  obtain ⟨rfl, rfl⟩ := hnl (by decide)
  rw [show (if 1 = 0 then (1 : Int) else 0) = 0 from rfl]
  generalize hf : upd f8 (5, 1, 1) 0 = f9 at *
  have HF9 := Lib.hid hf
  clear hf
  generalize hq : ({ l := _, s := _, w := _, f := _, a := _ } : Cnt) = q9 at hE9
  clear hq
  replace hE9 : Env w (boxI a (av c { nx := nxA a 11, left := .slice (some ⟨g, 4, none⟩) 1 (cg - 1 - 1), k := 1, key := 9, val := 0, lv := 0, h := 0, n := 0, r := 0, s := 1 }) :: LT { c := c, q := q, p := p, cc := cc, ck := 1, cs := 4, cb := 0, ch := 1, cl := 100, ce := 1, cr := 0, hs := 1, F := F7, ql := [], kq := k7, G := G9, f := f9, qc := q9, m := 4 } (lieI g (flat2 (wordsA 1 1 9 0 (IntKind.u64.wrap 0))) :: [])) w9 := hE9
  go_wp2_with fail
  rw [rounds_succ]
  go_wp2_with fail
  refine (step_ay (S := { c := c, q := q, p := p, cc := cc, ck := 1, cs := 4, cb := 0, ch := 1, cl := 100, ce := 1, cr := 0, hs := 1, F := F7, ql := [], kq := k7, G := G9, f := f9, qc := q9, m := 4 }) (M := { nx := nxA a 11, left := .slice (some ⟨g, 4, none⟩) 1 (cg - 1 - 1), k := 1, key := 9, val := 0, lv := 0, h := 0, n := 0, r := 0, s := 1 }) 11 _ hE9 rfl (store_a (S := { c := c, q := q, p := p, cc := cc, ck := 1, cs := 4, cb := 0, ch := 1, cl := 100, ce := 1, cr := 0, hs := 1, F := F7, ql := [], kq := k7, G := G9, f := f9, qc := q9, m := 4 }) (M := { nx := nxA a 11, left := .slice (some ⟨g, 4, none⟩) 1 (cg - 1 - 1), k := 1, key := 9, val := 0, lv := 0, h := 0, n := 0, r := 0, s := 1 }) g 4 0 (cg - 1 - 1) 3 9 (by omega) (by unfold In64; decide) (by unfold InU; decide) (show In64 1 by unfold In64; decide) (HM.out 4 (by omega)) rfl rfl rfl hE9)).mono ?_
  rintro o w10 ⟨rfl, nx, left, G10, hnl, hE10⟩
  clear hnl
  rw [show (if 0 = 0 then (1 : Int) else 0) = 1 from rfl]
  generalize hf : upd f9 (5, 1, 3) 9 = f10 at *
  have HF10 := Lib.hid hf
  clear hf
  generalize hq : ({ l := _, s := _, w := _, f := _, a := _ } : Cnt) = q10 at hE10
  clear hq
  replace hE10 := hE10.sub (L' := LT { c := c, q := q, p := p, cc := cc, ck := 1, cs := 4, cb := 0, ch := 1, cl := 100, ce := 1, cr := 0, hs := 1, F := F7, ql := [], kq := k7, G := G10, f := f10, qc := q10, m := 5 } []) (.cons _ (.cons_cons _ (.cons_cons _ (.cons_cons _ (.cons_cons _ (.cons _ (List.Sublist.refl _)))))))
  go_wp2_with fail
  rw [rounds_succ]
  go_wp2_with fail
  refine (held_c (hE10.get 0 rfl)).mono ?_
  rintro o w11 ⟨rfl, hb⟩
  replace hE10 := hE10.over hb
  have hE11 := (hE10.box w11.heap.size rfl [.int .i64 1, .int .i64 0] 67).perm (L' := LT { c := c, q := q, p := p, cc := cc, ck := 1, cs := 4, cb := 0, ch := 1, cl := 100, ce := 1, cr := 0, hs := 1, F := F7, ql := [], kq := k7, G := G10, f := f10, qc := q10, m := 5 } [boxI w11.heap.size [.int .i64 1, .int .i64 0]]) (List.perm_middle (l₁ := [_, _, _, _])).symm
  clear hb hE10
  have rY := hE11.rule 4 rfl
  go_wp2_with fail
  generalize w11.alloc _ = w12 at *
  generalize w11.heap.size = Y at *
  refine (new_r 1 hE11).mono ?_
  rintro o w13 ⟨r, rfl, hE13⟩
  clear rY hE11
  go_wp2_with fail
  refine (step_ry (S := { c := c, q := q, p := p, cc := cc, ck := 1, cs := 4, cb := 0, ch := 1, cl := 100, ce := 1, cr := 0, hs := 1, F := F7, ql := [], kq := k7, G := G10, f := f10, qc := q10, m := 5 }) 0 _ hE13 rfl (loadEpoch_r (S := { c := c, q := q, p := p, cc := cc, ck := 1, cs := 4, cb := 0, ch := 1, cl := 100, ce := 1, cr := 0, hs := 1, F := F7, ql := [], kq := k7, G := G10, f := f10, qc := q10, m := 5 }) 1 (show f10 (1, 0, 0) = 1 by rw [← HF10.out, ← HF9.out, ← HF8.out, ← HF7.out, ← HF5.out]; simp [upd]) hE13)).mono ?_
  rintro o w14 ⟨rfl, hE14⟩
  clear hE13
  generalize hq : ({ l := _, s := _, w := _, f := _, a := _ } : Cnt) = q14 at hE14
  clear hq
  replace hE14 : Env w (boxI r (rtv c (nxR r 1) 1 1) :: LT { c := c, q := q, p := p, cc := cc, ck := 1, cs := 4, cb := 0, ch := 1, cl := 100, ce := 1, cr := 0, hs := 1, F := F7, ql := [], kq := k7, G := G10, f := f10, qc := q14, m := 5 } [boxI Y [.int .i64 1, .int .i64 0]]) w14 := hE14
  go_wp2_with fail
  refine (step_ry (S := { c := c, q := q, p := p, cc := cc, ck := 1, cs := 4, cb := 0, ch := 1, cl := 100, ce := 1, cr := 0, hs := 1, F := F7, ql := [], kq := k7, G := G10, f := f10, qc := q14, m := 5 }) 1 _ hE14 rfl (store_r (S := { c := c, q := q, p := p, cc := cc, ck := 1, cs := 4, cb := 0, ch := 1, cl := 100, ce := 1, cr := 0, hs := 1, F := F7, ql := [], kq := k7, G := G10, f := f10, qc := q14, m := 5 }) (show InU 1 by unfold InU; decide) (show In64 1 by unfold In64; decide) (HM.out 5 (by omega)) (by simp) hE14)).mono ?_
  rintro o w15 ⟨rfl, k15, F15, G15, -, hE15⟩
  clear hE14
  generalize hq : ({ l := _, s := _, w := _, f := _, a := _ } : Cnt) = q15 at hE15
  clear hq
  replace hE15 : Env w (LT { c := c, q := q, p := p, cc := cc, ck := 1, cs := 4, cb := 0, ch := 1, cl := 100, ce := 1, cr := 0, hs := 1, F := F15, ql := [(1, 1, 0)], kq := k15, G := G15, f := (upd f10 (5, 1, 1) 1), qc := q15, m := 6 } [boxI Y [.int .i64 1, .int .i64 0]]) w15 := hE15
  generalize hf15 : upd f10 (5, 1, 1) 1 = f15 at *
  have HF15 := Lib.hid hf15
  clear hf15
  have HP1 : Hid (∀ v, Env w (LT { c := c, q := q, p := p, cc := cc, ck := 1, cs := 4, cb := 0, ch := 1, cl := 100, ce := 1, cr := 0, hs := 1, F := F15, ql := [(1, 1, 0)], kq := k15, G := G15, f := f15, qc := q15, m := 6 } [boxI Y [.int .i64 1, .int .i64 0]]) v → Calls Tryz.prog 23 #[.pointer (some ⟨p, 0, none⟩), .agg #[.int .i64 5, .int .i64 1, .int .i64 3]] v fun e w' => e = .returned (.int .u64 9) ∧ Below v.heap.size v w') := Lib.hid fun v hv => by
    have h := peek_w 5 1 3 (by unfold Wf In64; simp) 2 3 hv rfl rfl
    dsimp only at h
    rw [show f15 (5, 1, 3) = 9 by rw [← HF15.out, ← HF10.out, ← HF9.out, ← HF8.out, ← HF7.out, ← HF5.out]; simp [upd]] at h
    exact h
  have HP2 : Hid (∀ v, Env w (LT { c := c, q := q, p := p, cc := cc, ck := 1, cs := 4, cb := 0, ch := 1, cl := 100, ce := 1, cr := 0, hs := 1, F := F15, ql := [(1, 1, 0)], kq := k15, G := G15, f := f15, qc := q15, m := 6 } [boxI Y [.int .i64 1, .int .i64 0]]) v → Calls Tryz.prog 23 #[.pointer (some ⟨p, 0, none⟩), .agg #[.int .i64 5, .int .i64 1, .int .i64 1]] v fun e w' => e = .returned (.int .u64 1) ∧ Below v.heap.size v w') := Lib.hid fun v hv => by
    have h := peek_w 5 1 1 (by unfold Wf In64; simp) 2 3 hv rfl rfl
    dsimp only at h
    rw [show f15 (5, 1, 1) = 1 by rw [← HF15.out, ← HF10.out, ← HF9.out, ← HF8.out, ← HF7.out, ← HF5.out]; simp [upd]] at h
    exact h
  have HFI : Hid (∀ v, Env w (LT { c := c, q := q, p := p, cc := cc, ck := 1, cs := 4, cb := 0, ch := 1, cl := 100, ce := 1, cr := 0, hs := 1, F := F15, ql := [(1, 1, 0)], kq := k15, G := G15, f := f15, qc := q15, m := 6 } [boxI Y [.int .i64 1, .int .i64 0]]) v → Calls Tryz.prog 35 #[.pointer (some ⟨q, 0, none⟩), .int .i64 1] v fun e w' => e = .returned (.int .i64 0) ∧ Below v.heap.size v w') := Lib.hid fun v hv => find_any (l := [(1, 1, 0)]) 1 (hv.queue 1 rfl)
  replace hE15 : Env w (LT { c := c, q := q, p := p, cc := cc, ck := 1, cs := 4, cb := 0, ch := 1, cl := 100, ce := 1, cr := 0, hs := 1, F := F15, ql := [(1, 1, 0)], kq := k15, G := G15, f := f15, qc := q15, m := 6 } [boxI Y [.int .i64 1, .int .i64 0]]) w15 := hE15
  have rY := hE15.rule 4 rfl
  go_wp2_with (first
    | (with_reducible refine (placeOf_any _ _ _).mono ?_; rintro o w16 ⟨rfl, hb⟩; replace hE15 := hE15.over hb; clear hb rY; have rY := hE15.rule 4 rfl)
    | (with_reducible refine (HP1.out _ hE15).mono ?_; rintro o w16 ⟨rfl, hb⟩; replace hE15 := hE15.over hb; clear hb rY; have rY := hE15.rule 4 rfl)
    | (with_reducible refine (HP2.out _ hE15).mono ?_; rintro o w16 ⟨rfl, hb⟩; replace hE15 := hE15.over hb; clear hb rY; have rY := hE15.rule 4 rfl)
    | (with_reducible refine (HFI.out _ hE15).mono ?_; rintro o w16 ⟨rfl, hb⟩; replace hE15 := hE15.over hb; clear hb rY; have rY := hE15.rule 4 rfl)
    | (refine (queue_c (hE15.get 0 rfl)).mono ?_; rintro o w16 ⟨rfl, rfl⟩))
  go_ret
  exact ⟨ret_bool (by simp), hE15.below⟩
end Go.Proofs.YtmifdkbpbkafjaaGreatDoor

/- What the condition on the package's variables gives: the three fields stand in them; and that the program's own start meets it. -/
namespace Go.Proofs.YtmifdkbpbkafjaaGreatDoor
open Go.ChangeShapes Go.WideShapes Go.ChangeAt Go.RowKit
set_option maxRecDepth 100000

section
variable {P : Program} {w : World}
theorem cell_lt {b o : Nat} {v : Value} (h : w.cell? ⟨b, o, none⟩ = some v) : b < w.heap.size := by
  rcases Nat.lt_or_ge b w.heap.size with h' | h'
  · exact h'
  · simp [World.cell?, Array.getElem?_eq_none h'] at h
/-- The head of a list of laid variables: a struct of two ints. -/
theorem laid_pair {n : String} {g : Nat} {t k : TypeId} {f0 f1 : Field} {a b : Int} {r : List (String × DataW Unit)} {ps : List MemPlace}
    (h : DataW.LaidVars P w ((n, .agg [.lit (.int .i64 a), .lit (.int .i64 b)]) :: r) ps) (hg : P.globalNamed n = some g) (ht : (P.globals[g]?).map (·.type) = some t)
    (hs : P.underlying t = some (.struct #[f0, f1])) (hc : P.cellsOf t = 2) (h0 : f0.offset = 0) (h1 : f1.offset = 1) (hk0 : f0.type = k) (hk1 : f1.type = k) (hk : P.cellsOf k = 1) (hi : P.underlying k = some (.int .i64)) :
    w.cell? ⟨g, 0, none⟩ = some (.int .i64 a) ∧ w.cell? ⟨g, 1, none⟩ = some (.int .i64 b) ∧ ∃ q, DataW.LaidVars P w r q := by
  obtain ⟨g', t', cs, fuel, p, q, hg', ht', hv, hd, hr, -⟩ := h
  obtain rfl := Option.some.inj (hg.symm.trans hg')
  obtain rfl := Option.some.inj (ht.symm.trans ht')
  obtain ⟨xs, m, -, hx, hl, hn, hel⟩ := DataW.trod_struct hs hd
  have e0 := hel 0 f0 rfl
  have e1 := hel 1 f1 rfl
  rw [h0, hk0, hk] at e0
  rw [h1, hk1, hk] at e1
  obtain ⟨l⟩ := cs
  rw [hc] at hl
  match l, hl, xs, hn, hx, e0, e1, hv with
  | [c0, c1], _, [x0, x1], _, hx, e0, e1, hv =>
    simp only [Prod.mk.injEq, List.map_cons, List.map_nil, DataW.agg.injEq, List.cons.injEq] at hx
    obtain ⟨n0, s0, y0, -⟩ := DataW.trod_int hi (show DataW.trod _ P w 0 _ false m k [c0] = some x0 from e0)
    obtain ⟨n1, s1, y1, -⟩ := DataW.trod_int hi (show DataW.trod _ P w 0 _ false m k [c1] = some x1 from e1)
    simp at s0 s1
    subst s0 s1
    have k0 := hx.1.1
    have k1 := hx.1.2.1
    rw [y0] at k0
    rw [y1] at k1
    simp at k0 k1
    subst k0 k1
    exact ⟨by rw [World.var?_cell hg hv 0]; rfl, by rw [World.var?_cell hg hv 1]; rfl, q, hr⟩
end

def laid3 : List (String × DataW Unit) := [("revenant/link.versionPart", Rows.laid_revenant_link_versionPart), ("revenant/link.slotPart", Rows.laid_revenant_link_slotPart), ("revenant/link.markPart", Rows.laid_revenant_link_markPart)]

/-- What the condition gives the walks. -/
theorem glo_of_laid {W : World} (h : laidMetH Tryz.prog laid3 W) : Glo W := by
  rw [MakeChecks.laidMetH_plain _ _ _ (by kernel_rfl)] at h
  obtain ⟨ps, h, -, -⟩ := h
  obtain ⟨a0, a1, q1, h⟩ := laid_pair (g := 1) (t := 163) (k := 3) h (by kernel_rfl) (by kernel_rfl) Tryz.underlying163 (by kernel_rfl) rfl rfl rfl rfl (by kernel_rfl) Tryz.underlying3
  obtain ⟨b0, b1, q2, h⟩ := laid_pair (g := 0) (t := 163) (k := 3) h (by kernel_rfl) (by kernel_rfl) Tryz.underlying163 (by kernel_rfl) rfl rfl rfl rfl (by kernel_rfl) Tryz.underlying3
  obtain ⟨c0, c1, q3, h⟩ := laid_pair (g := 2) (t := 163) (k := 3) h (by kernel_rfl) (by kernel_rfl) Tryz.underlying163 (by kernel_rfl) rfl rfl rfl rfl (by kernel_rfl) Tryz.underlying3
  exact ⟨⟨a0, a1⟩, ⟨b0, b1⟩, ⟨c0, c1⟩, cell_lt a0, cell_lt b0, cell_lt c0⟩

/-- The program's own start meets the condition. -/
theorem door_met (os : Os) (args : Array Value) : laidMetH Tryz.prog laid3 ((World.doorLaid Tryz.prog 24 os).forCall (fun _ _ => 0) ⟨#[], args, []⟩).memory :=
  laidMetH_of_parts3 (fuel := 8) (laidMet_of_run' 8 (by kernel_rfl) (by kernel_rfl)) (by kernel_rfl) (by kernel_rfl)
end Go.Proofs.YtmifdkbpbkafjaaGreatDoor

/- Slices that come in, opened once: of numbers; of structs of two numbers. -/
namespace Go.Proofs.YtmifdkbpbkafjaaGreatDoor
open Go.RowKit Go.WideShapes Go.ChangeShapes Go.ChangeAt Go.Deep
set_option maxRecDepth 100000

section
variable {H : Type} {enc : TypeId × Value → H} {P : Program} {W : World}

theorem open_num_row {t e : TypeId} {k : IntKind} {A : Option Addr} {len cap : Nat} {d : DataW H} {p : List MemPlace} (ht : P.underlying t = some (.slice e)) (he : P.underlying e = some (.int k)) (hc : P.cellsOf e = 1)
    (h : DataW.Trod enc P W 0 (fun _ => true) true t (.slice A len cap) d p) (hlt : ∀ x ∈ p, x.block < W.heap.size) :
    ∃ zs : List Int, zs.length = len ∧ len ≤ maxLen ∧ (∀ n ∈ zs, (Lit.int k n).wf = true) ∧ (zs = [] ∨ ∃ b off, A = some ⟨b, off, none⟩ ∧ b < W.heap.size ∧ ∀ i, i < zs.length → W.cell? ⟨b, off + i, none⟩ = some (.int k (zs.getD i 0))) := by
  obtain ⟨fuel, hf⟩ := h
  rcases open_ints ht he hc hf with ⟨hcs, hx⟩ | ⟨a, len', cap', zs, hcs, _, hl, hm, hz, hx, hcell, hwz⟩
  · simp [Value.cells] at hcs
    obtain ⟨rfl, rfl, rfl⟩ := hcs
    exact ⟨[], rfl, Nat.zero_le _, by simp, Or.inl rfl⟩
  · simp [Value.cells] at hcs
    obtain ⟨rfl, rfl, rfl⟩ := hcs
    simp only [Prod.mk.injEq] at hx
    obtain ⟨rfl, rfl⟩ := hx
    simp only [if_true] at hz
    refine ⟨zs.take len, by simp; omega, by omega, fun n hn => hwz n (List.mem_of_mem_take hn), ?_⟩
    by_cases h0 : len = 0
    · left; subst h0; simp
    · right
      obtain ⟨b, off, spot⟩ := a
      have hspot : spot = none := by simpa [Addr.add] using World.cell?_spot (hcell 0 (by omega))
      subst hspot
      refine ⟨b, off, rfl, hlt (.cell b off) (MemPlace.mem_row.2 ⟨0, by omega, by simp⟩), fun i hi => ?_⟩
      have hi' : i < len := by simp at hi; omega
      have := hcell i (by omega)
      rw [add_plain] at this
      rw [this]
      simp [hi']

def numOf' : Value → Int | .int _ n => n | _ => 0

theorem open_pair_row {t e : TypeId} {k : IntKind} {f0 f1 : Field} {A : Option Addr} {len cap : Nat} {d : DataW H} {p : List MemPlace} (ht : P.underlying t = some (.slice e)) (he : P.underlying e = some (.struct #[f0, f1]))
    (ce : P.cellsOf e = 2) (o0 : f0.offset = 0) (o1 : f1.offset = 1) (c0 : P.cellsOf f0.type = 1) (c1 : P.cellsOf f1.type = 1) (u0 : P.underlying f0.type = some (.int k)) (u1 : P.underlying f1.type = some (.int k))
    (h : DataW.Trod enc P W 0 (fun _ => true) true t (.slice A len cap) d p) (hlt : ∀ x ∈ p, x.block < W.heap.size) :
    ∃ fs : List (Int × Int), fs.length = len ∧ len ≤ maxLen ∧ (∀ q ∈ fs, (Lit.int k q.1).wf = true ∧ (Lit.int k q.2).wf = true) ∧
      (fs = [] ∨ ∃ b off, A = some ⟨b, off, none⟩ ∧ b < W.heap.size ∧ ∀ i, i < fs.length → W.cell? ⟨b, off + i * 2, none⟩ = some (.int k (fs.getD i (0, 0)).1) ∧ W.cell? ⟨b, off + i * 2 + 1, none⟩ = some (.int k (fs.getD i (0, 0)).2)) := by
  obtain ⟨fuel, hf⟩ := h
  rcases open_slice_pairs ht he ce o0 o1 c0 c1 hf with ⟨hcs, hx⟩ | ⟨a, len', cap', m, n, V0, V1, D0, D1, P0, P1, hcs, _, hl, hm, hmm, hx, hall⟩
  · simp [Value.cells] at hcs
    obtain ⟨rfl, rfl, rfl⟩ := hcs
    exact ⟨[], rfl, Nat.zero_le _, by simp, Or.inl rfl⟩
  · simp [Value.cells] at hcs
    obtain ⟨rfl, rfl, rfl⟩ := hcs
    simp only [Prod.mk.injEq] at hx
    obtain ⟨rfl, rfl⟩ := hx
    simp only [if_true] at hmm
    subst hmm
    have each : ∀ i, i < m → (∃ x, V0 i = .int k x ∧ (Lit.int k x).wf = true) ∧ ∃ x, V1 i = .int k x ∧ (Lit.int k x).wf = true := fun i hi => by
      obtain ⟨_, _, h3, h4⟩ := hall i hi
      obtain ⟨x, e0, _, w0⟩ := DataW.trod_int u0 h3
      obtain ⟨y, e1, _, w1⟩ := DataW.trod_int u1 h4
      simp at e0 e1
      exact ⟨⟨x, e0, w0⟩, ⟨y, e1, w1⟩⟩
    refine ⟨(List.range len).map fun i => (numOf' (V0 i), numOf' (V1 i)), by simp, by omega, ?_, ?_⟩
    · intro q hq
      obtain ⟨i, hi, rfl⟩ := List.mem_map.1 hq
      have hi' := List.mem_range.1 hi
      obtain ⟨⟨x, e0, w0⟩, ⟨y, e1, w1⟩⟩ := each i (by omega)
      rw [e0, e1]
      exact ⟨w0, w1⟩
    · by_cases h0 : len = 0
      · left; subst h0; simp
      · right
        obtain ⟨b, off, spot⟩ := a
        have hspot : spot = none := by simpa [Addr.add] using World.cell?_spot (hall 0 (by omega)).1
        subst hspot
        refine ⟨b, off, rfl, hlt (.cell b off) (List.mem_append_left _ (MemPlace.mem_row.2 ⟨0, by omega, by simp⟩)), fun i hi => ?_⟩
        have hi' : i < len := by simpa using hi
        obtain ⟨h1, h2, _, _⟩ := hall i (by omega)
        obtain ⟨⟨x, e0, _⟩, ⟨y, e1, _⟩⟩ := each i (by omega)
        rw [add_plain] at h1 h2
        rw [Nat.add_assoc, h1, h2, e0, e1]
        simp [hi', e0, e1, numOf']
end
end Go.Proofs.YtmifdkbpbkafjaaGreatDoor

namespace Go.Proofs.YtmifdkbpbkafjaaGreatDoor.allocBack
open Go.ChangeShapes Go.WideShapes Go.ChangeAt Go.RowKit Go.Joins Go.Maps
set_option maxRecDepth 100000

theorem encD_len (x : Dd) : (encD x).length = 5 := rfl
theorem encD_one (x : Dd) : ∀ u ∈ encD x, u.oneCell' = true := fun u hu => by
  simp [encD] at hu
  rcases hu with rfl | rfl | rfl | rfl | rfl <;> rfl
theorem infoDd : (Tryz.prog.info? 77).map (fun i => (i.zero, i.size, i.bytes)) = some (some (.agg #[.int .i64 0, .int .i64 0, .int .u64 0, .int .u64 0, .int .i64 0]), 5, 40) := by kernel_rfl
set_option maxHeartbeats 6400000 in
theorem walk (k s b h l : Int) (rs : List Rw) (A : Option Addr) (cap : Nat) (hl0 : rs.length ≤ 2 ^ 63 - 1) (zs : List Int) (A2 : Option Addr) (cap2 : Nat) (hz0 : zs.length ≤ 2 ^ 63 - 1) (W : World) (hok : ∀ r ∈ rs, OkRwC W r) (hrow : RowX encRw 1 W A rs)
    (hrow2 : zs = [] ∨ ∃ b off, A2 = some ⟨b, off, none⟩ ∧ b < W.heap.size ∧ ∀ i, i < zs.length → W.cell? ⟨b, off + i, none⟩ = some (.int .i64 (zs.getD i 0))) (who : Int) (hg : Glo W) :
    Calls Tryz.prog 6 #[.agg #[.int .i64 k, .int .i64 s, .int .i64 b, .int .i64 h, .int .i64 l], .slice A rs.length cap,   .slice A2 zs.length cap2, .int .i64 who] W fun e w' => e = .returned (.bool true) ∧ Below W.heap.size W w' := by
  have hE := (Env.start W).box W.heap.size rfl [.int .i64 k, .int .i64 s, .int .i64 b, .int .i64 h, .int .i64 l] 23
  have HG := Lib.hid hg
  have HROW := Lib.hid hrow
  have HROW2 := Lib.hid hrow2
  have HOK := Lib.hid hok
  have hl : rs.length ≤ 9223372036854775807 := by omega
  have hz : zs.length ≤ 9223372036854775807 := by omega
  have hlen9 : ∀ r ∈ rs, r.ds.length ≤ 9223372036854775807 := fun r hr => by have := (hok r hr).1.1; unfold maxLen at this; omega
  have HLEN := Lib.hid hlen9
  clear hg hrow hrow2 hok hl0 hz0 hlen9
  go_enter Tryz.func6, Tryz.ntmps6
  go_wp2_with fail
  refine (awake14 _ (HG.out.keep' hE.below)).mono ?_
  rintro o w1 ⟨rfl, hb⟩
  replace hE := hE.over hb
  clear hb
  generalize hX : W.heap.size = X at *
  have HX := Lib.hid hX
  clear hX
  have r0 := hE.rule 0 rfl
  go_wp2_with fail
  refine (great_t k s b h l A A2 cap cap2 zs.length rs hl hz HROW.out HLEN.out _ hE.below).mono ?_
  rintro o w2 ⟨hb, rfl | ⟨rfl, hc, hr1, hr4, hz4, hd40⟩⟩
  · replace hE := hE.over hb
    go_wp2_with fail
    go_ret
    exact ⟨rfl, hE.below⟩
  replace hE := hE.over hb
  clear hb r0
  by_cases hz3 : 300 < zs.length
  · have hb9 : decide (300 < (zs.length : Int)) = true := by simp; omega
    go_wp2_with fail
    go_ret
    exact ⟨rfl, hE.below⟩
  have hb9 : decide (300 < (zs.length : Int)) = false := by simp; omega
  have HC := Lib.hid hc
  have HR1 := Lib.hid hr1
  have HR4 := Lib.hid hr4
  have HD := Lib.hid hd40
  have hsm := smI_in s
  obtain ⟨n, hn⟩ : ∃ n, smI s = n := ⟨_, rfl⟩
  rw [hn] at hsm
  have HNS := Lib.hid hn
  have hCk : COk ⟨k, n, b, h, 1048576⟩ := ⟨by show 1 ≤ n ∧ n ≤ 8388607; omega, by show (1 : Int) ≤ 1048576 ∧ (1048576 : Int) ≤ 1099511627775; decide⟩
  have hc2 : chkI k n b h 1048576 = 0 := by
    obtain ⟨hk1, h1, h2, h3⟩ := chk_yes hc
    exact chk_zero hk1 ⟨by omega, by decide, h3⟩
  have HC2 := Lib.hid hc2
  have HCK := Lib.hid hCk
  have hR : ∀ i, i < rs.length → OkR W (rs.getD i default) := fun i hi => by
    have hm : rs.getD i default ∈ rs := by rw [List.getD_eq_getElem?_getD, List.getElem?_eq_getElem hi]; exact List.getElem_mem hi
    obtain ⟨⟨h1, h2, h3⟩, -⟩ := HOK.out _ hm
    exact ⟨h3, hd40 i hi, h2⟩
  have HR := Lib.hid hR
  clear hc hc2 hn hr1 hr4 hd40 hCk hR
  have r0 := hE.rule 0 rfl
  go_wp2_with fail
  refine (small_t k s b h l _).mono ?_
  rintro o w9 ⟨rfl, hb⟩
  rw [HNS.out]
  replace hE := (hE.over hb).box w9.heap.size rfl [.int .i64 k, .int .i64 n, .int .i64 b, .int .i64 h, .int .i64 1048576] 23
  clear hb r0
  go_wp2_with fail
  generalize w9.alloc _ = w10 at *
  generalize w9.heap.size = Y at *
  refine (new_w hE).mono ?_
  rintro o w3 ⟨p, cc, rfl, hE3, hb⟩
  clear hb hE
  go_wp2_with fail
  refine (start_w 0 1 (by decide) (by unfold maxLen; omega) hE3 rfl rfl).mono ?_
  rintro o w4 ⟨rfl, F4, hE4⟩
  simp only [List.set_cons_succ, List.set_cons_zero] at hE4
  clear hE3
  generalize ({ l := _, s := _, w := _, f := _, a := _ } : Cnt) = q4 at hE4
  replace hE4 := hE4.newU w4.heap.size rfl 34
  go_wp2_with fail
  refine (epoch13_any _).mono ?_
  rintro o w5 ⟨rfl, hb⟩
  replace hE4 := hE4.over hb
  clear hb
  generalize w4.heap.size = m at *
  go_wp2_with fail
  refine (refSet_any 1 0 0 1 (by simp) (hE4.ref 0 rfl)).mono ?_
  rintro o w6 ⟨rfl, F6, hU, hs⟩
  replace hE4 := hE4.turnU 0 rfl hU hs
  simp only [List.set_cons_zero] at hE4
  clear hU hs
  have r0 := hE4.rule 3 rfl
  go_wp2_with fail
  refine (threads_t k n b h 1048576 A cap rs HR4.out HROW.out HC2.out hE4).mono ?_
  rintro o w7 ⟨g, cp, ps, rfl, hpl, hps, hE7⟩
  have hf0 : upd (fun _ => 0) (1, 0, 0) 1 = getL ml0 := by
    funext x
    show _ = getL [((1, 0, 0), 1)] x
    unfold upd
    simp only [getL]
    by_cases hx : x = (1, 0, 0)
    · rw [if_pos hx, if_pos hx.symm]
    · rw [if_neg hx, if_neg (fun e => hx e.symm)]
  rw [hf0] at hE7
  have hE8 : Env W (EL ⟨k, n, b, h, 1048576⟩ (.slice (some ⟨g, 0, none⟩) rs.length cp) p cc m ⟨ps, F4, F6, q4, 0 + 1, ml0⟩ [boxI Y [.int .i64 k, .int .i64 n, .int .i64 b, .int .i64 h, .int .i64 1048576], boxI X [.int .i64 k, .int .i64 s, .int .i64 b, .int .i64 h, .int .i64 l]]) w7 := by
    refine hE7.perm (perm_of fun z => ?_)
    simp only [EL, List.count_cons, List.count_append, List.count_nil, ml0]
    omega
  have hgo := start_ok (w0 := W) (S := ⟨ps, F4, F6, q4, 0 + 1, ml0⟩) HCK.out HR.out hpl hps rfl (Nat.le_refl 1)
  have hap := Ap.start (S := ⟨ps, F4, F6, q4, 0 + 1, ml0⟩) HCK.out rfl hpl hps
  have HAP := Lib.hid hap
  have hbq := Bq.start (S := ⟨ps, F4, F6, q4, 0 + 1, ml0⟩) rfl hpl hps
  have HBQ := Lib.hid hbq
  have hdc : ∀ (i : Nat) (q : Pk), ps[i]? = some q → q.X.dc = (rs.getD i default).cap := fun i q hi => by
    have hil : i < rs.length := by rw [← hpl]; exact (List.getElem?_eq_some_iff.1 hi).1
    obtain ⟨q9, h1, h2⟩ := hps i hil
    rw [hi] at h1
    obtain rfl := Option.some.inj h1
    exact h2.2.2.2.2.2.2
  have HDC := Lib.hid hdc
  clear hdc
  clear hbq
  clear hE7 hE4 hps hpl r0 hf0 hap
  have HGO := Lib.hid hgo
  clear hgo
  go_wp2_with fail
  go_loopw [13] (fun iv wr => ∃ (j : Nat) (S : GS) (P : List Int), j ≤ zs.length ∧ iv = .int .i64 j ∧ GOk ⟨k, n, b, h, 1048576⟩ rs (40 + j) S ∧ Ap ⟨k, n, b, h, 1048576⟩ S P j ∧ Bq S j ∧ (∀ (i : Nat) (q : Pk), S.ps[i]? = some q → q.X.dc = (rs.getD i default).cap) ∧ Env W (EL ⟨k, n, b, h, 1048576⟩ (.slice (some ⟨g, 0, none⟩) rs.length cp) p cc m S [boxI Y [.int .i64 k, .int .i64 n, .int .i64 b, .int .i64 h, .int .i64 1048576], boxI X [.int .i64 k, .int .i64 s, .int .i64 b, .int .i64 h, .int .i64 l]]) wr) (fun iv _ => zs.length - (intOf iv).toNat)
  case atStart => exact ⟨0, _, [], Nat.zero_le _, rfl, HGO.out, HAP.out, HBQ.out, HDC.out, hE8⟩
  case round =>
    clear hE8 HGO HAP HBQ HDC
    obtain ⟨j, S, P, hj, rfl, hgo, hap, hbq, hdc, hE⟩ := hrel
    by_cases hlt : j < zs.length
    · have hb1 : decide ((j : Int) < (zs.length : Int)) = true := by simp; omega
      rcases HROW2.out with h0 | ⟨bb, off, rfl, hbl, hc⟩
      · rw [h0] at hlt; simp at hlt
      obtain ⟨z, hz9⟩ : ∃ z, zs.getD j 0 = z := ⟨_, rfl⟩
      have hd0 : wr.cell? ⟨bb, off + j, none⟩ = some (.int .i64 z) := by rw [hE.below.cell (p := ⟨bb, off + j, none⟩) (by rw [HX.out]; exact hbl), hc j hlt, hz9]
      have hr1 := HR1.out
      have hr4 := HR4.out
      have hwl : IntKind.u64.wrap (rs.length : Int) = (rs.length : Int) := by rw [IntKind.wrap_u64]; omega
      obtain ⟨t, ht, htl⟩ : ∃ t : Nat, (IntKind.u64.wrap z).tmod (rs.length : Int) = (t : Int) ∧ t < rs.length := by
        have h0 : 0 ≤ IntKind.u64.wrap z := by rw [IntKind.wrap_u64]; omega
        refine ⟨((IntKind.u64.wrap z) % (rs.length : Int)).toNat, ?_, ?_⟩
        · rw [Int.tmod_eq_emod_of_nonneg h0, Int.toNat_of_nonneg (Int.emod_nonneg _ (by omega))]
        · have := Int.emod_lt_of_pos (IntKind.u64.wrap z) (show 0 < (rs.length : Int) by omega)
          have := Int.emod_nonneg (IntKind.u64.wrap z) (show (rs.length : Int) ≠ 0 by omega)
          omega
      obtain ⟨q, hq, hQ⟩ := hgo.ps t htl
      have htq : wr.cell? ⟨g, t, none⟩ = some (.pointer (some ⟨q.X.thr, 0, none⟩)) := by
        have := hE.tpAt 0 rfl t (by rw [List.length_map, hgo.len]; exact htl)
        rw [this]
        simp [List.getD_eq_getElem?_getD, hq]
      have htl' : (t : Int) < (rs.length : Int) := by omega
      have hnz : (rs.length : Int) ≠ 0 := by omega
      have hj9 : j ≤ 300 := by omega
      have hsl : S.ps.length = rs.length := hgo.len
      go_wp2_with fail
      refine (step_pk HG.out HCK.out HR.out hgo (by omega) htl hq hE).mono ?_
      rintro o w11 ⟨rfl, S', q', hps', hthr, hdq, hT', hml', hgo', hE'⟩
      obtain ⟨P', hap'⟩ := hap.step HCK.out hgo (by omega) htl hq hps' hT' hml'
      have hbq' := hbq.step hgo htl hq hps' hT' hml'
      have hdc' : ∀ (i : Nat) (q : Pk), S'.ps[i]? = some q → q.X.dc = (rs.getD i default).cap := fun i q2 hi => by
        rw [hps'] at hi
        by_cases he : t = i
        · subst he
          simp [hsl, htl] at hi
          rw [← hi, hdq]
          exact hdc t q hq
        · rw [List.getElem?_set_ne he] at hi
          exact hdc i q2 hi
      clear hE hQ hap hps' hT' hml' hd0 hc hz9 htq ht
      go_wp2_with fail
      exact ⟨⟨j + 1, S', P', by omega, by simp, hgo', hap', hbq', hdc', hE'⟩, by simp [intOf]; omega⟩
    · have hb1 : decide ((j : Int) < (zs.length : Int)) = false := by simp; omega
      have hjz : j ≤ 300 := by omega
      go_upto_region 17 with fail
      have hr1 := HR1.out
      have hr4 := HR4.out
      have hwl : IntKind.u64.wrap (rs.length : Int) = (rs.length : Int) := by rw [IntKind.wrap_u64]; omega
      obtain ⟨t, ht, htl⟩ : ∃ t : Nat, (IntKind.u64.wrap who).tmod (rs.length : Int) = (t : Int) ∧ t < rs.length := by
        have h0 : 0 ≤ IntKind.u64.wrap who := by rw [IntKind.wrap_u64]; omega
        refine ⟨((IntKind.u64.wrap who) % (rs.length : Int)).toNat, ?_, ?_⟩
        · rw [Int.tmod_eq_emod_of_nonneg h0, Int.toNat_of_nonneg (Int.emod_nonneg _ (by omega))]
        · have := Int.emod_lt_of_pos (IntKind.u64.wrap who) (show 0 < (rs.length : Int) by omega)
          have := Int.emod_nonneg (IntKind.u64.wrap who) (show (rs.length : Int) ≠ 0 by omega)
          omega
      obtain ⟨q, hq, hQ⟩ := hgo.ps t htl
      have htq : wr.cell? ⟨g, t, none⟩ = some (.pointer (some ⟨q.X.thr, 0, none⟩)) := by
        have := hE.tpAt 0 rfl t (by rw [List.length_map, hgo.len]; exact htl)
        rw [this]
        simp [List.getD_eq_getElem?_getD, hq]
      have htl' : (t : Int) < (rs.length : Int) := by omega
      have hnz : (rs.length : Int) ≠ 0 := by omega
      have r7 := hE.thrE hq
      unfold thv at r7
      go_wp2_with fail
      refine (queue_c (hE.coreE hq)).mono ?_
      rintro o w8 ⟨rfl, rfl⟩
      go_wp2_with fail
      refine (list_any (hE.queE hq)).mono ?_
      rintro o w9 ⟨bL, rfl, hL, hbL, hb⟩
      replace hE := (hE.add (boxI bL (flat3 q.T.ql)) hb hL (fun y hy => by cases hy; exact ⟨hbL, hL.1⟩)).inE
      clear hb hL hbL r7 htq ht
      have r7 := hE.thrE hq
      unfold thv at r7
      have hTok := hQ.t
      by_cases hp2 : q.T.pc = 2
      · have b2 : (((q.T.pc : Nat) : Int) == 2) = true := by simp [hp2]
        clear hp2
        go_wp2_with fail
        go_ret
        exact ⟨rfl, hE.below⟩
      have b2 : (((q.T.pc : Nat) : Int) == 2) = false := by simp; omega
      by_cases hp4 : q.T.pc = 4
      · have b4 : (((q.T.pc : Nat) : Int) == 4) = true := by simp [hp4]
        have HP2 := Lib.hid hp2
        clear hp4 hp2
        go_wp2_with fail
        go_ret
        exact ⟨rfl, hE.below⟩
      have b4 : (((q.T.pc : Nat) : Int) == 4) = false := by simp; omega
      by_cases hq0 : q.T.ql = []
      · have b0 : (((q.T.ql.length : Nat) : Int) == 0) = true := by simp [hq0]
        have HP2 := Lib.hid hp2
        have HP4 := Lib.hid hp4
        have HQ0 := Lib.hid hq0
        clear hp4 hp2 hq0
        go_wp2_with fail
        go_ret
        exact ⟨rfl, hE.below⟩
      obtain ⟨A0, last, y0, z0, hA0⟩ : ∃ A0 last y0 z0, q.T.ql = A0 ++ [(last, y0, z0)] := ⟨q.T.ql.dropLast, (q.T.ql.getLast hq0).1, (q.T.ql.getLast hq0).2.1, (q.T.ql.getLast hq0).2.2, (List.dropLast_concat_getLast hq0).symm⟩
      have hM : q.T.ql.length = A0.length + 1 := by rw [hA0]; simp
      have b0 : (((q.T.ql.length : Nat) : Int) == 0) = false := by rw [beq_eq_false_iff_ne]; omega
      have hlm : IntKind.i64.wrap (((q.T.ql.length : Nat) : Int) - 1) = (A0.length : Int) := by
        have := hTok.len
        rw [wrap_i, w64 _ (by omega), hM]
        omega
      have hMn : ((A0.length : Nat) : Int) + 1 ≤ n := by
        obtain ⟨-, -, f3, -⟩ := hap.facts HCK.out hgo.f
        have f3 : ((S.ps.flatMap hqP ++ P).length : Int) ≤ n := f3
        have h1 := flat_take_len hqP S.ps (t + 1)
        rw [take_flat hqP hq, List.length_append] at h1
        have h2 : (hqP q).length = (if q.T.hs = 0 then ([] : List Int) else [q.T.hs]).length + q.T.ql.length := by
          show (Go.Proofs.YtmifdkbpbkafjaaGreatDoor.hq q.T.hs q.T.ql).length = _
          unfold Go.Proofs.YtmifdkbpbkafjaaGreatDoor.hq
          rw [List.length_append, List.length_map]
        rw [List.length_append] at f3
        omega
      have hcl : w9.cell? ⟨bL, A0.length * 3, none⟩ = some (.int .i64 last) := by
        have := (hE.boxE (n := bL) (vs := flat3 q.T.ql) (by simp) (A0.length * 3 + 0)).trans (flat3_get q.T.ql A0.length 0 (by omega) (by omega))
        have hg9 : q.T.ql.getD A0.length t0 = (last, y0, z0) := by rw [hA0]; simp [List.getD_eq_getElem?_getD]
        rw [hg9] at this
        simpa [enc3] using this
      have hMl : ((A0.length : Nat) : Int) < ((q.T.ql.length : Nat) : Int) := by omega
      have HA0 := Lib.hid hA0
      have HP2 := Lib.hid hp2
      have HP4 := Lib.hid hp4
      have HM := Lib.hid hM
      have HMN := Lib.hid hMn
      clear hA0 hq0 hp2 hp4 hM hMn
      have hE2 := hE.addEmptyK (enc := encD) (k := 5) w9.heap.size rfl 77
      go_wp2_with fail
      clear hE r7 hcl
      go_loopw [17, 18] (fun mv iv v => ∃ (i : Nat) (A9 : Option Addr) (c9 : Nat), (i : Int) ≤ n + 1 ∧ iv = .int .i64 (i : Int) ∧ mv = .slice A9 (moreL i).length c9 ∧ Env W (rowKI encD 5 (.slice A9 (moreL i).length c9) 77 (moreL i) :: EL ⟨k, n, b, h, 1048576⟩ (.slice (some ⟨g, 0, none⟩) rs.length cp) p cc m S (boxI bL (flat3 q.T.ql) :: [boxI Y [.int .i64 k, .int .i64 n, .int .i64 b, .int .i64 h, .int .i64 1048576], boxI X [.int .i64 k, .int .i64 s, .int .i64 b, .int .i64 h, .int .i64 l]])) v) (fun _ iv _ => 60 - (intOf iv).toNat)
      case atStart => exact ⟨0, _, _, by omega, rfl, rfl, hE2⟩
      case round =>
        clear hE2
        obtain ⟨i, A9, c9, hi, rfl, rfl, hE⟩ := hrel
        have rY := (show Env W (EL ⟨k, n, b, h, 1048576⟩ (.slice (some ⟨g, 0, none⟩) rs.length cp) p cc m S (boxI bL (flat3 q.T.ql) :: [boxI Y [.int .i64 k, .int .i64 n, .int .i64 b, .int .i64 h, .int .i64 1048576], boxI X [.int .i64 k, .int .i64 s, .int .i64 b, .int .i64 h, .int .i64 l]])) wr from hE.sub (.cons _ (List.Sublist.refl _))).boxE (n := Y) (vs := [.int .i64 k, .int .i64 n, .int .i64 b, .int .i64 h, .int .i64 1048576]) (by simp)
        have hml := moreL_len i
        by_cases hin : (i : Int) ≤ n
        · have hb3 : decide ((i : Int) ≤ n) = true := by simp [hin]
          have hbk := (Blk.new 0 wr (flatK encD [(⟨4, 0, 0, 0, 0⟩ : Dd), ⟨1, 1, 0, 0, 0⟩]) 77).rowK encD_len
          obtain ⟨A6, c6, w6, hrun, hE6⟩ := (hE.more (.cells (flatK encD [(⟨4, 0, 0, 0, 0⟩ : Dd), ⟨1, 1, 0, 0, 0⟩]).toArray 77)).appendK encD_len (by decide) encD_one 0 rfl 50 50 Tryz.underlying50 (zz := .agg #[.int .i64 0, .int .i64 0, .int .u64 0, .int .u64 0, .int .i64 0]) (bytes := 40) rfl infoDd 2 hbk (fun h => by cases h) (by rw [hml]; simp [maxLen]; omega) (by rw [hml]; simp; omega)
          have hln : (moreL i).length + 2 = (moreL (i + 1)).length := by rw [moreL_len, moreL_len]; omega
          rw [show ([(⟨4, 0, 0, 0, 0⟩ : Dd), ⟨1, 1, 0, 0, 0⟩] : List Dd).length = 2 from rfl, hln] at hrun hE6
          simp only [List.set_cons_zero] at hE6
          have HRUN := Lib.hid hrun
          clear hrun hE hbk hml
          go_wp2_with (first | (at_builtin; refine wpList_append_run rfl _ _ 50 rfl HRUN.out rfl rfl ?_))
          exact ⟨⟨i + 1, A6, c6, by omega, by simp, by first | rfl | (rw [← hln]; done) | (simp; done), hE6⟩, by simp [intOf]; omega⟩
        · have hb3 : decide ((i : Int) ≤ n) = false := by simp; omega
          have hin9 : (i : Int) = n + 1 := by omega
          have hcap := (HOK.out _ (show rs.getD t default ∈ rs by rw [List.getD_eq_getElem?_getD, List.getElem?_eq_getElem htl]; exact List.getElem_mem htl)).2
          have hrow : RowX encD 5 W (rs.getD t default).A (rs.getD t default).ds := (HR.out t htl).row
          have hins := (HR.out t htl).ins
          have hd40 := HD.out t htl
          have hqA : q.X.dA = (rs.getD t default).A := hQ.dA
          have hqn : q.X.dn = (rs.getD t default).ds.length := hQ.dn
          have hqc : q.X.dc = (rs.getD t default).cap := hdc t q hq
          have hnd := hTok.nd
          generalize hrr : rs.getD t default = r at *
          rw [← hqA] at hrow
          rw [← hqc] at hcap
          obtain ⟨N0, hN0⟩ : ∃ N0, wr.heap.size = N0 := ⟨_, rfl⟩
          have hE0 : Env W (rowKI encD 5 (.slice A9 (moreL i).length c9) 77 (moreL i) :: EL ⟨k, n, b, h, 1048576⟩ (.slice (some ⟨g, 0, none⟩) rs.length cp) p cc m S (boxI bL (flat3 q.T.ql) :: [boxI Y [.int .i64 k, .int .i64 n, .int .i64 b, .int .i64 h, .int .i64 1048576], boxI X [.int .i64 k, .int .i64 s, .int .i64 b, .int .i64 h, .int .i64 l]])) wr.drew := hE.drew
          have hE1 := hE0.addEmptyK (enc := encD) (k := 5) N0 (show wr.drew.heap.size = N0 from hN0) 77
          have hln1 : (r.ds.take q.T.nd).length = q.T.nd := by rw [List.length_take]; omega
          obtain ⟨A6, c6, W2, hrun1, hE2⟩ := hE1.appendK encD_len (by decide) encD_one 0 rfl 50 50 Tryz.underlying50 (zz := .agg #[.int .i64 0, .int .i64 0, .int .u64 0, .int .u64 0, .int .i64 0]) (bytes := 40) rfl infoDd q.X.dc ((hrow.take q.T.nd).below hE1.below) (fun hA => (hrow.take q.T.nd).none hA) (by rw [hln1]; simp [maxLen]; omega) (by rw [hln1]; simp; omega)
          simp only [List.set_cons_zero, List.nil_append, List.length_nil, Nat.zero_add] at hrun1 hE2
          rw [hln1] at hrun1 hE2
          have hrm := hE2.cellsK encD_len 1 rfl rfl
          obtain ⟨A7, c7, W3, hrun2, hE3⟩ := hE2.appendK encD_len (by decide) encD_one 0 rfl 50 50 Tryz.underlying50 (zz := .agg #[.int .i64 0, .int .i64 0, .int .u64 0, .int .u64 0, .int .i64 0]) (bytes := 40) rfl infoDd c9 hrm (fun hA => hrm.none hA) (by rw [hln1, hml]; simp [maxLen]; omega) (by rw [hln1, hml]; omega)
          rw [hln1] at hrun2 hE3
          simp only [List.set_cons_zero] at hE3
          have hE3' := (show Env W (EL ⟨k, n, b, h, 1048576⟩ (.slice (some ⟨g, 0, none⟩) rs.length cp) p cc m S (rowKI encD 5 (.slice A7 (q.T.nd + (moreL i).length) c7) 77 (r.ds.take q.T.nd ++ moreL i) :: rowKI encD 5 (.slice A9 (moreL i).length c9) 77 (moreL i) :: boxI bL (flat3 q.T.ql) :: [boxI Y [.int .i64 k, .int .i64 n, .int .i64 b, .int .i64 h, .int .i64 1048576], boxI X [.int .i64 k, .int .i64 s, .int .i64 b, .int .i64 h, .int .i64 l]])) W3 from ((hE3.perm (List.Perm.swap _ _ _)).perm ((EL_cons.cons _))).inE.perm (perm_of fun z => by
            simp only [EL, List.count_cons, List.count_append]
            omega))
          have hE4 := hE3'.deeds hq A7 (q.T.nd + (moreL i).length) c7
          have hd2 : RowX encD 5 W3 A7 (r.ds.take q.T.nd ++ moreL i) := hE3.cellsK encD_len 0 (by rw [List.length_append, hln1]) rfl
          have cells : ∀ v, Env W (EL ⟨k, n, b, h, 1048576⟩ (.slice (some ⟨g, 0, none⟩) rs.length cp) p cc m S (boxI bL (flat3 q.T.ql) :: [boxI Y [.int .i64 k, .int .i64 n, .int .i64 b, .int .i64 h, .int .i64 1048576], boxI X [.int .i64 k, .int .i64 s, .int .i64 b, .int .i64 h, .int .i64 l]])) v → v.cell? ⟨q.X.thr, 2, none⟩ = some (.slice q.X.dA q.X.dn q.X.dc) ∧ v.cell? ⟨q.X.thr, 3, none⟩ = some (.int .i64 (q.T.nd : Int)) := fun v hv => ⟨hv.thrE hq 2, hv.thrE hq 3⟩
          have HCE : Hid (∀ jj v, jj ≤ 3 → [wr.drew, wr.drew.alloc (.cells #[] 77), W2, W3, W3.setCell ⟨q.X.thr, 2, none⟩ (.slice A7 (q.T.nd + (moreL i).length) c7)][jj]? = some v → v.cell? ⟨q.X.thr, 2, none⟩ = some (.slice q.X.dA q.X.dn q.X.dc) ∧ v.cell? ⟨q.X.thr, 3, none⟩ = some (.int .i64 (q.T.nd : Int))) := Lib.hid fun jj v hj hv => by
            rcases jj with _ | _ | _ | _ | jj
            · cases hv
              exact cells _ (hE0.sub (.cons _ (List.Sublist.refl _)))
            · cases hv
              exact cells _ (hE1.sub (.cons _ (.cons _ (List.Sublist.refl _))))
            · cases hv
              exact cells _ (hE2.sub (.cons _ (.cons _ (List.Sublist.refl _))))
            · cases hv
              exact cells _ (hE3.sub (.cons _ (.cons _ (List.Sublist.refl _))))
            · omega
          have HR1' := Lib.hid hrun1
          have HR2' := Lib.hid hrun2
          have HE4 := Lib.hid hE4
          have HD2 := Lib.hid hd2
          have hndn : (q.T.nd : Int) ≤ (q.X.dc : Int) := by omega
          have hndn2 : q.T.nd ≤ q.X.dc := by omega
          have HW3 : Hid (W3.cell? ⟨q.X.thr, 2, none⟩ = some (.slice q.X.dA q.X.dn q.X.dc) ∧ W3.frozen? ⟨q.X.thr, 2, none⟩ = false ∧ q.X.thr < W3.heap.size) := Lib.hid ⟨(cells _ (hE3.sub (.cons _ (.cons _ (List.Sublist.refl _))))).1, (hE3'.toT hq).thaw 7 rfl 2 (by simp [thv]), (hE3'.toT hq).boxLt 7 rfl⟩
          have HQ9 := Lib.hid (And.intro hqA (And.intro hqn hqc))
          have HML := Lib.hid hml
          clear hqA hqn hqc hml
          clear hE0 hE1 hE2 hE3 hE3' hE4 hrun1 hrun2 hrow hrm cells hE hd2
          go_upto_region 27 with fail
          refine Ord.wp_chain2 [1, 11, 13, 16] (fun _ => True) (fun jj v => [wr.drew, wr.drew.alloc (.cells #[] 77), W2, W3, W3.setCell ⟨q.X.thr, 2, none⟩ (.slice A7 (q.T.nd + (moreL i).length) c7)][jj]? = some v) (by kernel_rfl) (by kernel_rfl) (by kernel_rfl) trivial rfl (fun hT => ?_)
          have hT9 := Lib.hid hT
          clear hT
          repeat (first
            | (refine Ord.ch2_value (v := ?_) hT9.out (by decide) (by rfl) ?_ ?_; rotate_left; (focus (intro w5 hS; skip; go_simp <;> with_reducible rfl)); (try simp only [Act.put, List.setIfInBounds_toArray, List.set_cons_zero, List.set_cons_succ]))
            | (refine Ord.ch2_off hT9.out (by decide) (by rfl) ?_; (try simp only [Act.put, List.setIfInBounds_toArray, List.set_cons_zero, List.set_cons_succ])))
          refine Ord.ch2_turn 0 hT9.out (by rfl) (by decide) (Or.inl rfl) (by rfl) (v := .slice (some ⟨N0, 0, none⟩) 0 0) ?_ ?_
          · intro w5 hS hA
            cases hA
            go_simp
            simp only [Ord.LandsIn]
            first | exact trivial | exact ⟨trivial, trivial⟩ | exact ⟨hN0, trivial⟩ | simp [hN0]
          (try simp only [Act.put, List.setIfInBounds_toArray, List.set_cons_zero, List.set_cons_succ])
          repeat (first
            | (refine Ord.ch2_value (v := ?_) hT9.out (by decide) (by rfl) ?_ ?_; rotate_left; (focus (intro w5 hS; skip; go_simp <;> with_reducible rfl)); (try simp only [Act.put, List.setIfInBounds_toArray, List.set_cons_zero, List.set_cons_succ]))
            | (refine Ord.ch2_off hT9.out (by decide) (by rfl) ?_; (try simp only [Act.put, List.setIfInBounds_toArray, List.set_cons_zero, List.set_cons_succ])))
          refine Ord.ch2_early 3 hT9.out (by decide) (by rfl) (by kernel_rfl) (by decide) (by rfl) (v := .slice q.X.dA q.X.dn q.X.dc) ?_ ?_
          · intro w5 j5 hj5 hS hA
            obtain ⟨r1, r2⟩ := HCE.out j5 w5 hj5 hA
            go_simp <;> with_reducible rfl
          (try simp only [Act.put, List.setIfInBounds_toArray, List.set_cons_zero, List.set_cons_succ])
          repeat (first
            | (refine Ord.ch2_value (v := ?_) hT9.out (by decide) (by rfl) ?_ ?_; rotate_left; (focus (intro w5 hS; skip; go_simp <;> with_reducible rfl)); (try simp only [Act.put, List.setIfInBounds_toArray, List.set_cons_zero, List.set_cons_succ]))
            | (refine Ord.ch2_off hT9.out (by decide) (by rfl) ?_; (try simp only [Act.put, List.setIfInBounds_toArray, List.set_cons_zero, List.set_cons_succ])))
          refine Ord.ch2_early 3 hT9.out (by decide) (by rfl) (by kernel_rfl) (by decide) (by rfl) (v := .int .i64 (q.T.nd : Int)) ?_ ?_
          · intro w5 j5 hj5 hS hA
            obtain ⟨r1, r2⟩ := HCE.out j5 w5 hj5 hA
            go_simp <;> with_reducible rfl
          (try simp only [Act.put, List.setIfInBounds_toArray, List.set_cons_zero, List.set_cons_succ])
          refine Ord.ch2_value (v := .slice q.X.dA q.T.nd q.X.dc) hT9.out (by decide) (by rfl) ?_ ?_
          · intro w5 hS
            go_simp
            try exact fun h => absurd h (by omega)
          (try simp only [Act.put, List.setIfInBounds_toArray, List.set_cons_zero, List.set_cons_succ])
          refine Ord.ch2_turn 1 hT9.out (by rfl) (by decide) (Or.inr ⟨_, rfl, by kernel_rfl⟩) (by rfl) (v := .slice A6 q.T.nd c6) ?_ ?_
          · intro w5 hS hA
            cases hA
            refine append_lands rfl HR1'.out (by rfl) (by rfl) ⟨trivial, rfl⟩
          (try simp only [Act.put, List.setIfInBounds_toArray, List.set_cons_zero, List.set_cons_succ])
          repeat (first
            | (refine Ord.ch2_value (v := ?_) hT9.out (by decide) (by rfl) ?_ ?_; rotate_left; (focus (intro w5 hS; skip; go_simp <;> with_reducible rfl)); (try simp only [Act.put, List.setIfInBounds_toArray, List.set_cons_zero, List.set_cons_succ]))
            | (refine Ord.ch2_off hT9.out (by decide) (by rfl) ?_; (try simp only [Act.put, List.setIfInBounds_toArray, List.set_cons_zero, List.set_cons_succ])))
          refine Ord.ch2_turn 2 hT9.out (by rfl) (by decide) (Or.inr ⟨_, rfl, by kernel_rfl⟩) (by rfl) (v := .slice A7 (q.T.nd + (moreL i).length) c7) ?_ ?_
          · intro w5 hS hA
            cases hA
            refine append_lands rfl HR2'.out (by rfl) (by rfl) ⟨trivial, rfl⟩
          (try simp only [Act.put, List.setIfInBounds_toArray, List.set_cons_zero, List.set_cons_succ])
          repeat (first
            | (refine Ord.ch2_value (v := ?_) hT9.out (by decide) (by rfl) ?_ ?_; rotate_left; (focus (intro w5 hS; skip; go_simp <;> with_reducible rfl)); (try simp only [Act.put, List.setIfInBounds_toArray, List.set_cons_zero, List.set_cons_succ]))
            | (refine Ord.ch2_off hT9.out (by decide) (by rfl) ?_; (try simp only [Act.put, List.setIfInBounds_toArray, List.set_cons_zero, List.set_cons_succ])))
          refine Ord.ch2_turn 3 hT9.out (by rfl) (by decide) (Or.inr ⟨_, rfl, by kernel_rfl⟩) (by rfl) (v := undef) ?_ ?_
          · intro w5 hS hA
            cases hA
            obtain ⟨r1, z1, hcl⟩ := HW3.out
            go_simp
            first | exact ⟨rfl, trivial, rfl⟩ | rfl | trivial
          (try simp only [Act.put, List.setIfInBounds_toArray, List.set_cons_zero, List.set_cons_succ])
          repeat (first
            | (refine Ord.ch2_value (v := ?_) hT9.out (by decide) (by rfl) ?_ ?_; rotate_left; (focus (intro w5 hS; skip; go_simp <;> with_reducible rfl)); (try simp only [Act.put, List.setIfInBounds_toArray, List.set_cons_zero, List.set_cons_succ]))
            | (refine Ord.ch2_off hT9.out (by decide) (by rfl) ?_; (try simp only [Act.put, List.setIfInBounds_toArray, List.set_cons_zero, List.set_cons_succ])))
          refine Ord.InText.nil fun w5 hS => ?_
          clear hT9
          obtain ⟨hC9, hA9⟩ := Ord.chain2_end hS
          clear hS
          cases hA9
          have hE := HE4.out
          have hd2 := HD2.out
          clear HE4 HD2 HW3 HCE HR1' HR2' hC9
          generalize W3.setCell _ _ = wS at hE ⊢
          have hlen2 : q.T.nd + (moreL i).length = (r.ds.take q.T.nd ++ moreL i).length := by rw [List.length_append, hln1]
          rw [hlen2] at hE
          obtain ⟨r2, hr2⟩ : ∃ r2 : Rw, r2 = ⟨A7, c7, (r.ds.take q.T.nd ++ moreL i)⟩ := ⟨_, rfl⟩
          have hlr : (r.ds.take q.T.nd ++ moreL i).length ≤ 1000 := by rw [← hlen2, HML.out]; omega
          have hgo2 : GOk ⟨k, n, b, h, 1048576⟩ (rs.set t r2) (40 + j + 1000) { S with ps := S.ps.set t ⟨{ q.X with dA := A7, dn := (r.ds.take q.T.nd ++ moreL i).length, dc := c7 }, q.T, q.ms⟩ } := by
            have := hgo.other htl hq HP2.out r2 (by rw [hr2]; show q.T.nd ≤ (r.ds.take q.T.nd ++ moreL i).length; omega) (by rw [hr2]; exact hlr)
            rw [hr2] at this ⊢
            exact this
          have hg2 : (rs.set t r2).getD t default = r2 := by simp [List.getD_eq_getElem?_getD, htl]
          have hOkD : OkD W (rowKI encD 5 (.slice A7 (r.ds.take q.T.nd ++ moreL i).length c7) 77 (r.ds.take q.T.nd ++ moreL i) :: rowKI encD 5 (.slice A9 (moreL i).length c9) 77 (moreL i) :: boxI bL (flat3 q.T.ql) :: [boxI Y [.int .i64 k, .int .i64 n, .int .i64 b, .int .i64 h, .int .i64 1048576], boxI X [.int .i64 k, .int .i64 s, .int .i64 b, .int .i64 h, .int .i64 l]]) ((rs.set t r2).getD t default) := by
            rw [hg2, hr2]
            refine ⟨DsAt.of_own encD_len rfl (List.mem_cons_self) hd2, hlr, fun d hd => ?_⟩
            rcases List.mem_append.1 hd with hd | hd
            · exact hins d (List.mem_of_mem_take hd)
            · exact moreL_in i d hd
          have hAlt : Alt ((rs.set t r2).getD t default).ds q.T.nd i := by
            rw [hg2, hr2]
            exact alt_of hnd
          have hmn := HMN.out
          have hbk : Bk ⟨k, n, b, h, 1048576⟩ q.T.nd i A0.length q.T.done last (10 * A0.length + 6) (getL S.ml) q.T :=
            bk_start HCK.out rfl hgo.f (hbq.thr t q hq).1 (by have := hbq.ep; omega) HA0.out rfl (by omega) (by rcases hTok.pc with h9 | h9 | h9 | h9 | h9; exact .inl h9; exact .inr (.inl h9); exact absurd h9 HP2.out; exact .inr (.inr h9); exact absurd h9 HP4.out) hTok.rpc hTok.p1 (hbq.thr t q hq).2.2 (by omega)
          have hlast : 1 ≤ last := (hTok.ql (last, y0, z0) (by rw [HA0.out]; simp)).1
          have hdone := hTok.done
          have hq2 : (S.ps.set t ⟨{ q.X with dA := A7, dn := (r.ds.take q.T.nd ++ moreL i).length, dc := c7 }, q.T, q.ms⟩)[t]? = some ⟨{ q.X with dA := A7, dn := (r.ds.take q.T.nd ++ moreL i).length, dc := c7 }, q.T, q.ms⟩ := by
            have hsl : S.ps.length = rs.length := hgo.len
            simp [hsl, htl]
          have r7 := hE.thrE (i := t) hq2
          unfold thv at r7
          dsimp only at r7
          have HRS2 := Lib.hid hr2
          obtain ⟨fr, hfr⟩ : ∃ fr, q.T.done = fr := ⟨_, rfl⟩
          rw [hfr] at r7 hbk hdone
          have HFR := Lib.hid hfr
          have htl2 : t < (rs.set t r2).length := by simp [htl]
          obtain ⟨rs2, hrs2⟩ : ∃ rs2, rs2 = rs.set t r2 := ⟨_, rfl⟩
          rw [← hrs2] at hgo2 hOkD hAlt htl2
          have HGO2 := Lib.hid hgo2
          have HOKD := Lib.hid hOkD
          have HALT := Lib.hid hAlt
          have HBK := Lib.hid hbk
          clear hr2 hg2 hgo2 hOkD hAlt hbk hfr hd2 hrs2 hlen2
          go_wp2_with fail
          clear r7
          go_loopw [20] (fun iv v => ∃ (ii mu : Nat) (S3 : GS) (q3 : Pk), iv = .int .i64 (ii : Int) ∧ (ii : Int) + (mu : Int) < 20 * (n + 2) ∧ GOk ⟨k, n, b, h, 1048576⟩ rs2 (1040 + j + ii) S3 ∧ S3.ps[t]? = some q3 ∧ q3.X.thr = q.X.thr ∧ Bk ⟨k, n, b, h, 1048576⟩ q.T.nd i A0.length fr last mu (getL S3.ml) q3.T ∧ Env W (EL ⟨k, n, b, h, 1048576⟩ (.slice (some ⟨g, 0, none⟩) rs.length cp) p cc m S3 (rowKI encD 5 (.slice A7 (r.ds.take q.T.nd ++ moreL i).length c7) 77 (r.ds.take q.T.nd ++ moreL i) :: rowKI encD 5 (.slice A9 (moreL i).length c9) 77 (moreL i) :: boxI bL (flat3 q.T.ql) :: [boxI Y [.int .i64 k, .int .i64 n, .int .i64 b, .int .i64 h, .int .i64 1048576], boxI X [.int .i64 k, .int .i64 s, .int .i64 b, .int .i64 h, .int .i64 l]])) v) (fun iv _ => 2000 - (intOf iv).toNat)
          case atStart => exact ⟨0, 10 * A0.length + 6, ({ S with ps := S.ps.set t ⟨{ q.X with dA := A7, dn := (r.ds.take q.T.nd ++ moreL i).length, dc := c7 }, q.T, q.ms⟩ } : GS), (⟨{ q.X with dA := A7, dn := (r.ds.take q.T.nd ++ moreL i).length, dc := c7 }, q.T, q.ms⟩ : Pk), rfl, by omega, by rw [show 1040 + j + 0 = 40 + j + 1000 by omega]; exact HGO2.out, hq2, rfl, HBK.out, hE⟩
          case round =>
            clear hE
            obtain ⟨ii, mu, S3, q3, rfl, hiimu, hgo3, hq3, hthr3, hbk, hE⟩ := hrel
            have hdn3 := bk_done hbk
            obtain ⟨q0, hq0, hQ3⟩ := hgo3.ps t htl2
            obtain rfl : q0 = q3 := by rw [hq3] at hq0; exact (Option.some.inj hq0).symm
            have hqd := hQ3.t.done
            have hw1 : IntKind.i64.wrap (n + 2) = n + 2 := by rw [wrap_i]; exact w64 _ (by omega)
            have hw2 : IntKind.i64.wrap (20 * (n + 2)) = 20 * (n + 2) := by rw [wrap_i]; exact w64 _ (by omega)
            have hw3 : IntKind.i64.wrap (fr + n) = fr + n := by rw [wrap_i]; exact w64 _ (by omega)
            have hb5 : decide ((ii : Int) < 20 * (n + 2)) = true := by simp; omega
            have hb6 : decide (q0.T.done ≤ fr + n) = true := by simp; omega
            have HC : Hid (∀ v, Env W (EL ⟨k, n, b, h, 1048576⟩ (.slice (some ⟨g, 0, none⟩) rs.length cp) p cc m S3 (rowKI encD 5 (.slice A7 (r.ds.take q.T.nd ++ moreL i).length c7) 77 (r.ds.take q.T.nd ++ moreL i) :: rowKI encD 5 (.slice A9 (moreL i).length c9) 77 (moreL i) :: boxI bL (flat3 q.T.ql) :: [boxI Y [.int .i64 k, .int .i64 n, .int .i64 b, .int .i64 h, .int .i64 1048576], boxI X [.int .i64 k, .int .i64 s, .int .i64 b, .int .i64 h, .int .i64 l]])) v → (∀ z, v.cell? ⟨Y, z, none⟩ = [.int .i64 k, .int .i64 n, .int .i64 b, .int .i64 h, .int .i64 1048576][z]?) ∧ v.cell? ⟨q.X.thr, 11, none⟩ = some (.int .i64 q0.T.done)) := Lib.hid fun v hv => ⟨hv.boxE (by simp), by rw [← hthr3]; exact hv.thrE hq3 11⟩
            go_wp2_with fail
            refine wp_text (S := (Env W (EL ⟨k, n, b, h, 1048576⟩ (.slice (some ⟨g, 0, none⟩) rs.length cp) p cc m S3 (rowKI encD 5 (.slice A7 (r.ds.take q.T.nd ++ moreL i).length c7) 77 (r.ds.take q.T.nd ++ moreL i) :: rowKI encD 5 (.slice A9 (moreL i).length c9) 77 (moreL i) :: boxI bL (flat3 q.T.ql) :: [boxI Y [.int .i64 k, .int .i64 n, .int .i64 b, .int .i64 h, .int .i64 1048576], boxI X [.int .i64 k, .int .i64 s, .int .i64 b, .int .i64 h, .int .i64 l]])))) (by kernel_rfl) (by kernel_rfl) hE.drew (fun hT => ?_)
            have hT9 := Lib.hid hT
            clear hT
            repeat (first
              | (refine text_value (v := ?_) hT9.out (by rfl) ?_ ?_; rotate_left; (focus (intro w5 hS; obtain ⟨rY, r11⟩ := HC.out _ hS; go_simp <;> with_reducible rfl)); (try simp only [Act.put, List.setIfInBounds_toArray, List.set_cons_zero, List.set_cons_succ]))
              | (refine text_off hT9.out (by rfl) ?_; (try simp only [Act.put, List.setIfInBounds_toArray, List.set_cons_zero, List.set_cons_succ]))
              | (refine text_call (v := ?_) (f := ?_) (args := ?_) hT9.out (by rfl) ?_ ?_ ?_; rotate_left 3; (focus (intro w5 hS; obtain ⟨rY, r11⟩ := HC.out _ hS; go_simp; constructor <;> with_reducible rfl)); (focus (intro w5 hS; (first | fail))); (try simp only [Act.put, List.setIfInBounds_toArray, List.set_cons_zero, List.set_cons_succ])))
            refine InText.nil fun w5 hS5 => ?_
            clear hT9
            clear hE
            go_wp2_with fail
            rw [← hthr3]
            refine (step_pL HG.out HCK.out HOKD.out hgo3 (by omega) htl2 hq3 hS5).mono ?_
            rintro o w12 ⟨rfl, S4, q4', hps4, hthr4, -, hT4, hml4, hgo4, hE4⟩
            have hsl4 : S3.ps.length = rs2.length := hgo3.len
            have hq4 : S4.ps[t]? = some q4' := by rw [hps4]; simp [hsl4, htl2]
            have hbs := bk_step HCK.out hgo3.f hQ3.t HALT.out hbk
            rw [← hT4, ← hml4] at hbs
            have hdn4 : q4'.T.done - fr ≤ A0.length := by
              rcases hbs with ⟨-, h9⟩ | ⟨mu', -, h9⟩
              · exact h9
              · exact bk_done h9
            have r7 := hE4.thrE hq4
            unfold thv at r7
            rw [hthr4, hthr3] at r7
            clear hps4 hT4 hml4 hS5 HC hbk
            go_wp2_with fail
            refine (held_c (hE4.coreE hq4)).mono ?_
            rintro o w13 ⟨rfl, hb⟩
            replace hE4 := hE4.over hb
            clear hb r7
            replace hE4 := (hE4.box w13.heap.size rfl [.int .i64 q4'.T.hs, .int .i64 0] 67).inE
            by_cases hls : q4'.T.hs = last
            · have b8 : (q4'.T.hs != 0) = true := by simp; omega
              have b9 : (q4'.T.hs == last) = true := by simp [hls]
              have hb7 : decide (q4'.T.done ≤ fr + n) = true := by simp; omega
              have r0 := hE4.outE.rule 0 rfl
              clear hls hbs
              go_upto_region 36 with fail
              clear r0
              generalize w13.alloc _ = w14 at *
              generalize w13.heap.size = Z at *
              have HC4 : Hid (∀ v, Env W (EL ⟨k, n, b, h, 1048576⟩ (.slice (some ⟨g, 0, none⟩) rs.length cp) p cc m S4 (boxI Z [.int .i64 q4'.T.hs, .int .i64 0] :: rowKI encD 5 (.slice A7 (r.ds.take q.T.nd ++ moreL i).length c7) 77 (r.ds.take q.T.nd ++ moreL i) :: rowKI encD 5 (.slice A9 (moreL i).length c9) 77 (moreL i) :: boxI bL (flat3 q.T.ql) :: [boxI Y [.int .i64 k, .int .i64 n, .int .i64 b, .int .i64 h, .int .i64 1048576], boxI X [.int .i64 k, .int .i64 s, .int .i64 b, .int .i64 h, .int .i64 l]])) v → (∀ z, v.cell? ⟨Y, z, none⟩ = [.int .i64 k, .int .i64 n, .int .i64 b, .int .i64 h, .int .i64 1048576][z]?) ∧ v.cell? ⟨q.X.thr, 11, none⟩ = some (.int .i64 q4'.T.done)) := Lib.hid fun v hv => ⟨hv.boxE (by simp), by rw [← hthr3, ← hthr4]; exact hv.thrE hq4 11⟩
              refine wp_text (S := (Env W (EL ⟨k, n, b, h, 1048576⟩ (.slice (some ⟨g, 0, none⟩) rs.length cp) p cc m S4 (boxI Z [.int .i64 q4'.T.hs, .int .i64 0] :: rowKI encD 5 (.slice A7 (r.ds.take q.T.nd ++ moreL i).length c7) 77 (r.ds.take q.T.nd ++ moreL i) :: rowKI encD 5 (.slice A9 (moreL i).length c9) 77 (moreL i) :: boxI bL (flat3 q.T.ql) :: [boxI Y [.int .i64 k, .int .i64 n, .int .i64 b, .int .i64 h, .int .i64 1048576], boxI X [.int .i64 k, .int .i64 s, .int .i64 b, .int .i64 h, .int .i64 l]])))) (by kernel_rfl) (by kernel_rfl) hE4.drew (fun hT => ?_)
              have hT9 := Lib.hid hT
              clear hT
              repeat (first
                | (refine text_value (v := ?_) hT9.out (by rfl) ?_ ?_; rotate_left; (focus (intro w5 hS; obtain ⟨rY, r11⟩ := HC4.out _ hS; go_simp <;> with_reducible rfl)); (try simp only [Act.put, List.setIfInBounds_toArray, List.set_cons_zero, List.set_cons_succ]))
                | (refine text_off hT9.out (by rfl) ?_; (try simp only [Act.put, List.setIfInBounds_toArray, List.set_cons_zero, List.set_cons_succ]))
                | (refine text_call (v := ?_) (f := ?_) (args := ?_) hT9.out (by rfl) ?_ ?_ ?_; rotate_left 3; (focus (intro w5 hS; obtain ⟨rY, r11⟩ := HC4.out _ hS; go_simp; constructor <;> with_reducible rfl)); (focus (intro w5 hS; (first | fail))); (try simp only [Act.put, List.setIfInBounds_toArray, List.set_cons_zero, List.set_cons_succ])))
              refine InText.nil fun w5 hS5 => ?_
              clear hT9
              go_wp2_with fail
              go_ret
              exact ⟨rfl, hS5.below⟩
            · have b9 : (q4'.T.hs == last) = false := by simp [hls]
              obtain ⟨mu', hmu', hbk'⟩ : ∃ mu', mu' < mu ∧ Bk ⟨k, n, b, h, 1048576⟩ q.T.nd i A0.length fr last mu' (getL S4.ml) q4'.T := by
                rcases hbs with ⟨h9, -⟩ | h9
                · exact absurd h9 hls
                · exact h9
              have r0 := hE4.outE.rule 0 rfl
              clear hls hbs
              by_cases hz4 : q4'.T.hs = 0
              · have b8 : (q4'.T.hs != 0) = false := by simp [hz4]
                clear hz4
                go_wp2_with fail
                exact ⟨⟨ii + 1, mu', S4, q4', by simp, by omega, hgo4, hq4, by rw [hthr4]; exact hthr3, hbk', hE4.dropE⟩, by simp [intOf]; omega⟩
              · have b8 : (q4'.T.hs != 0) = true := by simp [hz4]
                clear hz4
                go_wp2_with fail
                exact ⟨⟨ii + 1, mu', S4, q4', by simp, by omega, hgo4, hq4, by rw [hthr4]; exact hthr3, hbk', hE4.dropE⟩, by simp [intOf]; omega⟩

theorem cellsInt : Tryz.prog.cellsOf 3 = 1 := by kernel_rfl

theorem own : ownKnob Tryz.prog.godebug = none := by kernel_rfl
theorem laidOut : laidOutB Tryz.prog = true := by kernel_rfl

set_option maxRecDepth 100000 in
theorem lifted (os : Os) (started : os.Started) (H : Type) (enc : TypeId × Value → H) :
    ReturnsInHanded {} Tryz.checked os 6 .any (fun w args => (Rows.allocBackSpec.pre enc Tryz.prog Tryz.f6 [] false w args ∧ laidMetH Tryz.prog laid3 w) ∧ sizedMet enc Tryz.prog Tryz.f6 (OpenSpec.ofChange Rows.allocBackSpec) false w args)
      (Rows.allocBackSpec.post enc Tryz.prog Tryz.f6 false true false false) := by
  refine returnsInHanded_of_change_and (C := Tryz.checked) (X := fun w _ => laidMetH Tryz.prog laid3 w) (fun _ _ _ hh h => h.of_heap hh) own started (by kernel_rfl) Tryz.func6
    (ChangeSpec.witness_shaped (enc := enc) (C := Tryz.checked) (os := os) (X := fun w _ => laidMetH Tryz.prog laid3 w) false (World.doorLaid Tryz.prog 24 os) #[.agg #[.int .i64 0, .int .i64 0, .int .i64 0, .int .i64 0, .int .i64 0], .slice none 0 0, .slice none 0 0, .int .i64 0] 8 rfl (World.shaped_of_RefB (by kernel_rfl) (by kernel_rfl)) (by kernel_rfl) (by kernel_rfl) (by kernel_rfl) (door_met os _)) ?_
  intro W base args ds gs before hval0 hW _ _ hL _
  have hval : ∀ (j : Nat) t v, Tryz.f6.params[j]? = some t → args[j]? = some v → Value.okWide Tryz.prog W .any base t v := hval0
  have hW' := hW
  obtain ⟨p, q, hA0, hV, rfl, hfz, hnd⟩ := hW
  have hA : DataW.TrodAll enc Tryz.prog W 0 (fun _ => true) true Tryz.f6.params.toList args.toList ds p := hA0
  rw [Tryz.params6] at hA hval
  obtain ⟨v0, vs0, d0, ds0, p0, q0, hargs, rfl, rfl, g0, r0⟩ := trodAll_cons hA
  obtain ⟨v1, vs1, d1, ds1, p1, q1, rfl, rfl, rfl, g1, r1⟩ := trodAll_cons r0
  obtain ⟨v2, vs2, d2, ds2, p2, q2, rfl, rfl, rfl, g2, r2⟩ := trodAll_cons r1
  obtain ⟨v3, vs3, d3, ds3, p3, q3, rfl, rfl, rfl, g3, r3⟩ := trodAll_cons r2
  obtain ⟨rfl, rfl, rfl⟩ := trodAll_nil r3
  obtain rfl : args = #[v0, v1, v2, v3] := by cases args; simp_all
  obtain ⟨rfl, rfl⟩ := trodVars_none hV
  obtain ⟨a3, rfl, rfl, rfl, w3⟩ := open_int Tryz.underlying3 (hval 3 3 v3 rfl rfl) g3
  have h3 := i64_in w3
  obtain ⟨cs0, rfl, z0, H0⟩ := open_flat (ss := [.num .i64, .num .i64, .num .i64, .num .i64, .num .i64]) Tryz.underlying23 (by kernel_rfl) (by kernel_rfl) ⟨Tryz.underlying3, Tryz.underlying3, Tryz.underlying3, Tryz.underlying3, Tryz.underlying3, trivial⟩ (hval 0 23 v0 rfl rfl) g0
  obtain ⟨l0, rfl, z0⟩ := list_of z0
  obtain ⟨x0_0, x0_1, x0_2, x0_3, x0_4, rfl⟩ := list5 z0
  obtain ⟨_, e, a0_0, rfl, w0_0⟩ := H0 0 _ rfl
  obtain rfl : x0_0 = .int .i64 a0_0 := by simpa using e
  clear e
  have h0_0 := i64_in w0_0
  obtain ⟨_, e, a0_1, rfl, w0_1⟩ := H0 1 _ rfl
  obtain rfl : x0_1 = .int .i64 a0_1 := by simpa using e
  clear e
  have h0_1 := i64_in w0_1
  obtain ⟨_, e, a0_2, rfl, w0_2⟩ := H0 2 _ rfl
  obtain rfl : x0_2 = .int .i64 a0_2 := by simpa using e
  clear e
  have h0_2 := i64_in w0_2
  obtain ⟨_, e, a0_3, rfl, w0_3⟩ := H0 3 _ rfl
  obtain rfl : x0_3 = .int .i64 a0_3 := by simpa using e
  clear e
  have h0_3 := i64_in w0_3
  obtain ⟨_, e, a0_4, rfl, w0_4⟩ := H0 4 _ rfl
  obtain rfl : x0_4 = .int .i64 a0_4 := by simpa using e
  clear e
  have h0_4 := i64_in w0_4
  clear H0
  obtain ⟨A1, n1, cap1, rfl⟩ := okWide_slice Tryz.underlying24 (hval 1 24 v1 rfl rfl)
  obtain ⟨zs1, rfl, h1, w1, row1⟩ := open_RwsC g1 (fun x hx => hW'.lt x (by simp [hx]))
  unfold maxLen at h1
  obtain ⟨A2, n2, cap2, rfl⟩ := okWide_slice Tryz.underlying25 (hval 2 25 v2 rfl rfl)
  obtain ⟨zs2, rfl, h2, w2, row2⟩ := open_num_row Tryz.underlying25 Tryz.underlying3 cellsInt g2 (fun x hx => hW'.lt x (by simp [hx]))
  unfold maxLen at h2
  clear hA0 hval0
  have hG := glo_of_laid hL
  refine (walk a0_0 a0_1 a0_2 a0_3 a0_4 zs1 A1 cap1 h1 zs2 A2 cap2 h2 W w1 row1 row2 a3 hG).mono fun e W' ⟨he, hg⟩ => ?_
  subst he
  exact ⟨_, rfl, law_post laidOut (by kernel_rfl) (by kernel_rfl) Tryz.underlying4 rfl rfl hW' hg⟩

theorem over : Rows.allocBackRow.holds Tryz.pinned (OpenSpec.ofChange Rows.allocBackSpec) :=
  OpenClaim.holds_of_wide 6 Tryz.f6 rfl rfl rfl rfl rfl rfl rfl ⟨rfl, rfl, rfl, rfl, rfl⟩ rfl rfl rfl rfl rfl (by kernel_rfl) Tryz.func6 (by kernel_rfl)
    (of_decide_eq_true (by kernel_rfl)) (by unfold Func.isWrapper; first | (rw [if_pos (by decide +kernel)]; kernel_rfl) | (rw [if_neg (by decide +kernel)]; exact ⟨rfl, rfl⟩))
    (fun os started H enc _ => lifted os started H enc)

/-- THE STATEMENT. -/
theorem proved : Rows.AllocBackCardSaid :=
  Claim7.holds_tied_plain_at .later [] [.wider, .wider, .wider] true _ true
    over (fun _ h => by cases h) (by kernel_rfl) (fun _ h => by cases h) allocBack_row_tie rfl ⟨rfl, rfl⟩ (by kernel_rfl) rfl
    (fun f fn hf hfn => by
      obtain rfl : f = 6 := Option.some.inj ((show Tryz.prog.funcNamed "revenant/revenantlaw14.AllocBack" = some 6 by kernel_rfl).symm.trans hf) |>.symm
      obtain rfl : fn = Tryz.f6 := (Option.some.inj (Tryz.func6.symm.trans hfn)).symm
      exact ⟨by kernel_rfl, fun j t ht => by
        rw [Tryz.params6] at ht
        have hm : t ∈ [23, 24, 25, 3] := by simpa using Array.mem_of_getElem? ht
        have hall : ([23, 24, 25, 3].all fun u => !Tryz.prog.wantsStandIn u) = true := by kernel_rfl
        exact (show Tryz.prog.wantsStandIn t = false by simpa using List.all_eq_true.1 hall t hm)⟩)
    (by kernel_rfl)
#print axioms proved
end Go.Proofs.YtmifdkbpbkafjaaGreatDoor.allocBack
