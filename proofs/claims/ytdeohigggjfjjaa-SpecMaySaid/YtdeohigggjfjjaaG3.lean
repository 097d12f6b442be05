/- What is proved on the way to the statement, part 3 of 7: contracts of the functions, among other things in memory. -/
import Derived.Test.YtdeohigggjfjjaaG2
import Derived.Lib.SliceRun
import Derived.Great.Walk
import Derived.Great.BuildSlice
import Derived.Laws.ResultCell

/- Rows of pairs: cloned, sorted. -/
namespace Go.Proofs.Ytdeohigggjfjjaa
open Go.RowKit Go.Maps Go.Shelf Go.Sort
set_option maxRecDepth 100000

theorem flatP_flat (l : List (Int × Int)) : flatK encP l = flatP l := by
  induction l with
  | nil => rfl
  | cons p l ih =>
    have e : flatK encP (p :: l) = encP p ++ flatK encP l := by simp [flatK]
    rw [e, ih]
    rfl
theorem encP_length (p : Int × Int) : (encP p).length = 2 := rfl
theorem infoPair : (Try.prog.info? 26).map (fun i => (i.zero, i.size, i.bytes)) = some (some (.agg #[.int .u64 0, .int .u64 0]), 2, 16) := by kernel_rfl
theorem flatP_one' (l : List (Int × Int)) : ∀ v ∈ flatP l, v.oneCell' = true := fun v hv => encS_one l v (by unfold encS; simp [hv])
theorem clone_p {w : World} {A : Option Addr} {cap : Nat} {l : List (Int × Int)} (hz : l.length * 16 ≤ 140737488351232) (hr : RowX encP 2 w A l) :
    Calls Try.prog 26 #[.slice A l.length cap] w fun e w' => ∃ A' cap', e = .returned (.slice A' l.length cap') ∧ w'.ownsRow w.heap.size 26 2 (.slice A' l.length cap') l.length (flatP l) ∧ Below w.heap.size w w' := by
  obtain ⟨i0, hi, hz0, hz1, hz2⟩ := info_parts infoPair
  have q22 : ∀ (w : World) (a : Option Addr) (n c n' c' : Nat), (binOp .eql 46 (.slice a n c) (.slice none n' c')).run Try.prog w = .ok (.bool a.isNone) w := fun w a n c n' c' => Lib.run_eql_slice_nil w _ _ a n c n' c' (show Try.prog.underlying 46 = some (.slice 26) by kernel_rfl)
  rcases A with _ | ad
  · have hm0 : l = [] := by
      rcases hr with h | ⟨_, _, h, _⟩
      · exact h
      · cases h
    subst hm0
    go_enter Try.func26, Try.ntmps26
    go_wp2
    go_ret
    exact ⟨none, 0, rfl, World.ownsRow_nil _ _ _ _, Below.refl _ _⟩
  · have hown0 : (w.alloc (.cells #[] 26)).ownsRow w.heap.size 26 2 (.slice (some ⟨w.heap.size, 0, none⟩) 0 0) 0 [] := ⟨rfl, .inr ⟨w.heap.size, 0, #[], rfl, Nat.le_refl _, heap_alloc_new w _, Nat.le_refl _, Nat.zero_le _, rfl, rfl⟩⟩
    have hr' : RowX encP 2 (w.alloc (.cells #[] 26)) (some ad) l := hr.below ((Below.refl _ _).alloc (Nat.le_refl _) _)
    obtain ⟨v', w2, hrun, hown2, hgrow, hv'⟩ := run_append_rows (P := Try.prog) 46 46 w.heap.size 26 i0 (.agg #[.int .u64 0, .int .u64 0]) 2 16 (by kernel_rfl) hi hz0 hz1 hz2 rfl (by decide) _ _ 0 [] hown0 (some ad) l.length cap (flatP l) (by rw [flatP_length, Nat.mul_comm])
      (.inr ⟨ad, rfl, by have := RowX.news (enc := encP) (k := 2) encP_length (by decide) hr'; rw [flatP_flat] at this; exact this⟩) (flatP_one' l) (by simp [maxLen]; omega) (by omega) (by simp)
    simp only [Nat.zero_add, List.nil_append] at hown2
    obtain ⟨A', cap2, rfl⟩ := ownsRow_slice hown2
    go_enter Try.func26, Try.ntmps26
    go_wp2_with (first | (at_builtin; refine wpList_append_run rfl _ _ 46 rfl hrun rfl rfl ?_))
    go_ret
    exact ⟨A', cap2, rfl, hown2, ((Below.refl _ w).alloc (Nat.le_refl _) _).grown hgrow (by simp) (by intro k hk; simp [Value.ownBlock] at hk; omega)⟩

/-! ### the order -/
def cmpK (x y : Int × Int) : Int := if x.1 < y.1 then -1 else if y.1 < x.1 then 1 else 0
theorem lt_cmpK (x y : Int × Int) : ltOf cmpK x y = decide (x.1 < y.1) := by
  unfold ltOf cmpK
  split
  · rename_i h; simp [h]
  · rename_i h; split <;> simp [h]
theorem swoK : SWO (ltOf cmpK) := ⟨fun x => by rw [lt_cmpK]; simp, fun x y z h1 h2 => by rw [lt_cmpK] at *; simp only [decide_eq_true_eq] at *; omega, fun x y z h1 h2 => by rw [lt_cmpK] at *; simp only [decide_eq_false_iff_not] at *; omega⟩
set_option maxHeartbeats 800000 in
theorem cmp_new (a b c d : Int) (w : World) : Calls Try.prog 28 #[.agg #[.int .u64 a, .int .u64 b], .agg #[.int .u64 c, .int .u64 d]] w fun e w' => e = .returned (.int .i64 (cmpK (a, b) (c, d))) ∧ ∃ q os', w' = grow (w.drewN q) os' := by
  have c1 := Lib.hid (cmp_u a c)
  unfold cmpK
  simp only
  generalize (if a < c then (-1 : Int) else if c < a then 1 else 0) = z at *
  go_enter Try.func28, Try.ntmps28
  go_wp2_with (with_reducible refine (c1.out _).mono ?_; rintro e w1 ⟨rfl, rfl⟩)
  go_ret
  refine ⟨rfl, 0, #[.cells #[.int .u64 a, .int .u64 b] 26, .cells #[.int .u64 c, .int .u64 d] 26], ?_⟩
  simp only [alloc_eq_grow, grow_grow]
  rfl
theorem cmpLays_p (blk off size : Nat) (w : World) : CmpLays Try.prog 28 #[] encP 2 cmpK blk off size w := fun _ _ _ _ x y => cmp_new x.1 x.2 y.1 y.2 _
theorem sort_p (blk off cap : Nat) (d : Array (Int × Int)) (w : World) (hH : HoldsK encP 2 w blk off d) (hblk : blk < w.heap.size) (hsz : d.size < 4611686018427387904) :
    Calls Try.prog 27 #[.slice (some ⟨blk, off, none⟩) d.size cap, .func (.func 28) #[] #[]] w fun e w' => e = .returned (.tuple #[]) ∧ ∃ d' n os, d'.toList.Perm d.toList ∧ d'.toList.Pairwise (fun x y => x.1 ≤ y.1) ∧ w' = sortWorldK encP 2 w blk off n d' os := by
  have h := AnyQ.slices_SortFunc Try.sortPairs 2 (fun w => by kernel_rfl) (fun w => by kernel_rfl) encP encP_length (fun x v hv => by simp [encP] at hv; rcases hv with rfl | rfl <;> rfl) cmpK swoK 28 #[] blk off cap d w
    (enters_of Try.func28 (by kernel_rfl) rfl) (cmpLays_p blk off d.size w) hH hblk hsz
  refine h.mono ?_
  rintro e w' ⟨he, d', n, os, hp, hs, hw⟩
  obtain ⟨hsz', -, hperm⟩ := hp
  have e1 : d'.extract 0 d.size = d' := by rw [← hsz']; exact Array.extract_size
  rw [e1, Array.extract_size] at hperm
  refine ⟨he, d', n, os, hperm, ?_, hw⟩
  rw [List.pairwise_iff_getElem]
  intro i j hi hj hij
  have hi' : i < d'.size := by simpa using hi
  have hj' : j < d'.size := by simpa using hj
  have h2 := hs i j (Nat.zero_le _) hij (by omega)
  rw [lt_cmpK] at h2
  simp only [decide_eq_false_iff_not] at h2
  rw [getElem!_pos d' i hi', getElem!_pos d' j hj'] at h2
  simp only [Array.getElem_toList]
  omega
theorem sort_none (p : Option Addr) (cap : Nat) (fv : Value) (w : World) : Calls Try.prog 27 #[.slice p 0 cap, fv] w fun e w' => e = .returned (.tuple #[]) ∧ w' = w :=
  AnyF.slices_SortFunc_none { Try.sortPairs with } p cap fv w
end Go.Proofs.Ytdeohigggjfjjaa

/- Large structs by value: read, written and handed back whole. -/
namespace Go.Proofs.Ytdeohigggjfjjaa
open Go.RowKit
set_option maxRecDepth 100000

theorem res_ct {P : Program} {fn : Func} {p u : Tmp} {ty : TypeId} (h : fn.results = #[.cell p ty, .tmp u]) (tmps : Array Value) (w : World) (b : Nat) (hp : tmps.getD p undef = .pointer (some ⟨b, 0, none⟩)) (cs : List Value) (d : TypeDesc) (hc : w.rangeAt b 0 cs)
    (hu : P.underlying ty = some d) (hd : d.isRow = true) (hi : (P.info? ty).map (·.size) = some cs.length) : (results fn tmps).run P w = .ok (.tuple #[.agg cs.toArray, tmps.getD u undef]) w := by
  rw [results_cell_tmp h, hp]
  simp [asAddr, Result.andThen, run_loadVar_mid w b 0 ty cs d hc hu hd hi]
theorem res_c {P : Program} {fn : Func} {p : Tmp} {ty : TypeId} (h : fn.results = #[.cell p ty]) (tmps : Array Value) (w : World) (b : Nat) (hp : tmps.getD p undef = .pointer (some ⟨b, 0, none⟩)) (cs : List Value) (d : TypeDesc) (hc : w.rangeAt b 0 cs)
    (hu : P.underlying ty = some d) (hd : d.isRow = true) (hi : (P.info? ty).map (·.size) = some cs.length) : (results fn tmps).run P w = .ok (.agg cs.toArray) w := by
  have hp' := hp
  simp only [Array.getD_eq_getD_getElem?] at hp'
  simp only [results, h]
  simp [Sem.run_bind, Result.andThen, hp', asAddr, run_loadVar_mid w b 0 ty cs d hc hu hd hi]
theorem res_cct {P : Program} {fn : Func} {p q u : Tmp} {ty ty' : TypeId} (h : fn.results = #[.cell p ty, .cell q ty', .tmp u]) (tmps : Array Value) (w : World) (b b' : Nat) (hp : tmps.getD p undef = .pointer (some ⟨b, 0, none⟩)) (hq : tmps.getD q undef = .pointer (some ⟨b', 0, none⟩)) (cs cs' : List Value) (d d' : TypeDesc) (hc : w.rangeAt b 0 cs) (hc' : w.rangeAt b' 0 cs')
    (hu : P.underlying ty = some d) (hd : d.isRow = true) (hi : (P.info? ty).map (·.size) = some cs.length) (hu' : P.underlying ty' = some d') (hd' : d'.isRow = true) (hi' : (P.info? ty').map (·.size) = some cs'.length) : (results fn tmps).run P w = .ok (.tuple #[.agg cs.toArray, .agg cs'.toArray, tmps.getD u undef]) w := by
  have hp' := hp
  have hq' := hq
  simp only [Array.getD_eq_getD_getElem?] at hp' hq'
  simp only [results, h]
  simp [Sem.run_bind, Result.andThen, hp', hq', asAddr, run_loadVar_mid w b 0 ty cs d hc hu hd hi, run_loadVar_mid w b' 0 ty' cs' d' hc' hu' hd' hi']
theorem res_ctt {P : Program} {fn : Func} {p u v : Tmp} {ty : TypeId} (h : fn.results = #[.cell p ty, .tmp u, .tmp v]) (tmps : Array Value) (w : World) (b : Nat) (hp : tmps.getD p undef = .pointer (some ⟨b, 0, none⟩)) (cs : List Value) (d : TypeDesc) (hc : w.rangeAt b 0 cs)
    (hu : P.underlying ty = some d) (hd : d.isRow = true) (hi : (P.info? ty).map (·.size) = some cs.length) : (results fn tmps).run P w = .ok (.tuple #[.agg cs.toArray, tmps.getD u undef, tmps.getD v undef]) w := by
  have hp' := hp
  simp only [Array.getD_eq_getD_getElem?] at hp'
  simp only [results, h]
  simp [Sem.run_bind, Result.andThen, hp', asAddr, run_loadVar_mid w b 0 ty cs d hc hu hd hi]
theorem und29 : Try.prog.underlying 29 = some (.struct (match Try.prog.underlying 29 with | some (.struct x) => x | _ => default)) := by kernel_rfl
theorem size29 : (Try.prog.info? 29).map (·.size) = some 33 := by kernel_rfl
theorem size33 {l : List (Int × Int)} (h : l.length ≤ 16) : (Try.prog.info? 29).map (·.size) = some (encS l).length := by rw [encS_length h]; exact size29
theorem size33a {l : List (Int × Int)} (h : l.length ≤ 16) : (Try.prog.info? 29).map (·.size) = some (encS l).toArray.size := by rw [List.size_toArray]; exact size33 h
theorem one33 (l : List (Int × Int)) : (encS l).toArray.all (·.oneCell') = true := all_oneCell_toArray (encS_one l)
theorem Fr.range {w0 w : World} {bl : List (Nat × List Value)} (h : Fr w0 bl w) (k : Nat) {n : Nat} {vs : List Value} (e : bl[k]? = some (n, vs)) : w.rangeAt n 0 vs := fun j v hv => by rw [Nat.zero_add]; rw [h.rule k e]; exact hv
theorem Fr.there {w0 w : World} {bl : List (Nat × List Value)} (h : Fr w0 bl w) (k : Nat) {n : Nat} {vs : List Value} (e : bl[k]? = some (n, vs)) (hn : w0.heap.size ≤ n) {m : Nat} (hm : vs.length = m) : w.there n 0 m := fun j hj => by
  rw [Nat.zero_add, h.rule k e]
  exact ⟨by rw [List.getElem?_eq_getElem (by omega)]; rfl, h.thaw k e hn j (by omega)⟩
/-- A whole block written anew. -/
theorem Fr.whole {w0 w : World} {n : Nat} {vs us : List Value} {bl : List (Nat × List Value)} (h : Fr w0 ((n, vs) :: bl) w) (hn : w0.heap.size ≤ n) (hd : ∀ x ∈ bl, x.1 ≠ n) (e : vs.length = us.length) : Fr w0 ((n, us) :: bl) (w.setCells n 0 us) := by
  have := Fr.puts hn hd [] us vs [] w (by simpa using h) e
  simpa using this

theorem turn_setCells {T : Nat → Prop} {a : World} {n : Nat} (hn : n < a.heap.size → T n) : ∀ (us : List Value) (o : Nat) (w : World), Turn T a w → Turn T a (w.setCells n o us)
  | [], _, _, h => h
  | u :: us, o, w, h => turn_setCells hn us (o + 1) _ (h.setCell (p := ⟨n, o, none⟩) hn u)
/-- A block that is none of the frame's is written. -/
theorem Fr.apart {w0 w : World} {bl : List (Nat × List Value)} (h : Fr w0 bl w) {n : Nat} (hn : w0.heap.size ≤ n) (hd : ∀ x ∈ bl, x.1 ≠ n) (us : List Value) (o : Nat) : Fr w0 bl (w.setCells n o us) :=
  h.turn (T := fun k => k = n) (turn_setCells (T := fun k => k = n) (fun _ => rfl) us o w (Turn.refl _ _)) (fun k e => by rw [e]; exact hn) (fun x hx e => hd x hx e)
/-- In a region that draws its order: a large struct is read, written. -/
theorem exec_load {P : Program} {o : Oper} {ρ : Operand → Value} (w : World) (ty : TypeId) (x : Operand) (ho : o.op = .load ty x) (b : Nat) (hx : ρ x = .pointer (some ⟨b, 0, none⟩)) (cs : List Value) (d : TypeDesc) (hc : w.rangeAt b 0 cs)
    (hu : P.underlying ty = some d) (hd : d.isRow = true) (hi : (P.info? ty).map (·.size) = some cs.length) : (execOp ρ o).run P w = .ok (.value (.agg cs.toArray)) w := by
  unfold execOp
  simp only [ho, hx, Instr.loadAt, Instr.sureAddr, Sem.run_bind, Sem.run_pure, Result.andThen_ok, run_loadVar_mid w b 0 ty cs d hc hu hd hi]
theorem exec_store {P : Program} {o : Oper} {ρ : Operand → Value} (w : World) (ty : TypeId) (x y : Operand) (ho : o.op = .store ty x y) (b : Nat) (cs : List Value) (hx : ρ x = .pointer (some ⟨b, 0, none⟩)) (hy : ρ y = .agg cs.toArray)
    (ht : w.there b 0 cs.length) (hi : (P.info? ty).map (·.size) = some cs.length) (h1 : ∀ v ∈ cs, v.oneCell' = true) : (execOp ρ o).run P w = .ok .skip (w.setCells b 0 cs) := by
  unfold execOp
  simp only [ho, hx, hy, Instr.storeAt, Instr.sureAddr, Sem.run_bind, Sem.run_pure, Result.andThen_ok, run_storeVar_mid w b 0 ty cs.toArray (by simpa using ht) (by simpa using hi) (all_oneCell_toArray h1)]
end Go.Proofs.Ytdeohigggjfjjaa

/- A state with a pair more, or another value. -/
namespace Go.Proofs.Ytdeohigggjfjjaa
open Go.RowKit
set_option maxRecDepth 100000

def withK (l : List (Int × Int)) (k v : Int) : List (Int × Int) × Int := if hasK l k || decide (l.length < 16) then (insK l k v, 0) else ([], 6)
theorem with_s (l : List (Int × Int)) (hl : l.Pairwise fun a b => a.1 < b.1) (hn : l.length ≤ 16) (k v : Int) (w : World) : Calls Try.prog 20 #[.agg (encS l).toArray, .agg #[.int .u64 k, .int .u64 v]] w fun e w' => e = .returned (.tuple #[.agg (encS (withK l k v).1).toArray, .int .i64 (withK l k v).2]) ∧ Below w.heap.size w w' := by
  have hF := (Fr.start w).push w.heap.size rfl (encS l) 29
  replace hF := hF.push (w.heap.size + 1) (by simp) [.int .u64 k, .int .u64 v] 26
  have r0 := hF.rule 0 rfl
  have C1 : Hid (∀ w' bl, (w.heap.size, encS l) ∈ bl → Fr w bl w' → Calls Try.prog 22 #[.pointer (some ⟨w.heap.size, 0, none⟩), .int .u64 k] w' fun e w'' => e = .returned (.tuple #[.int .i64 (cnt l k), .bool (hasK l k)]) ∧ Below w'.heap.size w' w'') := Lib.hid fun w' bl hm h => find_u l w.heap.size k w' hl hn (h.2 _ hm).1 (h.2 _ hm).2.1
  generalize hWW : withK l k v = W
  have HW := Lib.hid hWW
  clear hWW
  go_enter Try.func20, Try.ntmps20
  go_wp2_with fail
  replace hF := hF.push (w.heap.size + 2) (by simp) (encS []) 29
  refine (C1.out _ _ (by simp) hF).mono ?_
  rintro e w1 ⟨rfl, hb⟩
  replace hF := hF.over hb
  clear hb r0
  cases hh : hasK l k with
  | true =>
    have hc := hasK_lt hh
    have e9 : withK l k v = (l.set (cnt l k) (k, v), 0) := by unfold withK insK; simp [hh]
    rw [HW.out] at e9
    subst e9
    have hc16 : cnt l k < 16 := by omega
    have r1 := hF.rule 1 rfl
    have cm1 := (hF.rule 2 rfl (cnt l k * 2)).trans (encS_key hc).1
    have cm2 := (hF.rule 2 rfl (cnt l k * 2 + 1)).trans (encS_key hc).2
    have f1 := hF.thaw 2 rfl (Nat.le_refl _) (cnt l k * 2) (by rw [encS_length hn]; omega)
    have f2 := hF.thaw 2 rfl (Nat.le_refl _) (cnt l k * 2 + 1) (by rw [encS_length hn]; omega)
    go_upto_region 8 with fail
    have hL : (l.set (cnt l k) (k, v)).length ≤ 16 := by simpa using hn
    have hG := hF.sub (bl' := [(w.heap.size, encS l), (w.heap.size + 2, encS []), (w.heap.size + 1, [.int .u64 k, .int .u64 v])]) (by simp)
    replace hG := (hG.put (Nat.le_refl _) (by simp) (cnt l k * 2) (by rw [encS_length hn]; omega) (.int .u64 k)).put (Nat.le_refl _) (by simp) (cnt l k * 2 + 1) (by rw [List.length_set, encS_length hn]; omega) (.int .u64 v)
    rw [encS_set hc] at hG
    replace hG := hG.sub (bl' := [(w.heap.size + 2, encS []), (w.heap.size, encS (l.set (cnt l k) (k, v)))]) (by simp)
    generalize World.setCell (World.setCell _ _ _) _ _ = w2 at *
    apply wp_region_lit
    refine wpList_load_mid rfl 29 _ rfl w.heap.size 0 rfl (encS (l.set (cnt l k) (k, v))) _ (hG.range 1 rfl) und29 rfl (size33 hL) ?_
    refine wpList_store_mid rfl 29 _ _ rfl (w.heap.size + 2) 0 (encS (l.set (cnt l k) (k, v))).toArray rfl rfl (hG.there 0 rfl (by omega) (by rw [encS_length (by simp), List.size_toArray, encS_length hL])) (size33a hL) (one33 _) ?_
    replace hG := hG.whole (us := encS (l.set (cnt l k) (k, v))) (by omega) (by simp) (by rw [encS_length (by simp), encS_length hL])
    generalize World.setCells w2 _ _ _ = w3 at *
    go_wp2_with fail
    exact bodyPost_ret (res_ct rfl _ _ (w.heap.size + 2) rfl _ _ (hG.range 0 rfl) und29 rfl (size33 hL)) rfl ⟨rfl, hG.below⟩
  | false =>
    by_cases h16 : l.length < 16
    · have hcn : cnt l k ≤ l.length := cnt_le l k
      have e9 : withK l k v = (insK l k v, 0) := by unfold withK; simp [h16]
      have e8 : insK l k v = l.take (cnt l k) ++ (k, v) :: l.drop (cnt l k) := by unfold insK; rw [hh]; rfl
      rw [e8, HW.out] at e9
      subst e9
      obtain ⟨x, y, T, eT', hT⟩ := encS_in hcn h16
      have eT := Lib.hid eT'
      clear eT'
      have hG := hF.sub (bl' := [(w.heap.size, encS l), (w.heap.size + 2, encS []), (w.heap.size + 1, [.int .u64 k, .int .u64 v])]) (by simp)
      have SL1 : Hid (∀ w5, (Instr.sliceAt 27 (.pointer (some ⟨w.heap.size, 0, none⟩)) (some (.int .i64 ((cnt l k : Int) + 1))) none none).run Try.prog w5 = .ok (.slice (some ⟨w.heap.size, if cnt l k = 15 then 0 else (cnt l k + 1) * 2, none⟩) (15 - cnt l k) (15 - cnt l k)) w5) := Lib.hid fun w5 => by
        have := slice_l' w.heap.size (cnt l k + 1) (by omega) w5
        rw [show 16 - (cnt l k + 1) = 15 - cnt l k by omega] at this
        simpa using this
      have SL2 := Lib.hid (slice_lh w.heap.size (cnt l k) l.length hcn hn (by omega))
      have CP : Hid (∀ w5, Fr w [(w.heap.size, encS l), (w.heap.size + 2, encS []), (w.heap.size + 1, [.int .u64 k, .int .u64 v])] w5 → ∃ w6, (∀ ty, (Builtin.copy_ #[46, 46] ty #[.slice (some ⟨w.heap.size, if cnt l k = 15 then 0 else (cnt l k + 1) * 2, none⟩) (15 - cnt l k) (15 - cnt l k), .slice (some ⟨w.heap.size, cnt l k * 2, none⟩) (l.length - cnt l k) (16 - cnt l k)]).run Try.prog w5 = .ok (goInt (Nat.min (l.length - cnt l k) (15 - cnt l k))) w6) ∧ Fr w [(w.heap.size, (flatP (l.take (cnt l k)) ++ [x, y]) ++ flatP (l.drop (cnt l k)) ++ (zeros (30 - 2 * l.length) ++ [.int .i64 l.length])), (w.heap.size + 2, encS []), (w.heap.size + 1, [.int .u64 k, .int .u64 v])] w6) := Lib.hid fun w5 h => by
        have hL : (flatP (l.drop (cnt l k))).length = 2 * (l.length - cnt l k) := by simp
        have hA : (flatP (l.take (cnt l k)) ++ [x, y]).length = (cnt l k + 1) * 2 := by simp; omega
        refine ⟨w5.setCells w.heap.size ((flatP (l.take (cnt l k)) ++ [x, y]).length) (flatP (l.drop (cnt l k))), fun ty => ?_, Fr.puts (Nat.le_refl _) (by simp) _ _ T _ w5 (by rw [← eT.out]; exact h) (by rw [hT, hL])⟩
        have e0 : w5.setCells w.heap.size ((flatP (l.take (cnt l k)) ++ [x, y]).length) (flatP (l.drop (cnt l k))) = w5.setCells w.heap.size (if cnt l k = 15 then 0 else (cnt l k + 1) * 2) (flatP (l.drop (cnt l k))) := by
          by_cases e : cnt l k = 15
          · have hz : flatP (l.drop (cnt l k)) = [] := List.eq_nil_of_length_eq_zero (by rw [hL]; omega)
            rw [hz]; rfl
          · rw [if_neg e, hA]
        rw [e0]
        have hmin : Nat.min (l.length - cnt l k) (15 - cnt l k) = l.length - cnt l k := Nat.min_eq_left (by omega)
        have hj : ∀ j, j < (flatP (l.drop (cnt l k))).length → (if cnt l k = 15 then 0 else (cnt l k + 1) * 2) + j < 33 := fun j hj => by rw [hL] at hj; split <;> omega
        refine run_copy2 w5 _ _ ty 26 w.heap.size _ _ _ ⟨w.heap.size, cnt l k * 2, none⟩ _ _ (flatP (l.drop (cnt l k))) (by kernel_rfl) (by kernel_rfl) (by rw [hL, hmin]; omega) (fun j v hv => ?_) (fun j hjj => ?_) (fun j hjj => ?_) (flatP_one _)
        · rw [Addr.add_mid, h.rule 0 rfl]
          exact encS_drop hcn hv
        · rw [h.rule 0 rfl, List.getElem?_eq_getElem (by rw [encS_length hn]; exact hj j hjj)]; rfl
        · exact h.thaw 0 rfl (Nat.le_refl _) _ (by rw [encS_length hn]; exact hj j hjj)
      generalize (if cnt l k = 15 then 0 else (cnt l k + 1) * 2) = o5 at SL1 CP
      have r2 := (hG.rule 0 rfl 32).trans (encS_n hn)
      go_upto_region 5 with fail
      have W1 : Hid (IntKind.i64.wrap ((cnt l k : Int) + 1) = (cnt l k : Int) + 1) := Lib.hid (by rw [IntKind.wrap_i64]; omega)
      refine Ord.wp_chain [9] (fun w' => w'.cell? ⟨w.heap.size, 32, none⟩ = some (.int .i64 l.length)) (fun j w' => Fr w [(w.heap.size, if j = 0 then encS l else (flatP (l.take (cnt l k)) ++ [x, y]) ++ flatP (l.drop (cnt l k)) ++ (zeros (30 - 2 * l.length) ++ [.int .i64 l.length])), (w.heap.size + 2, encS []), (w.heap.size + 1, [.int .u64 k, .int .u64 v])] w') (by kernel_rfl) (by kernel_rfl) (by kernel_rfl) r2 (by rw [if_pos rfl]; exact hG.drew) (fun hT => ?_)
      have hT9 := Lib.hid hT
      clear hT
      repeat (first
        | (refine Ord.ch_value (v := ?_) hT9.out (by decide) (by rfl) ?_ ?_; rotate_left; (focus (intro w5 hS; have r := hS; have w1 := W1.out; have s1 := SL1.out; have s2 := SL2.out; go_simp <;> with_reducible rfl)); (try simp only [Act.put, List.setIfInBounds_toArray, List.set_cons_zero, List.set_cons_succ]))
        | (refine Ord.ch_off hT9.out (by decide) (by rfl) ?_; (try simp only [Act.put, List.setIfInBounds_toArray, List.set_cons_zero, List.set_cons_succ])))
      refine Ord.ch_turn (v := goInt (Nat.min (l.length - cnt l k) (15 - cnt l k))) 0 hT9.out rfl (by decide) (Or.inl rfl) (by rfl) ?_ ?_
      · rintro w5 hC5 hA5
        rw [if_pos rfl] at hA5
        obtain ⟨w6, hr, hF6⟩ := CP.out w5 hA5
        go_simp
        have h32 := (hF6.rule 0 rfl 32).trans (last32 _ _ _ (by simp; omega))
        refine ⟨by first | rfl | simp, h32, by simpa using hF6⟩
      refine Ord.InText.nil fun w5 hS => ?_
      clear hT9
      obtain ⟨hC9, hG9⟩ := Ord.chain_end hS
      clear hS
      have eH : (if [9].length = 0 then encS l else flatP (l.take (cnt l k)) ++ [x, y] ++ flatP (l.drop (cnt l k)) ++ (zeros (30 - 2 * l.length) ++ [.int .i64 l.length])) = (flatP (l.take (cnt l k)) ++ [x, y] ++ flatP (l.drop (cnt l k)) ++ zeros (30 - 2 * l.length)) ++ [.int .i64 l.length] := by rw [if_neg (by decide)]; simp
      rw [eH] at hG9
      clear eH hC9 hG
      have hP : (flatP (l.take (cnt l k)) ++ [x, y] ++ flatP (l.drop (cnt l k)) ++ zeros (30 - 2 * l.length)).length = 32 := by simp [zeros]; omega
      generalize hPP : flatP (l.take (cnt l k)) ++ [x, y] ++ flatP (l.drop (cnt l k)) ++ zeros (30 - 2 * l.length) = PP at *
      have HPP := Lib.hid hPP
      clear hPP
      have c32 : w5.cell? ⟨w.heap.size, 32, none⟩ = some (.int .i64 l.length) := by rw [hG9.rule 0 rfl, List.getElem?_append_right (by omega), hP]; rfl
      have f32 : w5.frozen? ⟨w.heap.size, 32, none⟩ = false := hG9.thaw 0 rfl (Nat.le_refl _) 32 (by simp [hP])
      go_upto_region 7 with fail
      have hG := hG9.put (Nat.le_refl _) (by simp) 32 (by simp [hP]) (.int .i64 ((l.length : Int) + 1))
      have e10 : (PP ++ [Value.int .i64 l.length]).set 32 (.int .i64 ((l.length : Int) + 1)) = PP ++ [.int .i64 ((l.length : Int) + 1)] := by rw [← hP]; simp
      rw [e10] at hG
      clear hG9 c32 f32 e10
      generalize World.setCell w5 _ _ = w7 at *
      have hPl : (PP ++ [Value.int .i64 ((l.length : Int) + 1)]).length = 33 := by simp [hP]
      have r1 := hG.rule 2 rfl
      have cm1 : w7.cell? ⟨w.heap.size, cnt l k * 2, none⟩ = some ((PP ++ [Value.int .i64 ((l.length : Int) + 1)]).getD (cnt l k * 2) undef) := by rw [hG.rule 0 rfl, List.getD_eq_getElem?_getD, List.getElem?_eq_getElem (by omega)]; rfl
      have cm2 : w7.cell? ⟨w.heap.size, cnt l k * 2 + 1, none⟩ = some ((PP ++ [Value.int .i64 ((l.length : Int) + 1)]).getD (cnt l k * 2 + 1) undef) := by rw [hG.rule 0 rfl, List.getD_eq_getElem?_getD, List.getElem?_eq_getElem (by omega)]; rfl
      have f1 := hG.thaw 0 rfl (Nat.le_refl _) (cnt l k * 2) (by omega)
      have f2 := hG.thaw 0 rfl (Nat.le_refl _) (cnt l k * 2 + 1) (by omega)
      have hc16 : cnt l k < 16 := by omega
      go_upto_region 8 with fail
      replace hG := (hG.put (Nat.le_refl _) (by simp) (cnt l k * 2) (by omega) (.int .u64 k)).put (Nat.le_refl _) (by simp) (cnt l k * 2 + 1) (by rw [List.length_set]; omega) (.int .u64 v)
      rw [← HPP.out, encS_ins hcn h16] at hG
      have hL : (l.take (cnt l k) ++ (k, v) :: l.drop (cnt l k)).length ≤ 16 := by simp; omega
      replace hG := hG.sub (bl' := [(w.heap.size + 2, encS []), (w.heap.size, encS (l.take (cnt l k) ++ (k, v) :: l.drop (cnt l k)))]) (by simp)
      generalize World.setCell (World.setCell _ _ _) _ _ = w2 at *
      apply wp_region_lit
      refine wpList_load_mid rfl 29 _ rfl w.heap.size 0 rfl (encS (l.take (cnt l k) ++ (k, v) :: l.drop (cnt l k))) _ (hG.range 1 rfl) und29 rfl (size33 hL) ?_
      refine wpList_store_mid rfl 29 _ _ rfl (w.heap.size + 2) 0 (encS (l.take (cnt l k) ++ (k, v) :: l.drop (cnt l k))).toArray rfl rfl (hG.there 0 rfl (by omega) (by rw [encS_length (by simp), List.size_toArray, encS_length hL])) (size33a hL) (one33 _) ?_
      replace hG := hG.whole (us := encS (l.take (cnt l k) ++ (k, v) :: l.drop (cnt l k))) (by omega) (by simp) (by rw [encS_length (by simp), encS_length hL])
      generalize World.setCells w2 _ _ _ = w3 at *
      go_wp2_with fail
      exact bodyPost_ret (res_ct rfl _ _ (w.heap.size + 2) rfl _ _ (hG.range 0 rfl) und29 rfl (size33 hL)) rfl ⟨rfl, hG.below⟩
    · have e9 : withK l k v = ([], 6) := by unfold withK; simp [hh, h16]
      rw [HW.out] at e9
      subst e9
      have en : l.length = 16 := by omega
      have r2 := (hF.rule 2 rfl 32).trans (encS_n hn)
      rw [en] at r2
      go_upto_region 4 with fail
      apply wp_region_lit
      refine wpList_buildTo rfl 29 _ rfl (some 19) rfl (encS []).toArray (by kernel_rfl) ?_
      refine wpList_store_mid rfl 29 _ _ rfl (w.heap.size + 2) 0 (encS []).toArray rfl rfl (hF.there 0 rfl (by omega) (by rw [List.size_toArray])) (size33a (by simp)) (one33 _) ?_
      have hG := hF.whole (us := encS []) (by omega) (by simp) rfl
      generalize World.setCells w1 _ _ _ = w3 at *
      go_wp2_with fail
      exact bodyPost_ret (res_ct rfl _ _ (w.heap.size + 2) rfl _ _ (hG.range 0 rfl) und29 rfl (size33 (by simp))) rfl ⟨rfl, hG.below⟩
end Go.Proofs.Ytdeohigggjfjjaa

/- What an op comes to that brings a pair in. -/
namespace Go.Proofs.Ytdeohigggjfjjaa
open Go.RowKit
set_option maxRecDepth 100000

theorem withK_two (l : List (Int × Int)) (k v : Int) (hn : l.length ≤ 16) : ((withK l k v).2 = 0 ∨ (withK l k v).2 = 6) ∧ (withK l k v).1.length ≤ 16 := by
  unfold withK
  cases hh : hasK l k with
  | true => simp only [Bool.true_or, if_true]; refine ⟨by simp, ?_⟩; unfold insK; rw [hh]; simpa using hn
  | false =>
    by_cases h : l.length < 16
    · have := cnt_le l k
      simp only [h, decide_true, Bool.or_true, if_true]; refine ⟨by simp, ?_⟩; unfold insK; rw [hh]; simp; omega
    · simp [h]
/-- An answer's cells. -/
def encA (e : Int) (d : Bool) (v : Int) : List Value := [.int .i64 e, .bool d, .int .u64 v]
/-- A state, an answer and an error. -/
structure Out where
  l : List (Int × Int)
  d : Bool
  v : Int
  e : Int
theorem encA_one (e : Int) (d : Bool) (v : Int) : ∀ x ∈ encA e d v, x.oneCell' = true := by intro x hx; simp [encA] at hx; rcases hx with rfl | rfl | rfl <;> rfl
theorem und35 : Try.prog.underlying 35 = some (.struct (match Try.prog.underlying 35 with | some (.struct x) => x | _ => default)) := by kernel_rfl
theorem size35 : (Try.prog.info? 35).map (·.size) = some 3 := by kernel_rfl
def bringK (l : List (Int × Int)) (k x : Int) (d : Bool) (v : Int) : Out := if (withK l k x).2 = 0 then ⟨(withK l k x).1, d, v, 0⟩ else ⟨[], false, 0, 6⟩

theorem bring_s (l : List (Int × Int)) (hl : l.Pairwise fun a b => a.1 < b.1) (hn : l.length ≤ 16) (k x : Int) (d : Bool) (v : Int) (w : World) : Calls Try.prog 21 #[.agg (encS l).toArray, .agg #[.int .u64 k, .int .u64 x], .agg #[.int .i64 0, .bool d, .int .u64 v]] w fun e w' => e = .returned (.tuple #[.agg (encS (bringK l k x d v).l).toArray, .agg (encA 0 (bringK l k x d v).d (bringK l k x d v).v).toArray, .int .i64 (bringK l k x d v).e]) ∧ Below w.heap.size w w' := by
  have hF := (Fr.start w).push w.heap.size rfl (encS l) 29
  replace hF := hF.push (w.heap.size + 1) (by simp) [.int .u64 k, .int .u64 x] 26
  replace hF := hF.push (w.heap.size + 2) (by simp) [.int .i64 0, .bool d, .int .u64 v] 35
  replace hF := hF.push (w.heap.size + 3) (by simp) (encS []) 29
  replace hF := hF.push (w.heap.size + 4) (by simp) (encA 0 false 0) 35
  have C1 := Lib.hid (with_s l hl hn k x)
  have hE : ∃ L er, withK l k x = (L, er) ∧ (er = 0 ∨ er = 6) ∧ L.length ≤ 16 := ⟨_, _, rfl, (withK_two l k x hn).1, (withK_two l k x hn).2⟩
  obtain ⟨L, er, hE, her, hL⟩ := hE
  rw [hE] at C1
  generalize hWW : bringK l k x d v = W
  have HW : Hid (bringK l k x d v = W) := Lib.hid hWW
  clear hWW
  go_enter Try.func21, Try.ntmps21
  go_upto_region 1 with fail
  have r3 := hF.rule 3 rfl
  apply wp_region_lit
  refine wpList_load_mid rfl 29 _ rfl w.heap.size 0 rfl (encS l) _ (hF.range 4 rfl) und29 rfl (size33 hn) ?_
  go_wp2_with fail
  refine (C1.out _).mono ?_
  rintro e w1 ⟨rfl, hb⟩
  replace hF := hF.over hb
  clear hb r3
  rename_i aK
  refine aK _ _ ?_
  clear aK
  refine Go.Great.wpList_readTo rfl (some 11) rfl _ rfl ?_
  refine Go.Great.wpList_readTo rfl (some 15) rfl (.agg (encS L).toArray) (by go_simp) ?_
  refine Go.Great.wpList_readTo rfl (some 16) rfl (.int .i64 er) (by go_simp) ?_
  refine Go.Great.wpList_allocTo rfl (some 9) rfl (.pointer (some ⟨w1.heap.size, 0, none⟩)) (.cells (encS []).toArray 29) (by kernel_rfl) ?_
  have hw1 : w.heap.size + 5 ≤ w1.heap.size := by have := hF.lt 0 rfl; omega
  replace hF := hF.push w1.heap.size rfl (encS []) 29
  generalize hww : World.alloc w1 _ = w2 at *
  generalize w1.heap.size = Z at *
  clear hww
  refine wpList_store_mid rfl 29 _ _ rfl Z 0 (encS L).toArray rfl rfl (hF.there 0 rfl (by omega) (by rw [encS_length (by simp), List.size_toArray, encS_length hL])) (size33a hL) (one33 _) ?_
  replace hF := hF.whole (us := encS L) (by omega) (by simp; omega) (by rw [encS_length (by simp), encS_length hL])
  generalize World.setCells w2 _ _ _ = w3 at *
  rcases her with rfl | rfl
  · have e9 : bringK l k x d v = ⟨L, d, v, 0⟩ := by unfold bringK; rw [hE]; rfl
    rw [HW.out] at e9
    subst e9
    go_upto_region 4 with fail
    have hG := hF.sub (bl' := [(w.heap.size + 3, encS []), (w.heap.size + 4, encA 0 false 0)]) (by simp)
    have hK := hF.sub (bl' := [(Z, encS L), (w.heap.size + 2, encA 0 d v)]) (by simp [encA])
    clear hF
    have STEP1 : Hid (∀ w5, Fr w [(w.heap.size + 3, encS []), (w.heap.size + 4, encA 0 false 0)] w5 → Fr w [(w.heap.size + 3, encS L), (w.heap.size + 4, encA 0 false 0)] (w5.setCells (w.heap.size + 3) 0 (encS L))) := Lib.hid fun w5 h => h.whole (by omega) (by simp) (by rw [encS_length (by simp), encS_length hL])
    have STEP2 : Hid (∀ w5, Fr w [(w.heap.size + 3, encS L), (w.heap.size + 4, encA 0 false 0)] w5 → Fr w [(w.heap.size + 3, encS L), (w.heap.size + 4, encA 0 d v)] (w5.setCells (w.heap.size + 4) 0 (encA 0 d v))) := Lib.hid fun w5 h => by
      have h2 := (h.sub (bl' := [(w.heap.size + 4, encA 0 false 0), (w.heap.size + 3, encS L)]) (by simp)).whole (us := encA 0 d v) (by omega) (by simp) rfl
      exact h2.sub (by simp)
    have STEP3 : Hid (∀ (w5 : World) (n : Nat) (us : List Value), w.heap.size + 3 ≤ n → n ≤ w.heap.size + 4 → Fr w [(Z, encS L), (w.heap.size + 2, encA 0 d v)] w5 → Fr w [(Z, encS L), (w.heap.size + 2, encA 0 d v)] (w5.setCells n 0 us)) := Lib.hid fun w5 n us h1 h2 h => h.apart (by omega) (by simp; omega) us 0
    refine Ord.wp_chain [2, 3] (fun w' => Fr w [(Z, encS L), (w.heap.size + 2, encA 0 d v)] w') (fun j w' => Fr w [(w.heap.size + 3, if j = 0 then encS [] else encS L), (w.heap.size + 4, if j < 2 then encA 0 false 0 else encA 0 d v)] w') (by kernel_rfl) (by kernel_rfl) (by kernel_rfl) hK.drew (by rw [if_pos rfl, if_pos (by omega)]; exact hG.drew) (fun hT => ?_)
    have hT9 := Lib.hid hT
    clear hT
    refine Ord.ch_value (v := .agg (encS L).toArray) hT9.out (by decide) (by rfl) (fun w5 hS => exec_load w5 29 _ rfl Z rfl (encS L) _ (hS.range 0 rfl) und29 rfl (size33 hL)) ?_
    refine Ord.ch_value (v := .agg (encA 0 d v).toArray) hT9.out (by decide) (by rfl) (fun w5 hS => exec_load w5 35 _ rfl (w.heap.size + 2) rfl (encA 0 d v) _ (hS.range 1 rfl) und35 rfl size35) ?_
    refine Ord.ch_turn (v := undef) 0 hT9.out rfl (by decide) (Or.inl rfl) (by rfl) ?_ ?_
    · rintro w5 hC5 hA5
      rw [if_pos rfl, if_pos (by omega)] at hA5
      rw [exec_store w5 29 _ _ rfl (w.heap.size + 3) (encS L) rfl rfl (hA5.there 0 rfl (by omega) (by rw [encS_length (by simp), encS_length hL])) (size33 hL) (encS_one L)]
      exact ⟨rfl, STEP3.out _ _ _ (by omega) (by omega) hC5, STEP1.out _ hA5⟩
    refine Ord.ch_turn (v := undef) 1 hT9.out rfl (by decide) (Or.inr ⟨2, rfl, by kernel_rfl⟩) (by rfl) ?_ ?_
    · rintro w5 hC5 hA5
      rw [exec_store w5 35 _ _ rfl (w.heap.size + 4) (encA 0 d v) rfl rfl (hA5.there 1 rfl (by omega) rfl) size35 (encA_one _ _ _)]
      exact ⟨rfl, STEP3.out _ _ _ (by omega) (by omega) hC5, STEP2.out _ hA5⟩
    repeat (first
      | (refine Ord.ch_value (v := ?_) hT9.out (by decide) (by rfl) ?_ ?_; rotate_left; (focus (intro w5 hS; skip; go_simp <;> with_reducible rfl)); (try simp only [Act.put, List.setIfInBounds_toArray, List.set_cons_zero, List.set_cons_succ]))
      | (refine Ord.ch_off hT9.out (by decide) (by rfl) ?_; (try simp only [Act.put, List.setIfInBounds_toArray, List.set_cons_zero, List.set_cons_succ])))
    refine Ord.InText.nil fun w5 hS => ?_
    clear hT9
    obtain ⟨hC9, hG9⟩ := Ord.chain_end hS
    clear hS
    have hG9' : Fr w [(w.heap.size + 3, encS L), (w.heap.size + 4, encA 0 d v)] w5 := hG9
    go_wp2_with fail
    exact bodyPost_ret (res_cct rfl _ _ (w.heap.size + 3) (w.heap.size + 4) rfl rfl _ _ _ _ (hG9'.range 0 rfl) (hG9'.range 1 rfl) und29 rfl (size33 hL) und35 rfl size35) rfl ⟨rfl, hG9'.below⟩
  · have e9 : bringK l k x d v = ⟨[], false, 0, 6⟩ := by unfold bringK; rw [hE]; rfl
    rw [HW.out] at e9
    subst e9
    go_upto_region 3 with fail
    apply wp_region_lit
    refine wpList_buildTo rfl 29 _ rfl (some 19) rfl (encS []).toArray (by kernel_rfl) ?_
    refine wpList_buildTo rfl 35 _ rfl (some 20) rfl (encA 0 false 0).toArray (by kernel_rfl) ?_
    refine Go.Great.wpList_readTo rfl (some 21) rfl _ rfl ?_
    have hG := hF.sub (bl' := [(w.heap.size + 3, encS []), (w.heap.size + 4, encA 0 false 0)]) (by simp)
    refine wpList_store_mid rfl 29 _ _ rfl (w.heap.size + 3) 0 (encS []).toArray rfl rfl (hG.there 0 rfl (by omega) (by rw [List.size_toArray])) (size33a (by simp)) (one33 _) ?_
    replace hG := hG.whole (us := encS []) (by omega) (by simp) rfl
    generalize World.setCells w3 _ _ _ = w4 at *
    replace hG := hG.sub (bl' := [(w.heap.size + 4, encA 0 false 0), (w.heap.size + 3, encS [])]) (by simp)
    refine wpList_store_mid rfl 35 _ _ rfl (w.heap.size + 4) 0 (encA 0 false 0).toArray rfl rfl (hG.there 0 rfl (by omega) rfl) size35 (all_oneCell_toArray (encA_one _ _ _)) ?_
    replace hG := hG.whole (us := encA 0 false 0) (by omega) (by simp) rfl
    generalize World.setCells w4 _ _ _ = w5 at *
    go_wp2_with fail
    exact bodyPost_ret (res_cct rfl _ _ (w.heap.size + 3) (w.heap.size + 4) rfl rfl _ _ _ _ (hG.range 1 rfl) (hG.range 0 rfl) und29 rfl (size33 (by simp)) und35 rfl size35) rfl ⟨rfl, hG.below⟩
end Go.Proofs.Ytdeohigggjfjjaa

/- A state without a key's pair. -/
namespace Go.Proofs.Ytdeohigggjfjjaa
open Go.RowKit
set_option maxRecDepth 100000

theorem slice_lh' (N i n : Nat) (hi : i ≤ n) (hn : n ≤ 16) (w : World) : (Instr.sliceAt 27 (.pointer (some ⟨N, 0, none⟩)) (some (.int .i64 i)) (some (.int .i64 n)) none).run Try.prog w = .ok (.slice (some ⟨N, if i = 16 then 0 else i * 2, none⟩) (n - i) (16 - i)) w := by
  by_cases e : i = 16
  · subst e
    rw [run_sliceAt_array_lh w _ _ und27 .i64 .i64 (16 : Nat) n (by omega) (by omega) (by rw [len27]; omega), size27]
    simp [slicedAt, len27, Result.andThen, Addr.add]
  · rw [if_neg e]; exact slice_lh N i n hi hn (by omega) w
/-- What a state comes to, with a pair taken out. -/
theorem encS_del {l : List (Int × Int)} {i : Nat} (hi : i < l.length) (hn : l.length ≤ 16) (p q : Value) :
    (((flatP (l.take i) ++ flatP (l.drop (i + 1)) ++ ([p, q] ++ zeros (32 - 2 * l.length))) ++ [Value.int .i64 ((l.length : Int) - 1)]).set ((l.length - 1) * 2) (.int .u64 0)).set ((l.length - 1) * 2 + 1) (.int .u64 0) = encS (l.take i ++ l.drop (i + 1)) := by
  have e := set_two (flatP (l.take i) ++ flatP (l.drop (i + 1))) (zeros (32 - 2 * l.length) ++ [Value.int .i64 ((l.length : Int) - 1)]) p q (.int .u64 0) (.int .u64 0) ((l.length - 1) * 2) (by simp; omega)
  have e2 : (l.take i ++ l.drop (i + 1)).length = l.length - 1 := by simp; omega
  have e3 : 32 - 2 * (l.length - 1) = 2 + (32 - 2 * l.length) := by omega
  unfold encS
  rw [e2, flatP_append, e3, zeros_add, show ((l.length - 1 : Nat) : Int) = (l.length : Int) - 1 by omega, show zeros 2 = [.int .u64 0, .int .u64 0] from rfl]
  simpa using e

theorem without_s (l : List (Int × Int)) (hl : l.Pairwise fun a b => a.1 < b.1) (hn : l.length ≤ 16) (k : Int) (w : World) : Calls Try.prog 18 #[.agg (encS l).toArray, .int .u64 k] w fun e w' => e = .returned (.agg (encS (delK l k)).toArray) ∧ Below w.heap.size w w' := by
  have hF := (Fr.start w).push w.heap.size rfl (encS l) 29
  have C1 : Hid (∀ w' bl, (w.heap.size, encS l) ∈ bl → Fr w bl w' → Calls Try.prog 22 #[.pointer (some ⟨w.heap.size, 0, none⟩), .int .u64 k] w' fun e w'' => e = .returned (.tuple #[.int .i64 (cnt l k), .bool (hasK l k)]) ∧ Below w'.heap.size w' w'') := Lib.hid fun w' bl hm h => find_u l w.heap.size k w' hl hn (h.2 _ hm).1 (h.2 _ hm).2.1
  generalize hWW : delK l k = W
  have HW := Lib.hid hWW
  clear hWW
  go_enter Try.func18, Try.ntmps18
  go_wp2_with fail
  replace hF := hF.push (w.heap.size + 1) (by simp) (encS []) 29
  refine (C1.out _ _ (by simp) hF).mono ?_
  rintro e w1 ⟨rfl, hb⟩
  replace hF := hF.over hb
  clear hb
  cases hh : hasK l k with
  | false =>
    have e9 : delK l k = l := by unfold delK; simp [hh]
    rw [HW.out] at e9
    subst e9
    go_upto_region 3 with fail
    apply wp_region_lit
    refine wpList_load_mid rfl 29 _ rfl w.heap.size 0 rfl (encS W) _ (hF.range 1 rfl) und29 rfl (size33 hn) ?_
    refine wpList_store_mid rfl 29 _ _ rfl (w.heap.size + 1) 0 (encS W).toArray rfl rfl (hF.there 0 rfl (by omega) (by rw [encS_length (by simp), List.size_toArray, encS_length hn])) (size33a hn) (one33 _) ?_
    have hG := hF.whole (us := encS W) (by omega) (by simp) (by rw [encS_length (by simp), encS_length hn])
    generalize World.setCells w1 _ _ _ = w3 at *
    go_wp2_with fail
    exact bodyPost_ret (res_c rfl _ _ (w.heap.size + 1) rfl _ _ (hG.range 0 rfl) und29 rfl (size33 hn)) rfl ⟨rfl, hG.below⟩
  | true =>
    have hc := hasK_lt hh
    have e9 : delK l k = l.take (cnt l k) ++ l.drop (cnt l k + 1) := by unfold delK; rw [hh]; rfl
    rw [HW.out] at e9
    subst e9
    obtain ⟨B, p, q, eT', hB⟩ := encS_out hc hn
    have eT := Lib.hid eT'
    clear eT'
    have hG := hF.sub (bl' := [(w.heap.size, encS l), (w.heap.size + 1, encS [])]) (by simp)
    have SL1 := Lib.hid (slice_l w.heap.size (cnt l k) (by omega))
    have SL2 : Hid (∀ w5, (Instr.sliceAt 27 (.pointer (some ⟨w.heap.size, 0, none⟩)) (some (.int .i64 ((cnt l k : Int) + 1))) (some (.int .i64 l.length)) none).run Try.prog w5 = .ok (.slice (some ⟨w.heap.size, if cnt l k = 15 then 0 else (cnt l k + 1) * 2, none⟩) (l.length - (cnt l k + 1)) (15 - cnt l k)) w5) := Lib.hid fun w5 => by
      have := slice_lh' w.heap.size (cnt l k + 1) l.length (by omega) hn w5
      rw [show 16 - (cnt l k + 1) = 15 - cnt l k by omega] at this
      simpa using this
    have CP : Hid (∀ w5, Fr w [(w.heap.size, encS l), (w.heap.size + 1, encS [])] w5 → ∃ w6, (∀ ty, (Builtin.copy_ #[46, 46] ty #[.slice (some ⟨w.heap.size, cnt l k * 2, none⟩) (16 - cnt l k) (16 - cnt l k), .slice (some ⟨w.heap.size, if cnt l k = 15 then 0 else (cnt l k + 1) * 2, none⟩) (l.length - (cnt l k + 1)) (15 - cnt l k)]).run Try.prog w5 = .ok (goInt (Nat.min (l.length - (cnt l k + 1)) (16 - cnt l k))) w6) ∧ Fr w [(w.heap.size, flatP (l.take (cnt l k)) ++ flatP (l.drop (cnt l k + 1)) ++ ([p, q] ++ zeros (32 - 2 * l.length) ++ [.int .i64 l.length])), (w.heap.size + 1, encS [])] w6) := Lib.hid fun w5 h => by
      have hL : (flatP (l.drop (cnt l k + 1))).length = 2 * (l.length - cnt l k - 1) := by simp; omega
      have hA : (flatP (l.take (cnt l k))).length = cnt l k * 2 := by simp; omega
      refine ⟨w5.setCells w.heap.size (flatP (l.take (cnt l k))).length (flatP (l.drop (cnt l k + 1))), fun ty => ?_, Fr.puts (Nat.le_refl _) (by simp) _ _ B _ w5 (by rw [← eT.out]; exact h) (by rw [hB, hL])⟩
      rw [hA]
      have hmin : Nat.min (l.length - (cnt l k + 1)) (16 - cnt l k) = l.length - (cnt l k + 1) := Nat.min_eq_left (by omega)
      refine run_copy2 w5 _ _ ty 26 w.heap.size _ _ _ ⟨w.heap.size, if cnt l k = 15 then 0 else (cnt l k + 1) * 2, none⟩ _ _ (flatP (l.drop (cnt l k + 1))) (by kernel_rfl) (by kernel_rfl) (by rw [hL, hmin]; omega) (fun j v hv => ?_) (fun j hjj => ?_) (fun j hjj => ?_) (flatP_one _)
      · have hj : j < (flatP (l.drop (cnt l k + 1))).length := (List.getElem?_eq_some_iff.1 hv).1
        rw [hL] at hj
        rw [if_neg (by omega), Addr.add_mid, h.rule 0 rfl]
        exact encS_drop (by omega) hv
      · rw [h.rule 0 rfl, List.getElem?_eq_getElem (by rw [encS_length hn]; omega)]; rfl
      · exact h.thaw 0 rfl (Nat.le_refl _) _ (by rw [encS_length hn]; omega)
    generalize (if cnt l k = 15 then 0 else (cnt l k + 1) * 2) = o5 at SL2 CP
    have r2 := (hG.rule 0 rfl 32).trans (encS_n hn)
    go_upto_region 4 with fail
    have W1 : Hid (IntKind.i64.wrap ((cnt l k : Int) + 1) = (cnt l k : Int) + 1) := Lib.hid (by rw [IntKind.wrap_i64]; omega)
    refine Ord.wp_chain [9] (fun w' => w'.cell? ⟨w.heap.size, 32, none⟩ = some (.int .i64 l.length)) (fun j w' => Fr w [(w.heap.size, if j = 0 then encS l else flatP (l.take (cnt l k)) ++ flatP (l.drop (cnt l k + 1)) ++ ([p, q] ++ zeros (32 - 2 * l.length) ++ [.int .i64 l.length])), (w.heap.size + 1, encS [])] w') (by kernel_rfl) (by kernel_rfl) (by kernel_rfl) r2 (by rw [if_pos rfl]; exact hG.drew) (fun hT => ?_)
    have hT9 := Lib.hid hT
    clear hT
    repeat (first
      | (refine Ord.ch_value (v := ?_) hT9.out (by decide) (by rfl) ?_ ?_; rotate_left; (focus (intro w5 hS; have r := hS; have w1 := W1.out; have s1 := SL1.out; have s2 := SL2.out; go_simp <;> with_reducible rfl)); (try simp only [Act.put, List.setIfInBounds_toArray, List.set_cons_zero, List.set_cons_succ]))
      | (refine Ord.ch_off hT9.out (by decide) (by rfl) ?_; (try simp only [Act.put, List.setIfInBounds_toArray, List.set_cons_zero, List.set_cons_succ])))
    refine Ord.ch_turn (v := goInt (Nat.min (l.length - (cnt l k + 1)) (16 - cnt l k))) 0 hT9.out rfl (by decide) (Or.inl rfl) (by rfl) ?_ ?_
    · rintro w5 hC5 hA5
      rw [if_pos rfl] at hA5
      obtain ⟨w6, hr, hF6⟩ := CP.out w5 hA5
      go_simp
      have h32 := (hF6.rule 0 rfl 32).trans (by
        have := last32 (flatP (l.take (cnt l k)) ++ flatP (l.drop (cnt l k + 1)) ++ [p, q]) (32 - 2 * l.length) (.int .i64 l.length) (by simp; omega)
        simpa using this)
      refine ⟨by first | rfl | simp, h32, by simpa using hF6⟩
    refine Ord.InText.nil fun w5 hS => ?_
    clear hT9
    obtain ⟨hC9, hG9⟩ := Ord.chain_end hS
    clear hS
    have eH : (if [9].length = 0 then encS l else flatP (l.take (cnt l k)) ++ flatP (l.drop (cnt l k + 1)) ++ ([p, q] ++ zeros (32 - 2 * l.length) ++ [.int .i64 l.length])) = (flatP (l.take (cnt l k)) ++ flatP (l.drop (cnt l k + 1)) ++ ([p, q] ++ zeros (32 - 2 * l.length))) ++ [.int .i64 l.length] := by rw [if_neg (by decide)]; simp
    rw [eH] at hG9
    clear eH hC9 hG
    have hP : (flatP (l.take (cnt l k)) ++ flatP (l.drop (cnt l k + 1)) ++ ([p, q] ++ zeros (32 - 2 * l.length))).length = 32 := by simp [zeros]; omega
    generalize hPP : flatP (l.take (cnt l k)) ++ flatP (l.drop (cnt l k + 1)) ++ ([p, q] ++ zeros (32 - 2 * l.length)) = PP at *
    have HPP := Lib.hid hPP
    clear hPP
    have c32 : w5.cell? ⟨w.heap.size, 32, none⟩ = some (.int .i64 l.length) := by rw [hG9.rule 0 rfl, List.getElem?_append_right (by omega), hP]; rfl
    have f32 : w5.frozen? ⟨w.heap.size, 32, none⟩ = false := hG9.thaw 0 rfl (Nat.le_refl _) 32 (by simp [hP])
    go_upto_region 6 with fail
    have hG := hG9.put (Nat.le_refl _) (by simp) 32 (by simp [hP]) (.int .i64 ((l.length : Int) - 1))
    have e10 : (PP ++ [Value.int .i64 l.length]).set 32 (.int .i64 ((l.length : Int) - 1)) = PP ++ [.int .i64 ((l.length : Int) - 1)] := by rw [← hP]; simp
    rw [e10] at hG
    clear hG9 c32 f32 e10
    generalize World.setCell w5 _ _ = w7 at *
    have hPl : (PP ++ [Value.int .i64 ((l.length : Int) - 1)]).length = 33 := by simp [hP]
    have c32 : w7.cell? ⟨w.heap.size, 32, none⟩ = some (.int .i64 ((l.length : Int) - 1)) := by rw [hG.rule 0 rfl, List.getElem?_append_right (by omega), hP]; rfl
    obtain ⟨m, hm⟩ : ∃ m : Nat, l.length = m + 1 := ⟨l.length - 1, by omega⟩
    have hmm : (l.length : Int) - 1 = (m : Int) := by omega
    have hm16 : m < 16 := by omega
    rw [hmm] at c32
    have cm1 : w7.cell? ⟨w.heap.size, m * 2, none⟩ = some ((PP ++ [Value.int .i64 ((l.length : Int) - 1)]).getD (m * 2) undef) := by rw [hG.rule 0 rfl, List.getD_eq_getElem?_getD, List.getElem?_eq_getElem (by omega)]; rfl
    have cm2 : w7.cell? ⟨w.heap.size, m * 2 + 1, none⟩ = some ((PP ++ [Value.int .i64 ((l.length : Int) - 1)]).getD (m * 2 + 1) undef) := by rw [hG.rule 0 rfl, List.getD_eq_getElem?_getD, List.getElem?_eq_getElem (by omega)]; rfl
    have f1 := hG.thaw 0 rfl (Nat.le_refl _) (m * 2) (by omega)
    have f2 := hG.thaw 0 rfl (Nat.le_refl _) (m * 2 + 1) (by omega)
    go_upto_region 7 with fail
    replace hG := (hG.put (Nat.le_refl _) (by simp) (m * 2) (by omega) (.int .u64 0)).put (Nat.le_refl _) (by simp) (m * 2 + 1) (by rw [List.length_set]; omega) (.int .u64 0)
    have hdel := encS_del hc hn p q
    rw [← HPP.out, show m = l.length - 1 by omega, hdel] at hG
    have hL : (l.take (cnt l k) ++ l.drop (cnt l k + 1)).length ≤ 16 := by simp; omega
    replace hG := hG.sub (bl' := [(w.heap.size + 1, encS []), (w.heap.size, encS (l.take (cnt l k) ++ l.drop (cnt l k + 1)))]) (by simp)
    rw [show l.length - 1 = m by omega] at hG
    generalize World.setCell (World.setCell _ _ _) _ _ = w2 at *
    apply wp_region_lit
    refine wpList_load_mid rfl 29 _ rfl w.heap.size 0 rfl (encS (l.take (cnt l k) ++ l.drop (cnt l k + 1))) _ (hG.range 1 rfl) und29 rfl (size33 hL) ?_
    refine wpList_store_mid rfl 29 _ _ rfl (w.heap.size + 1) 0 (encS (l.take (cnt l k) ++ l.drop (cnt l k + 1))).toArray rfl rfl (hG.there 0 rfl (by omega) (by rw [encS_length (by simp), List.size_toArray, encS_length hL])) (size33a hL) (one33 _) ?_
    replace hG := hG.whole (us := encS (l.take (cnt l k) ++ l.drop (cnt l k + 1))) (by omega) (by simp) (by rw [encS_length (by simp), encS_length hL])
    generalize World.setCells w2 _ _ _ = w3 at *
    go_wp2_with fail
    exact bodyPost_ret (res_c rfl _ _ (w.heap.size + 1) rfl _ _ (hG.range 0 rfl) und29 rfl (size33 hL)) rfl ⟨rfl, hG.below⟩
end Go.Proofs.Ytdeohigggjfjjaa

/- An op at once. -/
namespace Go.Proofs.Ytdeohigggjfjjaa
open Go.RowKit
set_option maxRecDepth 100000

/-- An op at once, of a state. -/
def doK (l : List (Int × Int)) (kd k v : Int) : Out :=
  if kd = 1 then (if hasK l k then ⟨l, false, 0, 0⟩ else bringK l k 0 true 0)
  else if kd = 4 then bringK l k v (hasK l k) (getK l k)
  else if kd = 5 then (if hasK l k then ⟨l, false, getK l k, 0⟩ else bringK l k v true 0)
  else if kd = 2 then ⟨delK l k, hasK l k, 0, 0⟩
  else if kd = 6 then ⟨delK l k, hasK l k, getK l k, 0⟩
  else if kd = 3 then ⟨l, hasK l k, 0, 0⟩
  else if kd = 7 then ⟨l, hasK l k, getK l k, 0⟩
  else if kd = 8 then ⟨l, true, 0, 0⟩
  else ⟨[], false, 0, 8⟩
theorem delK_le (l : List (Int × Int)) (k : Int) (hn : l.length ≤ 16) : (delK l k).length ≤ 16 := by
  unfold delK
  split
  · simp; omega
  · exact hn
theorem bringK_le (l : List (Int × Int)) (k x : Int) (d : Bool) (v : Int) (hn : l.length ≤ 16) : (bringK l k x d v).l.length ≤ 16 := by
  unfold bringK
  split
  · exact (withK_two l k x hn).2
  · simp

set_option maxHeartbeats 2000000 in
theorem do1_s (l : List (Int × Int)) (hl : l.Pairwise fun a b => a.1 < b.1) (hn : l.length ≤ 16) (k v lv : Int) (w : World) : Calls Try.prog 9 #[.agg (encS l).toArray, .agg #[.int .i64 1, .int .u64 k, .int .u64 v, .int .i64 lv]] w fun e w' => e = .returned (.tuple #[.agg (encS (doK l 1 k v).l).toArray, .agg (encA 0 (doK l 1 k v).d (doK l 1 k v).v).toArray, .int .i64 (doK l 1 k v).e]) ∧ Below w.heap.size w w' := by
  have hF := (Fr.start w).push w.heap.size rfl (encS l) 29
  replace hF := hF.push (w.heap.size + 1) (by simp) [.int .i64 1, .int .u64 k, .int .u64 v, .int .i64 lv] 39
  replace hF := hF.push (w.heap.size + 2) (by simp) (encS []) 29
  replace hF := hF.push (w.heap.size + 3) (by simp) (encA 0 false 0) 35
  have C1 := Lib.hid (get_s l hl hn k)
  generalize hWW : doK l 1 k v = W
  have HW : Hid (doK l 1 k v = W) := Lib.hid hWW
  clear hWW
  go_enter Try.func9, Try.ntmps9
  go_upto_region 1 with fail
  have r2 := hF.rule 2 rfl
  apply wp_region_lit
  refine wpList_load_mid rfl 29 _ rfl w.heap.size 0 rfl (encS l) _ (hF.range 3 rfl) und29 rfl (size33 hn) ?_
  go_wp2_with fail
  refine (C1.out _).mono ?_
  rintro e w1 ⟨rfl, hb⟩
  replace hF := hF.over hb
  clear hb r2
  have r2 := hF.rule 2 rfl
  have hG := hF.sub (bl' := [(w.heap.size + 2, encS []), (w.heap.size + 3, encA 0 false 0), (w.heap.size, encS l)]) (by simp)
  cases hh : hasK l k with
  | true =>
    have e9 : doK l 1 k v = ⟨l, false, 0, 0⟩ := by unfold doK; simp [hh]
    rw [HW.out] at e9
    subst e9
    go_upto_region 5 with fail
    clear hF r2
    apply wp_region_lit
    refine wpList_load_mid rfl 29 _ rfl w.heap.size 0 rfl (encS l) _ (hG.range 2 rfl) und29 rfl (size33 hn) ?_
    refine wpList_buildTo rfl 35 _ rfl (some 22) rfl (encA 0 false 0).toArray (by kernel_rfl) ?_
    refine wpList_store_mid rfl 29 _ _ rfl (w.heap.size + 2) 0 (encS l).toArray rfl rfl (hG.there 0 rfl (by omega) (by rw [encS_length (by simp), List.size_toArray, encS_length hn])) (size33a hn) (one33 _) ?_
    replace hG := hG.whole (us := encS l) (by omega) (by simp) (by rw [encS_length (by simp), encS_length hn])
    generalize World.setCells _ _ _ _ = w8 at *
    replace hG := hG.sub (bl' := [(w.heap.size + 3, encA 0 false 0), (w.heap.size + 2, encS l)]) (by simp)
    refine wpList_store_mid rfl 35 _ _ rfl (w.heap.size + 3) 0 (encA 0 false 0).toArray rfl rfl (hG.there 0 rfl (by omega) rfl) size35 (all_oneCell_toArray (encA_one _ _ _)) ?_
    replace hG := hG.whole (us := encA 0 false 0) (by omega) (by simp) rfl
    generalize World.setCells _ _ _ _ = w9 at *
    go_wp2_with fail
    exact bodyPost_ret (res_cct rfl _ _ (w.heap.size + 2) (w.heap.size + 3) rfl rfl _ _ _ _ (hG.range 1 rfl) (hG.range 0 rfl) und29 rfl (size33 hn) und35 rfl size35) rfl ⟨rfl, hG.below⟩
  | false =>
    have e9 : doK l 1 k v = (bringK l k 0 true 0) := by unfold doK; simp [hh]
    rw [HW.out] at e9
    subst e9
    have hB := bringK_le l k 0 true 0 hn
    have CC := Lib.hid (bring_s l hl hn k 0 true 0)
    go_upto_region 6 with fail
    apply wp_region_lit
    refine wpList_load_mid rfl 29 _ rfl w.heap.size 0 rfl (encS l) _ (hG.range 2 rfl) und29 rfl (size33 hn) ?_
    go_wp2_with fail
    refine (CC.out _).mono ?_
    rintro e w3 ⟨rfl, hb⟩
    replace hG := hG.over hb
    clear hb hF r2
    rename_i aK
    refine aK _ _ ?_
    clear aK
    refine Go.Great.wpList_readTo rfl (some 29) rfl (.agg (encS (bringK l k 0 true 0).l).toArray) (by go_simp) ?_
    refine Go.Great.wpList_readTo rfl (some 30) rfl (.agg (encA 0 (bringK l k 0 true 0).d (bringK l k 0 true 0).v).toArray) (by go_simp) ?_
    refine Go.Great.wpList_readTo rfl (some 31) rfl (.int .i64 (bringK l k 0 true 0).e) (by go_simp) ?_
    refine wpList_store_mid rfl 29 _ _ rfl (w.heap.size + 2) 0 (encS (bringK l k 0 true 0).l).toArray rfl rfl (hG.there 0 rfl (by omega) (by rw [encS_length (by simp), List.size_toArray, encS_length hB])) (size33a hB) (one33 _) ?_
    replace hG := hG.whole (us := encS (bringK l k 0 true 0).l) (by omega) (by simp) (by rw [encS_length (by simp), encS_length hB])
    generalize World.setCells _ _ _ _ = w8 at *
    replace hG := hG.sub (bl' := [(w.heap.size + 3, encA 0 false 0), (w.heap.size + 2, encS (bringK l k 0 true 0).l)]) (by simp)
    refine wpList_store_mid rfl 35 _ _ rfl (w.heap.size + 3) 0 (encA 0 (bringK l k 0 true 0).d (bringK l k 0 true 0).v).toArray rfl rfl (hG.there 0 rfl (by omega) rfl) size35 (all_oneCell_toArray (encA_one _ _ _)) ?_
    replace hG := hG.whole (us := encA 0 (bringK l k 0 true 0).d (bringK l k 0 true 0).v) (by omega) (by simp) rfl
    generalize World.setCells _ _ _ _ = w9 at *
    go_wp2_with fail
    exact bodyPost_ret (res_cct rfl _ _ (w.heap.size + 2) (w.heap.size + 3) rfl rfl _ _ _ _ (hG.range 1 rfl) (hG.range 0 rfl) und29 rfl (size33 hB) und35 rfl size35) rfl ⟨rfl, hG.below⟩

set_option maxHeartbeats 2000000 in
theorem do4_s (l : List (Int × Int)) (hl : l.Pairwise fun a b => a.1 < b.1) (hn : l.length ≤ 16) (k v lv : Int) (w : World) : Calls Try.prog 9 #[.agg (encS l).toArray, .agg #[.int .i64 4, .int .u64 k, .int .u64 v, .int .i64 lv]] w fun e w' => e = .returned (.tuple #[.agg (encS (doK l 4 k v).l).toArray, .agg (encA 0 (doK l 4 k v).d (doK l 4 k v).v).toArray, .int .i64 (doK l 4 k v).e]) ∧ Below w.heap.size w w' := by
  have hF := (Fr.start w).push w.heap.size rfl (encS l) 29
  replace hF := hF.push (w.heap.size + 1) (by simp) [.int .i64 4, .int .u64 k, .int .u64 v, .int .i64 lv] 39
  replace hF := hF.push (w.heap.size + 2) (by simp) (encS []) 29
  replace hF := hF.push (w.heap.size + 3) (by simp) (encA 0 false 0) 35
  have C1 := Lib.hid (get_s l hl hn k)
  generalize hWW : doK l 4 k v = W
  have HW : Hid (doK l 4 k v = W) := Lib.hid hWW
  clear hWW
  go_enter Try.func9, Try.ntmps9
  go_upto_region 1 with fail
  have r2 := hF.rule 2 rfl
  apply wp_region_lit
  refine wpList_load_mid rfl 29 _ rfl w.heap.size 0 rfl (encS l) _ (hF.range 3 rfl) und29 rfl (size33 hn) ?_
  go_wp2_with fail
  refine (C1.out _).mono ?_
  rintro e w1 ⟨rfl, hb⟩
  replace hF := hF.over hb
  clear hb r2
  have r2 := hF.rule 2 rfl
  have hG := hF.sub (bl' := [(w.heap.size + 2, encS []), (w.heap.size + 3, encA 0 false 0), (w.heap.size, encS l)]) (by simp)
  have e9 : doK l 4 k v = (bringK l k v (hasK l k) (getK l k)) := by unfold doK; simp
  rw [HW.out] at e9
  subst e9
  have hB := bringK_le l k v (hasK l k) (getK l k) hn
  · have CC := Lib.hid (bring_s l hl hn k v (hasK l k) (getK l k))
    go_upto_region 8 with fail
    apply wp_region_lit
    refine wpList_load_mid rfl 29 _ rfl w.heap.size 0 rfl (encS l) _ (hG.range 2 rfl) und29 rfl (size33 hn) ?_
    go_wp2_with fail
    refine (CC.out _).mono ?_
    rintro e w3 ⟨rfl, hb⟩
    replace hG := hG.over hb
    clear hb hF r2
    rename_i aK
    refine aK _ _ ?_
    clear aK
    refine Go.Great.wpList_readTo rfl (some 44) rfl (.agg (encS (bringK l k v (hasK l k) (getK l k)).l).toArray) (by go_simp) ?_
    refine Go.Great.wpList_readTo rfl (some 45) rfl (.agg (encA 0 (bringK l k v (hasK l k) (getK l k)).d (bringK l k v (hasK l k) (getK l k)).v).toArray) (by go_simp) ?_
    refine Go.Great.wpList_readTo rfl (some 46) rfl (.int .i64 (bringK l k v (hasK l k) (getK l k)).e) (by go_simp) ?_
    refine wpList_store_mid rfl 29 _ _ rfl (w.heap.size + 2) 0 (encS (bringK l k v (hasK l k) (getK l k)).l).toArray rfl rfl (hG.there 0 rfl (by omega) (by rw [encS_length (by simp), List.size_toArray, encS_length hB])) (size33a hB) (one33 _) ?_
    replace hG := hG.whole (us := encS (bringK l k v (hasK l k) (getK l k)).l) (by omega) (by simp) (by rw [encS_length (by simp), encS_length hB])
    generalize World.setCells _ _ _ _ = w8 at *
    replace hG := hG.sub (bl' := [(w.heap.size + 3, encA 0 false 0), (w.heap.size + 2, encS (bringK l k v (hasK l k) (getK l k)).l)]) (by simp)
    refine wpList_store_mid rfl 35 _ _ rfl (w.heap.size + 3) 0 (encA 0 (bringK l k v (hasK l k) (getK l k)).d (bringK l k v (hasK l k) (getK l k)).v).toArray rfl rfl (hG.there 0 rfl (by omega) rfl) size35 (all_oneCell_toArray (encA_one _ _ _)) ?_
    replace hG := hG.whole (us := encA 0 (bringK l k v (hasK l k) (getK l k)).d (bringK l k v (hasK l k) (getK l k)).v) (by omega) (by simp) rfl
    generalize World.setCells _ _ _ _ = w9 at *
    go_wp2_with fail
    exact bodyPost_ret (res_cct rfl _ _ (w.heap.size + 2) (w.heap.size + 3) rfl rfl _ _ _ _ (hG.range 1 rfl) (hG.range 0 rfl) und29 rfl (size33 hB) und35 rfl size35) rfl ⟨rfl, hG.below⟩

set_option maxHeartbeats 2000000 in
theorem do5_s (l : List (Int × Int)) (hl : l.Pairwise fun a b => a.1 < b.1) (hn : l.length ≤ 16) (k v lv : Int) (w : World) : Calls Try.prog 9 #[.agg (encS l).toArray, .agg #[.int .i64 5, .int .u64 k, .int .u64 v, .int .i64 lv]] w fun e w' => e = .returned (.tuple #[.agg (encS (doK l 5 k v).l).toArray, .agg (encA 0 (doK l 5 k v).d (doK l 5 k v).v).toArray, .int .i64 (doK l 5 k v).e]) ∧ Below w.heap.size w w' := by
  have hF := (Fr.start w).push w.heap.size rfl (encS l) 29
  replace hF := hF.push (w.heap.size + 1) (by simp) [.int .i64 5, .int .u64 k, .int .u64 v, .int .i64 lv] 39
  replace hF := hF.push (w.heap.size + 2) (by simp) (encS []) 29
  replace hF := hF.push (w.heap.size + 3) (by simp) (encA 0 false 0) 35
  have C1 := Lib.hid (get_s l hl hn k)
  generalize hWW : doK l 5 k v = W
  have HW : Hid (doK l 5 k v = W) := Lib.hid hWW
  clear hWW
  go_enter Try.func9, Try.ntmps9
  go_upto_region 1 with fail
  have r2 := hF.rule 2 rfl
  apply wp_region_lit
  refine wpList_load_mid rfl 29 _ rfl w.heap.size 0 rfl (encS l) _ (hF.range 3 rfl) und29 rfl (size33 hn) ?_
  go_wp2_with fail
  refine (C1.out _).mono ?_
  rintro e w1 ⟨rfl, hb⟩
  replace hF := hF.over hb
  clear hb r2
  have r2 := hF.rule 2 rfl
  have hG := hF.sub (bl' := [(w.heap.size + 2, encS []), (w.heap.size + 3, encA 0 false 0), (w.heap.size, encS l)]) (by simp)
  cases hh : hasK l k with
  | true =>
    have e9 : doK l 5 k v = ⟨l, false, getK l k, 0⟩ := by unfold doK; simp [hh]
    rw [HW.out] at e9
    subst e9
    go_upto_region 11 with fail
    clear hF r2
    apply wp_region_lit
    refine wpList_load_mid rfl 29 _ rfl w.heap.size 0 rfl (encS l) _ (hG.range 2 rfl) und29 rfl (size33 hn) ?_
    refine Go.Great.wpList_readTo rfl (some 51) rfl _ rfl ?_
    refine wpList_buildTo rfl 35 _ rfl (some 52) rfl (encA 0 false (getK l k)).toArray (by kernel_rfl) ?_
    refine wpList_store_mid rfl 29 _ _ rfl (w.heap.size + 2) 0 (encS l).toArray rfl rfl (hG.there 0 rfl (by omega) (by rw [encS_length (by simp), List.size_toArray, encS_length hn])) (size33a hn) (one33 _) ?_
    replace hG := hG.whole (us := encS l) (by omega) (by simp) (by rw [encS_length (by simp), encS_length hn])
    generalize World.setCells _ _ _ _ = w8 at *
    replace hG := hG.sub (bl' := [(w.heap.size + 3, encA 0 false 0), (w.heap.size + 2, encS l)]) (by simp)
    refine wpList_store_mid rfl 35 _ _ rfl (w.heap.size + 3) 0 (encA 0 false (getK l k)).toArray rfl rfl (hG.there 0 rfl (by omega) rfl) size35 (all_oneCell_toArray (encA_one _ _ _)) ?_
    replace hG := hG.whole (us := encA 0 false (getK l k)) (by omega) (by simp) rfl
    generalize World.setCells _ _ _ _ = w9 at *
    go_wp2_with fail
    exact bodyPost_ret (res_cct rfl _ _ (w.heap.size + 2) (w.heap.size + 3) rfl rfl _ _ _ _ (hG.range 1 rfl) (hG.range 0 rfl) und29 rfl (size33 hn) und35 rfl size35) rfl ⟨rfl, hG.below⟩
  | false =>
    have e9 : doK l 5 k v = (bringK l k v true 0) := by unfold doK; simp [hh]
    rw [HW.out] at e9
    subst e9
    have hB := bringK_le l k v true 0 hn
    have CC := Lib.hid (bring_s l hl hn k v true 0)
    go_upto_region 12 with fail
    apply wp_region_lit
    refine wpList_load_mid rfl 29 _ rfl w.heap.size 0 rfl (encS l) _ (hG.range 2 rfl) und29 rfl (size33 hn) ?_
    go_wp2_with fail
    refine (CC.out _).mono ?_
    rintro e w3 ⟨rfl, hb⟩
    replace hG := hG.over hb
    clear hb hF r2
    rename_i aK
    refine aK _ _ ?_
    clear aK
    refine Go.Great.wpList_readTo rfl (some 61) rfl (.agg (encS (bringK l k v true 0).l).toArray) (by go_simp) ?_
    refine Go.Great.wpList_readTo rfl (some 62) rfl (.agg (encA 0 (bringK l k v true 0).d (bringK l k v true 0).v).toArray) (by go_simp) ?_
    refine Go.Great.wpList_readTo rfl (some 63) rfl (.int .i64 (bringK l k v true 0).e) (by go_simp) ?_
    refine wpList_store_mid rfl 29 _ _ rfl (w.heap.size + 2) 0 (encS (bringK l k v true 0).l).toArray rfl rfl (hG.there 0 rfl (by omega) (by rw [encS_length (by simp), List.size_toArray, encS_length hB])) (size33a hB) (one33 _) ?_
    replace hG := hG.whole (us := encS (bringK l k v true 0).l) (by omega) (by simp) (by rw [encS_length (by simp), encS_length hB])
    generalize World.setCells _ _ _ _ = w8 at *
    replace hG := hG.sub (bl' := [(w.heap.size + 3, encA 0 false 0), (w.heap.size + 2, encS (bringK l k v true 0).l)]) (by simp)
    refine wpList_store_mid rfl 35 _ _ rfl (w.heap.size + 3) 0 (encA 0 (bringK l k v true 0).d (bringK l k v true 0).v).toArray rfl rfl (hG.there 0 rfl (by omega) rfl) size35 (all_oneCell_toArray (encA_one _ _ _)) ?_
    replace hG := hG.whole (us := encA 0 (bringK l k v true 0).d (bringK l k v true 0).v) (by omega) (by simp) rfl
    generalize World.setCells _ _ _ _ = w9 at *
    go_wp2_with fail
    exact bodyPost_ret (res_cct rfl _ _ (w.heap.size + 2) (w.heap.size + 3) rfl rfl _ _ _ _ (hG.range 1 rfl) (hG.range 0 rfl) und29 rfl (size33 hB) und35 rfl size35) rfl ⟨rfl, hG.below⟩

set_option maxHeartbeats 2000000 in
theorem do2_s (l : List (Int × Int)) (hl : l.Pairwise fun a b => a.1 < b.1) (hn : l.length ≤ 16) (k v lv : Int) (w : World) : Calls Try.prog 9 #[.agg (encS l).toArray, .agg #[.int .i64 2, .int .u64 k, .int .u64 v, .int .i64 lv]] w fun e w' => e = .returned (.tuple #[.agg (encS (doK l 2 k v).l).toArray, .agg (encA 0 (doK l 2 k v).d (doK l 2 k v).v).toArray, .int .i64 (doK l 2 k v).e]) ∧ Below w.heap.size w w' := by
  have hF := (Fr.start w).push w.heap.size rfl (encS l) 29
  replace hF := hF.push (w.heap.size + 1) (by simp) [.int .i64 2, .int .u64 k, .int .u64 v, .int .i64 lv] 39
  replace hF := hF.push (w.heap.size + 2) (by simp) (encS []) 29
  replace hF := hF.push (w.heap.size + 3) (by simp) (encA 0 false 0) 35
  have C1 := Lib.hid (get_s l hl hn k)
  generalize hWW : doK l 2 k v = W
  have HW : Hid (doK l 2 k v = W) := Lib.hid hWW
  clear hWW
  go_enter Try.func9, Try.ntmps9
  go_upto_region 1 with fail
  have r2 := hF.rule 2 rfl
  apply wp_region_lit
  refine wpList_load_mid rfl 29 _ rfl w.heap.size 0 rfl (encS l) _ (hF.range 3 rfl) und29 rfl (size33 hn) ?_
  go_wp2_with fail
  refine (C1.out _).mono ?_
  rintro e w1 ⟨rfl, hb⟩
  replace hF := hF.over hb
  clear hb r2
  have r2 := hF.rule 2 rfl
  have hG := hF.sub (bl' := [(w.heap.size + 2, encS []), (w.heap.size + 3, encA 0 false 0), (w.heap.size, encS l)]) (by simp)
  have e9 : doK l 2 k v = ⟨delK l k, hasK l k, 0, 0⟩ := by unfold doK; simp
  rw [HW.out] at e9
  subst e9
  · have CC := Lib.hid (without_s l hl hn k)
    go_upto_region 14 with fail
    apply wp_region_lit
    refine wpList_load_mid rfl 29 _ rfl w.heap.size 0 rfl (encS l) _ (hG.range 2 rfl) und29 rfl (size33 hn) ?_
    go_wp2_with fail
    refine (CC.out _).mono ?_
    rintro e w3 ⟨rfl, hb⟩
    replace hG := hG.over hb
    clear hb hF r2
    rename_i aK
    refine aK _ _ ?_
    clear aK
    refine Go.Great.wpList_readTo rfl (some 70) rfl _ rfl ?_
    refine wpList_buildTo rfl 35 _ rfl (some 71) rfl (encA 0 (hasK l k) 0).toArray (by kernel_rfl) ?_
    refine wpList_store_mid rfl 29 _ _ rfl (w.heap.size + 2) 0 (encS (delK l k)).toArray rfl rfl (hG.there 0 rfl (by omega) (by rw [encS_length (by simp), List.size_toArray, encS_length (delK_le l k hn)])) (size33a (delK_le l k hn)) (one33 _) ?_
    replace hG := hG.whole (us := encS (delK l k)) (by omega) (by simp) (by rw [encS_length (by simp), encS_length (delK_le l k hn)])
    generalize World.setCells _ _ _ _ = w8 at *
    replace hG := hG.sub (bl' := [(w.heap.size + 3, encA 0 false 0), (w.heap.size + 2, encS (delK l k))]) (by simp)
    refine wpList_store_mid rfl 35 _ _ rfl (w.heap.size + 3) 0 (encA 0 (hasK l k) 0).toArray rfl rfl (hG.there 0 rfl (by omega) rfl) size35 (all_oneCell_toArray (encA_one _ _ _)) ?_
    replace hG := hG.whole (us := encA 0 (hasK l k) 0) (by omega) (by simp) rfl
    generalize World.setCells _ _ _ _ = w9 at *
    go_wp2_with fail
    exact bodyPost_ret (res_cct rfl _ _ (w.heap.size + 2) (w.heap.size + 3) rfl rfl _ _ _ _ (hG.range 1 rfl) (hG.range 0 rfl) und29 rfl (size33 (delK_le l k hn)) und35 rfl size35) rfl ⟨rfl, hG.below⟩

set_option maxHeartbeats 2000000 in
theorem do6_s (l : List (Int × Int)) (hl : l.Pairwise fun a b => a.1 < b.1) (hn : l.length ≤ 16) (k v lv : Int) (w : World) : Calls Try.prog 9 #[.agg (encS l).toArray, .agg #[.int .i64 6, .int .u64 k, .int .u64 v, .int .i64 lv]] w fun e w' => e = .returned (.tuple #[.agg (encS (doK l 6 k v).l).toArray, .agg (encA 0 (doK l 6 k v).d (doK l 6 k v).v).toArray, .int .i64 (doK l 6 k v).e]) ∧ Below w.heap.size w w' := by
  have hF := (Fr.start w).push w.heap.size rfl (encS l) 29
  replace hF := hF.push (w.heap.size + 1) (by simp) [.int .i64 6, .int .u64 k, .int .u64 v, .int .i64 lv] 39
  replace hF := hF.push (w.heap.size + 2) (by simp) (encS []) 29
  replace hF := hF.push (w.heap.size + 3) (by simp) (encA 0 false 0) 35
  have C1 := Lib.hid (get_s l hl hn k)
  generalize hWW : doK l 6 k v = W
  have HW : Hid (doK l 6 k v = W) := Lib.hid hWW
  clear hWW
  go_enter Try.func9, Try.ntmps9
  go_upto_region 1 with fail
  have r2 := hF.rule 2 rfl
  apply wp_region_lit
  refine wpList_load_mid rfl 29 _ rfl w.heap.size 0 rfl (encS l) _ (hF.range 3 rfl) und29 rfl (size33 hn) ?_
  go_wp2_with fail
  refine (C1.out _).mono ?_
  rintro e w1 ⟨rfl, hb⟩
  replace hF := hF.over hb
  clear hb r2
  have r2 := hF.rule 2 rfl
  have hG := hF.sub (bl' := [(w.heap.size + 2, encS []), (w.heap.size + 3, encA 0 false 0), (w.heap.size, encS l)]) (by simp)
  have e9 : doK l 6 k v = ⟨delK l k, hasK l k, getK l k, 0⟩ := by unfold doK; simp
  rw [HW.out] at e9
  subst e9
  · have CC := Lib.hid (without_s l hl hn k)
    go_upto_region 16 with fail
    apply wp_region_lit
    refine wpList_load_mid rfl 29 _ rfl w.heap.size 0 rfl (encS l) _ (hG.range 2 rfl) und29 rfl (size33 hn) ?_
    go_wp2_with fail
    refine (CC.out _).mono ?_
    rintro e w3 ⟨rfl, hb⟩
    replace hG := hG.over hb
    clear hb hF r2
    rename_i aK
    refine aK _ _ ?_
    clear aK
    refine Go.Great.wpList_readTo rfl (some 78) rfl _ rfl ?_
    refine Go.Great.wpList_readTo rfl (some 79) rfl _ rfl ?_
    refine wpList_buildTo rfl 35 _ rfl (some 80) rfl (encA 0 (hasK l k) (getK l k)).toArray (by kernel_rfl) ?_
    refine wpList_store_mid rfl 29 _ _ rfl (w.heap.size + 2) 0 (encS (delK l k)).toArray rfl rfl (hG.there 0 rfl (by omega) (by rw [encS_length (by simp), List.size_toArray, encS_length (delK_le l k hn)])) (size33a (delK_le l k hn)) (one33 _) ?_
    replace hG := hG.whole (us := encS (delK l k)) (by omega) (by simp) (by rw [encS_length (by simp), encS_length (delK_le l k hn)])
    generalize World.setCells _ _ _ _ = w8 at *
    replace hG := hG.sub (bl' := [(w.heap.size + 3, encA 0 false 0), (w.heap.size + 2, encS (delK l k))]) (by simp)
    refine wpList_store_mid rfl 35 _ _ rfl (w.heap.size + 3) 0 (encA 0 (hasK l k) (getK l k)).toArray rfl rfl (hG.there 0 rfl (by omega) rfl) size35 (all_oneCell_toArray (encA_one _ _ _)) ?_
    replace hG := hG.whole (us := encA 0 (hasK l k) (getK l k)) (by omega) (by simp) rfl
    generalize World.setCells _ _ _ _ = w9 at *
    go_wp2_with fail
    exact bodyPost_ret (res_cct rfl _ _ (w.heap.size + 2) (w.heap.size + 3) rfl rfl _ _ _ _ (hG.range 1 rfl) (hG.range 0 rfl) und29 rfl (size33 (delK_le l k hn)) und35 rfl size35) rfl ⟨rfl, hG.below⟩

set_option maxHeartbeats 2000000 in
theorem do3_s (l : List (Int × Int)) (hl : l.Pairwise fun a b => a.1 < b.1) (hn : l.length ≤ 16) (k v lv : Int) (w : World) : Calls Try.prog 9 #[.agg (encS l).toArray, .agg #[.int .i64 3, .int .u64 k, .int .u64 v, .int .i64 lv]] w fun e w' => e = .returned (.tuple #[.agg (encS (doK l 3 k v).l).toArray, .agg (encA 0 (doK l 3 k v).d (doK l 3 k v).v).toArray, .int .i64 (doK l 3 k v).e]) ∧ Below w.heap.size w w' := by
  have hF := (Fr.start w).push w.heap.size rfl (encS l) 29
  replace hF := hF.push (w.heap.size + 1) (by simp) [.int .i64 3, .int .u64 k, .int .u64 v, .int .i64 lv] 39
  replace hF := hF.push (w.heap.size + 2) (by simp) (encS []) 29
  replace hF := hF.push (w.heap.size + 3) (by simp) (encA 0 false 0) 35
  have C1 := Lib.hid (get_s l hl hn k)
  generalize hWW : doK l 3 k v = W
  have HW : Hid (doK l 3 k v = W) := Lib.hid hWW
  clear hWW
  go_enter Try.func9, Try.ntmps9
  go_upto_region 1 with fail
  have r2 := hF.rule 2 rfl
  apply wp_region_lit
  refine wpList_load_mid rfl 29 _ rfl w.heap.size 0 rfl (encS l) _ (hF.range 3 rfl) und29 rfl (size33 hn) ?_
  go_wp2_with fail
  refine (C1.out _).mono ?_
  rintro e w1 ⟨rfl, hb⟩
  replace hF := hF.over hb
  clear hb r2
  have r2 := hF.rule 2 rfl
  have hG := hF.sub (bl' := [(w.heap.size + 2, encS []), (w.heap.size + 3, encA 0 false 0), (w.heap.size, encS l)]) (by simp)
  have e9 : doK l 3 k v = ⟨l, hasK l k, 0, 0⟩ := by unfold doK; simp
  rw [HW.out] at e9
  subst e9
  · go_upto_region 18 with fail
    clear hF r2
    apply wp_region_lit
    refine wpList_load_mid rfl 29 _ rfl w.heap.size 0 rfl (encS l) _ (hG.range 2 rfl) und29 rfl (size33 hn) ?_
    refine Go.Great.wpList_readTo rfl (some 84) rfl _ rfl ?_
    refine wpList_buildTo rfl 35 _ rfl (some 85) rfl (encA 0 (hasK l k) 0).toArray (by kernel_rfl) ?_
    refine wpList_store_mid rfl 29 _ _ rfl (w.heap.size + 2) 0 (encS l).toArray rfl rfl (hG.there 0 rfl (by omega) (by rw [encS_length (by simp), List.size_toArray, encS_length hn])) (size33a hn) (one33 _) ?_
    replace hG := hG.whole (us := encS l) (by omega) (by simp) (by rw [encS_length (by simp), encS_length hn])
    generalize World.setCells _ _ _ _ = w8 at *
    replace hG := hG.sub (bl' := [(w.heap.size + 3, encA 0 false 0), (w.heap.size + 2, encS l)]) (by simp)
    refine wpList_store_mid rfl 35 _ _ rfl (w.heap.size + 3) 0 (encA 0 (hasK l k) 0).toArray rfl rfl (hG.there 0 rfl (by omega) rfl) size35 (all_oneCell_toArray (encA_one _ _ _)) ?_
    replace hG := hG.whole (us := encA 0 (hasK l k) 0) (by omega) (by simp) rfl
    generalize World.setCells _ _ _ _ = w9 at *
    go_wp2_with fail
    exact bodyPost_ret (res_cct rfl _ _ (w.heap.size + 2) (w.heap.size + 3) rfl rfl _ _ _ _ (hG.range 1 rfl) (hG.range 0 rfl) und29 rfl (size33 hn) und35 rfl size35) rfl ⟨rfl, hG.below⟩

set_option maxHeartbeats 2000000 in
theorem do7_s (l : List (Int × Int)) (hl : l.Pairwise fun a b => a.1 < b.1) (hn : l.length ≤ 16) (k v lv : Int) (w : World) : Calls Try.prog 9 #[.agg (encS l).toArray, .agg #[.int .i64 7, .int .u64 k, .int .u64 v, .int .i64 lv]] w fun e w' => e = .returned (.tuple #[.agg (encS (doK l 7 k v).l).toArray, .agg (encA 0 (doK l 7 k v).d (doK l 7 k v).v).toArray, .int .i64 (doK l 7 k v).e]) ∧ Below w.heap.size w w' := by
  have hF := (Fr.start w).push w.heap.size rfl (encS l) 29
  replace hF := hF.push (w.heap.size + 1) (by simp) [.int .i64 7, .int .u64 k, .int .u64 v, .int .i64 lv] 39
  replace hF := hF.push (w.heap.size + 2) (by simp) (encS []) 29
  replace hF := hF.push (w.heap.size + 3) (by simp) (encA 0 false 0) 35
  have C1 := Lib.hid (get_s l hl hn k)
  generalize hWW : doK l 7 k v = W
  have HW : Hid (doK l 7 k v = W) := Lib.hid hWW
  clear hWW
  go_enter Try.func9, Try.ntmps9
  go_upto_region 1 with fail
  have r2 := hF.rule 2 rfl
  apply wp_region_lit
  refine wpList_load_mid rfl 29 _ rfl w.heap.size 0 rfl (encS l) _ (hF.range 3 rfl) und29 rfl (size33 hn) ?_
  go_wp2_with fail
  refine (C1.out _).mono ?_
  rintro e w1 ⟨rfl, hb⟩
  replace hF := hF.over hb
  clear hb r2
  have r2 := hF.rule 2 rfl
  have hG := hF.sub (bl' := [(w.heap.size + 2, encS []), (w.heap.size + 3, encA 0 false 0), (w.heap.size, encS l)]) (by simp)
  have e9 : doK l 7 k v = ⟨l, hasK l k, getK l k, 0⟩ := by unfold doK; simp
  rw [HW.out] at e9
  subst e9
  · go_upto_region 20 with fail
    clear hF r2
    apply wp_region_lit
    refine wpList_load_mid rfl 29 _ rfl w.heap.size 0 rfl (encS l) _ (hG.range 2 rfl) und29 rfl (size33 hn) ?_
    refine Go.Great.wpList_readTo rfl (some 89) rfl _ rfl ?_
    refine Go.Great.wpList_readTo rfl (some 90) rfl _ rfl ?_
    refine wpList_buildTo rfl 35 _ rfl (some 91) rfl (encA 0 (hasK l k) (getK l k)).toArray (by kernel_rfl) ?_
    refine wpList_store_mid rfl 29 _ _ rfl (w.heap.size + 2) 0 (encS l).toArray rfl rfl (hG.there 0 rfl (by omega) (by rw [encS_length (by simp), List.size_toArray, encS_length hn])) (size33a hn) (one33 _) ?_
    replace hG := hG.whole (us := encS l) (by omega) (by simp) (by rw [encS_length (by simp), encS_length hn])
    generalize World.setCells _ _ _ _ = w8 at *
    replace hG := hG.sub (bl' := [(w.heap.size + 3, encA 0 false 0), (w.heap.size + 2, encS l)]) (by simp)
    refine wpList_store_mid rfl 35 _ _ rfl (w.heap.size + 3) 0 (encA 0 (hasK l k) (getK l k)).toArray rfl rfl (hG.there 0 rfl (by omega) rfl) size35 (all_oneCell_toArray (encA_one _ _ _)) ?_
    replace hG := hG.whole (us := encA 0 (hasK l k) (getK l k)) (by omega) (by simp) rfl
    generalize World.setCells _ _ _ _ = w9 at *
    go_wp2_with fail
    exact bodyPost_ret (res_cct rfl _ _ (w.heap.size + 2) (w.heap.size + 3) rfl rfl _ _ _ _ (hG.range 1 rfl) (hG.range 0 rfl) und29 rfl (size33 hn) und35 rfl size35) rfl ⟨rfl, hG.below⟩

set_option maxHeartbeats 2000000 in
theorem do8_s (l : List (Int × Int)) (hl : l.Pairwise fun a b => a.1 < b.1) (hn : l.length ≤ 16) (k v lv : Int) (w : World) : Calls Try.prog 9 #[.agg (encS l).toArray, .agg #[.int .i64 8, .int .u64 k, .int .u64 v, .int .i64 lv]] w fun e w' => e = .returned (.tuple #[.agg (encS (doK l 8 k v).l).toArray, .agg (encA 0 (doK l 8 k v).d (doK l 8 k v).v).toArray, .int .i64 (doK l 8 k v).e]) ∧ Below w.heap.size w w' := by
  have hF := (Fr.start w).push w.heap.size rfl (encS l) 29
  replace hF := hF.push (w.heap.size + 1) (by simp) [.int .i64 8, .int .u64 k, .int .u64 v, .int .i64 lv] 39
  replace hF := hF.push (w.heap.size + 2) (by simp) (encS []) 29
  replace hF := hF.push (w.heap.size + 3) (by simp) (encA 0 false 0) 35
  have C1 := Lib.hid (get_s l hl hn k)
  generalize hWW : doK l 8 k v = W
  have HW : Hid (doK l 8 k v = W) := Lib.hid hWW
  clear hWW
  go_enter Try.func9, Try.ntmps9
  go_upto_region 1 with fail
  have r2 := hF.rule 2 rfl
  apply wp_region_lit
  refine wpList_load_mid rfl 29 _ rfl w.heap.size 0 rfl (encS l) _ (hF.range 3 rfl) und29 rfl (size33 hn) ?_
  go_wp2_with fail
  refine (C1.out _).mono ?_
  rintro e w1 ⟨rfl, hb⟩
  replace hF := hF.over hb
  clear hb r2
  have r2 := hF.rule 2 rfl
  have hG := hF.sub (bl' := [(w.heap.size + 2, encS []), (w.heap.size + 3, encA 0 false 0), (w.heap.size, encS l)]) (by simp)
  have e9 : doK l 8 k v = ⟨l, true, 0, 0⟩ := by unfold doK; simp
  rw [HW.out] at e9
  subst e9
  · go_upto_region 22 with fail
    clear hF r2
    apply wp_region_lit
    refine wpList_load_mid rfl 29 _ rfl w.heap.size 0 rfl (encS l) _ (hG.range 2 rfl) und29 rfl (size33 hn) ?_
    refine wpList_buildTo rfl 35 _ rfl (some 95) rfl (encA 0 true 0).toArray (by kernel_rfl) ?_
    refine wpList_store_mid rfl 29 _ _ rfl (w.heap.size + 2) 0 (encS l).toArray rfl rfl (hG.there 0 rfl (by omega) (by rw [encS_length (by simp), List.size_toArray, encS_length hn])) (size33a hn) (one33 _) ?_
    replace hG := hG.whole (us := encS l) (by omega) (by simp) (by rw [encS_length (by simp), encS_length hn])
    generalize World.setCells _ _ _ _ = w8 at *
    replace hG := hG.sub (bl' := [(w.heap.size + 3, encA 0 false 0), (w.heap.size + 2, encS l)]) (by simp)
    refine wpList_store_mid rfl 35 _ _ rfl (w.heap.size + 3) 0 (encA 0 true 0).toArray rfl rfl (hG.there 0 rfl (by omega) rfl) size35 (all_oneCell_toArray (encA_one _ _ _)) ?_
    replace hG := hG.whole (us := encA 0 true 0) (by omega) (by simp) rfl
    generalize World.setCells _ _ _ _ = w9 at *
    go_wp2_with fail
    exact bodyPost_ret (res_cct rfl _ _ (w.heap.size + 2) (w.heap.size + 3) rfl rfl _ _ _ _ (hG.range 1 rfl) (hG.range 0 rfl) und29 rfl (size33 hn) und35 rfl size35) rfl ⟨rfl, hG.below⟩

set_option maxHeartbeats 2000000 in
theorem doX_s (l : List (Int × Int)) (hl : l.Pairwise fun a b => a.1 < b.1) (hn : l.length ≤ 16) (kd : Int) (k v lv : Int) (h1 : kd ≠ 1) (h2 : kd ≠ 2) (h3 : kd ≠ 3) (h4 : kd ≠ 4) (h5 : kd ≠ 5) (h6 : kd ≠ 6) (h7 : kd ≠ 7) (h8 : kd ≠ 8) (w : World) : Calls Try.prog 9 #[.agg (encS l).toArray, .agg #[.int .i64 kd, .int .u64 k, .int .u64 v, .int .i64 lv]] w fun e w' => e = .returned (.tuple #[.agg (encS (doK l kd k v).l).toArray, .agg (encA 0 (doK l kd k v).d (doK l kd k v).v).toArray, .int .i64 (doK l kd k v).e]) ∧ Below w.heap.size w w' := by
  have hF := (Fr.start w).push w.heap.size rfl (encS l) 29
  replace hF := hF.push (w.heap.size + 1) (by simp) [.int .i64 kd, .int .u64 k, .int .u64 v, .int .i64 lv] 39
  replace hF := hF.push (w.heap.size + 2) (by simp) (encS []) 29
  replace hF := hF.push (w.heap.size + 3) (by simp) (encA 0 false 0) 35
  have C1 := Lib.hid (get_s l hl hn k)
  generalize hWW : doK l kd k v = W
  have HW : Hid (doK l kd k v = W) := Lib.hid hWW
  clear hWW
  go_enter Try.func9, Try.ntmps9
  go_upto_region 1 with fail
  have r2 := hF.rule 2 rfl
  apply wp_region_lit
  refine wpList_load_mid rfl 29 _ rfl w.heap.size 0 rfl (encS l) _ (hF.range 3 rfl) und29 rfl (size33 hn) ?_
  go_wp2_with fail
  refine (C1.out _).mono ?_
  rintro e w1 ⟨rfl, hb⟩
  replace hF := hF.over hb
  clear hb r2
  have r2 := hF.rule 2 rfl
  have hG := hF.sub (bl' := [(w.heap.size + 2, encS []), (w.heap.size + 3, encA 0 false 0), (w.heap.size, encS l)]) (by simp)
  have e9 : doK l kd k v = ⟨[], false, 0, 8⟩ := by unfold doK; simp [h1, h2, h3, h4, h5, h6, h7, h8]
  rw [HW.out] at e9
  subst e9
  · have b1 : (kd == 1) = false := by simpa using h1
    have b2 : (kd == 2) = false := by simpa using h2
    have b3 : (kd == 3) = false := by simpa using h3
    have b4 : (kd == 4) = false := by simpa using h4
    have b5 : (kd == 5) = false := by simpa using h5
    have b6 : (kd == 6) = false := by simpa using h6
    have b7 : (kd == 7) = false := by simpa using h7
    have b8 : (kd == 8) = false := by simpa using h8
    go_upto_region 23 with fail
    clear hF r2
    apply wp_region_lit
    refine wpList_buildTo rfl 29 _ rfl (some 96) rfl (encS []).toArray (by kernel_rfl) ?_
    refine wpList_buildTo rfl 35 _ rfl (some 97) rfl (encA 0 false 0).toArray (by kernel_rfl) ?_
    refine wpList_store_mid rfl 29 _ _ rfl (w.heap.size + 2) 0 (encS []).toArray rfl rfl (hG.there 0 rfl (by omega) (by rw [List.size_toArray])) (size33a (by simp)) (one33 _) ?_
    replace hG := hG.whole (us := encS []) (by omega) (by simp) rfl
    generalize World.setCells _ _ _ _ = w8 at *
    replace hG := hG.sub (bl' := [(w.heap.size + 3, encA 0 false 0), (w.heap.size + 2, encS [])]) (by simp)
    refine wpList_store_mid rfl 35 _ _ rfl (w.heap.size + 3) 0 (encA 0 false 0).toArray rfl rfl (hG.there 0 rfl (by omega) rfl) size35 (all_oneCell_toArray (encA_one _ _ _)) ?_
    replace hG := hG.whole (us := encA 0 false 0) (by omega) (by simp) rfl
    generalize World.setCells _ _ _ _ = w9 at *
    go_wp2_with fail
    exact bodyPost_ret (res_cct rfl _ _ (w.heap.size + 2) (w.heap.size + 3) rfl rfl _ _ _ _ (hG.range 1 rfl) (hG.range 0 rfl) und29 rfl (size33 (by simp)) und35 rfl size35) rfl ⟨rfl, hG.below⟩

theorem do_s (l : List (Int × Int)) (hl : l.Pairwise fun a b => a.1 < b.1) (hn : l.length ≤ 16) (kd k v lv : Int) (w : World) : Calls Try.prog 9 #[.agg (encS l).toArray, .agg #[.int .i64 kd, .int .u64 k, .int .u64 v, .int .i64 lv]] w fun e w' => e = .returned (.tuple #[.agg (encS (doK l kd k v).l).toArray, .agg (encA 0 (doK l kd k v).d (doK l kd k v).v).toArray, .int .i64 (doK l kd k v).e]) ∧ Below w.heap.size w w' := by
  by_cases h1 : kd = 1
  · subst h1; exact do1_s l hl hn k v lv w
  by_cases h2 : kd = 2
  · subst h2; exact do2_s l hl hn k v lv w
  by_cases h3 : kd = 3
  · subst h3; exact do3_s l hl hn k v lv w
  by_cases h4 : kd = 4
  · subst h4; exact do4_s l hl hn k v lv w
  by_cases h5 : kd = 5
  · subst h5; exact do5_s l hl hn k v lv w
  by_cases h6 : kd = 6
  · subst h6; exact do6_s l hl hn k v lv w
  by_cases h7 : kd = 7
  · subst h7; exact do7_s l hl hn k v lv w
  by_cases h8 : kd = 8
  · subst h8; exact do8_s l hl hn k v lv w
  exact doX_s l hl hn kd k v lv h1 h2 h3 h4 h5 h6 h7 h8 w
end Go.Proofs.Ytdeohigggjfjjaa

/- States by their members: with a pair, without one; ops of unlike keys. -/
namespace Go.Proofs.Ytdeohigggjfjjaa
open Go.RowKit
set_option maxRecDepth 100000

abbrev Up (l : List (Int × Int)) : Prop := l.Pairwise fun a b => a.1 < b.1
theorem cut_of {l : List (Int × Int)} (h : Up l) (k : Int) : ∃ a b, l = a ++ b ∧ (∀ p ∈ a, p.1 < k) ∧ (∀ p ∈ b, k ≤ p.1) ∧ cnt l k = a.length := by
  induction l with
  | nil => exact ⟨[], [], rfl, by simp, by simp, rfl⟩
  | cons p l ih =>
    by_cases hp : p.1 < k
    · obtain ⟨a, b, e, h1, h2, h3⟩ := ih (List.pairwise_cons.1 h).2
      refine ⟨p :: a, b, by rw [e]; rfl, fun q hq => ?_, h2, ?_⟩
      · rcases List.mem_cons.1 hq with rfl | hq
        · exact hp
        · exact h1 q hq
      · unfold cnt at *
        rw [List.countP_cons_of_pos (by simpa using hp), h3]
        rfl
    · refine ⟨[], p :: l, rfl, by simp, fun q hq => ?_, ?_⟩
      · rcases List.mem_cons.1 hq with rfl | hq
        · omega
        · have := (List.pairwise_cons.1 h).1 q hq; omega
      · unfold cnt
        rw [List.countP_eq_zero.2]
        · rfl
        · intro q hq
          simp only [decide_eq_true_eq]
          rcases List.mem_cons.1 hq with rfl | hq
          · exact hp
          · have := (List.pairwise_cons.1 h).1 q hq; omega
theorem form {l : List (Int × Int)} (h : Up l) (k : Int) :
    (∃ a v b, l = a ++ (k, v) :: b ∧ (∀ p ∈ a, p.1 < k) ∧ (∀ p ∈ b, k < p.1) ∧ hasK l k = true ∧ getK l k = v ∧ (∀ x, insK l k x = a ++ (k, x) :: b) ∧ delK l k = a ++ b) ∨
    (∃ a b, l = a ++ b ∧ (∀ p ∈ a, p.1 < k) ∧ (∀ p ∈ b, k < p.1) ∧ hasK l k = false ∧ getK l k = 0 ∧ (∀ x, insK l k x = a ++ (k, x) :: b) ∧ delK l k = l) := by
  obtain ⟨a, b, e, h1, h2, h3⟩ := cut_of h k
  have ht : l.take (cnt l k) = a := by rw [h3, e]; simp
  have hd : l.drop (cnt l k) = b := by rw [h3, e]; simp
  have no : (hasK l k = false) → (∀ p ∈ b, k < p.1) → ∃ a b, l = a ++ b ∧ (∀ p ∈ a, p.1 < k) ∧ (∀ p ∈ b, k < p.1) ∧ hasK l k = false ∧ getK l k = 0 ∧ (∀ x, insK l k x = a ++ (k, x) :: b) ∧ delK l k = l := fun hh hb =>
    ⟨a, b, e, h1, hb, hh, by unfold getK; rw [hh]; rfl, fun x => by unfold insK; rw [hh, ht, hd]; rfl, by unfold delK; rw [hh]; rfl⟩
  cases b with
  | nil =>
    refine .inr (no ?_ (by simp))
    unfold hasK
    rw [h3, e]
    simp
  | cons q b =>
    have hg : l.getD (cnt l k) (0, 0) = q := by rw [h3, e]; simp [List.getD_eq_getElem?_getD]
    have hl : cnt l k < l.length := by rw [h3, e]; simp
    by_cases hq : q.1 = k
    · have hh : hasK l k = true := by unfold hasK; rw [hg]; simp [hl, hq]
      obtain ⟨q1, q2⟩ := q
      simp only at hq
      subst hq
      refine .inl ⟨a, q2, b, e, h1, fun p hp => ?_, hh, by unfold getK; rw [hh, if_pos rfl, hg], fun x => ?_, ?_⟩
      · rw [e] at h
        exact (List.pairwise_cons.1 (List.pairwise_append.1 h).2.1).1 p hp
      · unfold insK; rw [hh, if_pos rfl, h3]; conv => lhs; rw [e]
        simp
      · unfold delK; rw [hh, if_pos rfl, h3, e]; simp
    · have hh : hasK l k = false := by unfold hasK; rw [hg]; simp [hq]
      refine .inr (no hh fun p hp => ?_)
      have := h2 q (List.mem_cons_self ..)
      rcases List.mem_cons.1 hp with rfl | hp
      · omega
      · rw [e] at h
        have := (List.pairwise_cons.1 (List.pairwise_append.1 h).2.1).1 p hp
        omega
theorem up_join {a b : List (Int × Int)} {k : Int} (ha : Up a) (hb : Up b) (h1 : ∀ p ∈ a, p.1 < k) (h2 : ∀ p ∈ b, k < p.1) (x : Int) : Up (a ++ (k, x) :: b) :=
  List.pairwise_append.2 ⟨ha, List.pairwise_cons.2 ⟨fun p hp => h2 p hp, hb⟩, fun p hp q hq => by
    have := h1 p hp
    rcases List.mem_cons.1 hq with rfl | hq
    · exact this
    · have := h2 q hq; omega⟩
theorem ins_up {l : List (Int × Int)} (h : Up l) (k x : Int) : Up (insK l k x) := by
  rcases form h k with ⟨a, v, b, e, h1, h2, -, -, h3, -⟩ | ⟨a, b, e, h1, h2, -, -, h3, -⟩
  · rw [e] at h
    rw [h3]
    have := List.pairwise_append.1 h
    exact up_join this.1 (List.pairwise_cons.1 this.2.1).2 h1 h2 x
  · rw [e] at h
    rw [h3]
    have := List.pairwise_append.1 h
    exact up_join this.1 this.2.1 h1 h2 x
theorem del_up {l : List (Int × Int)} (h : Up l) (k : Int) : Up (delK l k) := by
  rcases form h k with ⟨a, v, b, e, h1, h2, -, -, -, h3⟩ | ⟨a, b, e, h1, h2, -, -, -, h3⟩
  · rw [e] at h
    rw [h3]
    have := List.pairwise_append.1 h
    exact List.pairwise_append.2 ⟨this.1, (List.pairwise_cons.1 this.2.1).2, fun p hp q hq => by have := h1 p hp; have := h2 q hq; omega⟩
  · rw [h3]; exact h
theorem mem_ins {l : List (Int × Int)} (h : Up l) (k x : Int) (p : Int × Int) : p ∈ insK l k x ↔ p = (k, x) ∨ (p ∈ l ∧ p.1 ≠ k) := by
  rcases form h k with ⟨a, v, b, e, h1, h2, -, -, h3, -⟩ | ⟨a, b, e, h1, h2, -, -, h3, -⟩
  all_goals
    have q1 : p ∈ a → p.1 ≠ k := fun hp => by have := h1 p hp; omega
    have q2 : p ∈ b → p.1 ≠ k := fun hp => by have := h2 p hp; omega
    rw [h3, e]
    simp only [List.mem_append, List.mem_cons]
    constructor
    · rintro (hp | hp | hp)
      · exact .inr ⟨.inl hp, q1 hp⟩
      · exact .inl hp
      · first | exact .inr ⟨.inr (.inr hp), q2 hp⟩ | exact .inr ⟨.inr hp, q2 hp⟩
    · rintro (hp | ⟨hp, hk⟩)
      · exact .inr (.inl hp)
      · first
          | (rcases hp with hp | hp | hp
             · exact .inl hp
             · rw [hp] at hk; exact absurd rfl hk
             · exact .inr (.inr hp))
          | (rcases hp with hp | hp
             · exact .inl hp
             · exact .inr (.inr hp))
theorem mem_del {l : List (Int × Int)} (h : Up l) (k : Int) (p : Int × Int) : p ∈ delK l k ↔ p ∈ l ∧ p.1 ≠ k := by
  rcases form h k with ⟨a, v, b, e, h1, h2, -, -, -, h3⟩ | ⟨a, b, e, h1, h2, -, -, -, h3⟩
  · have q1 : p ∈ a → p.1 ≠ k := fun hp => by have := h1 p hp; omega
    have q2 : p ∈ b → p.1 ≠ k := fun hp => by have := h2 p hp; omega
    rw [h3, e]
    simp only [List.mem_append, List.mem_cons]
    constructor
    · rintro (hp | hp)
      · exact ⟨.inl hp, q1 hp⟩
      · exact ⟨.inr (.inr hp), q2 hp⟩
    · rintro ⟨hp | hp | hp, hk⟩
      · exact .inl hp
      · rw [hp] at hk; exact absurd rfl hk
      · exact .inr hp
  · have q1 : p ∈ l → p.1 ≠ k := fun hp => by
      rw [e] at hp
      rcases List.mem_append.1 hp with hp | hp
      · have := h1 p hp; omega
      · have := h2 p hp; omega
    rw [h3]
    exact ⟨fun hp => ⟨hp, q1 hp⟩, fun hp => hp.1⟩
theorem has_iff {l : List (Int × Int)} (h : Up l) (k : Int) : hasK l k = true ↔ ∃ v, (k, v) ∈ l := by
  rcases form h k with ⟨a, v, b, e, h1, h2, h3, -⟩ | ⟨a, b, e, h1, h2, h3, -⟩
  · exact ⟨fun _ => ⟨v, by rw [e]; simp⟩, fun _ => h3⟩
  · rw [h3]
    refine ⟨fun h => absurd h (by decide), fun ⟨v, hv⟩ => ?_⟩
    rw [e] at hv
    rcases List.mem_append.1 hv with hv | hv
    · have := h1 _ hv; simp at this
    · have := h2 _ hv; simp at this
theorem val_uniq {l : List (Int × Int)} (h : Up l) {k x y : Int} (hx : (k, x) ∈ l) (hy : (k, y) ∈ l) : x = y := by
  obtain ⟨i, hi, ei⟩ := List.getElem_of_mem hx
  obtain ⟨j, hj, ej⟩ := List.getElem_of_mem hy
  have hp := List.pairwise_iff_getElem.1 h
  rcases Nat.lt_trichotomy i j with hij | hij | hij
  · have := hp i j hi hj hij; rw [ei, ej] at this; simp at this
  · subst hij; rw [ei] at ej; simpa using ej
  · have := hp j i hj hi hij; rw [ei, ej] at this; simp at this
theorem get_mem {l : List (Int × Int)} (h : Up l) {k : Int} (hh : hasK l k = true) : (k, getK l k) ∈ l := by
  rcases form h k with ⟨a, v, b, e, -, -, -, h4, -⟩ | ⟨a, b, e, h1, h2, h3, -⟩
  · rw [h4, e]; simp
  · rw [h3] at hh; cases hh
theorem get_no {l : List (Int × Int)} {k : Int} (hh : hasK l k = false) : getK l k = 0 := by unfold getK; rw [hh]; rfl
theorem up_ext {a b : List (Int × Int)} (ha : Up a) (hb : Up b) (h : ∀ p, p ∈ a ↔ p ∈ b) : a = b := by
  have nd : ∀ {l : List (Int × Int)}, Up l → l.Nodup := fun {l} hl => hl.imp fun h e => by rw [e] at h; omega
  refine List.Perm.eq_of_pairwise (le := fun x y => x.1 ≤ y.1) (fun x y hx hy h1 h2 => ?_) (ha.imp fun h => by omega) (hb.imp fun h => by omega) ((List.perm_ext_iff_of_nodup (nd ha) (nd hb)).2 h)
  have : x.1 = y.1 := by omega
  exact Prod.ext this (val_uniq ha (k := x.1) (by simpa using hx) (by rw [this]; simpa using (h y).2 hy))
/-- What an op does to a state: nothing; without the key; with it. -/
def updK (l : List (Int × Int)) (k : Int) : Option (Option Int) → List (Int × Int)
  | none => l
  | some none => delK l k
  | some (some x) => insK l k x
theorem upd_up {l : List (Int × Int)} (h : Up l) (k : Int) (u : Option (Option Int)) : Up (updK l k u) := by
  rcases u with _ | _ | x
  · exact h
  · exact del_up h k
  · exact ins_up h k x
theorem mem_upd {l : List (Int × Int)} (h : Up l) (k : Int) (u : Option (Option Int)) (p : Int × Int) : p ∈ updK l k u ↔ (match u with | none => p ∈ l | some none => p ∈ l ∧ p.1 ≠ k | some (some x) => p = (k, x) ∨ (p ∈ l ∧ p.1 ≠ k)) := by
  rcases u with _ | _ | x
  · exact Iff.rfl
  · exact mem_del h k p
  · exact mem_ins h k x p
theorem upd_other {l : List (Int × Int)} (h : Up l) {k k' : Int} (hk : k ≠ k') (u : Option (Option Int)) : hasK (updK l k' u) k = hasK l k ∧ getK (updK l k' u) k = getK l k := by
  have hm : ∀ v, (k, v) ∈ updK l k' u ↔ (k, v) ∈ l := fun v => by
    rw [mem_upd h]
    rcases u with _ | _ | x
    · exact Iff.rfl
    · simp [hk]
    · simp [hk]
  have e : hasK (updK l k' u) k = hasK l k := by
    rw [Bool.eq_iff_iff, has_iff (upd_up h k' u), has_iff h]
    exact ⟨fun ⟨v, hv⟩ => ⟨v, (hm v).1 hv⟩, fun ⟨v, hv⟩ => ⟨v, (hm v).2 hv⟩⟩
  refine ⟨e, ?_⟩
  cases hh : hasK l k with
  | false => rw [get_no hh, get_no (e.trans hh)]
  | true => exact val_uniq h ((hm _).1 (get_mem (upd_up h k' u) (e.trans hh))) (get_mem h hh)
theorem upd_comm {l : List (Int × Int)} (h : Up l) {k k' : Int} (hk : k ≠ k') (u u' : Option (Option Int)) : updK (updK l k u) k' u' = updK (updK l k' u') k u := by
  refine up_ext (upd_up (upd_up h k u) k' u') (upd_up (upd_up h k' u') k u) fun p => ?_
  rw [mem_upd (upd_up h k u), mem_upd (upd_up h k' u')]
  have e1 := mem_upd h k u p
  have e2 := mem_upd h k' u' p
  rcases u with _ | _ | x <;> rcases u' with _ | _ | y <;> simp only [e1, e2] <;> (try grind)
theorem upd_len {l : List (Int × Int)} (h : Up l) (k : Int) (u : Option (Option Int)) : (updK l k u).length ≤ l.length + 1 := by
  rcases form h k with ⟨a, v, b, e, -, -, -, -, h3, h4⟩ | ⟨a, b, e, -, -, -, -, h3, h4⟩ <;> rcases u with _ | _ | x <;> simp only [updK, h3, h4] <;> rw [e] <;> simp <;> omega
def effU (kd : Int) (has : Bool) (v : Int) : Option (Option Int) :=
  if kd = 1 then (if has then none else some (some 0)) else if kd = 4 then some (some v) else if kd = 5 then (if has then none else some (some v)) else if kd = 2 ∨ kd = 6 then some none else none
def effD (kd : Int) (has : Bool) : Bool := if kd = 1 ∨ kd = 5 then !has else if kd = 8 then true else has
def effV (kd : Int) (g : Int) : Int := if kd = 4 ∨ kd = 5 ∨ kd = 6 ∨ kd = 7 then g else 0
theorem doK_form {l : List (Int × Int)} {kd k v : Int} (hn : l.length < 16) (he : (doK l kd k v).e = 0) : (1 ≤ kd ∧ kd ≤ 8) ∧ doK l kd k v = ⟨updK l k (effU kd (hasK l k) v), effD kd (hasK l k), effV kd (getK l k), 0⟩ := by
  have hw : ∀ x, withK l k x = (insK l k x, 0) := fun x => by unfold withK; simp [hn]
  have hb : ∀ x d a, bringK l k x d a = ⟨insK l k x, d, a, 0⟩ := fun x d a => by unfold bringK; rw [hw]; rfl
  have hg : hasK l k = false → getK l k = 0 := get_no
  by_cases h8 : 1 ≤ kd ∧ kd ≤ 8
  · refine ⟨h8, ?_⟩
    obtain ⟨h1, h2⟩ := h8
    have : kd = 1 ∨ kd = 2 ∨ kd = 3 ∨ kd = 4 ∨ kd = 5 ∨ kd = 6 ∨ kd = 7 ∨ kd = 8 := by omega
    rcases this with rfl | rfl | rfl | rfl | rfl | rfl | rfl | rfl <;> unfold doK effU effD effV <;> simp only [hb] <;> cases hh : hasK l k <;> simp [updK, hg, hh]
  · exfalso
    unfold doK at he
    rw [if_neg (by omega), if_neg (by omega), if_neg (by omega), if_neg (by omega), if_neg (by omega), if_neg (by omega), if_neg (by omega), if_neg (by omega)] at he
    simp at he
theorem doK_ok {l : List (Int × Int)} {kd k v : Int} (hn : l.length < 16) (h8 : 1 ≤ kd ∧ kd ≤ 8) : (doK l kd k v).e = 0 := by
  have hw : ∀ x, withK l k x = (insK l k x, 0) := fun x => by unfold withK; simp [hn]
  have hb : ∀ x d a, bringK l k x d a = ⟨insK l k x, d, a, 0⟩ := fun x d a => by unfold bringK; rw [hw]; rfl
  have : kd = 1 ∨ kd = 2 ∨ kd = 3 ∨ kd = 4 ∨ kd = 5 ∨ kd = 6 ∨ kd = 7 ∨ kd = 8 := by omega
  rcases this with rfl | rfl | rfl | rfl | rfl | rfl | rfl | rfl <;> unfold doK <;> simp only [hb] <;> cases hasK l k <;> simp
/-- OPS OF UNLIKE KEYS MAY BE DONE IN EITHER ORDER. -/
theorem apart {l : List (Int × Int)} (h : Up l) (hn : l.length ≤ 14) {kd k v kd' k' v' : Int} (hk : k ≠ k') (h1 : (doK l kd k v).e = 0) (h2 : (doK l kd' k' v').e = 0) :
    let a := doK l kd k v; let b := doK l kd' k' v'; let c := doK a.l kd' k' v'; let d := doK b.l kd k v
    c.e = 0 ∧ d.e = 0 ∧ c.l = d.l ∧ a.d = d.d ∧ a.v = d.v ∧ b.d = c.d ∧ b.v = c.v ∧ Up c.l ∧ c.l.length ≤ 16 := by
  obtain ⟨r1, e1⟩ := doK_form (by omega) h1
  obtain ⟨r2, e2⟩ := doK_form (by omega) h2
  have l1 := upd_len h k (effU kd (hasK l k) v)
  have l2 := upd_len h k' (effU kd' (hasK l k') v')
  have u1 := upd_up h k (effU kd (hasK l k) v)
  have u2 := upd_up h k' (effU kd' (hasK l k') v')
  have o1 := upd_other h (k := k) (k' := k') hk (effU kd' (hasK l k') v')
  have o2 := upd_other h (k := k') (k' := k) (Ne.symm hk) (effU kd (hasK l k) v)
  intro a b c d
  have ea : a.l = updK l k (effU kd (hasK l k) v) := by show (doK l kd k v).l = _; rw [e1]
  have eb : b.l = updK l k' (effU kd' (hasK l k') v') := by show (doK l kd' k' v').l = _; rw [e2]
  have hc := doK_ok (l := a.l) (k := k') (v := v') (by rw [ea]; omega) r2
  have hd := doK_ok (l := b.l) (k := k) (v := v) (by rw [eb]; omega) r1
  obtain ⟨-, e3⟩ := doK_form (by rw [ea]; omega) hc
  obtain ⟨-, e4⟩ := doK_form (by rw [eb]; omega) hd
  have ec : c.l = updK (updK l k (effU kd (hasK l k) v)) k' (effU kd' (hasK l k') v') := by show (doK a.l kd' k' v').l = _; rw [e3]; simp only; rw [ea, o2.1]
  have ed : d.l = updK (updK l k' (effU kd' (hasK l k') v')) k (effU kd (hasK l k) v) := by show (doK b.l kd k v).l = _; rw [e4]; simp only; rw [eb, o1.1]
  refine ⟨hc, hd, by rw [ec, ed]; exact upd_comm h hk _ _, ?_, ?_, ?_, ?_, by rw [ec]; exact upd_up u1 _ _, ?_⟩
  · show (doK l kd k v).d = (doK b.l kd k v).d
    rw [e1, e4]; simp only; rw [eb, o1.1]
  · show (doK l kd k v).v = (doK b.l kd k v).v
    rw [e1, e4]; simp only; rw [eb, o1.2]
  · show (doK l kd' k' v').d = (doK a.l kd' k' v').d
    rw [e2, e3]; simp only; rw [ea, o2.1]
  · show (doK l kd' k' v').v = (doK a.l kd' k' v').v
    rw [e2, e3]; simp only; rw [ea, o2.2]
  · have := upd_len u1 k' (effU kd' (hasK l k') v')
    rw [ec]; omega
end Go.Proofs.Ytdeohigggjfjjaa

/- List; alike: a state of the program's beside the document's. -/
namespace Go.Proofs.Ytdeohigggjfjjaa
open Go.RowKit Go.Maps
set_option maxRecDepth 100000

theorem list_s (l : List (Int × Int)) (hn : l.length ≤ 16) (w : World) : Calls Try.prog 23 #[.agg (encS l).toArray] w fun e w' => ∃ A' cap', e = .returned (.slice A' l.length cap') ∧ RowX encP 2 w' A' l ∧ Below w.heap.size w w' := by
  have hF := (Fr.start w).push w.heap.size rfl (encS l) 29
  have hwe : ∃ w1, w1 = w.alloc (.cells (encS l).toArray 29) := ⟨_, rfl⟩
  obtain ⟨w1, hw1⟩ := hwe
  have hF1 : Fr w [(w.heap.size, encS l)] w1 := by rw [hw1]; exact hF
  have hR : RowX encP 2 w1 (some ⟨w.heap.size, 0, none⟩) l := .inr ⟨w.heap.size, 0, rfl, hF1.lt 0 rfl, fun j hj c v e => by
    have hc : c < 2 := by have := (List.getElem?_eq_some_iff.1 e).1; simpa [encP] using this
    obtain ⟨d1, d2⟩ := encS_key hj
    rw [Nat.zero_add, hF1.rule 0 rfl]
    match c, hc with
    | 0, _ => rw [Nat.add_zero, d1]; have e' : (encP (l.getD j (0, 0)))[0]? = some v := e; simpa [encP] using e'
    | 1, _ => rw [d2]; have e' : (encP (l.getD j (0, 0)))[1]? = some v := e; simpa [encP] using e'⟩
  have C1 := clone_p (cap := 16) (l := l) (by omega) hR
  have SL := Lib.hid (slice_h w.heap.size l.length hn)
  have r := (hF1.rule 0 rfl 32).trans (encS_n hn)
  rw [hw1] at C1 r
  clear hF hR
  go_enter Try.func23, Try.ntmps23
  have sl := SL.out
  go_wp2_with fail
  refine C1.mono ?_
  rintro e w2 ⟨A', cap', rfl, ho, hb⟩
  go_wp2_with fail
  go_ret
  rw [← hw1] at hb ho
  refine ⟨A', cap', rfl, owns_rowK (enc := encP) encP_len2 ((show _ from by rw [flat_same]; exact ho)), hF1.below.trans (hb.mono hF1.below.size)⟩
end Go.Proofs.Ytdeohigggjfjjaa
