/- The reference's watched words: four rows in one block, among other things; contracts. -/
import Derived.Test.YtmihfpdbaagjnaaRefB
import Derived.Test.YtmihfpdbaagjnaaSoulR
import Derived.Test.YtmihfpdbaagjnaaSoulE
import Derived.Test.YtmihfpdbaagjnaaGhostB
namespace Go.Proofs.Ytmihfpdbaagjnaa
open Go.RowKit Go.Maps
set_option maxRecDepth 100000

section
variable {w0 w w' : World} {L : List Item}
/-- A block and a row of it turn at once. -/
theorem Env.step2 (h : Env w0 L w) {i j : Nat} (hij : i ≠ j) {a a' b b' : Item} (hi : L[i]? = some a) (hj : L[j]? = some a') (ht : Turn (fun k => a.F k ∨ a'.F k) w w') (hb : b.says w') (hb' : b'.says w') (hlt : ∀ k, b.F k → k < w'.heap.size) (hlt' : ∀ k, b'.F k → k < w'.heap.size)
    (hF : ∀ k, b.F k → a.F k) (hF' : ∀ k, b'.F k → a'.F k ∨ w.heap.size ≤ k) : Env w0 ((L.set i b).set j b') w' := by
  have ha := h.2.2 a (List.mem_of_getElem? hi)
  have ha' := h.2.2 a' (List.mem_of_getElem? hj)
  have hB : Below w0.heap.size w0 w' := Turn.below h.1 ht h.1.size fun k hk => hk.elim (fun hk => (ha.2 k hk).1) fun hk => (ha'.2 k hk).1
  have hil := (List.getElem?_eq_some_iff.1 hi).1
  have hjl := (List.getElem?_eq_some_iff.1 hj).1
  have key : ∀ m (c : Item), ((L.set i b).set j b')[m]? = some c → ∃ d, L[m]? = some d ∧ (∀ k, c.F k → d.F k ∨ (m = j ∧ w.heap.size ≤ k)) ∧ c.says w' ∧ ∀ k, c.F k → w0.heap.size ≤ k ∧ k < w'.heap.size := by
    intro m c hc
    by_cases hmj : m = j
    · subst hmj
      rw [List.getElem?_set_self (by simpa using hjl)] at hc
      cases hc
      refine ⟨a', hj, fun k hk => (hF' k hk).imp id fun h => ⟨rfl, h⟩, hb', fun k hk => ⟨?_, hlt' k hk⟩⟩
      rcases hF' k hk with h1 | h1
      · exact (ha'.2 k h1).1
      · exact Nat.le_trans h.1.size h1
    · rw [List.getElem?_set_ne (fun e => hmj e.symm)] at hc
      by_cases hmi : m = i
      · subst hmi
        rw [List.getElem?_set_self hil] at hc
        cases hc
        exact ⟨a, hi, fun k hk => .inl (hF k hk), hb, fun k hk => ⟨(ha.2 k (hF k hk)).1, hlt k hk⟩⟩
      · rw [List.getElem?_set_ne (fun e => hmi e.symm)] at hc
        obtain ⟨h1, h2⟩ := h.2.2 c (List.mem_of_getElem? hc)
        refine ⟨c, hc, fun k hk => .inl hk, c.loc w w' h1 (fun k hk => ht.block k (h2 k hk).2 fun e => ?_) ht.size, fun k hk => ⟨(h2 k hk).1, Nat.lt_of_lt_of_le (h2 k hk).2 ht.size⟩⟩
        rcases e with e | e
        · exact h.off hi hc (fun e => hmi e.symm) k e hk
        · exact h.off hj hc (fun e => hmj e.symm) k e hk
  refine ⟨hB, List.pairwise_iff_getElem.2 fun m n hm hn hmn k hk hk' => ?_, fun x hx => ?_⟩
  · obtain ⟨d, hd, h1, _⟩ := key m _ (List.getElem?_eq_getElem hm)
    obtain ⟨d', hd', h1', _⟩ := key n _ (List.getElem?_eq_getElem hn)
    rcases h1 k hk with e | ⟨e, e2⟩
    · rcases h1' k hk' with f | ⟨f, f2⟩
      · exact h.off hd hd' (by omega) k e f
      · have := h.lt m hd k e; omega
    · rcases h1' k hk' with f | ⟨f, f2⟩
      · have := h.lt n hd' k f; omega
      · omega
  · obtain ⟨m, hm⟩ := List.getElem?_of_mem hx
    obtain ⟨d, _, _, h1, h2⟩ := key m x hm
    exact ⟨h1, h2⟩
end

/-- The reference's cells. -/
def uv (v1 v2 v3 : Value) (fa st : Int) : List Value := [v1, v2, v3, .int .i64 fa, .int .i64 st]
/-- A row of words. -/
def rowO (v : Value) (l : List OneR) : Item := rowI v 96 4 l.length (flatO l)

section
variable {w0 w : World} {L : List Item} {u : Nat} {vs : List Value} {v v1 v2 v3 : Value} {fa st : Int} {lx lc li : List OneR} {l : List Int}
theorem Env.rowO (h : Env w0 L w) (j : Nat) (hj : L[j]? = some (rowO v lx)) : w.ownsRow 0 96 4 v lx.length (flatO lx) := h.get j hj
theorem Env.ublk (h : Env w0 L w) (i : Nat) (hu : L[i]? = some (boxI u vs)) : Blk 0 w u vs := h.get i hu
theorem Env.addNoneO (h : Env w0 L w) : Env w0 (Ytmihfpdbaagjnaa.rowO (.slice none 0 0) [] :: L) w :=
  h.add (Ytmihfpdbaagjnaa.rowO (.slice none 0 0) []) (Below.refl _ _) (World.ownsRow_nil _ _ _ _) fun k hk => by cases hk
theorem get_u (x y z : Int) (hl : lx.length ≤ 1000000) (o i j : Nat) (hE : Env w0 L w) (hu : L[i]? = some (boxI u vs)) (hvo : vs[o]? = some v) (hj : L[j]? = some (rowO v lx)) :
    Calls Try.prog 36 #[.pointer (some ⟨u, o, none⟩), .agg #[.int .i64 x, .int .i64 y, .int .i64 z]] w fun e w' => e = .returned (.int .u64 (getL lx (x, y, z))) ∧ Below w.heap.size w w' := by
  have ho := hE.rowO j hj
  obtain ⟨A, c, rfl⟩ := ownsRow_slice ho
  exact refGet_at x y z hl (hE.ublk i hu) hvo ho
theorem set_u (x y z a : Int) (hl : lx.length ≤ 1000000) (o i j : Nat) (hij : i ≠ j) (hE : Env w0 L w) (hu : L[i]? = some (boxI u vs)) (hvo : vs[o]? = some v) (hj : L[j]? = some (rowO v lx)) :
    Calls Try.prog 56 #[.pointer (some ⟨u, o, none⟩), .agg #[.int .i64 x, .int .i64 y, .int .i64 z], .int .u64 a] w fun e w' => e = .returned (.tuple #[]) ∧ ∃ v', Env w0 ((L.set i (boxI u (vs.set o v'))).set j (rowO v' (setL lx (x, y, z) a))) w' := by
  have ho := hE.rowO j hj
  obtain ⟨A, c, rfl⟩ := ownsRow_slice ho
  have hsep : (Value.slice A lx.length c).ownBlock ≠ some u := fun e => hE.off hj hu (fun e => hij e.symm) u e rfl
  refine (refSet_at x y z a hl (hE.ublk i hu) hvo ho hsep).mono ?_
  rintro e w' ⟨he, A', c', h1, h2, h3, h4⟩
  exact ⟨he, _, hE.step2 hij hu hj h3 h1 h2 (fun k hk => by have hk : k = u := hk; rw [hk]; exact h1.1) (ownsRow_lt h2) (fun k hk => hk) h4⟩
theorem now_u (x : Int) (hl : l.length ≤ 100000) (o i j : Nat) (hE : Env w0 L w) (hu : L[i]? = some (boxI u vs)) (hvo : vs[o]? = some v) (hj : L[j]? = some (intsI v l)) :
    Calls Try.prog 60 #[.pointer (some ⟨u, o, none⟩), .int .i64 x] w fun e w' => e = .returned (.int .i64 (nowL l x)) ∧ Below w.heap.size w w' := by
  have ho := hE.row j hj
  obtain ⟨A, c, rfl⟩ := ownsRow_slice ho
  exact rnow_at x hl (hE.ublk i hu) hvo ho
theorem born_u (x : Int) (hl : l.length ≤ 100000) (o i j : Nat) (hij : i ≠ j) (hE : Env w0 L w) (hu : L[i]? = some (boxI u vs)) (hvo : vs[o]? = some v) (hj : L[j]? = some (intsI v l)) :
    Calls Try.prog 39 #[.pointer (some ⟨u, o, none⟩), .int .i64 x] w fun e w' => e = .returned (.int .i64 (bornV l x)) ∧ ∃ v', Env w0 ((L.set i (boxI u (vs.set o v'))).set j (intsI v' (bornL l x))) w' := by
  have ho := hE.row j hj
  obtain ⟨A, c, rfl⟩ := ownsRow_slice ho
  unfold bornV bornL
  by_cases h : x < 1
  · rw [if_pos h, if_pos h]
    refine (rborn_low x h).mono ?_
    rintro e w' ⟨rfl, rfl⟩
    have e1 : vs.set o (Value.slice A l.length c) = vs := by
      apply List.ext_getElem?
      intro k
      rw [List.getElem?_set]
      split
      · rename_i e; subst e; rw [hvo, if_pos (List.getElem?_eq_some_iff.1 hvo).1]
      · rfl
    exact ⟨rfl, .slice A l.length c, by rw [e1, setSelf hu, setSelf hj]; exact hE⟩
  · rw [if_neg h, if_neg h]
    have hsep : (Value.slice A l.length c).ownBlock ≠ some u := fun e => hE.off hj hu (fun e => hij e.symm) u e rfl
    refine (rborn_at x (by omega) hl (hE.ublk i hu) hvo ho hsep).mono ?_
    rintro e w' ⟨he, A', c', h1, h2, h3, h4⟩
    exact ⟨he, _, hE.step2 hij hu hj h3 h1 h2 (fun k hk => by have hk : k = u := hk; rw [hk]; exact h1.1) (ownsRow_lt h2) (fun k hk => hk) h4⟩

set_option maxHeartbeats 1600000 in
theorem stale_u (x y z d : Int) (hl : l.length ≤ 100000) (i : Nat) (hE : Env w0 L w) (hu : L[i]? = some (boxI u (uv v1 v2 v3 fa st))) (hs : L[i + 3]? = some (intsI v3 l)) :
    Calls Try.prog 55 #[.pointer (some ⟨u, 0, none⟩), .agg #[.int .i64 x, .int .i64 y, .int .i64 z], .int .i64 d] w fun e w' => e = .returned (.bool (stB l x y d)) ∧ Below w.heap.size w w' := by
  have hb := (Below.refl w.heap.size w).alloc (Nat.le_refl _) (.cells #[.int .i64 x, .int .i64 y, .int .i64 z] 41)
  replace hE := hE.box w.heap.size rfl [.int .i64 x, .int .i64 y, .int .i64 z] 41
  go_enter Try.func55, Try.ntmps55
  go_wp2_with fail
  obtain ⟨X, hXw⟩ : ∃ X, X = w.heap.size := ⟨_, rfl⟩
  rw [← hXw] at hE ⊢
  have HXW := Lib.hid hXw
  clear hXw
  have hu1 : (boxI X [.int .i64 x, .int .i64 y, .int .i64 z] :: L)[i + 1]? = some (boxI u (uv v1 v2 v3 fa st)) := hu
  have hs1 : (boxI X [.int .i64 x, .int .i64 y, .int .i64 z] :: L)[i + 4]? = some (intsI v3 l) := hs
  by_cases h5 : x = 5
  · have e1 : stB l x y d = (nowL l y != d) := by simp [stB, h5, bne, decide_not]; rfl
    have E1 := Lib.hid e1
    clear e1
    subst h5
    refine Ord.wp_chain [] (fun w' => Env w0 (boxI X [.int .i64 5, .int .i64 y, .int .i64 z] :: L) w' ∧ Below w.heap.size w w') (fun _ _ => True) (by kernel_rfl) (by kernel_rfl) (by kernel_rfl) ⟨hE.drew, hb.drew⟩ trivial (fun hT => ?_)
    have hT9 := Lib.hid hT
    clear hT
    repeat (first
      | (refine Ord.ch_value (v := ?_) hT9.out (by decide) (by rfl) ?_ ?_; rotate_left; (focus (intro w5 hS; have r := hS.1.rule 0 rfl; go_simp <;> with_reducible rfl)); (try simp only [Act.put, List.setIfInBounds_toArray, List.set_cons_zero, List.set_cons_succ]))
      | (refine Ord.ch_off hT9.out (by decide) (by rfl) ?_; (try simp only [Act.put, List.setIfInBounds_toArray, List.set_cons_zero, List.set_cons_succ]))
      | (refine Ord.ch_call (v := ?_) (f := ?_) (args := ?_) hT9.out (by decide) (by rfl) ?_ ?_ ?_; rotate_left 3; (focus (intro w5 hS; have r := hS.1.rule 0 rfl; go_simp; constructor <;> with_reducible rfl)); (focus (intro w5 hS; (first | (with_reducible refine (now_u y hl 2 (i + 1) (i + 4) hS.1 hu1 rfl hs1).mono ?_; rintro e w6 ⟨rfl, hb6⟩; constructor; with_reducible rfl; exact ⟨⟨hS.1.over hb6, hS.2.trans (hb6.mono hS.2.size)⟩, fun _ h => h⟩)))); (try simp only [Act.put, List.setIfInBounds_toArray, List.set_cons_zero, List.set_cons_succ])))
    refine Ord.InText.nil fun w5 hS => ?_
    clear hT9
    obtain ⟨hC9, hA9⟩ := Ord.chain_end hS
    clear hS
    go_wp2
    go_ret
    exact ⟨ret_bool E1.out.symm, hC9.2⟩
  · have e1 : stB l x y d = false := by simp [stB, h5]
    have E1 := Lib.hid e1
    clear e1
    have h5' : (x == 5) = false := by simpa using h5
    refine Ord.wp_chain [] (fun w' => Env w0 (boxI X [.int .i64 x, .int .i64 y, .int .i64 z] :: L) w' ∧ Below w.heap.size w w') (fun _ _ => True) (by kernel_rfl) (by kernel_rfl) (by kernel_rfl) ⟨hE.drew, hb.drew⟩ trivial (fun hT => ?_)
    have hT9 := Lib.hid hT
    clear hT
    repeat (first
      | (refine Ord.ch_value (v := ?_) hT9.out (by decide) (by rfl) ?_ ?_; rotate_left; (focus (intro w5 hS; have r := hS.1.rule 0 rfl; go_simp <;> with_reducible rfl)); (try simp only [Act.put, List.setIfInBounds_toArray, List.set_cons_zero, List.set_cons_succ]))
      | (refine Ord.ch_off hT9.out (by decide) (by rfl) ?_; (try simp only [Act.put, List.setIfInBounds_toArray, List.set_cons_zero, List.set_cons_succ]))
      | (refine Ord.ch_call (v := ?_) (f := ?_) (args := ?_) hT9.out (by decide) (by rfl) ?_ ?_ ?_; rotate_left 3; (focus (intro w5 hS; have r := hS.1.rule 0 rfl; go_simp; constructor <;> with_reducible rfl)); (focus (intro w5 hS; (first | fail))); (try simp only [Act.put, List.setIfInBounds_toArray, List.set_cons_zero, List.set_cons_succ])))
    refine Ord.InText.nil fun w5 hS => ?_
    clear hT9
    obtain ⟨hC9, hA9⟩ := Ord.chain_end hS
    clear hS
    go_wp2
    go_ret
    exact ⟨ret_bool E1.out.symm, hC9.2⟩

set_option maxHeartbeats 1600000 in
theorem load7_u (x y z d : Int) (hl : l.length ≤ 100000) (hlc : lc.length ≤ 1000000) (hli : li.length ≤ 1000000) (i : Nat) (hE : Env w0 L w) (hu : L[i]? = some (boxI u (uv v1 v2 v3 fa st))) (h1 : L[i + 1]? = some (rowO v1 lc)) (h2 : L[i + 2]? = some (rowO v2 li)) (hs : L[i + 3]? = some (intsI v3 l)) :
    Calls Try.prog 54 #[.pointer (some ⟨u, 0, none⟩), .agg #[.int .i64 x, .int .i64 y, .int .i64 z], .int .i64 d] w fun e w' => e = .returned (.tuple #[.int .u64 (getL lc (x, y, z)), .int .i64 (IntKind.i64.wrap (getL li (x, y, z))), .bool (stB l x y d)]) ∧ Below w.heap.size w w' := by
  have hb := (Below.refl w.heap.size w).alloc (Nat.le_refl _) (.cells #[.int .i64 x, .int .i64 y, .int .i64 z] 41)
  replace hE := hE.box w.heap.size rfl [.int .i64 x, .int .i64 y, .int .i64 z] 41
  go_enter Try.func54, Try.ntmps54
  go_wp2_with fail
  obtain ⟨X, hXw⟩ : ∃ X, X = w.heap.size := ⟨_, rfl⟩
  rw [← hXw] at hE ⊢
  have HXW := Lib.hid hXw
  clear hXw
  have hu' : (boxI X [.int .i64 x, .int .i64 y, .int .i64 z] :: L)[i + 1]? = some (boxI u (uv v1 v2 v3 fa st)) := hu
  have h1' : (boxI X [.int .i64 x, .int .i64 y, .int .i64 z] :: L)[i + 2]? = some (rowO v1 lc) := h1
  have h2' : (boxI X [.int .i64 x, .int .i64 y, .int .i64 z] :: L)[i + 3]? = some (rowO v2 li) := h2
  have hs' : (boxI X [.int .i64 x, .int .i64 y, .int .i64 z] :: L)[i + 4]? = some (intsI v3 l) := hs
  refine Ord.wp_chain [] (fun w' => Env w0 (boxI X [.int .i64 x, .int .i64 y, .int .i64 z] :: L) w' ∧ Below w.heap.size w w') (fun _ _ => True) (by kernel_rfl) (by kernel_rfl) (by kernel_rfl) ⟨hE.drew, hb.drew⟩ trivial (fun hT => ?_)
  have hT9 := Lib.hid hT
  clear hT
  repeat (first
    | (refine Ord.ch_value (v := ?_) hT9.out (by decide) (by rfl) ?_ ?_; rotate_left; (focus (intro w5 hS; have r := hS.1.rule 0 rfl; go_simp <;> with_reducible rfl)); (try simp only [Act.put, List.setIfInBounds_toArray, List.set_cons_zero, List.set_cons_succ]))
    | (refine Ord.ch_off hT9.out (by decide) (by rfl) ?_; (try simp only [Act.put, List.setIfInBounds_toArray, List.set_cons_zero, List.set_cons_succ]))
    | (refine Ord.ch_call (v := ?_) (f := ?_) (args := ?_) hT9.out (by decide) (by rfl) ?_ ?_ ?_; rotate_left 3; (focus (intro w5 hS; have r := hS.1.rule 0 rfl; go_simp; constructor <;> with_reducible rfl)); (focus (intro w5 hS; (first | (with_reducible refine (get_u x y z hlc 0 (i + 1) (i + 2) hS.1 hu' rfl h1').mono ?_; rintro e w6 ⟨rfl, hb6⟩; constructor; with_reducible rfl; exact ⟨⟨hS.1.over hb6, hS.2.trans (hb6.mono hS.2.size)⟩, fun _ h => h⟩) | (with_reducible refine (get_u x y z hli 1 (i + 1) (i + 3) hS.1 hu' rfl h2').mono ?_; rintro e w6 ⟨rfl, hb6⟩; constructor; with_reducible rfl; exact ⟨⟨hS.1.over hb6, hS.2.trans (hb6.mono hS.2.size)⟩, fun _ h => h⟩) | (with_reducible refine (stale_u x y z d hl (i + 1) hS.1 hu' hs').mono ?_; rintro e w6 ⟨rfl, hb6⟩; constructor; with_reducible rfl; exact ⟨⟨hS.1.over hb6, hS.2.trans (hb6.mono hS.2.size)⟩, fun _ h => h⟩)))); (try simp only [Act.put, List.setIfInBounds_toArray, List.set_cons_zero, List.set_cons_succ])))
  refine Ord.InText.nil fun w5 hS => ?_
  clear hT9
  obtain ⟨hC9, hA9⟩ := Ord.chain_end hS
  clear hS
  go_wp2
  exact bodyPost_ret (v := .tuple #[.int .u64 (getL lc (x, y, z)), .int .i64 (IntKind.i64.wrap (getL li (x, y, z))), .bool (stB l x y d)]) (by simp [results, Try.results54, go_sem]) rfl ⟨rfl, hC9.2⟩

set_option maxHeartbeats 1600000 in
theorem load8_u (x y z d : Int) (hl : l.length ≤ 100000) (hlc : lc.length ≤ 1000000) (hli : li.length ≤ 1000000) (i : Nat) (hE : Env w0 L w) (hu : L[i]? = some (boxI u (uv v1 v2 v3 fa st))) (h1 : L[i + 1]? = some (rowO v1 lc)) (h2 : L[i + 2]? = some (rowO v2 li)) (hs : L[i + 3]? = some (intsI v3 l)) :
    Calls Try.prog 34 #[.pointer (some ⟨u, 0, none⟩), .agg #[.int .i64 x, .int .i64 y, .int .i64 z], .int .i64 d] w fun e w' => e = .returned (.tuple #[.int .u64 (getL lc (x, y, z)), .int .i64 (IntKind.i64.wrap (getL li (x, y, z))), .bool (stB l x y d)]) ∧ Env w0 (L.set i (boxI u (uv v1 v2 v3 fa (if stB l x y d = true then wrap64 (st + 1) else st)))) w' := by
  replace hE := hE.box w.heap.size rfl [.int .i64 x, .int .i64 y, .int .i64 z] 41
  have hu' : (boxI w.heap.size [.int .i64 x, .int .i64 y, .int .i64 z] :: L)[i + 1]? = some (boxI u (uv v1 v2 v3 fa st)) := hu
  have cL := fun (v : World) (hE : Env w0 (boxI w.heap.size [.int .i64 x, .int .i64 y, .int .i64 z] :: L) v) => load7_u x y z d hl hlc hli (i + 1) hE hu h1 h2 hs
  have CL := Lib.hid cL
  clear cL
  generalize getL lc (x, y, z) = a1 at *
  generalize IntKind.i64.wrap (getL li (x, y, z)) = a2 at *
  generalize hsz : (if stB l x y d = true then wrap64 (st + 1) else st) = sz
  have HSZ := Lib.hid hsz
  clear hsz
  generalize stB l x y d = t at *
  go_enter Try.func34, Try.ntmps34
  go_wp2_with fail
  generalize w.heap.size = X at *
  refine Ord.wp_chain [] (fun w' => Env w0 (boxI X [.int .i64 x, .int .i64 y, .int .i64 z] :: L) w') (fun _ _ => True) (by kernel_rfl) (by kernel_rfl) (by kernel_rfl) hE.drew trivial (fun hT => ?_)
  have hT9 := Lib.hid hT
  clear hT
  repeat (first
    | (refine Ord.ch_value (v := ?_) hT9.out (by decide) (by rfl) ?_ ?_; rotate_left; (focus (intro w5 hS; have r := hS.rule 0 rfl; go_simp <;> with_reducible rfl)); (try simp only [Act.put, List.setIfInBounds_toArray, List.set_cons_zero, List.set_cons_succ]))
    | (refine Ord.ch_off hT9.out (by decide) (by rfl) ?_; (try simp only [Act.put, List.setIfInBounds_toArray, List.set_cons_zero, List.set_cons_succ]))
    | (refine Ord.ch_call (v := ?_) (f := ?_) (args := ?_) hT9.out (by decide) (by rfl) ?_ ?_ ?_; rotate_left 3; (focus (intro w5 hS; have r := hS.rule 0 rfl; go_simp; constructor <;> with_reducible rfl)); (focus (intro w5 hS; (first | (with_reducible refine (CL.out _ hS).mono ?_; rintro e w6 ⟨rfl, hb6⟩; constructor; with_reducible rfl; exact ⟨hS.over hb6, fun _ h => h⟩)))); (try simp only [Act.put, List.setIfInBounds_toArray, List.set_cons_zero, List.set_cons_succ])))
  refine Ord.InText.nil fun w5 hS => ?_
  clear hT9
  obtain ⟨hC9, hA9⟩ := Ord.chain_end hS
  clear hS
  clear hA9
  have r2 := hC9.rule (i + 1) hu'
  have z2 := hC9.thaw (i + 1) hu' 4 (by simp [uv])
  have hP := hC9.put (i + 1) hu' (j := 4) (by simp [uv]) (.int .i64 (wrap64 (st + 1)))
  unfold uv at r2
  cases t
  · have e2 : st = sz := by simpa using HSZ.out
    go_wp2
    refine bodyPost_ret (v := .tuple #[.int .u64 a1, .int .i64 a2, .bool false]) (by simp [results, Try.results34, go_sem]) rfl ⟨rfl, ?_⟩
    rw [← e2, setSelf hu]
    exact hC9.sub (.cons _ (List.Sublist.refl _))
  · have e2 : wrap64 (st + 1) = sz := by simpa using HSZ.out
    go_wp2
    refine bodyPost_ret (v := .tuple #[.int .u64 a1, .int .i64 a2, .bool true]) (by simp [results, Try.results34, go_sem]) rfl ⟨rfl, ?_⟩
    rw [← e2]
    exact hP.sub (.cons _ (List.Sublist.refl _))
end
end Go.Proofs.Ytmihfpdbaagjnaa
