/- What is proved on the way to the statement, part 5 of 7: contracts of the functions, among other things in memory. -/
import Derived.Test.YtdeohigggjfjjaaG4

/- SpecPairs' walk. -/
namespace Go.Proofs.Ytdeohigggjfjjaa
open Go.RowKit Go.Maps
set_option maxRecDepth 100000

/-- What is told of a row that a call made. -/
theorem of_row {w w' : World} {A' : Option Addr} {cap' : Nat} {M : List (Int × Int)} (h : Env w [rowR A' cap' M] w') : RowX encP 2 w' A' M ∧ (∀ b off, A' = some ⟨b, off, none⟩ → w.heap.size ≤ b) ∧ (A' = none → M = []) ∧ Below w.heap.size w w' := by
  have hs := h.get 0 rfl
  have ho : w'.ownsRow 0 50 2 (.slice A' M.length cap') M.length (flatK encP M) := hs
  have hr := owns_rowK (enc := encP) encP_len2 ho
  refine ⟨hr, fun b off e => ?_, fun e => ?_, h.below⟩
  · refine ((h.2.2 _ (List.mem_singleton.2 rfl)).2 b ?_).1
    show (Value.slice A' M.length cap').ownBlock = some b
    rw [e]
    rfl
  · rcases hr with h1 | ⟨b, off, h1, -⟩
    · exact h1
    · rw [e] at h1; cases h1
theorem RowX.put {w : World} {A : Option Addr} {M : List (Int × Int)} (h : RowX encP 2 w A M) {n : Nat} (hn : ∀ b off, A = some ⟨b, off, none⟩ → b ≠ n) (i : Nat) (u : Value) : RowX encP 2 (w.setCell ⟨n, i, none⟩ u) A M := by
  rcases h with h | ⟨b, off, rfl, hl, hc⟩
  · exact .inl h
  · refine .inr ⟨b, off, rfl, by simpa using hl, fun j hj c v e => ?_⟩
    have hb : b ≠ n := hn b off rfl
    rw [World.cell?_setCell_other _ _ _ _ (fun e => hb (by cases e; rfl))]
    exact hc j hj c v e
theorem RowX.atp {w : World} {g off : Nat} {M : List (Int × Int)} (h : RowX encP 2 w (some ⟨g, off, none⟩) M) {i : Nat} (hi : i < M.length) : w.cell? ⟨g, off + i * 2, none⟩ = some (.int .u64 (M.getD i (0, 0)).1) ∧ w.cell? ⟨g, off + i * 2 + 1, none⟩ = some (.int .u64 (M.getD i (0, 0)).2) := by
  obtain ⟨g', off', e, -, hc⟩ := h.pairs hi
  cases e
  exact hc i hi
def szOf (w : World) : Nat := w.heap.size
theorem RowX.below2 {w w' : World} {A : Option Addr} {M : List (Int × Int)} {n : Nat} (h : RowX encP 2 w A M) (hb : Below n w w') (hn : szOf w ≤ n) : RowX encP 2 w' A M := h.below (hb.mono hn)
def StD (M3 : List (Int × Int)) (u : Value) (v9 : World) : Prop := ∃ A' c', u = .agg #[.slice A' M3.length c'] ∧ RowX encP 2 v9 A' M3 ∧ (A' = none → M3 = [])
theorem SOk0 : SOk [] := ⟨.nil, by simp, by simp⟩
/-- How it stands behind the call, behind the store. -/
def StB (w : World) (U n1 : Nat) (pv : List Value) (A1 : Option Addr) (c1 : Nat) (M2 : List (Int × Int)) (u : Value) (v9 : World) : Prop :=
  ∃ A' c', u = .agg #[.slice A' M2.length c'] ∧ Fr w [(U, [.slice A1 n1 c1]), (w.heap.size, pv)] v9 ∧ RowX encP 2 v9 A' M2 ∧ (A' = none → M2 = []) ∧ ∀ b off, A' = some ⟨b, off, none⟩ → b ≠ U
def StC (w : World) (U : Nat) (pv : List Value) (M2 : List (Int × Int)) (v9 : World) : Prop :=
  ∃ A' c', Fr w [(U, [.slice A' M2.length c']), (w.heap.size, pv)] v9 ∧ RowX encP 2 v9 A' M2 ∧ (A' = none → M2 = []) ∧ ∀ b off, A' = some ⟨b, off, none⟩ → b ≠ U
set_option maxHeartbeats 8000000 in
theorem pairs_walk (l : List (Int × Int)) (A : Option Addr) (cap : Nat) (k v : Int) (w : World) (hz : l.length * 16 ≤ 140737488351232) (hu : ∀ r ∈ l, OkP r) (hr : RowX encP 2 w A l) (hk : InU k) (hv : InU v) :
    Calls Try.prog 5 #[.slice A l.length cap, .agg #[.int .u64 k, .int .u64 v]] w fun e w' => e = .returned (.bool true) ∧ Below w.heap.size w w' := by
  have hF := (Fr.start w).push w.heap.size rfl [.int .u64 k, .int .u64 v] 26
  have HZ := Lib.hid hz
  have HR := Lib.hid hr
  clear hz hr
  go_enter Try.func5, Try.ntmps5
  go_wp2_with fail
  refine (awake21 _).mono ?_
  rintro o w1 ⟨rfl, hb⟩
  replace hF := hF.over hb
  clear hb
  by_cases h40 : l.length ≤ 40
  · have b40 : ¬ ((40 : Int) < (l.length : Int)) := by omega
    generalize hnn : l.length = n at *
    have HN := Lib.hid hnn
    clear hnn
    go_upto_region 6 with fail
    have hF2 := hF.push w1.heap.size rfl [.slice none 0 0] 32
    have hU1 : w.heap.size < w1.heap.size := hF.lt 0 rfl
    generalize World.alloc w1 _ = w2 at *
    generalize w1.heap.size = U at *
    clear hF
    go_wp2_with fail
    go_loopg [6, 7] (n + 1) (fun kx s6 s7 wr => ∃ (i : Nat) (A1 : Option Addr) (c1 : Nat) (M : List (Int × Int)), s6 = .bool (twiceK (l.take i)) ∧ s7 = .int .i64 i ∧ i ≤ n ∧ n - i ≤ kx ∧ Hid (M = foldP (l.take i)) ∧ Hid (Fr w [(U, [.slice A1 M.length c1]), (w.heap.size, [.int .u64 k, .int .u64 v])] wr) ∧ Hid (RowX encP 2 wr A1 M) ∧ Hid (A1 = none → M = []) ∧ Hid (∀ b off, A1 = some ⟨b, off, none⟩ → b ≠ U))
    case atStart => exact ⟨0, none, 0, [], by simp [twiceK], rfl, Nat.zero_le _, by omega, Lib.hid (by simp [foldP]), Lib.hid hF2, Lib.hid (.inl rfl), Lib.hid (fun _ => rfl), Lib.hid (fun b off h => by cases h)⟩
    case round =>
      clear hF2
      obtain ⟨i, A1, c1, M, rfl, rfl, hi, hkx, hM, hF, hR, hN, hAp⟩ := hrel
      by_cases hlt : i < n
      · have hil : i < l.length := by rw [HN.out]; exact hlt
        have hlt' : (i : Int) < (n : Int) := by omega
        obtain ⟨g, off, rfl, hgw, -⟩ := HR.out.pairs hil
        have HG : Hid (g ≠ U) := Lib.hid (by omega)
        clear hgw
        have HT := Lib.hid (twice_take hil)
        have HFT := Lib.hid (foldP_take hil)
        have hp : ∃ p, l.getD i (0, 0) = p := ⟨_, rfl⟩
        obtain ⟨⟨x, y⟩, hp⟩ := hp
        have hM4 : M.length ≤ 1000000 := by rw [hM.out]; exact foldP_len _ _ (by rw [List.length_take]; omega)
        have C1 : Hid (∀ w', RowX encP 2 w' A1 M → Calls Try.prog 12 #[.agg #[.slice A1 M.length c1], .int .u64 x] w' fun e w'' => e = .returned (.tuple #[.int .u64 (lookM M x).1, .bool (lookM M x).2]) ∧ Below w'.heap.size w' w'') := Lib.hid fun w' h => get_r hM4 h x
        have C2 : Hid (∀ w', RowX encP 2 w' A1 M → Calls Try.prog 15 #[.agg #[.slice A1 M.length c1], .agg #[.int .u64 x, .int .u64 y]] w' fun e w'' => ∃ A' cap', e = .returned (.agg #[.slice A' (putM M x y).length cap']) ∧ Env w' [rowR A' cap' (putM M x y)] w'') := Lib.hid fun w' h => with_r hM4 h x y
        have CL : Hid (∀ w', RowX encP 2 w' (some ⟨g, off, none⟩) l → w'.cell? ⟨g, off + i * 2, none⟩ = some (.int .u64 x) ∧ w'.cell? ⟨g, off + i * 2 + 1, none⟩ = some (.int .u64 y)) := Lib.hid fun w' h => by have := h.atp hil; rw [hp] at this; exact this
        rw [hp] at HT HFT
        have HT2 : Hid (twiceK (l.take (i + 1)) = (twiceK (l.take i) || (lookM M x).2)) := Lib.hid (by rw [HT.out, hM.out])
        have HFT2 : Hid (putM M x y = foldP (l.take (i + 1))) := Lib.hid (by rw [HFT.out, hM.out])
        have hRl := HR.out.below hF.out.below
        clear HT HFT hp hM hM4
        generalize twiceK (l.take i) = b at *
        generalize lookM M x = lx at *
        generalize putM M x y = M2 at *
        obtain ⟨gx, bx⟩ := lx
        go_upto_region 10 with fail
        refine wp_text (S := (fun w' => Fr w [(U, [.slice A1 M.length c1]), (w.heap.size, [.int .u64 k, .int .u64 v])] w' ∧ RowX encP 2 w' A1 M ∧ RowX encP 2 w' (some ⟨g, off, none⟩) l)) (by kernel_rfl) (by kernel_rfl) ⟨hF.out.drew, hR.out, hRl⟩ (fun hT => ?_)
        have hT9 := Lib.hid hT
        clear hT
        repeat (first
          | (refine text_value (v := ?_) hT9.out (by rfl) ?_ ?_; rotate_left; (focus (intro w5 hS; have q0 := hS.1.rule 0 rfl; have q1 := (CL.out _ hS.2.2).1; go_simp <;> with_reducible rfl)); (try simp only [Act.put, List.setIfInBounds_toArray, List.set_cons_zero, List.set_cons_succ]))
          | (refine text_off hT9.out (by rfl) ?_; (try simp only [Act.put, List.setIfInBounds_toArray, List.set_cons_zero, List.set_cons_succ]))
          | (refine text_call (v := ?_) (f := ?_) (args := ?_) hT9.out (by rfl) ?_ ?_ ?_; rotate_left 3; (focus (intro w5 hS; have q0 := hS.1.rule 0 rfl; have q1 := (CL.out _ hS.2.2).1; go_simp; constructor <;> with_reducible rfl)); (focus (intro w5 hS; (first | (with_reducible refine (C1.out _ hS.2.1).mono ?_; rintro e w6 ⟨rfl, hb5⟩; constructor; with_reducible rfl; exact ⟨hS.1.over hb5, hS.2.1.below hb5, hS.2.2.below hb5⟩)))); (try simp only [Act.put, List.setIfInBounds_toArray, List.set_cons_zero, List.set_cons_succ])))
        refine InText.nil fun w5 hS5 => ?_
        clear hT9
        obtain ⟨hF5, hR5, hRl5⟩ := hS5
        clear hF hR hRl
        cases hb : b
        case' false =>
          go_upto_region 12 with fail
          refine Ord3.wp_chain [?_, ?_, ?_, ?_, ?_, ?_, ?_, ?_, ?_, ?_, ?_, ?_, ?_, ?_] [0, 12, 13] (fun v => RowX encP 2 v (some ⟨g, off, none⟩) l) (Ord3.Stage fun κs => [fun v9 => Fr w [(U, [.slice A1 M.length c1]), (w.heap.size, [.int .u64 k, .int .u64 v])] v9 ∧ RowX encP 2 v9 A1 M, fun v9 => κs.getD 0 undef = .agg #[.slice A1 M.length c1] ∧ Fr w [(U, [.slice A1 M.length c1]), (w.heap.size, [.int .u64 k, .int .u64 v])] v9 ∧ RowX encP 2 v9 A1 M, fun v9 => StB w U M.length [.int .u64 k, .int .u64 v] A1 c1 M2 (κs.getD 1 undef) v9, fun v9 => StC w U [.int .u64 k, .int .u64 v] M2 v9]) (by kernel_rfl) (by kernel_rfl) (by kernel_rfl) hRl5 ⟨_, rfl, hF5.drew, hR5⟩ (fun hT => ?_)
          rotate_left 14
          have hT9 := Lib.hid hT
          clear hT
          refine Ord3.in_turn (fun u => u = .agg #[.slice A1 M.length c1]) _ rfl hT9.out rfl (by decide) (by rfl) ?_ (Or.inl rfl) (by rfl) ?_ ?_
          · rfl
          · rintro v7 hC7 ⟨P7, hP7, hA7⟩
            cases hP7
            have r0 := hA7.1.rule 0 rfl
            go_simp
            simp only [Ord3.Lands]
            exact ⟨by first | rfl | trivial, hC7, _, rfl, by first | rfl | trivial, hA7.1, hA7.2⟩
          rintro _ rfl
          (try simp only [Act.put, List.setIfInBounds_toArray, List.set_cons_zero, List.set_cons_succ])
          repeat (first
            | (focus (refine Ord3.in_value (v := ?_) hT9.out (by decide) ?_ (by rfl) ?_ ?_; rotate_left 2; (focus (intro w5 hS; have q1 := (CL.out _ hS).1; have q2 := (CL.out _ hS).2; go_simp <;> with_reducible rfl)); rotate_right; (focus rfl); (try simp only [Act.put, List.setIfInBounds_toArray, List.set_cons_zero, List.set_cons_succ])))
            | (focus (refine Ord3.in_off hT9.out (by decide) ?_ (by rfl) ?_; (focus rfl); (try simp only [Act.put, List.setIfInBounds_toArray, List.set_cons_zero, List.set_cons_succ]))))
          refine Ord3.in_turn (fun u => ∃ A' c', u = .agg #[.slice A' M2.length c']) _ ⟨none, 0, rfl⟩ hT9.out rfl (by decide) (by rfl) ?_ (Or.inr ⟨_, 0, [], rfl, by kernel_rfl, by kernel_rfl, rfl⟩) (by rfl) ?_ ?_
          · rfl
          · rintro v7 hC7 ⟨P7, hP7, hA7⟩
            cases hP7
            obtain ⟨-, hA71, hA72⟩ := hA7
            go_simp
            simp only [Ord3.Lands]
            refine (C2.out _ hA72).mono ?_
            rintro o v8 ⟨A', c', rfl, hE8⟩
            obtain ⟨e1, e2, e3, e4⟩ := of_row hE8
            exact ⟨_, rfl, ⟨_, _, rfl⟩, hC7.below e4, _, rfl, A', c', rfl, hA71.over e4, e1, e3, fun b off h => by have := e2 b off h; have := hA71.lt 0 rfl; omega⟩
          rintro _ ⟨A8, c8, rfl⟩
          (try simp only [Act.put, List.setIfInBounds_toArray, List.set_cons_zero, List.set_cons_succ])
          refine Ord3.in_turn (fun u => u = undef) _ rfl hT9.out rfl (by decide) (by rfl) ?_ (Or.inr ⟨_, 12, [], rfl, by kernel_rfl, by kernel_rfl, rfl⟩) (by rfl) ?_ ?_
          · rfl
          · rintro v7 hC7 ⟨P7, hP7, hA7⟩
            cases hP7
            obtain ⟨A', c', he, hA7, e1, e3, e5⟩ := hA7
            cases he
            have r0 := hA7.rule 0 rfl
            have f0 := hA7.thaw 0 rfl (by omega)
            go_simp
            simp only [Ord3.Lands]
            have hne : ∀ b o, (some ⟨g, off, none⟩ : Option Addr) = some ⟨b, o, none⟩ → b ≠ U := fun b o h => by cases h; exact HG.out
            exact ⟨by first | rfl | trivial, hC7.put hne _ _, _, rfl, A8, c8, hA7.put (by omega) (by simp; omega) 0 (by simp) _, e1.put e5 _ _, e3, e5⟩
          rintro _ rfl
          (try simp only [Act.put, List.setIfInBounds_toArray, List.set_cons_zero, List.set_cons_succ])
          refine Ord3.in_nil rfl ?_
          rintro w6 hC6 ⟨P6, hP6, hA6⟩
          cases hP6
          obtain ⟨A6, c6, hF6, hR6, hN6, hAp6⟩ := hA6
          clear hT9
          go_wp2_with fail
          go_roundg (n - (i + 1))
          case measure => omega
          case rel => exact ⟨i + 1, A6, c6, M2, by rw [HT2.out, hb]; rfl, by simp, by omega, Nat.le_refl _, HFT2, Lib.hid hF6, Lib.hid hR6, Lib.hid hN6, Lib.hid hAp6⟩
        case' true =>
          go_upto_region 12 with fail
          refine Ord3.wp_chain [?_, ?_, ?_, ?_, ?_, ?_, ?_, ?_, ?_, ?_, ?_, ?_, ?_, ?_] [0, 12, 13] (fun v => RowX encP 2 v (some ⟨g, off, none⟩) l) (Ord3.Stage fun κs => [fun v9 => Fr w [(U, [.slice A1 M.length c1]), (w.heap.size, [.int .u64 k, .int .u64 v])] v9 ∧ RowX encP 2 v9 A1 M, fun v9 => κs.getD 0 undef = .agg #[.slice A1 M.length c1] ∧ Fr w [(U, [.slice A1 M.length c1]), (w.heap.size, [.int .u64 k, .int .u64 v])] v9 ∧ RowX encP 2 v9 A1 M, fun v9 => StB w U M.length [.int .u64 k, .int .u64 v] A1 c1 M2 (κs.getD 1 undef) v9, fun v9 => StC w U [.int .u64 k, .int .u64 v] M2 v9]) (by kernel_rfl) (by kernel_rfl) (by kernel_rfl) hRl5 ⟨_, rfl, hF5.drew, hR5⟩ (fun hT => ?_)
          rotate_left 14
          have hT9 := Lib.hid hT
          clear hT
          refine Ord3.in_turn (fun u => u = .agg #[.slice A1 M.length c1]) _ rfl hT9.out rfl (by decide) (by rfl) ?_ (Or.inl rfl) (by rfl) ?_ ?_
          · rfl
          · rintro v7 hC7 ⟨P7, hP7, hA7⟩
            cases hP7
            have r0 := hA7.1.rule 0 rfl
            go_simp
            simp only [Ord3.Lands]
            exact ⟨by first | rfl | trivial, hC7, _, rfl, by first | rfl | trivial, hA7.1, hA7.2⟩
          rintro _ rfl
          (try simp only [Act.put, List.setIfInBounds_toArray, List.set_cons_zero, List.set_cons_succ])
          repeat (first
            | (focus (refine Ord3.in_value (v := ?_) hT9.out (by decide) ?_ (by rfl) ?_ ?_; rotate_left 2; (focus (intro w5 hS; have q1 := (CL.out _ hS).1; have q2 := (CL.out _ hS).2; go_simp <;> with_reducible rfl)); rotate_right; (focus rfl); (try simp only [Act.put, List.setIfInBounds_toArray, List.set_cons_zero, List.set_cons_succ])))
            | (focus (refine Ord3.in_off hT9.out (by decide) ?_ (by rfl) ?_; (focus rfl); (try simp only [Act.put, List.setIfInBounds_toArray, List.set_cons_zero, List.set_cons_succ]))))
          refine Ord3.in_turn (fun u => ∃ A' c', u = .agg #[.slice A' M2.length c']) _ ⟨none, 0, rfl⟩ hT9.out rfl (by decide) (by rfl) ?_ (Or.inr ⟨_, 0, [], rfl, by kernel_rfl, by kernel_rfl, rfl⟩) (by rfl) ?_ ?_
          · rfl
          · rintro v7 hC7 ⟨P7, hP7, hA7⟩
            cases hP7
            obtain ⟨-, hA71, hA72⟩ := hA7
            go_simp
            simp only [Ord3.Lands]
            refine (C2.out _ hA72).mono ?_
            rintro o v8 ⟨A', c', rfl, hE8⟩
            obtain ⟨e1, e2, e3, e4⟩ := of_row hE8
            exact ⟨_, rfl, ⟨_, _, rfl⟩, hC7.below e4, _, rfl, A', c', rfl, hA71.over e4, e1, e3, fun b off h => by have := e2 b off h; have := hA71.lt 0 rfl; omega⟩
          rintro _ ⟨A8, c8, rfl⟩
          (try simp only [Act.put, List.setIfInBounds_toArray, List.set_cons_zero, List.set_cons_succ])
          refine Ord3.in_turn (fun u => u = undef) _ rfl hT9.out rfl (by decide) (by rfl) ?_ (Or.inr ⟨_, 12, [], rfl, by kernel_rfl, by kernel_rfl, rfl⟩) (by rfl) ?_ ?_
          · rfl
          · rintro v7 hC7 ⟨P7, hP7, hA7⟩
            cases hP7
            obtain ⟨A', c', he, hA7, e1, e3, e5⟩ := hA7
            cases he
            have r0 := hA7.rule 0 rfl
            have f0 := hA7.thaw 0 rfl (by omega)
            go_simp
            simp only [Ord3.Lands]
            have hne : ∀ b o, (some ⟨g, off, none⟩ : Option Addr) = some ⟨b, o, none⟩ → b ≠ U := fun b o h => by cases h; exact HG.out
            exact ⟨by first | rfl | trivial, hC7.put hne _ _, _, rfl, A8, c8, hA7.put (by omega) (by simp; omega) 0 (by simp) _, e1.put e5 _ _, e3, e5⟩
          rintro _ rfl
          (try simp only [Act.put, List.setIfInBounds_toArray, List.set_cons_zero, List.set_cons_succ])
          refine Ord3.in_nil rfl ?_
          rintro w6 hC6 ⟨P6, hP6, hA6⟩
          cases hP6
          obtain ⟨A6, c6, hF6, hR6, hN6, hAp6⟩ := hA6
          clear hT9
          go_wp2_with fail
          go_roundg (n - (i + 1))
          case measure => omega
          case rel => exact ⟨i + 1, A6, c6, M2, by rw [HT2.out, hb]; rfl, by simp, by omega, Nat.le_refl _, HFT2, Lib.hid hF6, Lib.hid hR6, Lib.hid hN6, Lib.hid hAp6⟩
      · have hin : i = n := by omega
        have hlt' : ¬ ((i : Int) < (n : Int)) := by omega
        subst hin
        have hti : l.take i = l := by rw [← HN.out]; exact List.take_length
        rw [hti] at hM ⊢
        clear hti
        have CN := new_s (l := l) (cap := cap) (by rw [HN.out]; exact HZ.out) (HR.out.below hF.out.below)
        rw [HN.out] at CN
        replace hF := hF.out
        replace hR := hR.out
        go_wp2_with fail
        refine CN.mono ?_
        rintro o w3 ⟨S, er, rfl, hNk, hb⟩
        replace hF := hF.over hb
        replace hR := hR.below hb
        clear hb CN
        rename_i aK
        refine aK _ _ ?_
        clear aK
        have hS16 : S.length ≤ 16 := by
          rcases hNk with ⟨-, rfl, -⟩ | ⟨-, -, rfl, -⟩ | ⟨-, h16, -, hp, -⟩
          · simp
          · simp
          · rw [hp.length_eq]; exact h16
        have hRlt : RowX encP 2 w3 A1 M := hR
        refine Go.Great.wpList_readTo rfl (some 54) rfl _ rfl ?_
        (try simp only [Act.put, Act.eval, List.setIfInBounds_toArray, List.set_cons_zero, List.set_cons_succ])
        refine Go.Great.wpList_readTo rfl (some 57) rfl (.agg (encS S).toArray) (by go_simp) ?_
        (try simp only [Act.put, Act.eval, List.setIfInBounds_toArray, List.set_cons_zero, List.set_cons_succ])
        refine Go.Great.wpList_readTo rfl (some 58) rfl (.int .i64 er) (by go_simp) ?_
        (try simp only [Act.put, Act.eval, List.setIfInBounds_toArray, List.set_cons_zero, List.set_cons_succ])
        have hsz : szOf w3 = w3.heap.size := rfl
        have hB3 := (Below.refl w3.heap.size w3).alloc (Nat.le_refl _) (.cells (encS []).toArray 29)
        refine Go.Great.wpList_allocTo rfl (some 10) rfl (.pointer (some ⟨w3.heap.size, 0, none⟩)) (.cells (encS []).toArray 29) (by kernel_rfl) ?_
        have hz32 := hF.lt 0 rfl
        have hz33 := hF.lt 1 rfl
        have hz34 : w.heap.size ≤ w3.heap.size := hF.below.size
        replace hF := hF.push w3.heap.size rfl (encS []) 29
        generalize World.alloc w3 _ = w31 at *
        generalize w3.heap.size = Z at *
        (try simp only [Act.put, Act.eval, List.setIfInBounds_toArray, List.set_cons_zero, List.set_cons_succ])
        refine wpList_store_mid rfl 29 _ _ rfl Z 0 (encS S).toArray rfl rfl (hF.there 0 rfl (by omega) (by rw [encS_length (by simp), List.size_toArray, encS_length hS16])) (size33a hS16) (one33 _) ?_
        replace hF := hF.whole (us := encS S) (by omega) (by simp <;> omega) (by rw [encS_length (by simp), encS_length hS16])
        have hB4 := below_sets (Nat.le_refl Z) (encS S) 0 w31 hB3
        generalize World.setCells w31 _ _ _ = w35 at *
        replace hR := hR.below2 hB4 (Nat.le_of_eq hsz)
        clear hB3 hB4 hRlt hsz
        have hAp' : ∀ b off, A1 = some ⟨b, off, none⟩ → b ≠ U := hAp.out
        cases htw : twiceK l
        case' true =>
          have hnd : ¬ (l.map (·.1)).Nodup := by
            unfold twiceK at htw
            simpa using htw
          rcases hNk with ⟨-, rfl, rfl⟩ | ⟨h, -⟩ | ⟨h, -⟩
          case' inr.inl => exact absurd h hnd
          case' inr.inr => exact absurd h hnd
          go_upto_region 15 with fail
          apply wp_region_lit
          refine wpList_on ?_ (by rfl) ?_ ?_
          rotate_left
          focus (go_simp <;> with_reducible rfl)
          (try simp only [Act.put, Act.eval, List.setIfInBounds_toArray, List.set_cons_zero, List.set_cons_succ])
          refine wpList_on ?_ (by rfl) ?_ ?_
          rotate_left
          focus (go_simp <;> with_reducible rfl)
          (try simp only [Act.put, Act.eval, List.setIfInBounds_toArray, List.set_cons_zero, List.set_cons_succ])
          refine wpList_on ?_ (by rfl) ?_ ?_
          rotate_left
          focus (go_simp <;> with_reducible rfl)
          (try simp only [Act.put, Act.eval, List.setIfInBounds_toArray, List.set_cons_zero, List.set_cons_succ])
          refine wpList_on (.agg (encS []).toArray) (by rfl) (exec_load _ 29 _ rfl Z rfl (encS []) _ (hF.range 0 rfl) und29 rfl (size33 (by simp))) ?_
          (try simp only [Act.put, Act.eval, List.setIfInBounds_toArray, List.set_cons_zero, List.set_cons_succ])
          refine wpList_on (.agg (encS []).toArray) (by rfl) (by kernel_rfl) ?_
          (try simp only [Act.put, Act.eval, List.setIfInBounds_toArray, List.set_cons_zero, List.set_cons_succ])
          refine wpList_on (.bool (decide ([] = []))) (by rfl) (exec_eql _ _ _ rfl (a := []) (b := []) SOk0 SOk0 rfl rfl) ?_
          (try simp only [Act.put, Act.eval, List.setIfInBounds_toArray, List.set_cons_zero, List.set_cons_succ])
          refine wpList_on ?_ (by rfl) ?_ ?_
          rotate_left
          focus (go_simp <;> with_reducible rfl)
          (try simp only [Act.put, Act.eval, List.setIfInBounds_toArray, List.set_cons_zero, List.set_cons_succ])
          refine wpList_on ?_ (by rfl) ?_ ?_
          rotate_left
          focus (go_simp <;> with_reducible rfl)
          (try simp only [Act.put, Act.eval, List.setIfInBounds_toArray, List.set_cons_zero, List.set_cons_succ])
          apply wpList_nil
          go_wp2_with fail
          go_ret
          exact ⟨rfl, hF.below⟩
        case' false =>
          have hnd : (l.map (·.1)).Nodup := by
            unfold twiceK at htw
            simpa using htw
          by_cases h16 : i ≤ 16
          case' neg =>
            have h16' : (16 : Int) < (i : Int) := by omega
            rcases hNk with ⟨h, -⟩ | ⟨-, h, rfl, rfl⟩ | ⟨-, h, -⟩
            case' inl => exact absurd hnd h
            case' inr.inr => exact absurd h (by rw [HN.out]; omega)
            go_upto_region 17 with fail
            apply wp_region_lit
            refine wpList_on ?_ (by rfl) ?_ ?_
            rotate_left
            focus (go_simp <;> with_reducible rfl)
            (try simp only [Act.put, Act.eval, List.setIfInBounds_toArray, List.set_cons_zero, List.set_cons_succ])
            refine wpList_on ?_ (by rfl) ?_ ?_
            rotate_left
            focus (go_simp <;> with_reducible rfl)
            (try simp only [Act.put, Act.eval, List.setIfInBounds_toArray, List.set_cons_zero, List.set_cons_succ])
            refine wpList_on ?_ (by rfl) ?_ ?_
            rotate_left
            focus (go_simp <;> with_reducible rfl)
            (try simp only [Act.put, Act.eval, List.setIfInBounds_toArray, List.set_cons_zero, List.set_cons_succ])
            refine wpList_on (.agg (encS []).toArray) (by rfl) (exec_load _ 29 _ rfl Z rfl (encS []) _ (hF.range 0 rfl) und29 rfl (size33 (by simp))) ?_
            (try simp only [Act.put, Act.eval, List.setIfInBounds_toArray, List.set_cons_zero, List.set_cons_succ])
            refine wpList_on (.agg (encS []).toArray) (by rfl) (by kernel_rfl) ?_
            (try simp only [Act.put, Act.eval, List.setIfInBounds_toArray, List.set_cons_zero, List.set_cons_succ])
            refine wpList_on (.bool (decide ([] = []))) (by rfl) (exec_eql _ _ _ rfl (a := []) (b := []) SOk0 SOk0 rfl rfl) ?_
            (try simp only [Act.put, Act.eval, List.setIfInBounds_toArray, List.set_cons_zero, List.set_cons_succ])
            refine wpList_on ?_ (by rfl) ?_ ?_
            rotate_left
            focus (go_simp <;> with_reducible rfl)
            (try simp only [Act.put, Act.eval, List.setIfInBounds_toArray, List.set_cons_zero, List.set_cons_succ])
            refine wpList_on ?_ (by rfl) ?_ ?_
            rotate_left
            focus (go_simp <;> with_reducible rfl)
            (try simp only [Act.put, Act.eval, List.setIfInBounds_toArray, List.set_cons_zero, List.set_cons_succ])
            apply wpList_nil
            go_wp2_with fail
            go_ret
            exact ⟨rfl, hF.below⟩
          have h16' : ¬ ((16 : Int) < (i : Int)) := by omega
          rcases hNk with ⟨h, -⟩ | ⟨-, h, -⟩ | ⟨-, -, rfl, hp, hup⟩
          case' inl => exact absurd hnd h
          case' inr.inl => exact absurd h (by rw [HN.out]; omega)
          have hMl : M = l := by rw [hM.out]; exact foldP_nodup hnd
          subst hMl
          have huS : ∀ p ∈ S, OkP p := fun p hp' => hu p (hp.mem_iff.1 hp')
          have hnA : A1 = none → M = [] := hN.out
          have hdl := delK_le S k hS16
          have CA : Hid (∀ w', RowX encP 2 w' A1 M → Calls Try.prog 13 #[.agg (encS S).toArray, .agg #[.slice A1 M.length c1]] w' fun e w'' => e = .returned (.bool true) ∧ Below w'.heap.size w' w'') := Lib.hid fun w' h => alike_t hup hS16 hp.symm rfl h hnA
          have CW : Hid (∀ w', Calls Try.prog 18 #[.agg (encS S).toArray, .int .u64 k] w' fun e w'' => e = .returned (.agg (encS (delK S k)).toArray) ∧ Below w'.heap.size w' w'') := Lib.hid fun w' => without_s S hup hS16 k w'
          have CR : Hid (∀ w', RowX encP 2 w' A1 M → Calls Try.prog 19 #[.agg #[.slice A1 M.length c1], .int .u64 k] w' fun e w'' => ∃ A' cap', e = .returned (.agg #[.slice A' (remM M k).length cap']) ∧ Env w' [rowR A' cap' (remM M k)] w'') := Lib.hid fun w' h => without_r (by rw [HN.out]; omega) h k
          have CB : Hid (∀ w' A' c', RowX encP 2 w' A' (remM M k) → (A' = none → remM M k = []) → Calls Try.prog 13 #[.agg (encS (delK S k)).toArray, .agg #[.slice A' (remM M k).length c']] w' fun e w'' => e = .returned (.bool true) ∧ Below w'.heap.size w' w'') := Lib.hid fun w' A' c' h h2 => alike_t (del_up hup k) hdl (rem_del hup hp.symm k) rfl h h2
          generalize remM M k = M3 at *
          generalize delK S k = S3 at *
          go_upto_region 18 with fail
          refine Ord3.wp_chain [?_, ?_, ?_, ?_, ?_, ?_, ?_, ?_, ?_, ?_, ?_, ?_, ?_, ?_, ?_, ?_, ?_, ?_, ?_, ?_] [5, 12, 16, 17] (fun v9 => Fr w [(Z, encS S), (U, [.slice A1 M.length c1]), (w.heap.size, [.int .u64 k, .int .u64 v])] v9 ∧ RowX encP 2 v9 A1 M) (Ord3.Stage fun κs => [fun v9 => v9 = v9, fun v9 => v9 = v9, fun v9 => v9 = v9, fun v9 => StD M3 (κs.getD 2 undef) v9, fun v9 => v9 = v9]) (by kernel_rfl) (by kernel_rfl) (by kernel_rfl) ⟨hF.drew, hR⟩ ⟨_, rfl, by first | rfl | trivial⟩ (fun hT => ?_)
          rotate_left 20
          have hT9 := Lib.hid hT
          clear hT
          repeat (first
            | (focus (refine Ord3.in_value (v := ?_) hT9.out (by decide) ?_ (by rfl) ?_ ?_; rotate_left 2; (focus (intro w5 hS; have q0 := hS.1.rule 1 rfl; have q1 := hS.1.rule 2 rfl; go_simp <;> with_reducible rfl)); rotate_right; (focus rfl); (try simp only [Act.put, List.setIfInBounds_toArray, List.set_cons_zero, List.set_cons_succ])))
            | (focus (refine Ord3.in_off hT9.out (by decide) ?_ (by rfl) ?_; (focus rfl); (try simp only [Act.put, List.setIfInBounds_toArray, List.set_cons_zero, List.set_cons_succ]))))
          refine Ord3.in_value (v := .agg (encS S).toArray) hT9.out (by decide) ?_ (by rfl) (fun w5 hS => exec_load w5 29 _ rfl Z rfl (encS S) _ (hS.1.range 0 rfl) und29 rfl (size33 hS16)) ?_
          · rfl
          (try simp only [Act.put, List.setIfInBounds_toArray, List.set_cons_zero, List.set_cons_succ])
          repeat (first
            | (focus (refine Ord3.in_value (v := ?_) hT9.out (by decide) ?_ (by rfl) ?_ ?_; rotate_left 2; (focus (intro w5 hS; have q0 := hS.1.rule 1 rfl; have q1 := hS.1.rule 2 rfl; go_simp <;> with_reducible rfl)); rotate_right; (focus rfl); (try simp only [Act.put, List.setIfInBounds_toArray, List.set_cons_zero, List.set_cons_succ])))
            | (focus (refine Ord3.in_off hT9.out (by decide) ?_ (by rfl) ?_; (focus rfl); (try simp only [Act.put, List.setIfInBounds_toArray, List.set_cons_zero, List.set_cons_succ]))))
          refine Ord3.in_turn (fun u => u = .bool true) _ rfl hT9.out rfl (by decide) (by rfl) ?_ (Or.inl rfl) (by rfl) ?_ ?_
          · rfl
          · rintro v7 hC7 ⟨P7, hP7, hA7⟩
            cases hP7
            go_simp
            simp only [Ord3.Lands]
            refine (CA.out _ hC7.2).mono ?_
            rintro o v8 ⟨rfl, hb⟩
            exact ⟨_, rfl, rfl, ⟨hC7.1.over hb, hC7.2.below hb⟩, _, rfl, by first | rfl | trivial⟩
          rintro _ rfl
          (try simp only [Act.put, List.setIfInBounds_toArray, List.set_cons_zero, List.set_cons_succ])
          repeat (first
            | (focus (refine Ord3.in_value (v := ?_) hT9.out (by decide) ?_ (by rfl) ?_ ?_; rotate_left 2; (focus (intro w5 hS; have q0 := hS.1.rule 1 rfl; have q1 := hS.1.rule 2 rfl; go_simp <;> with_reducible rfl)); rotate_right; (focus rfl); (try simp only [Act.put, List.setIfInBounds_toArray, List.set_cons_zero, List.set_cons_succ])))
            | (focus (refine Ord3.in_off hT9.out (by decide) ?_ (by rfl) ?_; (focus rfl); (try simp only [Act.put, List.setIfInBounds_toArray, List.set_cons_zero, List.set_cons_succ]))))
          refine Ord3.in_value (v := .agg (encS S).toArray) hT9.out (by decide) ?_ (by rfl) (fun w5 hS => exec_load w5 29 _ rfl Z rfl (encS S) _ (hS.1.range 0 rfl) und29 rfl (size33 hS16)) ?_
          · rfl
          (try simp only [Act.put, List.setIfInBounds_toArray, List.set_cons_zero, List.set_cons_succ])
          repeat (first
            | (focus (refine Ord3.in_value (v := ?_) hT9.out (by decide) ?_ (by rfl) ?_ ?_; rotate_left 2; (focus (intro w5 hS; have q0 := hS.1.rule 1 rfl; have q1 := hS.1.rule 2 rfl; go_simp <;> with_reducible rfl)); rotate_right; (focus rfl); (try simp only [Act.put, List.setIfInBounds_toArray, List.set_cons_zero, List.set_cons_succ])))
            | (focus (refine Ord3.in_off hT9.out (by decide) ?_ (by rfl) ?_; (focus rfl); (try simp only [Act.put, List.setIfInBounds_toArray, List.set_cons_zero, List.set_cons_succ]))))
          refine Ord3.in_turn (fun u => u = .agg (encS S3).toArray) _ rfl hT9.out rfl (by decide) (by rfl) ?_ (Or.inr ⟨_, 8, [5], rfl, by kernel_rfl, by kernel_rfl, rfl⟩) (by rfl) ?_ ?_
          · rfl
          · rintro v7 hC7 ⟨P7, hP7, hA7⟩
            cases hP7
            go_simp
            simp only [Ord3.Lands]
            refine (CW.out _).mono ?_
            rintro o v8 ⟨rfl, hb⟩
            exact ⟨_, rfl, rfl, ⟨hC7.1.over hb, hC7.2.below hb⟩, _, rfl, by first | rfl | trivial⟩
          rintro _ rfl
          (try simp only [Act.put, List.setIfInBounds_toArray, List.set_cons_zero, List.set_cons_succ])
          repeat (first
            | (focus (refine Ord3.in_value (v := ?_) hT9.out (by decide) ?_ (by rfl) ?_ ?_; rotate_left 2; (focus (intro w5 hS; have q0 := hS.1.rule 1 rfl; have q1 := hS.1.rule 2 rfl; go_simp <;> with_reducible rfl)); rotate_right; (focus rfl); (try simp only [Act.put, List.setIfInBounds_toArray, List.set_cons_zero, List.set_cons_succ])))
            | (focus (refine Ord3.in_off hT9.out (by decide) ?_ (by rfl) ?_; (focus rfl); (try simp only [Act.put, List.setIfInBounds_toArray, List.set_cons_zero, List.set_cons_succ]))))
          refine Ord3.in_turn (fun u => ∃ A' c', u = .agg #[.slice A' M3.length c']) _ ⟨none, 0, rfl⟩ hT9.out rfl (by decide) (by rfl) ?_ (Or.inr ⟨_, 12, [], rfl, by kernel_rfl, by kernel_rfl, rfl⟩) (by rfl) ?_ ?_
          · rfl
          · rintro v7 hC7 ⟨P7, hP7, hA7⟩
            cases hP7
            go_simp
            simp only [Ord3.Lands]
            refine (CR.out _ hC7.2).mono ?_
            rintro o v8 ⟨A', c', rfl, hE8⟩
            obtain ⟨e1, e2, e3, e4⟩ := of_row hE8
            exact ⟨_, rfl, ⟨_, _, rfl⟩, ⟨hC7.1.over e4, hC7.2.below e4⟩, _, rfl, A', c', rfl, e1, e3⟩
          rintro _ ⟨A8, c8, rfl⟩
          (try simp only [Act.put, List.setIfInBounds_toArray, List.set_cons_zero, List.set_cons_succ])
          refine Ord3.in_turn (fun u => u = .bool true) _ rfl hT9.out rfl (by decide) (by rfl) ?_ (Or.inr ⟨_, 16, [], rfl, by kernel_rfl, by kernel_rfl, rfl⟩) (by rfl) ?_ ?_
          · rfl
          · rintro v7 hC7 ⟨P7, hP7, hA7⟩
            cases hP7
            obtain ⟨A', c', he, e1, e3⟩ := hA7
            cases he
            go_simp
            simp only [Ord3.Lands]
            refine (CB.out _ _ _ e1 e3).mono ?_
            rintro o v8 ⟨rfl, hb⟩
            exact ⟨_, rfl, rfl, ⟨hC7.1.over hb, hC7.2.below hb⟩, _, rfl, by first | rfl | trivial⟩
          rintro _ rfl
          (try simp only [Act.put, List.setIfInBounds_toArray, List.set_cons_zero, List.set_cons_succ])
          repeat (first
            | (focus (refine Ord3.in_value (v := ?_) hT9.out (by decide) ?_ (by rfl) ?_ ?_; rotate_left 2; (focus (intro w5 hS; skip; go_simp <;> with_reducible rfl)); rotate_right; (focus rfl); (try simp only [Act.put, List.setIfInBounds_toArray, List.set_cons_zero, List.set_cons_succ])))
            | (focus (refine Ord3.in_off hT9.out (by decide) ?_ (by rfl) ?_; (focus rfl); (try simp only [Act.put, List.setIfInBounds_toArray, List.set_cons_zero, List.set_cons_succ]))))
          refine Ord3.in_nil rfl ?_
          rintro w40 hC6 -
          clear hT9 hF hR
          obtain ⟨hF, hR⟩ := hC6
          
          have hsu := hup
          have CT := Lib.hid (fun w' => with_s S hup hS16 k v w')
          have CP : Hid (∀ w', RowX encP 2 w' A1 M → Calls Try.prog 15 #[.agg #[.slice A1 M.length c1], .agg #[.int .u64 k, .int .u64 v]] w' fun e w'' => ∃ A' cap', e = .returned (.agg #[.slice A' (putM M k v).length cap']) ∧ Env w' [rowR A' cap' (putM M k v)] w'') := Lib.hid fun w' h => with_r (by rw [HN.out]; omega) h k v
          have hWL := with_len hup hS16 k v
          have hPI := put_ins hup hp.symm k v
          have hIU := ins_up hup k v
          have hWle := (withK_two S k v hS16).2
          generalize putM M k v = M4 at *
          generalize insK S k v = S4 at *
          generalize withK S k v = W4 at *
          obtain ⟨W5, er5⟩ := W4
          simp only at hWle hWL CT
          go_upto_region 20 with fail
          apply wp_region_lit
          refine wpList_load_mid rfl 29 _ rfl Z 0 rfl (encS S) _ (hF.range 0 rfl) und29 rfl (size33 hS16) ?_
          have rr61 := hF.rule 2 rfl
          go_wp2_with fail
          refine (CT.out _).mono ?_
          rintro o w62 ⟨rfl, hb⟩
          replace hF := hF.over hb
          replace hR := hR.below hb
          clear hb
          clear rr61
          rename_i aK
          refine aK _ _ ?_
          clear aK
          refine Go.Great.wpList_readTo rfl (some 97) rfl _ rfl ?_
          (try simp only [Act.put, Act.eval, List.setIfInBounds_toArray, List.set_cons_zero, List.set_cons_succ])
          refine Go.Great.wpList_readTo rfl (some 101) rfl (.agg (encS W5).toArray) (by go_simp) ?_
          (try simp only [Act.put, Act.eval, List.setIfInBounds_toArray, List.set_cons_zero, List.set_cons_succ])
          refine Go.Great.wpList_readTo rfl (some 102) rfl (.int .i64 er5) (by go_simp) ?_
          (try simp only [Act.put, Act.eval, List.setIfInBounds_toArray, List.set_cons_zero, List.set_cons_succ])
          have hsz : szOf w62 = w62.heap.size := rfl
          have hBq := (Below.refl w62.heap.size w62).alloc (Nat.le_refl _) (.cells (encS []).toArray 29)
          refine Go.Great.wpList_allocTo rfl (some 12) rfl (.pointer (some ⟨w62.heap.size, 0, none⟩)) (.cells (encS []).toArray 29) (by kernel_rfl) ?_
          have hz64 := hF.lt 0 rfl
          have hz65 := hF.lt 1 rfl
          have hz66 := hF.lt 2 rfl
          have hz67 : w.heap.size ≤ w62.heap.size := hF.below.size
          replace hF := hF.push w62.heap.size rfl (encS []) 29
          generalize World.alloc w62 _ = w63 at *
          generalize w62.heap.size = Z12 at *
          (try simp only [Act.put, Act.eval, List.setIfInBounds_toArray, List.set_cons_zero, List.set_cons_succ])
          refine wpList_store_mid rfl 29 _ _ rfl Z12 0 (encS W5).toArray rfl rfl (hF.there 0 rfl (by omega) (by rw [encS_length (by simp), List.size_toArray, encS_length hWle])) (size33a hWle) (one33 _) ?_
          replace hF := hF.whole (us := encS W5) (by omega) (by simp <;> omega) (by rw [encS_length (by simp), encS_length hWle])
          have hBq2 := below_sets (Nat.le_refl Z12) (encS W5) 0 w63 hBq
          generalize World.setCells w63 _ _ _ = w68 at *
          replace hR := hR.below2 hBq2 (Nat.le_of_eq hsz)
          clear hBq hBq2 hsz
          have hR9 := hR
          have rr69 := hF.rule 2 rfl
          have rr70 := hF.rule 3 rfl
          go_wp2_with fail
          refine (CP.out _ hR).mono ?_
          rintro o w70 ⟨A9, c9, rfl, hE9⟩
          obtain ⟨e1, -, e3, e4⟩ := of_row hE9
          replace hF := hF.over e4
          clear hR CP CT hE9 e4
          clear rr69 rr70
          have hz70 := hF.below.size
          have hF7 := hF.push w70.heap.size rfl [.slice A9 M4.length c9] 32
          have e1' := e1.below ((Below.refl _ w70).alloc (Nat.le_refl _) (.cells [Value.slice A9 M4.length c9].toArray 32))
          have HML := Lib.hid hPI.length_eq
          go_upto_region 22 with fail
          clear hF e1
          generalize World.alloc w70 _ = w71 at *
          generalize w70.heap.size = Z14 at *
          have r14 := hF7.rule 0 rfl
          have hF := hF7
          clear hF7
          have e1 := e1'
          clear e1'
          rcases hWL with ⟨hgt, he⟩ | ⟨hle, he⟩
          case' inl =>
            cases he
            have hgt' : (16 : Int) < (M4.length : Int) := by rw [HML.out]; omega
            go_upto_region 23 with fail
            apply wp_region_lit
            refine wpList_on ?_ (by rfl) ?_ ?_
            rotate_left
            focus (go_simp <;> with_reducible rfl)
            (try simp only [Act.put, Act.eval, List.setIfInBounds_toArray, List.set_cons_zero, List.set_cons_succ])
            refine wpList_on ?_ (by rfl) ?_ ?_
            rotate_left
            focus (go_simp <;> with_reducible rfl)
            (try simp only [Act.put, Act.eval, List.setIfInBounds_toArray, List.set_cons_zero, List.set_cons_succ])
            refine wpList_on ?_ (by rfl) ?_ ?_
            rotate_left
            focus (go_simp <;> with_reducible rfl)
            (try simp only [Act.put, Act.eval, List.setIfInBounds_toArray, List.set_cons_zero, List.set_cons_succ])
            refine wpList_on (.agg (encS []).toArray) (by rfl) (exec_load _ 29 _ rfl Z12 rfl (encS []) _ (hF.range 1 rfl) und29 rfl (size33 (by simp))) ?_
            (try simp only [Act.put, Act.eval, List.setIfInBounds_toArray, List.set_cons_zero, List.set_cons_succ])
            refine wpList_on (.agg (encS []).toArray) (by rfl) (by kernel_rfl) ?_
            (try simp only [Act.put, Act.eval, List.setIfInBounds_toArray, List.set_cons_zero, List.set_cons_succ])
            refine wpList_on (.bool (decide ([] = []))) (by rfl) (exec_eql _ _ _ rfl (a := []) (b := []) SOk0 SOk0 rfl rfl) ?_
            (try simp only [Act.put, Act.eval, List.setIfInBounds_toArray, List.set_cons_zero, List.set_cons_succ])
            refine wpList_on ?_ (by rfl) ?_ ?_
            rotate_left
            focus (go_simp <;> with_reducible rfl)
            (try simp only [Act.put, Act.eval, List.setIfInBounds_toArray, List.set_cons_zero, List.set_cons_succ])
            refine wpList_on ?_ (by rfl) ?_ ?_
            rotate_left
            focus (go_simp <;> with_reducible rfl)
            (try simp only [Act.put, Act.eval, List.setIfInBounds_toArray, List.set_cons_zero, List.set_cons_succ])
            apply wpList_nil
            go_wp2_with fail
            go_ret
            exact ⟨rfl, hF.below⟩
          case' inr =>
            cases he
            have hgt' : ¬ ((16 : Int) < (M4.length : Int)) := by rw [HML.out]; omega
            go_upto_region 24 with fail
            apply wp_region_lit
            refine wpList_on ?_ (by rfl) ?_ ?_
            rotate_left
            focus (go_simp <;> with_reducible rfl)
            (try simp only [Act.put, Act.eval, List.setIfInBounds_toArray, List.set_cons_zero, List.set_cons_succ])
            refine wpList_on ?_ (by rfl) ?_ ?_
            rotate_left
            focus (go_simp <;> with_reducible rfl)
            (try simp only [Act.put, Act.eval, List.setIfInBounds_toArray, List.set_cons_zero, List.set_cons_succ])
            refine wpList_on ?_ (by rfl) ?_ ?_
            rotate_left
            focus (go_simp <;> with_reducible rfl)
            (try simp only [Act.put, Act.eval, List.setIfInBounds_toArray, List.set_cons_zero, List.set_cons_succ])
            refine wpList_on (.agg (encS S4).toArray) (by rfl) (exec_load _ 29 _ rfl Z12 rfl (encS S4) _ (hF.range 1 rfl) und29 rfl (size33 hle)) ?_
            (try simp only [Act.put, Act.eval, List.setIfInBounds_toArray, List.set_cons_zero, List.set_cons_succ])
            refine wpList_on ?_ (by rfl) ?_ ?_
            rotate_left
            focus (go_simp <;> with_reducible rfl)
            (try simp only [Act.put, Act.eval, List.setIfInBounds_toArray, List.set_cons_zero, List.set_cons_succ])
            refine wpList_onCall (.bool true) 13 #[.agg (encS S4).toArray, .agg #[.slice A9 M4.length c9]] (by rfl) (by go_simp) (alike_t hIU hle hPI rfl e1 e3) fun w90 hb => ?_
            replace hF := hF.over hb
            clear hb
            (try simp only [Act.put, Act.eval, List.setIfInBounds_toArray, List.set_cons_zero, List.set_cons_succ])
            refine wpList_on ?_ (by rfl) ?_ ?_
            rotate_left
            focus (go_simp <;> with_reducible rfl)
            (try simp only [Act.put, Act.eval, List.setIfInBounds_toArray, List.set_cons_zero, List.set_cons_succ])
            refine wpList_on ?_ (by rfl) ?_ ?_
            rotate_left
            focus (go_simp <;> with_reducible rfl)
            (try simp only [Act.put, Act.eval, List.setIfInBounds_toArray, List.set_cons_zero, List.set_cons_succ])
            apply wpList_nil
            go_wp2_with fail
            go_ret
            exact ⟨rfl, hF.below⟩
  · have b40 : (40 : Int) < (l.length : Int) := by omega
    go_wp2_with fail
    go_ret
    exact ⟨rfl, hF.below⟩
end Go.Proofs.Ytdeohigggjfjjaa
