/- What is proved on the way to the statement, part 2 of 4: contracts of the functions, among other things in memory. -/
import Derived.Test.YtdeohigggjfjjaaE1
import Derived.DeepKeys

/- What an op comes to that brings a pair in. -/
namespace Go.Proofs.Ytdeohigggjfjjaa
open Go.RowKit
set_option maxRecDepth 100000

theorem withK_two (l : List (Int × Int)) (k v : Int) (hn : l.length ≤ 16) : ((withK l k v).2 = 0 ∨ (withK l k v).2 = 6) ∧ (withK l k v).1.length ≤ 16 := by
  unfold withK
  cases hh : hasK l k with
  | true => simp only [Bool.true_or, if_true]; refine ⟨by simp, ?_⟩; unfold insK; rw [hh]; simpa using hn
  | false =>
    by_cases h : l.length < 16
    · have := cnt_le l k
      simp only [h, decide_true, Bool.or_true, if_true]; refine ⟨by simp, ?_⟩; unfold insK; rw [hh]; simp; omega
    · simp [h]
/-- An answer's cells. -/
def encA (e : Int) (d : Bool) (v : Int) : List Value := [.int .i64 e, .bool d, .int .u64 v]
/-- A state, an answer and an error. -/
structure Out where
  l : List (Int × Int)
  d : Bool
  v : Int
  e : Int
theorem encA_one (e : Int) (d : Bool) (v : Int) : ∀ x ∈ encA e d v, x.oneCell' = true := by intro x hx; simp [encA] at hx; rcases hx with rfl | rfl | rfl <;> rfl
theorem und35 : Try.prog.underlying 35 = some (.struct (match Try.prog.underlying 35 with | some (.struct x) => x | _ => default)) := by kernel_rfl
theorem size35 : (Try.prog.info? 35).map (·.size) = some 3 := by kernel_rfl
def bringK (l : List (Int × Int)) (k x : Int) (d : Bool) (v : Int) : Out := if (withK l k x).2 = 0 then ⟨(withK l k x).1, d, v, 0⟩ else ⟨[], false, 0, 6⟩

theorem bring_s (l : List (Int × Int)) (hl : l.Pairwise fun a b => a.1 < b.1) (hn : l.length ≤ 16) (k x : Int) (d : Bool) (v : Int) (w : World) : Calls Try.prog 21 #[.agg (encS l).toArray, .agg #[.int .u64 k, .int .u64 x], .agg #[.int .i64 0, .bool d, .int .u64 v]] w fun e w' => e = .returned (.tuple #[.agg (encS (bringK l k x d v).l).toArray, .agg (encA 0 (bringK l k x d v).d (bringK l k x d v).v).toArray, .int .i64 (bringK l k x d v).e]) ∧ Below w.heap.size w w' := by
  have hF := (Fr.start w).push w.heap.size rfl (encS l) 29
  replace hF := hF.push (w.heap.size + 1) (by simp) [.int .u64 k, .int .u64 x] 26
  replace hF := hF.push (w.heap.size + 2) (by simp) [.int .i64 0, .bool d, .int .u64 v] 35
  replace hF := hF.push (w.heap.size + 3) (by simp) (encS []) 29
  replace hF := hF.push (w.heap.size + 4) (by simp) (encA 0 false 0) 35
  have C1 := Lib.hid (with_s l hl hn k x)
  have hE : ∃ L er, withK l k x = (L, er) ∧ (er = 0 ∨ er = 6) ∧ L.length ≤ 16 := ⟨_, _, rfl, (withK_two l k x hn).1, (withK_two l k x hn).2⟩
  obtain ⟨L, er, hE, her, hL⟩ := hE
  rw [hE] at C1
  generalize hWW : bringK l k x d v = W
  have HW : Hid (bringK l k x d v = W) := Lib.hid hWW
  clear hWW
  go_enter Try.func21, Try.ntmps21
  go_upto_region 1 with fail
  have r3 := hF.rule 3 rfl
  apply wp_region_lit
  refine wpList_load_mid rfl 29 _ rfl w.heap.size 0 rfl (encS l) _ (hF.range 4 rfl) und29 rfl (size33 hn) ?_
  go_wp2_with fail
  refine (C1.out _).mono ?_
  rintro e w1 ⟨rfl, hb⟩
  replace hF := hF.over hb
  clear hb r3
  rename_i aK
  refine aK _ _ ?_
  clear aK
  refine Go.Great.wpList_readTo rfl (some 11) rfl _ rfl ?_
  refine Go.Great.wpList_readTo rfl (some 15) rfl (.agg (encS L).toArray) (by go_simp) ?_
  refine Go.Great.wpList_readTo rfl (some 16) rfl (.int .i64 er) (by go_simp) ?_
  refine Go.Great.wpList_allocTo rfl (some 9) rfl (.pointer (some ⟨w1.heap.size, 0, none⟩)) (.cells (encS []).toArray 29) (by kernel_rfl) ?_
  have hw1 : w.heap.size + 5 ≤ w1.heap.size := by have := hF.lt 0 rfl; omega
  replace hF := hF.push w1.heap.size rfl (encS []) 29
  generalize hww : World.alloc w1 _ = w2 at *
  generalize w1.heap.size = Z at *
  clear hww
  refine wpList_store_mid rfl 29 _ _ rfl Z 0 (encS L).toArray rfl rfl (hF.there 0 rfl (by omega) (by rw [encS_length (by simp), List.size_toArray, encS_length hL])) (size33a hL) (one33 _) ?_
  replace hF := hF.whole (us := encS L) (by omega) (by simp; omega) (by rw [encS_length (by simp), encS_length hL])
  generalize World.setCells w2 _ _ _ = w3 at *
  rcases her with rfl | rfl
  · have e9 : bringK l k x d v = ⟨L, d, v, 0⟩ := by unfold bringK; rw [hE]; rfl
    rw [HW.out] at e9
    subst e9
    go_upto_region 4 with fail
    have hG := hF.sub (bl' := [(w.heap.size + 3, encS []), (w.heap.size + 4, encA 0 false 0)]) (by simp)
    have hK := hF.sub (bl' := [(Z, encS L), (w.heap.size + 2, encA 0 d v)]) (by simp [encA])
    clear hF
    have STEP1 : Hid (∀ w5, Fr w [(w.heap.size + 3, encS []), (w.heap.size + 4, encA 0 false 0)] w5 → Fr w [(w.heap.size + 3, encS L), (w.heap.size + 4, encA 0 false 0)] (w5.setCells (w.heap.size + 3) 0 (encS L))) := Lib.hid fun w5 h => h.whole (by omega) (by simp) (by rw [encS_length (by simp), encS_length hL])
    have STEP2 : Hid (∀ w5, Fr w [(w.heap.size + 3, encS L), (w.heap.size + 4, encA 0 false 0)] w5 → Fr w [(w.heap.size + 3, encS L), (w.heap.size + 4, encA 0 d v)] (w5.setCells (w.heap.size + 4) 0 (encA 0 d v))) := Lib.hid fun w5 h => by
      have h2 := (h.sub (bl' := [(w.heap.size + 4, encA 0 false 0), (w.heap.size + 3, encS L)]) (by simp)).whole (us := encA 0 d v) (by omega) (by simp) rfl
      exact h2.sub (by simp)
    have STEP3 : Hid (∀ (w5 : World) (n : Nat) (us : List Value), w.heap.size + 3 ≤ n → n ≤ w.heap.size + 4 → Fr w [(Z, encS L), (w.heap.size + 2, encA 0 d v)] w5 → Fr w [(Z, encS L), (w.heap.size + 2, encA 0 d v)] (w5.setCells n 0 us)) := Lib.hid fun w5 n us h1 h2 h => h.apart (by omega) (by simp; omega) us 0
    refine Ord.wp_chain [2, 3] (fun w' => Fr w [(Z, encS L), (w.heap.size + 2, encA 0 d v)] w') (fun j w' => Fr w [(w.heap.size + 3, if j = 0 then encS [] else encS L), (w.heap.size + 4, if j < 2 then encA 0 false 0 else encA 0 d v)] w') (by kernel_rfl) (by kernel_rfl) (by kernel_rfl) hK.drew (by rw [if_pos rfl, if_pos (by omega)]; exact hG.drew) (fun hT => ?_)
    have hT9 := Lib.hid hT
    clear hT
    refine Ord.ch_value (v := .agg (encS L).toArray) hT9.out (by decide) (by rfl) (fun w5 hS => exec_load w5 29 _ rfl Z rfl (encS L) _ (hS.range 0 rfl) und29 rfl (size33 hL)) ?_
    refine Ord.ch_value (v := .agg (encA 0 d v).toArray) hT9.out (by decide) (by rfl) (fun w5 hS => exec_load w5 35 _ rfl (w.heap.size + 2) rfl (encA 0 d v) _ (hS.range 1 rfl) und35 rfl size35) ?_
    refine Ord.ch_turn (v := undef) 0 hT9.out rfl (by decide) (Or.inl rfl) (by rfl) ?_ ?_
    · rintro w5 hC5 hA5
      rw [if_pos rfl, if_pos (by omega)] at hA5
      rw [exec_store w5 29 _ _ rfl (w.heap.size + 3) (encS L) rfl rfl (hA5.there 0 rfl (by omega) (by rw [encS_length (by simp), encS_length hL])) (size33 hL) (encS_one L)]
      exact ⟨rfl, STEP3.out _ _ _ (by omega) (by omega) hC5, STEP1.out _ hA5⟩
    refine Ord.ch_turn (v := undef) 1 hT9.out rfl (by decide) (Or.inr ⟨2, rfl, by kernel_rfl⟩) (by rfl) ?_ ?_
    · rintro w5 hC5 hA5
      rw [exec_store w5 35 _ _ rfl (w.heap.size + 4) (encA 0 d v) rfl rfl (hA5.there 1 rfl (by omega) rfl) size35 (encA_one _ _ _)]
      exact ⟨rfl, STEP3.out _ _ _ (by omega) (by omega) hC5, STEP2.out _ hA5⟩
    repeat (first
      | (refine Ord.ch_value (v := ?_) hT9.out (by decide) (by rfl) ?_ ?_; rotate_left; (focus (intro w5 hS; skip; go_simp <;> with_reducible rfl)); (try simp only [Act.put, List.setIfInBounds_toArray, List.set_cons_zero, List.set_cons_succ]))
      | (refine Ord.ch_off hT9.out (by decide) (by rfl) ?_; (try simp only [Act.put, List.setIfInBounds_toArray, List.set_cons_zero, List.set_cons_succ])))
    refine Ord.InText.nil fun w5 hS => ?_
    clear hT9
    obtain ⟨hC9, hG9⟩ := Ord.chain_end hS
    clear hS
    have hG9' : Fr w [(w.heap.size + 3, encS L), (w.heap.size + 4, encA 0 d v)] w5 := hG9
    go_wp2_with fail
    exact bodyPost_ret (res_cct rfl _ _ (w.heap.size + 3) (w.heap.size + 4) rfl rfl _ _ _ _ (hG9'.range 0 rfl) (hG9'.range 1 rfl) und29 rfl (size33 hL) und35 rfl size35) rfl ⟨rfl, hG9'.below⟩
  · have e9 : bringK l k x d v = ⟨[], false, 0, 6⟩ := by unfold bringK; rw [hE]; rfl
    rw [HW.out] at e9
    subst e9
    go_upto_region 3 with fail
    apply wp_region_lit
    refine wpList_buildTo rfl 29 _ rfl (some 19) rfl (encS []).toArray (by kernel_rfl) ?_
    refine wpList_buildTo rfl 35 _ rfl (some 20) rfl (encA 0 false 0).toArray (by kernel_rfl) ?_
    refine Go.Great.wpList_readTo rfl (some 21) rfl _ rfl ?_
    have hG := hF.sub (bl' := [(w.heap.size + 3, encS []), (w.heap.size + 4, encA 0 false 0)]) (by simp)
    refine wpList_store_mid rfl 29 _ _ rfl (w.heap.size + 3) 0 (encS []).toArray rfl rfl (hG.there 0 rfl (by omega) (by rw [List.size_toArray])) (size33a (by simp)) (one33 _) ?_
    replace hG := hG.whole (us := encS []) (by omega) (by simp) rfl
    generalize World.setCells w3 _ _ _ = w4 at *
    replace hG := hG.sub (bl' := [(w.heap.size + 4, encA 0 false 0), (w.heap.size + 3, encS [])]) (by simp)
    refine wpList_store_mid rfl 35 _ _ rfl (w.heap.size + 4) 0 (encA 0 false 0).toArray rfl rfl (hG.there 0 rfl (by omega) rfl) size35 (all_oneCell_toArray (encA_one _ _ _)) ?_
    replace hG := hG.whole (us := encA 0 false 0) (by omega) (by simp) rfl
    generalize World.setCells w4 _ _ _ = w5 at *
    go_wp2_with fail
    exact bodyPost_ret (res_cct rfl _ _ (w.heap.size + 3) (w.heap.size + 4) rfl rfl _ _ _ _ (hG.range 1 rfl) (hG.range 0 rfl) und29 rfl (size33 (by simp)) und35 rfl size35) rfl ⟨rfl, hG.below⟩
end Go.Proofs.Ytdeohigggjfjjaa

/- A state without a key's pair. -/
namespace Go.Proofs.Ytdeohigggjfjjaa
open Go.RowKit
set_option maxRecDepth 100000

theorem slice_lh' (N i n : Nat) (hi : i ≤ n) (hn : n ≤ 16) (w : World) : (Instr.sliceAt 27 (.pointer (some ⟨N, 0, none⟩)) (some (.int .i64 i)) (some (.int .i64 n)) none).run Try.prog w = .ok (.slice (some ⟨N, if i = 16 then 0 else i * 2, none⟩) (n - i) (16 - i)) w := by
  by_cases e : i = 16
  · subst e
    rw [run_sliceAt_array_lh w _ _ und27 .i64 .i64 (16 : Nat) n (by omega) (by omega) (by rw [len27]; omega), size27]
    simp [slicedAt, len27, Result.andThen, Addr.add]
  · rw [if_neg e]; exact slice_lh N i n hi hn (by omega) w
/-- What a state comes to, with a pair taken out. -/
theorem encS_del {l : List (Int × Int)} {i : Nat} (hi : i < l.length) (hn : l.length ≤ 16) (p q : Value) :
    (((flatP (l.take i) ++ flatP (l.drop (i + 1)) ++ ([p, q] ++ zeros (32 - 2 * l.length))) ++ [Value.int .i64 ((l.length : Int) - 1)]).set ((l.length - 1) * 2) (.int .u64 0)).set ((l.length - 1) * 2 + 1) (.int .u64 0) = encS (l.take i ++ l.drop (i + 1)) := by
  have e := set_two (flatP (l.take i) ++ flatP (l.drop (i + 1))) (zeros (32 - 2 * l.length) ++ [Value.int .i64 ((l.length : Int) - 1)]) p q (.int .u64 0) (.int .u64 0) ((l.length - 1) * 2) (by simp; omega)
  have e2 : (l.take i ++ l.drop (i + 1)).length = l.length - 1 := by simp; omega
  have e3 : 32 - 2 * (l.length - 1) = 2 + (32 - 2 * l.length) := by omega
  unfold encS
  rw [e2, flatP_append, e3, zeros_add, show ((l.length - 1 : Nat) : Int) = (l.length : Int) - 1 by omega, show zeros 2 = [.int .u64 0, .int .u64 0] from rfl]
  simpa using e

theorem without_s (l : List (Int × Int)) (hl : l.Pairwise fun a b => a.1 < b.1) (hn : l.length ≤ 16) (k : Int) (w : World) : Calls Try.prog 18 #[.agg (encS l).toArray, .int .u64 k] w fun e w' => e = .returned (.agg (encS (delK l k)).toArray) ∧ Below w.heap.size w w' := by
  have hF := (Fr.start w).push w.heap.size rfl (encS l) 29
  have C1 : Hid (∀ w' bl, (w.heap.size, encS l) ∈ bl → Fr w bl w' → Calls Try.prog 22 #[.pointer (some ⟨w.heap.size, 0, none⟩), .int .u64 k] w' fun e w'' => e = .returned (.tuple #[.int .i64 (cnt l k), .bool (hasK l k)]) ∧ Below w'.heap.size w' w'') := Lib.hid fun w' bl hm h => find_u l w.heap.size k w' hl hn (h.2 _ hm).1 (h.2 _ hm).2.1
  generalize hWW : delK l k = W
  have HW := Lib.hid hWW
  clear hWW
  go_enter Try.func18, Try.ntmps18
  go_wp2_with fail
  replace hF := hF.push (w.heap.size + 1) (by simp) (encS []) 29
  refine (C1.out _ _ (by simp) hF).mono ?_
  rintro e w1 ⟨rfl, hb⟩
  replace hF := hF.over hb
  clear hb
  cases hh : hasK l k with
  | false =>
    have e9 : delK l k = l := by unfold delK; simp [hh]
    rw [HW.out] at e9
    subst e9
    go_upto_region 3 with fail
    apply wp_region_lit
    refine wpList_load_mid rfl 29 _ rfl w.heap.size 0 rfl (encS W) _ (hF.range 1 rfl) und29 rfl (size33 hn) ?_
    refine wpList_store_mid rfl 29 _ _ rfl (w.heap.size + 1) 0 (encS W).toArray rfl rfl (hF.there 0 rfl (by omega) (by rw [encS_length (by simp), List.size_toArray, encS_length hn])) (size33a hn) (one33 _) ?_
    have hG := hF.whole (us := encS W) (by omega) (by simp) (by rw [encS_length (by simp), encS_length hn])
    generalize World.setCells w1 _ _ _ = w3 at *
    go_wp2_with fail
    exact bodyPost_ret (res_c rfl _ _ (w.heap.size + 1) rfl _ _ (hG.range 0 rfl) und29 rfl (size33 hn)) rfl ⟨rfl, hG.below⟩
  | true =>
    have hc := hasK_lt hh
    have e9 : delK l k = l.take (cnt l k) ++ l.drop (cnt l k + 1) := by unfold delK; rw [hh]; rfl
    rw [HW.out] at e9
    subst e9
    obtain ⟨B, p, q, eT', hB⟩ := encS_out hc hn
    have eT := Lib.hid eT'
    clear eT'
    have hG := hF.sub (bl' := [(w.heap.size, encS l), (w.heap.size + 1, encS [])]) (by simp)
    have SL1 := Lib.hid (slice_l w.heap.size (cnt l k) (by omega))
    have SL2 : Hid (∀ w5, (Instr.sliceAt 27 (.pointer (some ⟨w.heap.size, 0, none⟩)) (some (.int .i64 ((cnt l k : Int) + 1))) (some (.int .i64 l.length)) none).run Try.prog w5 = .ok (.slice (some ⟨w.heap.size, if cnt l k = 15 then 0 else (cnt l k + 1) * 2, none⟩) (l.length - (cnt l k + 1)) (15 - cnt l k)) w5) := Lib.hid fun w5 => by
      have := slice_lh' w.heap.size (cnt l k + 1) l.length (by omega) hn w5
      rw [show 16 - (cnt l k + 1) = 15 - cnt l k by omega] at this
      simpa using this
    have CP : Hid (∀ w5, Fr w [(w.heap.size, encS l), (w.heap.size + 1, encS [])] w5 → ∃ w6, (∀ ty, (Builtin.copy_ #[46, 46] ty #[.slice (some ⟨w.heap.size, cnt l k * 2, none⟩) (16 - cnt l k) (16 - cnt l k), .slice (some ⟨w.heap.size, if cnt l k = 15 then 0 else (cnt l k + 1) * 2, none⟩) (l.length - (cnt l k + 1)) (15 - cnt l k)]).run Try.prog w5 = .ok (goInt (Nat.min (l.length - (cnt l k + 1)) (16 - cnt l k))) w6) ∧ Fr w [(w.heap.size, flatP (l.take (cnt l k)) ++ flatP (l.drop (cnt l k + 1)) ++ ([p, q] ++ zeros (32 - 2 * l.length) ++ [.int .i64 l.length])), (w.heap.size + 1, encS [])] w6) := Lib.hid fun w5 h => by
      have hL : (flatP (l.drop (cnt l k + 1))).length = 2 * (l.length - cnt l k - 1) := by simp; omega
      have hA : (flatP (l.take (cnt l k))).length = cnt l k * 2 := by simp; omega
      refine ⟨w5.setCells w.heap.size (flatP (l.take (cnt l k))).length (flatP (l.drop (cnt l k + 1))), fun ty => ?_, Fr.puts (Nat.le_refl _) (by simp) _ _ B _ w5 (by rw [← eT.out]; exact h) (by rw [hB, hL])⟩
      rw [hA]
      have hmin : Nat.min (l.length - (cnt l k + 1)) (16 - cnt l k) = l.length - (cnt l k + 1) := Nat.min_eq_left (by omega)
      refine run_copy2 w5 _ _ ty 26 w.heap.size _ _ _ ⟨w.heap.size, if cnt l k = 15 then 0 else (cnt l k + 1) * 2, none⟩ _ _ (flatP (l.drop (cnt l k + 1))) (by kernel_rfl) (by kernel_rfl) (by rw [hL, hmin]; omega) (fun j v hv => ?_) (fun j hjj => ?_) (fun j hjj => ?_) (flatP_one _)
      · have hj : j < (flatP (l.drop (cnt l k + 1))).length := (List.getElem?_eq_some_iff.1 hv).1
        rw [hL] at hj
        rw [if_neg (by omega), Addr.add_mid, h.rule 0 rfl]
        exact encS_drop (by omega) hv
      · rw [h.rule 0 rfl, List.getElem?_eq_getElem (by rw [encS_length hn]; omega)]; rfl
      · exact h.thaw 0 rfl (Nat.le_refl _) _ (by rw [encS_length hn]; omega)
    generalize (if cnt l k = 15 then 0 else (cnt l k + 1) * 2) = o5 at SL2 CP
    have r2 := (hG.rule 0 rfl 32).trans (encS_n hn)
    go_upto_region 4 with fail
    have W1 : Hid (IntKind.i64.wrap ((cnt l k : Int) + 1) = (cnt l k : Int) + 1) := Lib.hid (by rw [IntKind.wrap_i64]; omega)
    refine Ord.wp_chain [9] (fun w' => w'.cell? ⟨w.heap.size, 32, none⟩ = some (.int .i64 l.length)) (fun j w' => Fr w [(w.heap.size, if j = 0 then encS l else flatP (l.take (cnt l k)) ++ flatP (l.drop (cnt l k + 1)) ++ ([p, q] ++ zeros (32 - 2 * l.length) ++ [.int .i64 l.length])), (w.heap.size + 1, encS [])] w') (by kernel_rfl) (by kernel_rfl) (by kernel_rfl) r2 (by rw [if_pos rfl]; exact hG.drew) (fun hT => ?_)
    have hT9 := Lib.hid hT
    clear hT
    repeat (first
      | (refine Ord.ch_value (v := ?_) hT9.out (by decide) (by rfl) ?_ ?_; rotate_left; (focus (intro w5 hS; have r := hS; have w1 := W1.out; have s1 := SL1.out; have s2 := SL2.out; go_simp <;> with_reducible rfl)); (try simp only [Act.put, List.setIfInBounds_toArray, List.set_cons_zero, List.set_cons_succ]))
      | (refine Ord.ch_off hT9.out (by decide) (by rfl) ?_; (try simp only [Act.put, List.setIfInBounds_toArray, List.set_cons_zero, List.set_cons_succ])))
    refine Ord.ch_turn (v := goInt (Nat.min (l.length - (cnt l k + 1)) (16 - cnt l k))) 0 hT9.out rfl (by decide) (Or.inl rfl) (by rfl) ?_ ?_
    · rintro w5 hC5 hA5
      rw [if_pos rfl] at hA5
      obtain ⟨w6, hr, hF6⟩ := CP.out w5 hA5
      go_simp
      have h32 := (hF6.rule 0 rfl 32).trans (by
        have := last32 (flatP (l.take (cnt l k)) ++ flatP (l.drop (cnt l k + 1)) ++ [p, q]) (32 - 2 * l.length) (.int .i64 l.length) (by simp; omega)
        simpa using this)
      refine ⟨by first | rfl | simp, h32, by simpa using hF6⟩
    refine Ord.InText.nil fun w5 hS => ?_
    clear hT9
    obtain ⟨hC9, hG9⟩ := Ord.chain_end hS
    clear hS
    have eH : (if [9].length = 0 then encS l else flatP (l.take (cnt l k)) ++ flatP (l.drop (cnt l k + 1)) ++ ([p, q] ++ zeros (32 - 2 * l.length) ++ [.int .i64 l.length])) = (flatP (l.take (cnt l k)) ++ flatP (l.drop (cnt l k + 1)) ++ ([p, q] ++ zeros (32 - 2 * l.length))) ++ [.int .i64 l.length] := by rw [if_neg (by decide)]; simp
    rw [eH] at hG9
    clear eH hC9 hG
    have hP : (flatP (l.take (cnt l k)) ++ flatP (l.drop (cnt l k + 1)) ++ ([p, q] ++ zeros (32 - 2 * l.length))).length = 32 := by simp [zeros]; omega
    generalize hPP : flatP (l.take (cnt l k)) ++ flatP (l.drop (cnt l k + 1)) ++ ([p, q] ++ zeros (32 - 2 * l.length)) = PP at *
    have HPP := Lib.hid hPP
    clear hPP
    have c32 : w5.cell? ⟨w.heap.size, 32, none⟩ = some (.int .i64 l.length) := by rw [hG9.rule 0 rfl, List.getElem?_append_right (by omega), hP]; rfl
    have f32 : w5.frozen? ⟨w.heap.size, 32, none⟩ = false := hG9.thaw 0 rfl (Nat.le_refl _) 32 (by simp [hP])
    go_upto_region 6 with fail
    have hG := hG9.put (Nat.le_refl _) (by simp) 32 (by simp [hP]) (.int .i64 ((l.length : Int) - 1))
    have e10 : (PP ++ [Value.int .i64 l.length]).set 32 (.int .i64 ((l.length : Int) - 1)) = PP ++ [.int .i64 ((l.length : Int) - 1)] := by rw [← hP]; simp
    rw [e10] at hG
    clear hG9 c32 f32 e10
    generalize World.setCell w5 _ _ = w7 at *
    have hPl : (PP ++ [Value.int .i64 ((l.length : Int) - 1)]).length = 33 := by simp [hP]
    have c32 : w7.cell? ⟨w.heap.size, 32, none⟩ = some (.int .i64 ((l.length : Int) - 1)) := by rw [hG.rule 0 rfl, List.getElem?_append_right (by omega), hP]; rfl
    obtain ⟨m, hm⟩ : ∃ m : Nat, l.length = m + 1 := ⟨l.length - 1, by omega⟩
    have hmm : (l.length : Int) - 1 = (m : Int) := by omega
    have hm16 : m < 16 := by omega
    rw [hmm] at c32
    have cm1 : w7.cell? ⟨w.heap.size, m * 2, none⟩ = some ((PP ++ [Value.int .i64 ((l.length : Int) - 1)]).getD (m * 2) undef) := by rw [hG.rule 0 rfl, List.getD_eq_getElem?_getD, List.getElem?_eq_getElem (by omega)]; rfl
    have cm2 : w7.cell? ⟨w.heap.size, m * 2 + 1, none⟩ = some ((PP ++ [Value.int .i64 ((l.length : Int) - 1)]).getD (m * 2 + 1) undef) := by rw [hG.rule 0 rfl, List.getD_eq_getElem?_getD, List.getElem?_eq_getElem (by omega)]; rfl
    have f1 := hG.thaw 0 rfl (Nat.le_refl _) (m * 2) (by omega)
    have f2 := hG.thaw 0 rfl (Nat.le_refl _) (m * 2 + 1) (by omega)
    go_upto_region 7 with fail
    replace hG := (hG.put (Nat.le_refl _) (by simp) (m * 2) (by omega) (.int .u64 0)).put (Nat.le_refl _) (by simp) (m * 2 + 1) (by rw [List.length_set]; omega) (.int .u64 0)
    have hdel := encS_del hc hn p q
    rw [← HPP.out, show m = l.length - 1 by omega, hdel] at hG
    have hL : (l.take (cnt l k) ++ l.drop (cnt l k + 1)).length ≤ 16 := by simp; omega
    replace hG := hG.sub (bl' := [(w.heap.size + 1, encS []), (w.heap.size, encS (l.take (cnt l k) ++ l.drop (cnt l k + 1)))]) (by simp)
    rw [show l.length - 1 = m by omega] at hG
    generalize World.setCell (World.setCell _ _ _) _ _ = w2 at *
    apply wp_region_lit
    refine wpList_load_mid rfl 29 _ rfl w.heap.size 0 rfl (encS (l.take (cnt l k) ++ l.drop (cnt l k + 1))) _ (hG.range 1 rfl) und29 rfl (size33 hL) ?_
    refine wpList_store_mid rfl 29 _ _ rfl (w.heap.size + 1) 0 (encS (l.take (cnt l k) ++ l.drop (cnt l k + 1))).toArray rfl rfl (hG.there 0 rfl (by omega) (by rw [encS_length (by simp), List.size_toArray, encS_length hL])) (size33a hL) (one33 _) ?_
    replace hG := hG.whole (us := encS (l.take (cnt l k) ++ l.drop (cnt l k + 1))) (by omega) (by simp) (by rw [encS_length (by simp), encS_length hL])
    generalize World.setCells w2 _ _ _ = w3 at *
    go_wp2_with fail
    exact bodyPost_ret (res_c rfl _ _ (w.heap.size + 1) rfl _ _ (hG.range 0 rfl) und29 rfl (size33 hL)) rfl ⟨rfl, hG.below⟩
end Go.Proofs.Ytdeohigggjfjjaa

/- An op at once. -/
namespace Go.Proofs.Ytdeohigggjfjjaa
open Go.RowKit
set_option maxRecDepth 100000

/-- An op at once, of a state. -/
def doK (l : List (Int × Int)) (kd k v : Int) : Out :=
  if kd = 1 then (if hasK l k then ⟨l, false, 0, 0⟩ else bringK l k 0 true 0)
  else if kd = 4 then bringK l k v (hasK l k) (getK l k)
  else if kd = 5 then (if hasK l k then ⟨l, false, getK l k, 0⟩ else bringK l k v true 0)
  else if kd = 2 then ⟨delK l k, hasK l k, 0, 0⟩
  else if kd = 6 then ⟨delK l k, hasK l k, getK l k, 0⟩
  else if kd = 3 then ⟨l, hasK l k, 0, 0⟩
  else if kd = 7 then ⟨l, hasK l k, getK l k, 0⟩
  else if kd = 8 then ⟨l, true, 0, 0⟩
  else ⟨[], false, 0, 8⟩
theorem delK_le (l : List (Int × Int)) (k : Int) (hn : l.length ≤ 16) : (delK l k).length ≤ 16 := by
  unfold delK
  split
  · simp; omega
  · exact hn
theorem bringK_le (l : List (Int × Int)) (k x : Int) (d : Bool) (v : Int) (hn : l.length ≤ 16) : (bringK l k x d v).l.length ≤ 16 := by
  unfold bringK
  split
  · exact (withK_two l k x hn).2
  · simp

set_option maxHeartbeats 2000000 in
theorem do1_s (l : List (Int × Int)) (hl : l.Pairwise fun a b => a.1 < b.1) (hn : l.length ≤ 16) (k v lv : Int) (w : World) : Calls Try.prog 9 #[.agg (encS l).toArray, .agg #[.int .i64 1, .int .u64 k, .int .u64 v, .int .i64 lv]] w fun e w' => e = .returned (.tuple #[.agg (encS (doK l 1 k v).l).toArray, .agg (encA 0 (doK l 1 k v).d (doK l 1 k v).v).toArray, .int .i64 (doK l 1 k v).e]) ∧ Below w.heap.size w w' := by
  have hF := (Fr.start w).push w.heap.size rfl (encS l) 29
  replace hF := hF.push (w.heap.size + 1) (by simp) [.int .i64 1, .int .u64 k, .int .u64 v, .int .i64 lv] 39
  replace hF := hF.push (w.heap.size + 2) (by simp) (encS []) 29
  replace hF := hF.push (w.heap.size + 3) (by simp) (encA 0 false 0) 35
  have C1 := Lib.hid (get_s l hl hn k)
  generalize hWW : doK l 1 k v = W
  have HW : Hid (doK l 1 k v = W) := Lib.hid hWW
  clear hWW
  go_enter Try.func9, Try.ntmps9
  go_upto_region 1 with fail
  have r2 := hF.rule 2 rfl
  apply wp_region_lit
  refine wpList_load_mid rfl 29 _ rfl w.heap.size 0 rfl (encS l) _ (hF.range 3 rfl) und29 rfl (size33 hn) ?_
  go_wp2_with fail
  refine (C1.out _).mono ?_
  rintro e w1 ⟨rfl, hb⟩
  replace hF := hF.over hb
  clear hb r2
  have r2 := hF.rule 2 rfl
  have hG := hF.sub (bl' := [(w.heap.size + 2, encS []), (w.heap.size + 3, encA 0 false 0), (w.heap.size, encS l)]) (by simp)
  cases hh : hasK l k with
  | true =>
    have e9 : doK l 1 k v = ⟨l, false, 0, 0⟩ := by unfold doK; simp [hh]
    rw [HW.out] at e9
    subst e9
    go_upto_region 5 with fail
    clear hF r2
    apply wp_region_lit
    refine wpList_load_mid rfl 29 _ rfl w.heap.size 0 rfl (encS l) _ (hG.range 2 rfl) und29 rfl (size33 hn) ?_
    refine wpList_buildTo rfl 35 _ rfl (some 22) rfl (encA 0 false 0).toArray (by kernel_rfl) ?_
    refine wpList_store_mid rfl 29 _ _ rfl (w.heap.size + 2) 0 (encS l).toArray rfl rfl (hG.there 0 rfl (by omega) (by rw [encS_length (by simp), List.size_toArray, encS_length hn])) (size33a hn) (one33 _) ?_
    replace hG := hG.whole (us := encS l) (by omega) (by simp) (by rw [encS_length (by simp), encS_length hn])
    generalize World.setCells _ _ _ _ = w8 at *
    replace hG := hG.sub (bl' := [(w.heap.size + 3, encA 0 false 0), (w.heap.size + 2, encS l)]) (by simp)
    refine wpList_store_mid rfl 35 _ _ rfl (w.heap.size + 3) 0 (encA 0 false 0).toArray rfl rfl (hG.there 0 rfl (by omega) rfl) size35 (all_oneCell_toArray (encA_one _ _ _)) ?_
    replace hG := hG.whole (us := encA 0 false 0) (by omega) (by simp) rfl
    generalize World.setCells _ _ _ _ = w9 at *
    go_wp2_with fail
    exact bodyPost_ret (res_cct rfl _ _ (w.heap.size + 2) (w.heap.size + 3) rfl rfl _ _ _ _ (hG.range 1 rfl) (hG.range 0 rfl) und29 rfl (size33 hn) und35 rfl size35) rfl ⟨rfl, hG.below⟩
  | false =>
    have e9 : doK l 1 k v = (bringK l k 0 true 0) := by unfold doK; simp [hh]
    rw [HW.out] at e9
    subst e9
    have hB := bringK_le l k 0 true 0 hn
    have CC := Lib.hid (bring_s l hl hn k 0 true 0)
    go_upto_region 6 with fail
    apply wp_region_lit
    refine wpList_load_mid rfl 29 _ rfl w.heap.size 0 rfl (encS l) _ (hG.range 2 rfl) und29 rfl (size33 hn) ?_
    go_wp2_with fail
    refine (CC.out _).mono ?_
    rintro e w3 ⟨rfl, hb⟩
    replace hG := hG.over hb
    clear hb hF r2
    rename_i aK
    refine aK _ _ ?_
    clear aK
    refine Go.Great.wpList_readTo rfl (some 29) rfl (.agg (encS (bringK l k 0 true 0).l).toArray) (by go_simp) ?_
    refine Go.Great.wpList_readTo rfl (some 30) rfl (.agg (encA 0 (bringK l k 0 true 0).d (bringK l k 0 true 0).v).toArray) (by go_simp) ?_
    refine Go.Great.wpList_readTo rfl (some 31) rfl (.int .i64 (bringK l k 0 true 0).e) (by go_simp) ?_
    refine wpList_store_mid rfl 29 _ _ rfl (w.heap.size + 2) 0 (encS (bringK l k 0 true 0).l).toArray rfl rfl (hG.there 0 rfl (by omega) (by rw [encS_length (by simp), List.size_toArray, encS_length hB])) (size33a hB) (one33 _) ?_
    replace hG := hG.whole (us := encS (bringK l k 0 true 0).l) (by omega) (by simp) (by rw [encS_length (by simp), encS_length hB])
    generalize World.setCells _ _ _ _ = w8 at *
    replace hG := hG.sub (bl' := [(w.heap.size + 3, encA 0 false 0), (w.heap.size + 2, encS (bringK l k 0 true 0).l)]) (by simp)
    refine wpList_store_mid rfl 35 _ _ rfl (w.heap.size + 3) 0 (encA 0 (bringK l k 0 true 0).d (bringK l k 0 true 0).v).toArray rfl rfl (hG.there 0 rfl (by omega) rfl) size35 (all_oneCell_toArray (encA_one _ _ _)) ?_
    replace hG := hG.whole (us := encA 0 (bringK l k 0 true 0).d (bringK l k 0 true 0).v) (by omega) (by simp) rfl
    generalize World.setCells _ _ _ _ = w9 at *
    go_wp2_with fail
    exact bodyPost_ret (res_cct rfl _ _ (w.heap.size + 2) (w.heap.size + 3) rfl rfl _ _ _ _ (hG.range 1 rfl) (hG.range 0 rfl) und29 rfl (size33 hB) und35 rfl size35) rfl ⟨rfl, hG.below⟩

set_option maxHeartbeats 2000000 in
theorem do4_s (l : List (Int × Int)) (hl : l.Pairwise fun a b => a.1 < b.1) (hn : l.length ≤ 16) (k v lv : Int) (w : World) : Calls Try.prog 9 #[.agg (encS l).toArray, .agg #[.int .i64 4, .int .u64 k, .int .u64 v, .int .i64 lv]] w fun e w' => e = .returned (.tuple #[.agg (encS (doK l 4 k v).l).toArray, .agg (encA 0 (doK l 4 k v).d (doK l 4 k v).v).toArray, .int .i64 (doK l 4 k v).e]) ∧ Below w.heap.size w w' := by
  have hF := (Fr.start w).push w.heap.size rfl (encS l) 29
  replace hF := hF.push (w.heap.size + 1) (by simp) [.int .i64 4, .int .u64 k, .int .u64 v, .int .i64 lv] 39
  replace hF := hF.push (w.heap.size + 2) (by simp) (encS []) 29
  replace hF := hF.push (w.heap.size + 3) (by simp) (encA 0 false 0) 35
  have C1 := Lib.hid (get_s l hl hn k)
  generalize hWW : doK l 4 k v = W
  have HW : Hid (doK l 4 k v = W) := Lib.hid hWW
  clear hWW
  go_enter Try.func9, Try.ntmps9
  go_upto_region 1 with fail
  have r2 := hF.rule 2 rfl
  apply wp_region_lit
  refine wpList_load_mid rfl 29 _ rfl w.heap.size 0 rfl (encS l) _ (hF.range 3 rfl) und29 rfl (size33 hn) ?_
  go_wp2_with fail
  refine (C1.out _).mono ?_
  rintro e w1 ⟨rfl, hb⟩
  replace hF := hF.over hb
  clear hb r2
  have r2 := hF.rule 2 rfl
  have hG := hF.sub (bl' := [(w.heap.size + 2, encS []), (w.heap.size + 3, encA 0 false 0), (w.heap.size, encS l)]) (by simp)
  have e9 : doK l 4 k v = (bringK l k v (hasK l k) (getK l k)) := by unfold doK; simp
  rw [HW.out] at e9
  subst e9
  have hB := bringK_le l k v (hasK l k) (getK l k) hn
  · have CC := Lib.hid (bring_s l hl hn k v (hasK l k) (getK l k))
    go_upto_region 8 with fail
    apply wp_region_lit
    refine wpList_load_mid rfl 29 _ rfl w.heap.size 0 rfl (encS l) _ (hG.range 2 rfl) und29 rfl (size33 hn) ?_
    go_wp2_with fail
    refine (CC.out _).mono ?_
    rintro e w3 ⟨rfl, hb⟩
    replace hG := hG.over hb
    clear hb hF r2
    rename_i aK
    refine aK _ _ ?_
    clear aK
    refine Go.Great.wpList_readTo rfl (some 44) rfl (.agg (encS (bringK l k v (hasK l k) (getK l k)).l).toArray) (by go_simp) ?_
    refine Go.Great.wpList_readTo rfl (some 45) rfl (.agg (encA 0 (bringK l k v (hasK l k) (getK l k)).d (bringK l k v (hasK l k) (getK l k)).v).toArray) (by go_simp) ?_
    refine Go.Great.wpList_readTo rfl (some 46) rfl (.int .i64 (bringK l k v (hasK l k) (getK l k)).e) (by go_simp) ?_
    refine wpList_store_mid rfl 29 _ _ rfl (w.heap.size + 2) 0 (encS (bringK l k v (hasK l k) (getK l k)).l).toArray rfl rfl (hG.there 0 rfl (by omega) (by rw [encS_length (by simp), List.size_toArray, encS_length hB])) (size33a hB) (one33 _) ?_
    replace hG := hG.whole (us := encS (bringK l k v (hasK l k) (getK l k)).l) (by omega) (by simp) (by rw [encS_length (by simp), encS_length hB])
    generalize World.setCells _ _ _ _ = w8 at *
    replace hG := hG.sub (bl' := [(w.heap.size + 3, encA 0 false 0), (w.heap.size + 2, encS (bringK l k v (hasK l k) (getK l k)).l)]) (by simp)
    refine wpList_store_mid rfl 35 _ _ rfl (w.heap.size + 3) 0 (encA 0 (bringK l k v (hasK l k) (getK l k)).d (bringK l k v (hasK l k) (getK l k)).v).toArray rfl rfl (hG.there 0 rfl (by omega) rfl) size35 (all_oneCell_toArray (encA_one _ _ _)) ?_
    replace hG := hG.whole (us := encA 0 (bringK l k v (hasK l k) (getK l k)).d (bringK l k v (hasK l k) (getK l k)).v) (by omega) (by simp) rfl
    generalize World.setCells _ _ _ _ = w9 at *
    go_wp2_with fail
    exact bodyPost_ret (res_cct rfl _ _ (w.heap.size + 2) (w.heap.size + 3) rfl rfl _ _ _ _ (hG.range 1 rfl) (hG.range 0 rfl) und29 rfl (size33 hB) und35 rfl size35) rfl ⟨rfl, hG.below⟩

set_option maxHeartbeats 2000000 in
theorem do5_s (l : List (Int × Int)) (hl : l.Pairwise fun a b => a.1 < b.1) (hn : l.length ≤ 16) (k v lv : Int) (w : World) : Calls Try.prog 9 #[.agg (encS l).toArray, .agg #[.int .i64 5, .int .u64 k, .int .u64 v, .int .i64 lv]] w fun e w' => e = .returned (.tuple #[.agg (encS (doK l 5 k v).l).toArray, .agg (encA 0 (doK l 5 k v).d (doK l 5 k v).v).toArray, .int .i64 (doK l 5 k v).e]) ∧ Below w.heap.size w w' := by
  have hF := (Fr.start w).push w.heap.size rfl (encS l) 29
  replace hF := hF.push (w.heap.size + 1) (by simp) [.int .i64 5, .int .u64 k, .int .u64 v, .int .i64 lv] 39
  replace hF := hF.push (w.heap.size + 2) (by simp) (encS []) 29
  replace hF := hF.push (w.heap.size + 3) (by simp) (encA 0 false 0) 35
  have C1 := Lib.hid (get_s l hl hn k)
  generalize hWW : doK l 5 k v = W
  have HW : Hid (doK l 5 k v = W) := Lib.hid hWW
  clear hWW
  go_enter Try.func9, Try.ntmps9
  go_upto_region 1 with fail
  have r2 := hF.rule 2 rfl
  apply wp_region_lit
  refine wpList_load_mid rfl 29 _ rfl w.heap.size 0 rfl (encS l) _ (hF.range 3 rfl) und29 rfl (size33 hn) ?_
  go_wp2_with fail
  refine (C1.out _).mono ?_
  rintro e w1 ⟨rfl, hb⟩
  replace hF := hF.over hb
  clear hb r2
  have r2 := hF.rule 2 rfl
  have hG := hF.sub (bl' := [(w.heap.size + 2, encS []), (w.heap.size + 3, encA 0 false 0), (w.heap.size, encS l)]) (by simp)
  cases hh : hasK l k with
  | true =>
    have e9 : doK l 5 k v = ⟨l, false, getK l k, 0⟩ := by unfold doK; simp [hh]
    rw [HW.out] at e9
    subst e9
    go_upto_region 11 with fail
    clear hF r2
    apply wp_region_lit
    refine wpList_load_mid rfl 29 _ rfl w.heap.size 0 rfl (encS l) _ (hG.range 2 rfl) und29 rfl (size33 hn) ?_
    refine Go.Great.wpList_readTo rfl (some 51) rfl _ rfl ?_
    refine wpList_buildTo rfl 35 _ rfl (some 52) rfl (encA 0 false (getK l k)).toArray (by kernel_rfl) ?_
    refine wpList_store_mid rfl 29 _ _ rfl (w.heap.size + 2) 0 (encS l).toArray rfl rfl (hG.there 0 rfl (by omega) (by rw [encS_length (by simp), List.size_toArray, encS_length hn])) (size33a hn) (one33 _) ?_
    replace hG := hG.whole (us := encS l) (by omega) (by simp) (by rw [encS_length (by simp), encS_length hn])
    generalize World.setCells _ _ _ _ = w8 at *
    replace hG := hG.sub (bl' := [(w.heap.size + 3, encA 0 false 0), (w.heap.size + 2, encS l)]) (by simp)
    refine wpList_store_mid rfl 35 _ _ rfl (w.heap.size + 3) 0 (encA 0 false (getK l k)).toArray rfl rfl (hG.there 0 rfl (by omega) rfl) size35 (all_oneCell_toArray (encA_one _ _ _)) ?_
    replace hG := hG.whole (us := encA 0 false (getK l k)) (by omega) (by simp) rfl
    generalize World.setCells _ _ _ _ = w9 at *
    go_wp2_with fail
    exact bodyPost_ret (res_cct rfl _ _ (w.heap.size + 2) (w.heap.size + 3) rfl rfl _ _ _ _ (hG.range 1 rfl) (hG.range 0 rfl) und29 rfl (size33 hn) und35 rfl size35) rfl ⟨rfl, hG.below⟩
  | false =>
    have e9 : doK l 5 k v = (bringK l k v true 0) := by unfold doK; simp [hh]
    rw [HW.out] at e9
    subst e9
    have hB := bringK_le l k v true 0 hn
    have CC := Lib.hid (bring_s l hl hn k v true 0)
    go_upto_region 12 with fail
    apply wp_region_lit
    refine wpList_load_mid rfl 29 _ rfl w.heap.size 0 rfl (encS l) _ (hG.range 2 rfl) und29 rfl (size33 hn) ?_
    go_wp2_with fail
    refine (CC.out _).mono ?_
    rintro e w3 ⟨rfl, hb⟩
    replace hG := hG.over hb
    clear hb hF r2
    rename_i aK
    refine aK _ _ ?_
    clear aK
    refine Go.Great.wpList_readTo rfl (some 61) rfl (.agg (encS (bringK l k v true 0).l).toArray) (by go_simp) ?_
    refine Go.Great.wpList_readTo rfl (some 62) rfl (.agg (encA 0 (bringK l k v true 0).d (bringK l k v true 0).v).toArray) (by go_simp) ?_
    refine Go.Great.wpList_readTo rfl (some 63) rfl (.int .i64 (bringK l k v true 0).e) (by go_simp) ?_
    refine wpList_store_mid rfl 29 _ _ rfl (w.heap.size + 2) 0 (encS (bringK l k v true 0).l).toArray rfl rfl (hG.there 0 rfl (by omega) (by rw [encS_length (by simp), List.size_toArray, encS_length hB])) (size33a hB) (one33 _) ?_
    replace hG := hG.whole (us := encS (bringK l k v true 0).l) (by omega) (by simp) (by rw [encS_length (by simp), encS_length hB])
    generalize World.setCells _ _ _ _ = w8 at *
    replace hG := hG.sub (bl' := [(w.heap.size + 3, encA 0 false 0), (w.heap.size + 2, encS (bringK l k v true 0).l)]) (by simp)
    refine wpList_store_mid rfl 35 _ _ rfl (w.heap.size + 3) 0 (encA 0 (bringK l k v true 0).d (bringK l k v true 0).v).toArray rfl rfl (hG.there 0 rfl (by omega) rfl) size35 (all_oneCell_toArray (encA_one _ _ _)) ?_
    replace hG := hG.whole (us := encA 0 (bringK l k v true 0).d (bringK l k v true 0).v) (by omega) (by simp) rfl
    generalize World.setCells _ _ _ _ = w9 at *
    go_wp2_with fail
    exact bodyPost_ret (res_cct rfl _ _ (w.heap.size + 2) (w.heap.size + 3) rfl rfl _ _ _ _ (hG.range 1 rfl) (hG.range 0 rfl) und29 rfl (size33 hB) und35 rfl size35) rfl ⟨rfl, hG.below⟩

set_option maxHeartbeats 2000000 in
theorem do2_s (l : List (Int × Int)) (hl : l.Pairwise fun a b => a.1 < b.1) (hn : l.length ≤ 16) (k v lv : Int) (w : World) : Calls Try.prog 9 #[.agg (encS l).toArray, .agg #[.int .i64 2, .int .u64 k, .int .u64 v, .int .i64 lv]] w fun e w' => e = .returned (.tuple #[.agg (encS (doK l 2 k v).l).toArray, .agg (encA 0 (doK l 2 k v).d (doK l 2 k v).v).toArray, .int .i64 (doK l 2 k v).e]) ∧ Below w.heap.size w w' := by
  have hF := (Fr.start w).push w.heap.size rfl (encS l) 29
  replace hF := hF.push (w.heap.size + 1) (by simp) [.int .i64 2, .int .u64 k, .int .u64 v, .int .i64 lv] 39
  replace hF := hF.push (w.heap.size + 2) (by simp) (encS []) 29
  replace hF := hF.push (w.heap.size + 3) (by simp) (encA 0 false 0) 35
  have C1 := Lib.hid (get_s l hl hn k)
  generalize hWW : doK l 2 k v = W
  have HW : Hid (doK l 2 k v = W) := Lib.hid hWW
  clear hWW
  go_enter Try.func9, Try.ntmps9
  go_upto_region 1 with fail
  have r2 := hF.rule 2 rfl
  apply wp_region_lit
  refine wpList_load_mid rfl 29 _ rfl w.heap.size 0 rfl (encS l) _ (hF.range 3 rfl) und29 rfl (size33 hn) ?_
  go_wp2_with fail
  refine (C1.out _).mono ?_
  rintro e w1 ⟨rfl, hb⟩
  replace hF := hF.over hb
  clear hb r2
  have r2 := hF.rule 2 rfl
  have hG := hF.sub (bl' := [(w.heap.size + 2, encS []), (w.heap.size + 3, encA 0 false 0), (w.heap.size, encS l)]) (by simp)
  have e9 : doK l 2 k v = ⟨delK l k, hasK l k, 0, 0⟩ := by unfold doK; simp
  rw [HW.out] at e9
  subst e9
  · have CC := Lib.hid (without_s l hl hn k)
    go_upto_region 14 with fail
    apply wp_region_lit
    refine wpList_load_mid rfl 29 _ rfl w.heap.size 0 rfl (encS l) _ (hG.range 2 rfl) und29 rfl (size33 hn) ?_
    go_wp2_with fail
    refine (CC.out _).mono ?_
    rintro e w3 ⟨rfl, hb⟩
    replace hG := hG.over hb
    clear hb hF r2
    rename_i aK
    refine aK _ _ ?_
    clear aK
    refine Go.Great.wpList_readTo rfl (some 70) rfl _ rfl ?_
    refine wpList_buildTo rfl 35 _ rfl (some 71) rfl (encA 0 (hasK l k) 0).toArray (by kernel_rfl) ?_
    refine wpList_store_mid rfl 29 _ _ rfl (w.heap.size + 2) 0 (encS (delK l k)).toArray rfl rfl (hG.there 0 rfl (by omega) (by rw [encS_length (by simp), List.size_toArray, encS_length (delK_le l k hn)])) (size33a (delK_le l k hn)) (one33 _) ?_
    replace hG := hG.whole (us := encS (delK l k)) (by omega) (by simp) (by rw [encS_length (by simp), encS_length (delK_le l k hn)])
    generalize World.setCells _ _ _ _ = w8 at *
    replace hG := hG.sub (bl' := [(w.heap.size + 3, encA 0 false 0), (w.heap.size + 2, encS (delK l k))]) (by simp)
    refine wpList_store_mid rfl 35 _ _ rfl (w.heap.size + 3) 0 (encA 0 (hasK l k) 0).toArray rfl rfl (hG.there 0 rfl (by omega) rfl) size35 (all_oneCell_toArray (encA_one _ _ _)) ?_
    replace hG := hG.whole (us := encA 0 (hasK l k) 0) (by omega) (by simp) rfl
    generalize World.setCells _ _ _ _ = w9 at *
    go_wp2_with fail
    exact bodyPost_ret (res_cct rfl _ _ (w.heap.size + 2) (w.heap.size + 3) rfl rfl _ _ _ _ (hG.range 1 rfl) (hG.range 0 rfl) und29 rfl (size33 (delK_le l k hn)) und35 rfl size35) rfl ⟨rfl, hG.below⟩

set_option maxHeartbeats 2000000 in
theorem do6_s (l : List (Int × Int)) (hl : l.Pairwise fun a b => a.1 < b.1) (hn : l.length ≤ 16) (k v lv : Int) (w : World) : Calls Try.prog 9 #[.agg (encS l).toArray, .agg #[.int .i64 6, .int .u64 k, .int .u64 v, .int .i64 lv]] w fun e w' => e = .returned (.tuple #[.agg (encS (doK l 6 k v).l).toArray, .agg (encA 0 (doK l 6 k v).d (doK l 6 k v).v).toArray, .int .i64 (doK l 6 k v).e]) ∧ Below w.heap.size w w' := by
  have hF := (Fr.start w).push w.heap.size rfl (encS l) 29
  replace hF := hF.push (w.heap.size + 1) (by simp) [.int .i64 6, .int .u64 k, .int .u64 v, .int .i64 lv] 39
  replace hF := hF.push (w.heap.size + 2) (by simp) (encS []) 29
  replace hF := hF.push (w.heap.size + 3) (by simp) (encA 0 false 0) 35
  have C1 := Lib.hid (get_s l hl hn k)
  generalize hWW : doK l 6 k v = W
  have HW : Hid (doK l 6 k v = W) := Lib.hid hWW
  clear hWW
  go_enter Try.func9, Try.ntmps9
  go_upto_region 1 with fail
  have r2 := hF.rule 2 rfl
  apply wp_region_lit
  refine wpList_load_mid rfl 29 _ rfl w.heap.size 0 rfl (encS l) _ (hF.range 3 rfl) und29 rfl (size33 hn) ?_
  go_wp2_with fail
  refine (C1.out _).mono ?_
  rintro e w1 ⟨rfl, hb⟩
  replace hF := hF.over hb
  clear hb r2
  have r2 := hF.rule 2 rfl
  have hG := hF.sub (bl' := [(w.heap.size + 2, encS []), (w.heap.size + 3, encA 0 false 0), (w.heap.size, encS l)]) (by simp)
  have e9 : doK l 6 k v = ⟨delK l k, hasK l k, getK l k, 0⟩ := by unfold doK; simp
  rw [HW.out] at e9
  subst e9
  · have CC := Lib.hid (without_s l hl hn k)
    go_upto_region 16 with fail
    apply wp_region_lit
    refine wpList_load_mid rfl 29 _ rfl w.heap.size 0 rfl (encS l) _ (hG.range 2 rfl) und29 rfl (size33 hn) ?_
    go_wp2_with fail
    refine (CC.out _).mono ?_
    rintro e w3 ⟨rfl, hb⟩
    replace hG := hG.over hb
    clear hb hF r2
    rename_i aK
    refine aK _ _ ?_
    clear aK
    refine Go.Great.wpList_readTo rfl (some 78) rfl _ rfl ?_
    refine Go.Great.wpList_readTo rfl (some 79) rfl _ rfl ?_
    refine wpList_buildTo rfl 35 _ rfl (some 80) rfl (encA 0 (hasK l k) (getK l k)).toArray (by kernel_rfl) ?_
    refine wpList_store_mid rfl 29 _ _ rfl (w.heap.size + 2) 0 (encS (delK l k)).toArray rfl rfl (hG.there 0 rfl (by omega) (by rw [encS_length (by simp), List.size_toArray, encS_length (delK_le l k hn)])) (size33a (delK_le l k hn)) (one33 _) ?_
    replace hG := hG.whole (us := encS (delK l k)) (by omega) (by simp) (by rw [encS_length (by simp), encS_length (delK_le l k hn)])
    generalize World.setCells _ _ _ _ = w8 at *
    replace hG := hG.sub (bl' := [(w.heap.size + 3, encA 0 false 0), (w.heap.size + 2, encS (delK l k))]) (by simp)
    refine wpList_store_mid rfl 35 _ _ rfl (w.heap.size + 3) 0 (encA 0 (hasK l k) (getK l k)).toArray rfl rfl (hG.there 0 rfl (by omega) rfl) size35 (all_oneCell_toArray (encA_one _ _ _)) ?_
    replace hG := hG.whole (us := encA 0 (hasK l k) (getK l k)) (by omega) (by simp) rfl
    generalize World.setCells _ _ _ _ = w9 at *
    go_wp2_with fail
    exact bodyPost_ret (res_cct rfl _ _ (w.heap.size + 2) (w.heap.size + 3) rfl rfl _ _ _ _ (hG.range 1 rfl) (hG.range 0 rfl) und29 rfl (size33 (delK_le l k hn)) und35 rfl size35) rfl ⟨rfl, hG.below⟩

set_option maxHeartbeats 2000000 in
theorem do3_s (l : List (Int × Int)) (hl : l.Pairwise fun a b => a.1 < b.1) (hn : l.length ≤ 16) (k v lv : Int) (w : World) : Calls Try.prog 9 #[.agg (encS l).toArray, .agg #[.int .i64 3, .int .u64 k, .int .u64 v, .int .i64 lv]] w fun e w' => e = .returned (.tuple #[.agg (encS (doK l 3 k v).l).toArray, .agg (encA 0 (doK l 3 k v).d (doK l 3 k v).v).toArray, .int .i64 (doK l 3 k v).e]) ∧ Below w.heap.size w w' := by
  have hF := (Fr.start w).push w.heap.size rfl (encS l) 29
  replace hF := hF.push (w.heap.size + 1) (by simp) [.int .i64 3, .int .u64 k, .int .u64 v, .int .i64 lv] 39
  replace hF := hF.push (w.heap.size + 2) (by simp) (encS []) 29
  replace hF := hF.push (w.heap.size + 3) (by simp) (encA 0 false 0) 35
  have C1 := Lib.hid (get_s l hl hn k)
  generalize hWW : doK l 3 k v = W
  have HW : Hid (doK l 3 k v = W) := Lib.hid hWW
  clear hWW
  go_enter Try.func9, Try.ntmps9
  go_upto_region 1 with fail
  have r2 := hF.rule 2 rfl
  apply wp_region_lit
  refine wpList_load_mid rfl 29 _ rfl w.heap.size 0 rfl (encS l) _ (hF.range 3 rfl) und29 rfl (size33 hn) ?_
  go_wp2_with fail
  refine (C1.out _).mono ?_
  rintro e w1 ⟨rfl, hb⟩
  replace hF := hF.over hb
  clear hb r2
  have r2 := hF.rule 2 rfl
  have hG := hF.sub (bl' := [(w.heap.size + 2, encS []), (w.heap.size + 3, encA 0 false 0), (w.heap.size, encS l)]) (by simp)
  have e9 : doK l 3 k v = ⟨l, hasK l k, 0, 0⟩ := by unfold doK; simp
  rw [HW.out] at e9
  subst e9
  · go_upto_region 18 with fail
    clear hF r2
    apply wp_region_lit
    refine wpList_load_mid rfl 29 _ rfl w.heap.size 0 rfl (encS l) _ (hG.range 2 rfl) und29 rfl (size33 hn) ?_
    refine Go.Great.wpList_readTo rfl (some 84) rfl _ rfl ?_
    refine wpList_buildTo rfl 35 _ rfl (some 85) rfl (encA 0 (hasK l k) 0).toArray (by kernel_rfl) ?_
    refine wpList_store_mid rfl 29 _ _ rfl (w.heap.size + 2) 0 (encS l).toArray rfl rfl (hG.there 0 rfl (by omega) (by rw [encS_length (by simp), List.size_toArray, encS_length hn])) (size33a hn) (one33 _) ?_
    replace hG := hG.whole (us := encS l) (by omega) (by simp) (by rw [encS_length (by simp), encS_length hn])
    generalize World.setCells _ _ _ _ = w8 at *
    replace hG := hG.sub (bl' := [(w.heap.size + 3, encA 0 false 0), (w.heap.size + 2, encS l)]) (by simp)
    refine wpList_store_mid rfl 35 _ _ rfl (w.heap.size + 3) 0 (encA 0 (hasK l k) 0).toArray rfl rfl (hG.there 0 rfl (by omega) rfl) size35 (all_oneCell_toArray (encA_one _ _ _)) ?_
    replace hG := hG.whole (us := encA 0 (hasK l k) 0) (by omega) (by simp) rfl
    generalize World.setCells _ _ _ _ = w9 at *
    go_wp2_with fail
    exact bodyPost_ret (res_cct rfl _ _ (w.heap.size + 2) (w.heap.size + 3) rfl rfl _ _ _ _ (hG.range 1 rfl) (hG.range 0 rfl) und29 rfl (size33 hn) und35 rfl size35) rfl ⟨rfl, hG.below⟩

set_option maxHeartbeats 2000000 in
theorem do7_s (l : List (Int × Int)) (hl : l.Pairwise fun a b => a.1 < b.1) (hn : l.length ≤ 16) (k v lv : Int) (w : World) : Calls Try.prog 9 #[.agg (encS l).toArray, .agg #[.int .i64 7, .int .u64 k, .int .u64 v, .int .i64 lv]] w fun e w' => e = .returned (.tuple #[.agg (encS (doK l 7 k v).l).toArray, .agg (encA 0 (doK l 7 k v).d (doK l 7 k v).v).toArray, .int .i64 (doK l 7 k v).e]) ∧ Below w.heap.size w w' := by
  have hF := (Fr.start w).push w.heap.size rfl (encS l) 29
  replace hF := hF.push (w.heap.size + 1) (by simp) [.int .i64 7, .int .u64 k, .int .u64 v, .int .i64 lv] 39
  replace hF := hF.push (w.heap.size + 2) (by simp) (encS []) 29
  replace hF := hF.push (w.heap.size + 3) (by simp) (encA 0 false 0) 35
  have C1 := Lib.hid (get_s l hl hn k)
  generalize hWW : doK l 7 k v = W
  have HW : Hid (doK l 7 k v = W) := Lib.hid hWW
  clear hWW
  go_enter Try.func9, Try.ntmps9
  go_upto_region 1 with fail
  have r2 := hF.rule 2 rfl
  apply wp_region_lit
  refine wpList_load_mid rfl 29 _ rfl w.heap.size 0 rfl (encS l) _ (hF.range 3 rfl) und29 rfl (size33 hn) ?_
  go_wp2_with fail
  refine (C1.out _).mono ?_
  rintro e w1 ⟨rfl, hb⟩
  replace hF := hF.over hb
  clear hb r2
  have r2 := hF.rule 2 rfl
  have hG := hF.sub (bl' := [(w.heap.size + 2, encS []), (w.heap.size + 3, encA 0 false 0), (w.heap.size, encS l)]) (by simp)
  have e9 : doK l 7 k v = ⟨l, hasK l k, getK l k, 0⟩ := by unfold doK; simp
  rw [HW.out] at e9
  subst e9
  · go_upto_region 20 with fail
    clear hF r2
    apply wp_region_lit
    refine wpList_load_mid rfl 29 _ rfl w.heap.size 0 rfl (encS l) _ (hG.range 2 rfl) und29 rfl (size33 hn) ?_
    refine Go.Great.wpList_readTo rfl (some 89) rfl _ rfl ?_
    refine Go.Great.wpList_readTo rfl (some 90) rfl _ rfl ?_
    refine wpList_buildTo rfl 35 _ rfl (some 91) rfl (encA 0 (hasK l k) (getK l k)).toArray (by kernel_rfl) ?_
    refine wpList_store_mid rfl 29 _ _ rfl (w.heap.size + 2) 0 (encS l).toArray rfl rfl (hG.there 0 rfl (by omega) (by rw [encS_length (by simp), List.size_toArray, encS_length hn])) (size33a hn) (one33 _) ?_
    replace hG := hG.whole (us := encS l) (by omega) (by simp) (by rw [encS_length (by simp), encS_length hn])
    generalize World.setCells _ _ _ _ = w8 at *
    replace hG := hG.sub (bl' := [(w.heap.size + 3, encA 0 false 0), (w.heap.size + 2, encS l)]) (by simp)
    refine wpList_store_mid rfl 35 _ _ rfl (w.heap.size + 3) 0 (encA 0 (hasK l k) (getK l k)).toArray rfl rfl (hG.there 0 rfl (by omega) rfl) size35 (all_oneCell_toArray (encA_one _ _ _)) ?_
    replace hG := hG.whole (us := encA 0 (hasK l k) (getK l k)) (by omega) (by simp) rfl
    generalize World.setCells _ _ _ _ = w9 at *
    go_wp2_with fail
    exact bodyPost_ret (res_cct rfl _ _ (w.heap.size + 2) (w.heap.size + 3) rfl rfl _ _ _ _ (hG.range 1 rfl) (hG.range 0 rfl) und29 rfl (size33 hn) und35 rfl size35) rfl ⟨rfl, hG.below⟩

set_option maxHeartbeats 2000000 in
theorem do8_s (l : List (Int × Int)) (hl : l.Pairwise fun a b => a.1 < b.1) (hn : l.length ≤ 16) (k v lv : Int) (w : World) : Calls Try.prog 9 #[.agg (encS l).toArray, .agg #[.int .i64 8, .int .u64 k, .int .u64 v, .int .i64 lv]] w fun e w' => e = .returned (.tuple #[.agg (encS (doK l 8 k v).l).toArray, .agg (encA 0 (doK l 8 k v).d (doK l 8 k v).v).toArray, .int .i64 (doK l 8 k v).e]) ∧ Below w.heap.size w w' := by
  have hF := (Fr.start w).push w.heap.size rfl (encS l) 29
  replace hF := hF.push (w.heap.size + 1) (by simp) [.int .i64 8, .int .u64 k, .int .u64 v, .int .i64 lv] 39
  replace hF := hF.push (w.heap.size + 2) (by simp) (encS []) 29
  replace hF := hF.push (w.heap.size + 3) (by simp) (encA 0 false 0) 35
  have C1 := Lib.hid (get_s l hl hn k)
  generalize hWW : doK l 8 k v = W
  have HW : Hid (doK l 8 k v = W) := Lib.hid hWW
  clear hWW
  go_enter Try.func9, Try.ntmps9
  go_upto_region 1 with fail
  have r2 := hF.rule 2 rfl
  apply wp_region_lit
  refine wpList_load_mid rfl 29 _ rfl w.heap.size 0 rfl (encS l) _ (hF.range 3 rfl) und29 rfl (size33 hn) ?_
  go_wp2_with fail
  refine (C1.out _).mono ?_
  rintro e w1 ⟨rfl, hb⟩
  replace hF := hF.over hb
  clear hb r2
  have r2 := hF.rule 2 rfl
  have hG := hF.sub (bl' := [(w.heap.size + 2, encS []), (w.heap.size + 3, encA 0 false 0), (w.heap.size, encS l)]) (by simp)
  have e9 : doK l 8 k v = ⟨l, true, 0, 0⟩ := by unfold doK; simp
  rw [HW.out] at e9
  subst e9
  · go_upto_region 22 with fail
    clear hF r2
    apply wp_region_lit
    refine wpList_load_mid rfl 29 _ rfl w.heap.size 0 rfl (encS l) _ (hG.range 2 rfl) und29 rfl (size33 hn) ?_
    refine wpList_buildTo rfl 35 _ rfl (some 95) rfl (encA 0 true 0).toArray (by kernel_rfl) ?_
    refine wpList_store_mid rfl 29 _ _ rfl (w.heap.size + 2) 0 (encS l).toArray rfl rfl (hG.there 0 rfl (by omega) (by rw [encS_length (by simp), List.size_toArray, encS_length hn])) (size33a hn) (one33 _) ?_
    replace hG := hG.whole (us := encS l) (by omega) (by simp) (by rw [encS_length (by simp), encS_length hn])
    generalize World.setCells _ _ _ _ = w8 at *
    replace hG := hG.sub (bl' := [(w.heap.size + 3, encA 0 false 0), (w.heap.size + 2, encS l)]) (by simp)
    refine wpList_store_mid rfl 35 _ _ rfl (w.heap.size + 3) 0 (encA 0 true 0).toArray rfl rfl (hG.there 0 rfl (by omega) rfl) size35 (all_oneCell_toArray (encA_one _ _ _)) ?_
    replace hG := hG.whole (us := encA 0 true 0) (by omega) (by simp) rfl
    generalize World.setCells _ _ _ _ = w9 at *
    go_wp2_with fail
    exact bodyPost_ret (res_cct rfl _ _ (w.heap.size + 2) (w.heap.size + 3) rfl rfl _ _ _ _ (hG.range 1 rfl) (hG.range 0 rfl) und29 rfl (size33 hn) und35 rfl size35) rfl ⟨rfl, hG.below⟩

set_option maxHeartbeats 2000000 in
theorem doX_s (l : List (Int × Int)) (hl : l.Pairwise fun a b => a.1 < b.1) (hn : l.length ≤ 16) (kd : Int) (k v lv : Int) (h1 : kd ≠ 1) (h2 : kd ≠ 2) (h3 : kd ≠ 3) (h4 : kd ≠ 4) (h5 : kd ≠ 5) (h6 : kd ≠ 6) (h7 : kd ≠ 7) (h8 : kd ≠ 8) (w : World) : Calls Try.prog 9 #[.agg (encS l).toArray, .agg #[.int .i64 kd, .int .u64 k, .int .u64 v, .int .i64 lv]] w fun e w' => e = .returned (.tuple #[.agg (encS (doK l kd k v).l).toArray, .agg (encA 0 (doK l kd k v).d (doK l kd k v).v).toArray, .int .i64 (doK l kd k v).e]) ∧ Below w.heap.size w w' := by
  have hF := (Fr.start w).push w.heap.size rfl (encS l) 29
  replace hF := hF.push (w.heap.size + 1) (by simp) [.int .i64 kd, .int .u64 k, .int .u64 v, .int .i64 lv] 39
  replace hF := hF.push (w.heap.size + 2) (by simp) (encS []) 29
  replace hF := hF.push (w.heap.size + 3) (by simp) (encA 0 false 0) 35
  have C1 := Lib.hid (get_s l hl hn k)
  generalize hWW : doK l kd k v = W
  have HW : Hid (doK l kd k v = W) := Lib.hid hWW
  clear hWW
  go_enter Try.func9, Try.ntmps9
  go_upto_region 1 with fail
  have r2 := hF.rule 2 rfl
  apply wp_region_lit
  refine wpList_load_mid rfl 29 _ rfl w.heap.size 0 rfl (encS l) _ (hF.range 3 rfl) und29 rfl (size33 hn) ?_
  go_wp2_with fail
  refine (C1.out _).mono ?_
  rintro e w1 ⟨rfl, hb⟩
  replace hF := hF.over hb
  clear hb r2
  have r2 := hF.rule 2 rfl
  have hG := hF.sub (bl' := [(w.heap.size + 2, encS []), (w.heap.size + 3, encA 0 false 0), (w.heap.size, encS l)]) (by simp)
  have e9 : doK l kd k v = ⟨[], false, 0, 8⟩ := by unfold doK; simp [h1, h2, h3, h4, h5, h6, h7, h8]
  rw [HW.out] at e9
  subst e9
  · have b1 : (kd == 1) = false := by simpa using h1
    have b2 : (kd == 2) = false := by simpa using h2
    have b3 : (kd == 3) = false := by simpa using h3
    have b4 : (kd == 4) = false := by simpa using h4
    have b5 : (kd == 5) = false := by simpa using h5
    have b6 : (kd == 6) = false := by simpa using h6
    have b7 : (kd == 7) = false := by simpa using h7
    have b8 : (kd == 8) = false := by simpa using h8
    go_upto_region 23 with fail
    clear hF r2
    apply wp_region_lit
    refine wpList_buildTo rfl 29 _ rfl (some 96) rfl (encS []).toArray (by kernel_rfl) ?_
    refine wpList_buildTo rfl 35 _ rfl (some 97) rfl (encA 0 false 0).toArray (by kernel_rfl) ?_
    refine wpList_store_mid rfl 29 _ _ rfl (w.heap.size + 2) 0 (encS []).toArray rfl rfl (hG.there 0 rfl (by omega) (by rw [List.size_toArray])) (size33a (by simp)) (one33 _) ?_
    replace hG := hG.whole (us := encS []) (by omega) (by simp) rfl
    generalize World.setCells _ _ _ _ = w8 at *
    replace hG := hG.sub (bl' := [(w.heap.size + 3, encA 0 false 0), (w.heap.size + 2, encS [])]) (by simp)
    refine wpList_store_mid rfl 35 _ _ rfl (w.heap.size + 3) 0 (encA 0 false 0).toArray rfl rfl (hG.there 0 rfl (by omega) rfl) size35 (all_oneCell_toArray (encA_one _ _ _)) ?_
    replace hG := hG.whole (us := encA 0 false 0) (by omega) (by simp) rfl
    generalize World.setCells _ _ _ _ = w9 at *
    go_wp2_with fail
    exact bodyPost_ret (res_cct rfl _ _ (w.heap.size + 2) (w.heap.size + 3) rfl rfl _ _ _ _ (hG.range 1 rfl) (hG.range 0 rfl) und29 rfl (size33 (by simp)) und35 rfl size35) rfl ⟨rfl, hG.below⟩

theorem do_s (l : List (Int × Int)) (hl : l.Pairwise fun a b => a.1 < b.1) (hn : l.length ≤ 16) (kd k v lv : Int) (w : World) : Calls Try.prog 9 #[.agg (encS l).toArray, .agg #[.int .i64 kd, .int .u64 k, .int .u64 v, .int .i64 lv]] w fun e w' => e = .returned (.tuple #[.agg (encS (doK l kd k v).l).toArray, .agg (encA 0 (doK l kd k v).d (doK l kd k v).v).toArray, .int .i64 (doK l kd k v).e]) ∧ Below w.heap.size w w' := by
  by_cases h1 : kd = 1
  · subst h1; exact do1_s l hl hn k v lv w
  by_cases h2 : kd = 2
  · subst h2; exact do2_s l hl hn k v lv w
  by_cases h3 : kd = 3
  · subst h3; exact do3_s l hl hn k v lv w
  by_cases h4 : kd = 4
  · subst h4; exact do4_s l hl hn k v lv w
  by_cases h5 : kd = 5
  · subst h5; exact do5_s l hl hn k v lv w
  by_cases h6 : kd = 6
  · subst h6; exact do6_s l hl hn k v lv w
  by_cases h7 : kd = 7
  · subst h7; exact do7_s l hl hn k v lv w
  by_cases h8 : kd = 8
  · subst h8; exact do8_s l hl hn k v lv w
  exact doX_s l hl hn kd k v lv h1 h2 h3 h4 h5 h6 h7 h8 w
end Go.Proofs.Ytdeohigggjfjjaa

/- Whether an op may be refused so. -/
namespace Go.Proofs.Ytdeohigggjfjjaa
open Go.RowKit
set_option maxRecDepth 100000

/-- An op of that kind may be refused so. -/
def refK (kd e : Int) (d : Bool) (v : Int) : Bool :=
  if kd = 1 ∨ kd = 4 ∨ kd = 5 then decide (e = 6 ∧ d = false ∧ v = 0) || decide (e = 7 ∧ d = false ∧ v = 0)
  else if kd = 8 then decide (e = 7 ∧ d = false ∧ v = 0) else false

set_option maxHeartbeats 1600000 in
theorem ref_s (kd e : Int) (d : Bool) (v : Int) (w : World) : Calls Try.prog 30 #[.int .i64 kd, .agg #[.int .i64 e, .bool d, .int .u64 v]] w fun o w' => o = .returned (.bool (refK kd e d v)) ∧ Below w.heap.size w w' := by
  have hF := (Fr.start w).push w.heap.size rfl [.int .i64 e, .bool d, .int .u64 v] 35
  have r := hF.rule 0 rfl
  have hW := Lib.hid (show refK kd e d v = (if kd = 1 ∨ kd = 4 ∨ kd = 5 then decide (e = 6 ∧ d = false ∧ v = 0) || decide (e = 7 ∧ d = false ∧ v = 0)
  else if kd = 8 then decide (e = 7 ∧ d = false ∧ v = 0) else false) from rfl)
  generalize refK kd e d v = z at *
  go_enter Try.func30, Try.ntmps30
  go_wp2_with fail
  all_goals
    go_ret
    refine ⟨ret_bool ?_, (Below.refl _ _).alloc (Nat.le_refl _) _⟩
    rw [hW.out]
    (try go_light)
    (try simp only [bne_iff_ne, ne_eq, bne_eq_false_iff_eq, beq_iff_eq, beq_eq_false_iff_ne, Bool.or_eq_true, Bool.and_eq_true, decide_eq_true_eq, decide_eq_false_iff_not, Bool.or_eq_false_iff, Bool.not_eq_true', Bool.not_eq_false'] at *)
    try simp_all
end Go.Proofs.Ytdeohigggjfjjaa

/- Whether an op may be answered so; the state then. -/
namespace Go.Proofs.Ytdeohigggjfjjaa
open Go.RowKit
set_option maxRecDepth 100000

def mayK (l : List (Int × Int)) (kd k v e : Int) (d : Bool) (x : Int) : List (Int × Int) × Bool :=
  if refK kd e d x then (l, true)
  else if (doK l kd k v).e = 0 ∧ e = 0 ∧ d = (doK l kd k v).d ∧ (kd = 8 ∨ x = (doK l kd k v).v) then ((doK l kd k v).l, true) else ([], false)
theorem doK_le (l : List (Int × Int)) (kd k v : Int) (hn : l.length ≤ 16) : (doK l kd k v).l.length ≤ 16 := by
  have h1 := bringK_le l k 0 true 0 hn
  have h2 := bringK_le l k v (hasK l k) (getK l k) hn
  have h3 := bringK_le l k v true 0 hn
  have h4 := delK_le l k hn
  unfold doK
  repeat' split
  all_goals first | assumption | simp
set_option maxHeartbeats 4000000 in
theorem may_s (l : List (Int × Int)) (hl : l.Pairwise fun a b => a.1 < b.1) (hn : l.length ≤ 16) (kd k v lv e : Int) (d : Bool) (x : Int) (w : World) : Calls Try.prog 16 #[.agg (encS l).toArray, .agg #[.int .i64 kd, .int .u64 k, .int .u64 v, .int .i64 lv], .agg #[.int .i64 e, .bool d, .int .u64 x]] w fun o w' => o = .returned (.tuple #[.agg (encS (mayK l kd k v e d x).1).toArray, .bool (mayK l kd k v e d x).2]) ∧ Below w.heap.size w w' := by
  have hF := (Fr.start w).push w.heap.size rfl (encS l) 29
  replace hF := hF.push (w.heap.size + 1) (by simp) [.int .i64 kd, .int .u64 k, .int .u64 v, .int .i64 lv] 39
  replace hF := hF.push (w.heap.size + 2) (by simp) [.int .i64 e, .bool d, .int .u64 x] 35
  replace hF := hF.push (w.heap.size + 3) (by simp) (encS []) 29
  have C1 := Lib.hid (ref_s kd e d x)
  have C2 := Lib.hid (do_s l hl hn kd k v lv)
  have hD := doK_le l kd k v hn
  generalize hWW : mayK l kd k v e d x = W
  have HW : Hid (mayK l kd k v e d x = W) := Lib.hid hWW
  clear hWW
  go_enter Try.func16, Try.ntmps16
  go_upto_region 1 with fail
  have r1 := hF.rule 1 rfl
  have r2 := hF.rule 2 rfl
  go_wp2_with fail
  refine (C1.out _).mono ?_
  rintro o w1 ⟨rfl, hb⟩
  replace hF := hF.over hb
  clear hb r1 r2
  cases hr : refK kd e d x with
  | true =>
    have e9 : mayK l kd k v e d x = (l, true) := by unfold mayK; rw [hr]; rfl
    rw [HW.out] at e9
    subst e9
    go_upto_region 2 with fail
    apply wp_region_lit
    refine wpList_load_mid rfl 29 _ rfl w.heap.size 0 rfl (encS l) _ (hF.range 3 rfl) und29 rfl (size33 hn) ?_
    refine wpList_store_mid rfl 29 _ _ rfl (w.heap.size + 3) 0 (encS l).toArray rfl rfl (hF.there 0 rfl (by omega) (by rw [encS_length (by simp), List.size_toArray, encS_length hn])) (size33a hn) (one33 _) ?_
    have hG := hF.whole (us := encS l) (by omega) (by simp) (by rw [encS_length (by simp), encS_length hn])
    generalize World.setCells w1 _ _ _ = w3 at *
    go_wp2_with fail
    exact bodyPost_ret (res_ct rfl _ _ (w.heap.size + 3) rfl _ _ (hG.range 0 rfl) und29 rfl (size33 hn)) rfl ⟨rfl, hG.below⟩
  | false =>
    have r1 := hF.rule 2 rfl
    go_upto_region 3 with fail
    apply wp_region_lit
    refine wpList_load_mid rfl 29 _ rfl w.heap.size 0 rfl (encS l) _ (hF.range 3 rfl) und29 rfl (size33 hn) ?_
    go_wp2_with fail
    refine (C2.out _).mono ?_
    rintro o w2 ⟨rfl, hb⟩
    replace hF := hF.over hb
    clear hb r1
    generalize hdo : doK l kd k v = O at *
    obtain ⟨L, D, V, E⟩ := O
    have HO := Lib.hid hdo
    clear hdo
    rename_i aK
    refine aK _ _ ?_
    clear aK
    simp only at hD
    refine Go.Great.wpList_readTo rfl (some 16) rfl _ rfl ?_
    refine Go.Great.wpList_readTo rfl (some 20) rfl (.agg (encS L).toArray) (by go_simp) ?_
    refine Go.Great.wpList_readTo rfl (some 21) rfl (.agg (encA 0 D V).toArray) (by go_simp) ?_
    refine Go.Great.wpList_readTo rfl (some 22) rfl (.int .i64 E) (by go_simp) ?_
    have hw2 : w.heap.size + 4 ≤ w2.heap.size := by have := hF.lt 0 rfl; omega
    refine Go.Great.wpList_allocTo rfl (some 8) rfl (.pointer (some ⟨w2.heap.size, 0, none⟩)) (.cells (encS []).toArray 29) (by kernel_rfl) ?_
    replace hF := hF.push w2.heap.size rfl (encS []) 29
    have hZ : (w2.alloc (.cells (encS []).toArray 29)).heap.size = w2.heap.size + 1 := by simp
    generalize World.alloc w2 _ = w4 at *
    generalize w2.heap.size = Z at *
    refine Go.Great.wpList_allocTo rfl (some 9) rfl (.pointer (some ⟨Z + 1, 0, none⟩)) (.cells (encA 0 false 0).toArray 35) (by rw [← hZ]; kernel_rfl) ?_
    replace hF := hF.push (Z + 1) hZ (encA 0 false 0) 35
    generalize World.alloc w4 _ = w5 at *
    have hG := hF.sub (bl' := [(Z, encS []), (Z + 1, encA 0 false 0), (w.heap.size + 3, encS []), (w.heap.size + 2, [.int .i64 e, .bool d, .int .u64 x]), (w.heap.size + 1, [.int .i64 kd, .int .u64 k, .int .u64 v, .int .i64 lv])]) (by simp)
    refine wpList_store_mid rfl 29 _ _ rfl Z 0 (encS L).toArray rfl rfl (hG.there 0 rfl (by omega) (by rw [encS_length (by simp), List.size_toArray, encS_length hD])) (size33a hD) (one33 _) ?_
    replace hG := hG.whole (us := encS L) (by omega) (by simp; omega) (by rw [encS_length (by simp), encS_length hD])
    generalize World.setCells _ _ _ _ = w6 at *
    replace hG := hG.sub (bl' := [(Z + 1, encA 0 false 0), (Z, encS L), (w.heap.size + 3, encS []), (w.heap.size + 2, [.int .i64 e, .bool d, .int .u64 x]), (w.heap.size + 1, [.int .i64 kd, .int .u64 k, .int .u64 v, .int .i64 lv])]) (by simp)
    refine wpList_store_mid rfl 35 _ _ rfl (Z + 1) 0 (encA 0 D V).toArray rfl rfl (hG.there 0 rfl (by omega) rfl) size35 (all_oneCell_toArray (encA_one _ _ _)) ?_
    replace hG := hG.whole (us := encA 0 D V) (by omega) (by simp; omega) rfl
    generalize World.setCells _ _ _ _ = w7 at *
    clear hF hZ
    unfold encA at hG
    have r0 := hG.rule 0 rfl
    have r3 := hG.rule 3 rfl
    have r4 := hG.rule 4 rfl
    have f0 := hG.thaw 0 rfl (by omega)
    by_cases h8 : kd = 8
    · subst h8
      go_upto_region 6 with fail
      replace hG := hG.put (by omega) (by simp; omega) 2 (by simp) (.int .u64 x)
      generalize World.setCell _ _ _ = w8 at *
      simp only [List.set_cons_succ, List.set_cons_zero] at hG
      clear r0 r3 r4 f0
      have r0 := hG.rule 0 rfl
      have r3 := hG.rule 3 rfl
      by_cases hE : E = 0
      · subst hE
        by_cases he : e = 0
        · subst he
          by_cases hd : d = D
          · subst hd
            have e9 : mayK l 8 k v 0 d x = (L, true) := by unfold mayK; rw [hr, HO.out]; simp
            rw [HW.out] at e9
            subst e9
            go_upto_region 8 with fail
            have hK := hG.sub (bl' := [(w.heap.size + 3, encS []), (Z, encS L)]) (by simp)
            clear hG
            apply wp_region_lit
            refine wpList_load_mid rfl 29 _ rfl Z 0 rfl (encS L) _ (hK.range 1 rfl) und29 rfl (size33 hD) ?_
            refine wpList_store_mid rfl 29 _ _ rfl (w.heap.size + 3) 0 (encS L).toArray rfl rfl (hK.there 0 rfl (by omega) (by rw [encS_length (by simp), List.size_toArray, encS_length hD])) (size33a hD) (one33 _) ?_
            replace hK := hK.whole (us := encS L) (by omega) (by simp; omega) (by rw [encS_length (by simp), encS_length hD])
            generalize World.setCells _ _ _ _ = w9 at *
            go_wp2_with fail
            exact bodyPost_ret (res_ct rfl _ _ (w.heap.size + 3) rfl _ _ (hK.range 0 rfl) und29 rfl (size33 hD)) rfl ⟨rfl, hK.below⟩
          · have hd' : (d == D) = false := by simpa using hd
            have e9 : mayK l 8 k v 0 d x = ([], false) := by unfold mayK; rw [hr, HO.out]; simp [hd]
            rw [HW.out] at e9
            subst e9
            go_upto_region 7 with fail
            have hK := hG.sub (bl' := [(w.heap.size + 3, encS [])]) (by simp)
            clear hG
            apply wp_region_lit
            refine wpList_buildTo rfl 29 _ rfl (some 36) rfl (encS []).toArray (by kernel_rfl) ?_
            refine wpList_store_mid rfl 29 _ _ rfl (w.heap.size + 3) 0 (encS []).toArray rfl rfl (hK.there 0 rfl (by omega) (by rw [List.size_toArray])) (size33a (by simp)) (one33 _) ?_
            replace hK := hK.whole (us := encS []) (by omega) (by simp) rfl
            generalize World.setCells _ _ _ _ = w9 at *
            go_wp2_with fail
            exact bodyPost_ret (res_ct rfl _ _ (w.heap.size + 3) rfl _ _ (hK.range 0 rfl) und29 rfl (size33 (by simp))) rfl ⟨rfl, hK.below⟩
        · have he' : (e == 0) = false := by simpa using he
          have e9 : mayK l 8 k v e d x = ([], false) := by unfold mayK; rw [hr, HO.out]; simp [he]
          rw [HW.out] at e9
          subst e9
          go_upto_region 7 with fail
          have hK := hG.sub (bl' := [(w.heap.size + 3, encS [])]) (by simp)
          clear hG
          apply wp_region_lit
          refine wpList_buildTo rfl 29 _ rfl (some 36) rfl (encS []).toArray (by kernel_rfl) ?_
          refine wpList_store_mid rfl 29 _ _ rfl (w.heap.size + 3) 0 (encS []).toArray rfl rfl (hK.there 0 rfl (by omega) (by rw [List.size_toArray])) (size33a (by simp)) (one33 _) ?_
          replace hK := hK.whole (us := encS []) (by omega) (by simp) rfl
          generalize World.setCells _ _ _ _ = w9 at *
          go_wp2_with fail
          exact bodyPost_ret (res_ct rfl _ _ (w.heap.size + 3) rfl _ _ (hK.range 0 rfl) und29 rfl (size33 (by simp))) rfl ⟨rfl, hK.below⟩
      · have hE' : (E == 0) = false := by simpa using hE
        have e9 : mayK l 8 k v e d x = ([], false) := by unfold mayK; rw [hr, HO.out]; simp [hE]
        rw [HW.out] at e9
        subst e9
        go_upto_region 7 with fail
        have hK := hG.sub (bl' := [(w.heap.size + 3, encS [])]) (by simp)
        clear hG
        apply wp_region_lit
        refine wpList_buildTo rfl 29 _ rfl (some 36) rfl (encS []).toArray (by kernel_rfl) ?_
        refine wpList_store_mid rfl 29 _ _ rfl (w.heap.size + 3) 0 (encS []).toArray rfl rfl (hK.there 0 rfl (by omega) (by rw [List.size_toArray])) (size33a (by simp)) (one33 _) ?_
        replace hK := hK.whole (us := encS []) (by omega) (by simp) rfl
        generalize World.setCells _ _ _ _ = w9 at *
        go_wp2_with fail
        exact bodyPost_ret (res_ct rfl _ _ (w.heap.size + 3) rfl _ _ (hK.range 0 rfl) und29 rfl (size33 (by simp))) rfl ⟨rfl, hK.below⟩
    · have h8' : (kd == 8) = false := by simpa using h8
      by_cases hE : E = 0
      · subst hE
        by_cases he : e = 0
        · subst he
          by_cases hd : d = D
          · subst hd
            by_cases hx : x = V
            · subst hx
              have e9 : mayK l kd k v 0 d x = (L, true) := by unfold mayK; rw [hr, HO.out]; simp
              rw [HW.out] at e9
              subst e9
              go_upto_region 8 with fail
              have hK := hG.sub (bl' := [(w.heap.size + 3, encS []), (Z, encS L)]) (by simp)
              clear hG
              apply wp_region_lit
              refine wpList_load_mid rfl 29 _ rfl Z 0 rfl (encS L) _ (hK.range 1 rfl) und29 rfl (size33 hD) ?_
              refine wpList_store_mid rfl 29 _ _ rfl (w.heap.size + 3) 0 (encS L).toArray rfl rfl (hK.there 0 rfl (by omega) (by rw [encS_length (by simp), List.size_toArray, encS_length hD])) (size33a hD) (one33 _) ?_
              replace hK := hK.whole (us := encS L) (by omega) (by simp; omega) (by rw [encS_length (by simp), encS_length hD])
              generalize World.setCells _ _ _ _ = w9 at *
              go_wp2_with fail
              exact bodyPost_ret (res_ct rfl _ _ (w.heap.size + 3) rfl _ _ (hK.range 0 rfl) und29 rfl (size33 hD)) rfl ⟨rfl, hK.below⟩
            · have hx' : (x == V) = false := by simpa using hx
              have e9 : mayK l kd k v 0 d x = ([], false) := by unfold mayK; rw [hr, HO.out]; simp [hx, h8]
              rw [HW.out] at e9
              subst e9
              go_upto_region 7 with fail
              have hK := hG.sub (bl' := [(w.heap.size + 3, encS [])]) (by simp)
              clear hG
              apply wp_region_lit
              refine wpList_buildTo rfl 29 _ rfl (some 36) rfl (encS []).toArray (by kernel_rfl) ?_
              refine wpList_store_mid rfl 29 _ _ rfl (w.heap.size + 3) 0 (encS []).toArray rfl rfl (hK.there 0 rfl (by omega) (by rw [List.size_toArray])) (size33a (by simp)) (one33 _) ?_
              replace hK := hK.whole (us := encS []) (by omega) (by simp) rfl
              generalize World.setCells _ _ _ _ = w9 at *
              go_wp2_with fail
              exact bodyPost_ret (res_ct rfl _ _ (w.heap.size + 3) rfl _ _ (hK.range 0 rfl) und29 rfl (size33 (by simp))) rfl ⟨rfl, hK.below⟩
          · have hd' : (d == D) = false := by simpa using hd
            have e9 : mayK l kd k v 0 d x = ([], false) := by unfold mayK; rw [hr, HO.out]; simp [hd]
            rw [HW.out] at e9
            subst e9
            go_upto_region 7 with fail
            have hK := hG.sub (bl' := [(w.heap.size + 3, encS [])]) (by simp)
            clear hG
            apply wp_region_lit
            refine wpList_buildTo rfl 29 _ rfl (some 36) rfl (encS []).toArray (by kernel_rfl) ?_
            refine wpList_store_mid rfl 29 _ _ rfl (w.heap.size + 3) 0 (encS []).toArray rfl rfl (hK.there 0 rfl (by omega) (by rw [List.size_toArray])) (size33a (by simp)) (one33 _) ?_
            replace hK := hK.whole (us := encS []) (by omega) (by simp) rfl
            generalize World.setCells _ _ _ _ = w9 at *
            go_wp2_with fail
            exact bodyPost_ret (res_ct rfl _ _ (w.heap.size + 3) rfl _ _ (hK.range 0 rfl) und29 rfl (size33 (by simp))) rfl ⟨rfl, hK.below⟩
        · have he' : (e == 0) = false := by simpa using he
          have e9 : mayK l kd k v e d x = ([], false) := by unfold mayK; rw [hr, HO.out]; simp [he]
          rw [HW.out] at e9
          subst e9
          go_upto_region 7 with fail
          have hK := hG.sub (bl' := [(w.heap.size + 3, encS [])]) (by simp)
          clear hG
          apply wp_region_lit
          refine wpList_buildTo rfl 29 _ rfl (some 36) rfl (encS []).toArray (by kernel_rfl) ?_
          refine wpList_store_mid rfl 29 _ _ rfl (w.heap.size + 3) 0 (encS []).toArray rfl rfl (hK.there 0 rfl (by omega) (by rw [List.size_toArray])) (size33a (by simp)) (one33 _) ?_
          replace hK := hK.whole (us := encS []) (by omega) (by simp) rfl
          generalize World.setCells _ _ _ _ = w9 at *
          go_wp2_with fail
          exact bodyPost_ret (res_ct rfl _ _ (w.heap.size + 3) rfl _ _ (hK.range 0 rfl) und29 rfl (size33 (by simp))) rfl ⟨rfl, hK.below⟩
      · have hE' : (E == 0) = false := by simpa using hE
        have e9 : mayK l kd k v e d x = ([], false) := by unfold mayK; rw [hr, HO.out]; simp [hE]
        rw [HW.out] at e9
        subst e9
        go_upto_region 7 with fail
        have hK := hG.sub (bl' := [(w.heap.size + 3, encS [])]) (by simp)
        clear hG
        apply wp_region_lit
        refine wpList_buildTo rfl 29 _ rfl (some 36) rfl (encS []).toArray (by kernel_rfl) ?_
        refine wpList_store_mid rfl 29 _ _ rfl (w.heap.size + 3) 0 (encS []).toArray rfl rfl (hK.there 0 rfl (by omega) (by rw [List.size_toArray])) (size33a (by simp)) (one33 _) ?_
        replace hK := hK.whole (us := encS []) (by omega) (by simp) rfl
        generalize World.setCells _ _ _ _ = w9 at *
        go_wp2_with fail
        exact bodyPost_ret (res_ct rfl _ _ (w.heap.size + 3) rfl _ _ (hK.range 0 rfl) und29 rfl (size33 (by simp))) rfl ⟨rfl, hK.below⟩
end Go.Proofs.Ytdeohigggjfjjaa

/- Two states are the same by ==, if and only if they have the same pairs. -/
namespace Go.Proofs.Ytdeohigggjfjjaa
open Go.RowKit
set_option maxRecDepth 100000

def cellS (l : List (Int × Int)) (j : Nat) : Int := if j % 2 = 0 then (l.getD (j / 2) (0, 0)).1 else (l.getD (j / 2) (0, 0)).2
theorem encS_eq {l : List (Int × Int)} (h : l.length ≤ 16) : encS l = (List.range 32).map (fun j => Value.int .u64 (cellS l j)) ++ [.int .i64 l.length] := by
  apply List.ext_getElem?
  intro j
  by_cases hj : j < 32
  · rw [List.getElem?_append_left (by simpa using hj), List.getElem?_map, List.getElem?_range hj, Option.map_some]
    by_cases hl : j / 2 < l.length
    · obtain ⟨h1, h2⟩ := encS_key hl
      by_cases hp : j % 2 = 0
      · rw [show j / 2 * 2 = j by omega] at h1
        rw [h1]; unfold cellS; rw [if_pos hp]
      · rw [show j / 2 * 2 + 1 = j by omega] at h2
        rw [h2]; unfold cellS; rw [if_neg hp]
    · have e0 : (encS l)[j]? = some (.int .u64 0) := by
        unfold encS
        rw [List.append_assoc, List.getElem?_append_right (by simp; omega), List.getElem?_append_left (by simp [zeros]; omega)]
        simp [zeros, List.getElem?_replicate]
        omega
      have e1 : cellS l j = 0 := by
        have e2 : l.getD (j / 2) (0, 0) = (0, 0) := by rw [List.getD_eq_getElem?_getD, List.getElem?_eq_none (by omega)]; rfl
        unfold cellS
        rw [e2]
        simp
      rw [e0, e1]
  · by_cases h32 : j = 32
    · subst h32
      rw [encS_n h, List.getElem?_append_right (by simp)]
      simp
    · rw [List.getElem?_eq_none (by rw [encS_length h]; omega), List.getElem?_eq_none (by simp; omega)]
theorem mapM_all {α β : Type} {f : α → Option β} {g : α → β} : ∀ l : List α, (∀ x ∈ l, f x = some (g x)) → l.mapM f = some (l.map g)
  | [], _ => rfl
  | x :: l, h => by
    rw [List.mapM_cons, h x (List.mem_cons_self ..), mapM_all l fun y hy => h y (List.mem_cons_of_mem _ hy)]
    rfl
theorem wf_of {n : Int} (h : InU n) : (Lit.int .u64 n).wf = true := wf_u.2 h
theorem lits26 (a b : Int) (ha : InU a) (hb : InU b) : Try.prog.keyLits 5 26 [.int .u64 a, .int .u64 b] = some [.int .u64 a, .int .u64 b] := by
  have e1 := wf_of ha
  have e2 := wf_of hb
  generalize hA : (Lit.int .u64 a).wf = wa at *
  generalize hB : (Lit.int .u64 b).wf = wb at *
  subst e1 e2
  have u : Try.prog.underlying 23 = some (.int .u64) := by kernel_rfl
  have k1 : ∀ n : Int, (Lit.int .u64 n).wf = true → Try.prog.keyLits 4 23 [.int .u64 n] = some [.int .u64 n] := fun n h => by
    unfold Program.keyLits
    rw [u]
    simp [h]
  have h1 := k1 a hA
  have h2 := k1 b hB
  have e : Try.prog.keyLits 5 26 [.int .u64 a, .int .u64 b] = ((do let x ← Try.prog.keyLits 4 23 [.int .u64 a]; let y ← Try.prog.keyLits 4 23 [.int .u64 b]; pure [x, y]) : Option (List (List Lit))).map List.flatten := by kernel_rfl
  rw [e, h1, h2]
  rfl
theorem lits27 (c : Nat → Int) (hc : ∀ j, InU (c j)) : Try.prog.keyLits 6 27 ((List.range 32).map fun j => Value.int .u64 (c j)) = some ((List.range 32).map fun j => Lit.int .u64 (c j)) := by
  have e : Try.prog.keyLits 6 27 ((List.range 32).map fun j => Value.int .u64 (c j)) = ((List.range 16).mapM fun i => Try.prog.keyLits 5 26 (((((List.range 32).map fun j => Value.int .u64 (c j)).drop (i * 2)).take 2))).map List.flatten := by kernel_rfl
  rw [e, mapM_all (g := fun i => [Lit.int .u64 (c (i * 2)), Lit.int .u64 (c (i * 2 + 1))])]
  · rfl
  · intro i hi
    have hi' : i < 16 := by simpa using hi
    have e2 : (((List.range 32).map fun j => Value.int .u64 (c j)).drop (i * 2)).take 2 = [.int .u64 (c (i * 2)), .int .u64 (c (i * 2 + 1))] := by
      apply List.ext_getElem?
      intro j
      match j with
      | 0 => simp [List.getElem?_take, List.getElem?_range (show i * 2 < 32 by omega)]
      | 1 => simp [List.getElem?_take, List.getElem?_range (show i * 2 + 1 < 32 by omega)]
      | j + 2 => simp [List.getElem?_take]; try omega
    rw [e2]
    exact lits26 _ _ (hc _) (hc _)
theorem lits29 (c : Nat → Int) (hc : ∀ j, InU (c j)) (n : Int) (hn : In64 n) : Try.prog.keyLits 7 29 ((List.range 32).map (fun j => Value.int .u64 (c j)) ++ [.int .i64 n]) = some ((List.range 32).map (fun j => Lit.int .u64 (c j)) ++ [.int .i64 n]) := by
  have u : Try.prog.underlying 3 = some (.int .i64) := by kernel_rfl
  have hw : (Lit.int .i64 n).wf = true := wf_i.2 hn
  have k1 : Try.prog.keyLits 6 3 [.int .i64 n] = some [.int .i64 n] := by
    unfold Program.keyLits
    rw [u]
    simp [hw]
  have e : Try.prog.keyLits 7 29 ((List.range 32).map (fun j => Value.int .u64 (c j)) ++ [.int .i64 n]) = ((do let x ← Try.prog.keyLits 6 27 ((List.range 32).map fun j => Value.int .u64 (c j)); let y ← Try.prog.keyLits 6 3 [.int .i64 n]; pure [x, y]) : Option (List (List Lit))).map List.flatten := by kernel_rfl
  rw [e, lits27 c hc, k1]
  rfl
theorem cellS_in {l : List (Int × Int)} (h : ∀ p ∈ l, InU p.1 ∧ InU p.2) (j : Nat) : InU (cellS l j) := by
  have h0 : InU 0 := by unfold InU; omega
  have : InU (l.getD (j / 2) (0, 0)).1 ∧ InU (l.getD (j / 2) (0, 0)).2 := by
    rw [List.getD_eq_getElem?_getD]
    cases e : l[j / 2]? with
    | none => exact ⟨h0, h0⟩
    | some p => exact h p (List.mem_of_getElem? e)
  unfold cellS
  split
  · exact this.1
  · exact this.2
theorem state_inj {a b : List (Int × Int)} (ha : a.length ≤ 16) (hb : b.length ≤ 16) (h : (List.range 32).map (fun j => Lit.int .u64 (cellS a j)) ++ [Lit.int .i64 a.length] = (List.range 32).map (fun j => Lit.int .u64 (cellS b j)) ++ [Lit.int .i64 b.length]) : a = b := by
  obtain ⟨h1, h2⟩ := List.append_inj h (by simp)
  have hl : a.length = b.length := by simp at h2; omega
  apply List.ext_getElem hl
  intro i h3 h4
  have e : ∀ j, j < 32 → cellS a j = cellS b j := fun j hj => by
    have := congrArg (fun l => l[j]?) h1
    simpa [List.getElem?_range hj] using this
  have e1 := e (i * 2) (by omega)
  have e2 := e (i * 2 + 1) (by omega)
  unfold cellS at e1 e2
  rw [if_pos (by omega), if_pos (by omega), show i * 2 / 2 = i by omega] at e1
  rw [if_neg (by omega), if_neg (by omega), show (i * 2 + 1) / 2 = i by omega] at e2
  rw [List.getD_eq_getElem?_getD, List.getElem?_eq_getElem h3, List.getD_eq_getElem?_getD, List.getElem?_eq_getElem h4] at e1 e2
  exact Prod.ext e1 e2
theorem eq_run {a b : List (Int × Int)} (ha : SOk a) (hb : SOk b) (w : World) : (Op.equalIn 10000 29 (.agg (encS a).toArray) (.agg (encS b).toArray)).run Try.prog w = .ok (decide (a = b)) w := by
  have hk : Try.prog.keyTypeAt 5 29 = true := by kernel_rfl
  have l1 := lits29 (cellS a) (cellS_in ha.u) a.length (by have := ha.le; unfold In64; omega)
  have l2 := lits29 (cellS b) (cellS_in hb.u) b.length (by have := hb.le; unfold In64; omega)
  rw [← encS_eq ha.le] at l1
  rw [← encS_eq hb.le] at l2
  have fo : ∀ {l : List (Int × Int)}, l.length ≤ 16 → (Value.agg (encS l).toArray).formed Try.prog 29 = true := fun {l} h => by
    have e := encS_length h
    have h2 : (Value.agg (encS l).toArray).formed Try.prog 29 = decide ((encS l).toArray.size = 33) := by kernel_rfl
    rw [h2, List.size_toArray, e]; rfl
  obtain ⟨r, hr, hi⟩ := run_equalIn_deep 9995 5 29 hk w 7 7 _ _ _ _ (fo ha.le) (fo hb.le) (by simpa [Value.cells] using l1) (by simpa [Value.cells] using l2)
  have : r = decide (a = b) := by
    rw [Bool.eq_iff_iff, hi, decide_eq_true_eq]
    exact ⟨fun h => state_inj ha.le hb.le h, fun h => by rw [h]⟩
  rw [← this]
  exact hr
theorem exec_eql {o : Oper} {ρ : Operand → Value} (w : World) (x y : Operand) (ho : o.op = .binOp .eql 29 x y 29) {a b : List (Int × Int)} (ha : SOk a) (hb : SOk b) (hx : ρ x = .agg (encS a).toArray) (hy : ρ y = .agg (encS b).toArray) :
    (execOp ρ o).run Try.prog w = .ok (.value (.bool (decide (a = b)))) w := by
  unfold execOp
  simp only [ho, hx, hy, Sem.run_bind, run_eqGuard_agg (P := Try.prog) w .eql 29 x y _ _ (by kernel_rfl), run_eql_struct, Result.andThen_ok, eq_run ha hb w, Sem.run_pure]
/-- In a plain region with guards: an operation that is wanted, one that is not. -/
theorem wpList_on {P : Program} {ops : Array Oper} {rest : List Oper} {o : Oper} {a : Act} {w : World} {Q : Exit → Act → World → Prop} (v : Value) (hw : Region.wanted o (yielded ops a.tmps) = true) (hrun : (execOp a.eval o).run P w = .ok (.value v) w) (h : wpList P ops Q rest (a.put o.dst v) w) : wpList P ops Q (o :: rest) a w :=
  wpList_step fun K hK => by
    rw [if_pos hw]
    unfold Oper.wp
    rw [hrun]
    exact hK _ _ h
theorem wpList_off {P : Program} {ops : Array Oper} {rest : List Oper} {o : Oper} {a : Act} {w : World} {Q : Exit → Act → World → Prop} (hw : Region.wanted o (yielded ops a.tmps) = false) (h : wpList P ops Q rest (a.put o.dst undef) w) : wpList P ops Q (o :: rest) a w :=
  wpList_step fun K hK => by
    rw [if_neg (by rw [hw]; exact Bool.false_ne_true)]
    exact hK _ _ h
end Go.Proofs.Ytdeohigggjfjjaa
