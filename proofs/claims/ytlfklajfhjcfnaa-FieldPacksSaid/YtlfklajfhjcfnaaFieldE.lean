/- Contracts of layer 1: Put of both, whatever the field and the number; rows of numbers in memory. -/
import Derived.Test.YtlfklajfhjcfnaaFieldD
import Derived.Test.YtlfklajfhjcfnaaHold
import Derived.Test.YtlfklajfhjcfnaaSeq
namespace Go.Proofs.Ytlfklajfhjcfnaa
open Go.RowKit

/-- Put's two answers, whatever the field and the number. -/
def okB (a b y : Int) : Bool := isB a b && decide (y ≤ maxI a b)
def putR (a b x y : Int) : Int := if okB a b y then putI a b x y else 0
theorem put_all (a b x y : Int) (w : World) (ha : a ≤ 9223372036854775807) (hb : -9223372036854775808 ≤ b) (hx0 : 0 ≤ x) (hx1 : x ≤ 18446744073709551615) (hy0 : 0 ≤ y) :
    Calls Try.prog 10 #[.agg #[.int .i64 a, .int .i64 b], .int .u64 x, .int .u64 y] w fun e w' => e = .returned (.tuple #[.int .u64 (putR a b x y), .bool (okB a b y)]) ∧ Below w.heap.size w w' := by
  cases h : isB a b
  · have e1 : okB a b y = false := by simp [okB, h]
    have e2 : putR a b x y = 0 := by simp [putR, e1]
    rw [e1, e2]
    exact put_no a b x y w ha hb h
  · by_cases hy : y ≤ maxI a b
    · have e1 : okB a b y = true := by simp [okB, h, hy]
      have e2 : putR a b x y = putI a b x y := by simp [putR, e1]
      rw [e1, e2]
      exact put_yes a b x y w ha hb h hx0 hx1 hy0 hy
    · have e1 : okB a b y = false := by simp [okB, hy]
      have e2 : putR a b x y = 0 := by simp [putR, e1]
      rw [e1, e2]
      exact put_above a b x y w ha hb h (by omega)
theorem refPut_all (a b x y : Int) (w : World) (ha : a ≤ 9223372036854775807) (hb : -9223372036854775808 ≤ b) (hx0 : 0 ≤ x) (hx1 : x ≤ 18446744073709551615) (hy0 : 0 ≤ y) (hy1 : y ≤ 18446744073709551615) :
    Calls Try.prog 11 #[.agg #[.int .i64 a, .int .i64 b], .int .u64 x, .int .u64 y] w fun e w' => e = .returned (.tuple #[.int .u64 (putR a b x y), .bool (okB a b y)]) ∧ Below w.heap.size w w' := by
  cases h : isB a b
  · have e1 : okB a b y = false := by simp [okB, h]
    have e2 : putR a b x y = 0 := by simp [putR, e1]
    rw [e1, e2]
    exact refPut_no a b x y w ha hb h
  · by_cases hy : y ≤ maxI a b
    · have e1 : okB a b y = true := by simp [okB, h, hy]
      have e2 : putR a b x y = putI a b x y := by simp [putR, e1]
      rw [e1, e2]
      exact refPut_yes a b x y w ha hb h hx0 hx1 hy0 hy1 hy
    · have e1 : okB a b y = false := by simp [okB, hy]
      have e2 : putR a b x y = 0 := by simp [putR, e1]
      rw [e1, e2]
      exact refPut_above a b x y w ha hb h (by omega)


/-- A row of words in memory. -/
def NumRow (w : World) (A : Option Addr) (ns : List Int) : Prop :=
  ns = [] ∨ ∃ b off, A = some ⟨b, off, none⟩ ∧ b < w.heap.size ∧ ∀ i, i < ns.length → w.cell? ⟨b, off + i, none⟩ = some (.int .u64 (ns.getD i 0))
theorem NumRow.below {w w' : World} {B : Nat} {A : Option Addr} {ns : List Int} (h : NumRow w A ns) (hB : w.heap.size ≤ B) (hb : Below B w w') : NumRow w' A ns := by
  rcases h with h | ⟨b, off, hA, hlt, hc⟩
  · exact Or.inl h
  · refine Or.inr ⟨b, off, hA, by have := hb.size; omega, fun i hi => ?_⟩
    rw [hb.cell (p := ⟨b, off + i, none⟩) (by simp; omega)]
    exact hc i hi
/-- They are words. -/
def Words (ns : List Int) : Prop := ∀ x ∈ ns, 0 ≤ x ∧ x ≤ 18446744073709551615
theorem Words.at_ {ns : List Int} (h : Words ns) {i : Nat} (hi : i < ns.length) : 0 ≤ ns.getD i 0 ∧ ns.getD i 0 ≤ 18446744073709551615 := by
  rw [List.getD_eq_getElem?_getD, List.getElem?_eq_getElem hi]
  exact h _ (List.getElem_mem hi)

theorem owns_below {w w' : World} {B base : Nat} {e : TypeId} {size : Nat} {v : Value} {n : Nat} {xs : List Value} (h : w.ownsRow base e size v n xs) (hB : w.heap.size ≤ B) (hb : Below B w w') : w'.ownsRow base e size v n xs := by
  obtain ⟨h1, h2⟩ := h
  refine ⟨h1, ?_⟩
  rcases h2 with h2 | ⟨g, cap, cur, hv, hg, hh, r⟩
  · exact Or.inl h2
  · have hlt : g < w.heap.size := (Array.getElem?_eq_some_iff.1 hh).1
    exact Or.inr ⟨g, cap, cur, hv, hg, by rw [hb.block g (by omega)]; exact hh, r⟩

/-- What Unpack has written after k rounds. -/
def gotK (fs : List (Int × Int)) (x : Int) (k : Nat) : List Value := (List.range fs.length).map fun i => if i < k then .int .u64 (getI (fs.getD i (0, 0)).1 (fs.getD i (0, 0)).2 x) else .int .u64 0
theorem gotK_zero (fs : List (Int × Int)) (x : Int) : gotK fs x 0 = List.replicate fs.length (.int .u64 0) := by
  apply List.ext_getElem?
  intro i
  by_cases h : i < fs.length <;> simp [gotK, h]
theorem gotK_succ {fs : List (Int × Int)} {x : Int} {k : Nat} (hk : k < fs.length) : (gotK fs x k).set k (.int .u64 (getI (fs.getD k (0, 0)).1 (fs.getD k (0, 0)).2 x)) = gotK fs x (k + 1) := by
  apply List.ext_getElem?
  intro i
  by_cases h : i < fs.length
  · by_cases hik : i = k
    · subst hik
      simp [gotK, h]
    · have h1 : (i < k) = (i < k + 1) := by apply propext; omega
      rw [List.getElem?_set_ne (by omega)]
      simp [gotK, h, h1]
  · rw [List.getElem?_eq_none (by simp [gotK]; omega), List.getElem?_eq_none (by simp [gotK]; omega)]
theorem gotK_at {fs : List (Int × Int)} {x : Int} {k i : Nat} (hi : i < fs.length) : (gotK fs x k)[i]? = some (if i < k then .int .u64 (getI (fs.getD i (0, 0)).1 (fs.getD i (0, 0)).2 x) else .int .u64 0) := by
  simp [gotK, hi]

/-- The numbers of all fields. -/
def gets (fs : List (Int × Int)) (x : Int) : List Int := fs.map fun p => getI p.1 p.2 x
def UnpackPost (w : World) (fs : List (Int × Int)) (x : Int) (e : Ending) (w' : World) : Prop :=
  ∃ A cap, e = .returned (.slice A fs.length cap) ∧ NumRow w' A (gets fs x) ∧ Below w.heap.size w w'
theorem numRow_got {w : World} {g base cap : Nat} {fs : List (Int × Int)} {x : Int} {k : Nat} (h : w.ownsRow base 24 1 (.slice (some ⟨g, 0, none⟩) fs.length cap) fs.length (gotK fs x k)) (hk : k = fs.length) (hg : g < w.heap.size) : NumRow w (some ⟨g, 0, none⟩) (gets fs x) := by
  refine Or.inr ⟨g, 0, rfl, hg, fun i hi => ?_⟩
  have hi' : i < fs.length := by simpa [gets] using hi
  rw [Nat.zero_add, h.cellAt i (by omega), gotK_at hi', if_pos (by omega)]
  simp [gets, hi']

theorem info_u64 : (Try.prog.info? 24).map (fun i => (i.zero, i.size, i.bytes)) = some (some (.int .u64 0), 1, 8) := by kernel_rfl

set_option maxHeartbeats 1600000 in
theorem unpack_any (A : Option Addr) (cap : Nat) (fs : List (Int × Int)) (x : Int) (w : World) (hr : FldRow w A fs) (hf : Fits fs) (hn : fs.length ≤ 70) (h0 : 0 ≤ x) (h1 : x ≤ 18446744073709551615) :
    Calls Try.prog 24 #[.slice A fs.length cap, .int .u64 x] w (UnpackPost w fs x) := by
  obtain ⟨i0, hi, hz0, hz1, hz2⟩ := info_parts info_u64
  have hbytes : i0.bytes * fs.length ≤ 281474976710656 := by rw [hz2]; omega
  have hmax : fs.length ≤ maxLen := by unfold maxLen; omega
  have hn2 : fs.length ≤ 9223372036854775806 := by omega
  go_enter Try.func24, Try.ntmps24
  go_wp2_with (refine wpList_make_full _ rfl _ _ 34 rfl w.heap.size 24 i0 (.int .u64 0) 1 Try.underlying34 hi hz0 hz1 .i64 .i64 _ _ fs.length rfl rfl rfl rfl hbytes hmax (Nat.le_refl _) ?_; intro w1 hown hgrow)
  have hb0 : Below w.heap.size w w1 := (Below.refl _ _).grown hgrow (Nat.le_refl _) (fun k hk => by cases hk)
  have hsz0 : w.heap.size < w1.heap.size := (hown.lt _ rfl).2
  have hown1 : w1.ownsRow w.heap.size 24 1 (.slice (some ⟨w.heap.size, 0, none⟩) fs.length fs.length) fs.length (gotK fs x 0) := by
    rw [gotK_zero, ← toList_madeCells_one]
    simpa [Value.cells] using hown
  clear hown hgrow hi hz0 hz1 hz2 hbytes hmax
  go_loopw [6, 7, 13] (fun _ _ i wr => ∃ k : Nat, k ≤ fs.length ∧ i = .int .i64 k ∧ wr.ownsRow w.heap.size 24 1 (.slice (some ⟨w.heap.size, 0, none⟩) fs.length fs.length) fs.length (gotK fs x k) ∧ Below w.heap.size w wr ∧ w.heap.size < wr.heap.size) (fun _ _ i _ => fs.length - (intOf i).toNat)
  case atStart => exact ⟨0, by omega, rfl, hown1, hb0, hsz0⟩
  case round =>
    obtain ⟨k, hk, rfl, hown, hB, hsz⟩ := hrel
    by_cases hlt : k < fs.length
    · have hfi := hf.at_ hlt
      rcases hr with hr | ⟨b, off, rfl, hbw, hc⟩
      · rw [hr] at hlt; simp at hlt
      have hcell := hc k hlt
      have hset := Lib.hid (gotK_succ (x := x) hlt)
      generalize fs.getD k (0, 0) = p at *
      obtain ⟨a, l⟩ := p
      have e1 : wr.cell? ⟨b, off + k * 2, none⟩ = some (.int .i64 a) := by rw [hB.cell (p := ⟨b, off + k * 2, none⟩) hbw]; exact hcell.1
      have e2 : wr.cell? ⟨b, off + k * 2 + 1, none⟩ = some (.int .i64 l) := by rw [hB.cell (p := ⟨b, off + k * 2 + 1, none⟩) hbw]; exact hcell.2
      obtain ⟨⟨-, g1⟩, ⟨g2, -⟩⟩ := hfi
      clear hc hcell hf hown1 hb0 hsz0
      simp only at g1 g2
      go_wp2_with fail
      refine (get_any a l x _ g1 g2 h0 h1).mono ?_
      rintro e w2 ⟨rfl, hb2⟩
      have hsz2 : w.heap.size < w2.heap.size := by have := hb2.size; simp at this; omega
      have hown2 := owns_below (hown.alloc (.cells #[.int .i64 a, .int .i64 l] 23)) (Nat.le_refl _) hb2
      have hB2 : Below w.heap.size w w2 := (hB.alloc (by omega) _).trans (hb2.mono (by simp; omega))
      clear hown hB hsz hb2 e1 e2
      have hfz := hown2.frozenAt k
      have hce := hown2.cellAt k (by omega)
      rw [gotK_at hlt] at hce
      have hst := hown2.stored k (.int .u64 (getI a l x))
      have HST := Lib.hid hst
      clear hst hown2
      go_wp2_with fail
      go_roundw
      case rel => exact ⟨k + 1, by omega, by go_num, by rw [← hset.out]; exact HST.out.1, hB2.setCell (by simp) _, by simpa using hsz2⟩
      case measure => simp [intOf]; omega
    · have hk2 : k = fs.length := by omega
      have hfin := Lib.hid (numRow_got hown hk2 hsz)
      clear hown hown1
      go_wp2_with fail
      go_ret
      exact ⟨_, _, rfl, hfin.out, hB⟩
end Go.Proofs.Ytlfklajfhjcfnaa
