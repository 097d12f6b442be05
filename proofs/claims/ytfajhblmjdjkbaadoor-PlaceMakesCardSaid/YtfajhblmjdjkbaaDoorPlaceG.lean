/- What the condition on the package's variables gives; and that the program's own start meets it. -/
import Derived.Test.YtfajhblmjdjkbaaDoorPlaceS
import Derived.Test.YtfajhblmjdjkbaaDoorLaw
import Derived.Test.YtfajhblmjdjkbaaDoorTie
import Derived.LaidMore
import Derived.Stop.Joined
namespace Go.Proofs.YtfajhblmjdjkbaaDoor
open Go.ChangeShapes Go.WideShapes Go.ChangeAt Go.RowKit

section
variable {P : Program} {w : World}
theorem cell_lt {b o : Nat} {v : Value} (h : w.cell? ⟨b, o, none⟩ = some v) : b < w.heap.size := by
  rcases Nat.lt_or_ge b w.heap.size with h' | h'
  · exact h'
  · simp [World.cell?, Array.getElem?_eq_none h'] at h
/-- An array of texts that reads as these holds them, cell for cell. -/
theorem cells_of_names {H : Type} {enc : TypeId × Value → H} {base : Nat} {sp : Nat → Bool} {held : Bool} {fuel : Nat} {t e : TypeId} {n : Nat} {cs : List Value} {ls : List (List UInt8)} {p : List MemPlace}
    (ht : P.underlying t = some (.array n e)) (he : P.underlying e = some .string) (hce : P.cellsOf e = 1) (hct : P.cellsOf t = n)
    (h : DataW.trod enc P w base sp held fuel t cs = some (.agg (ls.map fun l => .lit (.string l)), p)) : cs = ls.map fun l => Value.string (bytes l) := by
  cases fuel with
  | zero => simp [DataW.trod] at h
  | succ fuel =>
    simp only [DataW.trod, ht, hce, hct, Nat.mul_one] at h
    split at h
    · rename_i hl
      obtain ⟨xs, hm, hx⟩ := Option.map_eq_some_iff.1 h
      have hxs : xs.map (·.1) = ls.map fun l => (DataW.lit (.string l) : DataW H) := by simpa using congrArg Prod.fst hx
      have hxl : xs.length = n := by simpa using Lib.mapM_length hm
      have hzl : ls.length = n := by
        have := congrArg List.length hxs
        simp at this
        omega
      refine List.ext_getElem? fun i => ?_
      rcases Nat.lt_or_ge i n with hi | hi
      · obtain ⟨b, hb, hf⟩ := Lib.mapM_at hm i i (by simp [hi])
        obtain ⟨s, hc, rfl, -⟩ := DataW.trod_string he hf
        have h1 : cs[i]? = some (.string s) := by
          have := congrArg (·[0]?) hc
          simpa [List.getElem?_take, List.getElem?_drop] using this
        have h2 : (xs.map (·.1))[i]? = some (DataW.lit (.string s.data.toList) : DataW H) := by simp [hb]
        rw [hxs] at h2
        simp only [List.getElem?_map, Option.map_eq_some_iff, DataW.lit.injEq, Lit.string.injEq] at h2
        obtain ⟨l, hl', rfl⟩ := h2
        rw [h1, List.getElem?_map, hl']
        rfl
      · rw [List.getElem?_eq_none (by omega), List.getElem?_eq_none (by simp; omega)]
    · cases h
end

def laid4 : List (String × DataW Unit) := [("math/bits.deBruijn32tab", Rows.laid_math_bits_deBruijn32tab), ("math/bits.deBruijn64tab", Rows.laid_math_bits_deBruijn64tab), ("internal/strconv.uint64pow10", Rows.laid_internal_strconv_uint64pow10), ("revenant/place.parts", Rows.laid_revenant_place_parts)]

/-- What the condition gives the walks. -/
theorem glo_of_laid {W : World} (h : laidMetH Tryd.prog laid4 W) : Glo W := by
  rw [MakeChecks.laidMetH_plain _ _ _ (by kernel_rfl)] at h
  obtain ⟨ps, h, -, -⟩ := h
  obtain ⟨-, -, -, -, -, q1, -, -, -, -, h, -⟩ := h
  obtain ⟨-, -, -, -, -, q2, -, -, -, -, h, -⟩ := h
  obtain ⟨g3, t3, cs3, f3, p3, q3, hg3, ht3, hv3, hd3, h, -⟩ := h
  obtain ⟨g4, t4, cs4, f4, p4, q4, hg4, ht4, hv4, hd4, -, -⟩ := h
  obtain rfl := Option.some.inj ((show (Tryd.prog.globals[1]?).map (·.type) = some 62 by kernel_rfl).symm.trans (by rw [← Option.some.inj ((show Tryd.prog.globalNamed "internal/strconv.uint64pow10" = some 1 by kernel_rfl).symm.trans hg3)] at ht3; exact ht3))
  obtain rfl := Option.some.inj ((show (Tryd.prog.globals[0]?).map (·.type) = some 39 by kernel_rfl).symm.trans (by rw [← Option.some.inj ((show Tryd.prog.globalNamed "revenant/place.parts" = some 0 by kernel_rfl).symm.trans hg4)] at ht4; exact ht4))
  have e3 := Lib.cells_of_tab (k := .u64) (zs := Lib.pow10Tab) Tryd.underlying62 Tryd.underlying54 (by kernel_rfl) (by kernel_rfl) (hd3.trans (by rw [show (Rows.laid_internal_strconv_uint64pow10 : DataW Unit) = Lib.tabData .u64 Lib.pow10Tab by kernel_rfl]))
  have e4 := cells_of_names (ls := partsL) Tryd.underlying39 Tryd.underlying9 (by kernel_rfl) (by kernel_rfl) (hd4.trans (by rw [show (Rows.laid_revenant_place_parts : DataW Unit) = .agg (partsL.map fun l => .lit (.string l)) by kernel_rfl]))
  have hp : ∀ i, i < 7 → W.cell? ⟨0, i, none⟩ = some (.string (bytes (partsL.getD i []))) := fun i hi => by
    have := World.var?_cell (show Tryd.prog.globalNamed "revenant/place.parts" = some 0 by kernel_rfl) hv4 i
    rw [this, ← Array.getElem?_toList, e4, List.getElem?_map]
    have hl : i < partsL.length := hi
    simp [List.getD, hl]
  refine ⟨?_, hp, cell_lt (hp 0 (by decide))⟩
  unfold Lib.TabIs
  rw [hv3, ← e3]

/-- The program's own start meets the condition. -/
theorem door_met (os : Os) (args : Array Value) : laidMetH Tryd.prog laid4 ((World.doorLaid Tryd.prog 65 os).forCall (fun _ _ => 0) ⟨#[], args, []⟩).memory :=
  laidMetH_of_parts3 (fuel := 8) (laidMet_of_run' 8 (by kernel_rfl) (by kernel_rfl)) (by kernel_rfl) (by kernel_rfl)
end Go.Proofs.YtfajhblmjdjkbaaDoor
