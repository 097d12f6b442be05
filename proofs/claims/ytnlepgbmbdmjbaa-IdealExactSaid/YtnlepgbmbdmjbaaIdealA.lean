/- The ideal world: what it is in memory; where content is kept; its small functions. -/
import Derived.Test.YtnlepgbmbdmjbaaLeads
import Derived.Test.YtnlepgbmbdmjbaaSoulE
import Derived.Test.YtnlepgbmbdmjbaaSoulH
import Derived.Test.YtnlepgbmbdmjbaaPlaceO
import Derived.Test.YtnlepgbmbdmjbaaPlaceI
namespace Go.Proofs.Ytnlepgbmbdmjbaa
open Go.RowKit Go.Maps
set_option maxRecDepth 100000

/-- An ideal world's cells. -/
def iv (c : Nat) (mp : Option Nat) (s : Nat) : List Value := [.pointer (some ⟨c, 0, none⟩), .map mp, .pointer (some ⟨s, 0, none⟩)]
/-- Where a reference's cell is kept. -/
def ownP (x y z d : Int) : Plc := if contB x z = true then (5, d, z) else (x, y, z)
theorem ownP_wf {x y z d : Int} (hx : Wf (x, y, z)) (hd : In64 d) : Wf (ownP x y z d) := by
  unfold ownP
  split
  · exact ⟨by show In64 5; unfold In64; omega, hd, hx.2.2⟩
  · exact hx
theorem ownP_yes {x y z d : Int} (h : contB x z = true) : ownP x y z d = (5, d, z) := if_pos h
theorem ownP_no {x y z d : Int} (h : contB x z = false) : ownP x y z d = (x, y, z) := if_neg (by simp [h])

set_option maxHeartbeats 1600000 in
theorem own_any (x y z d o1 o2 o3 : Int) (ho : ownP x y z d = (o1, o2, o3)) (w : World) : Calls Try.prog 39 #[.agg #[.int .i64 x, .int .i64 y, .int .i64 z, .int .i64 d]] w fun e w' => e = .returned (.agg #[.int .i64 o1, .int .i64 o2, .int .i64 o3]) ∧ Below w.heap.size w w' := by
  have hE := ((Env.start w).box w.heap.size rfl [.int .i64 x, .int .i64 y, .int .i64 z, .int .i64 d] 41).box (w.heap.size + 1) (by simp) [.int .i64 0, .int .i64 0, .int .i64 0] 39
  have HO := Lib.hid ho
  clear ho
  have r1 := hE.rule 1 rfl
  go_enter Try.func39, Try.ntmps39
  go_wp2_with fail
  refine (isContent_any x y z _).mono ?_
  rintro e w1 ⟨rfl, hb⟩
  replace hE := hE.over hb
  clear r1 hb
  obtain ⟨n, hn⟩ : ∃ n, n = w.heap.size := ⟨_, rfl⟩
  rw [← hn] at hE ⊢
  have HN := Lib.hid hn
  clear hn
  cases hc : contB x z
  · have ho := HO.out
    rw [ownP_no hc] at ho
    simp only [Prod.mk.injEq] at ho
    obtain ⟨rfl, rfl, rfl⟩ := ho
    clear HO hc
    have r1 := hE.rule 1 rfl
    have r0 := hE.rule 0 rfl
    have ff := hE.thaw 0 rfl
    have f0 := ff 0 (by simp)
    have f1 := ff 1 (by simp)
    have f2 := ff 2 (by simp)
    clear ff
    go_wp2
    have hP := hE.put3 0 rfl (.int .i64 x) (.int .i64 y) (.int .i64 z)
    have q9 := hP.rule 0 rfl
    exact bodyPost_ret (v := .agg #[.int .i64 x, .int .i64 y, .int .i64 z]) (by simp [results, Try.results39, go_sem, q9]) rfl ⟨rfl, hP.below⟩
  · have ho := HO.out
    rw [ownP_yes hc] at ho
    simp only [Prod.mk.injEq] at ho
    obtain ⟨rfl, rfl, rfl⟩ := ho
    clear HO hc
    have r1 := hE.rule 1 rfl
    go_wp2_with fail
    refine (placeOf_any d z _).mono ?_
    rintro e w2 ⟨rfl, hb⟩
    replace hE := hE.over hb
    clear r1 hb
    have r0 := hE.rule 0 rfl
    have ff := hE.thaw 0 rfl
    have f0 := ff 0 (by simp)
    have f1 := ff 1 (by simp)
    have f2 := ff 2 (by simp)
    clear ff
    go_wp2
    have hP := hE.put3 0 rfl (.int .i64 5) (.int .i64 d) (.int .i64 z)
    have q9 := hP.rule 0 rfl
    exact bodyPost_ret (v := .agg #[.int .i64 5, .int .i64 d, .int .i64 z]) (by simp [results, Try.results39, go_sem, q9]) rfl ⟨rfl, hP.below⟩

section
variable {w0 w : World} {L : List Item} {g s c n m : Nat} {mp : Option Nat} {S F : Nat → Prop} {h f : Plc → Int} {l : List Int} {q : Cnt}
theorem Env.iblk (hE : Env w0 L w) (i : Nat) (hi : L[i]? = some (boxI g (iv c mp s))) : Blk 0 w g (iv c mp s) := hE.get i hi
theorem kept_i {w : World} (hb : Blk 0 w g (iv c mp s)) :
    Calls Try.prog 37 #[.pointer (some ⟨g, 0, none⟩)] w fun e w' => e = .returned (.pointer (some ⟨c, 0, none⟩)) ∧ w' = w := by
  have r := hb.rule
  unfold iv at r
  go_enter Try.func37, Try.ntmps37
  go_wp2
  go_ret
  exact ⟨rfl, rfl⟩
theorem souls_i {w : World} (hb : Blk 0 w g (iv c mp s)) :
    Calls Try.prog 11 #[.pointer (some ⟨g, 0, none⟩)] w fun e w' => e = .returned (.pointer (some ⟨s, 0, none⟩)) ∧ w' = w := by
  have r := hb.rule
  unfold iv at r
  go_enter Try.func11, Try.ntmps11
  go_wp2
  go_ret
  exact ⟨rfl, rfl⟩
end
end Go.Proofs.Ytnlepgbmbdmjbaa
