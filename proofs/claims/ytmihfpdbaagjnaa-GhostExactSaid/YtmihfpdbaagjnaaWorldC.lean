/- The plain world: a copy of its cells. -/
import Derived.Test.YtmihfpdbaagjnaaWorldA
import Derived.Test.YtmihfpdbaagjnaaCellQ
namespace Go.Proofs.Ytmihfpdbaagjnaa
open Go.RowKit Go.Maps
set_option maxRecDepth 100000

theorem cells_w {w0 w : World} {L : List Item} {p c n : Nat} {F : Nat → Prop} {f : Plc → Int} {q : Cnt} (i j : Nat) (hE : Env w0 L w) (hi : L[i]? = some (wbox p c)) (hj : L[j]? = some (cellI c F f q n)) :
    Calls Try.prog 28 #[.pointer (some ⟨p, 0, none⟩)] w fun e w' => ∃ c' F', e = .returned (.pointer (some ⟨c', 0, none⟩)) ∧ Env w0 (cellI c' F' f ⟨0, 0, 0, 0, 0⟩ n :: L) w' := by
  go_enter Try.func28, Try.ntmps28
  go_wp2_with fail
  refine (kept_any (hE.wblk i hi)).mono ?_
  rintro e w1 ⟨rfl, rfl⟩
  go_wp2_with fail
  refine (copy_any (hE.cell j hj)).mono ?_
  rintro e w2 ⟨c', F', rfl, hC, hF, hb⟩
  go_wp2
  go_ret
  exact ⟨c', F', rfl, hE.made2 hC hF hb⟩
end Go.Proofs.Ytmihfpdbaagjnaa
