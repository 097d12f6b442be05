/- The ideal world: its contracts, where the place at which a reference's cell is kept is known. -/
import Derived.Test.YtnlepgbmbdmjbaaIdealC
import Derived.Test.YtnlepgbmbdmjbaaIdealD
namespace Go.Proofs.Ytnlepgbmbdmjbaa
open Go.RowKit Go.Maps
set_option maxRecDepth 100000

section
variable {w0 w : World} {L : List Item} {g s c n m : Nat} {mp : Option Nat} {S F : Nat → Prop} {h f : Plc → Int} {l : List Int} {q : Cnt}
theorem load_o (x y z d : Int) (hx : Wf (x, y, z)) (hd : In64 d) (i : Nat) (hE : Env w0 L w) (hg : L[i]? = some (boxI g (iv c mp s))) (hh : L[i + 1]? = some (leadsI mp h m)) (hc : L[i + 3]? = some (cellI c F f q n)) (o9 : Plc) (ho : ownP x y z d = o9) :
    Calls Try.prog 14 #[.pointer (some ⟨g, 0, none⟩), .agg #[.int .i64 x, .int .i64 y, .int .i64 z, .int .i64 d]] w fun e w' => e = .returned (.agg #[.int .u64 (f o9), .int .i64 (h o9), .bool false]) ∧ Env w0 (L.set (i + 3) (cellI c F f { q with l := wrap64 (q.l + 1) } n)) w' := by
  subst ho
  exact load_i x y z d hx hd i hE hg hh hc
theorem store_o (x y z d v e : Int) (b : Bool) (hx : Wf (x, y, z)) (hd : In64 d) (hv : InU v) (he : In64 e) (hn : n < maxLen) (hm : m < maxLen) (i : Nat) (hE : Env w0 L w) (hg : L[i]? = some (boxI g (iv c mp s))) (hh : L[i + 1]? = some (leadsI mp h m)) (hc : L[i + 3]? = some (cellI c F f q n)) (o9 : Plc) (ho : ownP x y z d = o9) :
    Calls Try.prog 13 #[.pointer (some ⟨g, 0, none⟩), .agg #[.int .i64 x, .int .i64 y, .int .i64 z, .int .i64 d], .agg #[.int .u64 v, .int .i64 e, .bool b]] w fun e' w' => e' = .returned (.tuple #[]) ∧ ∃ mp' F', Env w0 (((L.set (i + 3) (cellI c F' (upd f o9 v) { q with s := wrap64 (q.s + 1) } (n + 1))).set i (boxI g (iv c mp' s))).set (i + 1) (leadsI mp' (upd h o9 e) (m + 1))) w' := by
  subst ho
  exact store_i x y z d v e b hx hd hv he hn hm i hE hg hh hc
theorem swap_o (x y z d o oe v e : Int) (ob b : Bool) (hx : Wf (x, y, z)) (hd : In64 d) (hv : InU v) (he : In64 e) (hn : n < maxLen) (hm : m < maxLen) (i : Nat) (hE : Env w0 L w) (hg : L[i]? = some (boxI g (iv c mp s))) (hh : L[i + 1]? = some (leadsI mp h m)) (hc : L[i + 3]? = some (cellI c F f q n)) (o9 : Plc) (ho : ownP x y z d = o9) :
    Calls Try.prog 15 #[.pointer (some ⟨g, 0, none⟩), .agg #[.int .i64 x, .int .i64 y, .int .i64 z, .int .i64 d], .agg #[.int .u64 o, .int .i64 oe, .bool ob], .agg #[.int .u64 v, .int .i64 e, .bool b]] w fun e' w' => e' = .returned (.bool (decide (f o9 = o))) ∧ ∃ mp' F', Env w0 (((L.set (i + 3) (cellI c F' (swf f o9 o v) (swq q (decide (f o9 = o))) (n + 1))).set i (boxI g (iv c mp' s))).set (i + 1) (leadsI mp' (if f o9 = o then upd h o9 e else h) (m + 1))) w' := by
  subst ho
  exact swap_i x y z d o oe v e ob b hx hd hv he hn hm i hE hg hh hc
theorem add_o (x y z d v : Int) (hx : Wf (x, y, z)) (hd : In64 d) (hn : n < maxLen) (i : Nat) (hE : Env w0 L w) (hg : L[i]? = some (boxI g (iv c mp s))) (hc : L[i + 3]? = some (cellI c F f q n)) (o9 : Plc) (ho : ownP x y z d = o9) :
    Calls Try.prog 16 #[.pointer (some ⟨g, 0, none⟩), .agg #[.int .i64 x, .int .i64 y, .int .i64 z, .int .i64 d], .int .u64 v] w fun e w' => e = .returned (.int .u64 (f o9)) ∧ ∃ F', Env w0 (L.set (i + 3) (cellI c F' (upd f o9 (IntKind.u64.wrap (f o9 + v))) { q with a := wrap64 (q.a + 1) } (n + 1))) w' := by
  subst ho
  exact add_i x y z d v hx hd hn i hE hg hc
theorem peek_o (x y z : Int) (hx : Wf (x, y, z)) (hl : l.length ≤ 1000000) (i : Nat) (hE : Env w0 L w) (hg : L[i]? = some (boxI g (iv c mp s))) (hs : L[i + 2]? = some (soulI s S l)) (hc : L[i + 3]? = some (cellI c F f q n)) (o9 : Plc) (ho : ownP x y z (nowL l y) = o9) :
    Calls Try.prog 18 #[.pointer (some ⟨g, 0, none⟩), .agg #[.int .i64 x, .int .i64 y, .int .i64 z]] w fun e w' => e = .returned (.int .u64 (f o9)) ∧ Below w.heap.size w w' := by
  subst ho
  exact peek_i x y z hx hl i hE hg hs hc
end
end Go.Proofs.Ytnlepgbmbdmjbaa
