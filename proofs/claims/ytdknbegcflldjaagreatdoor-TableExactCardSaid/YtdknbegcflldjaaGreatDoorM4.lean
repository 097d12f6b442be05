/- What is proved on the way to the statement, part 4: contracts of the functions, among other things in memory. -/
import Derived.Test.YtdknbegcflldjaaGreatDoorM3

open _root_.Go.Proofs.Tryz
set_option maxRecDepth 100000
set_option maxHeartbeats 25600000
namespace Go.Proofs.YtdknbegcflldjaaGreatDoor
section
open Go.RowKit Go.Maps
structure Lm where
 p:Plc
 pc:Nat
 W:Int
 X:Int
 K:Int
 V:Int
 C:Int
 fd:Bool
def L0 (p:Plc):Lm:=⟨p,0,0,0,0,0,0,false⟩
def comeM (L:Lm) (w:Int):Int × Lm:=(if slotI w=0 then 1 else 0,{ L with W:=w,X:=0,C:=slotI w,pc:=3 })
def holdsM (lv key:Int) (vs:Bool) (L:Lm):Int × Lm :=
 if L.pc=2 then (if markB L.W then (2,L) else comeM L L.W)
 else if L.pc=4 then (0,{ L with pc:=if markB L.X then 5 else 6 })
 else if L.pc=7 then
  if L.K < key then comeM { L with p:=(5,L.C,7+lv) } L.X
  else if L.K=key then (if vs then (0,{ L with fd:=true,pc:=8 }) else (1,{ L with fd:=true }))
  else (1,L)
 else (1,L)
def laneM (lv key:Int) (vs:Bool) (e:Int) (L:Lm) (f:Plc->Int):Int × Lm × (Plc->Int) :=
 if L.pc=0 then (0,{ L with W:=f L.p,pc:=2 },f)
 else if L.pc=3 then (0,{ L with X:=f (5,L.C,7+lv),pc:=4 },f)
 else if L.pc=5 then
  if f L.p=L.W then ((comeM L (wordI false (slotI L.X) e)).1,(comeM L (wordI false (slotI L.X) e)).2,swf f L.p L.W (wordI false (slotI L.X) e))
  else (2,L,swf f L.p L.W (wordI false (slotI L.X) e))
 else if L.pc=6 then (0,{ L with K:=f (5,L.C,3),pc:=7 },f)
 else if L.pc=8 then (0,{ L with V:=f (5,L.C,4),pc:=9 },f)
 else if okB (f (1,0,0)) e then ((holdsM lv key vs L).1,(holdsM lv key vs L).2,f)
 else (2,L,f)
def isVal (pc:Nat):Bool:=pc==2 || pc==4 || pc==7 || pc==9
def rollM (e:Int) (L:Lm) (f:Plc->Int) (r:Int):Int:=if isVal L.pc && !okB (f (1,0,0)) e then wrap64 (r+1) else r
structure LmOk (L:Lm):Prop where
 pc:L.pc=0\/L.pc=2\/L.pc=3\/L.pc=4\/L.pc=5\/L.pc=6\/L.pc=7\/L.pc=8\/L.pc=9
 v:L.pc<=8->L.V=0
 fd:L.pc<=7->L.fd=false
 ft:8<=L.pc->L.fd=true
 x:L.pc<=3->L.X=0
 c0:L.pc<=2->L.C=0
 W:InU L.W
 X:InU L.X
 C:0<=L.C/\L.C<=8388607
theorem LmOk.start (p:Plc):LmOk (L0 p):=⟨.inl rfl,fun _=>rfl,fun _=>rfl,fun h=>absurd h (by simp [L0]),fun _=>rfl,fun _=>rfl,by simp [L0,InU],by simp [L0,InU],by simp [L0]⟩
structure Sm where
 on:Bool
 L:Lm
 e:Int
 r:Int
def searchM (k key:Int) (vs:Bool) (S:Sm) (f:Plc->Int):Int × Sm × (Plc->Int) :=
 if S.on then (if (laneM 0 key vs S.e S.L f).1=1 then 1 else 0,{ on:=decide ((laneM 0 key vs S.e S.L f).1≠2),L:=(laneM 0 key vs S.e S.L f).2.1,e:=S.e,r:=rollM S.e S.L f S.r },(laneM 0 key vs S.e S.L f).2.2)
 else (0,{ on:=true,L:=L0 (4,0,k),e:=epI (f (1,0,0)),r:=S.r },f)
section
variable {w:World} {c q:Nat} {k s b h l e r hs hi:Int}
theorem to_c (a d:Int) (hg:Glo w) (hb:Blk 0 w c (crv k s b h l e r hs hi q)) :
  Calls prog 273 #[.pointer (some ⟨c,0,none⟩),.agg #[.int .i64 a,.int .i64 d]] w fun o w'=>o=.returned (.agg #[.int .u64 (wordI false a e),.int .i64 d,.bool false])/\Below w.heap.size w w':=by
 have hcl:=hb.1;have HGB:=zH fun (v:World) (hv:Below w.heap.size w v)=>to_any a e v (hg.keep' hv);clear hg;have hb1:=(hb.more (.cells [.int .i64 a,.int .i64 d].toArray 136)).more (.cells [.int .u64 0,.int .i64 0,.bool false].toArray 180);have hX:=(Blk.new 0 w [.int .i64 a,.int .i64 d] 136).more (.cells [.int .u64 0,.int .i64 0,.bool false].toArray 180);have hB:=(Blk.new 0 (w.alloc (.cells [.int .i64 a,.int .i64 d].toArray 136)) [.int .u64 0,.int .i64 0,.bool false] 180).at (n':=w.heap.size+1) (by simp);have hE:=((Below.refl w.heap.size w).alloc (Nat.le_refl _) (.cells [.int .i64 a,.int .i64 d].toArray 136)).alloc (by simp) (.cells [.int .u64 0,.int .i64 0,.bool false].toArray 180);unfold crv at hb1;clear hb;go_enter func273,ntmps273;go_wp2_with fail;refine Ord.wc [10] (fun w'=>Below w.heap.size w w'/\Blk 0 w' c [.int .i64 k,.int .i64 s,.int .i64 b,.int .i64 h,.int .i64 l,.int .i64 e,.int .i64 r,.int .i64 hs,.int .i64 hi,.pointer (some ⟨q,0,none⟩)]/\Blk 0 w' w.heap.size [.int .i64 a,.int .i64 d]) (fun j w'=>Blk 0 w' (w.heap.size+1) (if j=0 then [.int .u64 0,.int .i64 0,.bool false] else [.int .u64 (wordI false a e),.int .i64 d,.bool false])) ⟨hE.drew,hb1.drew,hX.drew⟩ hB.drew fun hT9=>?_
 repeat ((first
  | (refine Ord.cv ?_ hT9.o ?_ ?_; rotate_left; (intro w5 hS; have r:=Blk.rule hS.2.1; have r2:=Blk.rule hS.2.2; go_simp<;>rfl))
  | (refine Ord.co hT9.o ?_)
  | (refine Ord.cc ?_ ?_ ?_ hT9.o ?_ ?_ ?_; rotate_left 3; (intro w5 hS; have r:=Blk.rule hS.2.1; have r2:=Blk.rule hS.2.2; go_simp; constructor<;>rfl); (intro w5 hS; (first | (with_reducible refine kp (HGB.out _ hS.1) ?_ ?_; rfl; exact fun w6 hb6=>⟨⟨hS.1.trans (hb6.mono hS.1.size),hS.2.1.under hb6,hS.2.2.under hb6⟩,fun _ h=>h.under hb6⟩)))));try simp only [Act.put,zA,zZ,zS])
 refine Ord.ch_turn (v:=undef) 0 hT9.o rfl (by decide) (Or.inl rfl) (by rfl) ?_ ?_
 ·rintro w5 hS hA2;simp only [if_true] at hA2;have r:=hA2.rule;have f0:=hA2.thaw 0 (by simp);have f1:=hA2.thaw 1 (by simp);have f2:=hA2.thaw 2 (by simp);have hz:=hS.1.size;go_simp;refine ⟨rfl,⟨?_,?_,?_⟩,?_⟩
  ·exact below_set (below_set (below_set hS.1 hz (by omega) _) (by simp; omega) (by omega) _) (by simp; omega) (by omega) _
  ·exact ((hS.2.1.off (by omega) _).off (by omega) _).off (by omega) _
  ·exact ((hS.2.2.off (by omega) _).off (by omega) _).off (by omega) _
  ·exact Blk.put3 hA2 _ _ _
 try simp only [Act.put,zA,zZ,zS]
 repeat ((first
  | (refine Ord.cv ?_ hT9.o ?_ ?_; rotate_left; (intro w5 hS; skip; go_simp<;>rfl))
  | (refine Ord.co hT9.o ?_));try simp only [Act.put,zA,zZ,zS])
 refine Ord.InText.nil fun w5 hS=>?_;clear hT9;obtain ⟨hC9,hA9⟩:=Ord.chain_end hS;clear hS;have q:=hA9.rule;simp only [show ¬ [10].length=0 by decide,if_false] at q
 go_wp2
 exact bodyPost_ret (v:=.agg #[.int .u64 (wordI false a e),.int .i64 d,.bool false]) (by simp [results,results273,go_sem,q]) rfl ⟨rfl,hC9.1⟩
end
theorem method_swap (k p:Nat) (w:World):(method (k+1) 26 (.pointer (some ⟨p,0,none⟩)) "Swap").run prog w=.ok (361,.pointer (some ⟨p,0,none⟩)) w:=by kernel_rfl
theorem ahead_swap (k p:Nat) (w:World):(nilAhead (k+1) 26 (.pointer (some ⟨p,0,none⟩)) "Swap").run prog w=.ok (some false) w:=by kernel_rfl
theorem ahead_load (k p:Nat) (w:World):(nilAhead (k+1) 26 (.pointer (some ⟨p,0,none⟩)) "Load").run prog w=.ok (some false) w:=by kernel_rfl
def pick3 {α:Type _} (a b c:α):Nat->α
 | 0=>a
 | 1=>b
 | _=>c
theorem wrapU (x:Int) (h0:0<=x) (h1:x<=18446744073709551615):IntKind.u64.wrap x=x:=by
 rw [IntKind.wrap_u64];exact Int.emod_eq_of_lt h0 (by omega)
end
section
open Go.RowKit
theorem isMarked_any (x:Int) (w:World) (hg:Glo w) (h0:0<=x) (h1:x<=18446744073709551615) :
  Calls prog 57 #[.int .u64 x] w fun e w'=>e=.returned (.bool (markB x))/\Below w.heap.size w w':=by
 obtain ⟨-,-,⟨c0,c1⟩,-,-,hs⟩:=hg;have HG:=zH (mark_one x h0 h1);go_enter func57,ntmps57;go_wp2_with fail;refine (get_any 63 1 x _ (by decide) (by decide) h0 h1).mono ?_;rintro e w1 ⟨rfl,hb⟩;generalize getI 63 1 x=y at *
 go_wp2
 go_ret;exact ⟨ret_bool (by rw [<- HG.out]; rfl),hb⟩
theorem link_any (y m:Int) (w:World):Calls prog 55 #[.int .i64 y,.int .i64 m] w fun e w'=>e=.returned (.agg #[.int .i64 5,.int .i64 y,.int .i64 (wrap64 (7+m))])/\Below w.heap.size w w':=by
 have hF:=(Fr.start w).push w.heap.size rfl [.int .i64 0,.int .i64 0,.int .i64 0] 105;go_enter func55,ntmps55;go_wp2_with fail;refine (placeOf_any _ _ _).mono ?_;rintro e w1 ⟨rfl,hb⟩;replace hF:=hF.over hb;have r:=hF.rule 0 rfl;have f:=hF.thaw 0 rfl (Nat.le_refl _)
 go_wp2
 have hP:=hF.put3 (Nat.le_refl _) (fun x hx=>by cases hx) (.int .i64 5) (.int .i64 y) (.int .i64 (wrap64 (7+m)));have q:=hP.rule 0 rfl;exact bodyPost_ret (v:=.agg #[.int .i64 5,.int .i64 y,.int .i64 (wrap64 (7+m))]) (by simp [results,results55,go_sem,q]) rfl ⟨rfl,hP.below⟩
theorem root_any (z:Int) (w:World):Calls prog 53 #[.int .i64 z] w fun e w'=>e=.returned (.agg #[.int .i64 4,.int .i64 0,.int .i64 z])/\Below w.heap.size w w':=by
 go_enter func53,ntmps53
 go_wp2
 exact bodyPost_ret (v:=.agg #[.int .i64 4,.int .i64 0,.int .i64 z]) (by simp [results,results53,go_sem]) rfl ⟨rfl,(Below.refl _ _).alloc (Nat.le_refl _) _⟩
end
section
open Go.RowKit Go.Maps
def laneC (c:Nat) (lv key:Int) (vs:Bool) (nx:Value) (st x y z W C X wd:Int) (pf:Bool) (pv:Int):List Value :=
 [.pointer (some ⟨c,0,none⟩),.int .i64 lv,.int .u64 key,.bool vs,nx,.int .i64 st,.int .i64 x,.int .i64 y,.int .i64 z,.int .i64 0,.int .u64 W,.int .i64 0,.bool false,.int .i64 C,.int .i64 0,.int .u64 X,.int .i64 0,.bool false,.int .u64 wd,.bool pf,.int .u64 pv]
def cvL (b1 b2:Nat):Value:=.func (.func 293) #[] #[.pointer (some ⟨b1,0,none⟩),.pointer (some ⟨b2,0,none⟩)]
section
variable {w:World} {a c:Nat} {lv key:Int} {vs:Bool} {nx:Value} {st x y z W C X wd:Int} {pf:Bool} {pv:Int}
theorem part_l (n:Int) (hb:Blk 0 w a (laneC c lv key vs nx st x y z W C X wd pf pv)):Calls prog 336 #[.pointer (some ⟨a,0,none⟩),.int .i64 n] w fun e w'=>e=.returned (.agg #[.int .i64 5,.int .i64 C,.int .i64 n,.int .i64 0])/\Below w.heap.size w w':=by
 have hal:=hb.1;have hX:=hb.more (.cells [.int .i64 0,.int .i64 0,.int .i64 0,.int .i64 0].toArray 185);have hZ:=Blk.new 0 w [.int .i64 0,.int .i64 0,.int .i64 0,.int .i64 0] 185;have hE:=(Below.refl w.heap.size w).alloc (Nat.le_refl _) (.cells [.int .i64 0,.int .i64 0,.int .i64 0,.int .i64 0].toArray 185);clear hb;go_enter func336,ntmps336;go_wp2_with fail;refine Ord.wc [13] (fun w'=>Below w.heap.size w w'/\Blk 0 w' a (laneC c lv key vs nx st x y z W C X wd pf pv)) (fun j w'=>Blk 0 w' w.heap.size (if j=0 then [.int .i64 0,.int .i64 0,.int .i64 0,.int .i64 0] else [.int .i64 5,.int .i64 C,.int .i64 n,.int .i64 0])) ⟨hE.drew,hX.drew⟩ hZ.drew fun hT9=>?_
 repeat ((first
  | (refine Ord.cv ?_ hT9.o ?_ ?_; rotate_left; (intro w5 hS; have r:=Blk.rule hS.2; unfold laneC at r; go_simp<;>rfl))
  | (refine Ord.co hT9.o ?_)
  | (refine Ord.cc ?_ ?_ ?_ hT9.o ?_ ?_ ?_; rotate_left 3; (intro w5 hS; have r:=Blk.rule hS.2; unfold laneC at r; go_simp; constructor<;>rfl); (intro w5 hS; (first | (with_reducible refine kp (placeOf_any _ _ _) ?_ ?_; rfl; exact fun w6 hb6=>⟨⟨hS.1.trans (hb6.mono hS.1.size),hS.2.under hb6⟩,fun _ h=>h.under hb6⟩)))));try simp only [Act.put,zA,zZ,zS])
 refine Ord.ch_turn (v:=undef) 0 hT9.o rfl (by decide) (Or.inl rfl) (by rfl) ?_ ?_
 ·rintro w5 hS hA2;simp only [if_true] at hA2;have r:=hA2.rule;have f0:=hA2.thaw 0 (by simp);have f1:=hA2.thaw 1 (by simp);have f2:=hA2.thaw 2 (by simp);have f3:=hA2.thaw 3 (by simp);have hz:=hS.1.size;go_simp;refine ⟨rfl,⟨?_,?_⟩,?_⟩
  ·exact below_set (below_set (below_set (below_set hS.1 hz (by omega) _) (by simp; omega) (by omega) _) (by simp; omega) (by omega) _) (by simp; omega) (by omega) _
  ·exact (((hS.2.off (by omega) _).off (by omega) _).off (by omega) _).off (by omega) _
  ·exact (((hA2.set (i:=0) (by simp) _).set (i:=1) (by simp) _).set (i:=2) (by simp) _).set (i:=3) (by simp) _
 try simp only [Act.put,zA,zZ,zS]
 repeat ((first
  | (refine Ord.cv ?_ hT9.o ?_ ?_; rotate_left; (intro w5 hS; skip; go_simp<;>rfl))
  | (refine Ord.co hT9.o ?_));try simp only [Act.put,zA,zZ,zS])
 refine Ord.InText.nil fun w5 hS=>?_;clear hT9;obtain ⟨hC9,hA9⟩:=Ord.chain_end hS;clear hS;have q:=hA9.rule;simp only [show ¬ [13].length=0 by decide,if_false] at q
 go_wp2
 exact bodyPost_ret (v:=.agg #[.int .i64 5,.int .i64 C,.int .i64 n,.int .i64 0]) (by simp [results,results336,go_sem,q]) rfl ⟨rfl,hC9.1⟩
theorem nextLink_l (hlv:0<=lv/\lv<=1000000) (hb:Blk 0 w a (laneC c lv key vs nx st x y z W C X wd pf pv)):Calls prog 325 #[.pointer (some ⟨a,0,none⟩)] w fun e w'=>e=.returned (.agg #[.int .i64 5,.int .i64 C,.int .i64 (7+lv),.int .i64 0])/\Below w.heap.size w w':=by
 have hal:=hb.1;have hX:=hb.more (.cells [.int .i64 0,.int .i64 0,.int .i64 0,.int .i64 0].toArray 185);have hZ:=Blk.new 0 w [.int .i64 0,.int .i64 0,.int .i64 0,.int .i64 0] 185;have hE:=(Below.refl w.heap.size w).alloc (Nat.le_refl _) (.cells [.int .i64 0,.int .i64 0,.int .i64 0,.int .i64 0].toArray 185);clear hb;have HLK:Hid (∀ v,Calls prog 55 #[.int .i64 C,.int .i64 lv] v fun e w'=>e=.returned (.agg #[.int .i64 5,.int .i64 C,.int .i64 (7+lv)])/\Below v.heap.size v w'):=zH fun v=>by
  have:=link_any C lv v
  rwa [w64 (7+lv) (by omega)] at this
 clear hlv;go_enter func325,ntmps325;go_wp2_with fail;refine Ord.wc [16] (fun w'=>Below w.heap.size w w'/\Blk 0 w' a (laneC c lv key vs nx st x y z W C X wd pf pv)) (fun j w'=>Blk 0 w' w.heap.size (if j=0 then [.int .i64 0,.int .i64 0,.int .i64 0,.int .i64 0] else [.int .i64 5,.int .i64 C,.int .i64 (7+lv),.int .i64 0])) ⟨hE.drew,hX.drew⟩ hZ.drew fun hT9=>?_
 repeat ((first
  | (refine Ord.cv ?_ hT9.o ?_ ?_; rotate_left; (intro w5 hS; have r:=Blk.rule hS.2; unfold laneC at r; go_simp<;>rfl))
  | (refine Ord.co hT9.o ?_)
  | (refine Ord.cc ?_ ?_ ?_ hT9.o ?_ ?_ ?_; rotate_left 3; (intro w5 hS; have r:=Blk.rule hS.2; unfold laneC at r; go_simp; constructor<;>rfl); (intro w5 hS; (first | (with_reducible refine kp (HLK.out _) ?_ ?_; rfl; exact fun w6 hb6=>⟨⟨hS.1.trans (hb6.mono hS.1.size),hS.2.under hb6⟩,fun _ h=>h.under hb6⟩)))));try simp only [Act.put,zA,zZ,zS])
 refine Ord.ch_turn (v:=undef) 0 hT9.o rfl (by decide) (Or.inl rfl) (by rfl) ?_ ?_
 ·rintro w5 hS hA2;simp only [if_true] at hA2;have r:=hA2.rule;have f0:=hA2.thaw 0 (by simp);have f1:=hA2.thaw 1 (by simp);have f2:=hA2.thaw 2 (by simp);have f3:=hA2.thaw 3 (by simp);have hz:=hS.1.size;go_simp;refine ⟨rfl,⟨?_,?_⟩,?_⟩
  ·exact below_set (below_set (below_set (below_set hS.1 hz (by omega) _) (by simp; omega) (by omega) _) (by simp; omega) (by omega) _) (by simp; omega) (by omega) _
  ·exact (((hS.2.off (by omega) _).off (by omega) _).off (by omega) _).off (by omega) _
  ·exact (((hA2.set (i:=0) (by simp) _).set (i:=1) (by simp) _).set (i:=2) (by simp) _).set (i:=3) (by simp) _
 try simp only [Act.put,zA,zZ,zS]
 repeat ((first
  | (refine Ord.cv ?_ hT9.o ?_ ?_; rotate_left; (intro w5 hS; skip; go_simp<;>rfl))
  | (refine Ord.co hT9.o ?_));try simp only [Act.put,zA,zZ,zS])
 refine Ord.InText.nil fun w5 hS=>?_;clear hT9;obtain ⟨hC9,hA9⟩:=Ord.chain_end hS;clear hS;have q:=hA9.rule;simp only [show ¬ [16].length=0 by decide,if_false] at q
 go_wp2
 exact bodyPost_ret (v:=.agg #[.int .i64 5,.int .i64 C,.int .i64 (7+lv),.int .i64 0]) (by simp [results,results325,go_sem,q]) rfl ⟨rfl,hC9.1⟩
end
section
variable {w0 w:World} {L:List Item} {a:Nat} {vs:List Value}
theorem goOn_l (m:Nat) (fn:Fn) (fs cs:Array Value) (hv:4 < vs.length) (hE:Env w0 L w) (hm:L[m]?=some (boxI a vs)) :
  Calls prog 116 #[.pointer (some ⟨a,4,none⟩),.func fn fs cs] w fun o w'=>o=.returned (.int .i64 0)/\Env w0 (L.set m (boxI a (vs.set 4 (.func fn fs cs)))) w':=goOn_r (o:=4) m fn fs cs hv hE hm
theorem end_l (m:Nat) (s:Int) (hv:5 < vs.length) (hE:Env w0 L w) (hm:L[m]?=some (boxI a vs)) :
  Calls prog 194 #[.pointer (some ⟨a,4,none⟩),.int .i64 s] w fun o w'=>o=.returned (.int .i64 s)/\∃ nx,Env w0 (L.set m (boxI a ((vs.set 5 (.int .i64 s)).set 4 nx))) w':=by
 refine (end_r (o:=4) m s hv hE hm).mono ?_;rintro o w1 ⟨rfl,h⟩;refine ⟨rfl,vs[4],?_⟩;have h4:(vs.set 5 (.int .i64 s)).set 4 vs[4]=vs.set 5 (.int .i64 s):=by
  apply List.ext_getElem?;intro i
  by_cases hi:i=4
  ·subst hi;rw [List.getElem?_set_self (by rw [List.length_set]; omega),List.getElem?_set_ne (by decide),List.getElem?_eq_getElem]
  ·rw [List.getElem?_set_ne (fun e=>hi e.symm)]
 rw [h4];exact h
theorem validate_l (fn:Fn) (fs cs:Array Value) (hv:4 < vs.length) (hE:Env w0 (boxI a vs::L) w) :
  Calls prog 271 #[.pointer (some ⟨a,0,none⟩),.func fn fs cs] w fun o w'=>o=.returned (.int .i64 0)/\∃ b1 b2,Env w0 (boxI a (vs.set 4 (cvL b1 b2))::boxI b1 [.pointer (some ⟨a,0,none⟩)]::boxI b2 [.func fn fs cs]::L) w':=by
 have hmf:=makeF;have hE1:=(hE.box w.heap.size rfl [.pointer (some ⟨a,0,none⟩)] 259).box (w.heap.size+1) (by simp) [.func fn fs cs] 168;have r0:=hE1.rule 1 rfl;go_enter func271,ntmps271;go_wp2_with fail;refine (goOn_l 2 _ _ _ hv hE1 rfl).mono ?_;rintro o w1 ⟨rfl,hE2⟩;go_wp2_with fail;go_ret;refine ⟨rfl,w.heap.size,w.heap.size+1,?_⟩;exact hE2.perm (List.reverse_perm [_,_,_] |>.append_right L)
theorem stepMv_l (X:Nat) (hx:∀ (ar:Array Value) (v:World),(callFunc X ar).run prog v=.ok (.enter X ar) v) (u:Value) (Q:Ending->World->Prop) (hn:w.cell? ⟨a,4,none⟩=some (mvL X a)) (hs:w.cell? ⟨a,5,none⟩=some (.int .i64 0)) (hc:Calls prog X #[.pointer (some ⟨a,0,none⟩),u] w fun e w'=>∃ s,e=.returned (.int .i64 s)/\Q (.returned (.int .i64 s)) w') :
  Calls prog 169 #[.pointer (some ⟨a,0,none⟩),u] w Q:=by
 have HST:=zH (stepMv_r (o:=4) X hx (.pointer (some ⟨a,0,none⟩)) u (fun o w'=>∃ s,o=.returned (.int .i64 s)/\Q (.returned (.int .i64 s)) w') hn hs (hc.mono fun e w' ⟨s,he,hq⟩=>⟨s,he,s,rfl,hq⟩));clear hn hs hc;go_enter func169,ntmps169;go_wp2_with fail;refine HST.out.mono ?_;rintro o w1 ⟨s,rfl,hQ⟩;go_wp2_with fail;exact hQ
theorem stepCv_l (b1 b2:Nat) (u:Value) (Q:Ending->World->Prop) (hn:w.cell? ⟨a,4,none⟩=some (cvL b1 b2)) (hs:w.cell? ⟨a,5,none⟩=some (.int .i64 0)) (hc:Calls prog 293 #[u,.pointer (some ⟨b1,0,none⟩),.pointer (some ⟨b2,0,none⟩)] w fun e w'=>∃ s,e=.returned (.int .i64 s)/\Q (.returned (.int .i64 s)) w') :
  Calls prog 169 #[.pointer (some ⟨a,0,none⟩),u] w Q:=by
 have HST:=zH (stepCv_r (o:=4) 293 b1 b2 (fun _ _=>by kernel_rfl) u (fun o w'=>∃ s,o=.returned (.int .i64 s)/\Q (.returned (.int .i64 s)) w') hn hs (hc.mono fun e w' ⟨s,he,hq⟩=>⟨s,he,s,rfl,hq⟩));clear hn hs hc;go_enter func169,ntmps169;go_wp2_with fail;refine HST.out.mono ?_;rintro o w1 ⟨s,rfl,hQ⟩;go_wp2_with fail;exact hQ
end
def pick4 {α:Type _} (a b c d:α):Nat->α
 | 0=>a
 | 1=>b
 | 2=>c
 | _=>d
section
variable {w0 w:World} {L:List Item} {a c:Nat} {lv key:Int} {vs:Bool} {nx:Value} {st x y z W C X wd:Int} {pf:Bool} {pv:Int}
theorem come0_l (v:Int) (hs:slotI v=0) (hv:InU v) (hg:Glo w0) (hE:Env w0 (boxI a (laneC c lv key vs nx st x y z W C X wd pf pv)::L) w) :
  Calls prog 294 #[.pointer (some ⟨a,0,none⟩),.agg #[.int .u64 v,.int .i64 0,.bool false]] w fun o w'=>o=.returned (.int .i64 1)/\∃ nx,Env w0 (boxI a (laneC c lv key vs nx 1 x y z v 0 0 wd pf pv)::L) w':=by
 have hmf:=makeF;have hso:=slot_of;have hE1:=hE.box w.heap.size rfl [.int .u64 v,.int .i64 0,.bool false] 180;have HLE:=zH fun (u:World) (hu:Below w0.heap.size w0 u)=>lead_c v 0 false u hv (hg.keep' hu);simp only [hs] at HLE;clear hs;clear hE hv hg;go_enter func294,ntmps294;go_wp2_with fail;refine Ord.wc [9,12,15] (fun u=>Below w0.heap.size w0 u/\Blk 0 u w.heap.size [.int .u64 v,.int .i64 0,.bool false]) (fun k w'=>Env w0 (pick4 (boxI w.heap.size [.int .u64 v,.int .i64 0,.bool false]::boxI a (laneC c lv key vs nx st x y z W C X wd pf pv)::L) (boxI w.heap.size [.int .u64 v,.int .i64 0,.bool false]::boxI a (laneC c lv key vs nx st x y z v C X wd pf pv)::L) (boxI w.heap.size [.int .u64 v,.int .i64 0,.bool false]::boxI a (laneC c lv key vs nx st x y z v 0 X wd pf pv)::L) (boxI w.heap.size [.int .u64 v,.int .i64 0,.bool false]::boxI a (laneC c lv key vs nx st x y z v 0 0 wd pf pv)::L) k) w') ⟨hE1.drew.below,hE1.drew.get 0 rfl⟩ hE1.drew fun hT9=>?_
 repeat ((first
  | (refine Ord.cv ?_ hT9.o ?_ ?_; rotate_left; (intro w5 hS; have r:=Blk.rule hS.2; go_simp<;>rfl))
  | (refine Ord.co hT9.o ?_)
  | (refine Ord.cc ?_ ?_ ?_ hT9.o ?_ ?_ ?_; rotate_left 3; (intro w5 hS; have r:=Blk.rule hS.2; go_simp; constructor<;>rfl); (intro w5 hS; (first | (with_reducible refine kp (HLE.out _ hS.1) ?_ ?_; rfl; exact fun w6 hb6=>⟨⟨hS.1.trans (hb6.mono hS.1.size),hS.2.under hb6⟩,fun _ h=>h.over hb6⟩)))));try simp only [Act.put,zA,zZ,zS])
 refine Ord.ch_turn (v:=undef) 0 hT9.o rfl (by decide) (Or.inl rfl) (by rfl) ?_ ?_
 ·rintro w5 hC5 hA5;replace hA5:Env w0 (boxI w.heap.size [.int .u64 v,.int .i64 0,.bool false]::boxI a (laneC c lv key vs nx st x y z W C X wd pf pv)::L) w5:=hA5;have r:=hA5.rule 1 rfl;unfold laneC at r;have g0:=hA5.thaw 1 rfl 10 (by simp [laneC]);have g1:=hA5.thaw 1 rfl 11 (by simp [laneC]);have g2:=hA5.thaw 1 rfl 12 (by simp [laneC]);go_simp;have h9:=(((hA5.put 1 rfl (j:=10) (by simp [laneC]) (.int .u64 v)).put 1 rfl (j:=11) (by simp [laneC]) (.int .i64 0)).put 1 rfl (j:=12) (by simp [laneC]) (.bool false));replace h9:Env w0 (boxI w.heap.size [.int .u64 v,.int .i64 0,.bool false]::boxI a (laneC c lv key vs nx st x y z v C X wd pf pv)::L) _:=h9;exact ⟨rfl,⟨h9.below,h9.get 0 rfl⟩,h9⟩
 try simp only [Act.put,zA,zZ,zS]
 repeat ((first
  | (refine Ord.cv ?_ hT9.o ?_ ?_; rotate_left; (intro w5 hS; have r:=Blk.rule hS.2; go_simp<;>rfl))
  | (refine Ord.co hT9.o ?_)
  | (refine Ord.cc ?_ ?_ ?_ hT9.o ?_ ?_ ?_; rotate_left 3; (intro w5 hS; have r:=Blk.rule hS.2; go_simp; constructor<;>rfl); (intro w5 hS; (first | (with_reducible refine kp (HLE.out _ hS.1) ?_ ?_; rfl; exact fun w6 hb6=>⟨⟨hS.1.trans (hb6.mono hS.1.size),hS.2.under hb6⟩,fun _ h=>h.over hb6⟩)))));try simp only [Act.put,zA,zZ,zS])
 refine Ord.ch_turn (v:=undef) 1 hT9.o rfl (by decide) (Or.inr ⟨_,rfl,by kernel_rfl⟩) (by rfl) ?_ ?_
 ·rintro w5 hC5 hA5;replace hA5:Env w0 (boxI w.heap.size [.int .u64 v,.int .i64 0,.bool false]::boxI a (laneC c lv key vs nx st x y z v C X wd pf pv)::L) w5:=hA5;have r:=hA5.rule 1 rfl;unfold laneC at r;have g0:=hA5.thaw 1 rfl 13 (by simp [laneC]);have g1:=hA5.thaw 1 rfl 14 (by simp [laneC]);go_simp;have h9:=((hA5.put 1 rfl (j:=13) (by simp [laneC]) (.int .i64 0)).put 1 rfl (j:=14) (by simp [laneC]) (.int .i64 0));replace h9:Env w0 (boxI w.heap.size [.int .u64 v,.int .i64 0,.bool false]::boxI a (laneC c lv key vs nx st x y z v 0 X wd pf pv)::L) _:=h9;exact ⟨rfl,⟨h9.below,h9.get 0 rfl⟩,h9⟩
 try simp only [Act.put,zA,zZ,zS]
 repeat ((first
  | (refine Ord.cv ?_ hT9.o ?_ ?_; rotate_left; (intro w5 hS; have r:=Blk.rule hS.2; go_simp<;>rfl))
  | (refine Ord.co hT9.o ?_)
  | (refine Ord.cc ?_ ?_ ?_ hT9.o ?_ ?_ ?_; rotate_left 3; (intro w5 hS; have r:=Blk.rule hS.2; go_simp; constructor<;>rfl); (intro w5 hS; (first | (with_reducible refine kp (HLE.out _ hS.1) ?_ ?_; rfl; exact fun w6 hb6=>⟨⟨hS.1.trans (hb6.mono hS.1.size),hS.2.under hb6⟩,fun _ h=>h.over hb6⟩)))));try simp only [Act.put,zA,zZ,zS])
 refine Ord.ch_turn (v:=undef) 2 hT9.o rfl (by decide) (Or.inr ⟨_,rfl,by kernel_rfl⟩) (by rfl) ?_ ?_
 ·rintro w5 hC5 hA5;replace hA5:Env w0 (boxI w.heap.size [.int .u64 v,.int .i64 0,.bool false]::boxI a (laneC c lv key vs nx st x y z v 0 X wd pf pv)::L) w5:=hA5;have r:=hA5.rule 1 rfl;unfold laneC at r;have g0:=hA5.thaw 1 rfl 15 (by simp [laneC]);have g1:=hA5.thaw 1 rfl 16 (by simp [laneC]);have g2:=hA5.thaw 1 rfl 17 (by simp [laneC]);go_simp;have h9:=(((hA5.put 1 rfl (j:=15) (by simp [laneC]) (.int .u64 0)).put 1 rfl (j:=16) (by simp [laneC]) (.int .i64 0)).put 1 rfl (j:=17) (by simp [laneC]) (.bool false));replace h9:Env w0 (boxI w.heap.size [.int .u64 v,.int .i64 0,.bool false]::boxI a (laneC c lv key vs nx st x y z v 0 0 wd pf pv)::L) _:=h9;exact ⟨rfl,⟨h9.below,h9.get 0 rfl⟩,h9⟩
 try simp only [Act.put,zA,zZ,zS]
 repeat ((first
  | (refine Ord.cv ?_ hT9.o ?_ ?_; rotate_left; (intro w5 hS; have r:=Blk.rule hS.2; go_simp<;>rfl))
  | (refine Ord.co hT9.o ?_)
  | (refine Ord.cc ?_ ?_ ?_ hT9.o ?_ ?_ ?_; rotate_left 3; (intro w5 hS; have r:=Blk.rule hS.2; go_simp; constructor<;>rfl); (intro w5 hS; (first | (with_reducible refine kp (HLE.out _ hS.1) ?_ ?_; rfl; exact fun w6 hb6=>⟨⟨hS.1.trans (hb6.mono hS.1.size),hS.2.under hb6⟩,fun _ h=>h.over hb6⟩)))));try simp only [Act.put,zA,zZ,zS])
 refine Ord.InText.nil fun w5 hS=>?_;clear hT9;obtain ⟨hC9,hA9⟩:=Ord.chain_end hS;clear hS;replace hA9:Env w0 (boxI w.heap.size [.int .u64 v,.int .i64 0,.bool false]::boxI a (laneC c lv key vs nx st x y z v 0 0 wd pf pv)::L) w5:=hA9;clear hE1 hC9 HLE;have r:=hA9.rule 1 rfl;unfold laneC at r;have g0:=hA9.thaw 1 rfl 13 (by simp [laneC]);have g1:=hA9.thaw 1 rfl 14 (by simp [laneC]);have hP:=(hA9.put 1 rfl (j:=13) (by simp [laneC]) (.int .i64 0)).put 1 rfl (j:=14) (by simp [laneC]) (.int .i64 0);replace hP:Env w0 (boxI w.heap.size [.int .u64 v,.int .i64 0,.bool false]::boxI a (laneC c lv key vs nx st x y z v 0 0 wd pf pv)::L) _:=hP;go_wp2_with fail;refine (end_l 1 1 (by simp [laneC]) hP rfl).mono ?_;rintro o w6 ⟨rfl,nx,hE6⟩;go_wp2_with fail;go_ret;exact ⟨rfl,nx,hE6.sub (.cons _ (List.Sublist.refl _))⟩
theorem comeY_l (v:Int) (hs:slotI v≠0) (hv:InU v) (hg:Glo w0) (hE:Env w0 (boxI a (laneC c lv key vs nx st x y z W C X wd pf pv)::L) w) :
  Calls prog 294 #[.pointer (some ⟨a,0,none⟩),.agg #[.int .u64 v,.int .i64 0,.bool false]] w fun o w'=>o=.returned (.int .i64 0)/\Env w0 (boxI a (laneC c lv key vs (mvL 309 a) st x y z v (slotI v) 0 wd pf pv)::L) w':=by
 have hmf:=makeF;have hso:=slot_of;have hE1:=hE.box w.heap.size rfl [.int .u64 v,.int .i64 0,.bool false] 180;have HLE:=zH fun (u:World) (hu:Below w0.heap.size w0 u)=>lead_c v 0 false u hv (hg.keep' hu);obtain ⟨s,hs9⟩:∃ s,slotI v=s:=⟨_,rfl⟩;rw [hs9] at hs ⊢;simp only [hs9] at HLE;have hsb:(s==0)=false:=by simpa using hs
 clear hs9 hs;clear hE hv hg;go_enter func294,ntmps294;go_wp2_with fail;refine Ord.wc [9,12,15] (fun u=>Below w0.heap.size w0 u/\Blk 0 u w.heap.size [.int .u64 v,.int .i64 0,.bool false]) (fun k w'=>Env w0 (pick4 (boxI w.heap.size [.int .u64 v,.int .i64 0,.bool false]::boxI a (laneC c lv key vs nx st x y z W C X wd pf pv)::L) (boxI w.heap.size [.int .u64 v,.int .i64 0,.bool false]::boxI a (laneC c lv key vs nx st x y z v C X wd pf pv)::L) (boxI w.heap.size [.int .u64 v,.int .i64 0,.bool false]::boxI a (laneC c lv key vs nx st x y z v s X wd pf pv)::L) (boxI w.heap.size [.int .u64 v,.int .i64 0,.bool false]::boxI a (laneC c lv key vs nx st x y z v s 0 wd pf pv)::L) k) w') ⟨hE1.drew.below,hE1.drew.get 0 rfl⟩ hE1.drew fun hT9=>?_
 repeat ((first
  | (refine Ord.cv ?_ hT9.o ?_ ?_; rotate_left; (intro w5 hS; have r:=Blk.rule hS.2; go_simp<;>rfl))
  | (refine Ord.co hT9.o ?_)
  | (refine Ord.cc ?_ ?_ ?_ hT9.o ?_ ?_ ?_; rotate_left 3; (intro w5 hS; have r:=Blk.rule hS.2; go_simp; constructor<;>rfl); (intro w5 hS; (first | (with_reducible refine kp (HLE.out _ hS.1) ?_ ?_; rfl; exact fun w6 hb6=>⟨⟨hS.1.trans (hb6.mono hS.1.size),hS.2.under hb6⟩,fun _ h=>h.over hb6⟩)))));try simp only [Act.put,zA,zZ,zS])
 refine Ord.ch_turn (v:=undef) 0 hT9.o rfl (by decide) (Or.inl rfl) (by rfl) ?_ ?_
 ·rintro w5 hC5 hA5;replace hA5:Env w0 (boxI w.heap.size [.int .u64 v,.int .i64 0,.bool false]::boxI a (laneC c lv key vs nx st x y z W C X wd pf pv)::L) w5:=hA5;have r:=hA5.rule 1 rfl;unfold laneC at r;have g0:=hA5.thaw 1 rfl 10 (by simp [laneC]);have g1:=hA5.thaw 1 rfl 11 (by simp [laneC]);have g2:=hA5.thaw 1 rfl 12 (by simp [laneC]);go_simp;have h9:=(((hA5.put 1 rfl (j:=10) (by simp [laneC]) (.int .u64 v)).put 1 rfl (j:=11) (by simp [laneC]) (.int .i64 0)).put 1 rfl (j:=12) (by simp [laneC]) (.bool false));replace h9:Env w0 (boxI w.heap.size [.int .u64 v,.int .i64 0,.bool false]::boxI a (laneC c lv key vs nx st x y z v C X wd pf pv)::L) _:=h9;exact ⟨rfl,⟨h9.below,h9.get 0 rfl⟩,h9⟩
 try simp only [Act.put,zA,zZ,zS]
 repeat ((first
  | (refine Ord.cv ?_ hT9.o ?_ ?_; rotate_left; (intro w5 hS; have r:=Blk.rule hS.2; go_simp<;>rfl))
  | (refine Ord.co hT9.o ?_)
  | (refine Ord.cc ?_ ?_ ?_ hT9.o ?_ ?_ ?_; rotate_left 3; (intro w5 hS; have r:=Blk.rule hS.2; go_simp; constructor<;>rfl); (intro w5 hS; (first | (with_reducible refine kp (HLE.out _ hS.1) ?_ ?_; rfl; exact fun w6 hb6=>⟨⟨hS.1.trans (hb6.mono hS.1.size),hS.2.under hb6⟩,fun _ h=>h.over hb6⟩)))));try simp only [Act.put,zA,zZ,zS])
 refine Ord.ch_turn (v:=undef) 1 hT9.o rfl (by decide) (Or.inr ⟨_,rfl,by kernel_rfl⟩) (by rfl) ?_ ?_
 ·rintro w5 hC5 hA5;replace hA5:Env w0 (boxI w.heap.size [.int .u64 v,.int .i64 0,.bool false]::boxI a (laneC c lv key vs nx st x y z v C X wd pf pv)::L) w5:=hA5;have r:=hA5.rule 1 rfl;unfold laneC at r;have g0:=hA5.thaw 1 rfl 13 (by simp [laneC]);have g1:=hA5.thaw 1 rfl 14 (by simp [laneC]);go_simp;have h9:=((hA5.put 1 rfl (j:=13) (by simp [laneC]) (.int .i64 s)).put 1 rfl (j:=14) (by simp [laneC]) (.int .i64 0));replace h9:Env w0 (boxI w.heap.size [.int .u64 v,.int .i64 0,.bool false]::boxI a (laneC c lv key vs nx st x y z v s X wd pf pv)::L) _:=h9;exact ⟨rfl,⟨h9.below,h9.get 0 rfl⟩,h9⟩
 try simp only [Act.put,zA,zZ,zS]
 repeat ((first
  | (refine Ord.cv ?_ hT9.o ?_ ?_; rotate_left; (intro w5 hS; have r:=Blk.rule hS.2; go_simp<;>rfl))
  | (refine Ord.co hT9.o ?_)
  | (refine Ord.cc ?_ ?_ ?_ hT9.o ?_ ?_ ?_; rotate_left 3; (intro w5 hS; have r:=Blk.rule hS.2; go_simp; constructor<;>rfl); (intro w5 hS; (first | (with_reducible refine kp (HLE.out _ hS.1) ?_ ?_; rfl; exact fun w6 hb6=>⟨⟨hS.1.trans (hb6.mono hS.1.size),hS.2.under hb6⟩,fun _ h=>h.over hb6⟩)))));try simp only [Act.put,zA,zZ,zS])
 refine Ord.ch_turn (v:=undef) 2 hT9.o rfl (by decide) (Or.inr ⟨_,rfl,by kernel_rfl⟩) (by rfl) ?_ ?_
 ·rintro w5 hC5 hA5;replace hA5:Env w0 (boxI w.heap.size [.int .u64 v,.int .i64 0,.bool false]::boxI a (laneC c lv key vs nx st x y z v s X wd pf pv)::L) w5:=hA5;have r:=hA5.rule 1 rfl;unfold laneC at r;have g0:=hA5.thaw 1 rfl 15 (by simp [laneC]);have g1:=hA5.thaw 1 rfl 16 (by simp [laneC]);have g2:=hA5.thaw 1 rfl 17 (by simp [laneC]);go_simp;have h9:=(((hA5.put 1 rfl (j:=15) (by simp [laneC]) (.int .u64 0)).put 1 rfl (j:=16) (by simp [laneC]) (.int .i64 0)).put 1 rfl (j:=17) (by simp [laneC]) (.bool false));replace h9:Env w0 (boxI w.heap.size [.int .u64 v,.int .i64 0,.bool false]::boxI a (laneC c lv key vs nx st x y z v s 0 wd pf pv)::L) _:=h9;exact ⟨rfl,⟨h9.below,h9.get 0 rfl⟩,h9⟩
 try simp only [Act.put,zA,zZ,zS]
 repeat ((first
  | (refine Ord.cv ?_ hT9.o ?_ ?_; rotate_left; (intro w5 hS; have r:=Blk.rule hS.2; go_simp<;>rfl))
  | (refine Ord.co hT9.o ?_)
  | (refine Ord.cc ?_ ?_ ?_ hT9.o ?_ ?_ ?_; rotate_left 3; (intro w5 hS; have r:=Blk.rule hS.2; go_simp; constructor<;>rfl); (intro w5 hS; (first | (with_reducible refine kp (HLE.out _ hS.1) ?_ ?_; rfl; exact fun w6 hb6=>⟨⟨hS.1.trans (hb6.mono hS.1.size),hS.2.under hb6⟩,fun _ h=>h.over hb6⟩)))));try simp only [Act.put,zA,zZ,zS])
 refine Ord.InText.nil fun w5 hS=>?_;clear hT9;obtain ⟨hC9,hA9⟩:=Ord.chain_end hS;clear hS;replace hA9:Env w0 (boxI w.heap.size [.int .u64 v,.int .i64 0,.bool false]::boxI a (laneC c lv key vs nx st x y z v s 0 wd pf pv)::L) w5:=hA9;clear hE1 hC9 HLE;have r:=hA9.rule 1 rfl;unfold laneC at r;go_wp2_with fail;refine (goOn_l 1 _ _ _ (by simp [laneC]) hA9 rfl).mono ?_;rintro o w6 ⟨rfl,hE6⟩;go_wp2_with fail;go_ret;exact ⟨rfl,hE6.sub (.cons _ (List.Sublist.refl _))⟩
end
section
variable {w0 w:World} {R:List Item} {a:Nat} {S:ST} {lv key:Int} {vs:Bool} {nx:Value} {st x y z W C X wd:Int} {pf:Bool} {pv:Int}
theorem loadInto_l (v:Int) (hfx:S.f (x,y,z)=v) (hwf:Wf (x,y,z)) (hE:Env w0 (boxI a (laneC S.c lv key vs nx st x y z W C X wd pf pv)::LT S R) w) :
  Calls prog 242 #[.pointer (some ⟨a,0,none⟩),.iface 26 (.pointer (some ⟨S.p,0,none⟩))] w fun o w'=>o=.returned (.int .i64 0)/\∃ b1 b2,Env w0 (boxI a (laneC S.c lv key vs (cvL b1 b2) st x y z v C X wd pf pv)::boxI b1 [.pointer (some ⟨a,0,none⟩)]::boxI b2 [mvL 272 a]::LT { S with qc:={ S.qc with l:=wrap64 (S.qc.l+1) } } R) w':=by
 have hmf:=makeF;have hah:=ahead_load;have hvw:=val_word;have HX:=zH hfx;have HWF:=zH hwf;clear hfx hwf;go_enter func242,ntmps242;go_wp2_with fail;refine Ord.wc [9,12] (fun u=>Below w0.heap.size w0 u/\∃ n8,Blk 0 u a (laneC S.c lv key vs nx st x y z n8 C X wd pf pv)) (fun k w'=>Env w0 (pick3 (boxI a (laneC S.c lv key vs nx st x y z W C X wd pf pv)::LT S R) (boxI a (laneC S.c lv key vs nx st x y z W C X wd pf pv)::LT { S with qc:={ S.qc with l:=wrap64 (S.qc.l+1) } } R) (boxI a (laneC S.c lv key vs nx st x y z v C X wd pf pv)::LT { S with qc:={ S.qc with l:=wrap64 (S.qc.l+1) } } R) k) w') ⟨hE.drew.below,W,hE.drew.get 0 rfl⟩ hE.drew fun hT9=>?_
 repeat ((first
  | (refine Ord.cv ?_ hT9.o ?_ ?_; rotate_left; (intro w5 hS; obtain ⟨hS0,n9,hS1⟩:=hS; have r:=Blk.rule hS1; unfold laneC at r; go_simp<;>rfl))
  | (refine Ord.co hT9.o ?_));try simp only [Act.put,zA,zZ,zS])
 refine Ord.ch_turn (v:=.agg #[.int .u64 v,.int .i64 0,.bool false]) 0 hT9.o rfl (by decide) (Or.inl rfl) (by rfl) ?_ ?_
 ·rintro w5 hC5 hA5;replace hA5:Env w0 (boxI a (laneC S.c lv key vs nx st x y z W C X wd pf pv)::LT S R) w5:=hA5;go_simp;rw [method_load];simp only [Result.andThen_ok];go_simp;simp only [Ord.LandsIn];have hl:=load_w x y z 0 HWF.out 3 4 (by decide) hA5 rfl rfl;rw [HX.out] at hl;refine hl.mono ?_;rintro e w6 ⟨rfl,hE6⟩;exact ⟨rfl,⟨hE6.below,_,hE6.get 0 rfl⟩,hE6⟩
 try simp only [Act.put,zA,zZ,zS]
 repeat ((first
  | (refine Ord.cv ?_ hT9.o ?_ ?_; rotate_left; (intro w5 hS; skip; go_simp<;>rfl))
  | (refine Ord.co hT9.o ?_));try simp only [Act.put,zA,zZ,zS])
 refine Ord.ch_turn (v:=undef) 1 hT9.o rfl (by decide) (Or.inr ⟨_,rfl,by kernel_rfl⟩) (by rfl) ?_ ?_
 ·rintro w5 hC5 hA5;replace hA5:Env w0 (boxI a (laneC S.c lv key vs nx st x y z W C X wd pf pv)::LT { S with qc:={ S.qc with l:=wrap64 (S.qc.l+1) } } R) w5:=hA5;have r:=hA5.rule 0 rfl;unfold laneC at r;have g0:=hA5.thaw 0 rfl 10 (by simp [laneC]);have g1:=hA5.thaw 0 rfl 11 (by simp [laneC]);have g2:=hA5.thaw 0 rfl 12 (by simp [laneC]);go_simp;have h9:=(((hA5.put 0 rfl (j:=10) (by simp [laneC]) (.int .u64 v)).put 0 rfl (j:=11) (by simp [laneC]) (.int .i64 0)).put 0 rfl (j:=12) (by simp [laneC]) (.bool false));replace h9:Env w0 (boxI a (laneC S.c lv key vs nx st x y z v C X wd pf pv)::LT { S with qc:={ S.qc with l:=wrap64 (S.qc.l+1) } } R) _:=h9;exact ⟨rfl,⟨h9.below,_,h9.get 0 rfl⟩,h9⟩
 try simp only [Act.put,zA,zZ,zS]
 repeat ((first
  | (refine Ord.cv ?_ hT9.o ?_ ?_; rotate_left; (intro w5 hS; skip; go_simp<;>rfl))
  | (refine Ord.co hT9.o ?_));try simp only [Act.put,zA,zZ,zS])
 refine Ord.InText.nil fun w5 hS=>?_;clear hT9;obtain ⟨hC9,hA9⟩:=Ord.chain_end hS;clear hS;replace hA9:Env w0 (boxI a (laneC S.c lv key vs nx st x y z v C X wd pf pv)::LT { S with qc:={ S.qc with l:=wrap64 (S.qc.l+1) } } R) w5:=hA9;clear hE hC9;have r:=hA9.rule 0 rfl;unfold laneC at r;go_wp2_with fail;refine (validate_l _ _ _ (by simp [laneC]) hA9).mono ?_;rintro o w6 ⟨rfl,b1,b2,hE6⟩;go_wp2_with fail;go_ret;exact ⟨rfl,b1,b2,hE6⟩
theorem loadOut_l (hlv:0<=lv/\lv<=1000000) (v:Int) (hfx:S.f (5,C,7+lv)=v) (hwf:Wf (5,C,7+lv)) (hE:Env w0 (boxI a (laneC S.c lv key vs nx st x y z W C X wd pf pv)::LT S R) w) :
  Calls prog 309 #[.pointer (some ⟨a,0,none⟩),.iface 26 (.pointer (some ⟨S.p,0,none⟩))] w fun o w'=>o=.returned (.int .i64 0)/\∃ b1 b2,Env w0 (boxI a (laneC S.c lv key vs (cvL b1 b2) st x y z W C v wd pf pv)::boxI b1 [.pointer (some ⟨a,0,none⟩)]::boxI b2 [mvL 326 a]::LT { S with qc:={ S.qc with l:=wrap64 (S.qc.l+1) } } R) w':=by
 have hmf:=makeF;have hah:=ahead_load;have hvw:=val_word;have HX:=zH hfx;have HWF:=zH hwf;clear hfx hwf;go_enter func309,ntmps309;go_wp2_with fail;refine Ord.wc [7,10] (fun u=>Below w0.heap.size w0 u/\∃ n8,Blk 0 u a (laneC S.c lv key vs nx st x y z W C n8 wd pf pv)) (fun k w'=>Env w0 (pick3 (boxI a (laneC S.c lv key vs nx st x y z W C X wd pf pv)::LT S R) (boxI a (laneC S.c lv key vs nx st x y z W C X wd pf pv)::LT { S with qc:={ S.qc with l:=wrap64 (S.qc.l+1) } } R) (boxI a (laneC S.c lv key vs nx st x y z W C v wd pf pv)::LT { S with qc:={ S.qc with l:=wrap64 (S.qc.l+1) } } R) k) w') ⟨hE.drew.below,X,hE.drew.get 0 rfl⟩ hE.drew fun hT9=>?_
 repeat ((first
  | (refine Ord.cv ?_ hT9.o ?_ ?_; rotate_left; (intro w5 hS; obtain ⟨hS0,n9,hS1⟩:=hS; have r:=Blk.rule hS1; unfold laneC at r; go_simp<;>rfl))
  | (refine Ord.co hT9.o ?_)
  | (refine Ord.cc ?_ ?_ ?_ hT9.o ?_ ?_ ?_; rotate_left 3; (intro w5 hS; obtain ⟨hS0,n9,hS1⟩:=hS; have r:=Blk.rule hS1; unfold laneC at r; go_simp; constructor<;>rfl); (intro w5 hS; (first | (obtain ⟨hS0,n9,hS1⟩:=hS; with_reducible refine kp (nextLink_l hlv hS1) ?_ ?_; rfl; exact fun w6 hb6=>⟨⟨hS0.trans (hb6.mono hS0.size),n9,hS1.under hb6⟩,fun k h=>h.over hb6⟩)))));try simp only [Act.put,zA,zZ,zS])
 refine Ord.ch_turn (v:=.agg #[.int .u64 v,.int .i64 0,.bool false]) 0 hT9.o rfl (by decide) (Or.inl rfl) (by rfl) ?_ ?_
 ·rintro w5 hC5 hA5;replace hA5:Env w0 (boxI a (laneC S.c lv key vs nx st x y z W C X wd pf pv)::LT S R) w5:=hA5;go_simp;rw [method_load];simp only [Result.andThen_ok];go_simp;simp only [Ord.LandsIn];have hl:=load_w 5 C (7+lv) 0 HWF.out 3 4 (by decide) hA5 rfl rfl;rw [HX.out] at hl;refine hl.mono ?_;rintro e w6 ⟨rfl,hE6⟩;exact ⟨rfl,⟨hE6.below,_,hE6.get 0 rfl⟩,hE6⟩
 try simp only [Act.put,zA,zZ,zS]
 repeat ((first
  | (refine Ord.cv ?_ hT9.o ?_ ?_; rotate_left; (intro w5 hS; skip; go_simp<;>rfl))
  | (refine Ord.co hT9.o ?_));try simp only [Act.put,zA,zZ,zS])
 refine Ord.ch_turn (v:=undef) 1 hT9.o rfl (by decide) (Or.inr ⟨_,rfl,by kernel_rfl⟩) (by rfl) ?_ ?_
 ·rintro w5 hC5 hA5;replace hA5:Env w0 (boxI a (laneC S.c lv key vs nx st x y z W C X wd pf pv)::LT { S with qc:={ S.qc with l:=wrap64 (S.qc.l+1) } } R) w5:=hA5;have r:=hA5.rule 0 rfl;unfold laneC at r;have g0:=hA5.thaw 0 rfl 15 (by simp [laneC]);have g1:=hA5.thaw 0 rfl 16 (by simp [laneC]);have g2:=hA5.thaw 0 rfl 17 (by simp [laneC]);go_simp;have h9:=(((hA5.put 0 rfl (j:=15) (by simp [laneC]) (.int .u64 v)).put 0 rfl (j:=16) (by simp [laneC]) (.int .i64 0)).put 0 rfl (j:=17) (by simp [laneC]) (.bool false));replace h9:Env w0 (boxI a (laneC S.c lv key vs nx st x y z W C v wd pf pv)::LT { S with qc:={ S.qc with l:=wrap64 (S.qc.l+1) } } R) _:=h9;exact ⟨rfl,⟨h9.below,_,h9.get 0 rfl⟩,h9⟩
 try simp only [Act.put,zA,zZ,zS]
 repeat ((first
  | (refine Ord.cv ?_ hT9.o ?_ ?_; rotate_left; (intro w5 hS; skip; go_simp<;>rfl))
  | (refine Ord.co hT9.o ?_));try simp only [Act.put,zA,zZ,zS])
 refine Ord.InText.nil fun w5 hS=>?_;clear hT9;obtain ⟨hC9,hA9⟩:=Ord.chain_end hS;clear hS;replace hA9:Env w0 (boxI a (laneC S.c lv key vs nx st x y z W C v wd pf pv)::LT { S with qc:={ S.qc with l:=wrap64 (S.qc.l+1) } } R) w5:=hA9;clear hE hC9;have r:=hA9.rule 0 rfl;unfold laneC at r;go_wp2_with fail;refine (validate_l _ _ _ (by simp [laneC]) hA9).mono ?_;rintro o w6 ⟨rfl,b1,b2,hE6⟩;go_wp2_with fail;go_ret;exact ⟨rfl,b1,b2,hE6⟩
theorem loadKey_l (v:Int) (hfx:S.f (5,C,3)=v) (hwf:Wf (5,C,3)) (hE:Env w0 (boxI a (laneC S.c lv key vs nx st x y z W C X wd pf pv)::LT S R) w) :
  Calls prog 333 #[.pointer (some ⟨a,0,none⟩),.iface 26 (.pointer (some ⟨S.p,0,none⟩))] w fun o w'=>o=.returned (.int .i64 0)/\∃ b1 b2,Env w0 (boxI a (laneC S.c lv key vs (cvL b1 b2) st x y z W C X v pf pv)::boxI b1 [.pointer (some ⟨a,0,none⟩)]::boxI b2 [mvL 337 a]::LT { S with qc:={ S.qc with l:=wrap64 (S.qc.l+1) } } R) w':=by
 have hmf:=makeF;have hah:=ahead_load;have hvw:=val_word;have HX:=zH hfx;have HWF:=zH hwf;clear hfx hwf;go_enter func333,ntmps333;go_wp2_with fail;refine Ord.wc [7,11] (fun u=>Below w0.heap.size w0 u/\∃ n8,Blk 0 u a (laneC S.c lv key vs nx st x y z W C X n8 pf pv)) (fun k w'=>Env w0 (pick3 (boxI a (laneC S.c lv key vs nx st x y z W C X wd pf pv)::LT S R) (boxI a (laneC S.c lv key vs nx st x y z W C X wd pf pv)::LT { S with qc:={ S.qc with l:=wrap64 (S.qc.l+1) } } R) (boxI a (laneC S.c lv key vs nx st x y z W C X v pf pv)::LT { S with qc:={ S.qc with l:=wrap64 (S.qc.l+1) } } R) k) w') ⟨hE.drew.below,wd,hE.drew.get 0 rfl⟩ hE.drew fun hT9=>?_
 repeat ((first
  | (refine Ord.cv ?_ hT9.o ?_ ?_; rotate_left; (intro w5 hS; obtain ⟨hS0,n9,hS1⟩:=hS; have r:=Blk.rule hS1; unfold laneC at r; go_simp<;>rfl))
  | (refine Ord.co hT9.o ?_)
  | (refine Ord.cc ?_ ?_ ?_ hT9.o ?_ ?_ ?_; rotate_left 3; (intro w5 hS; obtain ⟨hS0,n9,hS1⟩:=hS; have r:=Blk.rule hS1; unfold laneC at r; go_simp; constructor<;>rfl); (intro w5 hS; (first | (obtain ⟨hS0,n9,hS1⟩:=hS; with_reducible refine kp (part_l 3 hS1) ?_ ?_; rfl; exact fun w6 hb6=>⟨⟨hS0.trans (hb6.mono hS0.size),n9,hS1.under hb6⟩,fun k h=>h.over hb6⟩)))));try simp only [Act.put,zA,zZ,zS])
 refine Ord.ch_turn (v:=.agg #[.int .u64 v,.int .i64 0,.bool false]) 0 hT9.o rfl (by decide) (Or.inl rfl) (by rfl) ?_ ?_
 ·rintro w5 hC5 hA5;replace hA5:Env w0 (boxI a (laneC S.c lv key vs nx st x y z W C X wd pf pv)::LT S R) w5:=hA5;go_simp;rw [method_load];simp only [Result.andThen_ok];go_simp;simp only [Ord.LandsIn];have hl:=load_w 5 C 3 0 HWF.out 3 4 (by decide) hA5 rfl rfl;rw [HX.out] at hl;refine hl.mono ?_;rintro e w6 ⟨rfl,hE6⟩;exact ⟨rfl,⟨hE6.below,_,hE6.get 0 rfl⟩,hE6⟩
 try simp only [Act.put,zA,zZ,zS]
 repeat ((first
  | (refine Ord.cv ?_ hT9.o ?_ ?_; rotate_left; (intro w5 hS; skip; go_simp<;>rfl))
  | (refine Ord.co hT9.o ?_));try simp only [Act.put,zA,zZ,zS])
 refine Ord.ch_turn (v:=undef) 1 hT9.o rfl (by decide) (Or.inr ⟨_,rfl,by kernel_rfl⟩) (by rfl) ?_ ?_
 ·rintro w5 hC5 hA5;replace hA5:Env w0 (boxI a (laneC S.c lv key vs nx st x y z W C X wd pf pv)::LT { S with qc:={ S.qc with l:=wrap64 (S.qc.l+1) } } R) w5:=hA5;have r:=hA5.rule 0 rfl;unfold laneC at r;have g0:=hA5.thaw 0 rfl 18 (by simp [laneC]);go_simp;have h9:=(hA5.put 0 rfl (j:=18) (by simp [laneC]) (.int .u64 v));replace h9:Env w0 (boxI a (laneC S.c lv key vs nx st x y z W C X v pf pv)::LT { S with qc:={ S.qc with l:=wrap64 (S.qc.l+1) } } R) _:=h9;exact ⟨rfl,⟨h9.below,_,h9.get 0 rfl⟩,h9⟩
 try simp only [Act.put,zA,zZ,zS]
 repeat ((first
  | (refine Ord.cv ?_ hT9.o ?_ ?_; rotate_left; (intro w5 hS; skip; go_simp<;>rfl))
  | (refine Ord.co hT9.o ?_));try simp only [Act.put,zA,zZ,zS])
 refine Ord.InText.nil fun w5 hS=>?_;clear hT9;obtain ⟨hC9,hA9⟩:=Ord.chain_end hS;clear hS;replace hA9:Env w0 (boxI a (laneC S.c lv key vs nx st x y z W C X v pf pv)::LT { S with qc:={ S.qc with l:=wrap64 (S.qc.l+1) } } R) w5:=hA9;clear hE hC9;have r:=hA9.rule 0 rfl;unfold laneC at r;go_wp2_with fail;refine (validate_l _ _ _ (by simp [laneC]) hA9).mono ?_;rintro o w6 ⟨rfl,b1,b2,hE6⟩;go_wp2_with fail;go_ret;exact ⟨rfl,b1,b2,hE6⟩
theorem loadVal_l (v:Int) (hfx:S.f (5,C,4)=v) (hwf:Wf (5,C,4)) (hE:Env w0 (boxI a (laneC S.c lv key vs nx st x y z W C X wd pf pv)::LT S R) w) :
  Calls prog 340 #[.pointer (some ⟨a,0,none⟩),.iface 26 (.pointer (some ⟨S.p,0,none⟩))] w fun o w'=>o=.returned (.int .i64 0)/\∃ b1 b2,Env w0 (boxI a (laneC S.c lv key vs (cvL b1 b2) st x y z W C X v pf pv)::boxI b1 [.pointer (some ⟨a,0,none⟩)]::boxI b2 [mvL 341 a]::LT { S with qc:={ S.qc with l:=wrap64 (S.qc.l+1) } } R) w':=by
 have hmf:=makeF;have hah:=ahead_load;have hvw:=val_word;have HX:=zH hfx;have HWF:=zH hwf;clear hfx hwf;go_enter func340,ntmps340;go_wp2_with fail;refine Ord.wc [7,11] (fun u=>Below w0.heap.size w0 u/\∃ n8,Blk 0 u a (laneC S.c lv key vs nx st x y z W C X n8 pf pv)) (fun k w'=>Env w0 (pick3 (boxI a (laneC S.c lv key vs nx st x y z W C X wd pf pv)::LT S R) (boxI a (laneC S.c lv key vs nx st x y z W C X wd pf pv)::LT { S with qc:={ S.qc with l:=wrap64 (S.qc.l+1) } } R) (boxI a (laneC S.c lv key vs nx st x y z W C X v pf pv)::LT { S with qc:={ S.qc with l:=wrap64 (S.qc.l+1) } } R) k) w') ⟨hE.drew.below,wd,hE.drew.get 0 rfl⟩ hE.drew fun hT9=>?_
 repeat ((first
  | (refine Ord.cv ?_ hT9.o ?_ ?_; rotate_left; (intro w5 hS; obtain ⟨hS0,n9,hS1⟩:=hS; have r:=Blk.rule hS1; unfold laneC at r; go_simp<;>rfl))
  | (refine Ord.co hT9.o ?_)
  | (refine Ord.cc ?_ ?_ ?_ hT9.o ?_ ?_ ?_; rotate_left 3; (intro w5 hS; obtain ⟨hS0,n9,hS1⟩:=hS; have r:=Blk.rule hS1; unfold laneC at r; go_simp; constructor<;>rfl); (intro w5 hS; (first | (obtain ⟨hS0,n9,hS1⟩:=hS; with_reducible refine kp (part_l 4 hS1) ?_ ?_; rfl; exact fun w6 hb6=>⟨⟨hS0.trans (hb6.mono hS0.size),n9,hS1.under hb6⟩,fun k h=>h.over hb6⟩)))));try simp only [Act.put,zA,zZ,zS])
 refine Ord.ch_turn (v:=.agg #[.int .u64 v,.int .i64 0,.bool false]) 0 hT9.o rfl (by decide) (Or.inl rfl) (by rfl) ?_ ?_
 ·rintro w5 hC5 hA5;replace hA5:Env w0 (boxI a (laneC S.c lv key vs nx st x y z W C X wd pf pv)::LT S R) w5:=hA5;go_simp;rw [method_load];simp only [Result.andThen_ok];go_simp;simp only [Ord.LandsIn];have hl:=load_w 5 C 4 0 HWF.out 3 4 (by decide) hA5 rfl rfl;rw [HX.out] at hl;refine hl.mono ?_;rintro e w6 ⟨rfl,hE6⟩;exact ⟨rfl,⟨hE6.below,_,hE6.get 0 rfl⟩,hE6⟩
 try simp only [Act.put,zA,zZ,zS]
 repeat ((first
  | (refine Ord.cv ?_ hT9.o ?_ ?_; rotate_left; (intro w5 hS; skip; go_simp<;>rfl))
  | (refine Ord.co hT9.o ?_));try simp only [Act.put,zA,zZ,zS])
 refine Ord.ch_turn (v:=undef) 1 hT9.o rfl (by decide) (Or.inr ⟨_,rfl,by kernel_rfl⟩) (by rfl) ?_ ?_
 ·rintro w5 hC5 hA5;replace hA5:Env w0 (boxI a (laneC S.c lv key vs nx st x y z W C X wd pf pv)::LT { S with qc:={ S.qc with l:=wrap64 (S.qc.l+1) } } R) w5:=hA5;have r:=hA5.rule 0 rfl;unfold laneC at r;have g0:=hA5.thaw 0 rfl 18 (by simp [laneC]);go_simp;have h9:=(hA5.put 0 rfl (j:=18) (by simp [laneC]) (.int .u64 v));replace h9:Env w0 (boxI a (laneC S.c lv key vs nx st x y z W C X v pf pv)::LT { S with qc:={ S.qc with l:=wrap64 (S.qc.l+1) } } R) _:=h9;exact ⟨rfl,⟨h9.below,_,h9.get 0 rfl⟩,h9⟩
 try simp only [Act.put,zA,zZ,zS]
 repeat ((first
  | (refine Ord.cv ?_ hT9.o ?_ ?_; rotate_left; (intro w5 hS; skip; go_simp<;>rfl))
  | (refine Ord.co hT9.o ?_));try simp only [Act.put,zA,zZ,zS])
 refine Ord.InText.nil fun w5 hS=>?_;clear hT9;obtain ⟨hC9,hA9⟩:=Ord.chain_end hS;clear hS;replace hA9:Env w0 (boxI a (laneC S.c lv key vs nx st x y z W C X v pf pv)::LT { S with qc:={ S.qc with l:=wrap64 (S.qc.l+1) } } R) w5:=hA9;clear hE hC9;have r:=hA9.rule 0 rfl;unfold laneC at r;go_wp2_with fail;refine (validate_l _ _ _ (by simp [laneC]) hA9).mono ?_;rintro o w6 ⟨rfl,b1,b2,hE6⟩;go_wp2_with fail;go_ret;exact ⟨rfl,b1,b2,hE6⟩
end
theorem AF_over {w0 w w':World} {z0:List Value} {St:List Value->List Item->List Value->Prop} {κs:List Value} {fo:Option Value} (h:OrdF.AF w0 z0 St κs fo w) (hb:Below w.heap.size w w'):OrdF.AF w0 z0 St κs fo w':=by
 obtain ⟨L,zs,hst,⟨h1,h2,hE⟩ | ⟨n,hn,hE⟩⟩:=h
 ·exact ⟨L,zs,hst,.inl ⟨h1,h2,hE.over hb⟩⟩
 ·exact ⟨L,zs,hst,.inr ⟨n,hn,hE.over hb⟩⟩
def cS (v:Int):Int:=if slotI v=0 then 1 else 0
section
variable {w0 w:World} {L:List Item} {a c:Nat} {lv key:Int} {vs:Bool} {nx:Value} {x y z W C X wd:Int} {pf:Bool} {pv:Int}
theorem come_l (v:Int) (hv:InU v) (hg:Glo w0) (hE:Env w0 (boxI a (laneC c lv key vs nx 0 x y z W C X wd pf pv)::L) w) :
  Calls prog 294 #[.pointer (some ⟨a,0,none⟩),.agg #[.int .u64 v,.int .i64 0,.bool false]] w fun o w'=>o=.returned (.int .i64 (cS v))/\∃ nx,(slotI v≠0->nx=mvL 309 a)/\Env w0 (boxI a (laneC c lv key vs nx (cS v) x y z v (slotI v) 0 wd pf pv)::L) w':=by
 by_cases hs:slotI v=0
 ·refine (come0_l v hs hv hg hE).mono ?_;rintro o w1 ⟨rfl,nx,hE1⟩;have hc:cS v=1:=if_pos hs;rw [hc,hs];exact ⟨rfl,nx,fun h=>absurd rfl h,hE1⟩
 ·refine (comeY_l v hs hv hg hE).mono ?_;rintro o w1 ⟨rfl,hE1⟩;have hc:cS v=0:=if_neg hs;rw [hc];exact ⟨rfl,_,fun _=>rfl,hE1⟩
theorem intoMark_l (hm:markB W=true) (hv:InU W) (hg:Glo w0) (hE:Env w0 (boxI a (laneC c lv key vs nx 0 x y z W C X wd pf pv)::L) w) :
  Calls prog 272 #[.pointer (some ⟨a,0,none⟩)] w fun o w'=>o=.returned (.int .i64 2)/\∃ nx,Env w0 (boxI a (laneC c lv key vs nx 2 x y z W C X wd pf pv)::L) w':=by
 have r:=hE.rule 0 rfl;unfold laneC at r;have h1:=isMarked_any W w (hg.keep' hE.below) hv.1 hv.2;rw [hm] at h1;clear hm hv hg;go_enter func272,ntmps272;go_wp2_with fail;refine h1.mono ?_;rintro o w1 ⟨rfl,hb⟩;replace hE:=hE.over hb;clear hb r;go_wp2_with fail;refine (end_l 0 2 (by simp [laneC]) hE rfl).mono ?_;rintro o w6 ⟨rfl,nx,hE6⟩;go_wp2_with fail;go_ret;exact ⟨rfl,nx,hE6⟩
theorem intoCome_l (hm:markB W=false) (hv:InU W) (hg:Glo w0) (hE:Env w0 (boxI a (laneC c lv key vs nx 0 x y z W C X wd pf pv)::L) w) :
  Calls prog 272 #[.pointer (some ⟨a,0,none⟩)] w fun o w'=>o=.returned (.int .i64 (cS W))/\∃ nx,(slotI W≠0->nx=mvL 309 a)/\Env w0 (boxI a (laneC c lv key vs nx (cS W) x y z W (slotI W) 0 wd pf pv)::L) w':=by
 have r:=hE.rule 0 rfl;unfold laneC at r;have h1:=isMarked_any W w (hg.keep' hE.below) hv.1 hv.2;rw [hm] at h1;have HV:=zH hv;have HG:=zH hg;clear hm hv hg;go_enter func272,ntmps272;go_wp2_with fail;refine h1.mono ?_;rintro o w1 ⟨rfl,hb⟩;replace hE:=hE.over hb;clear hb r;have r:=hE.rule 0 rfl;unfold laneC at r;go_wp2_with fail;refine (come_l W HV.out HG.out hE).mono ?_;rintro o w6 ⟨rfl,nx,hnx,hE6⟩;go_wp2_with fail;go_ret;exact ⟨rfl,nx,hnx,hE6⟩
theorem out_l (hv:InU X) (hg:Glo w0) (hE:Env w0 (boxI a (laneC c lv key vs nx 0 x y z W C X wd pf pv)::L) w) :
  Calls prog 326 #[.pointer (some ⟨a,0,none⟩)] w fun o w'=>o=.returned (.int .i64 0)/\Env w0 (boxI a (laneC c lv key vs (mvL (if markB X then 332 else 333) a) 0 x y z W C X wd pf pv)::L) w':=by
 have hmf:=makeF;have r:=hE.rule 0 rfl;unfold laneC at r;have h1:=isMarked_any X w (hg.keep' hE.below) hv.1 hv.2;obtain ⟨b,hb9⟩:∃ b,markB X=b:=⟨_,rfl⟩;rw [hb9] at h1 ⊢;clear hb9 hv hg;go_enter func326,ntmps326;go_wp2_with fail;refine h1.mono ?_;rintro o w1 ⟨rfl,hb⟩;replace hE:=hE.over hb;clear hb r;cases b
 ·go_wp2_with fail;refine (goOn_l 0 _ _ _ (by simp [laneC]) hE rfl).mono ?_;rintro o w6 ⟨rfl,hE6⟩;go_wp2_with fail;go_ret;exact ⟨rfl,hE6⟩
 ·go_wp2_with fail;refine (goOn_l 0 _ _ _ (by simp [laneC]) hE rfl).mono ?_;rintro o w6 ⟨rfl,hE6⟩;go_wp2_with fail;go_ret;exact ⟨rfl,hE6⟩
theorem val_l (hE:Env w0 (boxI a (laneC c lv key vs nx 0 x y z W C X wd pf pv)::L) w) :
  Calls prog 341 #[.pointer (some ⟨a,0,none⟩)] w fun o w'=>o=.returned (.int .i64 1)/\∃ nx,Env w0 (boxI a (laneC c lv key vs nx 1 x y z W C X wd true wd)::L) w':=by
 have r:=hE.rule 0 rfl;unfold laneC at r;have g0:=hE.thaw 0 rfl 19 (by simp [laneC]);have g1:=hE.thaw 0 rfl 20 (by simp [laneC]);have hP:=(hE.put 0 rfl (j:=19) (by simp [laneC]) (.bool true)).put 0 rfl (j:=20) (by simp [laneC]) (.int .u64 wd);replace hP:Env w0 (boxI a (laneC c lv key vs nx 0 x y z W C X wd true wd)::L) _:=hP;go_enter func341,ntmps341;go_wp2_with fail;refine (end_l 0 1 (by simp [laneC]) hP rfl).mono ?_;rintro o w6 ⟨rfl,nx,hE6⟩;go_wp2_with fail;go_ret;exact ⟨rfl,nx,hE6⟩
theorem keyLess_l (hk:wd < key) (hlv:0<=lv/\lv<=1000000) (hv:InU X) (hg:Glo w0) (hE:Env w0 (boxI a (laneC c lv key vs nx 0 x y z W C X wd pf pv)::L) w) :
  Calls prog 337 #[.pointer (some ⟨a,0,none⟩)] w fun o w'=>o=.returned (.int .i64 (cS X))/\∃ nx,(slotI X≠0->nx=mvL 309 a)/\Env w0 (boxI a (laneC c lv key vs nx (cS X) 5 C (7+lv) X (slotI X) 0 wd pf pv)::L) w':=by
 have hkb:decide (wd < key)=true:=by simpa using hk
 have HV:=zH hv;have HG:=zH hg;clear hk hv hg;go_enter func337,ntmps337;go_wp2_with fail;refine wp_text (S:=(Env w0 (boxI a (laneC c lv key vs nx 0 x y z W C X wd pf pv)::L))) (by kernel_rfl) (by kernel_rfl) hE.drew (fun hT=>?_);have hT9:=zH hT;clear hT
 repeat ((first
  | (refine text_value (v:=?_) hT9.o (by rfl) ?_ ?_; rotate_left; (intro w5 hS; have r:=hS.rule 0 rfl; unfold laneC at r; go_simp<;>rfl))
  | (refine text_off hT9.o (by rfl) ?_)
  | (refine text_call (v:=?_) (f:=?_) (args:=?_) hT9.o (by rfl) ?_ ?_ ?_; rotate_left 3; (intro w5 hS; have r:=hS.rule 0 rfl; unfold laneC at r; go_simp; constructor<;>rfl); (intro w5 hS; (first | fail))));try simp only [Act.put,zA,zZ,zS])
 refine InText.nil fun w5 hS5=>?_;clear hT9;clear hE;go_wp2_with fail;refine (nextLink_l hlv (hS5.get 0 rfl)).mono ?_;rintro o w6 ⟨rfl,hb⟩;have hE:=hS5.over hb;clear hS5 hb;have r:=hE.rule 0 rfl;unfold laneC at r;have g0:=hE.thaw 0 rfl 6 (by simp [laneC]);have g1:=hE.thaw 0 rfl 7 (by simp [laneC]);have g2:=hE.thaw 0 rfl 8 (by simp [laneC]);have g3:=hE.thaw 0 rfl 9 (by simp [laneC]);have hP:=(((hE.put 0 rfl (j:=6) (by simp [laneC]) (.int .i64 5)).put 0 rfl (j:=7) (by simp [laneC]) (.int .i64 C)).put 0 rfl (j:=8) (by simp [laneC]) (.int .i64 (7+lv))).put 0 rfl (j:=9) (by simp [laneC]) (.int .i64 0);replace hP:Env w0 (boxI a (laneC c lv key vs nx 0 5 C (7+lv) W C X wd pf pv)::L) _:=hP;clear hE;have r9:=hP.rule 0 rfl;unfold laneC at r9;go_wp2_with fail;refine (come_l X HV.out HG.out hP).mono ?_;rintro o w7 ⟨rfl,nx,hnx,hE6⟩;go_wp2_with fail;go_ret;exact ⟨rfl,nx,hnx,hE6⟩
theorem keyVal_l (hk:wd=key) (hE:Env w0 (boxI a (laneC c lv key true nx 0 x y z W C X wd pf pv)::L) w) :
  Calls prog 337 #[.pointer (some ⟨a,0,none⟩)] w fun o w'=>o=.returned (.int .i64 0)/\Env w0 (boxI a (laneC c lv key true (mvL 340 a) 0 x y z W C X wd pf pv)::L) w':=by
 have hmf:=makeF;subst hk;have hlt:decide (wd < wd)=false:=by simp
 have heq:(wd==wd)=true:=by simp
 go_enter func337,ntmps337;go_wp2_with fail;refine wp_text (S:=(Env w0 (boxI a (laneC c lv wd true nx 0 x y z W C X wd pf pv)::L))) (by kernel_rfl) (by kernel_rfl) hE.drew (fun hT=>?_);have hT9:=zH hT;clear hT
 repeat ((first
  | (refine text_value (v:=?_) hT9.o (by rfl) ?_ ?_; rotate_left; (intro w5 hS; have r:=hS.rule 0 rfl; unfold laneC at r; go_simp<;>rfl))
  | (refine text_off hT9.o (by rfl) ?_)
  | (refine text_call (v:=?_) (f:=?_) (args:=?_) hT9.o (by rfl) ?_ ?_ ?_; rotate_left 3; (intro w5 hS; have r:=hS.rule 0 rfl; unfold laneC at r; go_simp; constructor<;>rfl); (intro w5 hS; (first | fail))));try simp only [Act.put,zA,zZ,zS])
 refine InText.nil fun w5 hS5=>?_;clear hT9;clear hE;go_wp2_with fail;have hE:=hS5;clear hS5;refine wp_text (S:=(Env w0 (boxI a (laneC c lv wd true nx 0 x y z W C X wd pf pv)::L))) (by kernel_rfl) (by kernel_rfl) hE.drew (fun hT=>?_);have hT9:=zH hT;clear hT
 repeat ((first
  | (refine text_value (v:=?_) hT9.o (by rfl) ?_ ?_; rotate_left; (intro w5 hS; have r:=hS.rule 0 rfl; unfold laneC at r; go_simp<;>rfl))
  | (refine text_off hT9.o (by rfl) ?_)
  | (refine text_call (v:=?_) (f:=?_) (args:=?_) hT9.o (by rfl) ?_ ?_ ?_; rotate_left 3; (intro w5 hS; have r:=hS.rule 0 rfl; unfold laneC at r; go_simp; constructor<;>rfl); (intro w5 hS; (first | fail))));try simp only [Act.put,zA,zZ,zS])
 refine InText.nil fun w5 hS5=>?_;clear hT9;clear hE;go_wp2_with fail;refine (goOn_l 0 _ _ _ (by simp [laneC]) hS5 rfl).mono ?_;rintro o w6 ⟨rfl,hE6⟩;go_wp2_with fail;go_ret;exact ⟨rfl,hE6⟩
theorem keyFound_l (hk:wd=key) (hE:Env w0 (boxI a (laneC c lv key false nx 0 x y z W C X wd pf pv)::L) w) :
  Calls prog 337 #[.pointer (some ⟨a,0,none⟩)] w fun o w'=>o=.returned (.int .i64 1)/\∃ nx,Env w0 (boxI a (laneC c lv key false nx 1 x y z W C X wd true pv)::L) w':=by
 have hmf:=makeF;subst hk;have hlt:decide (wd < wd)=false:=by simp
 have heq:(wd==wd)=true:=by simp
 go_enter func337,ntmps337;go_wp2_with fail;refine wp_text (S:=(Env w0 (boxI a (laneC c lv wd false nx 0 x y z W C X wd pf pv)::L))) (by kernel_rfl) (by kernel_rfl) hE.drew (fun hT=>?_);have hT9:=zH hT;clear hT
 repeat ((first
  | (refine text_value (v:=?_) hT9.o (by rfl) ?_ ?_; rotate_left; (intro w5 hS; have r:=hS.rule 0 rfl; unfold laneC at r; go_simp<;>rfl))
  | (refine text_off hT9.o (by rfl) ?_)
  | (refine text_call (v:=?_) (f:=?_) (args:=?_) hT9.o (by rfl) ?_ ?_ ?_; rotate_left 3; (intro w5 hS; have r:=hS.rule 0 rfl; unfold laneC at r; go_simp; constructor<;>rfl); (intro w5 hS; (first | fail))));try simp only [Act.put,zA,zZ,zS])
 refine InText.nil fun w5 hS5=>?_;clear hT9;clear hE;go_wp2_with fail;have hE:=hS5;clear hS5;refine wp_text (S:=(Env w0 (boxI a (laneC c lv wd false nx 0 x y z W C X wd pf pv)::L))) (by kernel_rfl) (by kernel_rfl) hE.drew (fun hT=>?_);have hT9:=zH hT;clear hT
 repeat ((first
  | (refine text_value (v:=?_) hT9.o (by rfl) ?_ ?_; rotate_left; (intro w5 hS; have r:=hS.rule 0 rfl; unfold laneC at r; go_simp<;>rfl))
  | (refine text_off hT9.o (by rfl) ?_)
  | (refine text_call (v:=?_) (f:=?_) (args:=?_) hT9.o (by rfl) ?_ ?_ ?_; rotate_left 3; (intro w5 hS; have r:=hS.rule 0 rfl; unfold laneC at r; go_simp; constructor<;>rfl); (intro w5 hS; (first | fail))));try simp only [Act.put,zA,zZ,zS])
 refine InText.nil fun w5 hS5=>?_;clear hT9;clear hE;go_wp2_with fail;have hE:=hS5;clear hS5;refine Ord.wc [12] (fun u=>∃ n8,Blk 0 u a (laneC c lv wd false nx 0 x y z W C X wd n8 pv)) (fun k w'=>Env w0 (boxI a (if k=0 then (laneC c lv wd false nx 0 x y z W C X wd pf pv) else (laneC c lv wd false nx 0 x y z W C X wd true pv))::L) w') ⟨pf,hE.drew.get 0 rfl⟩ hE.drew fun hT9=>?_
 repeat ((first
  | (refine Ord.cv ?_ hT9.o ?_ ?_; rotate_left; (intro w5 hS; obtain ⟨n9,hS1⟩:=hS; have r:=hS1.rule; unfold laneC at r; go_simp<;>rfl))
  | (refine Ord.co hT9.o ?_));try simp only [Act.put,zA,zZ,zS])
 refine Ord.ch_turn (v:=undef) 0 hT9.o rfl (by decide) (Or.inl rfl) (by rfl) ?_ ?_
 ·rintro w5 hC5 hA5;simp only [if_true] at hA5;have r:=hA5.rule 0 rfl;unfold laneC at r;have g0:=hA5.thaw 0 rfl 19 (by simp [laneC]);go_simp;have h9:=hA5.put 0 rfl (j:=19) (by simp [laneC]) (.bool true);replace h9:Env w0 (boxI a (laneC c lv wd false nx 0 x y z W C X wd true pv)::L) _:=h9
  first | exact ⟨rfl,.inl (h9.get 0 rfl),h9⟩ | exact ⟨rfl,.inr (h9.get 0 rfl),h9⟩
 try simp only [Act.put,zA,zZ,zS]
 repeat ((first
  | (refine Ord.cv ?_ hT9.o ?_ ?_; rotate_left; (intro w5 hS; skip; go_simp<;>rfl))
  | (refine Ord.co hT9.o ?_));try simp only [Act.put,zA,zZ,zS])
 refine Ord.InText.nil fun w5 hS=>?_;clear hT9;obtain ⟨hC9,hA9⟩:=Ord.chain_end hS;clear hS;replace hA9:Env w0 (boxI a (laneC c lv wd false nx 0 x y z W C X wd true pv)::L) w5:=hA9;clear hE hC9;go_wp2_with fail;refine (end_l 0 1 (by simp [laneC]) hA9 rfl).mono ?_;rintro o w6 ⟨rfl,nx,hE6⟩;go_wp2_with fail;go_ret;exact ⟨rfl,nx,hE6⟩
theorem keyMore_l (hk:key < wd) (hE:Env w0 (boxI a (laneC c lv key vs nx 0 x y z W C X wd pf pv)::L) w) :
  Calls prog 337 #[.pointer (some ⟨a,0,none⟩)] w fun o w'=>o=.returned (.int .i64 1)/\∃ nx,Env w0 (boxI a (laneC c lv key vs nx 1 x y z W C X wd false pv)::L) w':=by
 have hmf:=makeF;have hlt:decide (wd < key)=false:=by simp; omega
 have heq:(wd==key)=false:=by simp; omega
 clear hk;go_enter func337,ntmps337;go_wp2_with fail;refine wp_text (S:=(Env w0 (boxI a (laneC c lv key vs nx 0 x y z W C X wd pf pv)::L))) (by kernel_rfl) (by kernel_rfl) hE.drew (fun hT=>?_);have hT9:=zH hT;clear hT
 repeat ((first
  | (refine text_value (v:=?_) hT9.o (by rfl) ?_ ?_; rotate_left; (intro w5 hS; have r:=hS.rule 0 rfl; unfold laneC at r; go_simp<;>rfl))
  | (refine text_off hT9.o (by rfl) ?_)
  | (refine text_call (v:=?_) (f:=?_) (args:=?_) hT9.o (by rfl) ?_ ?_ ?_; rotate_left 3; (intro w5 hS; have r:=hS.rule 0 rfl; unfold laneC at r; go_simp; constructor<;>rfl); (intro w5 hS; (first | fail))));try simp only [Act.put,zA,zZ,zS])
 refine InText.nil fun w5 hS5=>?_;clear hT9;clear hE;go_wp2_with fail;have hE:=hS5;clear hS5;refine wp_text (S:=(Env w0 (boxI a (laneC c lv key vs nx 0 x y z W C X wd pf pv)::L))) (by kernel_rfl) (by kernel_rfl) hE.drew (fun hT=>?_);have hT9:=zH hT;clear hT
 repeat ((first
  | (refine text_value (v:=?_) hT9.o (by rfl) ?_ ?_; rotate_left; (intro w5 hS; have r:=hS.rule 0 rfl; unfold laneC at r; go_simp<;>rfl))
  | (refine text_off hT9.o (by rfl) ?_)
  | (refine text_call (v:=?_) (f:=?_) (args:=?_) hT9.o (by rfl) ?_ ?_ ?_; rotate_left 3; (intro w5 hS; have r:=hS.rule 0 rfl; unfold laneC at r; go_simp; constructor<;>rfl); (intro w5 hS; (first | fail))));try simp only [Act.put,zA,zZ,zS])
 refine InText.nil fun w5 hS5=>?_;clear hT9;clear hE;go_wp2_with fail;have hE:=hS5;clear hS5;refine Ord.wc [12] (fun u=>∃ n8,Blk 0 u a (laneC c lv key vs nx 0 x y z W C X wd n8 pv)) (fun k w'=>Env w0 (boxI a (if k=0 then (laneC c lv key vs nx 0 x y z W C X wd pf pv) else (laneC c lv key vs nx 0 x y z W C X wd false pv))::L) w') ⟨pf,hE.drew.get 0 rfl⟩ hE.drew fun hT9=>?_
 repeat ((first
  | (refine Ord.cv ?_ hT9.o ?_ ?_; rotate_left; (intro w5 hS; obtain ⟨n9,hS1⟩:=hS; have r:=hS1.rule; unfold laneC at r; go_simp<;>rfl))
  | (refine Ord.co hT9.o ?_));try simp only [Act.put,zA,zZ,zS])
 refine Ord.ch_turn (v:=undef) 0 hT9.o rfl (by decide) (Or.inl rfl) (by rfl) ?_ ?_
 ·rintro w5 hC5 hA5;simp only [if_true] at hA5;have r:=hA5.rule 0 rfl;unfold laneC at r;have g0:=hA5.thaw 0 rfl 19 (by simp [laneC]);go_simp;have h9:=hA5.put 0 rfl (j:=19) (by simp [laneC]) (.bool false);replace h9:Env w0 (boxI a (laneC c lv key vs nx 0 x y z W C X wd false pv)::L) _:=h9
  first | exact ⟨rfl,.inl (h9.get 0 rfl),h9⟩ | exact ⟨rfl,.inr (h9.get 0 rfl),h9⟩
 try simp only [Act.put,zA,zZ,zS]
 repeat ((first
  | (refine Ord.cv ?_ hT9.o ?_ ?_; rotate_left; (intro w5 hS; skip; go_simp<;>rfl))
  | (refine Ord.co hT9.o ?_));try simp only [Act.put,zA,zZ,zS])
 refine Ord.InText.nil fun w5 hS=>?_;clear hT9;obtain ⟨hC9,hA9⟩:=Ord.chain_end hS;clear hS;replace hA9:Env w0 (boxI a (laneC c lv key vs nx 0 x y z W C X wd false pv)::L) w5:=hA9;clear hE hC9;go_wp2_with fail;refine (end_l 0 1 (by simp [laneC]) hA9 rfl).mono ?_;rintro o w6 ⟨rfl,nx,hE6⟩;go_wp2_with fail;go_ret;exact ⟨rfl,nx,hE6⟩
end
section
variable {w0 w:World} {R:List Item} {a:Nat} {S:ST} {lv key:Int} {vs:Bool} {nx:Value} {x y z W C X wd:Int} {pf:Bool} {pv:Int}
theorem cutNo_l (heq:S.f (x,y,z)≠W) (hwf:Wf (x,y,z)) (hX:InU X) (hg:Glo w0) (hm:S.m < maxLen) (hE:Env w0 (boxI a (laneC S.c lv key vs nx 0 x y z W C X wd pf pv)::LT S R) w) :
  Calls prog 332 #[.pointer (some ⟨a,0,none⟩),.iface 26 (.pointer (some ⟨S.p,0,none⟩))] w fun o w'=>o=.returned (.int .i64 2)/\∃ nx G',Env w0 (boxI a (laneC S.c lv key vs nx 2 x y z W C X wd pf pv)::LT { S with G:=G',f:=swf S.f (x,y,z) W (wordI false (slotI X) S.ce),qc:=swq S.qc false,m:=S.m+1 } R) w':=by
 have hmf:=makeF;have hah:=ahead_swap;have HD:Hid (decide (S.f (x,y,z)=W)=false):=zH (by simpa using heq);have HG:=zH hg;have HWF:=zH hwf;have HLE:=zH fun (v:World) (hv:Below w0.heap.size w0 v)=>lead_c X 0 false v hX (hg.keep' hv);have hqi:InU (wordI false (slotI X) S.ce):=wordI_in _ _ _;have hto:=fun (v:World) (hv:Below w0.heap.size w0 v) (hb:Blk 0 v S.c (crv S.ck S.cs S.cb S.ch S.cl S.ce S.cr S.hs 0 S.q))=>to_c (slotI X) 0 (hg.keep' hv) hb;obtain ⟨s,hs⟩:∃ s,slotI X=s:=⟨_,rfl⟩;rw [hs] at hqi ⊢;simp only [hs] at HLE hto;clear hs;obtain ⟨q,hq⟩:∃ q,wordI false s S.ce=q:=⟨_,rfl⟩;rw [hq] at hqi ⊢;simp only [hq] at hto;have HQI:=zH hqi;have HTO:=zH hto;clear hq hqi hto heq hwf hX hg;go_enter func332,ntmps332;go_wp2_with fail;refine OrdF.wp_float [?_,?_,?_,?_,?_,?_,?_,?_,?_,?_,OrdF.Ptr,?_] [11] 10 (fun v=>Below w0.heap.size w0 v/\Blk 0 v a (laneC S.c lv key vs nx 0 x y z W C X wd pf pv)/\Blk 0 v S.c (crv S.ck S.cs S.cb S.ch S.cl S.ce S.cr S.hs 0 S.q)) (OrdF.AF w0 [.int .u64 0,.int .i64 0,.bool false] (OrdF.Sta [fun N zs=>N=boxI a (laneC S.c lv key vs nx 0 x y z W C X wd pf pv)::LT S R/\zs=[.int .u64 0,.int .i64 0,.bool false],fun N zs=>N=boxI a (laneC S.c lv key vs nx 0 x y z W C X wd pf pv)::LT S R/\zs=[.int .u64 q,.int .i64 0,.bool false]])) (by kernel_rfl) (by kernel_rfl) (by kernel_rfl) ⟨hE.drew.below,hE.drew.get 0 rfl,hE.drew.get 1 rfl⟩ ⟨_,_,⟨_,rfl,rfl,rfl⟩,.inl ⟨rfl,rfl,hE.drew⟩⟩ (fun hT=>?_);rotate_left 11;have hT9:=zH hT;clear hT
 repeat ((first
  | (focus (refine OrdF.in_value (v:=?_) hT9.o (by decide) (by decide) ?_ (by rfl) ?_ ?_; rotate_left 2; (intro w5 hS; have r:=hS.2.1.rule; unfold laneC at r; go_simp<;>rfl); rotate_right; (focus rfl)))
  | (focus (refine OrdF.in_off hT9.o (by decide) (by decide) ?_ (by rfl) ?_; (focus rfl))));try simp only [Act.put,zA,zZ,zS])
 focus (refine OrdF.in_call (v:=.agg #[.int .i64 s,.int .i64 0]) (f:=?_) (args:=?_) hT9.o (by decide) (by decide) ?_ (by rfl) ?_ ?_ ?_; rotate_left 2; (focus rfl); (intro w5 hS; skip; go_simp; constructor<;>rfl); (intro w5 hS; refine (HLE.out _ hS.1).mono ?_; rintro e w6 ⟨rfl,hb6⟩; exact ⟨rfl,⟨hS.1.trans (hb6.mono hS.1.size),hS.2.1.under hb6,hS.2.2.under hb6⟩,fun _ _ h=>AF_over h hb6⟩); (try simp only [Act.put,zA,zZ,zS]))
 focus (refine OrdF.in_call (v:=.agg #[.int .u64 q,.int .i64 0,.bool false]) (f:=?_) (args:=?_) hT9.o (by decide) (by decide) ?_ (by rfl) ?_ ?_ ?_; rotate_left 2; (focus rfl); (intro w5 hS; skip; go_simp; constructor<;>rfl); (intro w5 hS; refine (HTO.out _ hS.1 hS.2.2).mono ?_; rintro e w6 ⟨rfl,hb6⟩; exact ⟨rfl,⟨hS.1.trans (hb6.mono hS.1.size),hS.2.1.under hb6,hS.2.2.under hb6⟩,fun _ _ h=>AF_over h hb6⟩); (try simp only [Act.put,zA,zZ,zS]))
 refine OrdF.in_float OrdF.Ptr (.pointer (some ⟨0,0,none⟩)) ⟨0,rfl⟩ hT9.o rfl (by decide) ?_ (by rfl) ?_ ?_
 ·rfl
 ·intro w5 κs5 hC5 hA5;go_simp;simp only [Ord3.Lands];exact ⟨⟨_,rfl⟩,⟨hC5.1.alloc hC5.1.size _,hC5.2.1.more _,hC5.2.2.more _⟩,hA5.up _⟩
 rintro _ ⟨V,rfl⟩
 try simp only [Act.put,zA,zZ,zS]
 refine OrdF.in_turn_late (by kernel_rfl) (by decide) (by decide) (fun u=>u=undef) (undef) rfl hT9.o rfl (by decide) (by rfl) ?_ (.inl rfl) (by rfl) ?_ ?_
 ·rfl
 ·rintro w5 hC5 ⟨M5,z5,⟨P5,hP5,hM5⟩,⟨hn5,_⟩ | ⟨n5,hn5,hE5⟩⟩
  ·cases hn5
  cases hn5;cases hP5;obtain ⟨rfl,rfl⟩:=hM5;have r:=hE5.rule 0 rfl; have ff:=hE5.thaw 0 rfl; have f0:=ff 0 (by simp); have f1:=ff 1 (by simp); have f2:=ff 2 (by simp); clear ff;go_simp;have hE6:=hE5.put3 0 rfl (.int .u64 q) (.int .i64 0) (.bool false); exact ⟨rfl,⟨hE6.below,hE6.get 1 rfl,hE6.get 2 rfl⟩,_,_,⟨_,rfl,rfl,rfl⟩,.inr ⟨_,rfl,hE6⟩⟩
 rintro _ rfl
 try simp only [Act.put,zA,zZ,zS]
 refine OrdF.in_nil rfl (by decide) (by decide) ?_;rintro w5 hC5 ⟨M5,z5,⟨P5,hP5,hM5⟩,⟨hn5,_⟩ | ⟨n5,hn5,hE5⟩⟩
 ·cases hn5
 cases hn5;cases hP5;obtain ⟨rfl,rfl⟩:=hM5;clear hT9;clear HTO HLE hE;go_wp2_with fail;refine Ord.wc [13] (fun v=>Blk 0 v a (laneC S.c lv key vs nx 0 x y z W C X wd pf pv)/\Blk 0 v V [.int .u64 q,.int .i64 0,.bool false]) (fun k w'=>∃ G5,Env w0 (boxI V [.int .u64 q,.int .i64 0,.bool false]::boxI a (laneC S.c lv key vs nx 0 x y z W C X wd pf pv)::LT (if k=0 then S else { S with G:=G5,f:=swf S.f (x,y,z) W q,qc:=swq S.qc false,m:=S.m+1 }) R) w') ⟨hE5.drew.get 1 rfl,hE5.drew.get 0 rfl⟩ ⟨S.G,hE5.drew⟩ fun hT9=>?_
 repeat ((first
  | (refine Ord.cv ?_ hT9.o ?_ ?_; rotate_left; (intro w5 hS; have r:=hS.1.rule; have r1:=hS.2.rule; unfold laneC at r; go_simp<;>rfl))
  | (refine Ord.co hT9.o ?_));try simp only [Act.put,zA,zZ,zS])
 refine Ord.ch_turn (v:=.bool false) 0 hT9.o rfl (by decide) (Or.inl rfl) (by rfl) ?_ ?_
 ·rintro w5 hC5 ⟨G5,hA5⟩;simp only [if_true] at hA5;go_simp;rw [method_swap];simp only [Result.andThen_ok];go_simp;simp only [Ord.LandsIn];have hsw:=swap_w x y z 0 W 0 q 0 false false HWF.out HQI.out hm 4 5 (by decide) hA5 rfl rfl;rw [HD.out] at hsw;refine hsw.mono ?_;rintro e w6 ⟨rfl,G6,hE6⟩;exact ⟨rfl,⟨hE6.get 1 rfl,hE6.get 0 rfl⟩,G6,hE6⟩
 try simp only [Act.put,zA,zZ,zS]
 repeat ((first
  | (refine Ord.cv ?_ hT9.o ?_ ?_; rotate_left; (intro w5 hS; skip; go_simp<;>rfl))
  | (refine Ord.co hT9.o ?_));try simp only [Act.put,zA,zZ,zS])
 refine Ord.InText.nil fun w5 hS=>?_;clear hT9;obtain ⟨hC9,hA9⟩:=Ord.chain_end hS;clear hS;obtain ⟨G9,hA9⟩:=hA9;clear hC9 hE5;simp only [List.length_cons,List.length_nil,Nat.zero_add,Nat.one_ne_zero,if_false] at hA9;go_wp2_with fail;refine (end_l 1 2 (by simp [laneC]) hA9 rfl).mono ?_;rintro o w7 ⟨rfl,nx,hE7⟩;go_wp2_with fail;go_ret;exact ⟨rfl,nx,G9,hE7.sub (.cons _ (List.Sublist.refl _))⟩
theorem cutYes_l (heq:S.f (x,y,z)=W) (hwf:Wf (x,y,z)) (hX:InU X) (hg:Glo w0) (hm:S.m < maxLen) (hE:Env w0 (boxI a (laneC S.c lv key vs nx 0 x y z W C X wd pf pv)::LT S R) w) :
  Calls prog 332 #[.pointer (some ⟨a,0,none⟩),.iface 26 (.pointer (some ⟨S.p,0,none⟩))] w fun o w'=>o=.returned (.int .i64 (cS (wordI false (slotI X) S.ce)))/\∃ nx G',(slotI (wordI false (slotI X) S.ce)≠0->nx=mvL 309 a)/\Env w0 (boxI a (laneC S.c lv key vs nx (cS (wordI false (slotI X) S.ce)) x y z (wordI false (slotI X) S.ce) (slotI (wordI false (slotI X) S.ce)) 0 wd pf pv)::LT { S with G:=G',f:=swf S.f (x,y,z) W (wordI false (slotI X) S.ce),qc:=swq S.qc true,m:=S.m+1 } R) w':=by
 have hmf:=makeF;have hah:=ahead_swap;have HD:Hid (decide (S.f (x,y,z)=W)=true):=zH (by simpa using heq);have HG:=zH hg;have HWF:=zH hwf;have HLE:=zH fun (v:World) (hv:Below w0.heap.size w0 v)=>lead_c X 0 false v hX (hg.keep' hv);have hqi:InU (wordI false (slotI X) S.ce):=wordI_in _ _ _;have hto:=fun (v:World) (hv:Below w0.heap.size w0 v) (hb:Blk 0 v S.c (crv S.ck S.cs S.cb S.ch S.cl S.ce S.cr S.hs 0 S.q))=>to_c (slotI X) 0 (hg.keep' hv) hb;obtain ⟨s,hs⟩:∃ s,slotI X=s:=⟨_,rfl⟩;rw [hs] at hqi ⊢;simp only [hs] at HLE hto;clear hs;obtain ⟨q,hq⟩:∃ q,wordI false s S.ce=q:=⟨_,rfl⟩;rw [hq] at hqi ⊢;simp only [hq] at hto;have HQI:=zH hqi;have HTO:=zH hto;clear hq hqi hto heq hwf hX hg;go_enter func332,ntmps332;go_wp2_with fail;refine OrdF.wp_float [?_,?_,?_,?_,?_,?_,?_,?_,?_,?_,OrdF.Ptr,?_] [11] 10 (fun v=>Below w0.heap.size w0 v/\Blk 0 v a (laneC S.c lv key vs nx 0 x y z W C X wd pf pv)/\Blk 0 v S.c (crv S.ck S.cs S.cb S.ch S.cl S.ce S.cr S.hs 0 S.q)) (OrdF.AF w0 [.int .u64 0,.int .i64 0,.bool false] (OrdF.Sta [fun N zs=>N=boxI a (laneC S.c lv key vs nx 0 x y z W C X wd pf pv)::LT S R/\zs=[.int .u64 0,.int .i64 0,.bool false],fun N zs=>N=boxI a (laneC S.c lv key vs nx 0 x y z W C X wd pf pv)::LT S R/\zs=[.int .u64 q,.int .i64 0,.bool false]])) (by kernel_rfl) (by kernel_rfl) (by kernel_rfl) ⟨hE.drew.below,hE.drew.get 0 rfl,hE.drew.get 1 rfl⟩ ⟨_,_,⟨_,rfl,rfl,rfl⟩,.inl ⟨rfl,rfl,hE.drew⟩⟩ (fun hT=>?_);rotate_left 11;have hT9:=zH hT;clear hT
 repeat ((first
  | (focus (refine OrdF.in_value (v:=?_) hT9.o (by decide) (by decide) ?_ (by rfl) ?_ ?_; rotate_left 2; (intro w5 hS; have r:=hS.2.1.rule; unfold laneC at r; go_simp<;>rfl); rotate_right; (focus rfl)))
  | (focus (refine OrdF.in_off hT9.o (by decide) (by decide) ?_ (by rfl) ?_; (focus rfl))));try simp only [Act.put,zA,zZ,zS])
 focus (refine OrdF.in_call (v:=.agg #[.int .i64 s,.int .i64 0]) (f:=?_) (args:=?_) hT9.o (by decide) (by decide) ?_ (by rfl) ?_ ?_ ?_; rotate_left 2; (focus rfl); (intro w5 hS; skip; go_simp; constructor<;>rfl); (intro w5 hS; refine (HLE.out _ hS.1).mono ?_; rintro e w6 ⟨rfl,hb6⟩; exact ⟨rfl,⟨hS.1.trans (hb6.mono hS.1.size),hS.2.1.under hb6,hS.2.2.under hb6⟩,fun _ _ h=>AF_over h hb6⟩); (try simp only [Act.put,zA,zZ,zS]))
 focus (refine OrdF.in_call (v:=.agg #[.int .u64 q,.int .i64 0,.bool false]) (f:=?_) (args:=?_) hT9.o (by decide) (by decide) ?_ (by rfl) ?_ ?_ ?_; rotate_left 2; (focus rfl); (intro w5 hS; skip; go_simp; constructor<;>rfl); (intro w5 hS; refine (HTO.out _ hS.1 hS.2.2).mono ?_; rintro e w6 ⟨rfl,hb6⟩; exact ⟨rfl,⟨hS.1.trans (hb6.mono hS.1.size),hS.2.1.under hb6,hS.2.2.under hb6⟩,fun _ _ h=>AF_over h hb6⟩); (try simp only [Act.put,zA,zZ,zS]))
 refine OrdF.in_float OrdF.Ptr (.pointer (some ⟨0,0,none⟩)) ⟨0,rfl⟩ hT9.o rfl (by decide) ?_ (by rfl) ?_ ?_
 ·rfl
 ·intro w5 κs5 hC5 hA5;go_simp;simp only [Ord3.Lands];exact ⟨⟨_,rfl⟩,⟨hC5.1.alloc hC5.1.size _,hC5.2.1.more _,hC5.2.2.more _⟩,hA5.up _⟩
 rintro _ ⟨V,rfl⟩
 try simp only [Act.put,zA,zZ,zS]
 refine OrdF.in_turn_late (by kernel_rfl) (by decide) (by decide) (fun u=>u=undef) (undef) rfl hT9.o rfl (by decide) (by rfl) ?_ (.inl rfl) (by rfl) ?_ ?_
 ·rfl
 ·rintro w5 hC5 ⟨M5,z5,⟨P5,hP5,hM5⟩,⟨hn5,_⟩ | ⟨n5,hn5,hE5⟩⟩
  ·cases hn5
  cases hn5;cases hP5;obtain ⟨rfl,rfl⟩:=hM5;have r:=hE5.rule 0 rfl; have ff:=hE5.thaw 0 rfl; have f0:=ff 0 (by simp); have f1:=ff 1 (by simp); have f2:=ff 2 (by simp); clear ff;go_simp;have hE6:=hE5.put3 0 rfl (.int .u64 q) (.int .i64 0) (.bool false); exact ⟨rfl,⟨hE6.below,hE6.get 1 rfl,hE6.get 2 rfl⟩,_,_,⟨_,rfl,rfl,rfl⟩,.inr ⟨_,rfl,hE6⟩⟩
 rintro _ rfl
 try simp only [Act.put,zA,zZ,zS]
 refine OrdF.in_nil rfl (by decide) (by decide) ?_;rintro w5 hC5 ⟨M5,z5,⟨P5,hP5,hM5⟩,⟨hn5,_⟩ | ⟨n5,hn5,hE5⟩⟩
 ·cases hn5
 cases hn5;cases hP5;obtain ⟨rfl,rfl⟩:=hM5;clear hT9;clear HTO HLE hE;go_wp2_with fail;refine Ord.wc [13] (fun v=>Blk 0 v a (laneC S.c lv key vs nx 0 x y z W C X wd pf pv)/\Blk 0 v V [.int .u64 q,.int .i64 0,.bool false]) (fun k w'=>∃ G5,Env w0 (boxI V [.int .u64 q,.int .i64 0,.bool false]::boxI a (laneC S.c lv key vs nx 0 x y z W C X wd pf pv)::LT (if k=0 then S else { S with G:=G5,f:=swf S.f (x,y,z) W q,qc:=swq S.qc true,m:=S.m+1 }) R) w') ⟨hE5.drew.get 1 rfl,hE5.drew.get 0 rfl⟩ ⟨S.G,hE5.drew⟩ fun hT9=>?_
 repeat ((first
  | (refine Ord.cv ?_ hT9.o ?_ ?_; rotate_left; (intro w5 hS; have r:=hS.1.rule; have r1:=hS.2.rule; unfold laneC at r; go_simp<;>rfl))
  | (refine Ord.co hT9.o ?_));try simp only [Act.put,zA,zZ,zS])
 refine Ord.ch_turn (v:=.bool true) 0 hT9.o rfl (by decide) (Or.inl rfl) (by rfl) ?_ ?_
 ·rintro w5 hC5 ⟨G5,hA5⟩;simp only [if_true] at hA5;go_simp;rw [method_swap];simp only [Result.andThen_ok];go_simp;simp only [Ord.LandsIn];have hsw:=swap_w x y z 0 W 0 q 0 false false HWF.out HQI.out hm 4 5 (by decide) hA5 rfl rfl;rw [HD.out] at hsw;refine hsw.mono ?_;rintro e w6 ⟨rfl,G6,hE6⟩;exact ⟨rfl,⟨hE6.get 1 rfl,hE6.get 0 rfl⟩,G6,hE6⟩
 try simp only [Act.put,zA,zZ,zS]
 repeat ((first
  | (refine Ord.cv ?_ hT9.o ?_ ?_; rotate_left; (intro w5 hS; skip; go_simp<;>rfl))
  | (refine Ord.co hT9.o ?_));try simp only [Act.put,zA,zZ,zS])
 refine Ord.InText.nil fun w5 hS=>?_;clear hT9;obtain ⟨hC9,hA9⟩:=Ord.chain_end hS;clear hS;obtain ⟨G9,hA9⟩:=hA9;clear hC9 hE5;simp only [List.length_cons,List.length_nil,Nat.zero_add,Nat.one_ne_zero,if_false] at hA9;have rV:=hA9.rule 0 rfl;go_wp2_with fail;refine (come_l q HQI.out HG.out (hA9.sub (.cons _ (List.Sublist.refl _)))).mono ?_;rintro o w7 ⟨rfl,nx,hnx,hE7⟩;go_wp2_with fail;go_ret;exact ⟨rfl,nx,G9,hnx,hE7⟩
end
section
variable {w0 w:World} {R:List Item} {a b1 b2:Nat} {S:ST} {lv key:Int} {vs:Bool} {nx:Value} {x y z W C X wd:Int} {pf:Bool} {pv:Int}
theorem val1No_l (T:Value) (hok:okB (S.f (1,0,0)) S.ce=false) (hE:Env w0 (boxI a (laneC S.c lv key vs nx 0 x y z W C X wd pf pv)::boxI b1 [.pointer (some ⟨a,0,none⟩)]::boxI b2 [T]::LT S R) w) :
  Calls prog 293 #[.iface 26 (.pointer (some ⟨S.p,0,none⟩)),.pointer (some ⟨b1,0,none⟩),.pointer (some ⟨b2,0,none⟩)] w fun o w'=>o=.returned (.int .i64 2)/\∃ nx,Env w0 (boxI a (laneC S.c lv key vs nx 2 x y z W C X wd pf pv)::boxI b1 [.pointer (some ⟨a,0,none⟩)]::boxI b2 [T]::LT { S with qc:={ S.qc with l:=wrap64 (S.qc.l+1) },cr:=wrap64 (S.cr+1) } R) w':=by
 have hv:=valid_w _ (rfl:S.f (1,0,0)=S.f (1,0,0)) 3 5 6 (by decide) (by decide) hE rfl rfl rfl;rw [hok] at hv;simp only [zS,zZ,Bool.false_eq_true,if_false] at hv;have HV:=zH hv;clear hv hok;have r0:=hE.rule 1 rfl;have r:=hE.rule 0 rfl;unfold laneC at r;go_enter func293,ntmps293;go_wp2_with fail;refine HV.out.mono ?_;rintro o w1 ⟨rfl,hE1⟩;replace hE1:Env w0 (boxI a (laneC S.c lv key vs nx 0 x y z W C X wd pf pv)::boxI b1 [.pointer (some ⟨a,0,none⟩)]::boxI b2 [T]::LT { S with qc:={ S.qc with l:=wrap64 (S.qc.l+1) },cr:=wrap64 (S.cr+1) } R) w1:=hE1;clear HV hE r0 r;have r0:=hE1.rule 1 rfl;go_wp2_with fail;refine (end_l 0 2 (by simp [laneC]) hE1 rfl).mono ?_;rintro o w6 ⟨rfl,nx,hE6⟩;go_wp2_with fail;go_ret;exact ⟨rfl,nx,hE6⟩
theorem val1Yes_l (F:Nat) (hx:∀ (ar:Array Value) (v:World),(callFunc F ar).run prog v=.ok (.enter F ar) v) (hok:okB (S.f (1,0,0)) S.ce=true) (hE:Env w0 (boxI a (laneC S.c lv key vs nx 0 x y z W C X wd pf pv)::boxI b1 [.pointer (some ⟨a,0,none⟩)]::boxI b2 [mvL F a]::LT S R) w) (s:Int) (Y:World->Prop)
  (hc:∀ v,Env w0 (boxI a (laneC S.c lv key vs nx 0 x y z W C X wd pf pv)::boxI b1 [.pointer (some ⟨a,0,none⟩)]::boxI b2 [mvL F a]::LT { S with qc:={ S.qc with l:=wrap64 (S.qc.l+1) } } R) v->Calls prog F #[.pointer (some ⟨a,0,none⟩)] v fun o w'=>o=.returned (.int .i64 s)/\Y w') :
  Calls prog 293 #[.iface 26 (.pointer (some ⟨S.p,0,none⟩)),.pointer (some ⟨b1,0,none⟩),.pointer (some ⟨b2,0,none⟩)] w fun o w'=>o=.returned (.int .i64 s)/\Y w':=by
 have hv:=valid_w _ (rfl:S.f (1,0,0)=S.f (1,0,0)) 3 5 6 (by decide) (by decide) hE rfl rfl rfl;rw [hok] at hv;simp only [zS,zZ,if_true] at hv;have HV:=zH hv;have HC:=zH hc;clear hv hok hc;have r0:=hE.rule 1 rfl;have r:=hE.rule 0 rfl;unfold laneC at r;go_enter func293,ntmps293;go_wp2_with fail;refine HV.out.mono ?_;rintro o w1 ⟨rfl,hE1⟩;replace hE1:Env w0 (boxI a (laneC S.c lv key vs nx 0 x y z W C X wd pf pv)::boxI b1 [.pointer (some ⟨a,0,none⟩)]::boxI b2 [mvL F a]::LT { S with qc:={ S.qc with l:=wrap64 (S.qc.l+1) } } R) w1:=hE1;clear HV hE r0 r;have r0:=hE1.rule 2 rfl;unfold mvL at r0;go_wp2_with fail;refine (HC.out _ hE1).mono ?_;rintro o w6 ⟨rfl,hY⟩;go_wp2_with fail;go_ret;exact ⟨rfl,hY⟩
end
def laneV (c:Nat) (lv key:Int) (vs:Bool) (nx:Value) (st wd:Int) (pf:Bool) (pv:Int) (L:Lm):List Value:=laneC c lv key vs nx st L.p.1 L.p.2.1 L.p.2.2 L.W L.C L.X wd pf pv
def fnL (pc:Nat):Nat:=if pc=0 then 242 else if pc=3 then 309 else if pc=5 then 332 else if pc=6 then 333 else 340
def bhL (pc:Nat):Nat:=if pc=2 then 272 else if pc=4 then 326 else if pc=7 then 337 else 341
theorem enters_fnL (pc:Nat) (ar:Array Value) (v:World):(callFunc (fnL pc) ar).run prog v=.ok (.enter (fnL pc) ar) v:=by
 unfold fnL
 repeat' split
 all_goals kernel_rfl
theorem enters_bhL (pc:Nat) (ar:Array Value) (v:World):(callFunc (bhL pc) ar).run prog v=.ok (.enter (bhL pc) ar) v:=by
 unfold bhL
 repeat' split
 all_goals kernel_rfl
def NxOk (a pc:Nat) (nx:Value) (B1 B2:Item):Prop:=(isVal pc=false->nx=mvL (fnL pc) a)/\(isVal pc=true->∃ b1 b2,nx=cvL b1 b2/\B1=boxI b1 [.pointer (some ⟨a,0,none⟩)]/\B2=boxI b2 [mvL (bhL pc) a])
def pfS (s:Int) (L:Lm):Bool:=if s=1 then L.fd else false
def pvS (s:Int) (L:Lm):Int:=if s=1 then L.V else 0
def LaneR (w0:World) (R:List Item) (a:Nat) (lv key:Int) (vs:Bool) (S:ST) (s:Int) (L:Lm) (w:World):Prop :=
 ∃ nx wd B1 B2,(s=0->NxOk a L.pc nx B1 B2/\(L.pc=7->wd=L.K)/\(L.pc=9->wd=L.V))/\Env w0 (boxI a (laneV S.c lv key vs nx s wd (pfS s L) (pvS s L) L)::B1::B2::LT S R) w
def laneQ (L:Lm) (f:Plc->Int) (q:Cnt):Cnt:=if L.pc=5 then swq q (decide (f L.p=L.W)) else { q with l:=wrap64 (q.l+1) }
def laneS (lv key:Int) (vs:Bool) (S:ST) (L:Lm) (G:Nat->Prop):ST:={ S with G:=G,f:=(laneM lv key vs S.ce L S.f).2.2,qc:=laneQ L S.f S.qc,m:=if L.pc=5 then S.m+1 else S.m,cr:=rollM S.ce L S.f S.cr }
theorem wf_part {C n:Int} (h:0<=C/\C<=8388607) (hn:0<=n/\n<=2000000):Wf (5,C,n):=by unfold Wf In64; simp; omega
theorem comeM_cS (L:Lm) (v:Int):comeM L v=(cS v,{ L with W:=v,X:=0,C:=slotI v,pc:=3 }):=rfl
section
variable {w0 w:World} {R:List Item} {a:Nat} {S:ST} {lv key:Int} {vs:Bool} {L:Lm}
theorem LaneR.came {nx:Value} {v wd:Int} {B1 B2:Item} {L':Lm} (hl:L'={ L with W:=v,X:=0,C:=slotI v,pc:=3 }) (hfd:L.fd=false) (hv:L.V=0) (hnx:slotI v≠0->nx=mvL 309 a) (hE:Env w0 (boxI a (laneC S.c lv key vs nx (cS v) L.p.1 L.p.2.1 L.p.2.2 v (slotI v) 0 wd false 0)::B1::B2::LT S R) w):LaneR w0 R a lv key vs S (cS v) L' w:=by
 subst hl;refine ⟨nx,wd,B1,B2,fun hs=>⟨⟨fun _=>hnx ?_,fun h=>absurd h (by simp [isVal])⟩,fun h=>absurd h (by simp),fun h=>absurd h (by simp)⟩,?_⟩
 ·intro h;rw [cS,if_pos h] at hs;exact absurd hs (by decide)
 ·have h1:pfS (cS v) { L with W:=v,X:=0,C:=slotI v,pc:=3 }=false:=by unfold pfS; split; exact hfd; rfl
  have h2:pvS (cS v) { L with W:=v,X:=0,C:=slotI v,pc:=3 }=0:=by unfold pvS; split; exact hv; rfl
  rw [h1,h2];exact hE
end
end
end Go.Proofs.YtdknbegcflldjaaGreatDoor
