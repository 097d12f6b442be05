/- What is proved on the way to the statement, part 15: contracts of the functions, among other things in memory. -/
import Derived.Test.YtleklonmmlfijaaGreatDoorQ14

open _root_.Go.Proofs.Tryz
set_option maxRecDepth 100000
set_option maxHeartbeats 25600000
namespace Go.Proofs.YtleklonmmlfijaaGreatDoor
section
open Go.RowKit Go.Maps
theorem BD {ql:List bF} {e l:Int} (h:bk ql e l=1):e < l:=by
 rcases ql with _ | ⟨⟨x,y,z⟩,t⟩
 ·exact no h rfl
 ·simp only[bk] at h
  split at h
  ·exact absurd h (by decide)
  ·split at h
   ·exact absurd h (by decide)
   ·omega
theorem BE {ql:List bF} {e l:Int} (h:bk ql e l=10):ql≠[]:=by
 rintro rfl;exact no h rfl
theorem Fo (k n:Nat):eF k n=0\/eF k n=1:=by
 unfold eF
 split
 ·exact .inr rfl
 ·exact .inl rfl
theorem Fp {ql:List bF} {e l:Int}:(bk ql e l=0/\dI ql e l=4)\/(bk ql e l≠0/\dI ql e l=0):=by
 unfold dI
 by_cases h:bk ql e l=0
 ·exact .inl ⟨h,if_pos h⟩
 ·exact .inr ⟨h,if_neg h⟩
theorem Fq (ql:List bF):(ql=[]/\js ql=1)\/(ql≠[]/\js ql=0):=by
 rcases ql with _ | ⟨x,t⟩
 ·exact .inl ⟨rfl,rfl⟩
 ·exact .inr ⟨by simp,rfl⟩
theorem x3 {C:Cf} {l:List bF} {x y:Int} (h:∀ z∈l,1<=z.1/\z.1<=C.s/\z.2.2=0) (h1:1<=x) (h2:x<=C.s):∀ z∈l++[(x,y,0)],1<=z.1/\z.1<=C.s/\z.2.2=0:=by
 intro z hz
 rcases List.mem_append.1 hz with hz | hz
 ·exact h z hz
 ·simp at hz;subst hz;exact⟨h1,h2,rfl⟩
section
variable {C:Cf} {ds:List Dd} {B:Nat} {T:Th} {f:Mem} {d:Dd}
theorem Fs (C:Cf) (d:Dd) (T:Th) (f:Mem) (hp:T.pc=2):je C d T f=({ (aT C d T f).2.1 with pc:=if (aT C d T f).1=2 then 1 else if (aT C d T f).1=0 then 2 else 0,done:=if (aT C d T f).1=1 then T.done+1 else T.done,full:=(aT C d T f).1==3 },(aT C d T f).2.2):=by
 unfold je;rw[if_neg (by omega),if_pos hp]
theorem OP (hC:jy C) (hF:db C f) (hT:dM C ds B T) (h2:T.pc=2) (hu:∀ x,aD ((je C d T f).2 x)):db C (je C d T f).2/\dM C ds (B+1) (je C d T f).1:=by
 have hp:T.pc≠0:=by omega
 have hm:=hT.more;have hs:=hC.s;have j7:=hF.u;have pO:=hT.done;rw[Fs C d T f h2] at hu ⊢
 rcases hT.apc h2 with ha | ha | ha | ha | ha | ha | ha
 ·have ji:=hT.low h2 (by omega);have bp:aT C d T f=(2,T,swf f (1,0,0) T.e (T.e+1)):=by unfold aT;rw[if_pos ha]
  rw[bp] at hu ⊢;exact⟨hF.swe (by have:=hT.adv h2 ha;omega) hu,{ hm with pc:=.inr (.inl rfl),p1:=fun _=>ji,nd1:=fun _=>hT.nd1 hp,apc:=fun h=>no h rfl,low:=fun h=>no h rfl,adv:=fun h=>no h rfl,born:=fun h=>no h rfl,pool:=fun h=>no h rfl,rpc:=fun h=>no h rfl,rsp:=fun h=>no h rfl,give:=fun h=>no h rfl,gv:=fun h=>no h rfl }⟩
 ·have ji:=hT.low h2 (by omega)
  by_cases hx:C.s<=f (3,0,0)
  ·have bp:aT C d T f=(0,{ T with apc:=3 },upd f (3,0,0) (IntKind.u64.wrap (f (3,0,0)+1))):=by unfold aT;rw[if_neg (by omega),if_pos ha,if_pos hx]
   rw[bp] at hu ⊢;exact⟨hF.upd (by simp) (by simp) (fun i h=>by simp at h) hu,{ hm with pc:=.inr (.inr (.inl rfl)),nd1:=fun _=>hT.nd1 hp,p1:=fun h=>no h rfl,rpc:=fun h=>no h rfl,rsp:=fun h=>no h rfl,give:=fun h=>no h rfl,gv:=fun h=>no h rfl,apc:=fun _=>.inr (.inr (.inl rfl)),low:=fun _ _=>ji,adv:=fun _ h=>no h rfl,born:=fun _ h=>no h rfl,pool:=fun _ ha hb=>(by have uv:4<=(3:Nat):=ha;have lT:(3:Nat)<=6:=hb;omega) }⟩
  ·have bp:aT C d T f=(dI (T.ql++[(f (3,0,0)+1,0,0)]) T.e C.l,{ T with ql:=T.ql++[(f (3,0,0)+1,0,0)],apc:=bk (T.ql++[(f (3,0,0)+1,0,0)]) T.e C.l },upd f (3,0,0) (IntKind.u64.wrap (f (3,0,0)+1))):=by unfold aT;rw[if_neg (by omega),if_pos ha,if_neg hx]
   rw[bp] at hu ⊢;have TD:0<=f (3,0,0):=(j7 _).1;refine⟨hF.upd (by simp) (by simp) (fun i h=>by simp at h) hu,?_⟩;clear hu bp;have hq:=x3 (y:=0) hT.ql (show 1<=f (3,0,0)+1 by omega) (by omega)
   rcases Fp (ql:=T.ql++[(f (3,0,0)+1,0,0)]) (e:=T.e) (l:=C.l) with ⟨hD,hS⟩ | ⟨hD,hS⟩
   ·rw[hS];exact { hm with ql:=hq,len:=(by have:=hT.len;simp;omega),pc:=.inl rfl,nd1:=fun _=>hT.nd1 hp,p1:=fun h=>no h rfl,apc:=fun h=>no h rfl,low:=fun h=>no h rfl,adv:=fun h=>no h rfl,born:=fun h=>no h rfl,pool:=fun h=>no h rfl,rpc:=fun h=>no h rfl,rsp:=fun h=>no h rfl,give:=fun h=>no h rfl,gv:=fun h=>no h rfl }
   ·rw[hS];refine { hm with ql:=hq,len:=(by have:=hT.len;simp;omega),pc:=.inr (.inr (.inl rfl)),nd1:=fun _=>hT.nd1 hp,p1:=fun h=>no h rfl,rpc:=fun h=>no h rfl,rsp:=fun h=>no h rfl,give:=fun h=>no h rfl,gv:=fun h=>no h rfl,apc:=fun _=>?_,low:=fun _ _=>ji,adv:=fun _ h=>BD h,born:=fun _ h=>BE h,pool:=fun _ ha hb=>?_ }
    ·show bk (T.ql++[(f (3,0,0)+1,0,0)]) T.e C.l=1\/bk (T.ql++[(f (3,0,0)+1,0,0)]) T.e C.l=2\/bk (T.ql++[(f (3,0,0)+1,0,0)]) T.e C.l=3\/bk (T.ql++[(f (3,0,0)+1,0,0)]) T.e C.l=4\/bk (T.ql++[(f (3,0,0)+1,0,0)]) T.e C.l=5\/bk (T.ql++[(f (3,0,0)+1,0,0)]) T.e C.l=6\/10<=bk (T.ql++[(f (3,0,0)+1,0,0)]) T.e C.l
     rcases mU (T.ql++[(f (3,0,0)+1,0,0)]) T.e C.l with h | h | h | h<;>omega
    ·have uv:4<=bk (T.ql++[(f (3,0,0)+1,0,0)]) T.e C.l:=ha;have lT:bk (T.ql++[(f (3,0,0)+1,0,0)]) T.e C.l<=6:=hb
     rcases mU (T.ql++[(f (3,0,0)+1,0,0)]) T.e C.l with h | h | h | h<;>omega
 ·have ji:=hT.low h2 (by omega);have bp:aT C d T f=(gC (f (2,0,0)) C.l,{ T with ah:=f (2,0,0),apc:=4 },f):=by unfold aT;rw[if_neg (by omega),if_neg (by omega),if_pos ha]
  rw[bp] at hu ⊢;refine⟨hF,?_⟩;have hw:aD (f (2,0,0))/\aD T.an/\aD T.ar:=⟨j7 _,hT.w.2⟩
  by_cases q1:aA (f (2,0,0))=0
  ·rw[show gC (f (2,0,0)) C.l=3 from if_pos q1];exact { hm with w:=hw,pc:=.inl rfl,nd1:=fun _=>hT.nd1 hp,p1:=fun h=>no h rfl,apc:=fun h=>no h rfl,low:=fun h=>no h rfl,adv:=fun h=>no h rfl,born:=fun h=>no h rfl,pool:=fun h=>no h rfl,rpc:=fun h=>no h rfl,rsp:=fun h=>no h rfl,give:=fun h=>no h rfl,gv:=fun h=>no h rfl }
  ·by_cases q2:C.l<=dr (f (2,0,0))
   ·rw[show gC (f (2,0,0)) C.l=4 from (if_neg q1).trans (if_pos q2)];exact { hm with w:=hw,pc:=.inl rfl,nd1:=fun _=>hT.nd1 hp,p1:=fun h=>no h rfl,apc:=fun h=>no h rfl,low:=fun h=>no h rfl,adv:=fun h=>no h rfl,born:=fun h=>no h rfl,pool:=fun h=>no h rfl,rpc:=fun h=>no h rfl,rsp:=fun h=>no h rfl,give:=fun h=>no h rfl,gv:=fun h=>no h rfl }
   ·rw[show gC (f (2,0,0)) C.l=0 from (if_neg q1).trans (if_neg q2)];exact { hm with w:=hw,pc:=.inr (.inr (.inl rfl)),nd1:=fun _=>hT.nd1 hp,p1:=fun h=>no h rfl,rpc:=fun h=>no h rfl,rsp:=fun h=>no h rfl,give:=fun h=>no h rfl,gv:=fun h=>no h rfl,apc:=fun _=>.inr (.inr (.inr (.inl rfl))),low:=fun _ _=>ji,adv:=fun _ h=>no h rfl,born:=fun _ h=>no h rfl,pool:=fun _ _ _=>⟨(by have:=nV (f (2,0,0));show 1<=aA (f (2,0,0));omega),hF.pool,(by show dr (f (2,0,0)) < C.l;omega)⟩ }
 ·have ji:=hT.low h2 (by omega);have bp:aT C d T f=(0,{ T with an:=f (5,aA T.ah,2),apc:=5 },f):=by unfold aT;(iterate 3 rw[if_neg (by omega)]);rw[if_pos ha]
  rw[bp] at hu ⊢;exact⟨hF,{ hm with w:=⟨hT.w.1,j7 _,hT.w.2.2⟩,an:=hF.chain _,pc:=.inr (.inr (.inl rfl)),nd1:=fun _=>hT.nd1 hp,p1:=fun h=>no h rfl,rpc:=fun h=>no h rfl,rsp:=fun h=>no h rfl,give:=fun h=>no h rfl,gv:=fun h=>no h rfl,apc:=fun _=>.inr (.inr (.inr (.inr (.inl rfl)))),low:=fun _ _=>ji,adv:=fun _ h=>no h rfl,born:=fun _ h=>no h rfl,pool:=fun _ _ _=>hT.pool h2 (by omega) (by omega) }⟩
 ·have ji:=hT.low h2 (by omega);have bp:aT C d T f=(0,{ T with ar:=f (5,aA T.ah,1),apc:=6 },f):=by unfold aT;(iterate 4 rw[if_neg (by omega)]);rw[if_pos ha]
  rw[bp] at hu ⊢;exact⟨hF,{ hm with w:=⟨hT.w.1,hT.w.2.1,j7 _⟩,pc:=.inr (.inr (.inl rfl)),nd1:=fun _=>hT.nd1 hp,p1:=fun h=>no h rfl,rpc:=fun h=>no h rfl,rsp:=fun h=>no h rfl,give:=fun h=>no h rfl,gv:=fun h=>no h rfl,apc:=fun _=>.inr (.inr (.inr (.inr (.inr (.inl rfl))))),low:=fun _ _=>ji,adv:=fun _ h=>no h rfl,born:=fun _ h=>no h rfl,pool:=fun _ _ _=>hT.pool h2 (by omega) (by omega) }⟩
 ·have ji:=hT.low h2 (by omega);have gq:=hT.pool h2 (by omega) (by omega)
  by_cases hx:f (2,0,0)=T.ah
  ·have bp:aT C d T f=(dI (T.ql++[(aA T.ah,bg T.ar,0)]) T.e C.l,{ T with ql:=T.ql++[(aA T.ah,bg T.ar,0)],apc:=bk (T.ql++[(aA T.ah,bg T.ar,0)]) T.e C.l },swf f (2,0,0) T.ah (eh T.ah (aA T.an))):=by unfold aT;(iterate 5 rw[if_neg (by omega)]);rw[if_pos ha,if_pos hx]
   rw[bp] at hu ⊢;refine⟨hF.swp (xT (by omega) hT.an) hu,?_⟩;clear hu bp;have hq:=x3 (y:=bg T.ar) hT.ql gq.1 gq.2.1
   rcases Fp (ql:=T.ql++[(aA T.ah,bg T.ar,0)]) (e:=T.e) (l:=C.l) with ⟨hD,hS⟩ | ⟨hD,hS⟩
   ·rw[hS];exact { hm with ql:=hq,len:=(by have:=hT.len;simp;omega),pc:=.inl rfl,nd1:=fun _=>hT.nd1 hp,p1:=fun h=>no h rfl,apc:=fun h=>no h rfl,low:=fun h=>no h rfl,adv:=fun h=>no h rfl,born:=fun h=>no h rfl,pool:=fun h=>no h rfl,rpc:=fun h=>no h rfl,rsp:=fun h=>no h rfl,give:=fun h=>no h rfl,gv:=fun h=>no h rfl }
   ·rw[hS];refine { hm with ql:=hq,len:=(by have:=hT.len;simp;omega),pc:=.inr (.inr (.inl rfl)),nd1:=fun _=>hT.nd1 hp,p1:=fun h=>no h rfl,rpc:=fun h=>no h rfl,rsp:=fun h=>no h rfl,give:=fun h=>no h rfl,gv:=fun h=>no h rfl,apc:=fun _=>?_,low:=fun _ _=>ji,adv:=fun _ h=>BD h,born:=fun _ h=>BE h,pool:=fun _ ha hb=>?_ }
    ·show bk (T.ql++[(aA T.ah,bg T.ar,0)]) T.e C.l=1\/bk (T.ql++[(aA T.ah,bg T.ar,0)]) T.e C.l=2\/bk (T.ql++[(aA T.ah,bg T.ar,0)]) T.e C.l=3\/bk (T.ql++[(aA T.ah,bg T.ar,0)]) T.e C.l=4\/bk (T.ql++[(aA T.ah,bg T.ar,0)]) T.e C.l=5\/bk (T.ql++[(aA T.ah,bg T.ar,0)]) T.e C.l=6\/10<=bk (T.ql++[(aA T.ah,bg T.ar,0)]) T.e C.l
     rcases mU (T.ql++[(aA T.ah,bg T.ar,0)]) T.e C.l with h | h | h | h<;>omega
    ·have uv:4<=bk (T.ql++[(aA T.ah,bg T.ar,0)]) T.e C.l:=ha;have lT:bk (T.ql++[(aA T.ah,bg T.ar,0)]) T.e C.l<=6:=hb
     rcases mU (T.ql++[(aA T.ah,bg T.ar,0)]) T.e C.l with h | h | h | h<;>omega
  ·have bp:aT C d T f=(0,{ T with apc:=3 },swf f (2,0,0) T.ah (eh T.ah (aA T.an))):=by unfold aT;(iterate 5 rw[if_neg (by omega)]);rw[if_pos ha,if_neg hx]
   rw[bp] at hu ⊢;exact⟨hF.swp (xT (by omega) hT.an) hu,{ hm with pc:=.inr (.inr (.inl rfl)),nd1:=fun _=>hT.nd1 hp,p1:=fun h=>no h rfl,rpc:=fun h=>no h rfl,rsp:=fun h=>no h rfl,give:=fun h=>no h rfl,gv:=fun h=>no h rfl,apc:=fun _=>.inr (.inr (.inl rfl)),low:=fun _ _=>ji,adv:=fun _ h=>no h rfl,born:=fun _ h=>no h rfl,pool:=fun _ ha hb=>(by have uv:4<=(3:Nat):=ha;have lT:(3:Nat)<=6:=hb;omega) }⟩
 ·by_cases mV:T.apc=10
  ·have bp:aT C d T f=(eF 0 (cX C.k T.e d.key d.val (IntKind.u64.wrap d.lv)).length,{ T with ql:=T.ql.tail,hs:=(T.ql.headD t0).1,apc:=11 },upd f (5,(T.ql.headD t0).1,((cX C.k T.e d.key d.val (IntKind.u64.wrap d.lv)).getD (T.apc - 10) (0,0)).1) ((cX C.k T.e d.key d.val (IntKind.u64.wrap d.lv)).getD (T.apc - 10) (0,0)).2):=by unfold aT;(iterate 5 rw[if_neg (by omega)]);rw[if_neg (by omega)];dsimp only;rw[if_pos mV]
   rw[bp] at hu ⊢;obtain⟨x,t,vL⟩:∃ x t,T.ql=x::t:=by
    rcases hq:T.ql with _ | ⟨x,t⟩
    ·exact absurd hq (hT.born h2 mV)
    ·exact⟨x,t,rfl⟩
   have BF:=Fa C.k T.e d.key d.val (IntKind.u64.wrap d.lv) (T.apc - 10);refine⟨hF.upd (by simp) (by simp) (fun i h=>by simp at h;exact absurd h.2 BF) hu,?_⟩;have BG:=hT.ql x (by rw[vL];simp);have vM:∀ z∈T.ql.tail,1<=z.1/\z.1<=C.s/\z.2.2=0:=fun z hz=>hT.ql z (List.mem_of_mem_tail hz);have bZ:0<=(T.ql.headD t0).1/\(T.ql.headD t0).1<=C.s:=by rw[vL];exact⟨by show 0<=x.1;omega,BG.2.1⟩
   have nL:T.ql.tail.length+(ds.length - T.nd)<=B+1:=by have:=hT.len;simp;omega
   rcases Fo 0 (cX C.k T.e d.key d.val (IntKind.u64.wrap d.lv)).length with h | h<;>rw[h]
   ·exact { hm with hs:=bZ,ql:=vM,len:=nL,pc:=.inr (.inr (.inl rfl)),nd1:=fun _=>hT.nd1 hp,p1:=fun h=>no h rfl,rpc:=fun h=>no h rfl,rsp:=fun h=>no h rfl,give:=fun h=>no h rfl,gv:=fun h=>no h rfl,apc:=fun _=>.inr (.inr (.inr (.inr (.inr (.inr (by show (10:Nat)<=11;decide)))))),low:=fun _ h=>absurd h (by show ¬ (11:Nat)<=10;decide),adv:=fun _ h=>no h rfl,born:=fun _ h=>no h rfl,pool:=fun _ ha hb=>(by have uv:4<=(11:Nat):=ha;have lT:(11:Nat)<=6:=hb;omega) }
   ·exact { hm with hs:=bZ,ql:=vM,len:=nL,done:=(by show 0<=T.done+1/\T.done+1<=((B+1:Nat):Int);omega),pc:=.inl rfl,nd1:=fun _=>hT.nd1 hp,p1:=fun h=>no h rfl,apc:=fun h=>no h rfl,low:=fun h=>no h rfl,adv:=fun h=>no h rfl,born:=fun h=>no h rfl,pool:=fun h=>no h rfl,rpc:=fun h=>no h rfl,rsp:=fun h=>no h rfl,give:=fun h=>no h rfl,gv:=fun h=>no h rfl }
  ·have bp:aT C d T f=(eF (T.apc - 10) (cX C.k T.e d.key d.val (IntKind.u64.wrap d.lv)).length,{ T with apc:=T.apc+1 },upd f (5,T.hs,((cX C.k T.e d.key d.val (IntKind.u64.wrap d.lv)).getD (T.apc - 10) (0,0)).1) ((cX C.k T.e d.key d.val (IntKind.u64.wrap d.lv)).getD (T.apc - 10) (0,0)).2):=by unfold aT;(iterate 5 rw[if_neg (by omega)]);rw[if_neg (by omega)];dsimp only;rw[if_neg mV]
   rw[bp] at hu ⊢;have BF:=Fa C.k T.e d.key d.val (IntKind.u64.wrap d.lv) (T.apc - 10);refine⟨hF.upd (by simp) (by simp) (fun i h=>by simp at h;exact absurd h.2 BF) hu,?_⟩
   rcases Fo (T.apc - 10) (cX C.k T.e d.key d.val (IntKind.u64.wrap d.lv)).length with h | h<;>rw[h]
   ·exact { hm with pc:=.inr (.inr (.inl rfl)),nd1:=fun _=>hT.nd1 hp,p1:=fun h=>no h rfl,rpc:=fun h=>no h rfl,rsp:=fun h=>no h rfl,give:=fun h=>no h rfl,gv:=fun h=>no h rfl,apc:=fun _=>.inr (.inr (.inr (.inr (.inr (.inr (by show 10<=T.apc+1;omega)))))),low:=fun _ h=>(by have h':T.apc+1<=10:=h;omega),adv:=fun _ h=>(by have h':T.apc+1=1:=h;omega),born:=fun _ h=>(by have h':T.apc+1=10:=h;omega),pool:=fun _ ha hb=>(by have uv:4<=(T.apc+1:Nat):=ha;have lT:(T.apc+1:Nat)<=6:=hb;omega) }
   ·exact { hm with done:=(by show 0<=T.done+1/\T.done+1<=((B+1:Nat):Int);omega),pc:=.inl rfl,nd1:=fun _=>hT.nd1 hp,p1:=fun h=>no h rfl,apc:=fun h=>no h rfl,low:=fun h=>no h rfl,adv:=fun h=>no h rfl,born:=fun h=>no h rfl,pool:=fun h=>no h rfl,rpc:=fun h=>no h rfl,rsp:=fun h=>no h rfl,give:=fun h=>no h rfl,gv:=fun h=>no h rfl }
theorem OQ (hC:jy C) (hF:db C f) (hT:dM C ds B T) (h3:T.pc=3) (hu:∀ x,aD ((je C d T f).2 x)):db C (je C d T f).2/\dM C ds (B+1) (je C d T f).1:=by
 have hp:T.pc≠0:=by omega
 have hm:=hT.more;have hs:=hC.s;have pP:je C d T f=({ (cQ T f).2.1 with pc:=if (cQ T f).1=0 then 3 else 0,full:=false },(cQ T f).2.2):=by
  unfold je;rw[if_neg (by omega),if_neg (by omega),if_pos h3]
 rw[pP] at hu ⊢
 rcases hT.rpc h3 with hr | hr
 ·have bp:cQ T f=(0,{ T with re:=f (1,0,0),rpc:=1 },f):=by unfold cQ;rw[if_pos hr]
  rw[bp] at hu ⊢;exact⟨hF,{ hm with re:=⟨(hF.u _).1,hF.ep⟩,pc:=.inr (.inr (.inr (.inl rfl))),nd1:=fun _=>hT.nd1 hp,p1:=fun h=>no h rfl,apc:=fun h=>no h rfl,low:=fun h=>no h rfl,adv:=fun h=>no h rfl,born:=fun h=>no h rfl,pool:=fun h=>no h rfl,give:=fun h=>no h rfl,gv:=fun h=>no h rfl,rpc:=fun _=>.inr rfl,rsp:=fun _=>hT.rsp h3 }⟩
 ·have bp:cQ T f=(1,{ T with ql:=T.ql++[(T.rs,bg T.re,0)] },upd f (5,T.rs,1) T.re):=by unfold cQ;rw[if_neg (by omega)]
  rw[bp] at hu ⊢;exact⟨hF.upd (by simp) (by simp) (fun i h=>by simp at h) hu,{ hm with ql:=x3 hT.ql (hT.rsp h3) hT.rs.2,len:=(by have:=hT.len;simp;omega),pc:=.inl rfl,nd1:=fun _=>hT.nd1 hp,p1:=fun h=>no h rfl,apc:=fun h=>no h rfl,low:=fun h=>no h rfl,adv:=fun h=>no h rfl,born:=fun h=>no h rfl,pool:=fun h=>no h rfl,rpc:=fun h=>no h rfl,rsp:=fun h=>no h rfl,give:=fun h=>no h rfl,gv:=fun h=>no h rfl }⟩
theorem OS (hC:jy C) (hF:db C f) (hT:dM C ds B T) (h4:T.pc=4) (hu:∀ x,aD ((je C d T f).2 x)):db C (je C d T f).2/\dM C ds (B+1) (je C d T f).1:=by
 have hp:T.pc≠0:=by omega
 have hm:=hT.more;have hs:=hC.s;have pP:je C d T f=({ (cK C T f).2.1 with pc:=if (cK C T f).1=0 then 4 else 0,full:=false },(cK C T f).2.2):=by
  unfold je;rw[if_neg (by omega),if_neg (by omega),if_neg (by omega)]
 rw[pP] at hu ⊢;have he:=Oj (hF.u (1,0,0)) hF.ep hC.l.2;have tM:0<=bg (f (1,0,0))/\bg (f (1,0,0))<=C.l:=by rw[he.1];exact⟨he.2,hF.ep⟩
 rcases (show T.gpc=0\/T.gpc=1\/T.gpc=2\/T.gpc=3 by have:=hT.gpc;omega) with hr | hr | hr | hr
 ·have bp:cK C T f=(js T.ql,{ T with e:=bg (f (1,0,0)),gpc:=1 },f):=by unfold cK;rw[if_pos hr]
  rw[bp] at hu ⊢;refine⟨hF,?_⟩
  rcases Fq T.ql with ⟨hq,hS⟩ | ⟨hq,hS⟩<;>rw[hS]
  ·exact { hm with e:=tM,gpc:=(by show (1:Nat)<=3;decide),pc:=.inl rfl,nd1:=fun _=>hT.nd1 hp,p1:=fun h=>no h rfl,apc:=fun h=>no h rfl,low:=fun h=>no h rfl,adv:=fun h=>no h rfl,born:=fun h=>no h rfl,pool:=fun h=>no h rfl,rpc:=fun h=>no h rfl,rsp:=fun h=>no h rfl,give:=fun h=>no h rfl,gv:=fun h=>no h rfl }
  ·exact { hm with e:=tM,gpc:=(by show (1:Nat)<=3;decide),pc:=.inr (.inr (.inr (.inr rfl))),nd1:=fun _=>hT.nd1 hp,p1:=fun h=>no h rfl,apc:=fun h=>no h rfl,low:=fun h=>no h rfl,adv:=fun h=>no h rfl,born:=fun h=>no h rfl,pool:=fun h=>no h rfl,rpc:=fun h=>no h rfl,rsp:=fun h=>no h rfl,give:=fun _ _=>hq,gv:=fun _ h=>absurd h (by show ¬ (2:Nat)<=1;decide) }
 ·have bp:cK C T f=(jV (f (2,0,0)) C.l,{ T with gh:=f (2,0,0),gpc:=2 },f):=by unfold cK;rw[if_neg (by omega),if_pos hr]
  rw[bp] at hu ⊢;refine⟨hF,?_⟩
  by_cases hx:C.l<=dr (f (2,0,0))
  ·rw[show jV (f (2,0,0)) C.l=4 from if_pos hx];exact { hm with gpc:=(by show (2:Nat)<=3;decide),ghu:=hF.u _,gh:=hF.pool,pc:=.inl rfl,nd1:=fun _=>hT.nd1 hp,p1:=fun h=>no h rfl,apc:=fun h=>no h rfl,low:=fun h=>no h rfl,adv:=fun h=>no h rfl,born:=fun h=>no h rfl,pool:=fun h=>no h rfl,rpc:=fun h=>no h rfl,rsp:=fun h=>no h rfl,give:=fun h=>no h rfl,gv:=fun h=>no h rfl }
  ·rw[show jV (f (2,0,0)) C.l=0 from if_neg hx];exact { hm with gpc:=(by show (2:Nat)<=3;decide),ghu:=hF.u _,gh:=hF.pool,pc:=.inr (.inr (.inr (.inr rfl))),nd1:=fun _=>hT.nd1 hp,p1:=fun h=>no h rfl,apc:=fun h=>no h rfl,low:=fun h=>no h rfl,adv:=fun h=>no h rfl,born:=fun h=>no h rfl,pool:=fun h=>no h rfl,rpc:=fun h=>no h rfl,rsp:=fun h=>no h rfl,give:=fun _ _=>hT.give h4 (by omega),gv:=fun _ _=>(by show dr (f (2,0,0)) < C.l;omega) }
 ·have bp:cK C T f=(0,{ T with gpc:=3 },upd f (5,(T.ql.headD t0).1,2) (aP false (aA T.gh) 0)):=by unfold cK;rw[if_neg (by omega),if_neg (by omega),if_pos hr]
  rw[bp] at hu ⊢;exact⟨hF.upd (by simp) (by simp) (fun i _=>Oi (by omega) hT.gh) hu,{ hm with gpc:=(by show (3:Nat)<=3;decide),pc:=.inr (.inr (.inr (.inr rfl))),nd1:=fun _=>hT.nd1 hp,p1:=fun h=>no h rfl,apc:=fun h=>no h rfl,low:=fun h=>no h rfl,adv:=fun h=>no h rfl,born:=fun h=>no h rfl,pool:=fun h=>no h rfl,rpc:=fun h=>no h rfl,rsp:=fun h=>no h rfl,give:=fun _ _=>hT.give h4 (by omega),gv:=fun _ _=>hT.gv h4 (by omega) }⟩
 ·obtain⟨x,t,vL⟩:∃ x t,T.ql=x::t:=by
   rcases hq:T.ql with _ | ⟨x,t⟩
   ·exact absurd hq (hT.give h4 (by omega))
   ·exact⟨x,t,rfl⟩
  have BG:=hT.ql x (by rw[vL];simp);have oq:(T.ql.headD t0).1<=C.s:=by rw[vL];exact BG.2.1
  by_cases hx:f (2,0,0)=T.gh
  ·have bp:cK C T f=(js T.ql.tail,{ T with ql:=T.ql.tail,gg:=wrap64 (T.gg+1),gpc:=1 },swf f (2,0,0) T.gh (eh T.gh (T.ql.headD t0).1)):=by unfold cK;(iterate 3 rw[if_neg (by omega)]);rw[if_pos hx]
   rw[bp] at hu ⊢;refine⟨hF.swp (xT (by omega) oq) hu,?_⟩;have vM:∀ z∈T.ql.tail,1<=z.1/\z.1<=C.s/\z.2.2=0:=fun z hz=>hT.ql z (List.mem_of_mem_tail hz);have nL:T.ql.tail.length+(ds.length - T.nd)<=B+1:=by have:=hT.len;simp;omega
   rcases Fq T.ql.tail with ⟨hq,hS⟩ | ⟨hq,hS⟩<;>rw[hS]
   ·exact { hm with ql:=vM,len:=nL,gpc:=(by show (1:Nat)<=3;decide),pc:=.inl rfl,nd1:=fun _=>hT.nd1 hp,p1:=fun h=>no h rfl,apc:=fun h=>no h rfl,low:=fun h=>no h rfl,adv:=fun h=>no h rfl,born:=fun h=>no h rfl,pool:=fun h=>no h rfl,rpc:=fun h=>no h rfl,rsp:=fun h=>no h rfl,give:=fun h=>no h rfl,gv:=fun h=>no h rfl }
   ·exact { hm with ql:=vM,len:=nL,gpc:=(by show (1:Nat)<=3;decide),pc:=.inr (.inr (.inr (.inr rfl))),nd1:=fun _=>hT.nd1 hp,p1:=fun h=>no h rfl,apc:=fun h=>no h rfl,low:=fun h=>no h rfl,adv:=fun h=>no h rfl,born:=fun h=>no h rfl,pool:=fun h=>no h rfl,rpc:=fun h=>no h rfl,rsp:=fun h=>no h rfl,give:=fun _ _=>hq,gv:=fun _ h=>absurd h (by show ¬ (2:Nat)<=1;decide) }
  ·have bp:cK C T f=(0,{ T with gpc:=1 },swf f (2,0,0) T.gh (eh T.gh (T.ql.headD t0).1)):=by unfold cK;(iterate 3 rw[if_neg (by omega)]);rw[if_neg hx]
   rw[bp] at hu ⊢;exact⟨hF.swp (xT (by omega) oq) hu,{ hm with gpc:=(by show (1:Nat)<=3;decide),pc:=.inr (.inr (.inr (.inr rfl))),nd1:=fun _=>hT.nd1 hp,p1:=fun h=>no h rfl,apc:=fun h=>no h rfl,low:=fun h=>no h rfl,adv:=fun h=>no h rfl,born:=fun h=>no h rfl,pool:=fun h=>no h rfl,rpc:=fun h=>no h rfl,rsp:=fun h=>no h rfl,give:=fun _ _=>hT.give h4 (by omega),gv:=fun _ h=>absurd h (by show ¬ (2:Nat)<=1;decide) }⟩
end
def sG (c fb h:Nat) (key:Int) (on:Bool) (fl:Nat) (L:Nat->Lm) (s:Int) (sub:List Item):Prop :=
 (on=false/\s=0/\∃ g ps l0,ps.length=h/\sub=[ae fb (bq c key (mvL 124 fb) 0 g h l0),ae g ps]) \/
 (on=true/\fl < h/\∃ g ps a D b1 b2 nx ny wd B1 B2,ps.length=h/\ps[fl]?=some (zP a)/\(∀ l,fl < l->l < h->ps[l]?=some (zP ((D l).1)))/\(s=0->nx=cvP b1 b2)/\(s=0->Ah a (L fl).pc ny B1 B2/\((L fl).pc=7->wd=(L fl).K)/\((L fl).pc=9->wd=(L fl).V))/\sub=ae a (jI c fl key false ny s wd (iu s (L fl)) (iw s (L fl)) (L fl))::B1::B2::ae b1 [mvL 173 a]::ae b2 [mvL 174 fb]::ae fb (bq c key nx s g h fl)::ae g ps::fI c key L D fl (h - 1 - fl))
section
variable {w0 w:World} {R sub:List Item} {fb h:Nat} {S:ST} {key s e r:Int} {on:Bool} {fl:Nat} {L:Nat->Lm} {F:Fm}
theorem sG.toR (hI:sG S.c fb h key on fl L s sub) (he:S.ce=e) (hr:S.cr=r) (hE:Env w0 (sub++LT S R) w):o7 w0 R fb h key S s ⟨on,fl,L,e,r⟩ w:=by
 rcases hI with ⟨rfl,rfl,g,ps,l0,fe,rfl⟩ | ⟨rfl,aE,g,ps,a,D,b1,b2,nx,ny,wd,B1,B2,fe,h1,h2,h3,h4,rfl⟩
 ·exact⟨he,hr,.inl ⟨rfl,rfl,g,ps,l0,fe,hE⟩⟩
 ·exact⟨he,hr,.inr ⟨rfl,aE,g,ps,a,D,b1,b2,nx,fe,h1,h2,h3,ny,wd,B1,B2,h4,hE.perm (cm fun z=>by simp only[LT,List.cons_append,List.count_append,List.count_cons];omega)⟩⟩
theorem o7.toI (hR:o7 w0 R fb h key S s F w):∃ sub,sG S.c fb h key F.on F.lv F.L s sub/\Env w0 (sub++LT S R) w:=by
 obtain⟨-,-,⟨kL,rfl,g,ps,l0,fe,hE⟩ | ⟨eT,aE,g,ps,a,D,b1,b2,nx,fe,h1,h2,h3,ny,wd,B1,B2,h4,hE⟩⟩:=hR
 ·exact⟨_,.inl ⟨kL,rfl,g,ps,l0,fe,rfl⟩,hE⟩
 ·exact⟨_,.inr ⟨eT,aE,g,ps,a,D,b1,b2,nx,ny,wd,B1,B2,fe,h1,h2,h3,h4,rfl⟩,hE.perm (cm fun z=>by simp only[LT,List.cons_append,List.count_append,List.count_cons];omega)⟩
end
def aX (C:Cf) (X:Tm) (V:Wm) (K:Kt) (f:Mem) (G:Nat->Prop) (qc:bN) (n:Nat):ST:=SP C { X with cr:=K.r } V K.T f G qc n
section
variable {w0 w:World} {R sub:List Item} {C:Cf} {X:Tm} {V:Wm} {f:Mem} {G:Nat->Prop} {qc:bN} {n fb h:Nat} {key:Int} {on:Bool} {fl:Nat} {L:Nat->Lm} {T:Th} {r:Int}
theorem OT (hh:1<=h) (pd:h<=1000) (hF:tQ h ⟨on,fl,L,T.e,r⟩) (hg:bE w0) (hn:n < maxLen) (hS:sG X.c fb h key on fl L 0 sub) (hE:Env w0 (sub++LT (SP C { X with cr:=r } V T f G qc n) R) w) :
  Calls prog 109 #[zP fb,.iface 28 (zP V.p)] w fun o w'=>o=.returned (zI (bm h key ⟨on,fl,L,T.e,r⟩ f).1)/\∃ G' bt n' sH,Nx n qc n' bt/\sG X.c fb h key (bm h key ⟨on,fl,L,T.e,r⟩ f).2.1.on (bm h key ⟨on,fl,L,T.e,r⟩ f).2.1.lv (bm h key ⟨on,fl,L,T.e,r⟩ f).2.1.L (bm h key ⟨on,fl,L,T.e,r⟩ f).1 sH/\((bm h key ⟨on,fl,L,T.e,r⟩ f).1=1->o7 w0 R fb h key (SP C { X with cr:=(bm h key ⟨on,fl,L,T.e,r⟩ f).2.1.r } V { T with e:=(bm h key ⟨on,fl,L,T.e,r⟩ f).2.1.e } (bm h key ⟨on,fl,L,T.e,r⟩ f).2.2 G' bt n') 1 (bm h key ⟨on,fl,L,T.e,r⟩ f).2.1 w')/\Env w0 (sH++LT (SP C { X with cr:=(bm h key ⟨on,fl,L,T.e,r⟩ f).2.1.r } V { T with e:=(bm h key ⟨on,fl,L,T.e,r⟩ f).2.1.e } (bm h key ⟨on,fl,L,T.e,r⟩ f).2.2 G' bt n') R) w':=by
 have hR:=hS.toR (S:=SP C { X with cr:=r } V T f G qc n) (e:=T.e) (r:=r) rfl rfl hE;refine (Ld (S:=SP C { X with cr:=r } V T f G qc n) (F:=⟨on,fl,L,T.e,r⟩) hh pd hF hg hn hR).mono ?_;rintro o w1 ⟨s,rfl,hs,G',BH⟩;subst hs;have OU:j4 key (SP C { X with cr:=r } V T f G qc n) ⟨on,fl,L,T.e,r⟩ G'=SP C { X with cr:=(bm h key ⟨on,fl,L,T.e,r⟩ f).2.1.r } V { T with e:=(bm h key ⟨on,fl,L,T.e,r⟩ f).2.1.e } (bm h key ⟨on,fl,L,T.e,r⟩ f).2.2 (j4 key (SP C { X with cr:=r } V T f G qc n) ⟨on,fl,L,T.e,r⟩ G').G (j4 key (SP C { X with cr:=r } V T f G qc n) ⟨on,fl,L,T.e,r⟩ G').qc (j4 key (SP C { X with cr:=r } V T f G qc n) ⟨on,fl,L,T.e,r⟩ G').m:=by
  have he:(j4 key (SP C { X with cr:=r } V T f G qc n) ⟨on,fl,L,T.e,r⟩ G').ce=(bm h key ⟨on,fl,L,T.e,r⟩ f).2.1.e:=BH.1;have hr:(j4 key (SP C { X with cr:=r } V T f G qc n) ⟨on,fl,L,T.e,r⟩ G').cr=(bm h key ⟨on,fl,L,T.e,r⟩ f).2.1.r:=BH.2.1;rw[<- he,<- hr];cases on<;>rfl
 have x4:=BH;rw[OU] at x4;obtain⟨sH,gF,dh⟩:=x4.toI;refine⟨rfl,(j4 key (SP C { X with cr:=r } V T f G qc n) ⟨on,fl,L,T.e,r⟩ G').G,(j4 key (SP C { X with cr:=r } V T f G qc n) ⟨on,fl,L,T.e,r⟩ G').qc,(j4 key (SP C { X with cr:=r } V T f G qc n) ⟨on,fl,L,T.e,r⟩ G').m,sH,⟨?_,?_⟩,gF,fun h1=>?_,dh⟩
 ·unfold j4;cases on
  ·exact Nat.le_succ n
  ·show (dB fl key false (SP C { X with cr:=r } V T f G qc n) (L fl) G').m<=n+1;unfold dB;dsimp only
   split
   ·exact Nat.le_refl _
   ·exact Nat.le_succ n
 ·unfold j4;cases on
  ·exact Or.inl ⟨rfl,rfl,rfl,rfl⟩
  ·show One qc (dB fl key false (SP C { X with cr:=r } V T f G qc n) (L fl) G').qc;unfold dB j2;dsimp only
   split
   ·unfold dE
    first | exact Or.inr (Or.inr (Or.inl ⟨rfl,rfl,rfl,rfl⟩)) | (split<;>exact Or.inr (Or.inr (Or.inl ⟨rfl,rfl,rfl,rfl⟩)))
   ·exact Or.inl ⟨rfl,rfl,rfl,rfl⟩
 ·have Fl:(bm h key ⟨on,fl,L,T.e,r⟩ (SP C { X with cr:=r } V T f G qc n).f).1=1:=h1;rw[Fl] at x4;exact x4
end
def kW (ft:Nat):Nat:=if ft=1 then 221 else if ft=2 then 232 else 81
def BI (pc:Nat):Nat :=
 if pc=3 then 129 else if pc=4 then 154 else if pc=5 then 203 else if pc=6 then 202 else if pc=9 then 220 else if pc=10 then 201
 else if pc=11 then 131 else if pc=13 then 185 else if pc=15 then 222 else 234
def kX (F:Fd) (h:Nat):Prop:=∀ l,l < h->F.ps[l]?=some (zP ((F.D l).1))
def PM (C:Cf) (c:Nat) (d:Dd) (K:Kt) (o:Nat) (ps:List Item):Prop :=
 (K.pc=1/\∃ b1 b2 fb n l t y sub,ps=ae o (aw c d.ok d.key d.val d.lv (cvP b1 b2) 0 (zP fb) n l t y K.an 0 false)::ae b1 [mvL 109 fb]::ae b2 [mvL (kW K.ft) o]::sub/\(K.ft≠0->n=K.n)/\(K.ft=1->l=(K.lv:Int))/\sG c fb C.h.toNat d.key K.on K.fl K.L 0 sub) \/
 (K.pc=2/\∃ b1 b2 fp n l t y a left s gl,ps=ae o (aw c d.ok d.key d.val d.lv (cvP b1 b2) 0 fp n l t y K.an 0 false)::ae b1 [mvL 151 a]::ae b2 [pC c d.ok d.key d.val d.lv o 5 43 112]::ae a (si c a d K.T left s)::gl/\iU C d K.T left s gl) \/
 ((K.pc=3\/K.pc=4\/K.pc=5\/K.pc=6\/K.pc=9)/\∃ F t y,ps=ae o (aw c d.ok d.key d.val d.lv (mvL (BI K.pc) o) 0 (zP F.fb) K.n (K.lv:Int) t y K.an 0 false)::F.its c d.key K.L C.h.toNat/\kX F C.h.toNat/\(K.pc=9->y=K.y)) \/
 ((K.pc=10\/K.pc=11\/K.pc=13\/K.pc=15\/K.pc=16)/\∃ fp l t y,ps=[ae o (aw c d.ok d.key d.val d.lv (mvL (BI K.pc) o) 0 fp K.n l t y K.an 0 false)]/\(K.pc=13\/K.pc=15->l=(K.lv:Int))/\(K.pc=15->y=K.y)) \/
 (K.pc=12/\∃ b1 b2 fp l y,ps=[ae o (aw c d.ok d.key d.val d.lv (qE b1 b2) 0 fp K.n l K.y y K.an 0 false),ae b1 [zP o],ae b2 [mvL 159 o]]) \/
 (K.pc=14/\∃ b1 b2 fp t,ps=[ae o (aw c d.ok d.key d.val d.lv (qE b1 b2) 0 fp K.n (K.lv:Int) t K.y K.an 0 false),ae b1 [zP o],ae b2 [mvL 204 o]]) \/
 (K.pc=7/\∃ b1 b2 fp n l t y r,ps=[ae o (aw c d.ok d.key d.val d.lv (cvP b1 b2) 0 fp n l t y K.an 0 false),ae b1 [mvL 241 r],ae b2 [mvL 231 o],ae r (dS c (j6 r K.T.rpc) K.T.rs K.T.re)])
def bG (w0:World) (R:List Item) (C:Cf) (X:Tm) (V:Wm) (d:Dd) (o n:Nat) (qc:bN) (q:Int × Kt × Mem) (s:Int) (w':World):Prop :=
 s=q.1/\∃ F' k' G' bt n' ps',Nx n qc n' bt/\(q.1=0->PM C X.c d q.2.1 o ps')/\(q.1≠0->∃ nx fp n l t y an,ps'=[ae o (aw X.c d.ok d.key d.val d.lv nx q.1 fp n l t y an q.2.1.err q.2.1.dn)])/\Env w0 (ps'++LT (aX C { X with F:=F',kq:=k' } V q.2.1 q.2.2 G' bt n') R) w'
section
variable {w0 w w':World} {R N:List Item} {C:Cf} {X:Tm} {V:Wm} {d:Dd} {o n n':Nat} {K K':Kt} {f f':Mem} {G G':Nat->Prop} {qc bt:bN} {q:Int × Kt × Mem}
theorem bG.on {ps':List Item} (hq:q=(0,K',f')) (hn:Nx n qc n' bt) (hp:PM C X.c d K' o ps') (hE:Env w0 (ps'++LT (aX C X V K' f' G' bt n') R) w'):bG w0 R C X V d o n qc q 0 w':=by
 subst hq;exact⟨rfl,X.F,X.kq,G',bt,n',ps',hn,fun _=>hp,fun h=>absurd rfl h,hE⟩
theorem bG.find {a b1 b2 fb g Y:Nat} {n0 l t y:Int} {L':Nat->Lm} (hq:q=(0,{ K' with pc:=1,ft:=a,on:=false,fl:=0,L:=L' },f')) (hY:Y=kW a) (h1:a≠0->n0=K'.n) (h2:a=1->l=(K'.lv:Int)) (hn:Nx n qc n' bt)
  (hE:Env w0 (ae o (aw X.c d.ok d.key d.val d.lv (cvP b1 b2) 0 (zP fb) n0 l t y K'.an 0 false)::ae b1 [mvL 109 fb]::ae b2 [mvL Y o]::ae fb (bq X.c d.key (mvL 124 fb) 0 g C.h.toNat 0)::ae g (List.replicate C.h.toNat (.pointer none))::LT (aX C X V K' f' G' bt n') (N++R)) w'):bG w0 R C X V d o n qc q 0 w':=by
 subst hY;refine bG.on (ps':=_::_::_::[ae fb (bq X.c d.key (mvL 124 fb) 0 g C.h.toNat 0),ae g (List.replicate C.h.toNat (.pointer none))]) hq hn (.inl ⟨rfl,b1,b2,fb,n0,l,t,y,_,rfl,h1,h2,.inl ⟨rfl,rfl,g,_,0,List.length_replicate,rfl⟩⟩) (G':=G') ?_;have az:=hE.perm (L':=N++(ae o (aw X.c d.ok d.key d.val d.lv (cvP b1 b2) 0 (zP fb) n0 l t y K'.an 0 false)::ae b1 [mvL 109 fb]::ae b2 [mvL (kW a) o]::ae fb (bq X.c d.key (mvL 124 fb) 0 g C.h.toNat 0)::ae g (List.replicate C.h.toNat (.pointer none))::LT (aX C X V K' f' G' bt n') R)) (cm fun z=>by simp only[LT,List.count_append,List.count_cons];omega);exact az.sub (List.sublist_append_right _ _)
theorem bG.fin {s:Int} {nx fp:Value} {n0 l t y:Int} {an:Bool} (hq:q=(s,K',f')) (hs:s≠0) (hn:Nx n qc n' bt)
  (hE:Env w0 (ae o (aw X.c d.ok d.key d.val d.lv nx s fp n0 l t y an K'.err K'.dn)::LT (aX C X V K' f' G' bt n') R) w'):bG w0 R C X V d o n qc q s w':=by
 subst hq;exact⟨rfl,X.F,X.kq,G',bt,n',[_],hn,fun h=>absurd h hs,fun _=>⟨nx,fp,n0,l,t,y,an,rfl⟩,hE⟩
theorem pQ {b:Item} {S:ST} (hE:Env w0 (b::LT S (N++R)) w):Env w0 (b::LT S R) w :=
 (hE.perm (L':=N++(b::LT S R)) (cm fun z=>by simp only[LT,List.count_append,List.count_cons];omega)).sub (List.sublist_append_right _ _)
theorem nq:Nx n qc n { qc with l:=wrap64 (qc.l+1) }:=⟨Nat.le_succ _,Or.inl ⟨rfl,rfl,rfl,rfl⟩⟩
theorem Ft:Nx n qc (n+1) { qc with s:=wrap64 (qc.s+1) }:=⟨Nat.le_refl _,Or.inr (Or.inl ⟨rfl,rfl,rfl,rfl⟩)⟩
theorem lP {b:Bool}:Nx n qc (n+1) (dE qc b):=⟨Nat.le_refl _,by
 unfold dE
 first | exact Or.inr (Or.inr (Or.inl ⟨rfl,rfl,rfl,rfl⟩)) | (split<;>exact Or.inr (Or.inr (Or.inl ⟨rfl,rfl,rfl,rfl⟩)))⟩
theorem pR {F:Fd} {c h:Nat} {key:Int} {L:Nat->Lm} (hF:kX F h) (hh:1<=h/\h<=1000):eK F c key L h (F.its c key L h++R):=⟨fun a ha=>List.mem_append_left _ ha,hF,hh⟩
theorem lQ {b:Item} {S:ST}:(b::(N++LT S R)).Perm (b::LT S (N++R)):=cm fun z=>by
 simp only[LT,List.count_append,List.count_cons];omega
theorem OW {F:Fd} {t y:Int} (ax:K.pc=3) (aZ:Wf (5,K.n,7+(K.lv:Int))) (aH:K.lv < C.h.toNat) (hW:aD (K.L K.lv).W) (hF:kX F C.h.toNat) (hh:1<=C.h.toNat/\C.h.toNat<=1000) (hg:bE w0) (hn:n < maxLen) (hE:Env w0 (ae o (aw X.c d.ok d.key d.val d.lv (mvL 129 o) 0 (zP F.fb) K.n (K.lv:Int) t y K.an 0 false)::(F.its X.c d.key K.L C.h.toNat++LT (aX C X V K f G qc n) R)) w) :
  Calls prog 16 #[zP o,.iface 28 (zP V.p)] w fun e w'=>∃ s,e=.returned (zI s)/\bG w0 R C X V d o n qc (aJ C d K f) s w':=by
 have az:=hE.perm (L':=ae o (aw X.c d.ok d.key d.val d.lv (mvL 129 o) 0 (zP F.fb) K.n (K.lv:Int) t y K.an 0 false)::LT (aX C X V K f G qc n) (F.its X.c d.key K.L C.h.toNat++R)) lQ;have hI:=pR (R:=R) (c:=X.c) (key:=d.key) (L:=K.L) hF hh;refine ot 129 _ (fun _ _=>by kernel_rfl) _ az ?_
 by_cases h3:((K.lv+1:Nat):Int) < d.lv
 ·refine (Ms (S:=(aX C X V K f G qc n)) (L:=K.L) (l8:=K.lv) h3 aZ hg hn (by omega) aH hW hI az).mono ?_;rintro e w1 ⟨rfl,G',ag⟩;exact⟨0,rfl,bG.on (K':={ K with lv:=K.lv+1 }) (f':=upd f (bW K) (iQ K)) (G':=G') (ps':=_::F.its X.c d.key K.L C.h.toNat) (by unfold aJ;rw[if_neg (by omega),if_neg (by omega),if_pos ax,if_pos h3]) Ft (.inr (.inr (.inl ⟨.inl ax,F,t,y,by show _=ae o (aw _ _ _ _ _ (mvL (BI K.pc) o) _ _ _ _ _ _ _ _ _)::_;rw[ax];rfl,hF,fun h=>absurd (ax.symm.trans h) (by decide)⟩))) (ag.perm lQ.symm)⟩
 ·refine (Mt (S:=(aX C X V K f G qc n)) (L:=K.L) (l8:=K.lv) h3 aZ hg hn (by omega) aH hW hI az).mono ?_;rintro e w1 ⟨rfl,G',ag⟩;exact⟨0,rfl,bG.on (K':={ K with lv:=0,pc:=4 }) (f':=upd f (bW K) (iQ K)) (G':=G') (ps':=_::F.its X.c d.key K.L C.h.toNat) (by unfold aJ;rw[if_neg (by omega),if_neg (by omega),if_pos ax,if_neg h3]) Ft (.inr (.inr (.inl ⟨.inr (.inl rfl),F,t,y,rfl,hF,fun h=>absurd (show (4:Nat)=9 from h) (by decide)⟩))) (ag.perm lQ.symm)⟩
theorem bG.up {F:Fd} {t y:Int} {l:Nat} (hq:q=(0,fH d K' l,f')) (hF:kX F C.h.toNat) (hL:K'.L=K.L) (hn:Nx n qc n' bt) (hE:Env w0 (ae o (aw X.c d.ok d.key d.val d.lv (mvL (tX d.lv K'.an l) o) 0 (zP F.fb) K'.n (l:Int) t y K'.an 0 false)::LT (aX C X V K' f' G' bt n') (F.its X.c d.key K.L C.h.toNat++R)) w'):bG w0 R C X V d o n qc q 0 w':=by
 subst hq;unfold fH at *;unfold tX at hE
 by_cases h1:(l:Int)=d.lv
 ·rw[if_pos h1] at hE;refine bG.on (K':={ K' with lv:=l,pc:=10 }) (G':=G') (ps':=[_]) (by rw[if_pos h1]) hn (.inr (.inr (.inr (.inl ⟨.inl rfl,(zP F.fb),(l:Int),t,y,rfl,fun h=>?_,fun h=>?_⟩)))) ?_
  ·rcases h with h | h
   ·exact absurd (show (10:Nat)=13 from h) (by decide)
   ·exact absurd (show (10:Nat)=15 from h) (by decide)
  ·exact absurd (show (10:Nat)=15 from h) (by decide)
  ·exact (hE.perm (L':=F.its X.c d.key K.L C.h.toNat++(ae o (aw X.c d.ok d.key d.val d.lv (mvL 201 o) 0 (zP F.fb) K'.n (l:Int) t y K'.an 0 false)::LT (aX C X V K' f' G' bt n') R)) (cm fun z=>by simp only[LT,List.count_append,List.count_cons];omega)).sub (List.sublist_append_right _ _)
 ·rw[if_neg h1] at hE;have az:=hE.perm lQ.symm;cases cY:K'.an
  ·rw[cY,if_neg (by decide)] at az;refine bG.on (K':={ K' with lv:=l,pc:=5 }) (G':=G') (ps':=_::F.its X.c d.key K.L C.h.toNat) (by rw[if_neg h1,if_neg (by decide),cY]) hn (.inr (.inr (.inl ⟨.inr (.inr (.inl rfl)),F,t,y,?_,hF,fun h=>absurd (show (5:Nat)=9 from h) (by decide)⟩))) az;dsimp only;rw[cY,hL];rfl
  ·rw[cY,if_pos rfl] at az;refine bG.on (K':={ K' with lv:=l,pc:=6 }) (G':=G') (ps':=_::F.its X.c d.key K.L C.h.toNat) (by rw[if_neg h1,if_pos rfl,cY]) hn (.inr (.inr (.inl ⟨.inr (.inr (.inr (.inl rfl))),F,t,y,?_,hF,fun h=>absurd (show (6:Nat)=9 from h) (by decide)⟩))) az;dsimp only;rw[cY,hL];rfl
theorem OX {F:Fd} {t y:Int} (ax:K.pc=4) (BJ:(K.lv:Int)=0) (j5:K.T.hs≠0) (aZ:Wf (K.L 0).p) (dH:C.k=3) (bH:C.h=(C.h.toNat:Int)) (hF:kX F C.h.toNat) (hh:1<=C.h.toNat/\C.h.toNat<=1000) (hg:bE w0) (hn:n < maxLen) (hE:Env w0 (ae o (aw X.c d.ok d.key d.val d.lv (mvL 154 o) 0 (zP F.fb) K.n (K.lv:Int) t y K.an 0 false)::(F.its X.c d.key K.L C.h.toNat++LT (aX C X V K f G qc n) R)) w) :
  Calls prog 16 #[zP o,.iface 28 (zP V.p)] w fun e w'=>∃ s,e=.returned (zI s)/\bG w0 R C X V d o n qc (aJ C d K f) s w':=by
 have az:=hE.perm (L':=ae o (aw X.c d.ok d.key d.val d.lv (mvL 154 o) 0 (zP F.fb) K.n (K.lv:Int) t y K.an 0 false)::LT (aX C X V K f G qc n) (F.its X.c d.key K.L C.h.toNat++R)) lQ;have hI:=pR (R:=R) (c:=X.c) (key:=d.key) (L:=K.L) hF hh;refine ot 154 _ (fun _ _=>by kernel_rfl) _ az ?_;rw[BJ] at az
 by_cases h4:f (K.L 0).p=(K.L 0).W
 ·refine (LH (S:=(aX C X V K f G qc n)) (L:=K.L) hg hn j5 aZ h4 hI az).mono ?_;rintro e w1 ⟨rfl,G',ag⟩;exact⟨0,rfl,bG.up (K:=K) (K':={ K with T:={ K.T with hs:=0 } }) (f':=swf f (K.L 0).p (K.L 0).W (aP false K.n K.T.e)) (G':=G') (l:=1) (by unfold aJ;(iterate 3 rw[if_neg (by omega)]);rw[if_pos ax,if_pos h4]) hF rfl lP ag⟩
 ·refine (LG (S:=(aX C X V K f G qc n)) (L:=K.L) (h:=C.h.toNat) hg hn dH bH aZ h4 hI az).mono ?_;rintro e w1 ⟨rfl,G',c1,c2,fb,g,ag⟩;exact⟨0,rfl,bG.find (K':=K) (f':=swf f (K.L 0).p (K.L 0).W (aP false K.n K.T.e)) (a:=0) (by unfold aJ;(iterate 3 rw[if_neg (by omega)]);rw[if_pos ax,if_neg h4];rfl) rfl (fun h=>absurd rfl h) (fun h=>absurd h (by decide)) lP ag⟩
theorem OY {F:Fd} {t y:Int} (ax:K.pc=5) (aH:K.lv < C.h.toNat) (aZ:Wf (K.L K.lv).p) (dH:C.k=3) (bH:C.h=(C.h.toNat:Int)) (hF:kX F C.h.toNat) (hh:1<=C.h.toNat/\C.h.toNat<=1000) (hg:bE w0) (hn:n < maxLen) (hE:Env w0 (ae o (aw X.c d.ok d.key d.val d.lv (mvL 203 o) 0 (zP F.fb) K.n (K.lv:Int) t y K.an 0 false)::(F.its X.c d.key K.L C.h.toNat++LT (aX C X V K f G qc n) R)) w) :
  Calls prog 16 #[zP o,.iface 28 (zP V.p)] w fun e w'=>∃ s,e=.returned (zI s)/\bG w0 R C X V d o n qc (aJ C d K f) s w':=by
 have az:=hE.perm (L':=ae o (aw X.c d.ok d.key d.val d.lv (mvL 203 o) 0 (zP F.fb) K.n (K.lv:Int) t y K.an 0 false)::LT (aX C X V K f G qc n) (F.its X.c d.key K.L C.h.toNat++R)) lQ;have hI:=pR (R:=R) (c:=X.c) (key:=d.key) (L:=K.L) hF hh;refine ot 203 _ (fun _ _=>by kernel_rfl) _ az ?_
 by_cases h4:f (K.L K.lv).p=(K.L K.lv).W
 ·refine (LK (S:=(aX C X V K f G qc n)) (L:=K.L) (l8:=K.lv) hg hn aH aZ h4 hI az).mono ?_;rintro e w1 ⟨rfl,G',ag⟩;exact⟨0,rfl,bG.up (K:=K) (K':=K) (f':=swf f (K.L K.lv).p (K.L K.lv).W (aP false K.n K.T.e)) (G':=G') (l:=K.lv+1) (by unfold aJ;(iterate 4 rw[if_neg (by omega)]);rw[if_pos ax,if_pos h4]) hF rfl lP ag⟩
 ·refine (LJ (S:=(aX C X V K f G qc n)) (L:=K.L) (h:=C.h.toNat) (l8:=K.lv) hg hn dH bH aH aZ h4 hI az).mono ?_;rintro e w1 ⟨rfl,G',c1,c2,fb,g,ag⟩;exact⟨0,rfl,bG.find (K':=K) (f':=swf f (K.L K.lv).p (K.L K.lv).W (aP false K.n K.T.e)) (a:=1) (by unfold aJ;(iterate 4 rw[if_neg (by omega)]);rw[if_pos ax,if_neg h4];rfl) rfl (fun _=>rfl) (fun _=>rfl) lP ag⟩
theorem OZ {F:Fd} {t y:Int} (ax:K.pc=6) (aZ:Wf (5,K.n,7+(K.lv:Int))) (aH:K.lv < C.h.toNat) (hW:aD (K.L K.lv).W) (hv:aD (f (bW K))) (hF:kX F C.h.toNat) (hh:1<=C.h.toNat/\C.h.toNat<=1000) (hg:bE w0) (hn:n < maxLen) (hE:Env w0 (ae o (aw X.c d.ok d.key d.val d.lv (mvL 202 o) 0 (zP F.fb) K.n (K.lv:Int) t y K.an 0 false)::(F.its X.c d.key K.L C.h.toNat++LT (aX C X V K f G qc n) R)) w) :
  Calls prog 16 #[zP o,.iface 28 (zP V.p)] w fun e w'=>∃ s,e=.returned (zI s)/\bG w0 R C X V d o n qc (aJ C d K f) s w':=by
 have az:=hE.perm (L':=ae o (aw X.c d.ok d.key d.val d.lv (mvL 202 o) 0 (zP F.fb) K.n (K.lv:Int) t y K.an 0 false)::LT (aX C X V K f G qc n) (F.its X.c d.key K.L C.h.toNat++R)) lQ;have hI:=pR (R:=R) (c:=X.c) (key:=d.key) (L:=K.L) hF hh;refine ot 202 _ (fun _ _=>by kernel_rfl) _ az ?_;have hx:=Mr (S:=(aX C X V K f G qc n)) (L:=K.L) (l8:=K.lv) (f (bW K)) rfl aZ hv hg (by omega) aH hW hI az;refine hx.mono ?_;rintro e w1 ⟨rfl,ag⟩;clear hx;change Env w0 (ae o (aw X.c d.ok d.key d.val d.lv (mvL (pz (f (bW K)) (iQ K)) o) 0 (zP F.fb) K.n (K.lv:Int) t (f (bW K)) K.an 0 false)::LT (aX C X V K f G { qc with l:=wrap64 (qc.l+1) } n) (F.its X.c d.key K.L C.h.toNat++R)) w1 at ag;unfold pz at ag;have ho:aJ C d K f=(0,{ K with y:=f (bW K),pc:=if cO (f (bW K)) then 10 else if f (bW K)=iQ K then 5 else 9 },f):=by unfold aJ;(iterate 5 rw[if_neg (by omega)]);rw[if_pos ax]
 by_cases h1:cO (f (bW K))=true
 ·rw[if_pos h1] at ag ho;exact⟨0,rfl,bG.on (K':={ K with y:=f (bW K),pc:=10 }) (G':=G) (ps':=[_]) ho nq (.inr (.inr (.inr (.inl ⟨.inl rfl,(zP F.fb),(K.lv:Int),t,f (bW K),rfl,fun h=>h.elim (fun h=>absurd (show (10:Nat)=13 from h) (by decide)) (fun h=>absurd (show (10:Nat)=15 from h) (by decide)),fun h=>absurd (show (10:Nat)=15 from h) (by decide)⟩)))) (pQ ag)⟩
 ·rw[if_neg h1] at ag ho
  by_cases h2:f (bW K)=iQ K
  ·rw[if_pos h2] at ag ho;exact⟨0,rfl,bG.on (K':={ K with y:=f (bW K),pc:=5 }) (G':=G) (ps':=_::F.its X.c d.key K.L C.h.toNat) ho nq (.inr (.inr (.inl ⟨.inr (.inr (.inl rfl)),F,t,f (bW K),rfl,hF,fun h=>absurd (show (5:Nat)=9 from h) (by decide)⟩))) (ag.perm lQ.symm)⟩
  ·rw[if_neg h2] at ag ho;exact⟨0,rfl,bG.on (K':={ K with y:=f (bW K),pc:=9 }) (G':=G) (ps':=_::F.its X.c d.key K.L C.h.toNat) ho nq (.inr (.inr (.inl ⟨.inr (.inr (.inr (.inr rfl))),F,t,f (bW K),rfl,hF,fun _=>rfl⟩))) (ag.perm lQ.symm)⟩
theorem O0 {F:Fd} {t y:Int} (ax:K.pc=9) (aZ:Wf (5,K.n,7+(K.lv:Int))) (aH:K.lv < C.h.toNat) (hW:aD (K.L K.lv).W) (hF:kX F C.h.toNat) (hh:1<=C.h.toNat/\C.h.toNat<=1000) (hg:bE w0) (hn:n < maxLen) (hE:Env w0 (ae o (aw X.c d.ok d.key d.val d.lv (mvL 220 o) 0 (zP F.fb) K.n (K.lv:Int) t K.y K.an 0 false)::(F.its X.c d.key K.L C.h.toNat++LT (aX C X V K f G qc n) R)) w) :
  Calls prog 16 #[zP o,.iface 28 (zP V.p)] w fun e w'=>∃ s,e=.returned (zI s)/\bG w0 R C X V d o n qc (aJ C d K f) s w':=by
 have az:=hE.perm (L':=ae o (aw X.c d.ok d.key d.val d.lv (mvL 220 o) 0 (zP F.fb) K.n (K.lv:Int) t K.y K.an 0 false)::LT (aX C X V K f G qc n) (F.its X.c d.key K.L C.h.toNat++R)) lQ;have hI:=pR (R:=R) (c:=X.c) (key:=d.key) (L:=K.L) hF hh;refine ot 220 _ (fun _ _=>by kernel_rfl) _ az ?_;refine (Mu (S:=(aX C X V K f G qc n)) (L:=K.L) (l8:=K.lv) aZ hg hn (by omega) aH hW hI az).mono ?_;rintro e w1 ⟨rfl,G',ag⟩;change Env w0 (ae o (aw X.c d.ok d.key d.val d.lv (mvL (if f (bW K)=K.y then 203 else 201) o) 0 (zP F.fb) K.n (K.lv:Int) t K.y K.an 0 false)::LT (aX C X V K (swf f (bW K) K.y (iQ K)) G' (dE qc (decide (f (bW K)=K.y))) (n+1)) (F.its X.c d.key K.L C.h.toNat++R)) w1 at ag;have ho:aJ C d K f=(0,{ K with pc:=if f (bW K)=K.y then 5 else 10 },swf f (bW K) K.y (iQ K)):=by unfold aJ;(iterate 6 rw[if_neg (by omega)]);rw[if_pos ax]
 by_cases h1:f (bW K)=K.y
 ·rw[if_pos h1] at ag ho;exact⟨0,rfl,bG.on (K':={ K with pc:=5 }) (G':=G') (ps':=_::F.its X.c d.key K.L C.h.toNat) ho lP (.inr (.inr (.inl ⟨.inr (.inr (.inl rfl)),F,t,K.y,rfl,hF,fun h=>absurd (show (5:Nat)=9 from h) (by decide)⟩))) (ag.perm lQ.symm)⟩
 ·rw[if_neg h1] at ag ho;exact⟨0,rfl,bG.on (K':={ K with pc:=10 }) (G':=G') (ps':=[_]) ho lP (.inr (.inr (.inr (.inl ⟨.inl rfl,(zP F.fb),(K.lv:Int),t,K.y,rfl,fun h=>h.elim (fun h=>absurd (show (10:Nat)=13 from h) (by decide)) (fun h=>absurd (show (10:Nat)=15 from h) (by decide)),fun h=>absurd (show (10:Nat)=15 from h) (by decide)⟩)))) (pQ ag)⟩
theorem O1 {fp:Value} {l t y:Int} (ax:K.pc=10) (aZ:Wf (5,K.n,6)) (dH:C.k=3) (bH:C.h=(C.h.toNat:Int)) (bd:K.err=0) (hh:1<=C.h.toNat/\C.h.toNat<=1000) (hg:bE w0) (hn:n < maxLen) (hE:Env w0 (ae o (aw X.c d.ok d.key d.val d.lv (mvL 201 o) 0 fp K.n l t y K.an 0 false)::LT (aX C X V K f G qc n) R) w) :
  Calls prog 16 #[zP o,.iface 28 (zP V.p)] w fun e w'=>∃ s,e=.returned (zI s)/\bG w0 R C X V d o n qc (aJ C d K f) s w':=by
 refine ot 201 _ (fun _ _=>by kernel_rfl) _ hE ?_;refine My (fun e w'=>∃ s,e=.returned (zI s)/\bG w0 R C X V d o n qc (aJ C d K f) s w') ?_
 by_cases h1:f (5,K.n,6)=0
 ·refine (EK (S:=(aX C X V K f G qc n)) 1 (by unfold aD;omega) h1 aZ hn hE).mono ?_;rintro e w1 ⟨rfl,G',ag⟩;exact⟨1,rfl,1,rfl,bG.fin (K':={ K with dn:=true }) (f':=swf f (5,K.n,6) 0 1) (G':=G') (by unfold aJ;(iterate 7 rw[if_neg (by omega)]);rw[if_pos ax,if_pos h1]) (by decide) lP (by rw[bd];exact ag)⟩
 ·refine (EM (S:=(aX C X V K f G qc n)) (h:=C.h.toNat) 1 (by unfold aD;omega) h1 aZ hn hh.2 dH bH hE).mono ?_;rintro e w1 ⟨rfl,G',c1,c2,fb,g,ag⟩;exact⟨0,rfl,0,rfl,bG.find (N:=[]) (K':=K) (f':=swf f (5,K.n,6) 0 1) (a:=2) (by unfold aJ;(iterate 7 rw[if_neg (by omega)]);rw[if_pos ax,if_neg h1];rfl) rfl (fun _=>rfl) (fun h=>absurd h (by decide)) lP ag⟩
theorem O2 {fp:Value} {l t y:Int} (ax:K.pc=16) (aZ:Wf (5,K.n,6)) (dH:C.k=3) (bH:C.h=(C.h.toNat:Int)) (bd:K.err=0) (hh:1<=C.h.toNat/\C.h.toNat<=1000) (hg:bE w0) (hn:n < maxLen) (hE:Env w0 (ae o (aw X.c d.ok d.key d.val d.lv (mvL 234 o) 0 fp K.n l t y K.an 0 false)::LT (aX C X V K f G qc n) R) w) :
  Calls prog 16 #[zP o,.iface 28 (zP V.p)] w fun e w'=>∃ s,e=.returned (zI s)/\bG w0 R C X V d o n qc (aJ C d K f) s w':=by
 refine ot 234 _ (fun _ _=>by kernel_rfl) _ hE ?_;refine Mz (fun e w'=>∃ s,e=.returned (zI s)/\bG w0 R C X V d o n qc (aJ C d K f) s w') ?_
 by_cases h1:f (5,K.n,6)=0
 ·refine (EK (S:=(aX C X V K f G qc n)) 2 (by unfold aD;omega) h1 aZ hn hE).mono ?_;rintro e w1 ⟨rfl,G',ag⟩;exact⟨1,rfl,1,rfl,bG.fin (K':={ K with dn:=true }) (f':=swf f (5,K.n,6) 0 2) (G':=G') (by unfold aJ;(iterate 13 rw[if_neg (by omega)]);rw[if_pos ax,if_pos h1]) (by decide) lP (by rw[bd];exact ag)⟩
 ·refine (EM (S:=(aX C X V K f G qc n)) (h:=C.h.toNat) 2 (by unfold aD;omega) h1 aZ hn hh.2 dH bH hE).mono ?_;rintro e w1 ⟨rfl,G',c1,c2,fb,g,ag⟩;exact⟨0,rfl,0,rfl,bG.find (N:=[]) (K':=K) (f':=swf f (5,K.n,6) 0 2) (a:=2) (by unfold aJ;(iterate 13 rw[if_neg (by omega)]);rw[if_pos ax,if_neg h1];rfl) rfl (fun _=>rfl) (fun h=>absurd h (by decide)) lP ag⟩
end
theorem O3 (ck e key val lv:Int) (k:Nat):((cX ck e key val lv).getD k (0,0)).1 < 7:=by
 rw[List.getD_eq_getElem?_getD]
 rcases h:(cX ck e key val lv)[k]? with _ | ⟨a,b⟩
 ·simp
 ·have hm:(a,b)∈cX ck e key val lv:=List.mem_of_getElem? h;simp only[Option.getD_some];unfold cX at hm
  split at hm
  ·simp at hm
   rcases hm with ⟨rfl,rfl⟩ | ⟨rfl,rfl⟩ | ⟨rfl,rfl⟩ | ⟨rfl,rfl⟩<;>decide
  ·split at hm
   ·simp at hm
    rcases hm with ⟨rfl,rfl⟩ | ⟨rfl,rfl⟩ | ⟨rfl,rfl⟩ | ⟨rfl,rfl⟩ | ⟨rfl,rfl⟩<;>decide
   ·simp at hm
    rcases hm with ⟨rfl,rfl⟩ | ⟨rfl,rfl⟩ | ⟨rfl,rfl⟩<;>decide
theorem O4 {ck e key val lv:Int} {k:Nat} {l:Int} (h0:0<=l) (h:((cX ck e key val lv).getD k (0,0)).1=7+l):False:=by
 have:=O3 ck e key val lv k;omega
section
variable {C:Cf} {ds:List Dd} {B:Nat} {T:Th} {d:Dd} {K:Kt} {f:Mem}
theorem dM.idle (h:dM C ds B T) {x:Int} {y:Bool} (hx:0<=x/\x<=B):dM C ds B { T with pc:=0,done:=x,full:=y } :=
 { e:=h.e,w:=h.w,hs:=h.hs,rs:=h.rs,ql:=h.ql,nd:=h.nd,len:=h.len,done:=hx,pc:=.inl rfl,p1:=fun h=>no h rfl,nd1:=fun h=>absurd rfl h,apc:=fun h=>no h rfl,low:=fun h=>no h rfl,adv:=fun h=>no h rfl,born:=fun h=>no h rfl,pool:=fun h=>no h rfl,an:=h.an,rpc:=fun h=>no h rfl,rsp:=fun h=>no h rfl,re:=h.re,gpc:=h.gpc,give:=fun h=>no h rfl,ghu:=h.ghu,gh:=h.gh,gv:=fun h=>no h rfl }
theorem dM.epoch (h:dM C ds B T) (h0:T.pc=0) {x:Int} (hx:0<=x/\x<=C.l):dM C ds B { T with e:=x } :=
 { e:=hx,w:=h.w,hs:=h.hs,rs:=h.rs,ql:=h.ql,nd:=h.nd,len:=h.len,done:=h.done,pc:=h.pc,p1:=h.p1,nd1:=h.nd1,apc:=h.apc,low:=h.low,adv:=fun h9=>no (h0.symm.trans h9) rfl,born:=h.born,pool:=h.pool,an:=h.an,rpc:=h.rpc,rsp:=h.rsp,re:=h.re,gpc:=h.gpc,give:=h.give,ghu:=h.ghu,gh:=h.gh,gv:=h.gv }
theorem dM.same {T1:Th} (h:dM C ds B T) (hp:T.pc=T1.pc) {x:Nat} {y:Int} {z:Bool} (he:T={ T1 with pc:=x,done:=y,full:=z }) (hd:0<=T1.done/\T1.done<=B):dM C ds B T1:=by
 subst he;have hx:x=T1.pc:=hp;subst hx;exact { e:=h.e,w:=h.w,hs:=h.hs,rs:=h.rs,ql:=h.ql,nd:=h.nd,len:=h.len,done:=hd,pc:=h.pc,p1:=h.p1,nd1:=h.nd1,apc:=h.apc,low:=h.low,adv:=h.adv,born:=h.born,pool:=h.pool,an:=h.an,rpc:=h.rpc,rsp:=h.rsp,re:=h.re,gpc:=h.gpc,give:=h.give,ghu:=h.ghu,gh:=h.gh,gv:=h.gv }
theorem O5 {x l:Int} (h0:0<=x) (h:x<=l) (hl:0<=l):0<=bg x/\bg x<=l:=by
 unfold bg
 split<;>omega
theorem di.upd {p:aI} {v:Int} (h:di C f) (hv:aA v<=C.s):di C (upd f p v):=by
 refine⟨fun r=>?_,fun i l h0=>?_⟩
 ·by_cases hp:p=(4,0,r)
  ·subst hp;rw[rC];exact hv
  ·rw[kn f v (fun e=>hp e.symm)];exact h.root r
 ·by_cases hp:p=(5,i,7+l)
  ·subst hp;rw[rC];exact hv
  ·rw[kn f v (fun e=>hp e.symm)];exact h.link i l h0
theorem di.updo {p:aI} {v:Int} (h:di C f) (h1:∀ r,p≠(4,0,r)) (h2:∀ i l,0<=l->p≠(5,i,7+l)):di C (Go.Proofs.YtleklonmmlfijaaGreatDoor.upd f p v):=by
 refine⟨fun r=>?_,fun i l h0=>?_⟩
 ·rw[kn f v (fun e=>h1 r e.symm)];exact h.root r
 ·rw[kn f v (fun e=>h2 i l h0 e.symm)];exact h.link i l h0
theorem di.swf {p:aI} {o v:Int} (h:di C f) (hv:aA v<=C.s):di C (swf f p o v):=by
 unfold Go.Proofs.YtleklonmmlfijaaGreatDoor.swf
 split
 ·exact h.upd hv
 ·exact h
theorem db.updo {p:aI} {v:Int} (h:db C f) (h1:p≠(2,0,0)) (h2:∀ i,p≠(5,i,2)) (h3:p≠(1,0,0)) (hu:∀ x,aD (Go.Proofs.YtleklonmmlfijaaGreatDoor.upd f p v x)):db C (Go.Proofs.YtleklonmmlfijaaGreatDoor.upd f p v):=by
 refine⟨hu,?_,fun i=>?_,?_⟩
 ·rw[kn f v (fun e=>h1 e.symm)];exact h.pool
 ·rw[kn f v (fun e=>h2 i e.symm)];exact h.chain i
 ·rw[kn f v (fun e=>h3 e.symm)];exact h.ep
theorem db.swfo {p:aI} {o v:Int} (h:db C f) (h1:p≠(2,0,0)) (h2:∀ i,p≠(5,i,2)) (h3:p≠(1,0,0)) (hu:∀ x,aD (Go.Proofs.YtleklonmmlfijaaGreatDoor.swf f p o v x)):db C (Go.Proofs.YtleklonmmlfijaaGreatDoor.swf f p o v):=by
 unfold Go.Proofs.YtleklonmmlfijaaGreatDoor.swf at hu ⊢
 split
 ·rename_i h9;rw[if_pos h9] at hu;exact h.updo h1 h2 h3 hu
 ·exact h
theorem fc.far {p:aI} {lv:Int} (h0:0<=lv) (h:fc lv p):p≠(2,0,0)/\(∀ i,p≠(5,i,2))/\p≠(1,0,0):=by
 rcases h with rfl | ⟨c,-,-,rfl⟩
 ·exact⟨by simp,fun i h9=>by simp at h9,by simp⟩
 ·exact⟨by simp,fun i h9=>by simp only[Prod.mk.injEq] at h9;omega,by simp⟩
theorem BK {a:Int} {l:Nat} (h:0<=a/\a<=8388607):fc (l:Int) ((5,a,7+(l:Int)):aI):=.inr ⟨a,h.1,h.2,rfl⟩
theorem O6 {h:Nat} {key e r:Int} {on:Bool} {fl:Nat} {L:Nat->Lm} (hF:gW C h on fl L) (f:Mem):(bm h key ⟨on,fl,L,e,r⟩ f).2.2=f\/∃ p o m,fc (fl:Int) p/\(bm h key ⟨on,fl,L,e,r⟩ f).2.2=Go.Proofs.YtleklonmmlfijaaGreatDoor.swf f p o (aP false (aA m) e)/\aA m<=C.s:=by
 cases on
 ·exact .inl rfl
 ·obtain⟨-,hL,-⟩:=hF rfl;have hM:(bm h key ⟨true,fl,L,e,r⟩ f).2.2=(aF fl key false e (L fl) f).2.2:=by unfold bm;rw[if_pos rfl]
  rw[hM];unfold aF
  repeat' split
  all_goals first
   | exact .inl rfl
   | exact .inr ⟨(L fl).p,(L fl).W,(L fl).X,hL.at9,rfl,hL.sx⟩
theorem O7 {h:Nat} {key e r:Int} {on:Bool} {fl:Nat} {L:Nat->Lm} (hF:gW C h on fl L) (h0:0<=C.s) (hO:db C f) (hS:di C f) (hu:∀ x,aD ((bm h key ⟨on,fl,L,e,r⟩ f).2.2 x)):db C (bm h key ⟨on,fl,L,e,r⟩ f).2.2/\di C (bm h key ⟨on,fl,L,e,r⟩ f).2.2:=by
 rcases O6 hF f with h1 | ⟨p,o,m,hp,h1,hm⟩
 ·rw[h1];exact⟨hO,hS⟩
 ·rw[h1] at hu ⊢;obtain⟨h2,h3,h4⟩:=hp.far (by omega);exact⟨hO.swfo h2 h3 h4 hu,hS.swf (sD h0 hm)⟩
theorem di.swfo {p:aI} {o v:Int} (h:di C f) (h1:∀ r,p≠(4,0,r)) (h2:∀ i l,0<=l->p≠(5,i,7+l)):di C (Go.Proofs.YtleklonmmlfijaaGreatDoor.swf f p o v):=by
 unfold Go.Proofs.YtleklonmmlfijaaGreatDoor.swf
 split
 ·exact h.updo h1 h2
 ·exact h
theorem O8 (h:di C f):di C (aT C d T f).2.2:=by
 unfold aT;dsimp only
 repeat' split
 all_goals first
  | exact h
  | exact h.updo (by simp) (fun i l h0 h9=>O4 h0 (congrArg (fun p:aI=>p.2.2) h9))
  | exact h.updo (by simp) (fun i l h0 h9=>by simp only[Prod.mk.injEq] at h9;omega)
  | exact h.swfo (by simp) (fun i l h0 h9=>by simp only[Prod.mk.injEq] at h9;omega)
theorem O9 (h:di C f):di C (cQ T f).2.2:=by
 unfold cQ
 split
 ·exact h
 ·exact h.updo (by simp) (fun i l h0 h9=>by simp only[Prod.mk.injEq] at h9;omega)
theorem Pa (h:di C f):di C (cK C T f).2.2:=by
 unfold cK
 repeat' split
 all_goals first
  | exact h
  | exact h.updo (by simp) (fun i l h0 h9=>by simp only[Prod.mk.injEq] at h9;omega)
  | exact h.swfo (by simp) (fun i l h0 h9=>by simp only[Prod.mk.injEq] at h9;omega)
theorem Pb (h:T.apc<=10\/T.apc - 10 < (WD C d T).length) (h0:(aT C d T f).1=0):(aT C d T f).2.1.apc<=10\/(aT C d T f).2.1.apc - 10 < (WD C d (aT C d T f).2.1).length:=by
 have hl:=AO C d T;have hd:=fun q=>mU q T.e C.l;have he:WD C d (aT C d T f).2.1=WD C d T:=by unfold WD;rw[(ud C d T f).1]
 rw[he]
 revert h0
 unfold aT;dsimp only
 repeat' split
 all_goals intro h0
 all_goals dsimp only at h0 ⊢
 all_goals first
  | omega
  | (left;rcases hd (T.ql++[(f (3,0,0)+1,0,0)]) with h9 | h9 | h9 | h9<;>omega)
  | (left;rcases hd (T.ql++[(aA T.ah,bg T.ar,0)]) with h9 | h9 | h9 | h9<;>omega)
  | (right;have h8:(WD C d T).length=(cX C.k T.e d.key d.val (IntKind.u64.wrap d.lv)).length:=rfl;unfold eF at h0;split at h0<;>omega)
theorem Pc (h:T.apc<=10->T.hs=0) (h0:(aT C d T f).1=3\/(aT C d T f).1=4\/(aT C d T f).1=2):(aT C d T f).2.1.hs=0:=by
 revert h0
 unfold aT;dsimp only
 repeat' split
 all_goals intro h0
 all_goals dsimp only at h0 ⊢
 all_goals first
  | exact h (by omega)
  | (exfalso;unfold eF at h0;split at h0<;>omega)
theorem BL:(cQ T f).2.1.hs=T.hs/\(cQ T f).2.1.nd=T.nd/\(cQ T f).2.1.done=T.done/\(cQ T f).2.1.full=T.full/\(cQ T f).2.1.pc=T.pc/\((cQ T f).1=0\/(cQ T f).1=1):=by
 unfold cQ
 split<;>simp
theorem vN:(cK C T f).2.1.hs=T.hs/\(cK C T f).2.1.nd=T.nd/\(cK C T f).2.1.done=T.done/\(cK C T f).2.1.full=T.full/\(cK C T f).2.1.pc=T.pc:=by
 unfold cK
 repeat' split
 all_goals simp
theorem dM.noH (h:dM C ds B T) (h0:T.pc=0) (hC:jy C):dM C ds B { T with hs:=0 } :=
 { h with hs:=(by have:=hC.s;show (0:Int)<=0/\(0:Int)<=C.s;omega),p1:=fun _=>rfl,low:=fun _ _=>rfl }
theorem dM.drop (h:dM C ds B T) (h0:T.pc=0) (hC:jy C):dM C ds (B+1) { T with ql:=j1 T.hs T.ql,hs:=0 }:=by
 have hm:=h.more;have Pd:=h.hs;refine { hm with hs:=(by have:=hC.s;show (0:Int)<=0/\(0:Int)<=C.s;omega),p1:=fun _=>rfl,low:=fun _ _=>rfl,ql:=?_,len:=?_,born:=fun h9=>no (h0.symm.trans h9) rfl,give:=fun h9=>no (h0.symm.trans h9) rfl }
 ·show ∀ x∈j1 T.hs T.ql,_;unfold j1
  split
  ·exact h.ql
  ·exact x3 h.ql (by omega) Pd.2
 ·have:=h.len;show (j1 T.hs T.ql).length+(ds.length - T.nd)<=B+1;unfold j1
  split
  ·omega
  ·simp;omega
theorem dM.alloc (h:dM C ds B T) (hh:T.hs=0) (hn:1<=T.nd) (hC:jy C) (hD:bk T.ql T.e C.l≠0):dM C ds B { T with pc:=2,apc:=bk T.ql T.e C.l,ah:=0,an:=0,ar:=0 }:=by
 have hz:aA 0=0:=by decide
 have qS:aD 0:=by unfold aD;omega
 have hs:=hC.s;refine { h with w:=⟨qS,qS,qS⟩,an:=(by show aA 0<=C.s;omega),pc:=.inr (.inr (.inl rfl)),nd1:=fun _=>hn,p1:=fun h=>no h rfl,rpc:=fun h=>no h rfl,rsp:=fun h=>no h rfl,give:=fun h=>no h rfl,gv:=fun h=>no h rfl,apc:=fun _=>?_,low:=fun _ _=>hh,adv:=fun _ h=>BD h,born:=fun _ h=>BE h,pool:=fun _ ha hb=>?_ }
 ·show bk T.ql T.e C.l=1\/bk T.ql T.e C.l=2\/bk T.ql T.e C.l=3\/bk T.ql T.e C.l=4\/bk T.ql T.e C.l=5\/bk T.ql T.e C.l=6\/10<=bk T.ql T.e C.l
  rcases mU T.ql T.e C.l with h | h | h | h<;>omega
 ·have uv:4<=bk T.ql T.e C.l:=ha;have lT:bk T.ql T.e C.l<=6:=hb
  rcases mU T.ql T.e C.l with h | h | h | h<;>omega
theorem dM.retire (h:dM C ds B T) (hn:1<=T.nd) (hC:jy C) {c:Int} (h1:1<=c) (h2:c<=C.s):dM C ds B { T with pc:=3,rs:=c,rpc:=0,re:=0 } :=
 { h with rs:=⟨Int.le_trans (by decide) h1,h2⟩,re:=(by have:=hC.l;show (0:Int)<=0/\(0:Int)<=C.l;omega),pc:=.inr (.inr (.inr (.inl rfl))),nd1:=fun _=>hn,p1:=fun h=>no h rfl,apc:=fun h=>no h rfl,low:=fun h=>no h rfl,adv:=fun h=>no h rfl,born:=fun h=>no h rfl,pool:=fun h=>no h rfl,rpc:=fun _=>.inl rfl,rsp:=fun _=>h1,give:=fun h=>no h rfl,gv:=fun h=>no h rfl }
theorem dM.begin4 (h:dM C ds B T) (aE:T.nd < ds.length) (hC:jy C):dM C ds B { T with pc:=4,nd:=T.nd+1,gpc:=0,gh:=0,gg:=0 }:=by
 have hl:=h.len;have hs:=hC.s;exact { h with nd:=aE,len:=(by show T.ql.length+(ds.length - (T.nd+1))<=B;omega),pc:=.inr (.inr (.inr (.inr rfl))),nd1:=fun _=>Nat.le_add_left 1 T.nd,p1:=fun h=>no h rfl,apc:=fun h=>no h rfl,low:=fun h=>no h rfl,adv:=fun h=>no h rfl,born:=fun h=>no h rfl,pool:=fun h=>no h rfl,rpc:=fun h=>no h rfl,rsp:=fun h=>no h rfl,gpc:=Nat.zero_le 3,ghu:=(by show aD 0;unfold aD;omega),gh:=(by show aA 0<=C.s;rw[show aA 0=0 from by decide];omega),give:=fun _ h=>(Nat.not_succ_le_zero _ h).elim,gv:=fun _ h=>(Nat.not_succ_le_zero _ h).elim }
theorem dM.begin0 (h:dM C ds B T) (aE:T.nd < ds.length):dM C ds B { T with nd:=T.nd+1 }:=by
 have hl:=h.len;exact { h with nd:=aE,len:=(by show T.ql.length+(ds.length - (T.nd+1))<=B;omega),nd1:=fun _=>Nat.le_add_left 1 T.nd }
end
def eL (C:Cf) (d:Dd) (K:Kt):Prop :=
 match K.pc with
 | 0=>K.T.hs=0
 | 1=>(K.err=0/\K.dn=false)/\gW C C.h.toNat K.on K.fl K.L/\((K.ft=0/\(K.T.hs≠0->d.ok=1))\/(K.ft=1/\K.T.hs=0/\(1<=K.n/\K.n<=C.s)/\((K.lv:Int) < d.lv/\d.ok=1))\/(K.ft=2/\K.T.hs=0/\(1<=K.n/\K.n<=C.s)))
 | 2=>(K.err=0/\K.dn=false)/\d.ok=1
 | 3=>(K.err=0/\K.dn=false)/\(∀ l,l < C.h.toNat->iX C l (K.L l))/\K.T.hs≠0/\K.n=K.T.hs/\((K.lv:Int) < d.lv/\d.ok=1)
 | 4=>(K.err=0/\K.dn=false)/\(∀ l,l < C.h.toNat->iX C l (K.L l))/\K.T.hs≠0/\K.n=K.T.hs/\K.lv=0/\d.ok=1
 | 5=>(K.err=0/\K.dn=false)/\(∀ l,l < C.h.toNat->iX C l (K.L l))/\K.T.hs=0/\(1<=K.n/\K.n<=C.s)/\((K.lv:Int) < d.lv/\d.ok=1)
 | 6=>(K.err=0/\K.dn=false)/\(∀ l,l < C.h.toNat->iX C l (K.L l))/\K.T.hs=0/\(1<=K.n/\K.n<=C.s)/\((K.lv:Int) < d.lv/\d.ok=1)
 | 7=>(K.err=0/\K.dn=false)/\K.T.hs=0
 | 8=>K.T.hs=0
 | 9=>(K.err=0/\K.dn=false)/\(∀ l,l < C.h.toNat->iX C l (K.L l))/\K.T.hs=0/\(1<=K.n/\K.n<=C.s)/\((K.lv:Int) < d.lv/\d.ok=1)
 | 10=>(K.err=0/\K.dn=false)/\K.T.hs=0/\(1<=K.n/\K.n<=C.s)
 | 11=>(K.err=0/\K.dn=false)/\K.T.hs=0/\(1<=K.n/\K.n<=C.s)
 | 12=>(K.err=0/\K.dn=false)/\K.T.hs=0/\(1<=K.n/\K.n<=C.s)/\aD K.y
 | 13=>(K.err=0/\K.dn=false)/\K.T.hs=0/\(1<=K.n/\K.n<=C.s)/\K.lv < C.h.toNat
 | 14=>(K.err=0/\K.dn=false)/\K.T.hs=0/\(1<=K.n/\K.n<=C.s)/\K.lv < C.h.toNat/\aD K.y/\aA K.y<=C.s
 | 15=>(K.err=0/\K.dn=false)/\K.T.hs=0/\(1<=K.n/\K.n<=C.s)/\K.lv < C.h.toNat/\aD K.y/\aA K.y<=C.s/\cO K.y=false
 | 16=>(K.err=0/\K.dn=false)/\K.T.hs=0/\(1<=K.n/\K.n<=C.s)
 | _=>False
structure bJ (C:Cf) (ds:List Dd) (B:Nat) (d:Dd) (K:Kt):Prop where
 (t:dM C ds B K.T)
 (tp:K.T.pc=if K.pc=2 then 2 else if K.pc=7 then 3 else if K.pc=8 then 4 else 0)
 (p:eL C d K)
 (kk:K.pc=2->K.T.apc<=10\/K.T.apc - 10 < (WD C d K.T).length)
 (nd:K.pc≠0->1<=K.T.nd)
structure fC (C:Cf):Prop where
 (ok:jy C)
 (s:C.s<=8388607)
 (h:1<=C.h.toNat/\C.h.toNat<=1000)
structure de (C:Cf) (ds:List Dd) (B:Nat) (d:Dd) (K:Kt) (r:Int × Kt × Mem):Prop where
 (f:db C r.2.2)
 (l:di C r.2.2)
 (nd:r.2.1.T.nd=K.T.nd)
 (k:bJ C ds B d { r.2.1 with pc:=if r.1=0 then r.2.1.pc else 0 })
section
variable {C:Cf} {ds:List Dd} {B:Nat} {T:Th} {d:Dd} {K K':Kt} {f f':Mem} {q:Int × Kt × Mem}
theorem bJ.at0 (hT:dM C ds B K'.T) (h0:K'.T.pc=0) (hn:1<=K'.T.nd) (h2:K'.pc≠2/\K'.pc≠7/\K'.pc≠8) (hp:eL C d K'):bJ C ds B d K' :=
 ⟨hT,by rw[if_neg h2.1,if_neg h2.2.1,if_neg h2.2.2];exact h0,hp,fun h=>absurd h h2.1,fun _=>hn⟩
theorem de.on (hq:q=(0,K',f')) (hf:db C f') (hl:di C f') (ef:K'.T.nd=K.T.nd) (hk:bJ C ds B d K'):de C ds B d K q:=by
 subst hq;exact⟨hf,hl,ef,by show bJ C ds B d { K' with pc:=if (0:Int)=0 then K'.pc else 0 };rw[if_pos rfl];exact hk⟩
theorem de.fin (hq:q=(1,K',f')) (hf:db C f') (hl:di C f') (ef:K'.T.nd=K.T.nd) (hT:dM C ds B K'.T) (h0:K'.T.pc=0) (hh:K'.T.hs=0):de C ds B d K q:=by
 subst hq;refine⟨hf,hl,ef,?_⟩;show bJ C ds B d { K' with pc:=if (1:Int)=0 then K'.pc else 0 };rw[if_neg (by decide)];exact⟨hT,h0,hh,fun h=>absurd (show (0:Nat)=2 from h) (by decide),fun h=>absurd rfl h⟩
theorem bJ.t0 (h:bJ C ds B d K) (hp:K.pc≠2/\K.pc≠7/\K.pc≠8):K.T.pc=0:=by
 have:=h.tp;rw[if_neg hp.1,if_neg hp.2.1,if_neg hp.2.2] at this;exact this
theorem eL.up {l:Nat} (h1:(K.err=0/\K.dn=false)) (h2:(∀ l,l < C.h.toNat->iX C l (K.L l))) (h3:K.T.hs=0) (h4:(1<=K.n/\K.n<=C.s)) (h5:(l:Int)<=d.lv) (h6:d.ok=1):eL C d (fH d K l)/\(fH d K l).pc≠2/\(fH d K l).pc≠7/\(fH d K l).pc≠8:=by
 unfold fH
 by_cases h:(l:Int)=d.lv
 ·rw[if_pos h];exact⟨⟨h1,h3,h4⟩,⟨by show (10:Nat)≠2;decide,by show (10:Nat)≠7;decide,by show (10:Nat)≠8;decide⟩⟩
 ·rw[if_neg h];cases K.an
  ·exact⟨⟨h1,h2,h3,h4,by show (l:Int) < d.lv;omega,h6⟩,⟨by show (5:Nat)≠2;decide,by show (5:Nat)≠7;decide,by show (5:Nat)≠8;decide⟩⟩
  ·exact⟨⟨h1,h2,h3,h4,by show (l:Int) < d.lv;omega,h6⟩,⟨by show (6:Nat)≠2;decide,by show (6:Nat)≠7;decide,by show (6:Nat)≠8;decide⟩⟩
theorem gW.start {h fl:Nat} {L:Nat->Lm}:gW C h false fl L:=fun h=>absurd h (by decide)
theorem Pe (hC:fC C) (aH:d.ok=1->1<=d.lv/\d.lv<=((C.h.toNat:Nat):Int)) (hF:db C f) (hS:di C f) (h:bJ C ds B d K) (hu:∀ x,aD ((aJ C d K f).2.2 x)) (h1:K.pc=3):de C ds (B+1) d K (aJ C d K f):=by
 have h0:=h.t0 (by omega);have hn:=h.nd (by omega);have hT:=h.t.more;have fV:=hC.ok.s;have mz:=hC.s;have hp:=h.p;unfold eL at hp;rw[h1] at hp;obtain⟨bd,dU,bZ,mq,iB,aG⟩:=hp;have hd:=aH aG;have Fu:=h.t.hs;have fQ:fc (K.lv:Int) (bW K):=BK (by omega);obtain⟨g1,g2,g3⟩:=fQ.far (by omega);have jh:=dU K.lv (by omega);have hle:aA (iQ K)<=C.s:=sD (by omega) jh.sw;have hM:aJ C d K f=(0,(if ((K.lv+1:Nat):Int) < d.lv then { K with lv:=K.lv+1 } else { K with lv:=0,pc:=4 }),Go.Proofs.YtleklonmmlfijaaGreatDoor.upd f (bW K) (iQ K)):=by unfold aJ;rw[if_neg (by omega),if_neg (by omega),if_pos h1]
 rw[hM] at hu;have pS:=hF.updo g1 g2 g3 hu;have iO:=hS.upd (p:=bW K) hle
 by_cases h3:((K.lv+1:Nat):Int) < d.lv
 ·rw[if_pos h3] at hM;refine de.on hM pS iO rfl (bJ.at0 hT h0 hn ⟨by show K.pc≠2;omega,by show K.pc≠7;omega,by show K.pc≠8;omega⟩ ?_);unfold eL;dsimp only;rw[h1];exact⟨bd,dU,bZ,mq,h3,aG⟩
 ·rw[if_neg h3] at hM;exact de.on hM pS iO rfl (bJ.at0 hT h0 hn ⟨by show (4:Nat)≠2;decide,by show (4:Nat)≠7;decide,by show (4:Nat)≠8;decide⟩ ⟨bd,dU,bZ,mq,rfl,aG⟩)
theorem Pf (hC:fC C) (aH:d.ok=1->1<=d.lv/\d.lv<=((C.h.toNat:Nat):Int)) (hF:db C f) (hS:di C f) (h:bJ C ds B d K) (hu:∀ x,aD ((aJ C d K f).2.2 x)) (h1:K.pc=4):de C ds (B+1) d K (aJ C d K f):=by
 have h0:=h.t0 (by omega);have hn:=h.nd (by omega);have hT:=h.t.more;have fV:=hC.ok.s;have mz:=hC.s;have hp:=h.p;unfold eL at hp;rw[h1] at hp;obtain⟨bd,dU,bZ,mq,eI,aG⟩:=hp;have hd:=aH aG;have Fu:=h.t.hs;have jh:=dU 0 (by omega);obtain⟨g1,g2,g3⟩:=jh.at9.far (by omega);have hle:aA (aP false K.n K.T.e)<=C.s:=sD (by omega) (by omega)
 by_cases h4:f (K.L 0).p=(K.L 0).W
 ·have hM:aJ C d K f=(0,fH d { K with T:={ K.T with hs:=0 } } 1,Go.Proofs.YtleklonmmlfijaaGreatDoor.swf f (K.L 0).p (K.L 0).W (aP false K.n K.T.e)):=by unfold aJ;(iterate 3 rw[if_neg (by omega)]);rw[if_pos h1,if_pos h4]
  rw[hM] at hu;have iB:=eL.up (K:={ K with T:={ K.T with hs:=0 } }) (l:=1) bd dU rfl ⟨by show 1<=K.n;omega,by show K.n<=C.s;omega⟩ (by omega) aG;refine de.on hM (hF.swfo g1 g2 g3 hu) (hS.swf hle) ?_ (bJ.at0 ?_ ?_ ?_ iB.2 iB.1)
  ·unfold fH;rfl
  ·unfold fH;exact hT.noH h0 hC.ok
  ·unfold fH;exact h0
  ·unfold fH;exact hn
 ·have hM:aJ C d K f=(0,eu 0 K,Go.Proofs.YtleklonmmlfijaaGreatDoor.swf f (K.L 0).p (K.L 0).W (aP false K.n K.T.e)):=by unfold aJ;(iterate 3 rw[if_neg (by omega)]);rw[if_pos h1,if_neg h4]
  rw[hM] at hu;exact de.on hM (hF.swfo g1 g2 g3 hu) (hS.swf hle) rfl (bJ.at0 hT h0 hn ⟨by show (1:Nat)≠2;decide,by show (1:Nat)≠7;decide,by show (1:Nat)≠8;decide⟩ ⟨bd,gW.start,.inl ⟨rfl,fun _=>aG⟩⟩)
theorem Pg (hC:fC C) (aH:d.ok=1->1<=d.lv/\d.lv<=((C.h.toNat:Nat):Int)) (hF:db C f) (hS:di C f) (h:bJ C ds B d K) (hu:∀ x,aD ((aJ C d K f).2.2 x)) (h1:K.pc=5):de C ds (B+1) d K (aJ C d K f):=by
 have h0:=h.t0 (by omega);have hn:=h.nd (by omega);have hT:=h.t.more;have fV:=hC.ok.s;have mz:=hC.s;have hp:=h.p;unfold eL at hp;rw[h1] at hp;obtain⟨bd,dU,bZ,cF,iB,aG⟩:=hp;have hd:=aH aG;have jh:=dU K.lv (by omega);obtain⟨g1,g2,g3⟩:=jh.at9.far (by omega);have hle:aA (aP false K.n K.T.e)<=C.s:=sD (by omega) (by omega)
 by_cases h4:f (K.L K.lv).p=(K.L K.lv).W
 ·have hM:aJ C d K f=(0,fH d K (K.lv+1),Go.Proofs.YtleklonmmlfijaaGreatDoor.swf f (K.L K.lv).p (K.L K.lv).W (aP false K.n K.T.e)):=by unfold aJ;(iterate 4 rw[if_neg (by omega)]);rw[if_pos h1,if_pos h4]
  rw[hM] at hu;have iB:=eL.up (K:=K) (l:=K.lv+1) bd dU bZ cF (by omega) aG;refine de.on hM (hF.swfo g1 g2 g3 hu) (hS.swf hle) ?_ (bJ.at0 ?_ ?_ ?_ iB.2 iB.1)
  ·unfold fH;rfl
  ·unfold fH;exact hT
  ·unfold fH;exact h0
  ·unfold fH;exact hn
 ·have hM:aJ C d K f=(0,eu 1 K,Go.Proofs.YtleklonmmlfijaaGreatDoor.swf f (K.L K.lv).p (K.L K.lv).W (aP false K.n K.T.e)):=by unfold aJ;(iterate 4 rw[if_neg (by omega)]);rw[if_pos h1,if_neg h4]
  rw[hM] at hu;exact de.on hM (hF.swfo g1 g2 g3 hu) (hS.swf hle) rfl (bJ.at0 hT h0 hn ⟨by show (1:Nat)≠2;decide,by show (1:Nat)≠7;decide,by show (1:Nat)≠8;decide⟩ ⟨bd,gW.start,.inr (.inl ⟨rfl,bZ,cF,iB,aG⟩)⟩)
theorem Ph (hC:fC C) (aH:d.ok=1->1<=d.lv/\d.lv<=((C.h.toNat:Nat):Int)) (hF:db C f) (hS:di C f) (h:bJ C ds B d K) (hu:∀ x,aD ((aJ C d K f).2.2 x)) (h1:K.pc=6):de C ds (B+1) d K (aJ C d K f):=by
 have h0:=h.t0 (by omega);have hn:=h.nd (by omega);have hT:=h.t.more;have fV:=hC.ok.s;have mz:=hC.s;have hp:=h.p;unfold eL at hp;rw[h1] at hp;obtain⟨bd,dU,bZ,cF,iB,aG⟩:=hp;have hM:aJ C d K f=(0,{ K with y:=f (bW K),pc:=if cO (f (bW K)) then 10 else if f (bW K)=iQ K then 5 else 9 },f):=by unfold aJ;(iterate 5 rw[if_neg (by omega)]);rw[if_pos h1]
 by_cases h3:cO (f (bW K))=true
 ·rw[if_pos h3] at hM;exact de.on hM hF hS rfl (bJ.at0 hT h0 hn ⟨by show (10:Nat)≠2;decide,by show (10:Nat)≠7;decide,by show (10:Nat)≠8;decide⟩ ⟨bd,bZ,cF⟩)
 ·rw[if_neg h3] at hM
  by_cases h4:f (bW K)=iQ K
  ·rw[if_pos h4] at hM;exact de.on hM hF hS rfl (bJ.at0 hT h0 hn ⟨by show (5:Nat)≠2;decide,by show (5:Nat)≠7;decide,by show (5:Nat)≠8;decide⟩ ⟨bd,dU,bZ,cF,iB,aG⟩)
  ·rw[if_neg h4] at hM;exact de.on hM hF hS rfl (bJ.at0 hT h0 hn ⟨by show (9:Nat)≠2;decide,by show (9:Nat)≠7;decide,by show (9:Nat)≠8;decide⟩ ⟨bd,dU,bZ,cF,iB,aG⟩)
theorem Pj (hC:fC C) (aH:d.ok=1->1<=d.lv/\d.lv<=((C.h.toNat:Nat):Int)) (hF:db C f) (hS:di C f) (h:bJ C ds B d K) (hu:∀ x,aD ((aJ C d K f).2.2 x)) (h1:K.pc=9):de C ds (B+1) d K (aJ C d K f):=by
 have h0:=h.t0 (by omega);have hn:=h.nd (by omega);have hT:=h.t.more;have fV:=hC.ok.s;have mz:=hC.s;have hp:=h.p;unfold eL at hp;rw[h1] at hp;obtain⟨bd,dU,bZ,cF,iB,aG⟩:=hp;have hd:=aH aG;have fQ:fc (K.lv:Int) (bW K):=BK (by omega);obtain⟨g1,g2,g3⟩:=fQ.far (by omega);have jh:=dU K.lv (by omega);have hle:aA (iQ K)<=C.s:=sD (by omega) jh.sw;have hM:aJ C d K f=(0,{ K with pc:=if f (bW K)=K.y then 5 else 10 },Go.Proofs.YtleklonmmlfijaaGreatDoor.swf f (bW K) K.y (iQ K)):=by unfold aJ;(iterate 6 rw[if_neg (by omega)]);rw[if_pos h1]
 rw[hM] at hu;have pS:=hF.swfo g1 g2 g3 hu;have iO:=hS.swf (p:=bW K) (o:=K.y) hle
 by_cases h4:f (bW K)=K.y
 ·rw[if_pos h4] at hM;exact de.on hM pS iO rfl (bJ.at0 hT h0 hn ⟨by show (5:Nat)≠2;decide,by show (5:Nat)≠7;decide,by show (5:Nat)≠8;decide⟩ ⟨bd,dU,bZ,cF,iB,aG⟩)
 ·rw[if_neg h4] at hM;exact de.on hM pS iO rfl (bJ.at0 hT h0 hn ⟨by show (10:Nat)≠2;decide,by show (10:Nat)≠7;decide,by show (10:Nat)≠8;decide⟩ ⟨bd,bZ,cF⟩)
theorem Pm (hC:fC C) (aH:d.ok=1->1<=d.lv/\d.lv<=((C.h.toNat:Nat):Int)) (hF:db C f) (hS:di C f) (h:bJ C ds B d K) (hu:∀ x,aD ((aJ C d K f).2.2 x)) (h1:K.pc=10):de C ds (B+1) d K (aJ C d K f):=by
 have h0:=h.t0 (by omega);have hn:=h.nd (by omega);have hT:=h.t.more;have fV:=hC.ok.s;have mz:=hC.s;have hp:=h.p;unfold eL at hp;rw[h1] at hp;obtain⟨bd,bZ,cF⟩:=hp;have g1:((5,K.n,6):aI)≠(2,0,0):=by simp
 have g2:∀ i,((5,K.n,6):aI)≠(5,i,2):=fun i h9=>by simp at h9
 have g3:((5,K.n,6):aI)≠(1,0,0):=by simp
 have iO:di C (Go.Proofs.YtleklonmmlfijaaGreatDoor.swf f (5,K.n,6) 0 1):=hS.swfo (by simp) (fun i l h0 h9=>by simp only[Prod.mk.injEq] at h9;omega)
 by_cases h4:f (5,K.n,6)=0
 ·have hM:aJ C d K f=(1,{ K with dn:=true },Go.Proofs.YtleklonmmlfijaaGreatDoor.swf f (5,K.n,6) 0 1):=by unfold aJ;(iterate 7 rw[if_neg (by omega)]);rw[if_pos h1,if_pos h4]
  rw[hM] at hu;exact de.fin hM (hF.swfo g1 g2 g3 hu) iO rfl hT h0 bZ
 ·have hM:aJ C d K f=(0,eu 2 K,Go.Proofs.YtleklonmmlfijaaGreatDoor.swf f (5,K.n,6) 0 1):=by unfold aJ;(iterate 7 rw[if_neg (by omega)]);rw[if_pos h1,if_neg h4]
  rw[hM] at hu;exact de.on hM (hF.swfo g1 g2 g3 hu) iO rfl (bJ.at0 hT h0 hn ⟨by show (1:Nat)≠2;decide,by show (1:Nat)≠7;decide,by show (1:Nat)≠8;decide⟩ ⟨bd,gW.start,.inr (.inr ⟨rfl,bZ,cF⟩)⟩)
theorem Pn (hC:fC C) (aH:d.ok=1->1<=d.lv/\d.lv<=((C.h.toNat:Nat):Int)) (hF:db C f) (hS:di C f) (h:bJ C ds B d K) (hu:∀ x,aD ((aJ C d K f).2.2 x)) (h1:K.pc=16):de C ds (B+1) d K (aJ C d K f):=by
 have h0:=h.t0 (by omega);have hn:=h.nd (by omega);have hT:=h.t.more;have fV:=hC.ok.s;have mz:=hC.s;have hp:=h.p;unfold eL at hp;rw[h1] at hp;obtain⟨bd,bZ,cF⟩:=hp;have g1:((5,K.n,6):aI)≠(2,0,0):=by simp
 have g2:∀ i,((5,K.n,6):aI)≠(5,i,2):=fun i h9=>by simp at h9
 have g3:((5,K.n,6):aI)≠(1,0,0):=by simp
 have iO:di C (Go.Proofs.YtleklonmmlfijaaGreatDoor.swf f (5,K.n,6) 0 2):=hS.swfo (by simp) (fun i l h0 h9=>by simp only[Prod.mk.injEq] at h9;omega)
 by_cases h4:f (5,K.n,6)=0
 ·have hM:aJ C d K f=(1,{ K with dn:=true },Go.Proofs.YtleklonmmlfijaaGreatDoor.swf f (5,K.n,6) 0 2):=by unfold aJ;(iterate 13 rw[if_neg (by omega)]);rw[if_pos h1,if_pos h4]
  rw[hM] at hu;exact de.fin hM (hF.swfo g1 g2 g3 hu) iO rfl hT h0 bZ
 ·have hM:aJ C d K f=(0,eu 2 K,Go.Proofs.YtleklonmmlfijaaGreatDoor.swf f (5,K.n,6) 0 2):=by unfold aJ;(iterate 13 rw[if_neg (by omega)]);rw[if_pos h1,if_neg h4]
  rw[hM] at hu;exact de.on hM (hF.swfo g1 g2 g3 hu) iO rfl (bJ.at0 hT h0 hn ⟨by show (1:Nat)≠2;decide,by show (1:Nat)≠7;decide,by show (1:Nat)≠8;decide⟩ ⟨bd,gW.start,.inr (.inr ⟨rfl,bZ,cF⟩)⟩)
theorem Po (hC:fC C) (aH:d.ok=1->1<=d.lv/\d.lv<=((C.h.toNat:Nat):Int)) (hF:db C f) (hS:di C f) (h:bJ C ds B d K) (hu:∀ x,aD ((aJ C d K f).2.2 x)) (h1:K.pc=11):de C ds (B+1) d K (aJ C d K f):=by
 have h0:=h.t0 (by omega);have hn:=h.nd (by omega);have hT:=h.t.more;have fV:=hC.ok.s;have mz:=hC.s;have hp:=h.p;unfold eL at hp;rw[h1] at hp;obtain⟨bd,bZ,cF⟩:=hp;have hM:aJ C d K f=(0,{ K with y:=f (5,K.n,5),pc:=12 },f):=by unfold aJ;(iterate 8 rw[if_neg (by omega)]);rw[if_pos h1]
 exact de.on hM hF hS rfl (bJ.at0 hT h0 hn ⟨by show (12:Nat)≠2;decide,by show (12:Nat)≠7;decide,by show (12:Nat)≠8;decide⟩ ⟨bd,bZ,cF,hF.u _⟩)
theorem Pp (hC:fC C) (aH:d.ok=1->1<=d.lv/\d.lv<=((C.h.toNat:Nat):Int)) (hF:db C f) (hS:di C f) (h:bJ C ds B d K) (hu:∀ x,aD ((aJ C d K f).2.2 x)) (h1:K.pc=12):de C ds (B+1) d K (aJ C d K f):=by
 have h0:=h.t0 (by omega);have hn:=h.nd (by omega);have hT:=h.t.more;have fV:=hC.ok.s;have mz:=hC.s;have hp:=h.p;unfold eL at hp;rw[h1] at hp;obtain⟨bd,bZ,cF,hy⟩:=hp;have hh:=hC.h
 by_cases aG:okB (f (1,0,0)) K.T.e=true
 ·have hM:aJ C d K f=(0,{ K with lv:=if 1<=K.y/\K.y<=C.h then (K.y - 1).toNat else 0,pc:=13 },f):=by unfold aJ;(iterate 9 rw[if_neg (by omega)]);rw[if_pos h1,if_pos aG]
  exact de.on hM hF hS rfl (bJ.at0 hT h0 hn ⟨by show (13:Nat)≠2;decide,by show (13:Nat)≠7;decide,by show (13:Nat)≠8;decide⟩ ⟨bd,bZ,cF,by
   show (if 1<=K.y/\K.y<=C.h then (K.y - 1).toNat else 0) < C.h.toNat
   split<;>omega⟩)
 ·have hM:aJ C d K f=(0,eu 0 { K with r:=wrap64 (K.r+1) },f):=by unfold aJ;(iterate 9 rw[if_neg (by omega)]);rw[if_pos h1,if_neg aG]
  exact de.on hM hF hS rfl (bJ.at0 hT h0 hn ⟨by show (1:Nat)≠2;decide,by show (1:Nat)≠7;decide,by show (1:Nat)≠8;decide⟩ ⟨bd,gW.start,.inl ⟨rfl,fun h9=>absurd bZ h9⟩⟩)
theorem Pq (hC:fC C) (aH:d.ok=1->1<=d.lv/\d.lv<=((C.h.toNat:Nat):Int)) (hF:db C f) (hS:di C f) (h:bJ C ds B d K) (hu:∀ x,aD ((aJ C d K f).2.2 x)) (h1:K.pc=13):de C ds (B+1) d K (aJ C d K f):=by
 have h0:=h.t0 (by omega);have hn:=h.nd (by omega);have hT:=h.t.more;have fV:=hC.ok.s;have mz:=hC.s;have hp:=h.p;unfold eL at hp;rw[h1] at hp;obtain⟨bd,bZ,cF,hl⟩:=hp;have hM:aJ C d K f=(0,{ K with y:=f (bW K),pc:=14 },f):=by unfold aJ;(iterate 10 rw[if_neg (by omega)]);rw[if_pos h1]
 exact de.on hM hF hS rfl (bJ.at0 hT h0 hn ⟨by show (14:Nat)≠2;decide,by show (14:Nat)≠7;decide,by show (14:Nat)≠8;decide⟩ ⟨bd,bZ,cF,hl,hF.u _,hS.link _ _ (by omega)⟩)
theorem Pr (hC:fC C) (aH:d.ok=1->1<=d.lv/\d.lv<=((C.h.toNat:Nat):Int)) (hF:db C f) (hS:di C f) (h:bJ C ds B d K) (hu:∀ x,aD ((aJ C d K f).2.2 x)) (h1:K.pc=14):de C ds (B+1) d K (aJ C d K f):=by
 have h0:=h.t0 (by omega);have hn:=h.nd (by omega);have hT:=h.t.more;have fV:=hC.ok.s;have mz:=hC.s;have hp:=h.p;unfold eL at hp;rw[h1] at hp;obtain⟨bd,bZ,cF,hl,hy,sI⟩:=hp
 by_cases aG:okB (f (1,0,0)) K.T.e=true
 ·cases bA:cO K.y
  ·have hM:aJ C d K f=(0,{ K with pc:=15 },f):=by unfold aJ;(iterate 11 rw[if_neg (by omega)]);rw[if_pos h1,if_pos aG,bA];rfl
   exact de.on hM hF hS rfl (bJ.at0 hT h0 hn ⟨by show (15:Nat)≠2;decide,by show (15:Nat)≠7;decide,by show (15:Nat)≠8;decide⟩ ⟨bd,bZ,cF,hl,hy,sI,bA⟩)
  ·by_cases hz:K.lv=0
   ·have hM:aJ C d K f=(0,eu 0 K,f):=by unfold aJ;(iterate 11 rw[if_neg (by omega)]);rw[if_pos h1,if_pos aG,bA,if_pos rfl,if_pos hz]
    exact de.on hM hF hS rfl (bJ.at0 hT h0 hn ⟨by show (1:Nat)≠2;decide,by show (1:Nat)≠7;decide,by show (1:Nat)≠8;decide⟩ ⟨bd,gW.start,.inl ⟨rfl,fun h9=>absurd bZ h9⟩⟩)
   ·have hM:aJ C d K f=(0,{ K with lv:=K.lv - 1,pc:=13 },f):=by unfold aJ;(iterate 11 rw[if_neg (by omega)]);rw[if_pos h1,if_pos aG,bA,if_pos rfl,if_neg hz]
    exact de.on hM hF hS rfl (bJ.at0 hT h0 hn ⟨by show (13:Nat)≠2;decide,by show (13:Nat)≠7;decide,by show (13:Nat)≠8;decide⟩ ⟨bd,bZ,cF,by show K.lv - 1 < C.h.toNat;omega⟩)
 ·have hM:aJ C d K f=(0,eu 0 { K with r:=wrap64 (K.r+1) },f):=by unfold aJ;(iterate 11 rw[if_neg (by omega)]);rw[if_pos h1,if_neg aG]
  exact de.on hM hF hS rfl (bJ.at0 hT h0 hn ⟨by show (1:Nat)≠2;decide,by show (1:Nat)≠7;decide,by show (1:Nat)≠8;decide⟩ ⟨bd,gW.start,.inl ⟨rfl,fun h9=>absurd bZ h9⟩⟩)
theorem Pt (hC:fC C) (aH:d.ok=1->1<=d.lv/\d.lv<=((C.h.toNat:Nat):Int)) (hF:db C f) (hS:di C f) (h:bJ C ds B d K) (hu:∀ x,aD ((aJ C d K f).2.2 x)) (h1:K.pc=15):de C ds (B+1) d K (aJ C d K f):=by
 have h0:=h.t0 (by omega);have hn:=h.nd (by omega);have hT:=h.t.more;have fV:=hC.ok.s;have mz:=hC.s;have hp:=h.p;unfold eL at hp;rw[h1] at hp;obtain⟨bd,bZ,cF,hl,hy,sI,bA⟩:=hp;have fQ:fc (K.lv:Int) (bW K):=BK (by omega);obtain⟨g1,g2,g3⟩:=fQ.far (by omega);have hle:aA (aP true (aA K.y) K.T.e)<=C.s:=sD (by omega) sI;have hM:aJ C d K f=(0,(if f (bW K)=K.y then (if K.lv=0 then { K with pc:=16 } else { K with lv:=K.lv - 1,pc:=13 }) else { K with pc:=13 }),Go.Proofs.YtleklonmmlfijaaGreatDoor.swf f (bW K) K.y (aP true (aA K.y) K.T.e)):=by unfold aJ;(iterate 12 rw[if_neg (by omega)]);rw[if_pos h1]
 rw[hM] at hu;have pS:=hF.swfo g1 g2 g3 hu;have iO:=hS.swf (p:=bW K) (o:=K.y) hle
 by_cases h4:f (bW K)=K.y
 ·rw[if_pos h4] at hM
  by_cases hz:K.lv=0
  ·rw[if_pos hz] at hM;exact de.on hM pS iO rfl (bJ.at0 hT h0 hn ⟨by show (16:Nat)≠2;decide,by show (16:Nat)≠7;decide,by show (16:Nat)≠8;decide⟩ ⟨bd,bZ,cF⟩)
  ·rw[if_neg hz] at hM;exact de.on hM pS iO rfl (bJ.at0 hT h0 hn ⟨by show (13:Nat)≠2;decide,by show (13:Nat)≠7;decide,by show (13:Nat)≠8;decide⟩ ⟨bd,bZ,cF,by show K.lv - 1 < C.h.toNat;omega⟩)
 ·rw[if_neg h4] at hM;exact de.on hM pS iO rfl (bJ.at0 hT h0 hn ⟨by show (13:Nat)≠2;decide,by show (13:Nat)≠7;decide,by show (13:Nat)≠8;decide⟩ ⟨bd,bZ,cF,hl⟩)
end
section
variable {w0 w:World} {R sub:List Item} {C:Cf} {X:Tm} {V:Wm} {T:Th} {K:Kt} {d:Dd} {q fb fl:Nat} {FU:Nat->Prop} {ml aR:List bT} {A:Option Addr} {c:Nat} {N:Int} {f:Mem} {s n l y l0 r key:Int} {an on:Bool} {pf pa pr:Option Addr} {G:Nat->List Value} {L:Nat->Lm}
theorem Pu (hh:1<=C.h.toNat/\C.h.toNat<=16) (bH:C.h=(C.h.toNat:Int)) (hF:gW C C.h.toNat on fl L) (he:0<=T.e/\T.e<=9223372036854775807) (hu:∀ x,aD (ak ml x)) (aQ:ml.length<=1000000) (hG:∀ i,(G i).length=13) (ek:on=true->∀ i,fl<=i->i < C.h.toNat->G i=dG (i:Int) key false (L i)) (hE:Env w0 (ae fb (aY key (if on then (fl:Int) else -1) G)::LU (SR C { X with ro:=r } V T FU ml) R) w) :
  Calls prog 64 #[zP fb,zP X.u,zP V.m] w fun o w'=>o=.returned (zI (bm C.h.toNat key ⟨on,fl,L,T.e,r⟩ (ak ml)).1)/\∃ ca aR G',ak aR=(bm C.h.toNat key ⟨on,fl,L,T.e,r⟩ (ak ml)).2.2/\aR.length<=ml.length+1/\(∀ i,(G' i).length=13)/\((bm C.h.toNat key ⟨on,fl,L,T.e,r⟩ (ak ml)).2.1.on=true->∀ i,(bm C.h.toNat key ⟨on,fl,L,T.e,r⟩ (ak ml)).2.1.lv<=i->i < C.h.toNat->G' i=dG (i:Int) key false ((bm C.h.toNat key ⟨on,fl,L,T.e,r⟩ (ak ml)).2.1.L i))/\Env w0 (ae fb (aY key (if (bm C.h.toNat key ⟨on,fl,L,T.e,r⟩ (ak ml)).2.1.on then ((bm C.h.toNat key ⟨on,fl,L,T.e,r⟩ (ak ml)).2.1.lv:Int) else -1) G')::LU (SR C { X with ro:=(bm C.h.toNat key ⟨on,fl,L,T.e,r⟩ (ak ml)).2.1.r } V { T with e:=(bm C.h.toNat key ⟨on,fl,L,T.e,r⟩ (ak ml)).2.1.e } ca aR) R) w':=by
 obtain⟨uc,qN⟩:∃ uc:Uc,uc=⟨C.k,C.s,C.b,C.h,C.l,X.A,T.ql.length,X.rc,X.N,T.hs⟩:=⟨_,rfl⟩;have hR:BA uc w0 (fx X.A X.rc T.ql::R) fb X.u V.m C.h.toNat key ⟨on,fl,L,T.e,r⟩ (ak ml) ml.length w:=by
  subst qN;refine⟨G,hG,fun ho=>⟨(hF ho).1,fun i h1 h2=>ek ho i h1 h2⟩,ml,rfl,Nat.le_refl _,FU,hE.perm (cm fun z=>?_)⟩;simp only[List.count_cons,LU,SR,cW];omega
 have Fv:=OO hh (by subst qN;exact bH) hF.fm he hu aQ hR;generalize bm C.h.toNat key ⟨on,fl,L,T.e,r⟩ (ak ml)=z at Fv ⊢;refine Fv.mono ?_;rintro o w1 ⟨rfl,G',tB,x5,aR,hf,hl,ca,dh⟩;subst qN;refine⟨rfl,ca,aR,G',hf,hl,tB,fun ho=>(x5 ho).2,dh.perm (cm fun z=>?_)⟩;simp only[List.count_cons,LU,SR,cW];omega
theorem Pv (dC:K.ft<=2) (h0:K.ft=0->K.an=false) (hn:K.ft≠0->n=K.n) (aH:K.ft=1->l=(K.lv:Int)) (bB:0<=l/\l<=1000) (hG:∀ i,(G i).length=13) (ek:∀ i,i < C.h.toNat->G i=dG (i:Int) d.key false (K.L i)) (hh:1<=C.h.toNat/\C.h.toNat<=16) (bd:K.err=0/\K.dn=false) (aG:d.ok=1\/d.ok=2\/d.ok=3) (hd:d.ok=1->1<=d.lv/\d.lv<=(C.h.toNat:Int)) (bU:K.T.ql.length+1<=1000000) (bZ:0<=K.T.hs) (hN:0<=X.N/\X.N<=4000000) (fG:aR.length<=ml.length+1)
  (hE:Env w0 (ae q (ay d.ok d.key d.val d.lv ((K.ft:Int)+1) (some ⟨fb,0,none⟩) pa pr n l y an 0 false)::ae fb (aY d.key l0 G)::LU (aW C X V K FU aR) R) w) :
  Calls prog 65 #[zP q,zP X.u] w fun e w'=>∃ s,e=.returned (zI s)/\bX w0 R C X V d q ml ((bQ C d K).1,(bQ C d K).2,ak aR) s w':=by
 have dx:Hid (∀ v,ao 0 v fb (aY d.key l0 G)->gu v fb C.h.toNat d.key K.L):=zH fun v hb=>gu.of hb hG hh.2 ek;have j5:0 < C.h.toNat:=hh.1;have ho:∀ {z:Int},d.ok=z->ay z=ay d.ok:=fun h=>by rw[h]
 have Pw:∀ {kd key val lv pc n l y er:Int} {pf pa pr:Option Addr} {dn:Bool},K.an=false->ay kd key val lv pc pf pa pr n l y false er dn=ay kd key val lv pc pf pa pr n l y K.an er dn:=fun h=>by rw[h]
 obtain h9 | h9 | h9:K.ft=0\/K.ft=1\/K.ft=2:=by omega
 ·have cY:=h0 h9;rw[h9] at hE;replace hE:Env w0 (ae q (ay d.ok d.key d.val d.lv 1 (some ⟨fb,0,none⟩) pa pr n l y an 0 false)::ae fb (aY d.key l0 G)::LU (aW C X V K FU aR) R) w:=hE
  rcases aG with hk | hk | hk
  ·cases bw:(K.L 0).fd
   ·by_cases x6:K.T.hs=0
    ·by_cases j9:bk K.T.ql K.T.e C.l=0
     ·have hM:bQ C d K=(1,{ K with err:=7 }):=by simp[bQ,h9,hk,bw,x6,qz,j9]
      rw[hM];rw[hk] at hE;refine nk (U:=aW C X V K FU aR) (h:=C.h.toNat) (F:=K.L) _ j5 dx hE (.inr (.inr (.inr (.inr (.inr (.inr (.inr (.inr (.inl ⟨rfl,rfl,(show K.T.hs<=0 by omega),j9,bw,fun w1 a az=>?_⟩)))))))));exact⟨1,rfl,bX.fin (K:={ K with err:=7 }) (n:=n) (l:=l) (y:=y) (an:=an) (pf:=(some ⟨fb,0,none⟩)) (pa:=some ⟨a,0,none⟩) (pr:=pr) (pc:=4) (A:=X.A) (c:=X.rc) (N:=X.N) rfl fG hN (show (1:Int)≠0 by decide) (by rw[hk,bd.2];exact az.sub (.cons_cons _ (.cons _ (List.Sublist.refl _))))⟩
     ·have hM:bQ C d K=(0,{ K with pc:=2,T:={ K.T with pc:=2,apc:=bk K.T.ql K.T.e C.l,ah:=0,an:=0,ar:=0 } }):=by simp[bQ,h9,hk,bw,x6,qz,j9]
      rw[hM];rw[hk] at hE;refine nk (U:=aW C X V K FU aR) (h:=C.h.toNat) (F:=K.L) _ j5 dx hE (.inr (.inr (.inr (.inr (.inr (.inr (.inr (.inr (.inr (⟨rfl,rfl,(show K.T.hs<=0 by omega),j9,bw,fun w1 a az=>?_⟩))))))))));rw[ho hk] at az;exact⟨0,rfl,bX.go (K:={ K with pc:=2,T:={ K.T with pc:=2,apc:=bk K.T.ql K.T.e C.l,ah:=0,an:=0,ar:=0 } }) (A:=X.A) (c:=X.rc) (N:=X.N) (sub:=[_,_]) rfl fG hN (dY.take (K:={ K with pc:=2,T:={ K.T with pc:=2,apc:=bk K.T.ql K.T.e C.l,ah:=0,an:=0,ar:=0 } }) a _ pr n l y an rfl cY bB) (az.sub (.cons_cons _ (.cons_cons _ (.cons _ (List.Sublist.refl _)))))⟩
    ·cases fN:lK K.L d.lv.toNat
     ·have hM:bQ C d K=(0,{ K with pc:=3,n:=K.T.hs,lv:=0 }):=by simp[bQ,h9,hk,bw,x6,fN]
      rw[hM];rw[hk] at hE;refine nk (U:=aW C X V K FU aR) (h:=C.h.toNat) (F:=K.L) _ j5 dx hE (.inr (.inr (.inr (.inr (.inr (.inr (.inr (.inl ⟨rfl,rfl,(show 0 < K.T.hs by omega),hd hk,fN,bw,fun w1 az=>?_⟩))))))));rw[ho hk,Pw cY] at az;exact⟨0,rfl,bX.go (K:={ K with pc:=3,n:=K.T.hs,lv:=0 }) (A:=X.A) (c:=X.rc) (N:=X.N) (sub:=[_,_]) rfl fG hN (dY.ins (K:={ K with pc:=3,n:=K.T.hs,lv:=0 }) 10 fb G pa pr 0 y l0 (.inl ⟨rfl,rfl,cY,rfl⟩) (by omega) hG ek) az⟩
     ·have hM:bQ C d K=(0,eu 0 K):=by simp[bQ,h9,hk,bw,x6,fN]
      rw[hM];rw[hk] at hE;refine nk (U:=aW C X V K FU aR) (h:=C.h.toNat) (F:=K.L) _ j5 dx hE (.inr (.inr (.inr (.inr (.inr (.inr (.inl ⟨rfl,rfl,(show 0 < K.T.hs by omega),hd hk,fN,bw,fun w1 f2 az=>?_⟩)))))));rw[ho hk] at az;exact⟨0,rfl,bX.seek (A:=X.A) (c:=X.rc) (N:=X.N) 0 (by decide) 1 rfl (fun _=>cY) (fun h=>absurd rfl h) (fun h=>absurd h (by decide)) bB rfl fG hN az⟩
   ·have hM:bQ C d K=(1,{ K with T:={ K.T with ql:=j1 K.T.hs K.T.ql,hs:=0 } }):=by simp[bQ,h9,hk,bw]
    rw[hM];rw[hk] at hE;refine nk (U:=aW C X V K FU aR) (h:=C.h.toNat) (F:=K.L) _ j5 dx hE (.inr (.inr (.inr (.inr (.inr (.inl ⟨rfl,rfl,bZ,(show K.T.ql.length<=1000000 by omega),(show 0<=X.N/\X.N<=1099511627776 by omega),bw,fun w1 A' c' N' Px az=>?_⟩))))));have gL:0<=N'/\N'<=4000000:=by
     rcases Px with h | h
     ·rw[h];exact hN
     ·rw[h];exact xK hN bU
    exact⟨1,rfl,bX.fin (K:={ K with T:={ K.T with ql:=j1 K.T.hs K.T.ql,hs:=0 } }) (n:=n) (l:=l) (y:=y) (an:=an) (pf:=(some ⟨fb,0,none⟩)) (pa:=pa) (pr:=pr) (pc:=1) (A:=A') (c:=c') (N:=N') rfl fG gL (show (1:Int)≠0 by decide) (by rw[hk,bd.1,bd.2];exact az.sub (.cons_cons _ (.cons _ (List.Sublist.refl _))))⟩
  ·cases bw:(K.L 0).fd
   ·have hM:bQ C d K=(1,K):=by simp[bQ,h9,hk,bw]
    rw[hM];rw[hk] at hE;refine nk (U:=aW C X V K FU aR) (h:=C.h.toNat) (F:=K.L) _ j5 dx hE (.inr (.inr (.inr (.inl ⟨rfl,rfl,bw,fun w1 az=>?_⟩))));exact⟨1,rfl,bX.fin (K:=K) (n:=n) (l:=l) (y:=y) (an:=an) (pf:=(some ⟨fb,0,none⟩)) (pa:=pa) (pr:=pr) (pc:=1) (A:=X.A) (c:=X.rc) (N:=X.N) rfl fG hN (show (1:Int)≠0 by decide) (by rw[hk,bd.1,bd.2];exact az.sub (.cons_cons _ (.cons _ (List.Sublist.refl _))))⟩
   ·have hM:bQ C d K=(0,{ K with pc:=11,n:=(K.L 0).C }):=by simp[bQ,h9,hk,bw]
    rw[hM];rw[hk] at hE;refine nk (U:=aW C X V K FU aR) (h:=C.h.toNat) (F:=K.L) _ j5 dx hE (.inr (.inr (.inr (.inr (.inl ⟨rfl,rfl,bw,fun w1 az=>?_⟩)))));rw[ho hk] at az;exact⟨0,rfl,bX.go (K:={ K with pc:=11,n:=(K.L 0).C }) (A:=X.A) (c:=X.rc) (N:=X.N) (sub:=[_]) rfl fG hN (dY.del (K:={ K with pc:=11,n:=(K.L 0).C }) 20 _ pa pr l y an (.inl ⟨rfl,rfl⟩) cY bB) (az.sub (.cons_cons _ (.cons _ (List.Sublist.refl _))))⟩
  ·have hM:bQ C d K=(1,{ K with dn:=(K.L 0).fd }):=by simp[bQ,h9,hk]
   rw[hM];rw[hk] at hE;refine nk (U:=aW C X V K FU aR) (h:=C.h.toNat) (F:=K.L) _ j5 dx hE (.inr (.inr (.inl ⟨rfl,rfl,fun w1 az=>?_⟩)));exact⟨1,rfl,bX.fin (K:={ K with dn:=(K.L 0).fd }) (n:=n) (l:=l) (y:=y) (an:=an) (pf:=(some ⟨fb,0,none⟩)) (pa:=pa) (pr:=pr) (pc:=1) (A:=X.A) (c:=X.rc) (N:=X.N) rfl fG hN (show (1:Int)≠0 by decide) (by rw[hk,bd.1];exact az.sub (.cons_cons _ (.cons _ (List.Sublist.refl _))))⟩
 ·have oy:=hn (by omega);have jT:=aH h9;subst oy;subst jT;rw[h9] at hE;replace hE:Env w0 (ae q (ay d.ok d.key d.val d.lv 2 (some ⟨fb,0,none⟩) pa pr K.n (K.lv:Int) y an 0 false)::ae fb (aY d.key l0 G)::LU (aW C X V K FU aR) R) w:=hE
  by_cases hc:(K.L 0).C=K.n
  ·have hM:bQ C d K=(0,{ K with an:=true,pc:=6 }):=by simp[bQ,h9,hc]
   rw[hM];refine nk (U:=aW C X V K FU aR) (h:=C.h.toNat) (F:=K.L) _ j5 dx hE (.inl ⟨13,rfl,(by rw[if_neg (fun h=>h hc)]),fun w1 az=>?_⟩);exact⟨0,rfl,bX.go (K:={ K with an:=true,pc:=6 }) (A:=X.A) (c:=X.rc) (N:=X.N) (sub:=[_,_]) rfl fG hN (dY.ins (K:={ K with an:=true,pc:=6 }) 13 fb G pa pr _ y l0 (.inr (.inr (.inr (.inl ⟨rfl,rfl,rfl⟩)))) bB hG ek) az⟩
  ·have hM:bQ C d K=(0,{ K with an:=true,pc:=10 }):=by simp[bQ,h9,hc]
   rw[hM];refine nk (U:=aW C X V K FU aR) (h:=C.h.toNat) (F:=K.L) _ j5 dx hE (.inl ⟨15,rfl,(by rw[if_pos hc]),fun w1 az=>?_⟩);exact⟨0,rfl,bX.go (K:={ K with an:=true,pc:=10 }) (A:=X.A) (c:=X.rc) (N:=X.N) (sub:=[_]) rfl fG hN (dY.rise (K:={ K with an:=true,pc:=10 }) _ pa pr _ y _ rfl bB) (az.sub (.cons_cons _ (.cons _ (List.Sublist.refl _))))⟩
 ·have oy:=hn (by omega);subst oy;rw[h9] at hE;replace hE:Env w0 (ae q (ay d.ok d.key d.val d.lv 3 (some ⟨fb,0,none⟩) pa pr K.n l y an 0 false)::ae fb (aY d.key l0 G)::LU (aW C X V K FU aR) R) w:=hE;have hM:bQ C d K=(0,{ K with pc:=7,T:={ K.T with pc:=3,rs:=K.n,rpc:=0,re:=0 } }):=by simp[bQ,h9]
  rw[hM];refine nk (U:=aW C X V K FU aR) (h:=C.h.toNat) (F:=K.L) _ j5 dx hE (.inr (.inl ⟨rfl,fun w1 a az=>?_⟩));exact⟨0,rfl,bX.go (K:={ K with pc:=7,T:={ K.T with pc:=3,rs:=K.n,rpc:=0,re:=0 } }) (A:=X.A) (c:=X.rc) (N:=X.N) (sub:=[_,_]) rfl fG hN (dY.retire (K:={ K with pc:=7,T:={ K.T with pc:=3,rs:=K.n,rpc:=0,re:=0 } }) a _ pa K.n l y an false rfl) (az.sub (.cons_cons _ (.cons_cons _ (.cons _ (List.Sublist.refl _)))))⟩
end
end
end Go.Proofs.YtleklonmmlfijaaGreatDoor
