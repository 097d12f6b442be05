/- What is proved on the way to the statement, part 19: contracts of the functions, among other things in memory. -/
import Derived.Test.YtleklonmmlfijaaGreatDoorQ18
import Derived.Test.YtleklonmmlfijaaGreatDoorTie
import Derived.LaidMore
import Derived.Stop.Joined
import Derived.WalkKit
import Derived.ProofKit
import Derived.OpenShut
import Derived.Deep.SlicePairs
import Derived.SevenTiedAt

open _root_.Go.Proofs.Tryz
set_option maxRecDepth 100000
set_option maxHeartbeats 25600000
namespace Go.Proofs.YtleklonmmlfijaaGreatDoor
section
open Go.ChangeShapes Go.WideShapes Go.ChangeAt Go.RowKit
section
variable {P:Program} {w:World}
theorem Cu {b o:Nat} {v:Value} (h:w.cell? ⟨b,o,none⟩=some v):b < w.heap.size:=by
 rcases Nat.lt_or_ge b w.heap.size with h' | h'
 ·exact h'
 ·simp[World.cell?,Array.getElem?_eq_none h'] at h
theorem Cv {n:String} {g:Nat} {t k:TypeId} {f0 f1:Field} {a b:Int} {r:List (String × DataW Unit)} {ps:List MemPlace}
  (h:DataW.LaidVars P w ((n,.agg [.lit (.int .i64 a),.lit (.int .i64 b)])::r) ps) (hg:P.globalNamed n=some g) (ht:(P.globals[g]?).map (·.type)=some t)
  (hs:P.underlying t=some (.struct #[f0,f1])) (hc:P.cellsOf t=2) (h0:f0.offset=0) (h1:f1.offset=1) (mO:f0.type=k) (jx:f1.type=k) (hk:P.cellsOf k=1) (hi:P.underlying k=some (.int .i64)) :
  w.cell? ⟨g,0,none⟩=some (.int .i64 a)/\w.cell? ⟨g,1,none⟩=some (.int .i64 b)/\∃ q,DataW.LaidVars P w r q:=by
 obtain⟨g',t',cs,fuel,p,q,vl,R9,hv,hd,hr,-⟩:=h;obtain rfl:=Option.some.inj (hg.symm.trans vl);obtain rfl:=Option.some.inj (ht.symm.trans R9);obtain⟨xs,m,-,hx,hl,hn,hel⟩:=DataW.trod_struct hs hd;have e0:=hel 0 f0 rfl;have e1:=hel 1 f1 rfl;rw[h0,mO,hk] at e0;rw[h1,jx,hk] at e1;obtain⟨l⟩:=cs;rw[hc] at hl
 match l,hl,xs,hn,hx,e0,e1,hv with
 | [c0,c1],_,[x0,x1],_,hx,e0,e1,hv =>
  simp only[Prod.mk.injEq,List.map_cons,List.map_nil,DataW.agg.injEq,List.cons.injEq] at hx;obtain⟨n0,s0,y0,-⟩:=DataW.trod_int hi (show DataW.trod _ P w 0 _ false m k [c0]=some x0 from e0);obtain⟨n1,s1,y1,-⟩:=DataW.trod_int hi (show DataW.trod _ P w 0 _ false m k [c1]=some x1 from e1);simp at s0 s1;subst s0 s1;have k0:=hx.1.1;have k1:=hx.1.2.1;rw[y0] at k0;rw[y1] at k1;simp at k0 k1;subst k0 k1;exact⟨by rw[World.var?_cell hg hv 0];rfl,by rw[World.var?_cell hg hv 1];rfl,q,hr⟩
end
def wi:List (String × DataW Unit):=[("revenant/link.versionPart",Rows.laid_revenant_link_versionPart),("revenant/link.slotPart",Rows.laid_revenant_link_slotPart),("revenant/link.markPart",Rows.laid_revenant_link_markPart)]
theorem Sb {W:World} (h:laidMetH prog wi W):bE W:=by
 rw[MakeChecks.laidMetH_plain _ _ _ (by kernel_rfl)] at h;obtain⟨ps,h,-,-⟩:=h;obtain⟨a0,a1,q1,h⟩:=Cv (g:=0) (t:=258) (k:=3) h (by kernel_rfl) (by kernel_rfl) Tryz.underlying258 (by kernel_rfl) rfl rfl rfl rfl (by kernel_rfl) Tryz.underlying3;obtain⟨b0,b1,q2,h⟩:=Cv (g:=1) (t:=258) (k:=3) h (by kernel_rfl) (by kernel_rfl) Tryz.underlying258 (by kernel_rfl) rfl rfl rfl rfl (by kernel_rfl) Tryz.underlying3;obtain⟨c0,c1,q3,h⟩:=Cv (g:=2) (t:=258) (k:=3) h (by kernel_rfl) (by kernel_rfl) Tryz.underlying258 (by kernel_rfl) rfl rfl rfl rfl (by kernel_rfl) Tryz.underlying3;exact⟨⟨a0,a1⟩,⟨b0,b1⟩,⟨c0,c1⟩,Cu a0,Cu b0,Cu c0⟩
theorem Sc (os:Os) (args:Array Value):laidMetH prog wi ((World.doorLaid prog 24 os).forCall (fun _ _=>0) ⟨#[],args,[]⟩).memory :=
 laidMetH_of_parts3 (fuel:=8) (laidMet_of_run' 8 (by kernel_rfl) (by kernel_rfl)) (by kernel_rfl) (by kernel_rfl)
end
section
open Go.RowKit Go.WideShapes Go.ChangeShapes Go.ChangeAt Go.Deep
section
variable {H:Type} {enc:TypeId × Value->H} {P:Program} {W:World}
theorem Sd {t e:TypeId} {k:IntKind} {A:Option Addr} {len cap:Nat} {d:DataW H} {p:List MemPlace} (ht:P.underlying t=some (.slice e)) (he:P.underlying e=some (.int k)) (hc:P.cellsOf e=1)
  (h:DataW.Trod enc P W 0 (fun _=>true) true t (.slice A len cap) d p) (aE:∀ x∈p,x.block < W.heap.size) :
  ∃ zs:List Int,zs.length=len/\len<=maxLen/\(∀ n∈zs,(Lit.int k n).wf=true)/\(zs=[]\/∃ b off,A=some ⟨b,off,none⟩/\b < W.heap.size/\∀ i,i < zs.length->W.cell? ⟨b,off+i,none⟩=some (.int k (zs.getD i 0))):=by
 obtain⟨fuel,hf⟩:=h
 rcases open_ints ht he hc hf with ⟨eO,hx⟩ | ⟨a,TX,ga,zs,eO,_,hl,hm,hz,hx,ie,Se⟩
 ·simp[Value.cells] at eO;obtain⟨rfl,rfl,rfl⟩:=eO;exact⟨[],rfl,Nat.zero_le _,by simp,Or.inl rfl⟩
 ·simp[Value.cells] at eO;obtain⟨rfl,rfl,rfl⟩:=eO;simp only[Prod.mk.injEq] at hx;obtain⟨rfl,rfl⟩:=hx;simp only[if_true] at hz;refine⟨zs.take len,by simp;omega,by omega,fun n hn=>Se n (List.mem_of_mem_take hn),?_⟩
  by_cases h0:len=0
  ·left;subst h0;simp
  ·right
   obtain⟨b,off,spot⟩:=a;have Cg:spot=none:=by simpa [Addr.add] using World.cell?_spot (ie 0 (by omega))
   subst Cg;refine⟨b,off,rfl,aE (.cell b off) (MemPlace.mem_row.2 ⟨0,by omega,by simp⟩),fun i hi=>?_⟩;have fE:i < len:=by simp at hi;omega
   have:=ie i (by omega);rw[add_plain] at this;rw[this];simp[fE]
end
end
section
open Go.RowKit Go.Maps
theorem Sf {c n:Nat} {F:Nat->Prop} {f:aI->Int} {q:bN} {w:World} (hC:ed w c F f q n) :
  Calls prog 23 #[.pointer (some ⟨c,0,none⟩)] w fun e w'=>e=.returned (.agg #[.int .i64 q.l,.int .i64 q.s,.int .i64 q.w,.int .i64 q.f,.int .i64 q.a])/\Below w.heap.size w w':=by
 obtain⟨mp,hb,hm,hF⟩:=hC;have r1:=nK hb.1 hb.rule;unfold cv at r1;go_enter func23,ntmps23
 go_wp2
 refine bodyPost_ret (v:=.agg #[.int .i64 q.l,.int .i64 q.s,.int .i64 q.w,.int .i64 q.f,.int .i64 q.a]) (by simp[results,results23,go_sem]) rfl ⟨rfl,?_⟩;exact (Below.refl _ _).alloc (Nat.le_refl _) _
section
variable {w0 w:World} {L:List Item} {p c n:Nat} {F:Nat->Prop} {f:aI->Int} {q:bN}
theorem sS (i j:Nat) (hE:Env w0 L w) (hi:L[i]?=some (fk p c)) (hj:L[j]?=some (dg c F f q n)) :
  Calls prog 7 #[.pointer (some ⟨p,0,none⟩)] w fun e w'=>e=.returned (.agg #[.int .i64 q.l,.int .i64 q.s,.int .i64 q.w,.int .i64 q.f,.int .i64 q.a])/\Below w.heap.size w w':=by
 have hb:=(Below.refl w.heap.size w).alloc (Nat.le_refl _) (.cells #[.int .i64 0,.int .i64 0,.int .i64 0,.int .i64 0,.int .i64 0] 36);replace hE:=hE.box w.heap.size rfl [.int .i64 0,.int .i64 0,.int .i64 0,.int .i64 0,.int .i64 0] 36;go_enter func7,ntmps7;go_wp2_with fail;refine (rH (hE.wblk (i+1) hi)).mono ?_;rintro e w1 ⟨rfl,rfl⟩;go_wp2_with fail;refine (Sf (hE.cell (j+1) hj)).mono ?_;rintro e w2 ⟨rfl,eg⟩;have az:=hE.over eg;have f5:=az.thaw 0 rfl;have f0:=f5 0 (by simp);have f1:=f5 1 (by simp);have f2:=f5 2 (by simp);have f3:=f5 3 (by simp);have f4:=f5 4 (by simp);have r:=az.rule 0 rfl;have hB:=hb.trans (eg.mono hb.size);clear f5
 go_wp2
 have hP:=az.put5 0 rfl (.int .i64 q.l) (.int .i64 q.s) (.int .i64 q.w) (.int .i64 q.f) (.int .i64 q.a);have q9:=hP.rule 0 rfl;refine bodyPost_ret (v:=.agg #[.int .i64 q.l,.int .i64 q.s,.int .i64 q.w,.int .i64 q.f,.int .i64 q.a]) (by simp[results,results7,go_sem,q9]) rfl ⟨rfl,?_⟩;exact ((((hB.setCell (Nat.le_refl _) _).setCell (Nat.le_refl _) _).setCell (Nat.le_refl _) _).setCell (Nat.le_refl _) _).setCell (Nat.le_refl _) _
end
end
end Go.Proofs.YtleklonmmlfijaaGreatDoor
namespace Go.Proofs.YtleklonmmlfijaaGreatDoor.skipExact
section
open Go.ChangeShapes Go.WideShapes Go.ChangeAt Go.RowKit Go.Joins Go.Maps
theorem walk (k1 k2 k3 k4 k5:Int) (rs:List Rw) (A:Option Addr) (cap:Nat) (eI:rs.length<=2 ^ 63 - 1) (zs:List Int) (A2:Option Addr) (wh:Nat) (jR:zs.length<=2 ^ 63 - 1) (W:World) (aG:∀ r∈rs,Ch W r) (fS:jQ uo 1 W A rs)
  (GK:zs=[]\/∃ b off,A2=some ⟨b,off,none⟩/\b < W.heap.size/\∀ i,i < zs.length->W.cell? ⟨b,off+i,none⟩=some (zI (zs.getD i 0))) (hg:bE W) :
  Calls prog 3 #[.agg #[zI k1,zI k2,zI k3,zI k4,zI k5],.slice A rs.length cap,.slice A2 zs.length wh] W fun e w'=>e=.returned (.bool true)/\Below W.heap.size W w':=by
 have hE:=(Env.start W).box W.heap.size rfl [zI k1,zI k2,zI k3,zI k4,zI k5] 23;have HG:=zH hg;have kR:=zH fS;have Sg:=zH GK;have iV:=zH aG;have hl:rs.length<=9223372036854775807:=by omega
 have hz:zs.length<=9223372036854775807:=by omega
 have GL:∀ r∈rs,r.ds.length<=9223372036854775807:=fun r hr=>by have:=(aG r hr).1;unfold maxLen at this;omega
 have Ci:=zH GL;clear hg fS GK aG eI jR GL;go_enter func3,ntmps3;go_wp2_with fail;refine (QF _ (HG.out.keep' hE.below)).mono ?_;rintro o w1 ⟨rfl,hb⟩;replace hE:=hE.over hb;clear hb;generalize hX:W.heap.size=X at *;have HX:=zH hX;clear hX;have r0:=hE.rule 0 rfl;go_wp2_with fail;refine (Rc k1 k2 k3 k4 k5 A A2 cap wh zs.length rs hl hz kR.out Ci.out (fun r hr=>(iV.out r hr).2.2) _ hE.below).mono ?_;rintro o w2 ⟨hb,rfl | ⟨rfl,jn,yD⟩⟩
 ·replace hE:=hE.over hb;go_wp2_with fail;go_ret;exact⟨rfl,hE.below⟩
 replace hE:=hE.over hb;clear hb r0;obtain⟨dH,jx,e8,jn⟩:=jn;subst jx;have r0:=hE.rule 0 rfl;have HC:=zH dH;have Sh:=IH dH;have GM:fC ⟨3,k2,k3,k4,k5⟩:=⟨by refine⟨?_,?_⟩<;>(dsimp only;omega),by dsimp only;omega,by dsimp only;omega⟩;have h16:(Cf.h ⟨3,k2,k3,k4,k5⟩).toNat<=16:=by dsimp only;omega
 have bH:Cf.h ⟨3,k2,k3,k4,k5⟩=((Cf.h ⟨3,k2,k3,k4,k5⟩).toNat:Int):=by dsimp only;omega
 have vX:=zH GM;have Cw:=zH h16;have pB:=zH bH;clear GM h16 bH;have jS:1<=rs.length:=by omega
 have Cx:rs.length<=4:=by omega
 have TY:zs.length<=1500:=by omega
 have GN:jy ⟨3,k2,k3,k4,k5⟩:=by
  refine⟨?_,?_⟩<;>(dsimp only;omega)
 have T2:=zH jn;have Si:=zH jS;have GQ:=zH Cx;have Sj:=zH GN;have hR:∀ (L:List Item) i,i < rs.length->Gd W L ⟨3,k2,k3,k4,k5⟩ (rs.getD i default):=fun L i hi=>by
  have hm:rs.getD i default∈rs:=by rw[List.getD_eq_getElem?_getD,List.getElem?_eq_getElem hi];exact List.getElem_mem hi
  obtain⟨h1,h2,h3⟩:=iV.out _ hm;exact⟨lM.of_row h3,by have:=(yD i hi).1;omega,fun k hk=>h2 _ (QH hk),fun k hk=>.inr ((yD i hi).2 k hk)⟩
 have HR:=zH hR;have Sk:=zH yD;clear jn jS Cx yD GN hR dH Sh;go_wp2_with fail;refine (QT 3 k2 k3 k4 k5 A cap rs GQ.out kR.out HC.out hE).mono ?_;rintro o w7 ⟨p,cc,m,g,cp,S0,rfl,gq,fe,aQ,hn,ik,bn⟩;replace bn:=bn.dropE;clear hE r0;have eW:=QR Sj.out (fun i hi=>(Sk.out i hi).1) gq fe aQ hn;clear fe gq aQ hn;have jG:=zH eW;have iM:=zH ik;clear eW ik;go_wp2_with fail
 go_loopw [10] (fun iv wr=>∃ (j:Nat) (S:GS),j<=zs.length/\iv=.int .i64 j/\Hid (qW ⟨3,k2,k3,k4,k5⟩ rs (40+j) S)/\Hid (QB (2+j) S.qc)/\Env W (EL ⟨3,k2,k3,k4,k5⟩ (.slice (some ⟨g,0,none⟩) rs.length cp) p cc m S []) wr) (fun iv _=>zs.length - (intOf iv).toNat)
 case atStart=>exact⟨0,S0,Nat.zero_le _,rfl,jG,iM,bn⟩
 case round =>
  clear bn jG iM;obtain⟨j,S,hj,rfl,eW,ik,hE⟩:=hrel
  by_cases aE:j < zs.length
  ·have cV:decide ((j:Int) < (zs.length:Int))=true:=by simp;omega
   have xB:(j:Int) < (zs.length:Int):=by omega
   rcases Sg.out with h0 | ⟨bb,off,rfl,jl,hc⟩
   ·rw[h0] at aE;simp at aE
   obtain⟨z,GR⟩:∃ z,zs.getD j 0=z:=⟨_,rfl⟩;have Sl:wr.cell? ⟨bb,off+j,none⟩=some (zI z):=by rw[hE.below.cell (p:=⟨bb,off+j,none⟩) (by rw[HX.out];exact jl),hc j aE,GR]
   have jS:=Si.out;have Cx:=GQ.out;have Sm:IntKind.u64.wrap (rs.length:Int)=(rs.length:Int):=by rw[IntKind.wrap_u64];omega
   obtain⟨t,ht,jN⟩:∃ t:Nat,(IntKind.u64.wrap z).tmod (rs.length:Int)=(t:Int)/\t < rs.length:=by
    have h0:0<=IntKind.u64.wrap z:=by rw[IntKind.wrap_u64];omega
    refine⟨((IntKind.u64.wrap z) % (rs.length:Int)).toNat,?_,?_⟩
    ·rw[Int.tmod_eq_emod_of_nonneg h0,Int.toNat_of_nonneg (Int.emod_nonneg _ (by omega))]
    ·have:=Int.emod_lt_of_pos (IntKind.u64.wrap z) (show 0 < (rs.length:Int) by omega);have:=Int.emod_nonneg (IntKind.u64.wrap z) (show (rs.length:Int)≠0 by omega);omega
   obtain⟨q,hq,hQ⟩:=eW.out.ps t jN;have Sn:wr.cell? ⟨g,t,none⟩=some (zP q.X.thr):=by
    have:=hE.tpAt 0 rfl t (by rw[List.length_map,eW.out.len];exact jN);rw[this];simp[List.getD_eq_getElem?_getD,hq]
   have T3:(t:Int) < (rs.length:Int):=by omega
   have T4:(rs.length:Int)≠0:=by omega
   have T5:j<=1500:=by omega
   go_upto_region 10 with fail
   clear Sl hc GR Sn ht Sm;go_wp2_with fail;refine (sS 1 2 hE rfl rfl).mono ?_;rintro o w8 ⟨rfl,hb⟩;replace hE:=hE.over hb;clear hb;go_wp2_with fail;have az:=(hE.box w8.heap.size rfl [zI S.qc.l,zI S.qc.s,zI S.qc.w,zI S.qc.f,zI S.qc.a] 36).inE;clear hE;generalize w8.alloc _=w9 at *;generalize w8.heap.size=Y at *
   rcases (show (q.K.pc≠0)\/(q.K.pc=0/\q.K.T.nd < (rs.getD t default).ds.length)\/(q.K.pc=0/\¬ q.K.T.nd < (rs.getD t default).ds.length) by omega) with ax | ⟨ax,ef⟩ | ⟨ax,ef⟩
   ·have jr:decide (q.K.pc≠0)=true:=by simp[ax]
    have hid:kZ (rs.getD t default).ds q.K=false:=by unfold kZ;rw[decide_eq_false ax];rfl
    have nw:Hid (∀ v,Env W (EL ⟨3,k2,k3,k4,k5⟩ (.slice (some ⟨g,0,none⟩) rs.length cp) p cc m S [ae Y [zI S.qc.l,zI S.qc.s,zI S.qc.w,zI S.qc.f,zI S.qc.a]]) v->v.cell? ⟨q.X.thr,4,none⟩=some (.bool true)/\v.cell? ⟨q.X.thr,3,none⟩=some (zI (q.K.T.nd:Int))/\v.cell? ⟨q.X.thr,2,none⟩=some (.slice q.X.dA q.X.dn q.X.dc)):=zH fun v hv=>by
     have h9:=hv.thrE hq;exact⟨by rw[h9 4,<- jr];rfl,h9 3,h9 2⟩
    have wj:=zH hid;clear jr ax hQ hid;refine cG (S:=(Env W (EL ⟨3,k2,k3,k4,k5⟩ (.slice (some ⟨g,0,none⟩) rs.length cp) p cc m S [ae Y [zI S.qc.l,zI S.qc.s,zI S.qc.w,zI S.qc.f,zI S.qc.a]]))) (by kernel_rfl) (by kernel_rfl) az.drew (fun hT=>?_);have af:=zH hT;clear hT
    repeat ((first
     | (refine cH (v:=?_) af.o (by rfl) ?_ ?_;rotate_left;(intro w5 hS;obtain⟨r4,r3,r2⟩:=nw.out _ hS;go_simp<;>rfl))
     | (refine cI af.o (by rfl) ?_)
     | (refine cJ (v:=?_) (f:=?_) (args:=?_) af.o (by rfl) ?_ ?_ ?_;rotate_left 3;(intro w5 hS;obtain⟨r4,r3,r2⟩:=nw.out _ hS;go_simp;constructor<;>rfl);(intro w5 hS;(first | fail))));try simp only[Act.put,zA,zZ,zS])
    refine InText.nil fun w5 aK=>?_;clear af;clear az nw;go_wp2_with fail;refine (Ca HG.out vX.out Cw.out pB.out rfl (HR.out _ t jN) eW.out (by omega) jN hq aK).mono ?_;rintro o w9 ⟨rfl,S',q',bY,nz,dh⟩;have ei:S.ps.length=rs.length:=eW.out.len;have mB:S'.ps[t]?=some q':=by rw[bY.ps];simp[ei,jN]
    have hid:=wj.out;have sT:=ik.out.one (bY.qc.1 hid) (by omega);have rf:Hid (QB (2+(j+1)) S'.qc):=zH sT.1;have qi:=sT.2;clear sT;have nA:Hid (qW ⟨3,k2,k3,k4,k5⟩ rs (40+(j+1)) S'):=zH nz;have wk:=bY.thr;clear aK bY hid;go_wp2_with fail;rw[<- wk];refine (Cb nz (by omega) jN mB dh).mono ?_;rintro o tC ⟨rfl,aq⟩;clear dh;have mC:∀ v,Env W (EL ⟨3,k2,k3,k4,k5⟩ (.slice (some ⟨g,0,none⟩) rs.length cp) p cc m S' [ae Y [zI S.qc.l,zI S.qc.s,zI S.qc.w,zI S.qc.f,zI S.qc.a]]) v->Calls prog 10 #[zP p,zP m] v fun o w'=>o=.returned (.bool true)/\Env W (EL ⟨3,k2,k3,k4,k5⟩ (.slice (some ⟨g,0,none⟩) rs.length cp) p cc m S' [ae Y [zI S.qc.l,zI S.qc.s,zI S.qc.w,zI S.qc.f,zI S.qc.a]]) w':=fun v hv=>by
     refine (Cp (R:=gx (.slice (some ⟨g,0,none⟩) rs.length cp) (S'.ps.map fun q=>q.X.thr)::(S'.ps.flatMap (Pk.its ⟨3,k2,k3,k4,k5⟩)++[ae Y [zI S.qc.l,zI S.qc.s,zI S.qc.w,zI S.qc.f,zI S.qc.a]])) (by have:=nA.out.ml;omega) (by have:=nA.out.n;omega) (hv.perm (List.perm_append_comm_assoc [_] [_,_,_] _))).mono ?_;rintro o wm ⟨rfl,aO⟩;exact⟨rfl,aO.perm (List.perm_append_comm_assoc [_,_,_] [_] _)⟩
    have wo:=zH mC;have oH:=ik.out;unfold QB at oH;have wu:=rf.out;unfold QB at wu;clear mC mB nz;go_wp2_with fail
    all_goals first
     | (refine (sS 1 2 aq rfl rfl).mono ?_;rintro o lh ⟨rfl,hb⟩;have jO:=aq;clear aq)
     | (refine (wo.out _ aq).mono ?_;rintro o wm ⟨rfl,aO⟩;clear aq;go_wp2_with fail;refine (sS 1 2 aO rfl rfl).mono ?_;rintro o lh ⟨rfl,hb⟩;have jO:=aO;clear aO)
    all_goals
     replace jO:=jO.over hb;clear hb
     go_upto_region 15 with fail
     have lj:=(jO.box lh.heap.size rfl [zI S'.qc.l,zI S'.qc.s,zI S'.qc.w,zI S'.qc.f,zI S'.qc.a] 36);clear jO;generalize lh.alloc _=wv at *;generalize lh.heap.size=Y2 at *;have r0:=lj.rule 0 rfl;have rY:∀ j,wv.cell? ⟨Y,j,none⟩=[zI S.qc.l,zI S.qc.s,zI S.qc.w,zI S.qc.f,zI S.qc.a][j]?:=ao.rule ((lj.2.2 (ae Y [zI S.qc.l,zI S.qc.s,zI S.qc.w,zI S.qc.f,zI S.qc.a]) (by simp[EL])).1);have rh:=(lj.sub (.cons _ (List.Sublist.refl _))).dropE;have wx:=zH rh;clear lj rh;generalize S'.qc.l=a1 at *;generalize S'.qc.s=a2 at *;generalize S'.qc.w=a3 at *;generalize S'.qc.a=a4 at *;generalize S.qc.l=n1 at *;generalize S.qc.s=n2 at *;generalize S.qc.w=n3 at *;generalize S.qc.a=n4 at *;have ij:wrap64 (a1+a2)=a1+a2:=df _ (by omega);have gd:wrap64 (a1+a2+a3)=a1+a2+a3:=df _ (by omega);have tD:wrap64 (a1+a2+a3+a4)=a1+a2+a3+a4:=df _ (by omega);have GU:wrap64 (a1+a2+a3+a4 - n1)=a1+a2+a3+a4 - n1:=df _ (by omega);have GV:wrap64 (a1+a2+a3+a4 - n1 - n2)=a1+a2+a3+a4 - n1 - n2:=df _ (by omega);have GX:wrap64 (a1+a2+a3+a4 - n1 - n2 - n3)=a1+a2+a3+a4 - n1 - n2 - n3:=df _ (by omega);have kD:wrap64 (a1+a2+a3+a4 - n1 - n2 - n3 - n4)=1:=by rw[df _ (by omega)];omega
     have Be:a1+a2+a3+a4 - n1 - n2 - n3 - n4=1:=by omega
     clear qi;go_wp2_with fail;exact⟨⟨j+1,S',by omega,by first | (simp;done) | (simp;omega),nA.out,rf.out,wx.out⟩,by first | (simp[intOf];done) | (simp[intOf];omega)⟩
   ·have jr:decide (q.K.pc≠0)=false:=by simp[ax]
    have Bn:decide (((q.X.dn:Nat):Int)<=(q.K.T.nd:Int))=false:=by rw[hQ.dn];exact decide_eq_false (by omega)
    have dm:¬ ((q.X.dn:Nat):Int)<=(q.K.T.nd:Int):=by rw[hQ.dn];omega
    have hid:kZ (rs.getD t default).ds q.K=false:=by unfold kZ;rw[decide_eq_true ax,decide_eq_true ef];rfl
    have nw:Hid (∀ v,Env W (EL ⟨3,k2,k3,k4,k5⟩ (.slice (some ⟨g,0,none⟩) rs.length cp) p cc m S [ae Y [zI S.qc.l,zI S.qc.s,zI S.qc.w,zI S.qc.f,zI S.qc.a]]) v->v.cell? ⟨q.X.thr,4,none⟩=some (.bool false)/\v.cell? ⟨q.X.thr,3,none⟩=some (zI (q.K.T.nd:Int))/\v.cell? ⟨q.X.thr,2,none⟩=some (.slice q.X.dA q.X.dn q.X.dc)):=zH fun v hv=>by
     have h9:=hv.thrE hq;exact⟨by rw[h9 4,<- jr];rfl,h9 3,h9 2⟩
    have wj:=zH hid;clear jr ax hQ hid;refine cG (S:=(Env W (EL ⟨3,k2,k3,k4,k5⟩ (.slice (some ⟨g,0,none⟩) rs.length cp) p cc m S [ae Y [zI S.qc.l,zI S.qc.s,zI S.qc.w,zI S.qc.f,zI S.qc.a]]))) (by kernel_rfl) (by kernel_rfl) az.drew (fun hT=>?_);have af:=zH hT;clear hT
    repeat ((first
     | (refine cH (v:=?_) af.o (by rfl) ?_ ?_;rotate_left;(intro w5 hS;obtain⟨r4,r3,r2⟩:=nw.out _ hS;go_simp<;>rfl))
     | (refine cI af.o (by rfl) ?_)
     | (refine cJ (v:=?_) (f:=?_) (args:=?_) af.o (by rfl) ?_ ?_ ?_;rotate_left 3;(intro w5 hS;obtain⟨r4,r3,r2⟩:=nw.out _ hS;go_simp;constructor<;>rfl);(intro w5 hS;(first | fail))));try simp only[Act.put,zA,zZ,zS])
    refine InText.nil fun w5 aK=>?_;clear af;clear az nw;go_wp2_with fail;refine (Ca HG.out vX.out Cw.out pB.out rfl (HR.out _ t jN) eW.out (by omega) jN hq aK).mono ?_;rintro o w9 ⟨rfl,S',q',bY,nz,dh⟩;have ei:S.ps.length=rs.length:=eW.out.len;have mB:S'.ps[t]?=some q':=by rw[bY.ps];simp[ei,jN]
    have hid:=wj.out;have sT:=ik.out.one (bY.qc.1 hid) (by omega);have rf:Hid (QB (2+(j+1)) S'.qc):=zH sT.1;have qi:=sT.2;clear sT;have nA:Hid (qW ⟨3,k2,k3,k4,k5⟩ rs (40+(j+1)) S'):=zH nz;have wk:=bY.thr;clear aK bY hid;go_wp2_with fail;rw[<- wk];refine (Cb nz (by omega) jN mB dh).mono ?_;rintro o tC ⟨rfl,aq⟩;clear dh;have mC:∀ v,Env W (EL ⟨3,k2,k3,k4,k5⟩ (.slice (some ⟨g,0,none⟩) rs.length cp) p cc m S' [ae Y [zI S.qc.l,zI S.qc.s,zI S.qc.w,zI S.qc.f,zI S.qc.a]]) v->Calls prog 10 #[zP p,zP m] v fun o w'=>o=.returned (.bool true)/\Env W (EL ⟨3,k2,k3,k4,k5⟩ (.slice (some ⟨g,0,none⟩) rs.length cp) p cc m S' [ae Y [zI S.qc.l,zI S.qc.s,zI S.qc.w,zI S.qc.f,zI S.qc.a]]) w':=fun v hv=>by
     refine (Cp (R:=gx (.slice (some ⟨g,0,none⟩) rs.length cp) (S'.ps.map fun q=>q.X.thr)::(S'.ps.flatMap (Pk.its ⟨3,k2,k3,k4,k5⟩)++[ae Y [zI S.qc.l,zI S.qc.s,zI S.qc.w,zI S.qc.f,zI S.qc.a]])) (by have:=nA.out.ml;omega) (by have:=nA.out.n;omega) (hv.perm (List.perm_append_comm_assoc [_] [_,_,_] _))).mono ?_;rintro o wm ⟨rfl,aO⟩;exact⟨rfl,aO.perm (List.perm_append_comm_assoc [_,_,_] [_] _)⟩
    have wo:=zH mC;have oH:=ik.out;unfold QB at oH;have wu:=rf.out;unfold QB at wu;clear mC mB nz;go_wp2_with fail
    all_goals first
     | (refine (sS 1 2 aq rfl rfl).mono ?_;rintro o lh ⟨rfl,hb⟩;have jO:=aq;clear aq)
     | (refine (wo.out _ aq).mono ?_;rintro o wm ⟨rfl,aO⟩;clear aq;go_wp2_with fail;refine (sS 1 2 aO rfl rfl).mono ?_;rintro o lh ⟨rfl,hb⟩;have jO:=aO;clear aO)
    all_goals
     replace jO:=jO.over hb;clear hb
     go_upto_region 15 with fail
     have lj:=(jO.box lh.heap.size rfl [zI S'.qc.l,zI S'.qc.s,zI S'.qc.w,zI S'.qc.f,zI S'.qc.a] 36);clear jO;generalize lh.alloc _=wv at *;generalize lh.heap.size=Y2 at *;have r0:=lj.rule 0 rfl;have rY:∀ j,wv.cell? ⟨Y,j,none⟩=[zI S.qc.l,zI S.qc.s,zI S.qc.w,zI S.qc.f,zI S.qc.a][j]?:=ao.rule ((lj.2.2 (ae Y [zI S.qc.l,zI S.qc.s,zI S.qc.w,zI S.qc.f,zI S.qc.a]) (by simp[EL])).1);have rh:=(lj.sub (.cons _ (List.Sublist.refl _))).dropE;have wx:=zH rh;clear lj rh;generalize S'.qc.l=a1 at *;generalize S'.qc.s=a2 at *;generalize S'.qc.w=a3 at *;generalize S'.qc.a=a4 at *;generalize S.qc.l=n1 at *;generalize S.qc.s=n2 at *;generalize S.qc.w=n3 at *;generalize S.qc.a=n4 at *;have ij:wrap64 (a1+a2)=a1+a2:=df _ (by omega);have gd:wrap64 (a1+a2+a3)=a1+a2+a3:=df _ (by omega);have tD:wrap64 (a1+a2+a3+a4)=a1+a2+a3+a4:=df _ (by omega);have GU:wrap64 (a1+a2+a3+a4 - n1)=a1+a2+a3+a4 - n1:=df _ (by omega);have GV:wrap64 (a1+a2+a3+a4 - n1 - n2)=a1+a2+a3+a4 - n1 - n2:=df _ (by omega);have GX:wrap64 (a1+a2+a3+a4 - n1 - n2 - n3)=a1+a2+a3+a4 - n1 - n2 - n3:=df _ (by omega);have kD:wrap64 (a1+a2+a3+a4 - n1 - n2 - n3 - n4)=1:=by rw[df _ (by omega)];omega
     have Be:a1+a2+a3+a4 - n1 - n2 - n3 - n4=1:=by omega
     clear qi;go_wp2_with fail;exact⟨⟨j+1,S',by omega,by first | (simp;done) | (simp;omega),nA.out,rf.out,wx.out⟩,by first | (simp[intOf];done) | (simp[intOf];omega)⟩
   ·have jr:decide (q.K.pc≠0)=false:=by simp[ax]
    have Bn:decide (((q.X.dn:Nat):Int)<=(q.K.T.nd:Int))=true:=by rw[hQ.dn];exact decide_eq_true (by omega)
    have dm:((q.X.dn:Nat):Int)<=(q.K.T.nd:Int):=by rw[hQ.dn];omega
    have hid:kZ (rs.getD t default).ds q.K=true:=by unfold kZ;rw[decide_eq_true ax,decide_eq_false ef];rfl
    have nw:Hid (∀ v,Env W (EL ⟨3,k2,k3,k4,k5⟩ (.slice (some ⟨g,0,none⟩) rs.length cp) p cc m S [ae Y [zI S.qc.l,zI S.qc.s,zI S.qc.w,zI S.qc.f,zI S.qc.a]]) v->v.cell? ⟨q.X.thr,4,none⟩=some (.bool false)/\v.cell? ⟨q.X.thr,3,none⟩=some (zI (q.K.T.nd:Int))/\v.cell? ⟨q.X.thr,2,none⟩=some (.slice q.X.dA q.X.dn q.X.dc)):=zH fun v hv=>by
     have h9:=hv.thrE hq;exact⟨by rw[h9 4,<- jr];rfl,h9 3,h9 2⟩
    have wj:=zH hid;clear jr ax hQ hid;refine cG (S:=(Env W (EL ⟨3,k2,k3,k4,k5⟩ (.slice (some ⟨g,0,none⟩) rs.length cp) p cc m S [ae Y [zI S.qc.l,zI S.qc.s,zI S.qc.w,zI S.qc.f,zI S.qc.a]]))) (by kernel_rfl) (by kernel_rfl) az.drew (fun hT=>?_);have af:=zH hT;clear hT
    repeat ((first
     | (refine cH (v:=?_) af.o (by rfl) ?_ ?_;rotate_left;(intro w5 hS;obtain⟨r4,r3,r2⟩:=nw.out _ hS;go_simp<;>rfl))
     | (refine cI af.o (by rfl) ?_)
     | (refine cJ (v:=?_) (f:=?_) (args:=?_) af.o (by rfl) ?_ ?_ ?_;rotate_left 3;(intro w5 hS;obtain⟨r4,r3,r2⟩:=nw.out _ hS;go_simp;constructor<;>rfl);(intro w5 hS;(first | fail))));try simp only[Act.put,zA,zZ,zS])
    refine InText.nil fun w5 aK=>?_;clear af;clear az nw;go_wp2_with fail;refine (Ca HG.out vX.out Cw.out pB.out rfl (HR.out _ t jN) eW.out (by omega) jN hq aK).mono ?_;rintro o w9 ⟨rfl,S',q',bY,nz,dh⟩;have ei:S.ps.length=rs.length:=eW.out.len;have mB:S'.ps[t]?=some q':=by rw[bY.ps];simp[ei,jN]
    have hid:=wj.out;have Cy:=bY.qc.2 hid;have rf:Hid (QB (2+(j+1)) S'.qc):=zH (by rw[Cy];have:=ik.out;unfold QB at this ⊢;omega);have qi:S'.qc.l+S'.qc.s+S'.qc.w+S'.qc.a=S.qc.l+S.qc.s+S.qc.w+S.qc.a:=by rw[Cy]
    clear Cy;have nA:Hid (qW ⟨3,k2,k3,k4,k5⟩ rs (40+(j+1)) S'):=zH nz;have wk:=bY.thr;clear aK bY hid;go_wp2_with fail;rw[<- wk];refine (Cb nz (by omega) jN mB dh).mono ?_;rintro o tC ⟨rfl,aq⟩;clear dh;have mC:∀ v,Env W (EL ⟨3,k2,k3,k4,k5⟩ (.slice (some ⟨g,0,none⟩) rs.length cp) p cc m S' [ae Y [zI S.qc.l,zI S.qc.s,zI S.qc.w,zI S.qc.f,zI S.qc.a]]) v->Calls prog 10 #[zP p,zP m] v fun o w'=>o=.returned (.bool true)/\Env W (EL ⟨3,k2,k3,k4,k5⟩ (.slice (some ⟨g,0,none⟩) rs.length cp) p cc m S' [ae Y [zI S.qc.l,zI S.qc.s,zI S.qc.w,zI S.qc.f,zI S.qc.a]]) w':=fun v hv=>by
     refine (Cp (R:=gx (.slice (some ⟨g,0,none⟩) rs.length cp) (S'.ps.map fun q=>q.X.thr)::(S'.ps.flatMap (Pk.its ⟨3,k2,k3,k4,k5⟩)++[ae Y [zI S.qc.l,zI S.qc.s,zI S.qc.w,zI S.qc.f,zI S.qc.a]])) (by have:=nA.out.ml;omega) (by have:=nA.out.n;omega) (hv.perm (List.perm_append_comm_assoc [_] [_,_,_] _))).mono ?_;rintro o wm ⟨rfl,aO⟩;exact⟨rfl,aO.perm (List.perm_append_comm_assoc [_,_,_] [_] _)⟩
    have wo:=zH mC;have oH:=ik.out;unfold QB at oH;have wu:=rf.out;unfold QB at wu;clear mC mB nz;go_wp2_with fail
    all_goals first
     | (refine (sS 1 2 aq rfl rfl).mono ?_;rintro o lh ⟨rfl,hb⟩;have jO:=aq;clear aq)
     | (refine (wo.out _ aq).mono ?_;rintro o wm ⟨rfl,aO⟩;clear aq;go_wp2_with fail;refine (sS 1 2 aO rfl rfl).mono ?_;rintro o lh ⟨rfl,hb⟩;have jO:=aO;clear aO)
    all_goals
     replace jO:=jO.over hb;clear hb
     go_upto_region 15 with fail
     have lj:=(jO.box lh.heap.size rfl [zI S'.qc.l,zI S'.qc.s,zI S'.qc.w,zI S'.qc.f,zI S'.qc.a] 36);clear jO;generalize lh.alloc _=wv at *;generalize lh.heap.size=Y2 at *;have r0:=lj.rule 0 rfl;have rY:∀ j,wv.cell? ⟨Y,j,none⟩=[zI S.qc.l,zI S.qc.s,zI S.qc.w,zI S.qc.f,zI S.qc.a][j]?:=ao.rule ((lj.2.2 (ae Y [zI S.qc.l,zI S.qc.s,zI S.qc.w,zI S.qc.f,zI S.qc.a]) (by simp[EL])).1);have rh:=(lj.sub (.cons _ (List.Sublist.refl _))).dropE;have wx:=zH rh;clear lj rh;generalize S'.qc.l=a1 at *;generalize S'.qc.s=a2 at *;generalize S'.qc.w=a3 at *;generalize S'.qc.a=a4 at *;generalize S.qc.l=n1 at *;generalize S.qc.s=n2 at *;generalize S.qc.w=n3 at *;generalize S.qc.a=n4 at *;have ij:wrap64 (a1+a2)=a1+a2:=df _ (by omega);have gd:wrap64 (a1+a2+a3)=a1+a2+a3:=df _ (by omega);have tD:wrap64 (a1+a2+a3+a4)=a1+a2+a3+a4:=df _ (by omega);have GU:wrap64 (a1+a2+a3+a4 - n1)=a1+a2+a3+a4 - n1:=df _ (by omega);have GV:wrap64 (a1+a2+a3+a4 - n1 - n2)=a1+a2+a3+a4 - n1 - n2:=df _ (by omega);have GX:wrap64 (a1+a2+a3+a4 - n1 - n2 - n3)=a1+a2+a3+a4 - n1 - n2 - n3:=df _ (by omega);have kD:wrap64 (a1+a2+a3+a4 - n1 - n2 - n3 - n4)=0:=by rw[df _ (by omega)];omega
     have Be:a1+a2+a3+a4 - n1 - n2 - n3 - n4=0:=by omega
     clear qi;go_wp2_with fail;exact⟨⟨j+1,S',by omega,by first | (simp;done) | (simp;omega),nA.out,rf.out,wx.out⟩,by first | (simp[intOf];done) | (simp[intOf];omega)⟩
  ·have cV:decide ((j:Int) < (zs.length:Int))=false:=by simp;omega
   go_wp2_with fail;go_ret;exact⟨rfl,hE.below⟩
end
end Go.Proofs.YtleklonmmlfijaaGreatDoor.skipExact
