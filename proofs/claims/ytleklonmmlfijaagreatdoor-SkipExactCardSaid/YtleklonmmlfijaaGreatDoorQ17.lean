/- What is proved on the way to the statement, part 17: contracts of the functions, among other things in memory. -/
import Derived.Test.YtleklonmmlfijaaGreatDoorQ16
import Derived.OwnWalk
import Derived.LoopIn
import Derived.Great.BuildSlice
import Derived.Great.Walk

open _root_.Go.Proofs.Tryz
set_option maxRecDepth 100000
set_option maxHeartbeats 25600000
namespace Go.Proofs.YtleklonmmlfijaaGreatDoor
section
open Go.RowKit Go.Maps
section
variable {w0 w:World} {R:List Item} {C:Cf} {X:Tm} {V:Wm} {K:Kt} {d:Dd} {G FU:Nat->Prop} {qc:bN} {ml:List bT} {n q:Nat} {st:Int} {po pq pg ph:Value} {ds:List Dd}
theorem Qe (hr:yg C d K ml X.N) (ax:K.pc=1) (dC:K.ft=0) (eT:K.on=false) (cY:K.an=false) (hE:Env w0 (ae q (ay d.ok d.key d.val d.lv 0 none none none 0 0 0 false 0 false)::LU (aW C X V K FU ml) R) w) :
  Calls prog 27 #[zP q,zP X.u,zP V.m] w fun e w'=>∃ s,e=.returned (zI s)/\bX w0 R C X V d q ml (aJ C d K (ak ml)) s w':=by
 obtain⟨ds,B,nn,h,hB,yf⟩:=hr.ex;exact Qa hr.c hr.h16 hr.ch hr.ok hr.lv hr.f h hB ax dC eT cY (by omega) hr.mlr hr.Nr hE
theorem Qf (hg:bE w0) (h:ye C d K (ak ml) n) (hr:yg C d K ml X.N) (ax:K.pc=1) (dC:K.ft=0) (eT:K.on=false) (cY:K.an=false) {nd:Nat} (uA:lM w0 R X.dA ds) (dU:X.dn=ds.length) (aE:nd < ds.length) (ow:ds.length<=1000) (hdd:ds.getD nd default=d) (h8:d.ok≠8) (jx:C.k=3) (h3:jE 3 C.s C.b C.h C.l d.ok d.key d.val d.lv=0)
  (hE:Env w0 (LT (aX C X V K (ak ml) G qc n) (LU (aW C X V K FU ml) (ae X.thr (bK X.c X.u X.dA X.dn X.dc nd false po pq pg ph st)::R))) w) :
  Calls prog 8 #[zP X.thr,zP V.p,zP V.m] w fun e w'=>e=.returned (.bool true)/\∃ o q,uy w0 R C X V d o q n qc ml ((nd:Int)+1) ph (aJ C d K (ak ml)) w':=by
 obtain⟨z,hz⟩:∃ z,aJ C d K (ak ml)=z:=⟨_,rfl⟩;obtain⟨s,K',f'⟩:=z;have hp:=fun (v:World) (L ps:List Item) (o:Nat) hP hv=>BO (X:=X) (w:=v) (R:=L) (V:=V) (G:=G) (qc:=qc) (ps:=ps) (o:=o) h hg hP hv;have hq:=fun (v:World) (L:List Item) (q:Nat) hv=>Qe (X:=X) (w:=v) (w0:=w0) (R:=L) (V:=V) (FU:=FU) (q:=q) (d:=d) (C:=C) (ml:=ml) hr ax dC eT cY hv;rw[hz] at hp hq ⊢;have hm:(LT (aX C X V K (ak ml) G qc n) (LU (aW C X V K FU ml) R))[0]?=some (dy X.c 3 C.s C.b C.h C.l K.T.e K.r K.T.hs 0 X.q):=by
  show some (dy X.c C.k C.s C.b C.h C.l K.T.e K.r K.T.hs 0 X.q)=_;rw[jx]
 refine (Qd (w0:=w0) (s:=s) (p:=V.p) (m:=V.m) (thr:=X.thr) (c:=X.c) (u:=X.u) (dA:=X.dA) (dn:=X.dn) (dc:=X.dc) (nd0:=nd) (nd:=(nd:Int)+1) (st:=st) (po:=po) (pq:=pq) (pg:=pg) (ph:=ph) (L:=LT (aX C X V K (ak ml) G qc n) (LU (aW C X V K FU ml) R))
  (Q0:=fun o q L0=>∃ ps,PM C X.c d K o ps/\L0=ae q (ay d.ok d.key d.val d.lv 0 none none none 0 0 0 false 0 false)::(ps++LT (aX C X V K (ak ml) G qc n) (LU (aW C X V K FU ml) R)))
  (Q1:=fun o q L1=>∃ F' k' G' bt n' ps',Nx n qc n' bt/\(s=0->PM C X.c d K' o ps')/\(s≠0->∃ nx sp n1 l1 t1 y1 gw,ps'=[ae o (aw X.c d.ok d.key d.val d.lv nx s sp n1 l1 t1 y1 gw K'.err K'.dn)])/\L1=ae q (ay d.ok d.key d.val d.lv 0 none none none 0 0 0 false 0 false)::(ps'++LT (aX C { X with F:=F',kq:=k' } V K' f' G' bt n') (LU (aW C X V K FU ml) R)))
  (Q2:=fun o q L2=>∃ F' k' G' bt n' ps' A' c' N' ca aR fB,Nx n qc n' bt/\(s=0->PM C X.c d K' o ps')/\(s≠0->∃ nx sp n1 l1 t1 y1 gw,ps'=[ae o (aw X.c d.ok d.key d.val d.lv nx s sp n1 l1 t1 y1 gw K'.err K'.dn)])/\ak aR=f'/\aR.length<=ml.length+1/\0<=N'/\N'<=4000000/\(s=0->dY C d K' q fB)/\(s≠0->∃ pc pf pa pr n2 l2 y2 lN,fB=[ae q (ay d.ok d.key d.val d.lv pc pf pa pr n2 l2 y2 lN K'.err K'.dn)])/\L2=fB++LU (aW C { X with A:=A',rc:=c',N:=N' } V K' ca aR) (ps'++LT (aX C { X with F:=F',kq:=k' } V K' f' G' bt n') R))
  ?_ ?_ ?_ ?_ ?_).mono ?_
 ·exact hE.perm (cm fun z=>by simp only[LT,LU,List.count_append,List.count_cons];omega)
 ·intro v hv;refine (N4 (H:=C.h.toNat) h.hh.2 0 uA (fun a ha=>by simp[LT,LU,ha]) dU aE ow hdd h8 (by rw[<- h.ch];exact h3) (by rw[<- h.ch];exact hm) hv).mono ?_;rintro e v' ⟨rfl,o9,b1,b2,sb,g9,q9,hF⟩;have Qg:kW K.ft=81:=by rw[dC];rfl
  refine⟨rfl,o9,q9,_,⟨ae o9 (aw X.c d.ok d.key d.val d.lv (cvP b1 b2) 0 (zP sb) 0 0 0 0 false 0 false)::ae b1 [mvL 109 sb]::ae b2 [mvL 81 o9]::[ae sb (bq X.c d.key (mvL 124 sb) 0 g9 C.h.toNat 0),ae g9 (List.replicate C.h.toNat (.pointer none))],.inl ⟨ax,b1,b2,sb,0,0,0,0,[ae sb (bq X.c d.key (mvL 124 sb) 0 g9 C.h.toNat 0),ae g9 (List.replicate C.h.toNat (.pointer none))],by rw[Qg,cY],fun h9=>absurd dC h9,fun h9=>absurd (dC.symm.trans h9) (by decide),by rw[eT];exact .inl ⟨rfl,rfl,g9,_,0,List.length_replicate,rfl⟩⟩,rfl⟩,?_⟩;exact hF.perm (cm fun z=>by simp only[List.count_append,List.count_cons,List.count_nil];omega)
 ·rintro o9 q9 L0 v ⟨ps,hP,rfl⟩ hv;refine (hp v (ae X.thr (bK X.c X.u X.dA X.dn X.dc ((nd:Int)+1) true (zP o9) (zP q9) (.pointer none) ph 0)::ae q9 (ay d.ok d.key d.val d.lv 0 none none none 0 0 0 false 0 false)::LU (aW C X V K FU ml) R) ps o9 hP (hv.perm (cm fun z=>by simp only[LT,LU,List.count_append,List.count_cons];omega))).mono ?_;rintro e v' ⟨s',he,nr,F',k',G',bt,n',ps',h1,h2,h3,h4⟩;dsimp only at nr h2 h3 h4;subst nr;refine⟨he,ae q9 (ay d.ok d.key d.val d.lv 0 none none none 0 0 0 false 0 false)::(ps'++LT (aX C { X with F:=F',kq:=k' } V K' f' G' bt n') (LU (aW C X V K FU ml) R)),⟨F',k',G',bt,n',ps',h1,h2,h3,rfl⟩,?_⟩;exact h4.perm (cm fun z=>by simp only[LT,LU,List.count_append,List.count_cons];omega)
 ·rintro o9 q9 L1 v ⟨F',k',G',bt,n',ps',h1,h2,h3,rfl⟩ hv;refine (hq v (ae X.thr (bK X.c X.u X.dA X.dn X.dc ((nd:Int)+1) true (zP o9) (zP q9) (.pointer none) ph s)::(ps'++LT (aX C { X with F:=F',kq:=k' } V K' f' G' bt n') R)) q9 (hv.perm (cm fun z=>by simp only[LT,LU,List.count_append,List.count_cons];omega))).mono ?_;rintro e v' ⟨s',he,nr,A',c',N',ca,aR,fB,g1,g2,g3,g4,g5,g6,g7⟩;dsimp only at nr g1 g5 g6 g7;subst nr;refine⟨he,fB++LU (aW C { X with A:=A',rc:=c',N:=N' } V K' ca aR) (ps'++LT (aX C { X with F:=F',kq:=k' } V K' f' G' bt n') R),⟨F',k',G',bt,n',ps',A',c',N',ca,aR,fB,h1,h2,h3,g1,g2,g3,g4,g5,g6,rfl⟩,?_⟩;exact g7.perm (cm fun z=>by simp only[LT,LU,List.count_append,List.count_cons];omega)
 ·rintro o9 q9 L2 ⟨F',k',G',bt,n',ps',A',c',N',ca,aR,fB,h1,h2,h3,g1,g2,g3,g4,g5,g6,rfl⟩ hs;obtain⟨nx,sp,n1,l1,t1,y1,gw,rfl⟩:=h3 hs;obtain⟨pc,pf,pa,pr,n2,l2,y2,lN,rfl⟩:=g6 hs;exact⟨4,0,_,_,_,_,nx,s,sp,n1,l1,t1,y1,gw,pc,pf,pa,pr,n2,l2,y2,lN,_,_,rfl,rfl⟩
 ·rintro e w' ⟨rfl,o,q,L2,⟨F',k',G',bt,n',ps',A',c',N',ca,aR,fB,h1,h2,h3,g1,g2,g3,g4,g5,g6,rfl⟩,hF⟩;refine⟨rfl,o,q,{ X with F:=F',kq:=k',A:=A',rc:=c',N:=N' },G',ca,bt,n',aR,if s=0 then ps'++fB else ps',⟨rfl,rfl,rfl,rfl,rfl,rfl,rfl⟩,g1,g2,h1,g3,g4,fun h0=>⟨ps',fB,by show (if s=0 then _ else _)=_;rw[if_pos h0],h2 h0,g5 h0⟩,fun h0=>by obtain⟨nx,sp,n1,l1,t1,y1,gw,h9⟩:=h3 h0;exact⟨nx,sp,n1,l1,t1,y1,gw,(if_neg h0).trans h9⟩,?_⟩;have eE:=hF.perm (show List.Perm _ (ps'++fB++(LT (aX C { X with F:=F',kq:=k',A:=A',rc:=c',N:=N' } V K' (ak aR) G' bt n') (LU (aW C { X with F:=F',kq:=k',A:=A',rc:=c',N:=N' } V K' ca aR) (ae X.thr (bK X.c X.u X.dA X.dn X.dc ((nd:Int)+1) (decide (s=0)) (zP o) (zP q) (.pointer none) ph s)::R)))) from cm fun z=>by
   rw[g1];simp only[LT,LU,aX,aW,SP,SR,List.count_append,List.count_cons];omega)
  by_cases h0:s=0
  ·rw[if_pos h0];exact eE.perm (cm fun z=>by simp only[LT,LU,List.count_append,List.count_cons];omega)
  ·rw[if_neg h0];have uz:=eE.perm (show List.Perm _ (fB++(LT (aX C { X with F:=F',kq:=k',A:=A',rc:=c',N:=N' } V K' (ak aR) G' bt n') (LU (aW C { X with F:=F',kq:=k',A:=A',rc:=c',N:=N' } V K' ca aR) (ae X.thr (bK X.c X.u X.dA X.dn X.dc ((nd:Int)+1) (decide (s=0)) (zP o) (zP q) (.pointer none) ph s)::(ps'++R))))) from cm fun z=>by
    simp only[LT,LU,List.count_append,List.count_cons];omega)
   exact uz.sub (List.sublist_append_right _ _)
end
section
variable {w0 w:World} {L:List Item} {thr c u p m o9 q9 dn dc:Nat} {nd:Int} {dA:Option Addr} {st s:Int} {po pq:Value} {Q1 Q2:List Item->Prop}
theorem Qh (hE:Env w0 (ae thr (bK c u dA dn dc nd true po pq (zP o9) (zP q9) st)::L) w)
  (hO:∀ v,Env w0 (ae thr (bK c u dA dn dc nd true po pq (zP o9) (zP q9) 0)::L) v->Calls prog 25 #[zP o9,.iface 28 (zP p)] v fun e v'=>e=.returned (zI s)/\∃ L1,Q1 L1/\Env w0 (ae thr (bK c u dA dn dc nd true po pq (zP o9) (zP q9) 0)::L1) v')
  (hQ:∀ L1 v,Q1 L1->Env w0 (ae thr (bK c u dA dn dc nd true po pq (zP o9) (zP q9) s)::L1) v->Calls prog 26 #[zP q9,zP u,zP m] v fun e v'=>e=.returned (zI s)/\∃ L2,Q2 L2/\Env w0 (ae thr (bK c u dA dn dc nd true po pq (zP o9) (zP q9) s)::L2) v') :
  Calls prog 8 #[zP thr,zP p,zP m] w fun o w'=>o=.returned (.bool true)/\∃ L2,Q2 L2/\Env w0 (ae thr (bK c u dA dn dc nd (decide (s=0)) po pq (zP o9) (zP q9) s)::L2) w':=by
 have HO:=zH hO;have HQ:=zH hQ;clear hO hQ;unfold bK at *;have r0:=hE.rule 0 rfl;have f9:=hE.thaw 0 rfl 9 (by simp);have ag:=hE.put 0 rfl (j:=9) (by simp) (zI 0);have r1:=ag.rule 0 rfl;clear hE;refine ub fun PP fz=>?_;go_enter func8,ntmps8;go_wp2_with fail;refine (HO.out _ ag).mono ?_;rintro e v ⟨rfl,L1,fT,az⟩;clear r0 f9 r1 ag;have r0:=az.rule 0 rfl;have f9:=az.thaw 0 rfl 9 (by simp);have bM:=az.put 0 rfl (j:=9) (by simp) (zI s);have nh:=zH fT;clear az fT
 go_upto_region 7 with fail
 clear r0 f9;generalize World.setCell _ _ _=v1 at *;replace bM:Env w0 (ae thr [zP c,zP u,.slice dA dn dc,zI nd,.bool true,po,pq,zP o9,zP q9,zI s]::L1) v1:=bM;refine Ord.wc [9] (fun v=>ao 0 v thr [zP c,zP u,.slice dA dn dc,zI nd,.bool true,po,pq,zP o9,zP q9,zI s]) (fun k v=>if k=0 then Env w0 (ae thr [zP c,zP u,.slice dA dn dc,zI nd,.bool true,po,pq,zP o9,zP q9,zI s]::L1) v else ∃ L2,Q2 L2/\Env w0 (ae thr [zP c,zP u,.slice dA dn dc,zI nd,.bool true,po,pq,zP o9,zP q9,zI s]::L2) v) (bM.drew.get 0 rfl) (by rw[if_pos rfl];exact bM.drew) fun af=>?_
 repeat ((first
  | (refine Ord.cv ?_ af.o ?_ ?_;rotate_left;(intro w5 hS;have r:=ao.rule hS;go_simp<;>rfl))
  | (refine Ord.co af.o ?_));try simp only[Act.put,zA,zZ,zS])
 refine Ord.ch_turn (v:=zI s) 0 af.o rfl (by decide) (Or.inl rfl) (by rfl) ?_ ?_
 ·rintro w5 aN au;rw[if_pos rfl] at au;go_simp;simp only[Ord.LandsIn];refine (HQ.out L1 w5 nh.out au).mono ?_;rintro e w6 ⟨rfl,L2,h2,h5⟩;exact⟨rfl,h5.get 0 rfl,L2,h2,h5⟩
 try simp only[Act.put,zA,zZ,zS]
 repeat ((first
  | (refine Ord.cv ?_ af.o ?_ ?_;rotate_left;(intro w5 hS;skip;go_simp<;>rfl))
  | (refine Ord.co af.o ?_));try simp only[Act.put,zA,zZ,zS])
 refine Ord.InText.nil fun w5 hS=>?_;clear af;obtain⟨aL,ai⟩:=Ord.chain_end hS;clear hS;rw[if_neg (by decide)] at ai;obtain⟨L2,gB,bD⟩:=ai;clear aL bM;have ku:=zH gB;clear gB HO HQ nh;have r0:=bD.rule 0 rfl;have b9:(s != s)=false:=by simp
 by_cases hs:s=0
 ·subst hs;have HE:=zH bD;clear bD;go_wp2_with fail
  (try go_ret)
  exact fz.out _ _ ⟨rfl,L2,ku.out,HE.out⟩
 ·have b8:(s==0)=false:=by simpa using hs
  have hd:decide (s=0)=false:=by simpa using hs
  rw[hd] at fz;have f4:=bD.thaw 0 rfl 4 (by simp);have aB:=bD.put 0 rfl (j:=4) (by simp) (.bool false);clear bD hs hd
  go_upto_region 15 with fail
  clear r0 f4;generalize World.setCell _ _ _=v2 at *;replace aB:Env w0 (ae thr [zP c,zP u,.slice dA dn dc,zI nd,.bool false,po,pq,zP o9,zP q9,zI s]::L2) v2:=aB;refine cG (S:=(Env w0 (ae thr [zP c,zP u,.slice dA dn dc,zI nd,.bool false,po,pq,zP o9,zP q9,zI s]::L2))) (by kernel_rfl) (by kernel_rfl) aB.drew (fun hT=>?_);have af:=zH hT;clear hT
  repeat ((first
   | (refine cH (v:=?_) af.o (by rfl) ?_ ?_;rotate_left;(intro w5 hS;have r:=hS.rule 0 rfl;go_simp<;>rfl))
   | (refine cI af.o (by rfl) ?_)
   | (refine cJ (v:=?_) (f:=?_) (args:=?_) af.o (by rfl) ?_ ?_ ?_;rotate_left 3;(intro w5 hS;have r:=hS.rule 0 rfl;go_simp;constructor<;>rfl);(intro w5 hS;(first | fail))));try simp only[Act.put,zA,zZ,zS])
  refine InText.nil fun w5 aK=>?_;clear af;clear aB;go_wp2_with fail
  (try go_ret)
  exact fz.out _ _ ⟨rfl,L2,ku.out,aK⟩
end
section
variable {w0 w:World} {L:List Item} {thr c u p m dn dc:Nat} {nd:Int} {dA:Option Addr} {st s:Int} {po pq:Value}
theorem Qi {nd0:Int} {p0 q0 g0 h0:Value} {Q0 Q1 Q2:Nat->Nat->List Item->Prop} (hE:Env w0 (ae thr (bK c u dA dn dc nd0 false p0 q0 g0 h0 st)::L) w)
  (hB:∀ v,Env w0 (ae thr (bK c u dA dn dc nd0 false p0 q0 g0 h0 0)::L) v->Calls prog 24 #[zP thr] v fun e v'=>e=.returned (.bool true)/\∃ o9 q9 L0,Q0 o9 q9 L0/\Env w0 (ae thr (bK c u dA dn dc nd true po pq (zP o9) (zP q9) 0)::L0) v')
  (hO:∀ o9 q9 L0 v,Q0 o9 q9 L0->Env w0 (ae thr (bK c u dA dn dc nd true po pq (zP o9) (zP q9) 0)::L0) v->Calls prog 25 #[zP o9,.iface 28 (zP p)] v fun e v'=>e=.returned (zI s)/\∃ L1,Q1 o9 q9 L1/\Env w0 (ae thr (bK c u dA dn dc nd true po pq (zP o9) (zP q9) 0)::L1) v')
  (hQ:∀ o9 q9 L1 v,Q1 o9 q9 L1->Env w0 (ae thr (bK c u dA dn dc nd true po pq (zP o9) (zP q9) s)::L1) v->Calls prog 26 #[zP q9,zP u,zP m] v fun e v'=>e=.returned (zI s)/\∃ L2,Q2 o9 q9 L2/\Env w0 (ae thr (bK c u dA dn dc nd true po pq (zP o9) (zP q9) s)::L2) v') :
  Calls prog 8 #[zP thr,zP p,zP m] w fun o w'=>o=.returned (.bool true)/\∃ o9 q9 L2,Q2 o9 q9 L2/\Env w0 (ae thr (bK c u dA dn dc nd (decide (s=0)) po pq (zP o9) (zP q9) s)::L2) w':=by
 have HB:=zH hB;have HO:=zH hO;have HQ:=zH hQ;clear hB hO hQ;unfold bK at *;have r0:=hE.rule 0 rfl;have f9:=hE.thaw 0 rfl 9 (by simp);have ag:=hE.put 0 rfl (j:=9) (by simp) (zI 0);have r1:=ag.rule 0 rfl;clear hE;refine ub fun PP fz=>?_;go_enter func8,ntmps8;go_wp2_with fail;refine (HB.out _ ag).mono ?_;rintro e v0 ⟨rfl,o9,q9,L0,iP,aO⟩;clear r0 f9 r1 ag HB;have r0:=aO.rule 0 rfl;have vR:=zH (HO.out o9 q9 L0 _ iP aO);clear aO HO iP;go_wp2_with fail;refine vR.out.mono ?_;rintro e v ⟨rfl,L1,fT,az⟩;clear r0 vR;have r0:=az.rule 0 rfl;have f9:=az.thaw 0 rfl 9 (by simp);have bM:=az.put 0 rfl (j:=9) (by simp) (zI s);have nh:=zH fT;clear az fT
 go_upto_region 7 with fail
 clear r0 f9;generalize World.setCell _ _ _=v1 at *;replace bM:Env w0 (ae thr [zP c,zP u,.slice dA dn dc,zI nd,.bool true,po,pq,zP o9,zP q9,zI s]::L1) v1:=bM;refine Ord.wc [9] (fun v=>ao 0 v thr [zP c,zP u,.slice dA dn dc,zI nd,.bool true,po,pq,zP o9,zP q9,zI s]) (fun k v=>if k=0 then Env w0 (ae thr [zP c,zP u,.slice dA dn dc,zI nd,.bool true,po,pq,zP o9,zP q9,zI s]::L1) v else ∃ L2,Q2 o9 q9 L2/\Env w0 (ae thr [zP c,zP u,.slice dA dn dc,zI nd,.bool true,po,pq,zP o9,zP q9,zI s]::L2) v) (bM.drew.get 0 rfl) (by rw[if_pos rfl];exact bM.drew) fun af=>?_
 repeat ((first
  | (refine Ord.cv ?_ af.o ?_ ?_;rotate_left;(intro w5 hS;have r:=ao.rule hS;go_simp<;>rfl))
  | (refine Ord.co af.o ?_));try simp only[Act.put,zA,zZ,zS])
 refine Ord.ch_turn (v:=zI s) 0 af.o rfl (by decide) (Or.inl rfl) (by rfl) ?_ ?_
 ·rintro w5 aN au;rw[if_pos rfl] at au;go_simp;simp only[Ord.LandsIn];refine (HQ.out o9 q9 L1 w5 nh.out au).mono ?_;rintro e w6 ⟨rfl,L2,h2,h5⟩;exact⟨rfl,h5.get 0 rfl,L2,h2,h5⟩
 try simp only[Act.put,zA,zZ,zS]
 repeat ((first
  | (refine Ord.cv ?_ af.o ?_ ?_;rotate_left;(intro w5 hS;skip;go_simp<;>rfl))
  | (refine Ord.co af.o ?_));try simp only[Act.put,zA,zZ,zS])
 refine Ord.InText.nil fun w5 hS=>?_;clear af;obtain⟨aL,ai⟩:=Ord.chain_end hS;clear hS;rw[if_neg (by decide)] at ai;obtain⟨L2,gB,bD⟩:=ai;clear aL bM;have ku:=zH gB;clear gB HQ nh;have r0:=bD.rule 0 rfl;have b9:(s != s)=false:=by simp
 by_cases hs:s=0
 ·subst hs;have HE:=zH bD;clear bD;go_wp2_with fail
  (try go_ret)
  exact fz.out _ _ ⟨rfl,o9,q9,L2,ku.out,HE.out⟩
 ·have b8:(s==0)=false:=by simpa using hs
  have hd:decide (s=0)=false:=by simpa using hs
  rw[hd] at fz;have f4:=bD.thaw 0 rfl 4 (by simp);have aB:=bD.put 0 rfl (j:=4) (by simp) (.bool false);clear bD hs hd
  go_upto_region 15 with fail
  clear r0 f4;generalize World.setCell _ _ _=v2 at *;replace aB:Env w0 (ae thr [zP c,zP u,.slice dA dn dc,zI nd,.bool false,po,pq,zP o9,zP q9,zI s]::L2) v2:=aB;refine cG (S:=(Env w0 (ae thr [zP c,zP u,.slice dA dn dc,zI nd,.bool false,po,pq,zP o9,zP q9,zI s]::L2))) (by kernel_rfl) (by kernel_rfl) aB.drew (fun hT=>?_);have af:=zH hT;clear hT
  repeat ((first
   | (refine cH (v:=?_) af.o (by rfl) ?_ ?_;rotate_left;(intro w5 hS;have r:=hS.rule 0 rfl;go_simp<;>rfl))
   | (refine cI af.o (by rfl) ?_)
   | (refine cJ (v:=?_) (f:=?_) (args:=?_) af.o (by rfl) ?_ ?_ ?_;rotate_left 3;(intro w5 hS;have r:=hS.rule 0 rfl;go_simp;constructor<;>rfl);(intro w5 hS;(first | fail))));try simp only[Act.put,zA,zZ,zS])
  refine InText.nil fun w5 aK=>?_;clear af;clear aB;go_wp2_with fail
  (try go_ret)
  exact fz.out _ _ ⟨rfl,o9,q9,L2,ku.out,aK⟩
theorem Qj {pg ph:Value} (hE:Env w0 (ae thr (bK c u dA dn dc nd false po pq pg ph st)::L) w)
  (hB:∀ v,Env w0 (ae thr (bK c u dA dn dc nd false po pq pg ph 0)::L) v->Calls prog 24 #[zP thr] v fun e v'=>e=.returned (.bool false)/\Env w0 (ae thr (bK c u dA dn dc nd false po pq pg ph 0)::L) v') :
  Calls prog 8 #[zP thr,zP p,zP m] w fun o w'=>o=.returned (.bool true)/\Env w0 (ae thr (bK c u dA dn dc nd false po pq pg ph 0)::L) w':=by
 have HB:=zH hB;clear hB;unfold bK at *;have r0:=hE.rule 0 rfl;have f9:=hE.thaw 0 rfl 9 (by simp);have ag:=hE.put 0 rfl (j:=9) (by simp) (zI 0);have r1:=ag.rule 0 rfl;clear hE;go_enter func8,ntmps8;go_wp2_with fail;refine (HB.out _ ag).mono ?_;rintro e v0 ⟨rfl,aO⟩;clear r0 f9 r1 ag HB;go_wp2_with fail
 (try go_ret)
 exact⟨rfl,aO⟩
end
section
variable {w0 w:World} {R:List Item} {C:Cf} {X:Tm} {V:Wm} {K:Kt} {d:Dd} {G FU:Nat->Prop} {qc:bN} {ml:List bT} {n a b:Nat} {nd st:Int} {po pq pg ph:Value} {ds:List Dd}
structure uB (C:Cf) (T:Th) (ml:List bT) (n:Nat) (N:Int):Prop where
 (hn:n < maxLen)
 (gh:aD T.gh)
 (gpc:T.gpc<=3)
 (q:2<=T.gpc->∃ x y t,T.ql=(x,y,0)::t/\0<=x/\x<=8388607)
 (len:T.ql.length+1<=1000000)
 (fu:∀ x,aD (ak ml x))
 (v:T.gpc=3->dr T.gh < 1099511627775)
 (mlr:ml.length<=999999)
 (Nr:0<=N/\N<=4000000)
def vS (w0:World) (R:List Item) (C:Cf) (X:Tm) (V:Wm) (a b n:Nat) (qc:bN) (ml:List bT) (nd:Int) (po pq:Value) (K:Kt) (r:Int × Th × Mem) (w':World):Prop :=
 ∃ (X':Tm) (G' ca:Nat->Prop) (bt:bN) (n':Nat) (aR:List bT) (jj:List Item),Same X X'/\ak aR=r.2.2/\aR.length<=ml.length+1/\Nx n qc n' bt/\0<=X'.N/\X'.N<=4000000/\(r.1=0->jj=[ae a (bR X.c (iq a r.2.1.gpc) r.2.1.gh r.2.1.gg),ae b (cL (r.2.1.gpc:Int) r.2.1.gh r.2.1.gg)])/\(r.1≠0->jj=[])/\Env w0 (LT (aX C X' V { K with T:=r.2.1 } (ak aR) G' bt n') (LU (aW C X' V { K with T:=r.2.1 } ca aR) (ae X.thr (bK X.c X.u X.dA X.dn X.dc nd (decide (r.1=0)) po pq (zP a) (zP b) r.1)::(jj++R)))) w'
def yh (R:List Item) (C:Cf) (X:Tm) (V:Wm) (K:Kt) (FU:Nat->Prop) (ml:List bT) (n:Nat) (qc:bN) (s:Int) (T':Th) (f':Mem) (a b:Nat) (L1:List Item):Prop :=
 ∃ G' bt n' nx,Nx n qc n' bt/\(s=0->nx=iq a T'.gpc)/\L1=ae b (cL (K.T.gpc:Int) K.T.gh K.T.gg)::ae a (bR X.c nx T'.gh T'.gg)::LT (aX C X V { K with T:=T' } f' G' bt n') (LU (aW C X V K FU ml) R)
def yi (R:List Item) (C:Cf) (X:Tm) (V:Wm) (K:Kt) (ml:List bT) (n:Nat) (qc:bN) (s:Int) (T':Th) (f':Mem) (a b:Nat) (L2:List Item):Prop :=
 ∃ G' bt n' nx A' ea ca aR eS,Nx n qc n' bt/\(s=0->nx=iq a T'.gpc)/\ak aR=f'/\aR.length<=ml.length+1/\(s=0->eS=(T'.gpc:Int))/\L2=ae b (cL eS T'.gh T'.gg)::ae a (bR X.c nx T'.gh T'.gg)::LT (aX C X V { K with T:=T' } f' G' bt n') (LU (aW C { X with A:=A',rc:=ea } V { K with T:=T' } ca aR) R)
theorem vO {TH:Item} {s:Int} {T':Th} {f':Mem} (hz:cK C K.T (ak ml)=(s,T',f')) (hg:bE w0) (h:uB C K.T ml n X.N)
  (hE:Env w0 (TH::ae b (cL (K.T.gpc:Int) K.T.gh K.T.gg)::ae a (bR X.c (iq a K.T.gpc) K.T.gh K.T.gg)::LT (aX C X V K (ak ml) G qc n) (LU (aW C X V K FU ml) R)) w) :
  Calls prog 25 #[zP a,.iface 28 (zP V.p)] w fun e v'=>e=.returned (zI s)/\∃ L1,yh R C X V K FU ml n qc s T' f' a b L1/\Env w0 (TH::L1) v':=by
 have hp:=N0 (C:=C) (X:={ X with cr:=K.r }) (V:=V) (T:=K.T) (f:=ak ml) (G:=G) (qc:=qc) (n:=n) (r:=a) (R:=TH::ae b (cL (K.T.gpc:Int) K.T.gh K.T.gg)::LU (aW C X V K FU ml) R) hg h.hn h.gh h.gpc (fun h2=>by obtain⟨x,y,t,h3,h4,h5⟩:=h.q h2;exact⟨x,y,t,h3,by unfold In64;omega⟩) (hE.perm (cm fun z=>by simp only[LT,LU,aX,List.count_append,List.count_cons];omega));rw[hz] at hp;refine hp.mono ?_;rintro e v' ⟨he,G',bt,n',nx,h1,h2,h3⟩;exact⟨he,_,⟨G',bt,n',nx,h1,h2,rfl⟩,h3.perm (cm fun z=>by simp only[LT,LU,aX,List.count_append,List.count_cons];omega)⟩
theorem vQ {TH:Item} {s:Int} {T':Th} {f':Mem} {L1:List Item} (hz:cK C K.T (ak ml)=(s,T',f')) (h:uB C K.T ml n X.N) (h1:yh R C X V K FU ml n qc s T' f' a b L1) (hE:Env w0 (TH::L1) w) :
  Calls prog 26 #[zP b,zP X.u,zP V.m] w fun e v'=>e=.returned (zI s)/\∃ L2,yi R C X V K ml n qc s T' f' a b L2/\Env w0 (TH::L2) v':=by
 obtain⟨G',bt,n',nx,h1,h2,rfl⟩:=h1;have hp:=N2 (C:=C) (X:={ X with ro:=K.r }) (V:=V) (T:=K.T) (FU:=FU) (ml:=ml) (b:=b) (R:=TH::ae a (bR X.c nx T'.gh T'.gg)::LT (aX C X V { K with T:=T' } f' G' bt n') R) h.len h.gh h.fu h.gpc h.q h.v h.mlr h.Nr (hE.perm (cm fun z=>by simp only[LT,LU,aW,List.count_append,List.count_cons];omega));rw[hz] at hp;refine hp.mono ?_;rintro e v' ⟨he,A',ea,ca,aR,eS,g1,g2,g3,g4⟩;exact⟨he,_,⟨G',bt,n',nx,A',ea,ca,aR,eS,h1,h2,g1,g2,g3,rfl⟩,g4.perm (cm fun z=>by simp only[LT,LU,aW,List.count_append,List.count_cons];omega)⟩
theorem FE {s:Int} {T':Th} {f':Mem} {L2:List Item} (h:uB C K.T ml n X.N) (h2:yi R C X V K ml n qc s T' f' a b L2) (hF:Env w0 (ae X.thr (bK X.c X.u X.dA X.dn X.dc nd (decide (s=0)) po pq (zP a) (zP b) s)::L2) w):vS w0 R C X V a b n qc ml nd po pq K (s,T',f') w:=by
 obtain⟨G',bt,n',nx,A',ea,ca,aR,eS,h1,h2,g1,g2,g3,rfl⟩:=h2;refine⟨{ X with A:=A',rc:=ea },G',ca,bt,n',aR,if s=0 then [ae a (bR X.c (iq a T'.gpc) T'.gh T'.gg),ae b (cL (T'.gpc:Int) T'.gh T'.gg)] else [],⟨rfl,rfl,rfl,rfl,rfl,rfl,rfl⟩,g1,g2,h1,h.Nr.1,h.Nr.2,fun h0=>by show (if s=0 then _ else _)=_;rw[if_pos h0],fun h0=>by show (if s=0 then _ else _)=_;rw[if_neg h0],?_⟩;have eE:=hF.perm (show List.Perm _ (ae a (bR X.c nx T'.gh T'.gg)::ae b (cL eS T'.gh T'.gg)::(LT (aX C { X with A:=A',rc:=ea } V { K with T:=T' } (ak aR) G' bt n') (LU (aW C { X with A:=A',rc:=ea } V { K with T:=T' } ca aR) (ae X.thr (bK X.c X.u X.dA X.dn X.dc nd (decide (s=0)) po pq (zP a) (zP b) s)::R)))) from cm fun z=>by
  rw[g1];simp only[LT,LU,aX,aW,SP,SR,List.count_append,List.count_cons];omega)
 by_cases h0:s=0
 ·rw[if_pos h0];rw[h2 h0,g3 h0] at eE;exact eE.perm (cm fun z=>by simp only[LT,LU,List.count_append,List.count_cons,List.count_nil];omega)
 ·rw[if_neg h0];exact eE.sub (.cons _ (.cons _ (List.Sublist.refl _)))
theorem Qk (hg:bE w0) (h:uB C K.T ml n X.N)
  (hE:Env w0 (LT (aX C X V K (ak ml) G qc n) (LU (aW C X V K FU ml) (ae X.thr (bK X.c X.u X.dA X.dn X.dc nd true po pq (zP a) (zP b) st)::ae a (bR X.c (iq a K.T.gpc) K.T.gh K.T.gg)::ae b (cL (K.T.gpc:Int) K.T.gh K.T.gg)::R))) w) :
  Calls prog 8 #[zP X.thr,zP V.p,zP V.m] w fun e w'=>e=.returned (.bool true)/\vS w0 R C X V a b n qc ml nd po pq K (cK C K.T (ak ml)) w':=by
 obtain⟨z,hz⟩:∃ z,cK C K.T (ak ml)=z:=⟨_,rfl⟩;obtain⟨s,T',f'⟩:=z;rw[hz];refine (Qh (w0:=w0) (s:=s) (p:=V.p) (m:=V.m) (o9:=a) (q9:=b) (thr:=X.thr) (c:=X.c) (u:=X.u) (dA:=X.dA) (dn:=X.dn) (dc:=X.dc) (nd:=nd) (st:=st) (po:=po) (pq:=pq) (L:=ae b (cL (K.T.gpc:Int) K.T.gh K.T.gg)::ae a (bR X.c (iq a K.T.gpc) K.T.gh K.T.gg)::LT (aX C X V K (ak ml) G qc n) (LU (aW C X V K FU ml) R)) (Q1:=yh R C X V K FU ml n qc s T' f' a b) (Q2:=yi R C X V K ml n qc s T' f' a b) ?_ ?_ ?_).mono ?_
 ·exact hE.perm (cm fun z=>by simp only[LT,LU,List.count_append,List.count_cons];omega)
 ·intro v hv;exact vO hz hg h hv
 ·intro L1 v h1 hv;exact vQ hz h h1 hv
 ·rintro e w' ⟨he,L2,h2,hF⟩;exact⟨he,FE h h2 hF⟩
theorem Ql (hg:bE w0) (h:uB C K.T ml n X.N) (h0:K.T.gpc=0/\K.T.gh=0/\K.T.gg=0) {nd:Nat} (uA:lM w0 R X.dA ds) (dU:X.dn=ds.length) (aE:nd < ds.length) (ow:ds.length<=1000) (hdd:ds.getD nd default=d) (h8:d.ok=8)
  (hE:Env w0 (LT (aX C X V K (ak ml) G qc n) (LU (aW C X V K FU ml) (ae X.thr (bK X.c X.u X.dA X.dn X.dc nd false po pq pg ph st)::R))) w) :
  Calls prog 8 #[zP X.thr,zP V.p,zP V.m] w fun e w'=>e=.returned (.bool true)/\∃ a b,vS w0 R C X V a b n qc ml ((nd:Int)+1) (.pointer none) pq K (cK C K.T (ak ml)) w':=by
 obtain⟨z,hz⟩:∃ z,cK C K.T (ak ml)=z:=⟨_,rfl⟩;obtain⟨s,T',f'⟩:=z;rw[hz];refine (Qi (w0:=w0) (s:=s) (p:=V.p) (m:=V.m) (thr:=X.thr) (c:=X.c) (u:=X.u) (dA:=X.dA) (dn:=X.dn) (dc:=X.dc) (nd0:=nd) (nd:=(nd:Int)+1) (st:=st) (po:=.pointer none) (pq:=pq) (p0:=po) (q0:=pq) (g0:=pg) (h0:=ph) (L:=LT (aX C X V K (ak ml) G qc n) (LU (aW C X V K FU ml) R)) (Q0:=fun a b L0=>L0=ae b (cL (K.T.gpc:Int) K.T.gh K.T.gg)::ae a (bR X.c (iq a K.T.gpc) K.T.gh K.T.gg)::LT (aX C X V K (ak ml) G qc n) (LU (aW C X V K FU ml) R)) (Q1:=fun a b=>yh R C X V K FU ml n qc s T' f' a b) (Q2:=fun a b=>yi R C X V K ml n qc s T' f' a b) ?_ ?_ ?_ ?_).mono ?_
 ·exact hE.perm (cm fun z=>by simp only[LT,LU,List.count_append,List.count_cons];omega)
 ·intro v hv;refine (N7 uA (fun a ha=>by simp[LT,LU,ha]) dU aE ow hdd h8 hv).mono ?_;rintro e v' ⟨he,x,y,hF⟩;refine⟨he,x,y,_,rfl,?_⟩;rw[h0.1,h0.2.1,h0.2.2,show ((0:Nat):Int)=0 from rfl];exact hF.perm (cm fun z=>by simp only[List.count_cons];omega)
 ·rintro a b L0 v rfl hv;exact vO hz hg h hv
 ·intro a b L1 v h1 hv;exact vQ hz h h1 hv
 ·rintro e w' ⟨he,a,b,L2,h2,hF⟩;exact⟨he,a,b,FE h h2 hF⟩
end
def yj (C:Cf) (d:Dd) (c:Nat) (K:Kt) (po pq pg ph:Value) (st:Int) (ms:List Item):Prop :=
 (K.pc=0/\(st=0->ms=[])/\(st≠0->d.ok≠8->∃ o nx sp n1 l1 t1 y1 gw,po=zP o/\ms=[ae o (aw c d.ok d.key d.val d.lv nx st sp n1 l1 t1 y1 gw K.err K.dn)])) \/
 (1<=K.pc/\K.pc≠8/\d.ok≠8/\∃ o q ps rs,po=zP o/\pq=zP q/\pg=.pointer none/\ms=ps++rs/\PM C c d K o ps/\dY C d K q rs) \/
 (K.pc=8/\d.ok=8/\∃ a b,pg=zP a/\ph=zP b/\ms=[ae a (bR c (iq a K.T.gpc) K.T.gh K.T.gg),ae b (cL (K.T.gpc:Int) K.T.gh K.T.gg)])
section
variable {w0 w:World} {R ms:List Item} {C:Cf} {X:Tm} {V:Wm} {K:Kt} {G FU:Nat->Prop} {qc:bN} {ml:List bT} {n B:Nat} {st:Int} {po pq pg ph:Value} {ds:List Dd}
def BS (w0:World) (R:List Item) (C:Cf) (X:Tm) (V:Wm) (d:Dd) (n:Nat) (qc:bN) (id:Bool) (ml:List bT) (r:Int × Kt × Mem) (w':World):Prop :=
 ∃ (X':Tm) (G' ca:Nat->Prop) (bt:bN) (n':Nat) (aR:List bT) (jj:List Item) (po pq pg ph:Value),Same X X'/\ak aR=r.2.2/\aR.length<=ml.length+1/\(n'<=n+1/\(id=false->One qc bt)/\(id=true->bt=qc))/\0<=X'.N/\X'.N<=4000000/\yj C d X.c r.2.1 po pq pg ph r.1 jj/\Env w0 (LT (aX C X' V r.2.1 (ak aR) G' bt n') (LU (aW C X' V r.2.1 ca aR) (ae X.thr (bK X.c X.u X.dA X.dn X.dc r.2.1.T.nd (decide (r.2.1.pc≠0)) po pq pg ph r.1)::(jj++R)))) w'
theorem uy.toT {d:Dd} {o q:Nat} {nd:Int} {r:Int × Kt × Mem} (h:uy w0 R C X V d o q n qc ml nd ph r w) (BU:d.ok≠8) (ax:r.1=0->1<=r.2.1.pc/\r.2.1.pc≠8) (ef:(r.2.1.T.nd:Int)=nd):BS w0 R C X V d n qc false ml (r.1,{ r.2.1 with pc:=if r.1=0 then r.2.1.pc else 0 },r.2.2) w:=by
 obtain⟨X',G',ca,bt,n',aR,jj,h1,h2,h3,h4,h5,h6,h7,h8,h9⟩:=h;obtain⟨s,K',f'⟩:=r;dsimp only at *;subst ef;have hc:=h1.2.1;refine⟨X',G',ca,bt,n',aR,jj,zP o,zP q,.pointer none,ph,h1,h2,h3,⟨h4.le,fun _=>h4.one,fun h=>absurd h (by decide)⟩,h5,h6,?_,?_⟩
 ·by_cases h0:s=0
  ·obtain⟨ps,rs,g1,g2,g3⟩:=h7 h0;rw[hc] at g2;rw[if_pos h0];exact .inr (.inl ⟨(ax h0).1,(ax h0).2,BU,o,q,ps,rs,rfl,rfl,rfl,g1,g2,g3⟩)
  ·obtain⟨nx,sp,n1,l1,t1,y1,gw,g1⟩:=h8 h0;rw[if_neg h0];exact .inl ⟨rfl,fun h=>absurd h h0,fun _ _=>⟨o,nx,sp,n1,l1,t1,y1,gw,rfl,g1⟩⟩
 ·have hb:decide ((if s=0 then K'.pc else 0)≠0)=decide (s=0):=by
   by_cases h0:s=0
   ·have:=(ax h0).1;rw[if_pos h0];simp[h0];omega
   ·rw[if_neg h0];simp[h0]
  show Env w0 (LT _ (LU _ (ae X.thr (bK X.c X.u X.dA X.dn X.dc K'.T.nd (decide ((if s=0 then K'.pc else 0)≠0)) _ _ _ _ s)::_))) w;rw[hb];exact h9
theorem vS.toT {d:Dd} {a b:Nat} {nd:Int} {r:Int × Th × Mem} (h:vS w0 R C X V a b n qc ml nd po pq K r w) (h8:K.pc=8) (hd:d.ok=8) (ef:(r.2.1.nd:Int)=nd):BS w0 R C X V d n qc false ml (if r.1=0 then (0,{ K with T:=r.2.1 },r.2.2) else (r.1,{ K with T:={ r.2.1 with pc:=0 },pc:=0 },r.2.2)) w:=by
 obtain⟨X',G',ca,bt,n',aR,jj,h1,h2,h3,h4,h5,h6,h7,h9,hE⟩:=h;obtain⟨s,T',f'⟩:=r;dsimp only at *;subst ef
 by_cases h0:s=0
 ·rw[if_pos h0];subst h0;have hb:decide (K.pc≠0)=decide ((0:Int)=0):=by rw[h8];rfl
  refine⟨X',G',ca,bt,n',aR,jj,po,pq,zP a,zP b,h1,h2,h3,⟨h4.le,fun _=>h4.one,fun h=>absurd h (by decide)⟩,h5,h6,.inr (.inr ⟨h8,hd,a,b,rfl,rfl,h7 rfl⟩),?_⟩;show Env w0 (LT _ (LU _ (ae X.thr (bK X.c X.u X.dA X.dn X.dc T'.nd (decide (K.pc≠0)) _ _ _ _ 0)::_))) w;rw[hb];exact hE
 ·rw[if_neg h0];have hb:decide (s=0)=decide ((0:Nat)≠0):=by simp[h0]
  rw[hb] at hE;exact⟨X',G',ca,bt,n',aR,jj,po,pq,zP a,zP b,h1,h2,h3,⟨h4.le,fun _=>h4.one,fun h=>absurd h (by decide)⟩,h5,h6,.inl ⟨rfl,fun h=>absurd h h0,fun _ h=>absurd hd h⟩,hE⟩
end
theorem Qm (C:Cf) (d:Dd) (K:Kt):(bQ C d K).2.T.nd=K.T.nd:=by
 unfold bQ qz eu
 repeat' split
 all_goals rfl
theorem yk (C:Cf) (d:Dd) (K:Kt) (f:Mem):(aJ C d K f).2.1.T.nd=K.T.nd:=by
 unfold aJ
 by_cases e1:K.pc=1
 ·rw[if_pos e1];dsimp only
  by_cases h:(bm C.h.toNat d.key ⟨K.on,K.fl,K.L,K.T.e,K.r⟩ f).1=1
  ·rw[if_pos h];exact Qm _ _ _
  ·rw[if_neg h]
 rw[if_neg e1]
 by_cases e2:K.pc=2
 ·rw[if_pos e2];dsimp only
  by_cases h0:(aT C d K.T f).1=0
  ·rw[if_pos h0];exact (ud C d K.T f).2.1
  rw[if_neg h0]
  by_cases h3:(aT C d K.T f).1=3
  ·rw[if_pos h3];exact (ud C d K.T f).2.1
  rw[if_neg h3]
  by_cases h4:(aT C d K.T f).1=4
  ·rw[if_pos h4];exact (ud C d K.T f).2.1
  rw[if_neg h4];exact (ud C d K.T f).2.1
 rw[if_neg e2]
 by_cases e3:K.pc=3
 ·rw[if_pos e3]
  all_goals first | rfl | (split<;>first | rfl | (split<;>first | rfl | (split<;>first | rfl | (split<;>rfl))))
 rw[if_neg e3]
 by_cases e4:K.pc=4
 ·rw[if_pos e4]
  all_goals first | rfl | (split<;>first | rfl | (split<;>first | rfl | (split<;>first | rfl | (split<;>rfl))))
 rw[if_neg e4]
 by_cases e5:K.pc=5
 ·rw[if_pos e5]
  all_goals first | rfl | (split<;>first | rfl | (split<;>first | rfl | (split<;>first | rfl | (split<;>rfl))))
 rw[if_neg e5]
 by_cases e6:K.pc=6
 ·rw[if_pos e6]
  all_goals first | rfl | (split<;>first | rfl | (split<;>first | rfl | (split<;>first | rfl | (split<;>rfl))))
 rw[if_neg e6]
 by_cases e9:K.pc=9
 ·rw[if_pos e9]
  all_goals first | rfl | (split<;>first | rfl | (split<;>first | rfl | (split<;>first | rfl | (split<;>rfl))))
 rw[if_neg e9]
 by_cases FG:K.pc=10
 ·rw[if_pos FG]
  all_goals first | rfl | (split<;>first | rfl | (split<;>first | rfl | (split<;>first | rfl | (split<;>rfl))))
 rw[if_neg FG]
 by_cases FH:K.pc=11
 ·rw[if_pos FH]
  all_goals first | rfl | (split<;>first | rfl | (split<;>first | rfl | (split<;>first | rfl | (split<;>rfl))))
 rw[if_neg FH]
 by_cases FI:K.pc=12
 ·rw[if_pos FI]
  all_goals first | rfl | (split<;>first | rfl | (split<;>first | rfl | (split<;>first | rfl | (split<;>rfl))))
 rw[if_neg FI]
 by_cases FJ:K.pc=13
 ·rw[if_pos FJ]
  all_goals first | rfl | (split<;>first | rfl | (split<;>first | rfl | (split<;>first | rfl | (split<;>rfl))))
 rw[if_neg FJ]
 by_cases FK:K.pc=14
 ·rw[if_pos FK]
  all_goals first | rfl | (split<;>first | rfl | (split<;>first | rfl | (split<;>first | rfl | (split<;>rfl))))
 rw[if_neg FK]
 by_cases FL:K.pc=15
 ·rw[if_pos FL]
  all_goals first | rfl | (split<;>first | rfl | (split<;>first | rfl | (split<;>first | rfl | (split<;>rfl))))
 rw[if_neg FL]
 by_cases FM:K.pc=16
 ·rw[if_pos FM]
  all_goals first | rfl | (split<;>first | rfl | (split<;>first | rfl | (split<;>first | rfl | (split<;>rfl))))
 rw[if_neg FM];dsimp only
 by_cases h0:(cQ K.T f).1=0
 ·rw[if_pos h0];exact (BL (T:=K.T) (f:=f)).2.1
 ·rw[if_neg h0];exact (BL (T:=K.T) (f:=f)).2.1
theorem BV {s b h l kd key val lv:Int} (h8:kd≠8) (h9:jE 3 s b h l kd key val lv=0):(kd=1\/kd=2\/kd=3)/\(kd=1->1<=lv/\lv<=h):=by
 unfold jE at h9
 by_cases hc:iN 3 s b h l=0
 ·rw[if_pos hc] at h9
  by_cases ha:uY 3 kd=true
  ·rw[if_pos ha] at h9
   by_cases hl:uZ 3 h kd lv=true
   ·refine⟨?_,fun h1=>?_⟩
    ·unfold uY at ha
     by_cases h1:kd=1\/kd=2\/kd=3
     ·exact h1
     ·rw[if_neg h1] at ha
      by_cases h2:kd=4\/kd=5\/kd=6\/kd=7
      ·rw[if_pos h2] at ha;simp at ha
      ·rw[if_neg h2] at ha;exact absurd (of_decide_eq_true ha) h8
    ·subst h1;unfold uZ kM at hl;rw[if_pos ⟨rfl,rfl⟩] at hl
     simpa using hl
   ·rw[if_neg hl] at h9;exact absurd h9 (by decide)
  ·rw[if_neg ha] at h9;exact absurd h9 (by decide)
 ·rw[if_neg hc] at h9;exact absurd h9 hc
def kZ (ds:List Dd) (K:Kt):Bool:=decide (K.pc=0) && !decide (K.T.nd < ds.length)
section
variable {w0 w:World} {R ms:List Item} {C:Cf} {X:Tm} {V:Wm} {K:Kt} {G FU:Nat->Prop} {qc:bN} {ml:List bT} {n B:Nat} {st:Int} {po pq pg ph:Value} {ds:List Dd}
theorem PM.pcs {c:Nat} {d:Dd} {o:Nat} {ps:List Item} (h:PM C c d K o ps):1<=K.pc/\K.pc≠8:=by
 rcases h with ⟨h,-⟩ | ⟨h,-⟩ | ⟨h,-⟩ | ⟨h,-⟩ | ⟨h,-⟩ | ⟨h,-⟩ | ⟨h,-⟩<;>omega
theorem uy.pcs {d:Dd} {o q:Nat} {nd:Int} {r:Int × Kt × Mem} (h:uy w0 R C X V d o q n qc ml nd ph r w) (h0:r.1=0):1<=r.2.1.pc/\r.2.1.pc≠8:=by
 obtain⟨X',G',ca,bt,n',aR,jj,h1,h2,h3,h4,h5,h6,h7,h8,h9⟩:=h;obtain⟨ps,rs,-,g2,-⟩:=h7 h0;exact g2.pcs
theorem yl (d:Dd) (f:Mem) (h8:K.pc≠8):fM C d K f=((aJ C d K f).1,{ (aJ C d K f).2.1 with pc:=if (aJ C d K f).1=0 then (aJ C d K f).2.1.pc else 0 },(aJ C d K f).2.2):=by
 unfold fM;rw[if_neg h8]
theorem ym (d:Dd) (f:Mem) (h8:K.pc=8):fM C d K f=(if (cK C K.T f).1=0 then (0,{ K with T:=(cK C K.T f).2.1 },(cK C K.T f).2.2) else ((cK C K.T f).1,{ K with T:={ (cK C K.T f).2.1 with pc:=0 },pc:=0 },(cK C K.T f).2.2)):=by
 unfold fM;rw[if_pos h8]
theorem bJ.gv {d:Dd} {N:Int} (hC:jy C) (hF:db C (ak ml)) (h:bJ C ds B d K) (h8:K.pc=8) (hB:B+1<=1000000) (hn:n < maxLen) (aQ:ml.length<=999999) (hN:0<=N/\N<=4000000):uB C K.T ml n N:=by
 have h4:K.T.pc=4:=by have:=h.tp;rw[if_neg (by omega),if_neg (by omega),if_pos h8] at this;exact this
 have hl:=hC.l;have hs:=hC.s;have hlen:=h.t.len;refine⟨hn,h.t.ghu,h.t.gpc,fun h2=>?_,by omega,hF.u,fun h3=>by have:=h.t.gv h4 (by omega);omega,aQ,hN⟩
 rcases hq:K.T.ql with _ | ⟨⟨x,y,z⟩,t⟩
 ·exact absurd hq (h.t.give h4 (by omega))
 ·have:=h.t.ql (x,y,z) (by rw[hq];simp);obtain⟨h1,h2,rfl⟩:=this;dsimp only at h1 h2;exact⟨x,y,t,rfl,by omega,by omega⟩
theorem Qn (hg:bE w0) (hC:fC C) (h16:C.h.toNat<=16) (bH:C.h=(C.h.toNat:Int)) (hF:db C (ak ml)) (hS:di C (ak ml)) (h:bJ C ds B (eU ds K) K) (hB:B+1<=1000000) (uA:lM w0 R X.dA ds) (dU:X.dn=ds.length) (ow:ds.length<=1000) (FN:∀ i,i < ds.length->aD (ds.getD i default).key/\aD (ds.getD i default).val) (jx:C.k=3) (s5:∀ i,i < ds.length->(ds.getD i default).ok=8\/jE 3 C.s C.b C.h C.l (ds.getD i default).ok (ds.getD i default).key (ds.getD i default).val (ds.getD i default).lv=0) (hn:n < maxLen) (aQ:ml.length<=999999) (hN:0<=X.N/\X.N<=4000000)
  (hM:yj C (eU ds K) X.c K po pq pg ph st ms)
  (hE:Env w0 (LT (aX C X V K (ak ml) G qc n) (LU (aW C X V K FU ml) (ae X.thr (bK X.c X.u X.dA X.dn X.dc K.T.nd (decide (K.pc≠0)) po pq pg ph st)::(ms++R)))) w) :
  Calls prog 8 #[zP X.thr,zP V.p,zP V.m] w fun e w'=>e=.returned (.bool true)/\BS w0 R C X V (eU ds (iR C ds K (ak ml)).2.1) n qc (kZ ds K) ml (iR C ds K (ak ml)) w':=by
 have jn:∀ i,i < ds.length->ds.getD i ⟨0,0,0,0,0⟩=ds.getD i default:=fun i hi=>by
  simp[List.getD_eq_getElem?_getD,List.getElem?_eq_getElem hi]
 by_cases h0:K.pc=0
 ·have hb:decide (K.pc≠0)=false:=by simp[h0]
  rw[hb] at hE;have ag:Env w0 (LT (aX C X V K (ak ml) G qc n) (LU (aW C X V K FU ml) (ae X.thr (bK X.c X.u X.dA X.dn X.dc K.T.nd false po pq pg ph st)::R))) w:=(hE.perm (show List.Perm _ (ms++_) from cm fun z=>by simp only[LT,LU,List.count_append,List.count_cons];omega)).sub (List.sublist_append_right ms _)
  by_cases aE:K.T.nd < ds.length
  ·obtain⟨d,hd⟩:∃ d,ds.getD K.T.nd default=d:=⟨_,rfl⟩;have bY:iR C ds K (ak ml)=fM C d (eG d K) (ak ml):=by
    unfold iR;rw[if_pos h0,if_pos aE,jn _ aE,hd]
   have hb:=BQ hC h h0 aE d;have yn:=FN _ aE;have BW:=s5 _ aE;rw[hd] at yn BW;rw[bY,show kZ ds K=false by unfold kZ;simp[aE]];have jT:∀ K9:Kt,K9.T.nd=K.T.nd+1->eU ds K9=d:=fun K9 h9=>by
    unfold eU;rw[h9,Nat.add_sub_cancel,jn _ aE,hd]
   by_cases h8:d.ok=8
   ·have lR:eG d K={ K with pc:=8,T:={ K.T with pc:=4,nd:=K.T.nd+1,gpc:=0,gh:=0,gg:=0 } }:=by unfold eG;rw[if_pos h8]
    have ax:(eG d K).pc=8:=by rw[lR]
    have hl:=jT (fM C d (eG d K) (ak ml)).2.1 (by rw[ym d _ ax];split<;>exact (vN (C:=C) (T:=(eG d K).T) (f:=ak ml)).2.1.trans hb.2.2);rw[hl,ym d _ ax];have az:Env w0 (LT (aX C X V (eG d K) (ak ml) G qc n) (LU (aW C X V (eG d K) FU ml) (ae X.thr (bK X.c X.u X.dA X.dn X.dc K.T.nd false po pq pg ph st)::R))) w:=by rw[lR];exact ag
    refine (Ql (K:=eG d K) hg (hb.1.gv hC.ok hF ax hB hn aQ hN) (by rw[lR];exact⟨rfl,rfl,rfl⟩) uA dU aE ow hd h8 az).mono ?_;rintro e w' ⟨he,a,b,ho⟩;exact⟨he,ho.toT ax h8 (by rw[(vN (C:=C) (T:=(eG d K).T) (f:=ak ml)).2.1,hb.2.2];rfl)⟩
   ·have lR:eG d K={ eu 0 K with T:={ K.T with nd:=K.T.nd+1 },an:=false,err:=0,dn:=false }:=by unfold eG;rw[if_neg h8]
    have ax:(eG d K).pc=1:=by rw[lR];rfl
    have eT:(eG d K).on=false:=by rw[lR];rfl
    have dC:(eG d K).ft=0:=by rw[lR];rfl
    have cY:(eG d K).an=false:=by rw[lR]
    have lL:=BV h8 (BW.resolve_left h8);have gy:d.ok=1->1<=d.lv/\d.lv<=(C.h.toNat:Int):=fun h=>by have:=lL.2 h;omega
    have hl:=jT (fM C d (eG d K) (ak ml)).2.1 (by rw[yl d _ (by omega)];exact (yk C d (eG d K) (ak ml)).trans hb.2.2);rw[hl,yl d _ (by omega)];have az:Env w0 (LT (aX C X V (eG d K) (ak ml) G qc n) (LU (aW C X V (eG d K) FU ml) (ae X.thr (bK X.c X.u X.dA X.dn X.dc K.T.nd false po pq pg ph st)::R))) w:=by rw[lR];exact ag
    refine (Qf (K:=eG d K) hg (hb.1.kc hC jx bH gy hF (by omega) (by omega) yn hB hn) ⟨⟨ds,B,n,hb.1,hB,hn⟩,hC,h16,bH,lL.1,gy,hF,aQ,hN⟩ ax dC eT cY uA dU aE ow hd h8 jx (BW.resolve_left h8) az).mono ?_;rintro e w' ⟨he,o,q,ho⟩;exact⟨he,ho.toT h8 ho.pcs (by rw[yk,hb.2.2];rfl)⟩
  ·have bY:iR C ds K (ak ml)=(0,K,ak ml):=by
    unfold iR;rw[if_pos h0,if_neg aE]
   rw[bY];refine (Qj (p:=V.p) (m:=V.m) (thr:=X.thr) (c:=X.c) (u:=X.u) (dA:=X.dA) (dn:=X.dn) (dc:=X.dc) (nd:=K.T.nd) (po:=po) (pq:=pq) (pg:=pg) (ph:=ph) (st:=st) (L:=LT (aX C X V K (ak ml) G qc n) (LU (aW C X V K FU ml) R)) (ag.perm (cm fun z=>by simp only[LT,LU,List.count_append,List.count_cons];omega)) (fun v hv=>N3 (by omega) hv)).mono ?_;rintro e w' ⟨he,Qo⟩;refine⟨he,X,G,FU,qc,n,ml,[],po,pq,pg,ph,⟨rfl,rfl,rfl,rfl,rfl,rfl,rfl⟩,rfl,by omega,⟨by omega,fun h=>by unfold kZ at h;simp[h0,aE] at h,fun _=>rfl⟩,hN.1,hN.2,.inl ⟨h0,fun _=>rfl,fun h9=>absurd rfl h9⟩,?_⟩;show Env w0 (LT _ (LU _ (ae X.thr (bK X.c X.u X.dA X.dn X.dc K.T.nd (decide (K.pc≠0)) po pq pg ph 0)::([]++R)))) w';rw[hb];exact Qo.perm (cm fun z=>by simp only[LT,LU,List.nil_append,List.count_append,List.count_cons];omega)
 ·have ef:=h.nd h0;have aE:K.T.nd - 1 < ds.length:=by have:=h.t.nd;omega
  have hb:decide (K.pc≠0)=true:=by simp[h0]
  rw[hb] at hE;have bY:iR C ds K (ak ml)=fM C (eU ds K) K (ak ml):=by
   unfold iR;rw[if_neg h0];rfl
  have yn:aD (eU ds K).key/\aD (eU ds K).val:=by unfold eU;rw[jn _ aE];exact FN _ aE
  have jT:∀ K9:Kt,K9.T.nd=K.T.nd->eU ds K9=eU ds K:=fun K9 h9=>by
   unfold eU;rw[h9]
  rw[bY,show kZ ds K=false by unfold kZ;simp[h0]];have Qp:(eU ds K).ok=8\/jE 3 C.s C.b C.h C.l (eU ds K).ok (eU ds K).key (eU ds K).val (eU ds K).lv=0:=by unfold eU;rw[jn _ aE];exact s5 _ aE
  rcases hM with ⟨h9,-⟩ | ⟨h1,h7,BX,o,q,ps,rs,rfl,rfl,rfl,rfl,hP,hR⟩ | ⟨h8,BU,a,b,rfl,rfl,rfl⟩
  ·exact absurd h9 h0
  ·have hl:=jT (fM C (eU ds K) K (ak ml)).2.1 (by rw[yl _ _ (by omega)];exact yk C _ K (ak ml));rw[hl,yl _ _ (by omega)];have lL:=BV BX (Qp.resolve_left BX);have gy:(eU ds K).ok=1->1<=(eU ds K).lv/\(eU ds K).lv<=(C.h.toNat:Int):=fun h=>by have:=lL.2 h;omega
   refine (Qc hg (h.kc hC jx bH gy hF h1 h7 yn hB hn) ⟨⟨ds,B,n,h,hB,hn⟩,hC,h16,bH,lL.1,gy,hF,aQ,hN⟩ hP hR hE).mono ?_;rintro e w' ⟨he,ho⟩;exact⟨he,ho.toT BX ho.pcs (by rw[yk])⟩
  ·have hl:=jT (fM C (eU ds K) K (ak ml)).2.1 (by rw[ym _ _ h8];split<;>exact (vN (C:=C) (T:=K.T) (f:=ak ml)).2.1);rw[hl,ym _ _ h8];refine (Qk hg (h.gv hC.ok hF h8 hB hn aQ hN) hE).mono ?_;rintro e w' ⟨he,ho⟩;exact⟨he,ho.toT h8 BU (by rw[(vN (C:=C) (T:=K.T) (f:=ak ml)).2.1])⟩
end
theorem Qq {w:World} {q k:Nat} {F:Nat->Prop} {l:List bF} (hQ:eP w q F l k) :
  Calls prog 29 #[zP q] w fun e w'=>∃ b,e=.returned (.slice (some ⟨b,0,none⟩) l.length l.length)/\ao 0 w' b (flat3 l)/\w.heap.size<=b/\Below w.heap.size w w':=by
 obtain⟨qe,bB,e8,hk⟩:=hQ.len;have mF:=zH hQ;obtain⟨R,g,r,hq,hr,fR,_,_,bu,hF⟩:=hQ;have pZ:=fR.1;have h4:=uQ e8;have HA:=zH fun j w'=>uR R k (g+j) w' hk;have ie:∀ j,j < l.length->∀ w',ao 0 w' R (flat3 r)->w'.cell? ⟨R,(g+j) % 2 ^ k * 3,none⟩=some (zI (l.getD j t0).1)/\w'.cell? ⟨R,(g+j) % 2 ^ k * 3+1,none⟩=some (zI (l.getD j t0).2.1)/\w'.cell? ⟨R,(g+j) % 2 ^ k * 3+2,none⟩=some (zI (l.getD j t0).2.2):=fun j hj w' h=>by
  have aE:(g+j) % 2 ^ k < 2 ^ k:=Nat.mod_lt _ (by omega);have e:=fun c hc=>(h.rule ((g+j) % 2 ^ k * 3+c)).trans (mE r ((g+j) % 2 ^ k) c (by omega) hc);rw[fR.at j hj] at e;exact⟨e 0 (by omega),e 1 (by omega),e 2 (by omega)⟩
 have HC:=zH ie;have HG:=zH (uS g);have iM:=zH (And.intro hq hr);have FO:=Io l;clear ie hq hr fR hF pZ h4;go_enter func29,ntmps29;go_wp2_with fail;refine (s8 mF.out).mono ?_;rintro e w1 ⟨rfl,hb⟩;clear mF;go_wp2_with (refine yR _ rfl _ _ 87 rfl 97 Tryz.underlying87 yZ .i64 .i64 _ _ l.length rfl rfl rfl rfl (by omega) ?_);have lV:=ao.new 0 w1 (flat3 (List.replicate l.length t0)) 97;have dv:=hb.alloc hb.size (.cells (flat3 (List.replicate l.length t0)).toArray 97);have fV:=hb.size;clear hb;generalize cV:w1.heap.size=b at *;clear cV;generalize w1.alloc (.cells (flat3 (List.replicate l.length t0)).toArray 97)=w2 at *;rw[<- FO] at lV;clear FO
 go_loopw [4,10] (fun _ i wr=>∃ j:Nat,j<=l.length/\i=.int .i64 j/\ao 0 wr b (flat3 (lz l j))/\Below w.heap.size w wr) (fun _ i _=>l.length - (intOf i).toNat)
 case atStart=>exact⟨0,by omega,rfl,lV,dv⟩
 case round =>
  obtain⟨j,hj,rfl,hf,hB⟩:=hrel;clear lV dv
  by_cases aE:j < l.length
  ·have hc:=HC.out j aE;have hw:=Im j (by omega);have hg:=HG.out j;have Qr:=zH (HA.out j);have oL:ao 0 wr q _:=iM.out.1.kept hB.size (hB.block _ iM.out.1.1);have ta:ao 0 wr R _:=iM.out.2.kept hB.size (hB.block _ iM.out.2.1);have ik:q≠b/\R≠b:=⟨by have:=iM.out.1.1;omega,by have:=iM.out.2.1;omega⟩;have bo:=hf;have px:=zH (And.intro (Ir l aE) (Iq l hj));clear HC HG HA iM bo;unfold qv at oL;generalize l.getD j t0=xx at *;generalize (dV g)=G at *;generalize (dV (g+j))=GJ at *;generalize (dV (g+l.length))=C at *;generalize (g+j) % 2 ^ k=p at *;generalize 2 ^ k=N at *;obtain⟨x,y,z⟩:=xx;simp only at hc;have HC:=zH hc;clear hc;generalize FP:l.length=ln at *;have TE:=zH FP;clear FP;go_wp2_with fail;refine Ord.wc [17] (fun w'=>ao 0 w' q [.slice (some ⟨R,0,none⟩) N N,zU G,zU C]/\ao 0 w' R (flat3 r)) (fun m w'=>w.heap.size<=w'.heap.size/\Below w.heap.size w w'/\ao 0 w' b (flat3 (if m=0 then lz l j else (lz l j).set j (x,y,z)))) ⟨oL.drew,ta.drew⟩ ⟨hB.size,hB.drew,hf.drew⟩ fun af=>?_
   repeat ((first
    | (refine Ord.cv ?_ af.o ?_ ?_;rotate_left;(intro w5 hS;have r:=ao.rule hS.1;obtain⟨c0,c1,c2⟩:=HC.out _ hS.2;go_simp<;>rfl))
    | (refine Ord.co af.o ?_)
    | (refine Ord.cc ?_ ?_ ?_ af.o ?_ ?_ ?_;rotate_left 3;(intro w5 hS;have r:=ao.rule hS.1;obtain⟨c0,c1,c2⟩:=HC.out _ hS.2;go_simp;constructor<;>rfl);(intro w5 hS;(first | (with_reducible refine (Qr.out w5).mono ?_;rintro e w6 ⟨rfl,rfl⟩;constructor;rfl;exact⟨hS,fun _ h=>h⟩)))));try simp only[Act.put,zA,zZ,zS])
   refine Ord.ch_turn (v:=undef) 0 af.o rfl (by decide) (Or.inl rfl) (by rfl) ?_ ?_
   ·rintro w5 hS ⟨iz,gK,aU⟩;simp only[if_true] at aU;have kK:=fun c hc=>(aU.rule (j * 3+c)).trans (mE _ j c (by rw[px.out.2];exact aE) hc);have r0:=kK 0 (by omega);have r1:=kK 1 (by omega);have r2:=kK 2 (by omega);simp only[Nat.add_zero,fF,List.getElem?_cons_zero,List.getElem?_cons_succ] at r0 r1 r2;have lW:=s4 (lz l j);rw[px.out.2] at lW;have f0:=aU.thaw (j * 3) (by omega);have f1:=aU.thaw (j * 3+1) (by omega);have f2:=aU.thaw (j * 3+2) (by omega);clear kK;go_simp;refine⟨rfl,⟨((hS.1.off ik.1 _).off ik.1 _).off ik.1 _,((hS.2.off ik.2 _).off ik.2 _).off ik.2 _⟩,by simpa using iz,?_,?_⟩
    ·exact dJ (dJ (dJ gK (by omega) fV _) (by simp;omega) fV _) (by simp;omega) fV _
    ·exact ao.set3 aU (by rw[px.out.2];exact aE) (x,y,z)
   try simp only[Act.put,zA,zZ,zS]
   repeat ((first
    | (refine Ord.cv ?_ af.o ?_ ?_;rotate_left;(intro w5 hS;skip;go_simp<;>rfl))
    | (refine Ord.co af.o ?_));try simp only[Act.put,zA,zZ,zS])
   refine Ord.InText.nil fun w5 hS=>?_;clear af;obtain⟨aL,ai⟩:=Ord.chain_end hS;clear hS;obtain⟨iz,gK,aU⟩:=ai;rw[if_neg (by decide),px.out.1] at aU;go_wp2_with fail;exact⟨⟨j+1,by omega,by simp,aU,gK⟩,by simp[intOf];omega⟩
  ·go_wp2_with fail;have:j=l.length:=by omega
   subst this;rw[Ip] at hf;go_ret;exact⟨b,rfl,hf,fV,hB⟩
section
variable {w0 w:World} {R:List Item} {C:Cf} {X:Tm} {V:Wm} {K:Kt} {nd st:Int} {bz:Bool} {po pq pg ph:Value} {G FU:Nat->Prop} {qc:bN} {n:Nat} {f:Mem} {ml:List bT}
theorem Qs (hq:K.T.ql.length<=1000000) (hE:Env w0 (LT (aX C X V K f G qc n) (LU (aW C X V K FU ml) (ae X.thr (bK X.c X.u X.dA X.dn X.dc nd bz po pq pg ph st)::R))) w) :
  Calls prog 9 #[zP X.thr] w fun o w'=>o=.returned (.bool true)/\Env w0 (LT (aX C X V K f G qc n) (LU (aW C X V K FU ml) (ae X.thr (bK X.c X.u X.dA X.dn X.dc nd bz po pq pg ph st)::R))) w':=by
 have r7:=hE.rule 7 rfl;unfold bK at r7;have jb:ao 0 w X.c (cT C.k C.s C.b C.h C.l K.T.e K.r K.T.hs 0 X.q):=hE.get 0 rfl;have iP:eP w X.q X.F K.T.ql X.kq:=hE.queue 1 rfl;go_enter func9,ntmps9;go_wp2_with fail;refine (qk jb).mono ?_;rintro o w1 ⟨rfl,rfl⟩;go_wp2_with fail;refine (Qq iP).mono ?_;rintro o w2 ⟨bL,rfl,hL,FQ,hb⟩;replace hE:=hE.add (ae bL (flat3 K.T.ql)) hb hL (fun y hy=>by cases hy;exact⟨FQ,hL.1⟩);clear hb hL FQ r7 jb iP;have jb:ao 0 w2 X.c (cT C.k C.s C.b C.h C.l K.T.e K.r K.T.hs 0 X.q):=hE.get 1 rfl;have r7:=hE.rule 8 rfl;unfold bK at r7;go_wp2_with fail;refine (oO jb).mono ?_;rintro o w3 ⟨rfl,hb⟩;replace hE:=hE.over hb;replace hE:=hE.box w3.heap.size rfl [zI K.T.hs,zI 0] 92;clear hb r7 jb;go_wp2_with fail;generalize w3.alloc _=w4 at *;generalize w3.heap.size=Z at *;replace hE:Env w0 (ae bL (flat3 K.T.ql)::ae Z [zI K.T.hs,zI 0]::LT (aX C X V K f G qc n) (LU (aW C X V K FU ml) (ae X.thr (bK X.c X.u X.dA X.dn X.dc nd bz po pq pg ph st)::R))) w4:=hE.perm (List.Perm.swap _ _ _);have BZ:Hid (∀ y,Env w0 (ae bL (flat3 K.T.ql)::ae Z [zI K.T.hs,zI 0]::LT (aX C X V K f G qc n) (LU (aW C X V K FU ml) (ae X.thr (bK X.c X.u X.dA X.dn X.dc nd bz po pq pg ph st)::R))) y->y.cell? ⟨X.u,6,none⟩=some (.slice X.A K.T.ql.length X.rc)/\y.cell? ⟨X.u,8,none⟩=some (zI K.T.hs)/\y.cell? ⟨X.u,5,none⟩=some (zI K.T.e)/\y.cell? ⟨X.u,9,none⟩=some (zI K.r)):=zH fun y hy=>⟨hy.rule 6 rfl 6,hy.rule 6 rfl 8,hy.rule 6 rfl 5,hy.rule 6 rfl 9⟩;have mc:Hid (∀ y,Env w0 (ae bL (flat3 K.T.ql)::ae Z [zI K.T.hs,zI 0]::LT (aX C X V K f G qc n) (LU (aW C X V K FU ml) (ae X.thr (bK X.c X.u X.dA X.dn X.dc nd bz po pq pg ph st)::R))) y->Calls prog 31 #[zP X.c] y fun o w'=>o=.returned (zI K.T.e)/\w'=y):=zH fun y hy=>rG (show ao 0 y X.c (cT C.k C.s C.b C.h C.l K.T.e K.r K.T.hs 0 X.q) from hy.get 2 rfl);have sM:Hid (∀ y,Env w0 (ae bL (flat3 K.T.ql)::ae Z [zI K.T.hs,zI 0]::LT (aX C X V K f G qc n) (LU (aW C X V K FU ml) (ae X.thr (bK X.c X.u X.dA X.dn X.dc nd bz po pq pg ph st)::R))) y->Calls prog 32 #[zP X.c] y fun o w'=>o=.returned (zI K.r)/\w'=y):=zH fun y hy=>Lx (show ao 0 y X.c (cT C.k C.s C.b C.h C.l K.T.e K.r K.T.hs 0 X.q) from hy.get 2 rfl);refine cG (S:=(Env w0 (ae bL (flat3 K.T.ql)::ae Z [zI K.T.hs,zI 0]::LT (aX C X V K f G qc n) (LU (aW C X V K FU ml) (ae X.thr (bK X.c X.u X.dA X.dn X.dc nd bz po pq pg ph st)::R))))) (by kernel_rfl) (by kernel_rfl) hE.drew (fun hT=>?_);have af:=zH hT;clear hT
 repeat ((first
  | (refine cH (v:=?_) af.o (by rfl) ?_ ?_;rotate_left;(intro w5 hS;obtain⟨q6,q8,q5,q9⟩:=BZ.out _ hS;have r1:=hS.rule 1 rfl;have r9:=hS.rule 9 rfl;unfold bK at r9;go_simp<;>rfl))
  | (refine cI af.o (by rfl) ?_)
  | (refine cJ (v:=?_) (f:=?_) (args:=?_) af.o (by rfl) ?_ ?_ ?_;rotate_left 3;(intro w5 hS;obtain⟨q6,q8,q5,q9⟩:=BZ.out _ hS;have r1:=hS.rule 1 rfl;have r9:=hS.rule 9 rfl;unfold bK at r9;go_simp;constructor<;>rfl);(intro w5 hS;(first | (with_reducible refine (mc.out _ hS).mono ?_;rintro o w6 ⟨rfl,rfl⟩;constructor;rfl;exact hS) | (with_reducible refine (sM.out _ hS).mono ?_;rintro o w6 ⟨rfl,rfl⟩;constructor;rfl;exact hS)))));try simp only[Act.put,zA,zZ,zS])
 refine InText.nil fun w5 aK=>?_;clear af;clear hE mc sM BZ;go_wp2_with fail;generalize (K.T.hs != 0)=bh at *;have aB:=aK;clear aK
 go_loopw [6] (fun kv v=>∃ z:Nat,z<=K.T.ql.length/\kv=.int .i64 z/\Env w0 (ae bL (flat3 K.T.ql)::ae Z [.int .i64 K.T.hs,.int .i64 0]::LT (aX C X V K f G qc n) (LU (aW C X V K FU ml) (ae X.thr (bK X.c X.u X.dA X.dn X.dc nd bz po pq pg ph st)::R))) v) (fun kv _=>K.T.ql.length - (intOf kv).toNat)
 case atStart=>exact⟨0,Nat.zero_le _,rfl,aB⟩
 case round =>
  clear aB;obtain⟨z,hz,rfl,aB⟩:=hrel
  by_cases oz:z < K.T.ql.length
  ·have jr:decide ((z:Int) < K.T.ql.length)=true:=by simp;omega
   have oZ:(z:Int) < (K.T.ql.length:Int):=by omega
   rcases aB.cells3 7 rfl rfl with h0 | ⟨g,pT,hA,-,-⟩
   ·have sJ:K.T.ql=[]:=h0;rw[sJ] at oz;simp at oz
   have ai:X.A=some ⟨g,pT,none⟩:=hA;obtain⟨⟨ex,ey,ez⟩,he⟩:∃ t,K.T.ql.getD z t0=t:=⟨_,rfl⟩;have gT:Hid (∀ y,Env w0 (ae bL (flat3 K.T.ql)::ae Z [zI K.T.hs,zI 0]::LT (aX C X V K f G qc n) (LU (aW C X V K FU ml) (ae X.thr (bK X.c X.u X.dA X.dn X.dc nd bz po pq pg ph st)::R))) y->y.cell? ⟨X.u,6,none⟩=some (.slice (some ⟨g,pT,none⟩) K.T.ql.length X.rc)/\y.cell? ⟨g,pT+z * 3,none⟩=some (zI ex)/\y.cell? ⟨g,pT+z * 3+1,none⟩=some (zI ey)/\y.cell? ⟨bL,z * 3,none⟩=some (zI ex)/\y.cell? ⟨bL,z * 3+1,none⟩=some (zI ey)):=zH fun y hy=>by
    refine⟨by rw[<- ai];exact hy.rule 6 rfl 6,?_,?_,?_,?_⟩
    ·rcases hy.cells3 7 rfl rfl with h0 | ⟨g',rR,mD,-,hc⟩
     ·have sJ:K.T.ql=[]:=h0;rw[sJ] at oz;simp at oz
     ·rw[hA] at mD;cases mD;have h9:km y g (pT+z * 3) (fF (ex,ey,ez)):=by
       have:=hc z oz;rw[show (aW C X V K FU ml).ql.getD z default=(ex,ey,ez) from he] at this;exact this
      exact (qa h9).1
    ·rcases hy.cells3 7 rfl rfl with h0 | ⟨g',rR,mD,-,hc⟩
     ·have sJ:K.T.ql=[]:=h0;rw[sJ] at oz;simp at oz
     ·rw[hA] at mD;cases mD;have h9:km y g (pT+z * 3) (fF (ex,ey,ez)):=by
       have:=hc z oz;rw[show (aW C X V K FU ml).ql.getD z default=(ex,ey,ez) from he] at this;exact this
      exact (qa h9).2.1
    ·have:=(hy.rule 0 rfl (z * 3+0)).trans (mE K.T.ql z 0 oz (by omega));rw[he] at this
     simpa [fF] using this
    ·have:=(hy.rule 0 rfl (z * 3+1)).trans (mE K.T.ql z 1 oz (by omega));rw[he] at this
     simpa [fF] using this
   clear hA ai he;go_wp2_with fail;refine cG (S:=(Env w0 (ae bL (flat3 K.T.ql)::ae Z [zI K.T.hs,zI 0]::LT (aX C X V K f G qc n) (LU (aW C X V K FU ml) (ae X.thr (bK X.c X.u X.dA X.dn X.dc nd bz po pq pg ph st)::R))))) (by kernel_rfl) (by kernel_rfl) aB.drew (fun hT=>?_);have af:=zH hT;clear hT
   repeat ((first
    | (refine cH (v:=?_) af.o (by rfl) ?_ ?_;rotate_left;(intro w5 hS;obtain⟨q6,q7,q8,q9,wQ⟩:=gT.out _ hS;have r9:=hS.rule 9 rfl;unfold bK at r9;go_simp<;>rfl))
    | (refine cI af.o (by rfl) ?_)
    | (refine cJ (v:=?_) (f:=?_) (args:=?_) af.o (by rfl) ?_ ?_ ?_;rotate_left 3;(intro w5 hS;obtain⟨q6,q7,q8,q9,wQ⟩:=gT.out _ hS;have r9:=hS.rule 9 rfl;unfold bK at r9;go_simp;constructor<;>rfl);(intro w5 hS;(first | fail))));try simp only[Act.put,zA,zZ,zS])
   refine InText.nil fun w5 aK=>?_;clear af;clear aB gT;go_wp2_with fail;exact⟨⟨z+1,by omega,by simp,aK⟩,by simp[intOf];omega⟩
  ·have jr:decide ((z:Int) < K.T.ql.length)=false:=by simp;omega
   go_wp2_with fail;go_ret;exact⟨rfl,aB.sub (.cons _ (.cons _ (List.Sublist.refl _)))⟩
end
def oA (cs:List Nat):List Value:=cs.map fun c=>zP c
theorem Qt (a b:List Nat):oA (a++b)=oA a++oA b:=by simp[oA]
def gx (v:Value) (cs:List Nat):Item:=gZ v 33 1 cs.length (oA cs)
theorem Qu:(prog.info? 33).map (fun i=>(i.zero,i.size,i.bytes))=some (some (.pointer none),1,8):=by kernel_rfl
section
variable {w0 w w':World} {L:List Item}
theorem Env.tpRow (h:Env w0 L w) (i:Nat) {v:Value} {cs:List Nat} (hi:L[i]?=some (gx v cs)):w.ownsRow 0 33 1 v cs.length (oA cs):=h.get i hi
theorem Env.tpAt (h:Env w0 L w) (i:Nat) {g n cap:Nat} {cs:List Nat} (hi:L[i]?=some (gx (.slice (some ⟨g,0,none⟩) n cap) cs)) (j:Nat) (hj:j < cs.length):w.cell? ⟨g,j,none⟩=some (zP (cs.getD j 0)):=by
 have ho:=h.tpRow i hi
 rcases ho.2 with ⟨_,h0⟩ | ⟨g',ga,cur,hv,_,hg,hn,hc,eO,jm⟩
 ·omega
 ·simp only[Value.slice.injEq,Option.some.injEq,Addr.mk.injEq] at hv;obtain⟨⟨rfl,-⟩,-,rfl⟩:=hv;have h1:(oA cs)[j]?=some (zP (cs.getD j 0)):=by simp[oA,hj]
  rw[<- h1,<- jm,List.getElem?_take_of_lt (by omega)];simp[World.cell?,hg]
theorem Env.tpEmpty (h:Env w0 L w) (n:Nat) (hn:w.heap.size=n):Env w0 (gx (.slice (some ⟨n,0,none⟩) 0 0) []::L) (w.alloc (.cells #[] 33)):=by
 subst hn;have ho:(w.alloc (.cells #[] 33)).ownsRow w.heap.size 33 1 (.slice (some ⟨w.heap.size,0,none⟩) 0 0) 0 []:=⟨rfl,.inr ⟨w.heap.size,0,#[],rfl,Nat.le_refl _,heap_alloc_new w _,Nat.le_refl _,Nat.zero_le _,rfl,rfl⟩⟩;exact h.add (gx (.slice (some ⟨w.heap.size,0,none⟩) 0 0) []) ((Below.refl _ _).alloc (Nat.le_refl _) _) (CK ho (Nat.zero_le _)) fun k hk=>ho.lt k hk
end
def C9:Cf:=⟨3,4,0,2,9⟩
def d19 (i:Nat):Dd:=⟨0,if i<=1 then 1 else if i=3 then 2 else 3,5,0,if i=0 then 2 else if i=1 then 1 else 0⟩
def T0:Th:=⟨0,[],0,0,0,0,0,0,0,0,0,0,0,0,0,0,false⟩
def K0:Kt:=⟨T0,0,0,false,0,fun _=>L0 (0,0,0),0,0,0,false,0,false,0⟩
def f0:Mem:=fun x=>if x=(1,0,0) then 1 else 0
def sN (d:Dd) (K:Kt) (f:Mem):Nat->Int × Kt × Mem
 | 0=>(0,K,f)
 | n+1=>aJ C9 d (sN d K f n).2.1 (sN d K f n).2.2
def B0 (r:Int × Kt × Mem):Kt:={ r.2.1 with pc:=0 }
def eX (i:Nat):Nat:=if i=0 then 21 else if i=1 then 13 else if i=2 then 13 else if i=3 then 35 else 5
def qV (i:Nat):Bool:=i==0 || i==2 || i==3
def mA:Nat->Kt × Mem
 | 0=>(K0,f0)
 | i+1=>(B0 (sN (d19 i) (eG (d19 i) (mA i).1) (mA i).2 (eX i)),(sN (d19 i) (eG (d19 i) (mA i).1) (mA i).2 (eX i)).2.2)
def nt (i j:Nat):Int × Kt × Mem:=sN (d19 i) (eG (d19 i) (mA i).1) (mA i).2 j
set_option maxRecDepth 100000 in
theorem Qv:∀ i,i < 5->∀ j,j < eX i->(nt i j).1=0/\1<=(nt i j).2.1.pc/\(nt i j).2.1.pc≠8:=by decide +kernel
set_option maxRecDepth 100000 in
theorem Qw:∀ i,i < 5->(nt i (eX i)).1=1/\(nt i (eX i)).2.1.err=0/\(nt i (eX i)).2.1.dn=qV i:=by decide +kernel
set_option maxRecDepth 100000 in
theorem Qx:∀ i,i < 6->(mA i).1.T.nd=i/\(mA i).1.pc=0:=by decide +kernel
theorem B5 (w:World) (g:Nat) (old cs:Array Value) (t:TypeId) (hg:g=w.heap.size):(w.alloc (.cells old t)).setRow g cs=w.alloc (.cells cs t):=by
 subst hg;have h9:(w.heap.push (Obj.cells old t)).modify w.heap.size (fun o=>match o with | .cells _ elem frozen=>.cells cs elem frozen | o=>o)=w.heap.push (.cells cs t):=by
  apply Array.ext
  ·simp
  ·intro i h1 h2;rw[Array.getElem_modify]
   by_cases hi:w.heap.size=i
   ·subst hi;simp
   ·rw[if_neg hi];simp at h2;rw[Array.getElem_push_lt (by omega),Array.getElem_push_lt (by omega)]
 show ({ w.alloc (.cells old t) with heap:=(w.heap.push (Obj.cells old t)).modify w.heap.size _ }:World)=_;exact congrArg (fun h=>({ w.alloc (.cells old t) with heap:=h }:World)) h9
theorem B6 (w:World) (o:Obj):(w.alloc o).heap[w.heap.size]?=some o:=by show (w.heap.push o)[w.heap.size]?=some o;exact Array.getElem?_push_size
theorem Qy (s h l:Int) (w:World):Calls prog 14 #[zI s,zI h,zI l] w fun e w'=>e=.returned (.agg #[zI 3,zI s,zI 0,zI h,zI l])/\Below w.heap.size w w':=by
 go_enter func14,ntmps14
 go_wp2
 exact bodyPost_ret (v:=.agg #[zI 3,zI s,zI 0,zI h,zI l]) (by simp[results,results14,go_sem]) rfl ⟨rfl,(Below.refl _ _).alloc (Nat.le_refl _) _⟩
section
variable {C:Cf} {B:Nat}
theorem Qz (hC:jy C) {ds:List Dd} (hd:ds.length<=B):dM C ds B T0:=by
 have hs:=hC.s;have hl:=hC.l;have hz:aA 0=0:=by decide
 have qS:aD 0:=by unfold aD;omega
 exact { e:=(by show (0:Int)<=0/\(0:Int)<=C.l;omega),w:=⟨qS,qS,qS⟩,hs:=(by show (0:Int)<=0/\(0:Int)<=C.s;omega),rs:=(by show (0:Int)<=0/\(0:Int)<=C.s;omega),ql:=(by intro x hx;cases hx),nd:=Nat.zero_le _,len:=(by show 0+(ds.length - 0)<=B;omega),done:=(by show (0:Int)<=0/\(0:Int)<=B;omega),pc:=.inl rfl,p1:=fun h=>no h rfl,nd1:=fun h=>absurd rfl h,apc:=fun h=>no h rfl,low:=fun h=>no h rfl,adv:=fun h=>no h rfl,born:=fun h=>no h rfl,pool:=fun h=>no h rfl,an:=(by show aA 0<=C.s;omega),rpc:=fun h=>no h rfl,rsp:=fun h=>no h rfl,re:=(by show (0:Int)<=0/\(0:Int)<=C.l;omega),gpc:=Nat.zero_le 3,give:=fun h=>no h rfl,ghu:=qS,gh:=(by show aA 0<=C.s;omega),gv:=fun h=>no h rfl }
theorem FR (hC:jy C) {ds:List Dd} {d:Dd} (hd:ds.length<=B):bJ C ds B d K0 :=
 ⟨Qz hC hd,rfl,(show (0:Int)=0 from rfl),fun h=>absurd (show (0:Nat)=2 from h) (by decide),fun h=>absurd rfl h⟩
theorem QA (hC:jy C):db C f0/\di C f0:=by
 have hs:=hC.s;have hl:=hC.l;have hz:aA 0=0:=by decide
 refine⟨⟨fun x=>?_,?_,fun i=>?_,?_⟩,⟨fun r=>?_,fun i l h=>?_⟩⟩<;>unfold f0
 ·split<;>(unfold aD;omega)
 ·rw[if_neg (by decide)];omega
 ·rw[if_neg (by simp)];omega
 ·rw[if_pos rfl];omega
 ·rw[if_neg (by simp)];omega
 ·rw[if_neg (by simp)];omega
end
theorem vT:fC C9:=⟨⟨by decide,by decide⟩,by decide,by decide⟩
def uC:List Dd:=[⟨0,1,5,0,2⟩,⟨0,1,5,0,1⟩,⟨0,3,5,0,0⟩,⟨0,2,5,0,0⟩,⟨0,3,5,0,0⟩]
def kF:List Value:=[zI 1,zU 5,zU 0,zI 2,zI 1,zU 5,zU 0,zI 1,zI 3,zU 5,zU 0,zI 0,zI 2,zU 5,zU 0,zI 0,zI 3,zU 5,zU 0,zI 0]
def k7:List Value:=[zI 21,zI 13,zI 13,zI 40,zI 5]
def lf:List Value:=[.bool true,.bool false,.bool true,.bool true,.bool false]
def vm (p cc m:Nat):Wm:=⟨p,cc,m,fun _=>False,fun _=>False,⟨0,0,0,0,0⟩,0,[]⟩
def nu (c q:Nat):Tm:={ thr:=0,c:=c,q:=q,u:=0,F:=fun _=>False,kq:=2,A:=none,rc:=0,N:=0,cr:=0,ro:=0,dA:=none,dn:=0,dc:=0,pa:=.pointer none,pb:=.pointer none,pr:=.pointer none,pq:=.pointer none,pg:=.pointer none,ph:=.pointer none }
theorem FT:∀ i,(d19 i).ok=1->1<=(d19 i).lv/\(d19 i).lv<=((C9.h.toNat:Nat):Int):=fun i h=>by
 have h2:((C9.h.toNat:Nat):Int)=2:=by decide
 rw[h2];unfold d19 at h ⊢;dsimp only at h ⊢
 split at h
 ·split
  ·omega
  ·rw[if_pos (by omega)];omega
 ·split at h<;>omega
structure FV (A:Nat->Kt × Mem) (Rn:Nat->Nat->Int × Kt × Mem):Prop where
 (a0:A 0=(K0,f0))
 (an:∀ i,A (i+1)=(B0 (Rn i (eX i)),(Rn i (eX i)).2.2))
 (r0:∀ i,Rn i 0=(0,eG (d19 i) (A i).1,(A i).2))
 (rs:∀ i j,Rn i (j+1)=aJ C9 (d19 i) (Rn i j).2.1 (Rn i j).2.2)
 (busy:∀ i,i < 5->∀ j,j < eX i->(Rn i j).1=0/\1<=(Rn i j).2.1.pc/\(Rn i j).2.1.pc≠8)
 (done:∀ i,i < 5->(Rn i (eX i)).1=1/\(Rn i (eX i)).2.1.err=0/\(Rn i (eX i)).2.1.dn=qV i)
 (nd:∀ i,i < 6->(A i).1.T.nd=i/\(A i).1.pc=0)
theorem QC (A:Nat->Kt × Mem) (Rn:Nat->Nat->Int × Kt × Mem) (hr:FV A Rn) (w:World) (hg:bE w):Calls prog 4 #[] w fun o w'=>o=.returned (.bool true)/\Below w.heap.size w w':=by
 have hE:=Env.start w;have HG:=zH hg;have HC:=zH (show iN 3 4 0 2 9=0 by decide);clear hg;go_enter func4,ntmps4;go_wp2_with fail;refine (Df hE).mono ?_;rintro o w3 ⟨p,cc,rfl,bM,hb⟩;clear hb hE;go_wp2_with fail;refine (Dg 0 1 (by decide) (by unfold maxLen;omega) bM rfl rfl).mono ?_;rintro o w4 ⟨rfl,F4,bD⟩;simp only[zS,zZ] at bD;clear bM;generalize ({ l:=_,s:=_,w:=_,f:=_,a:=_ }:bN)=q4 at bD;go_wp2_with fail;refine (Qy 4 2 9 _).mono ?_;rintro o w5 ⟨rfl,hb⟩;replace bD:=bD.over hb;clear hb;go_wp2_with fail;refine (zy 3 4 0 2 9 HC.out bD).mono ?_;rintro o w6 ⟨c,q,F,rfl,aq⟩;clear bD
 go_upto_region 4 with fail
 apply wp_region_lit;refine wpList_buildTo rfl 55 _ rfl (some 16) rfl #[zI 1,zU 5,zU 0,zI 2] (by as_aux_lemma=>kernel_rfl) ?_;refine wpList_buildTo rfl 55 _ rfl (some 17) rfl #[zI 1,zU 5,zU 0,zI 1] (by as_aux_lemma=>kernel_rfl) ?_;refine wpList_buildTo rfl 55 _ rfl (some 18) rfl #[zI 3,zU 5,zU 0,zI 0] (by as_aux_lemma=>kernel_rfl) ?_;refine wpList_buildTo rfl 55 _ rfl (some 19) rfl #[zI 2,zU 5,zU 0,zI 0] (by as_aux_lemma=>kernel_rfl) ?_;refine wpList_buildTo rfl 55 _ rfl (some 20) rfl #[zI 3,zU 5,zU 0,zI 0] (by as_aux_lemma=>kernel_rfl) ?_;refine wpList_buildTo rfl 56 _ rfl (some 21) rfl #[zI 1,zU 5,zU 0,zI 2,zI 1,zU 5,zU 0,zI 1,zI 3,zU 5,zU 0,zI 0,zI 2,zU 5,zU 0,zI 0,zI 3,zU 5,zU 0,zI 0] (by kernel_rfl) ?_;refine Go.Great.wpList_allocTo rfl (some 3) rfl (zP w6.heap.size) (.cells #[zI 0,zU 0,zU 0,zI 0,zI 0,zU 0,zU 0,zI 0,zI 0,zU 0,zU 0,zI 0,zI 0,zU 0,zU 0,zI 0,zI 0,zU 0,zU 0,zI 0] 56) (by kernel_rfl) ?_;refine wpList_store_rowTo rfl 56 _ _ rfl rfl (w6.heap.size) #[zI 1,zU 5,zU 0,zI 2,zI 1,zU 5,zU 0,zI 1,zI 3,zU 5,zU 0,zI 0,zI 2,zU 5,zU 0,zI 0,zI 3,zU 5,zU 0,zI 0] (by kernel_rfl) (by kernel_rfl) 56 #[zI 0,zU 0,zU 0,zI 0,zI 0,zU 0,zU 0,zI 0,zI 0,zU 0,zU 0,zI 0,zI 0,zU 0,zU 0,zI 0,zI 0,zU 0,zU 0,zI 0] (B6 _ _) (by as_aux_lemma=>kernel_rfl) (by as_aux_lemma=>kernel_rfl) (by as_aux_lemma=>kernel_rfl) ?_;apply wpList_nil;rw[B5 _ _ _ _ _ rfl];rename_i FW;refine FW _ _ ?_;clear FW;have FX:=aq.box w6.heap.size rfl [zI 1,zU 5,zU 0,zI 2,zI 1,zU 5,zU 0,zI 1,zI 3,zU 5,zU 0,zI 0,zI 2,zU 5,zU 0,zI 0,zI 3,zU 5,zU 0,zI 0] 56;generalize World.alloc w6 _=vU at *;clear aq;generalize w6.heap.size=Z3 at *
 go_upto_region 5 with fail
 apply wp_region_lit;refine wpList_buildTo rfl 57 _ rfl (some 22) rfl #[zI 21,zI 13,zI 13,zI 40,zI 5] (by kernel_rfl) ?_;refine Go.Great.wpList_allocTo rfl (some 4) rfl (zP vU.heap.size) (.cells #[zI 0,zI 0,zI 0,zI 0,zI 0] 57) (by kernel_rfl) ?_;refine wpList_store_rowTo rfl 57 _ _ rfl rfl (vU.heap.size) #[zI 21,zI 13,zI 13,zI 40,zI 5] (by kernel_rfl) (by kernel_rfl) 57 #[zI 0,zI 0,zI 0,zI 0,zI 0] (B6 _ _) (by as_aux_lemma=>kernel_rfl) (by as_aux_lemma=>kernel_rfl) (by as_aux_lemma=>kernel_rfl) ?_;apply wpList_nil;rw[B5 _ _ _ _ _ rfl];rename_i FY;refine FY _ _ ?_;clear FY;have FZ:=FX.box vU.heap.size rfl [zI 21,zI 13,zI 13,zI 40,zI 5] 57;generalize World.alloc vU _=vV at *;clear FX;generalize vU.heap.size=Z4 at *
 go_upto_region 6 with fail
 apply wp_region_lit;refine wpList_buildTo rfl 58 _ rfl (some 23) rfl #[.bool true,.bool false,.bool true,.bool true,.bool false] (by kernel_rfl) ?_;refine Go.Great.wpList_allocTo rfl (some 5) rfl (zP vV.heap.size) (.cells #[.bool false,.bool false,.bool false,.bool false,.bool false] 58) (by kernel_rfl) ?_;refine wpList_store_rowTo rfl 58 _ _ rfl rfl (vV.heap.size) #[.bool true,.bool false,.bool true,.bool true,.bool false] (by kernel_rfl) (by kernel_rfl) 58 #[.bool false,.bool false,.bool false,.bool false,.bool false] (B6 _ _) (by as_aux_lemma=>kernel_rfl) (by as_aux_lemma=>kernel_rfl) (by as_aux_lemma=>kernel_rfl) ?_;apply wpList_nil;rw[B5 _ _ _ _ _ rfl];rename_i F0;refine F0 _ _ ?_;clear F0;have aO:=FZ.box vV.heap.size rfl [.bool true,.bool false,.bool true,.bool true,.bool false] 58;generalize World.alloc vV _=w7 at *;clear FZ;generalize vV.heap.size=Z5 at *;go_wp2_with fail;have sM:Hid (∀ (S:ST) (ps:List Item) (v:World),Env w (ps++LT S [ae Z5 lf,ae Z4 k7,ae Z3 kF]) v->(∀ j,v.cell? ⟨Z5,j,none⟩=lf[j]?)/\(∀ j,v.cell? ⟨Z4,j,none⟩=k7[j]?)/\∀ j,v.cell? ⟨Z3,j,none⟩=kF[j]?):=zH fun S ps v hv=>⟨ao.rule ((hv.2.2 (ae Z5 lf) (by simp[LT])).1),ao.rule ((hv.2.2 (ae Z4 k7) (by simp[LT])).1),ao.rule ((hv.2.2 (ae Z3 kF) (by simp[LT])).1)⟩;have yo:upd (fun _=>0) (1,0,0) 1=(A 0).2:=by
  rw[hr.a0]
  funext x
  show _=f0 x;unfold upd f0
  by_cases hx:x=(1,0,0)<;>simp[hx]
 have bn:Env w (LT (aX C9 { nu c q with F:=F,kq:=2 } (vm p cc 0) (A 0).1 (A 0).2 F4 q4 (0+1)) [ae Z5 lf,ae Z4 k7,ae Z3 kF]) w7:=by
  rw[<- yo,hr.a0];exact aO.perm (List.perm_append_comm (l₁:=[_,_,_]))
 clear aO yo;have tO:Hid (bJ C9 uC 5 (d19 0) (A 0).1/\db C9 (A 0).2/\di C9 (A 0).2):=zH (by rw[hr.a0];exact⟨FR vT.ok (by decide),QA vT.ok⟩)
 go_loopw [6] (fun iv wr=>∃ (i B n k:Nat) (F G:Nat->Prop) (qc:bN),i<=5/\iv=.int .i64 i/\B<=5+40 * i/\n<=2+40 * i/\Hid (∀ d,bJ C9 uC B d (A i).1)/\Hid (db C9 (A i).2/\di C9 (A i).2)/\Env w (LT (aX C9 { nu c q with F:=F,kq:=k } (vm p cc 0) (A i).1 (A i).2 G qc n) [ae Z5 lf,ae Z4 k7,ae Z3 kF]) wr) (fun iv _=>5 - (intOf iv).toNat)
 case atStart=>exact⟨0,5,0+1,2,F,F4,q4,by omega,rfl,by omega,by omega,zH fun d=>tO.out.1.any (by rw[hr.a0];rfl),zH tO.out.2,bn⟩
 case round =>
  clear bn tO;obtain⟨i,B,n,k,F,G,qc,hi,rfl,hB,hn,hK,hF,hE⟩:=hrel
  by_cases aE:i < 5
  ·as_aux_lemma =>
    have cV:decide ((i:Int) < 5)=true:=by simp;omega
    have eg:(i:Int) < 5:=by omega
    have vv:=zH fun (v:World) (hv:Env w (LT (aX C9 { nu c q with F:=F,kq:=k } (vm p cc 0) (A i).1 (A i).2 G qc n) [ae Z5 lf,ae Z4 k7,ae Z3 kF]) v)=>EU (H:=2) (by omega) (c:=c) (e:=(A i).1.T.e) (r:=(A i).1.r) (hs:=(A i).1.T.hs) (hi:=0) (q:=q) (s:=4) (b:=0) (l:=9) 0 (d19 i).ok (d19 i).key (d19 i).val (d19 i).lv (by rcases (show i=0\/i=1\/i=2\/i=3\/i=4 by omega) with rfl | rfl | rfl | rfl | rfl<;>decide) (by rcases (show i=0\/i=1\/i=2\/i=3\/i=4 by omega) with rfl | rfl | rfl | rfl | rfl<;>decide) rfl hv;have nX:∀ j,wr.cell? ⟨Z3,j,none⟩=kF[j]?:=(sM.out _ [] _ hE).2.2;have c0:wr.cell? ⟨Z3,i * 4,none⟩=some (zI (d19 i).ok):=by rw[nX];rcases (show i=0\/i=1\/i=2\/i=3\/i=4 by omega) with rfl | rfl | rfl | rfl | rfl<;>rfl
    have c1:wr.cell? ⟨Z3,i * 4+1,none⟩=some (zU (d19 i).key):=by rw[nX];rcases (show i=0\/i=1\/i=2\/i=3\/i=4 by omega) with rfl | rfl | rfl | rfl | rfl<;>rfl
    have c2:wr.cell? ⟨Z3,i * 4+2,none⟩=some (zU (d19 i).val):=by rw[nX];rcases (show i=0\/i=1\/i=2\/i=3\/i=4 by omega) with rfl | rfl | rfl | rfl | rfl<;>rfl
    have c3:wr.cell? ⟨Z3,i * 4+3,none⟩=some (zI (d19 i).lv):=by rw[nX];rcases (show i=0\/i=1\/i=2\/i=3\/i=4 by omega) with rfl | rfl | rfl | rfl | rfl<;>rfl
    have lg:=zH aE;clear nX aE hi;go_wp2_with fail;refine (vv.out _ hE).mono ?_;rintro e w8 ⟨o,b1,b2,fb,gg,rfl,bn⟩;clear hE vv c0 c1 c2 c3;have ef:=hr.nd i (by have:=lg.out;omega);have F3:=BQ (ds:=uC) (B:=B) vT (hK.out (d19 i)) ef.2 (by rw[ef.1];exact lg.out) (d19 i);have lR:eG (d19 i) (A i).1={ eu 0 (A i).1 with T:={ (A i).1.T with nd:=(A i).1.T.nd+1 },an:=false,err:=0,dn:=false }:=by unfold eG;rw[if_neg (by have:=lg.out;rcases (show i=0\/i=1\/i=2\/i=3\/i=4 by omega) with rfl | rfl | rfl | rfl | rfl<;>decide)]
    have bj:Env w ([ae o (aw c (d19 i).ok (d19 i).key (d19 i).val (d19 i).lv (cvP b1 b2) 0 (zP fb) 0 0 0 0 false 0 false),ae b1 [mvL 109 fb],ae b2 [mvL 81 o],ae fb (bq c (d19 i).key (mvL 124 fb) 0 gg 2 0),ae gg (List.replicate 2 (.pointer none))]++LT (aX C9 { nu c q with F:=F,kq:=k } (vm p cc 0) (Rn i 0).2.1 (Rn i 0).2.2 G qc n) [ae Z5 lf,ae Z4 k7,ae Z3 kF]) w8:=by
     rw[hr.r0];show Env w ([_,_,_,_,_]++LT (aX C9 { nu c q with F:=F,kq:=k } (vm p cc 0) (eG (d19 i) (A i).1) (A i).2 G qc n) [ae Z5 lf,ae Z4 k7,ae Z3 kF]) w8;rw[lR];exact bn
    have F7:Hid (PM C9 c (d19 i) (Rn i 0).2.1 o [ae o (aw c (d19 i).ok (d19 i).key (d19 i).val (d19 i).lv (cvP b1 b2) 0 (zP fb) 0 0 0 0 false 0 false),ae b1 [mvL 109 fb],ae b2 [mvL 81 o],ae fb (bq c (d19 i).key (mvL 124 fb) 0 gg 2 0),ae gg (List.replicate 2 (.pointer none))]):=zH (by
     rw[hr.r0];show PM C9 c (d19 i) (eG (d19 i) (A i).1) o _;rw[lR];exact .inl ⟨rfl,b1,b2,fb,0,0,0,0,_,rfl,fun h=>absurd rfl h,fun h=>absurd (show (0:Nat)=1 from h) (by decide),.inl ⟨rfl,rfl,gg,_,0,List.length_replicate,rfl⟩⟩)
    have vF:Hid (bJ C9 uC B (d19 i) (Rn i 0).2.1):=zH (by rw[hr.r0];exact F3.1);have HF:Hid (db C9 (Rn i 0).2.2/\di C9 (Rn i 0).2.2):=zH (by rw[hr.r0];exact hF.out);clear bn lR F3 ef hK hF;have TF:eX i<=40:=by unfold eX;(repeat' split)<;>omega
    have jD:1<=eX i:=by unfold eX;(repeat' split)<;>omega
    go_wp2_with fail
    go_loopw [8,9] (fun nv sv wr=>∃ (j B n k:Nat) (st:Int) (F G:Nat->Prop) (qc:bN) (ps:List Item),j<=eX i/\nv=.int .i64 j/\sv=.int .i64 st/\B<=5+40 * i+j/\n<=2+40 * i+j/\Hid (st=(Rn i j).1)/\Hid (st=0->PM C9 c (d19 i) (Rn i j).2.1 o ps/\bJ C9 uC B (d19 i) (Rn i j).2.1)/\Hid (st≠0->(∃ nx fp n0 l0 t0 y0 an,ps=[ae o (aw c (d19 i).ok (d19 i).key (d19 i).val (d19 i).lv nx st fp n0 l0 t0 y0 an (Rn i j).2.1.err (Rn i j).2.1.dn)])/\bJ C9 uC B (d19 i) (B0 (Rn i j)))/\Hid (db C9 (Rn i j).2.2/\di C9 (Rn i j).2.2)/\Env w (ps++LT (aX C9 { nu c q with F:=F,kq:=k } (vm p cc 0) (Rn i j).2.1 (Rn i j).2.2 G qc n) [ae Z5 lf,ae Z4 k7,ae Z3 kF]) wr) (fun nv _ _=>100 - (intOf nv).toNat)
    case atStart=>exact⟨0,B,n,k,0,F,G,qc,_,Nat.zero_le _,rfl,rfl,by omega,by omega,zH (by rw[hr.r0]),zH (fun _=>⟨F7.out,vF.out⟩),zH (fun h=>absurd rfl h),HF,bj⟩
    case round =>
     clear bj F7 vF HF;obtain⟨j,B9,n9,k9,st,F9,G9,uD,ps,hj,rfl,rfl,e7,oy,bY,hP,hQ,hF,hE⟩:=hrel
     by_cases kH:j < eX i
     ·as_aux_lemma =>
       have p8:=hr.busy i lg.out j kH;have h0:st=0:=by rw[bY.out];exact p8.1
       subst h0;have jr:decide ((j:Int) < 100)=true:=by simp;omega
       have hP:=(hP.out rfl);have vW:=lg.out;have Ga:=hP.2.kc (n:=n9) vT rfl (by decide) (FT i) hF.out.1 p8.2.1 p8.2.2 (by show aD 5/\aD 0;unfold aD;omega) (by omega) (by unfold maxLen;omega);have gi:=zH (BO (R:=[ae Z5 lf,ae Z4 k7,ae Z3 kF]) (X:={ nu c q with F:=F9,kq:=k9 }) (V:=vm p cc 0) Ga HG.out hP.1 hE);have B7:=zH fun hu=>FC vT (FT i) hF.out.1 hF.out.2 hP.2 hu p8.2.1 p8.2.2;have px:Hid (aJ C9 (d19 i) (Rn i j).2.1 (Rn i j).2.2=Rn i (j+1)):=zH (hr.rs i j).symm;rw[px.out] at gi B7;clear Ga p8 bY hP hQ hE hF vW px;go_wp2_with fail;refine gi.out.mono ?_;rintro e w9 ⟨s9,rfl,bf,F',k',G',bt,n',ps',⟨jo,-⟩,h0,h1,dh⟩;have hu:∀ x,aD ((Rn i (j+1)).2.2 x):=fun x=>by
        have h9:ao 0 w9 0 []\/True:=.inr trivial;exact (dh.perm (List.perm_append_comm)).cell 3 rfl |>.words.1 x
       have yq:=B7.out hu;clear gi B7;subst bf;go_wp2_with fail;refine⟨⟨j+1,B9+1,n',k',_,F',G',bt,ps',kH,by simp,rfl,by omega,by omega,zH rfl,zH fun h=>⟨h0 h,?_⟩,zH fun h=>⟨h1 h,?_⟩,zH ⟨yq.f,yq.l⟩,dh⟩,by simp[intOf];omega⟩
       ·have:=yq.k;rw[if_pos h] at this;exact this
       ·have:=yq.k;rw[if_neg h] at this;exact this
     ·as_aux_lemma =>
       have QD:j=eX i:=by omega
       subst QD;have dU:=hr.done i lg.out;have h1:st=1:=by rw[bY.out];exact dU.1
       subst h1;obtain⟨⟨nx,fp,n0,l0,t0,y0,an,rfl⟩,hK⟩:=hQ.out (by decide);rw[dU.2.1,dU.2.2] at hE;have HK:=zH hK;clear hP hQ dU bY hK;obtain⟨M9,nJ⟩:∃ M:Int,(if i=3 then (40:Int) else ((eX i:Nat):Int))=M:=⟨_,rfl⟩;have B8:=zH nJ;clear nJ;have jr:decide (((eX i:Nat):Int) < 100)=true:=by simp;omega
       go_wp2_with fail;have yr:Hid (∀ v,Env w ([ae o (aw c (d19 i).ok (d19 i).key (d19 i).val (d19 i).lv nx 1 fp n0 l0 t0 y0 an 0 (qV i))]++LT (aX C9 { nu c q with F:=F9,kq:=k9 } (vm p cc 0) (Rn i (eX i)).2.1 (Rn i (eX i)).2.2 G9 uD n9) [ae Z5 lf,ae Z4 k7,ae Z3 kF]) v->Calls prog 17 #[zP o] v fun p w'=>p=.returned (.agg #[zI 0,.bool (qV i),zU 0])/\Below v.heap.size v w'):=zH fun v hv=>Bb (hv.get 0 rfl);have gE:Hid (∀ v,Env w ([ae o (aw c (d19 i).ok (d19 i).key (d19 i).val (d19 i).lv nx 1 fp n0 l0 t0 y0 an 0 (qV i))]++LT (aX C9 { nu c q with F:=F9,kq:=k9 } (vm p cc 0) (Rn i (eX i)).2.1 (Rn i (eX i)).2.2 G9 uD n9) [ae Z5 lf,ae Z4 k7,ae Z3 kF]) v->v.cell? ⟨Z4,i,none⟩=some (zI M9)/\v.cell? ⟨Z5,i,none⟩=some (.bool (qV i))):=zH fun v hv=>by
        have h9:=sM.out _ _ _ hv;have vW:=lg.out;rw[h9.1,h9.2.1,<- B8.out]
        rcases (show i=0\/i=1\/i=2\/i=3\/i=4 by omega) with rfl | rfl | rfl | rfl | rfl<;>exact⟨rfl,rfl⟩
       have vW:(i:Int) < 5:=by have:=lg.out;omega
       have rN:decide (((eX i:Nat):Int) > M9)=false:=by rw[<- B8.out];simp;rcases (show i=0\/i=1\/i=2\/i=3\/i=4 by omega) with rfl | rfl | rfl | rfl | rfl<;>decide
       have TG:decide (M9 < ((eX i:Nat):Int))=false:=rN
       by_cases yt:i=3
       ·have bu:((i:Int) != 3)=false:=by subst yt;rfl
        clear yt;refine cG (S:=(Env w ([ae o (aw c (d19 i).ok (d19 i).key (d19 i).val (d19 i).lv nx 1 fp n0 l0 t0 y0 an 0 (qV i))]++LT (aX C9 { nu c q with F:=F9,kq:=k9 } (vm p cc 0) (Rn i (eX i)).2.1 (Rn i (eX i)).2.2 G9 uD n9) [ae Z5 lf,ae Z4 k7,ae Z3 kF]))) (by kernel_rfl) (by kernel_rfl) hE.drew (fun hT=>?_);have af:=zH hT;clear hT
        repeat ((first
         | (refine cH (v:=?_) af.o (by rfl) ?_ ?_;rotate_left;(intro w5 hS;obtain⟨e1,e2⟩:=gE.out _ hS;go_simp<;>rfl))
         | (refine cI af.o (by rfl) ?_)
         | (refine cJ (v:=?_) (f:=?_) (args:=?_) af.o (by rfl) ?_ ?_ ?_;rotate_left 3;(intro w5 hS;obtain⟨e1,e2⟩:=gE.out _ hS;go_simp;constructor<;>rfl);(intro w5 hS;(first | (with_reducible refine kp (yr.out _ hS) ?_ ?_;rfl;exact fun w6 dm=>hS.over dm)))));try simp only[Act.put,zA,zZ,zS])
        refine InText.nil fun w5 aK=>?_;clear af;clear hE yr gE;go_wp2_with fail;have vW:=lg.out;exact⟨⟨i+1,B9,n9,k9,F9,G9,uD,by omega,by simp,by omega,by omega,zH fun d=>(by rw[hr.an];exact HK.out.any rfl),zH (by rw[hr.an];exact hF.out),(by rw[hr.an];exact aK.sub (.cons _ (List.Sublist.refl _)))⟩,by simp[intOf];omega⟩
       ·have bu:((i:Int) != 3)=true:=by simp;omega
        have TI:(((eX i:Nat):Int) != M9)=false:=by rw[<- B8.out,if_neg yt];simp
        clear yt;refine cG (S:=(Env w ([ae o (aw c (d19 i).ok (d19 i).key (d19 i).val (d19 i).lv nx 1 fp n0 l0 t0 y0 an 0 (qV i))]++LT (aX C9 { nu c q with F:=F9,kq:=k9 } (vm p cc 0) (Rn i (eX i)).2.1 (Rn i (eX i)).2.2 G9 uD n9) [ae Z5 lf,ae Z4 k7,ae Z3 kF]))) (by kernel_rfl) (by kernel_rfl) hE.drew (fun hT=>?_);have af:=zH hT;clear hT
        repeat ((first
         | (refine cH (v:=?_) af.o (by rfl) ?_ ?_;rotate_left;(intro w5 hS;obtain⟨e1,e2⟩:=gE.out _ hS;go_simp<;>rfl))
         | (refine cI af.o (by rfl) ?_)
         | (refine cJ (v:=?_) (f:=?_) (args:=?_) af.o (by rfl) ?_ ?_ ?_;rotate_left 3;(intro w5 hS;obtain⟨e1,e2⟩:=gE.out _ hS;go_simp;constructor<;>rfl);(intro w5 hS;(first | (with_reducible refine kp (yr.out _ hS) ?_ ?_;rfl;exact fun w6 dm=>hS.over dm)))));try simp only[Act.put,zA,zZ,zS])
        refine InText.nil fun w5 aK=>?_;clear af;clear hE yr gE;go_wp2_with fail;have vW:=lg.out;exact⟨⟨i+1,B9,n9,k9,F9,G9,uD,by omega,by simp,by omega,by omega,zH fun d=>(by rw[hr.an];exact HK.out.any rfl),zH (by rw[hr.an];exact hF.out),(by rw[hr.an];exact aK.sub (.cons _ (List.Sublist.refl _)))⟩,by simp[intOf];omega⟩
  ·as_aux_lemma =>
    have cV:decide ((i:Int) < 5)=false:=by simp;omega
    have hn:=HC.out;go_wp2_with fail;have bj:=hE;refine (M3 (c:=c) (k:=3) (s:=4) (b:=0) (h:=2) (l:=9) (q:=q) 0 8 0 0 0 (.inr (.inl rfl)) rfl hE).mono ?_;rintro e w9 ⟨rfl,iE⟩;go_wp2_with fail;go_ret;exact⟨rfl,iE.below⟩
theorem QE:FV mA nt:=⟨by rw[mA],fun i=>by unfold nt;rw[mA],fun i=>by unfold nt;rw[sN],fun i j=>by unfold nt;rw[sN],Qv,Qw,Qx⟩
theorem QF (w:World) (hg:bE w):Calls prog 4 #[] w fun o w'=>o=.returned (.bool true)/\Below w.heap.size w w':=QC mA nt QE w hg
structure Pk where
 (X:Tm)
 (K:Kt)
 (po pq pg ph:Value)
 (st:Int)
 (ms:List Item)
def Pk.box (p:Pk):Item:=ae p.X.thr (bK p.X.c p.X.u p.X.dA p.X.dn p.X.dc p.K.T.nd (decide (p.K.pc≠0)) p.po p.pq p.pg p.ph p.st)
def Pk.its (C:Cf) (p:Pk):List Item :=
 dy p.X.c C.k C.s C.b C.h C.l p.K.T.e p.K.r p.K.T.hs 0 p.X.q::fU p.X.q p.X.F p.K.T.ql p.X.kq::ae p.X.u (bx C.k C.s C.b C.h C.l p.K.T.e p.X.A p.K.T.ql.length p.X.rc p.X.N p.K.T.hs p.K.r)::fx p.X.A p.X.rc p.K.T.ql::p.box::p.ms
def yu (p:Pk) (r:Rw):Prop:=p.X.dA=r.A/\p.X.dn=r.ds.length/\p.K=K0/\p.ms=[]/\p.st=0/\0<=p.X.N/\p.X.N<=4000000/\p.X.dc=r.cap
structure GS where
 (ps:List Pk)
 (G FU:Nat->Prop)
 (qc:bN)
 (n:Nat)
 (ml:List bT)
def EL (C:Cf) (sl:Value) (p cc m:Nat) (S:GS) (L:List Item):List Item :=
 gx sl (S.ps.map fun q=>q.X.thr)::fk p cc::dg cc S.G (ak S.ml) S.qc S.n::bP m S.FU S.ml::(S.ps.flatMap (Pk.its C)++L)
def RL (C:Cf) (sl:Value) (S:GS) (i:Nat) (L:List Item):List Item:=gx sl (S.ps.map fun q=>q.X.thr)::((S.ps.eraseIdx i).flatMap (Pk.its C)++L)
def TL (C:Cf) (p cc m:Nat) (S:GS) (q:Pk) (R:List Item):List Item :=
 LT (aX C q.X (vm p cc m) q.K (ak S.ml) S.G S.qc S.n) (LU (aW C q.X (vm p cc m) q.K S.FU S.ml) (q.box::(q.ms++R)))
theorem Gb {α:Type} {q:α}:∀ {l:List α} {i:Nat},l[i]?=some q->l.Perm (q::l.eraseIdx i)
 | [],_,h=>by simp at h
 | a::l,0,h=>by
  simp at h;subst h;exact List.Perm.refl _
 | a::l,i+1,h=>by
  have h':l[i]?=some q:=by simpa using h
  exact ((Gb h').cons a).trans (List.Perm.swap _ _ _)
theorem Gc {C:Cf} {sl:Value} {p cc m:Nat} {S:GS} {L:List Item} {i:Nat} {q:Pk} (hi:S.ps[i]?=some q):(EL C sl p cc m S L).Perm (TL C p cc m S q (RL C sl S i L)):=by
 have h:=(Gb hi).flatMap_right (Pk.its C);refine cm fun z=>?_;have hc:=h.count_eq z;simp only[EL,TL,RL,LT,LU,aX,aW,SP,SR,vm,Pk.its,List.flatMap_cons,List.count_cons,List.count_append] at hc ⊢;omega
structure yv (C:Cf) (B:Nat) (q:Pk) (r:Rw):Prop where
 (t:bJ C r.ds B (eU r.ds q.K) q.K)
 (m:yj C (eU r.ds q.K) q.X.c q.K q.po q.pq q.pg q.ph q.st q.ms)
 (dA:q.X.dA=r.A)
 (dn:q.X.dn=r.ds.length)
 (N:0<=q.X.N/\q.X.N<=4000000)
structure Gd (w0:World) (L:List Item) (C:Cf) (r:Rw):Prop where
 (row:lM w0 L r.A r.ds)
 (len:r.ds.length<=1000)
 (ins:∀ i,i < r.ds.length->aD (r.ds.getD i default).key/\aD (r.ds.getD i default).val)
 (op:∀ i,i < r.ds.length->(r.ds.getD i default).ok=8\/jE 3 C.s C.b C.h C.l (r.ds.getD i default).ok (r.ds.getD i default).key (r.ds.getD i default).val (r.ds.getD i default).lv=0)
structure qW (C:Cf) (rs:List Rw) (B:Nat) (S:GS):Prop where
 (f:db C (ak S.ml))
 (k:di C (ak S.ml))
 (n:S.n<=B)
 (ml:S.ml.length<=B)
 (len:S.ps.length=rs.length)
 (ps:∀ i,i < rs.length->∃ q,S.ps[i]?=some q/\yv C B q (rs.getD i default))
theorem yv.more {C:Cf} {B:Nat} {q:Pk} {r:Rw} (h:yv C B q r):yv C (B+1) q r:={ h with t:=h.t.more }
theorem lM.sub {w0:World} {L R:List Item} {A:Option Addr} {ds:List Dd} (hd:lM w0 L A ds) (hR:∀ a∈L,a∈R):lM w0 R A ds:=by
 rcases hd with h | ⟨g,off,hA,hc⟩
 ·exact .inl h
 ·exact .inr ⟨g,off,hA,fun i hi v hv=>hc i hi v (hv.sub hR)⟩
theorem lM.of_row {w0:World} {R:List Item} {A:Option Addr} {ds:List Dd} (hd:jQ pM 4 w0 A ds):lM w0 R A ds:=by
 rcases hd with h | ⟨b,off,hA,hl,hc⟩
 ·exact .inl h
 ·exact .inr ⟨b,off,hA,fun i hi v hv=>(hc i hi).below hv.1 hl⟩
section
variable {w0 w:World} {C:Cf} {sl:Value} {p cc m:Nat} {S:GS} {L:List Item} {rs:List Rw} {B:Nat}
theorem Env.toT {i:Nat} {q:Pk} (h:Env w0 (EL C sl p cc m S L) w) (hi:S.ps[i]?=some q):Env w0 (TL C p cc m S q (RL C sl S i L)) w:=h.perm (Gc hi)
theorem Env.toE {i:Nat} {q:Pk} (h:Env w0 (TL C p cc m S q (RL C sl S i L)) w) (hi:S.ps[i]?=some q):Env w0 (EL C sl p cc m S L) w:=h.perm (Gc hi).symm
structure QG (C:Cf) (ds:List Dd) (S S':GS) (i:Nat) (q q':Pk):Prop where
 (ps:S'.ps=S.ps.set i q')
 (thr:q'.X.thr=q.X.thr)
 (dc:q'.X.dc=q.X.dc)
 (c:q'.X.c=q.X.c)
 (K:q'.K=(iR C ds q.K (ak S.ml)).2.1)
 (st:q'.st=(iR C ds q.K (ak S.ml)).1)
 (ml:ak S'.ml=(iR C ds q.K (ak S.ml)).2.2)
 (qc:(kZ ds q.K=false->One S.qc S'.qc)/\(kZ ds q.K=true->S'.qc=S.qc))
theorem Ge {a:Item}:(a::EL C sl p cc m S L).Perm (EL C sl p cc m S (a::L)):=by
 refine cm fun z=>?_;simp only[EL,List.count_cons,List.count_append];omega
theorem Env.inE {a:Item} (h:Env w0 (a::EL C sl p cc m S L) w):Env w0 (EL C sl p cc m S (a::L)) w:=h.perm Ge
theorem Env.outE {a:Item} (h:Env w0 (EL C sl p cc m S (a::L)) w):Env w0 (a::EL C sl p cc m S L) w:=h.perm Ge.symm
theorem Env.dropE {a:Item} (h:Env w0 (EL C sl p cc m S (a::L)) w):Env w0 (EL C sl p cc m S L) w:=h.outE.sub (.cons _ (List.Sublist.refl _))
theorem Env.thrE {i:Nat} {q:Pk} (h:Env w0 (EL C sl p cc m S L) w) (hq:S.ps[i]?=some q):∀ j,w.cell? ⟨q.X.thr,j,none⟩=(bK q.X.c q.X.u q.X.dA q.X.dn q.X.dc q.K.T.nd (decide (q.K.pc≠0)) q.po q.pq q.pg q.ph q.st)[j]?:=(h.toT hq).rule 7 rfl
theorem QH {α:Type} [Inhabited α] {l:List α} {i:Nat} (h:i < l.length):l.getD i default∈l:=by
 rw[List.getD_eq_getElem?_getD,List.getElem?_eq_getElem h];exact List.getElem_mem h
theorem QI {ds:List Dd} {i:Nat} (h:i < ds.length):ds.getD i ⟨0,0,0,0,0⟩=ds.getD i default:=by simp[List.getD_eq_getElem?_getD,List.getElem?_eq_getElem h]
def QB (B:Nat) (q:bN):Prop:=(0<=q.l/\q.l<=B)/\(0<=q.s/\q.s<=B)/\(0<=q.w/\q.w<=B)/\(0<=q.a/\q.a<=B)
theorem QB.one {q q':bN} {B:Nat} (h:QB B q) (ho:One q q') (hB:B<=1000000):QB (B+1) q'/\q'.l+q'.s+q'.w+q'.a=q.l+q.s+q.w+q.a+1:=by
 obtain⟨⟨a1,a2⟩,⟨b1,b2⟩,⟨c1,c2⟩,d1,d2⟩:=h;have hw:∀ x:Int,0<=x->x<=1000000->wrap64 (x+1)=x+1:=fun x h1 h2=>df _ (by omega);unfold QB
 rcases ho with ⟨h1,h2,h3,h4⟩ | ⟨h1,h2,h3,h4⟩ | ⟨h1,h2,h3,h4⟩ | ⟨h1,h2,h3,h4⟩
 ·rw[hw _ a1 (by omega)] at h1;omega
 ·rw[hw _ b1 (by omega)] at h2;omega
 ·rw[hw _ c1 (by omega)] at h3;omega
 ·rw[hw _ d1 (by omega)] at h4;omega
theorem Ca (hg:bE w0) (hC:fC C) (h16:C.h.toNat<=16) (bH:C.h=(C.h.toNat:Int)) (jx:C.k=3) {i:Nat} (hr:Gd w0 L C (rs.getD i default)) (hS:qW C rs B S) (hB:B+1<=900000) (hi:i < rs.length) {q:Pk} (hq:S.ps[i]?=some q) (hE:Env w0 (EL C sl p cc m S L) w) :
  Calls prog 8 #[zP q.X.thr,zP p,zP m] w fun o w'=>o=.returned (.bool true)/\∃ (S':GS) (q':Pk),QG C (rs.getD i default).ds S S' i q q'/\qW C rs (B+1) S'/\Env w0 (EL C sl p cc m S' L) w':=by
 obtain⟨q0,iP,hP⟩:=hS.ps i hi;obtain rfl:q0=q:=by rw[hq] at iP;exact (Option.some.inj iP).symm
 have ag:=hE.toT hq;refine (Qn (X:=q0.X) (V:=vm p cc m) (K:=q0.K) (G:=S.G) (FU:=S.FU) (qc:=S.qc) (n:=S.n) (ml:=S.ml) (R:=RL C sl S i L) (ds:=(rs.getD i default).ds) (B:=B) (ms:=q0.ms) hg hC h16 bH hS.f hS.k hP.t (by omega) (by rw[hP.dA];exact hr.row.sub (fun a ha=>by simp[RL,ha])) hP.dn hr.len hr.ins jx hr.op (by have:=hS.n;unfold maxLen;omega) (by have:=hS.ml;omega) hP.N hP.m ag).mono ?_;rintro o w' ⟨ho,X',G',ca,bt,n',aR,jj,QJ,QK,QL,QM,rM,tc,fG,⟨jo,QN⟩,jw,gP,Gf,dh⟩;obtain⟨qn,j8,TJ,QO,Gg,Gh,Gi⟩:=rM;obtain⟨K',rv⟩:∃ K',K'=(iR C (rs.getD i default).ds q0.K (ak S.ml)).2.1:=⟨_,rfl⟩;obtain⟨QP,Gj⟩:∃ s,s=(iR C (rs.getD i default).ds q0.K (ak S.ml)).1:=⟨_,rfl⟩;rw[<- rv,<- Gj] at Gf dh;obtain⟨q',nR⟩:∃ q',q'=(⟨X',K',QJ,QK,QL,QM,QP,jj⟩:Pk):=⟨_,rfl⟩;have nG:i < S.ps.length:=by rw[hS.len];exact hi
 have mB:(S.ps.set i q')[i]?=some q':=by simp[nG]
 have QQ:(S.ps.set i q').map (fun q=>q.X.thr)=S.ps.map fun q=>q.X.thr:=by
  apply List.ext_getElem?;intro k;simp only[List.getElem?_map]
  by_cases hk:k=i
  ·subst hk;rw[mB,hq];simp only[Option.map_some];rw[nR];show some X'.thr=_;rw[qn]
  ·rw[List.getElem?_set_ne (fun e=>hk e.symm)]
 have az:Env w0 (EL C sl p cc m ⟨S.ps.set i q',G',ca,bt,n',aR⟩ L) w':=by
  refine Env.toE (i:=i) (q:=q') ?_ mB;show Env w0 (LT _ (LU _ (_::(q'.ms++(gx sl ((S.ps.set i q').map fun q=>q.X.thr)::(((S.ps.set i q').eraseIdx i).flatMap (Pk.its C)++L)))))) w';rw[QQ,List.eraseIdx_set_eq];unfold Pk.box;rw[nR];dsimp only;rw[qn,j8,QO,Gg,Gh,Gi];exact dh
 have hu:∀ x,aD ((iR C (rs.getD i default).ds q0.K (ak S.ml)).2.2 x):=fun x=>by
  rw[<- tc];exact (dh.cell 3 rfl).words.1 x
 have hD:∀ i9,((rs.getD i default).ds.getD i9 ⟨0,0,0,0,0⟩).ok=1->1<=((rs.getD i default).ds.getD i9 ⟨0,0,0,0,0⟩).lv/\((rs.getD i default).ds.getD i9 ⟨0,0,0,0,0⟩).lv<=((C.h.toNat:Nat):Int):=fun i9 h1=>by
  by_cases aE:i9 < (rs.getD i default).ds.length
  ·have jn:(rs.getD i default).ds.getD i9 ⟨0,0,0,0,0⟩=(rs.getD i default).ds.getD i9 default:=QI aE;rw[jn] at h1 ⊢;have h8:((rs.getD i default).ds.getD i9 default).ok≠8:=by omega
   have:=(BV h8 ((hr.op i9 aE).resolve_left h8)).2 h1;omega
  ·rw[List.getD_eq_getElem?_getD,List.getElem?_eq_none (by omega)] at h1;exact absurd h1 (by decide)
 have aG:=P6 hC hD hS.f hS.k hP.t hu;refine⟨ho,⟨S.ps.set i q',G',ca,bt,n',aR⟩,q',⟨rfl,by rw[nR];exact qn,by rw[nR];exact Gi,by rw[nR];exact j8,by rw[nR];exact rv,by rw[nR];exact Gj,tc,QN⟩,⟨?_,?_,?_,?_,?_,?_⟩,az⟩
 ·show db C (ak aR);rw[tc];exact aG.1
 ·show di C (ak aR);rw[tc];exact aG.2.1
 ·have:=hS.n;show n'<=B+1;omega
 ·have:=hS.ml;show aR.length<=B+1;omega
 ·show (S.ps.set i q').length=rs.length;rw[List.length_set];exact hS.len
 ·intro k hk
  by_cases he:k=i
  ·subst he;refine⟨_,mB,?_⟩;rw[nR];have h3:=aG.2.2;rw[<- rv] at h3;exact⟨h3,by show yj C _ X'.c K' _ _ _ _ _ jj;rw[j8];exact Gf,by show X'.dA=_;rw[Gg];exact hP.dA,by show X'.dn=_;rw[Gh];exact hP.dn,⟨jw,gP⟩⟩
  ·obtain⟨q9,h1,h2⟩:=hS.ps k hk;exact⟨q9,by show (S.ps.set i _)[k]?=_;rw[List.getElem?_set_ne (fun e=>he e.symm)];exact h1,h2.more⟩
theorem Cb (hS:qW C rs B S) (hB:B<=900000) {i:Nat} (hi:i < rs.length) {q:Pk} (hq:S.ps[i]?=some q) (hE:Env w0 (EL C sl p cc m S L) w) :
  Calls prog 9 #[zP q.X.thr] w fun o w'=>o=.returned (.bool true)/\Env w0 (EL C sl p cc m S L) w':=by
 obtain⟨q0,iP,hP⟩:=hS.ps i hi;obtain rfl:q0=q:=by rw[hq] at iP;exact (Option.some.inj iP).symm
 refine (Qs (X:=q0.X) (V:=vm p cc m) (K:=q0.K) (f:=ak S.ml) (G:=S.G) (FU:=S.FU) (qc:=S.qc) (n:=S.n) (ml:=S.ml) (R:=q0.ms++RL C sl S i L) (by have:=hP.t.t.len;omega) (hE.toT hq)).mono ?_;rintro o w' ⟨ho,dh⟩;exact⟨ho,Env.toE dh hq⟩
def qX:List bT:=cM [] (1,0,0) 1
theorem sO (x:aI):ak qX x=if x=(1,0,0) then 1 else 0:=by
 show ak [((1,0,0),1)] x=_;simp only[ak]
 by_cases hx:x=(1,0,0)
 ·rw[if_pos hx.symm,if_pos hx]
 ·rw[if_neg (fun e=>hx e.symm),if_neg hx]
theorem Gk (hC:jy C):db C (ak qX)/\di C (ak qX):=by
 have hs:=hC.s;have hl:=hC.l;have hz:aA 0=0:=by decide
 refine⟨⟨fun x=>?_,?_,fun i=>?_,?_⟩,⟨fun r=>?_,fun i l h9=>?_⟩⟩
 ·rw[sO]
  split<;>(unfold aD;omega)
 ·rw[sO,if_neg (by decide)];omega
 ·rw[sO,if_neg (by simp)];omega
 ·rw[sO,if_pos rfl];omega
 ·rw[sO,if_neg (by simp)];omega
 ·rw[sO,if_neg (by simp)];omega
theorem QR (hC:jy C) (hR:∀ i,i < rs.length->(rs.getD i default).ds.length<=30) (hlen:S.ps.length=rs.length) (fe:∀ i,i < rs.length->∃ q,S.ps[i]?=some q/\yu q (rs.getD i default)) (aQ:S.ml=qX) (hn:S.n<=1):qW C rs 40 S:=by
 refine⟨by rw[aQ];exact (Gk hC).1,by rw[aQ];exact (Gk hC).2,by omega,by rw[aQ];decide,hlen,fun i hi=>?_⟩;obtain⟨q,h1,h2,h3,h4,h5,h6,h7,h8,-⟩:=fe i hi;refine⟨q,h1,?_,?_,h2,h3,⟨h7,h8⟩⟩
 ·rw[h4];exact FR hC (by have:=hR i hi;omega)
 ·rw[h4,h5,h6];exact .inl ⟨rfl,fun _=>rfl,fun h=>absurd rfl h⟩
end
end
end Go.Proofs.YtleklonmmlfijaaGreatDoor
