/- What is proved on the way to the statement, part 8: contracts of the functions, among other things in memory. -/
import Derived.Test.YtleklonmmlfijaaGreatDoorQ7

open _root_.Go.Proofs.Tryz
set_option maxRecDepth 100000
set_option maxHeartbeats 25600000
namespace Go.Proofs.YtleklonmmlfijaaGreatDoor
section
open Go.RowKit Go.Maps
def mR (c:Nat) (key:Int) (L:Nat->Lm) (D:Nat->Nat × Value × Int) (l:Nat):Item:=ae (D l).1 (jI c l key false (D l).2.1 1 (D l).2.2 (iu 1 (L l)) (iw 1 (L l)) (L l))
def fI (c:Nat) (key:Int) (L:Nat->Lm) (D:Nat->Nat × Value × Int):Nat->Nat->List Item
 | _,0=>[]
 | lv,n+1=>mR c key L D (lv+1)::fI c key L D (lv+1) n
theorem vr {c:Nat} {key:Int} {L L':Nat->Lm} {D D':Nat->Nat × Value × Int}:∀ (n lv:Nat),(∀ l,lv < l->L l=L' l/\D l=D' l)->fI c key L D lv n=fI c key L' D' lv n
 | 0,_,_=>rfl
 | n+1,lv,h=>by
  have h1:=h (lv+1) (by omega);show mR _ _ _ _ _::_=mR _ _ _ _ _::_;rw[vr n (lv+1) fun l hl=>h l (by omega)];unfold mR;rw[h1.1,h1.2]
def o7 (w0:World) (R:List Item) (fb h:Nat) (key:Int) (S:ST) (s:Int) (F:Fm) (w:World):Prop :=
 S.ce=F.e/\S.cr=F.r/\((F.on=false/\s=0/\∃ g ps l0,ps.length=h/\Env w0 (ae fb (bq S.c key (mvL 124 fb) 0 g h l0)::ae g ps::LT S R) w) \/
  (F.on=true/\F.lv < h/\∃ g ps a D b1 b2 nx,ps.length=h/\ps[F.lv]?=some (zP a)/\(∀ l,F.lv < l->l < h->ps[l]?=some (zP ((D l).1)))/\(s=0->nx=cvP b1 b2) /\
    eD w0 (ae b1 [mvL 173 a]::ae b2 [mvL 174 fb]::ae fb (bq S.c key nx s g h F.lv)::ae g ps::(fI S.c key F.L D F.lv (h - 1 - F.lv)++R)) a F.lv key false S s (F.L F.lv) w))
def j4 (key:Int) (S:ST) (F:Fm) (G:Nat->Prop):ST:=if F.on then dB F.lv key false S (F.L F.lv) G else { S with ce:=bg (S.f (1,0,0)),qc:={ S.qc with l:=wrap64 (S.qc.l+1) } }
section
variable {w0 w:World} {R L:List Item} {fb g h c:Nat} {S:ST} {key:Int} {ps:List Value} {l0:Int} {F:Fm} {nx:Value} {st:Int}
theorem K6 (X:Nat) (u:Value) (hx:∀ (ar:Array Value) (v:World),(callFunc X ar).run prog v=.ok (.enter X ar) v) (Q:Ending->World->Prop)
  (hE:Env w0 (ae fb (bq c key (mvL X fb) 0 g h l0)::L) w)
  (hc:Calls prog X #[zP fb,u] w fun e w'=>∃ s,e=.returned (zI s)/\Q (.returned (zI s)) w') :
  Calls prog 109 #[zP fb,u] w Q:=by
 have gi:=zH (stepMv_r (o:=2) X hx (zP fb) u (fun e w'=>∃ s,e=.returned (zI s)/\Q (.returned (zI s)) w') (hE.rule 0 rfl 2) (hE.rule 0 rfl 3) (hc.mono fun e w' ⟨s,he,hq⟩=>⟨s,he,s,rfl,hq⟩));clear hc hE;go_enter func109,ntmps109;go_wp2_with fail;refine gi.out.mono ?_;rintro e w1 ⟨s,rfl,hQ⟩;go_wp2_with fail;exact hQ
theorem K7 (a b1 b2:Nat) (u:Value) (Q:Int->World->Prop)
  (hE:Env w0 (ae fb (bq c key (cvP b1 b2) 0 g h l0)::ae b1 [mvL 173 a]::L) w)
  (hc:Calls prog 173 #[zP a,u] w fun e w1=>∃ s,e=.returned (zI s)/\(s=0->Q 0 w1)/\(s≠0->w1.cell? ⟨b2,0,none⟩=some (mvL 174 fb)/\Calls prog 174 #[zP fb,zI s] w1 fun e2 w2=>∃ s2,e2=.returned (zI s2)/\Q s2 w2)) :
  Calls prog 109 #[zP fb,u] w fun e w'=>∃ s,e=.returned (zI s)/\Q s w':=by
 have gi:=zH (stepP_r (o:=2) 173 (fun _ _=>by kernel_rfl) (zP a) u (zP fb) 174 (fun _ _=>by kernel_rfl) b1 b2 Q (hE.rule 0 rfl 2) (hE.rule 0 rfl 3) (hE.rule 1 rfl 0) hc);clear hc hE;go_enter func109,ntmps109;go_wp2_with fail;refine gi.out.mono ?_;rintro e w1 ⟨s,rfl,hQ⟩;go_wp2_with fail;go_ret;exact⟨s,rfl,hQ⟩
theorem K8 (t:Nat) (pd:t+1<=1000) (fe:ps.length=t+1) (hE:Env w0 (ae fb (bq S.c key nx st g (t+1) l0)::ae g ps::LT S R) w) :
  Calls prog 124 #[zP fb,.iface 28 (zP S.p)] w fun o w'=>o=.returned (zI 0)/\∃ b1 b2 a,Env w0 (ae b1 [mvL 173 a]::ae b2 [mvL 174 fb]::ae a (aC S.c t key false (mvL 192 a) 0 4 0 t 0 0 0 0 false 0)::ae fb (bq S.c key (cvP b1 b2) st g (t+1) t)::ae g (ps.set t (zP a))::LT { S with ce:=bg (S.f (1,0,0)),qc:={ S.qc with l:=wrap64 (S.qc.l+1) } } R) w':=by
 have hc:=Dj _ (rfl:S.f (1,0,0)=S.f (1,0,0)) 2 4 5 (by decide) (by decide) hE rfl rfl rfl;simp only[zS,zZ] at hc;have HC:=zH hc;have ij:wrap64 ((t:Int)+1 - 1)=(t:Int):=by rw[df _ (by omega)];omega
 have gd:wrap64 (((t+1:Nat):Int) - 1)=(t:Int):=by rw[df _ (by omega)];omega
 have tD:wrap64 (t:Int)=(t:Int):=df _ (by omega);clear hc;have r:=hE.rule 0 rfl;unfold bq at r;go_enter func124,ntmps124;go_wp2_with fail;refine HC.out.mono ?_;rintro o w1 ⟨rfl,ag⟩;replace ag:Env w0 (ae fb (bq S.c key nx st g (t+1) l0)::ae g ps::LT { S with ce:=bg (S.f (1,0,0)),qc:={ S.qc with l:=wrap64 (S.qc.l+1) } } R) w1:=ag;clear HC hE r;generalize dz:({ S with ce:=bg (S.f (1,0,0)),qc:={ S.qc with l:=wrap64 (S.qc.l+1) } }:ST)=S1 at *;have za:=zH dz;clear dz;have r:=ag.rule 0 rfl;unfold bq at r;go_wp2_with fail;refine (xu _ _).mono ?_;rintro o w2 ⟨rfl,hb⟩;replace ag:=ag.over hb;clear hb r;go_wp2_with fail;refine (Ea t (by omega) pd fe 4 0 t ag).mono ?_;rintro o w3 ⟨rfl,b1,b2,a,bM⟩;go_wp2_with fail;go_ret;have h9:=za.out;subst h9;exact⟨rfl,b1,b2,a,bM⟩
theorem La (hE:Env w0 (ae fb (bq c key nx st g h l0)::L) w) :
  Calls prog 174 #[zP fb,zI 2] w fun o w'=>o=.returned (zI 0)/\Env w0 (ae fb (bq c key (mvL 124 fb) st g h l0)::L) w':=by
 have cf:=cg;have jG:=zH (goOn_r (o:=2) 0 (.func 124) #[zP fb] #[] (by simp[bq]) hE rfl);clear hE;go_enter func174,ntmps174;go_wp2_with fail;refine jG.out.mono ?_;rintro o w1 ⟨rfl,ag⟩;go_wp2_with fail;go_ret;exact⟨rfl,ag⟩
theorem Lb (hE:Env w0 (ae fb (bq c key nx st g h 0)::L) w) :
  Calls prog 174 #[zP fb,zI 1] w fun o w'=>o=.returned (zI 1)/\Env w0 (ae fb (bq c key nx 1 g h 0)::L) w':=by
 have Av:=zH (end_r (o:=2) 0 1 (by simp[bq]) hE rfl);have r:=hE.rule 0 rfl;unfold bq at r;clear hE;go_enter func174,ntmps174;go_wp2_with fail;refine Av.out.mono ?_;rintro o w1 ⟨rfl,ag⟩;go_wp2_with fail;go_ret;exact⟨rfl,ag⟩
theorem Lc (t:Nat) (aE:t+1 < h) (hh:h<=1000) (fe:ps.length=h) (a:Nat) (lx:Value) (x y z W C X wd:Int) (pf:Bool) (pv:Int) (hA:fc ((t+1:Nat):Int) (x,y,z)) (o6:ps[t+1]?=some (zP a)) (i:Nat) (hi:L[i]?=some (ae a (aC c ((t+1:Nat):Int) key false lx 1 x y z W C X wd pf pv))) (hE:Env w0 (ae fb (bq c key nx st g h ((t+1:Nat):Int))::ae g ps::L) w) :
  Calls prog 174 #[zP fb,zI 1] w fun o w'=>o=.returned (zI 0)/\∃ b1 b2 a2,Env w0 (ae b1 [mvL 173 a2]::ae b2 [mvL 174 fb]::ae a2 (aC c t key false (mvL 192 a2) 0 x y (z - 1) 0 0 0 0 false 0)::ae fb (bq c key (cvP b1 b2) st g h t)::ae g (ps.set t (zP a2))::L) w':=by
 have HB:Hid (∀ v,Env w0 (ae fb (bq c key nx st g h ((t+1:Nat):Int))::ae g ps::L) v->Calls prog 193 #[zP fb] v fun o w'=>o=.returned (.agg #[zI x,zI y,zI (z - 1),zI 0])/\Env w0 (ae fb (bq c key nx st g h ((t+1:Nat):Int))::ae g ps::L) w'):=zH fun v hv=>by
  rcases hA with e | ⟨sl,-,-,e⟩
  ·simp only[Prod.mk.injEq] at e;obtain⟨rfl,rfl,rfl⟩:=e;exact K2 (t+1) (by omega) aE hh o6 i hi hv
  ·simp only[Prod.mk.injEq] at e;obtain⟨rfl,rfl,rfl⟩:=e;exact K3 (t+1) (by omega) aE hh y o6 i hi hv
 have Aw:Hid (∀ v,Env w0 (ae fb (bq c key nx st g h ((t+1:Nat):Int))::ae g ps::L) v->_):=zH fun v hv=>Ea t (show t < h by omega) hh fe x y (z - 1) hv;have ij:IntKind.i64.wrap ((t:Int)+1 - 1)=(t:Int):=by rw[lU,df _ (by omega)];omega
 have gd:IntKind.i64.wrap (((t+1:Nat):Int) - 1)=(t:Int):=by rw[lU,df _ (by omega)];omega
 have tD:IntKind.i64.wrap (t:Int)=(t:Int):=by rw[lU,df _ (by omega)]
 have bu:(((t+1:Nat):Int)==0)=false:=by simp;omega
 have qu:((t:Int)+1==0)=false:=by simp;omega
 have HE:=zH hE;have r:=hE.rule 0 rfl;unfold bq at r;obtain⟨zz,jC⟩:∃ zz,z - 1=zz:=⟨_,rfl⟩;simp only[jC] at HB Aw ⊢;clear hE hi o6 hA jC;go_enter func174,ntmps174;go_wp2_with fail;refine Ord.wp_chain2 [7,8] (fun _=>True) (fun k w'=>if k<=1 then Env w0 (ae fb (bq c key nx st g h ((t+1:Nat):Int))::ae g ps::L) w' else ∃ b1 b2 a2,Env w0 (ae b1 [mvL 173 a2]::ae b2 [mvL 174 fb]::ae a2 (aC c t key false (mvL 192 a2) 0 x y zz 0 0 0 0 false 0)::ae fb (bq c key (cvP b1 b2) st g h t)::ae g (ps.set t (zP a2))::L) w') (by kernel_rfl) (by kernel_rfl) (by kernel_rfl) trivial HE.out.drew (fun hT=>?_);have af:=zH hT;clear hT
 repeat (refine Ord.ch2_value (v:=?_) af.o (by decide) (by rfl) ?_ ?_;rotate_left;(intro w5 hS;skip;go_simp<;>rfl);(try simp only[Act.put,zA,zZ,zS]))
 refine Ord.ch2_earlyp 1 [5,4] af.o (by decide) (by rfl) (by kernel_rfl) (by rfl) (by decide) (by rfl) (v:=zI ((t:Int)+1)) ?_ ?_
 ·intro w5 j hj _ hA;rw[if_pos hj] at hA;have r:=hA.rule 0 rfl;unfold bq at r;go_simp<;>rfl
 try simp only[Act.put,zA,zZ,zS]
 repeat (refine Ord.ch2_value (v:=?_) af.o (by decide) (by rfl) ?_ ?_;rotate_left;(intro w5 hS;skip;go_simp<;>rfl);(try simp only[Act.put,zA,zZ,zS]))
 refine Ord.ch2_turn 0 af.o (by rfl) (by decide) (Or.inl rfl) (by rfl) (v:=.agg #[zI x,zI y,zI zz,zI 0]) ?_ ?_
 ·intro w5 _ hA;rw[if_pos (by decide)] at hA;go_simp;simp only[Ord.LandsIn];refine (HB.out _ hA).mono ?_;rintro o w6 ⟨rfl,aq⟩;exact⟨rfl,aq⟩
 try simp only[Act.put,zA,zZ,zS]
 repeat (refine Ord.ch2_value (v:=?_) af.o (by decide) (by rfl) ?_ ?_;rotate_left;(intro w5 hS;skip;go_simp<;>rfl);(try simp only[Act.put,zA,zZ,zS]))
 refine Ord.ch2_turn 1 af.o (by rfl) (by decide) (Or.inr ⟨_,rfl,by kernel_rfl⟩) (by rfl) (v:=zI 0) ?_ ?_
 ·intro w5 _ hA;rw[if_pos (by decide)] at hA;go_simp;simp only[Ord.LandsIn];refine (Aw.out _ hA).mono ?_;rintro o w6 ⟨rfl,b1,b2,a2,aq⟩;exact⟨rfl,b1,b2,a2,aq⟩
 try simp only[Act.put,zA,zZ,zS]
 repeat (refine Ord.ch2_value (v:=?_) af.o (by decide) (by rfl) ?_ ?_;rotate_left;(intro w5 hS;skip;go_simp<;>rfl);(try simp only[Act.put,zA,zZ,zS]))
 refine Ord.InText.nil fun w5 hS=>?_;clear af;obtain⟨hC,hA⟩:=Ord.chain2_end hS;clear hS;rw[if_neg (by decide)] at hA;obtain⟨b1,b2,a2,hA⟩:=hA;clear hC HB Aw HE r;go_wp2_with fail;go_ret;exact⟨rfl,b1,b2,a2,hA⟩
end
section
variable {w0 w:World} {R:List Item} {fb h:Nat} {S:ST} {key:Int} {F:Fm}
theorem Ld (hh:1<=h) (pd:h<=1000) (hF:tQ h F) (hg:bE w0) (hm:S.m < maxLen) (hR:o7 w0 R fb h key S 0 F w) :
  Calls prog 109 #[zP fb,.iface 28 (zP S.p)] w fun o w'=>∃ s,o=.returned (zI s)/\s=(bm h key F S.f).1/\∃ G',o7 w0 R fb h key (j4 key S F G') s (bm h key F S.f).2.1 w':=by
 obtain⟨he,hr,⟨kL,-,g,ps,l0,fe,hE⟩ | ⟨eT,aE,g,ps,a,D,b1,b2,nx,fe,qD,mg,bo,hL⟩⟩:=hR
 ·obtain⟨t,rfl⟩:∃ t,h=t+1:=⟨h - 1,by omega⟩;have hM:bm (t+1) key F S.f=(0,{ F with on:=true,lv:=t,L:=cN F.L t (L0 (4,0,(t:Int))),e:=bg (S.f (1,0,0)) },S.f):=by unfold bm;rw[kL];rfl
  have hS:∀ G,j4 key S F G={ S with ce:=bg (S.f (1,0,0)),qc:={ S.qc with l:=wrap64 (S.qc.l+1) } }:=fun G=>by unfold j4;rw[kL];rfl
  rw[hM];refine (K6 124 _ (fun _ _=>by kernel_rfl) _ hE ((K8 t pd fe hE).mono ?_));rintro o w1 ⟨rfl,b1,b2,a,ag⟩;refine⟨0,rfl,0,rfl,rfl,S.G,?_⟩;rw[hS];refine⟨rfl,hr,.inr ⟨rfl,Nat.lt_succ_self t,g,ps.set t (zP a),a,fun _=>(0,undef,0),b1,b2,cvP b1 b2,by rw[List.length_set];exact fe,by show (ps.set t _)[t]?=_;rw[List.getElem?_set_self (by omega)],fun l h1 h2=>?_,fun _=>rfl,?_⟩⟩
  ·exact absurd h2 (by have:t < l:=h1;omega)
  ·refine⟨mvL (iS 0) a,0,kC,kC,fun _=>?_,?_⟩
   ·have e9:(cN F.L t (L0 (4,0,(t:Int))) t)=L0 (4,0,(t:Int)):=gD _ _ _;show Ah a (cN F.L t _ t).pc _ _ _/\((cN F.L t _ t).pc=7->_)/\((cN F.L t _ t).pc=9->_);rw[e9];exact⟨⟨fun _=>rfl,fun h=>absurd h (by simp[L0,isVal])⟩,fun h=>absurd h (by simp[L0]),fun h=>absurd h (by simp[L0])⟩
   ·have e9:(cN F.L t (L0 (4,0,(t:Int))) t)=L0 (4,0,(t:Int)):=gD _ _ _;show Env w0 (ae a (jI S.c t key false (mvL (iS 0) a) 0 0 (iu 0 (cN F.L t (L0 (4,0,(t:Int))) t)) (iw 0 (cN F.L t (L0 (4,0,(t:Int))) t)) (cN F.L t (L0 (4,0,(t:Int))) t))::kC::kC::LT _ (ae b1 _::ae b2 _::ae fb (bq S.c key (cvP b1 b2) 0 g (t+1) t)::ae g _::(fI _ _ _ _ t (t+1 - 1 - t)++R))) w1;rw[e9,show t+1 - 1 - t=0 by omega];have az:Env w0 (ae b1 [mvL 173 a]::ae b2 [mvL 174 fb]::ae a (jI S.c t key false (mvL (iS 0) a) 0 0 (iu 0 (L0 (4,0,(t:Int)))) (iw 0 (L0 (4,0,(t:Int)))) (L0 (4,0,(t:Int))))::ae fb (bq S.c key (cvP b1 b2) 0 g (t+1) t)::ae g (ps.set t (zP a))::LT { S with ce:=bg (S.f (1,0,0)),qc:={ S.qc with l:=wrap64 (S.qc.l+1) } } R) w1:=ag;refine Env.none2 (az.perm (cm fun z=>?_));simp only[fI,LT,List.nil_append,List.count_cons];omega
 ·obtain⟨S9,xE,hA⟩:=hF eT;have aH:(0:Int)<=(F.lv:Int)/\(F.lv:Int)<=1000000:=by omega
  have bY:=KV xE aH (hA.wf (by omega)) hg hm hL;have ei:=xD F.lv key false S.ce (F.L F.lv) S.f;have fQ:fc F.lv (aF F.lv key false S.ce (F.L F.lv) S.f).2.1.p:=hA.lane xE.C;have hM:bm h key F S.f=(if (aF F.lv key false S.ce (F.L F.lv) S.f).1=1/\F.lv=0 then 1 else 0,
   (if (aF F.lv key false S.ce (F.L F.lv) S.f).1=2 then { F with on:=false,r:=cU S.ce (F.L F.lv) S.f S.cr }
     else if (aF F.lv key false S.ce (F.L F.lv) S.f).1=1/\F.lv≠0 then
      { F with lv:=F.lv - 1,L:=cN (cN F.L F.lv (aF F.lv key false S.ce (F.L F.lv) S.f).2.1) (F.lv - 1) (L0 (kB (aF F.lv key false S.ce (F.L F.lv) S.f).2.1.p)),r:=cU S.ce (F.L F.lv) S.f S.cr }
     else { F with L:=cN F.L F.lv (aF F.lv key false S.ce (F.L F.lv) S.f).2.1,r:=cU S.ce (F.L F.lv) S.f S.cr }),
   (aF F.lv key false S.ce (F.L F.lv) S.f).2.2):=by unfold bm;rw[if_pos eT,he,hr]
  have hS:∀ G,j4 key S F G=dB F.lv key false S (F.L F.lv) G:=fun G=>by unfold j4;rw[if_pos eT]
  have iT:∀ G,(dB F.lv key false S (F.L F.lv) G).ce=S.ce/\(dB F.lv key false S (F.L F.lv) G).cr=cU S.ce (F.L F.lv) S.f S.cr/\(dB F.lv key false S (F.L F.lv) G).c=S.c/\(dB F.lv key false S (F.L F.lv) G).p=S.p:=fun G=>⟨rfl,rfl,rfl,rfl⟩;obtain⟨ny,wd,B1,B2,-,hE⟩:=hL;obtain rfl:=bo rfl;have dv:=hE.perm (L':=ae fb (bq S.c key (cvP b1 b2) 0 g h F.lv)::ae b1 [mvL 173 a]::(ae a (jI S.c F.lv key false ny 0 wd (iu 0 (F.L F.lv)) (iw 0 (F.L F.lv)) (F.L F.lv))::B1::B2::LT S (ae b2 [mvL 174 fb]::ae g ps::(fI S.c key F.L D F.lv (h - 1 - F.lv)++R)))) (cm fun z=>by
   simp only[LT,List.count_cons,List.count_append];omega)
  rw[hM];simp only[hS];refine K7 a b1 b2 _ (fun s w'=>s=_/\∃ G',o7 w0 R fb h key (dB F.lv key false S (F.L F.lv) G') s _ w') dv ?_;refine bY.mono ?_;rintro o w1 ⟨rfl,G',r6⟩;obtain⟨vt,vu,om,Le⟩:=iT G';obtain⟨S',gF⟩:∃ S',dB F.lv key false S (F.L F.lv) G'=S':=⟨_,rfl⟩;rw[gF] at r6 vt vu om Le;generalize aF F.lv key false S.ce (F.L F.lv) S.f=q at *;generalize cU S.ce (F.L F.lv) S.f S.cr=ro at *;obtain⟨q1,Lq,fq⟩:=q;dsimp only at ei fQ r6 ⊢;clear hM hS iT bY dv hE;refine⟨q1,rfl,fun h0=>?_,fun h0=>?_⟩
  ·subst h0;rw[if_neg (by simp),if_neg (by decide),if_neg (by simp)];refine⟨rfl,G',?_⟩;rw[gF];have sa:fI S'.c key (cN F.L F.lv Lq) D F.lv (h - 1 - F.lv)=fI S.c key F.L D F.lv (h - 1 - F.lv):=by
    rw[om];exact vr _ _ fun l hl=>⟨gQ _ _ (by omega),rfl⟩
   refine⟨vt.trans he,vu,.inr ⟨eT,aE,g,ps,a,D,b1,b2,cvP b1 b2,fe,qD,mg,fun _=>rfl,?_⟩⟩;show eD w0 (_::_::ae fb (bq S'.c key _ 0 g h F.lv)::_::(fI S'.c key (cN F.L F.lv Lq) D F.lv (h - 1 - F.lv)++R)) a F.lv key false S' 0 (cN F.L F.lv Lq F.lv) w1;rw[sa,gD,om];exact r6
  ·obtain⟨mS,mT,B3,B4,-,dh⟩:=r6;refine⟨(dh.perm (L':=ae b2 [mvL 174 fb]::(ae a (jI S'.c F.lv key false mS q1 mT (iu q1 Lq) (iw q1 Lq) Lq)::B3::B4::LT S' (ae b1 [mvL 173 a]::ae fb (bq S.c key (cvP b1 b2) 0 g h F.lv)::ae g ps::(fI S.c key F.L D F.lv (h - 1 - F.lv)++R)))) (cm fun z=>by
    simp only[LT,List.count_cons,List.count_append];omega)).rule 0 rfl 0,?_⟩
   have az:=dh.perm (L':=ae fb (bq S.c key (cvP b1 b2) 0 g h F.lv)::ae g ps::(ae a (jI S'.c F.lv key false mS q1 mT (iu q1 Lq) (iw q1 Lq) Lq)::B3::B4::LT S' (ae b1 [mvL 173 a]::ae b2 [mvL 174 fb]::(fI S.c key F.L D F.lv (h - 1 - F.lv)++R)))) (cm fun z=>by
    simp only[LT,List.count_cons,List.count_append];omega)
   clear dh
   rcases ei with h1 | h1 | h1
   ·exact absurd h1 h0
   ·subst h1
    by_cases eI:F.lv=0
    ·rw[eI,show ((0:Nat):Int)=0 from rfl] at az;refine (Lb az).mono ?_;rintro o w2 ⟨rfl,bM⟩;refine⟨1,rfl,?_⟩;rw[if_pos ⟨rfl,eI⟩,if_neg (by decide),if_neg (fun hx=>hx.2 eI)];refine⟨rfl,G',?_⟩;rw[gF];have sa:fI S'.c key (cN F.L F.lv Lq) D F.lv (h - 1 - F.lv)=fI S.c key F.L D F.lv (h - 1 - F.lv):=by
      rw[om];exact vr _ _ fun l hl=>⟨gQ _ _ (by omega),rfl⟩
     refine⟨vt.trans he,vu,.inr ⟨eT,aE,g,ps,a,D,b1,b2,cvP b1 b2,fe,qD,mg,fun _=>rfl,?_⟩⟩;show eD w0 (_::_::ae fb (bq S'.c key _ 1 g h F.lv)::_::(fI S'.c key (cN F.L F.lv Lq) D F.lv (h - 1 - F.lv)++R)) a F.lv key false S' 1 (cN F.L F.lv Lq F.lv) w2;rw[sa,gD,om,eI,show ((0:Nat):Int)=0 from rfl];refine⟨mS,mT,B3,B4,fun hx=>absurd hx (by decide),bM.perm (cm fun z=>?_)⟩;simp only[LT,List.count_cons,List.count_append,eI];omega
    ·obtain⟨t,ht⟩:∃ t,F.lv=t+1:=⟨F.lv - 1,by omega⟩;rw[ht] at az fQ aE qD;refine (Lc t aE pd fe a mS Lq.p.1 Lq.p.2.1 Lq.p.2.2 Lq.W Lq.C Lq.X mT (iu 1 Lq) (iw 1 Lq) fQ qD 0 (by rw[om];rfl) az).mono ?_;rintro o w2 ⟨rfl,b3,b4,a2,bM⟩;refine⟨0,rfl,?_⟩;rw[if_neg (fun hx=>eI hx.2),if_neg (by decide),if_pos ⟨rfl,eI⟩];refine⟨rfl,G',?_⟩;rw[gF];have uT:F.lv - 1=t:=by omega
     have sa:fI S'.c key (cN (cN F.L F.lv Lq) t (L0 (kB Lq.p))) (cN D (t+1) (a,mS,mT)) t (h - 1 - t)=ae a (jI S'.c ((t+1:Nat):Int) key false mS 1 mT (iu 1 Lq) (iw 1 Lq) Lq)::fI S.c key F.L D F.lv (h - 1 - F.lv):=by
      rw[show h - 1 - t=(h - 1 - F.lv)+1 by omega];show mR _ _ _ _ (t+1)::fI _ _ _ _ (t+1) _=_;rw[<- ht,om]
      congr 1
      ·unfold mR;rw[gD,gQ _ _ (show F.lv≠t by omega),gD]
      ·exact vr _ _ fun l hl=>⟨by rw[gQ _ _ (show l≠t by omega),gQ _ _ (show l≠F.lv by omega)],gQ _ _ (show l≠F.lv by omega)⟩
     refine⟨vt.trans he,vu,.inr ⟨eT,?_,g,ps.set t (zP a2),a2,cN D (t+1) (a,mS,mT),b3,b4,cvP b3 b4,by rw[List.length_set];exact fe,?_,?_,fun _=>rfl,?_⟩⟩
     ·show F.lv - 1 < h;omega
     ·show (ps.set t _)[F.lv - 1]?=_;rw[uT,List.getElem?_set_self (by omega)]
     ·show ∀ l,F.lv - 1 < l->l < h->(ps.set t _)[l]?=_;rw[uT];intro l qe bB;rw[List.getElem?_set_ne (by omega)]
      by_cases oN:l=t+1
      ·subst oN;rw[gD];exact qD
      ·rw[gQ _ _ oN];exact mg l (by omega) bB
     ·show eD w0 (_::_::ae fb (bq S'.c key _ 0 g h ((F.lv - 1:Nat):Int))::_::(fI S'.c key (cN (cN F.L F.lv Lq) (F.lv - 1) (L0 (kB Lq.p))) (cN D (t+1) (a,mS,mT)) (F.lv - 1) (h - 1 - (F.lv - 1))++R)) a2 ((F.lv - 1:Nat):Int) key false S' 0 (cN (cN F.L F.lv Lq) (F.lv - 1) (L0 (kB Lq.p)) (F.lv - 1)) w2;rw[uT,sa,gD];refine⟨mvL (iS 0) a2,0,kC,kC,fun _=>⟨⟨fun _=>rfl,fun h=>absurd h (by simp[L0,isVal])⟩,fun h=>absurd h (by simp[L0]),fun h=>absurd h (by simp[L0])⟩,?_⟩;have bD:Env w0 (ae b3 [mvL 173 a2]::ae b4 [mvL 174 fb]::ae a2 (jI S'.c t key false (mvL (iS 0) a2) 0 0 (iu 0 (L0 (kB Lq.p))) (iw 0 (L0 (kB Lq.p))) (L0 (kB Lq.p)))::ae fb (bq S'.c key (cvP b3 b4) 0 g h t)::ae g (ps.set t (zP a2))::(ae a (jI S'.c ((t+1:Nat):Int) key false mS 1 mT (iu 1 Lq) (iw 1 Lq) Lq)::LT S' (fI S.c key F.L D F.lv (h - 1 - F.lv)++R))) w2:=by
       have h9:=bM.perm (L':=(ae b3 [mvL 173 a2]::ae b4 [mvL 174 fb]::ae a2 (aC S.c t key false (mvL 192 a2) 0 Lq.p.1 Lq.p.2.1 (Lq.p.2.2 - 1) 0 0 0 0 false 0)::ae fb (bq S.c key (cvP b3 b4) 0 g h t)::ae g (ps.set t (zP a2))::(ae a (jI S'.c ((t+1:Nat):Int) key false mS 1 mT (iu 1 Lq) (iw 1 Lq) Lq)::LT S' (fI S.c key F.L D (t+1) (h - 1 - (t+1))++R)))++[B3,B4,ae b1 [mvL 173 a],ae b2 [mvL 174 fb]]) (cm fun z=>by
        simp only[LT,List.count_cons,List.count_append,List.count_nil,List.cons_append];omega)
       rw[ht,om];rw[om] at h9;exact h9.sub (List.sublist_append_left _ _)
      refine Env.none2 (bD.perm (cm fun z=>?_));simp only[LT,List.count_cons,List.count_append];omega
   ·subst h1;refine (La az).mono ?_;rintro o w2 ⟨rfl,bM⟩;refine⟨0,rfl,?_⟩;rw[if_neg (fun hx=>absurd hx.1 (by decide)),if_pos rfl];refine⟨rfl,G',?_⟩;rw[gF];refine⟨vt.trans he,vu,.inl ⟨rfl,rfl,g,ps,F.lv,fe,?_⟩⟩;rw[om];have h9:=bM.perm (L':=(ae fb (bq S.c key (mvL 124 fb) 0 g h F.lv)::ae g ps::LT S' R)++(ae a (jI S'.c F.lv key false mS 2 mT (iu 2 Lq) (iw 2 Lq) Lq)::B3::B4::ae b1 [mvL 173 a]::ae b2 [mvL 174 fb]::fI S.c key F.L D F.lv (h - 1 - F.lv))) (cm fun z=>by
     simp only[LT,List.count_cons,List.count_append,List.cons_append];omega)
    exact h9.sub (List.sublist_append_left _ _)
end
end
section
open Go.RowKit
theorem Lf (z:Value) (hz:z.cells=#[z]) (n:Nat):madeCells z.cells (n * 1)=(List.replicate n z).toArray:=by
 apply Array.ext
 ·simp[size_madeCells]
 ·intro i h1 h2;simp only[madeCells,hz,Array.getElem_map,Array.getElem_range,List.getElem_toArray,List.getElem_replicate,List.size_toArray,List.length_cons,List.length_nil];simp[Nat.mod_one]
theorem Lg {P:Program} (z:Value) (hz:z.cells=#[z]) (t e:TypeId) (ht:P.underlying t=some (.slice e)) (ly:(P.info? e).map (fun i=>(i.zero,i.size,i.bytes))=some (some z,1,8))
  (kl kc:IntKind) (n:Nat) (hn:n<=1099511627776) (w:World) :
  (Instr.makeSlice t (.int kl (n:Int)) (.int kc (n:Int))).run P w=.ok (.slice (some ⟨w.heap.size,0,none⟩) n n) (w.alloc (.cells (List.replicate n z).toArray e)):=by
 obtain⟨i,hi,jC⟩:=Option.map_eq_some_iff.1 ly;simp only[Prod.mk.injEq] at jC;obtain⟨jR,hs,hb⟩:=jC;have hr:=run_make (P:=P) w t e i z ht hi jR kl kc n n (by omega) (Int.le_refl _) (by rw[hb];omega) (by omega);simp only[Int.toNat_natCast,hs,Lf z hz] at hr;exact hr
theorem Lh {P:Program} (w:World) {ops:Array Oper} {rest:List Oper} {o:Oper} {a:Act} {Q:Exit->Act->World->Prop}
  (hg:o.guard=none) (l c:Operand) (t:TypeId) (s5:o.op=Op.makeSlice t l c) (z:Value) (hz:z.cells=#[z])
  (e:TypeId) (ht:P.underlying t=some (.slice e)) (ly:(P.info? e).map (fun i=>(i.zero,i.size,i.bytes))=some (some z,1,8))
  (kl kc:IntKind) (N M:Int) (n:Nat) (hl:a.eval l=.int kl N) (hc:a.eval c=.int kc M) (hN:N=(n:Int)) (hM:M=(n:Int)) (hn:n<=1099511627776)
  (hK:wpList P ops Q rest (a.put o.dst (.slice (some ⟨w.heap.size,0,none⟩) n n)) (w.alloc (.cells (List.replicate n z).toArray e))) :
  wpList P ops Q (o::rest) a w:=by
 refine wpList_plain hg fun K rv=>?_;subst hN;subst hM;have cZ:=Lg (P:=P) z hz t e ht ly kl kc n hn w;unfold Oper.wp;simp[execOp,s5,hl,hc,cZ,Result.andThen];exact rv _ _ hK
end
section
open Go.RowKit Go.Maps
theorem Li:(prog.info? 224).map (fun i=>(i.zero,i.size,i.bytes))=some (some (.pointer none),1,8):=by kernel_rfl
theorem Lj (v:World) (a b c d e:Int):(Instr.field 23 (.agg #[zI a,zI b,zI c,zI d,zI e]) 0).run prog v=.ok (zI a) v:=by kernel_rfl
theorem Ed (v:World) (a b c d e:Int):(Instr.field 23 (.agg #[zI a,zI b,zI c,zI d,zI e]) 3).run prog v=.ok (zI d) v:=by kernel_rfl
section
variable {w0 w:World} {L:List Item} {c q:Nat} {k s b l e r hs hi:Int} {h:Nat}
theorem Lk (i:Nat) (key:Int) (hh:h<=1000) (hm:L[i]?=some (dy c 3 s b h l e r hs hi q)) (hE:Env w0 L w) :
  Calls prog 107 #[zP c,zU key] w fun o w'=>∃ fb g,o=.returned (zP fb)/\Env w0 (ae fb (bq c key (mvL 124 fb) 0 g h 0)::ae g (List.replicate h (.pointer none))::L) w':=by
 have cf:=cg;have Ee:=Lj;have Ll:=Ed;have mh:=zH fun (v:World) (hv:Env w0 L v)=>nT (hv.get i hm);have pd:h<=1099511627776:=by omega
 clear hm;go_enter func107,ntmps107;go_wp2_with fail;refine (mh.out _ hE).mono ?_;rintro o w1 ⟨rfl,hb⟩;replace hE:=hE.over hb;clear hb;go_wp2_with fail;refine (mh.out _ hE).mono ?_;rintro o w2 ⟨rfl,hb⟩;replace hE:=hE.over hb;clear hb mh;go_wp2_with (first | (refine Lh _ rfl _ _ _ rfl (.pointer none) rfl 224 rfl Li .i64 .i64 _ _ h rfl rfl rfl rfl pd ?_));have ag:=hE.box w2.heap.size rfl (List.replicate h (.pointer none)) 224;have az:=ag.box (w2.heap.size+1) (by simp) (bq c key .nilFunc 0 w2.heap.size h 0) 202;have jG:=zH (goOn_r (o:=2) 0 (.func 124) #[zP (w2.heap.size+1)] #[] (by simp[bq]) az rfl);clear hE ag az;go_wp2_with fail;refine jG.out.mono ?_;rintro o w4 ⟨rfl,bD⟩;go_wp2_with fail;go_ret;exact⟨_,_,rfl,bD⟩
end
section
variable {w:World} {fb g h c a:Nat} {key lv:Int} {nx lx:Value} {st s x y z W C X wd pv k0:Int} {pf:Bool}
theorem xF (k:Nat) (hk:k < h) (hh:h<=1000) (lp:Option Addr) (hb:ao 0 w fb (bq c key nx st g h lv)) (hc:w.cell? ⟨g,k,none⟩=some (.pointer lp)) :
  Calls prog 155 #[zP fb,zI (k:Int)] w fun o w'=>o=.returned (.pointer lp)/\w'=w:=by
 have r:=hb.rule;unfold bq at r;have h1:decide ((k:Int) < 0)=false:=by simp
 have h2:decide ((k:Int)>=(h:Int))=false:=by simp;omega
 have h3:(k:Int) < (h:Int):=by omega
 have h4:(h:Int)<=1000:=by omega
 go_enter func155,ntmps155
 go_wp2
 go_ret;exact⟨rfl,rfl⟩
end
section
variable {w:World} {p:Option Addr} {k:Int} {lp:Option Addr}
theorem Ln (b:Bool) (hl:Calls prog 155 #[.pointer p,zI k] w fun o w'=>o=.returned (.pointer lp)/\w'=w) (hf:Calls prog 160 #[.pointer lp] w fun o w'=>o=.returned (.bool b)/\w'=w) :
  Calls prog 133 #[.pointer p,zI k] w fun o w'=>o=.returned (.bool b)/\w'=w:=by
 have H1:=zH hl;have H2:=zH hf;clear hl hf;go_enter func133,ntmps133;go_wp2_with fail;refine H1.out.mono ?_;rintro o w1 ⟨rfl,rfl⟩;go_wp2_with fail;refine H2.out.mono ?_;rintro o w1 ⟨rfl,rfl⟩;go_wp2_with fail;go_ret;exact⟨rfl,rfl⟩
theorem Lp (b:Bool) (hf:Calls prog 133 #[.pointer p,zI 0] w fun o w'=>o=.returned (.bool b)/\w'=w) :
  Calls prog 113 #[.pointer p] w fun o w'=>o=.returned (.bool b)/\w'=w:=by
 have H2:=zH hf;clear hf;go_enter func113,ntmps113;go_wp2_with fail;refine H2.out.mono ?_;rintro o w1 ⟨rfl,rfl⟩;go_wp2_with fail;go_ret;exact⟨rfl,rfl⟩
theorem Lr (x y z d:Int) (hl:∀ v,Below w.heap.size w v->Calls prog 155 #[.pointer p,zI k] v fun o w'=>o=.returned (.pointer lp)/\w'=v) (hf:∀ v,Below w.heap.size w v->Calls prog 211 #[.pointer lp] v fun o w'=>o=.returned (.agg #[zI x,zI y,zI z,zI d])/\Below v.heap.size v w') :
  Calls prog 200 #[.pointer p,zI k] w fun o w'=>o=.returned (.agg #[zI x,zI y,zI z,zI d])/\Below w.heap.size w w':=by
 have H1:=zH hl;have H2:=zH hf;have hE:=(Env.start w).box w.heap.size rfl [zI 0,zI 0,zI 0,zI 0] 108;clear hl hf;go_enter func200,ntmps200;go_wp2_with fail;refine (H1.out _ hE.below).mono ?_;rintro o w1 ⟨rfl,rfl⟩;go_wp2_with fail;refine (H2.out _ hE.below).mono ?_;rintro o w1 ⟨rfl,hb⟩;replace hE:=hE.over hb;clear hb;have r0:=hE.rule 0 rfl;have ff:=hE.thaw 0 rfl;have f0:=ff 0 (by simp);have f1:=ff 1 (by simp);have f2:=ff 2 (by simp);have f3:=ff 3 (by simp);clear ff;have aO:=(((hE.put 0 rfl (j:=0) (by simp) (zI x)).put 0 rfl (j:=1) (by simp) (zI y)).put 0 rfl (j:=2) (by simp) (zI z)).put 0 rfl (j:=3) (by simp) (zI d);have q:=aO.rule 0 rfl;go_wp2_with fail;exact bodyPost_ret (v:=.agg #[zI x,zI y,zI z,zI d]) (by simp[results,results200,go_sem,q]) rfl ⟨rfl,aO.below⟩
theorem Ls (v0 d:Int) (bb:Bool) (hl:∀ v,Below w.heap.size w v->Calls prog 155 #[.pointer p,zI k] v fun o w'=>o=.returned (.pointer lp)/\w'=v) (hf:∀ v,Below w.heap.size w v->Calls prog 199 #[.pointer lp] v fun o w'=>o=.returned (.agg #[zU v0,zI d,.bool bb])/\Below v.heap.size v w') :
  Calls prog 179 #[.pointer p,zI k] w fun o w'=>o=.returned (.agg #[zU v0,zI d,.bool bb])/\Below w.heap.size w w':=by
 have H1:=zH hl;have H2:=zH hf;have hE:=(Env.start w).box w.heap.size rfl [zU 0,zI 0,.bool false] 110;clear hl hf;go_enter func179,ntmps179;go_wp2_with fail;refine (H1.out _ hE.below).mono ?_;rintro o w1 ⟨rfl,rfl⟩;go_wp2_with fail;refine (H2.out _ hE.below).mono ?_;rintro o w1 ⟨rfl,hb⟩;replace hE:=hE.over hb;clear hb;have r0:=hE.rule 0 rfl;have ff:=hE.thaw 0 rfl;have f0:=ff 0 (by simp);have f1:=ff 1 (by simp);have f2:=ff 2 (by simp);clear ff;have aO:=hE.put3 0 rfl (zU v0) (zI d) (.bool bb);have q:=aO.rule 0 rfl;go_wp2_with fail;exact bodyPost_ret (v:=.agg #[zU v0,zI d,.bool bb]) (by simp[results,results179,go_sem,q]) rfl ⟨rfl,aO.below⟩
theorem Lt (x d:Int) (hl:∀ v,Below w.heap.size w v->Calls prog 155 #[.pointer p,zI 0] v fun o w'=>o=.returned (.pointer lp)/\w'=v) (hf:∀ v,Below w.heap.size w v->Calls prog 156 #[.pointer lp] v fun o w'=>o=.returned (.agg #[zI x,zI d])/\Below v.heap.size v w') :
  Calls prog 130 #[.pointer p] w fun o w'=>o=.returned (.agg #[zI x,zI d])/\Below w.heap.size w w':=by
 have H1:=zH hl;have H2:=zH hf;have hE:=(Env.start w).box w.heap.size rfl [zI 0,zI 0] 92;clear hl hf;go_enter func130,ntmps130;go_wp2_with fail;refine (H1.out _ hE.below).mono ?_;rintro o w1 ⟨rfl,rfl⟩;go_wp2_with fail;refine (H2.out _ hE.below).mono ?_;rintro o w1 ⟨rfl,hb⟩;replace hE:=hE.over hb;clear hb;have r0:=hE.rule 0 rfl;have ff:=hE.thaw 0 rfl;have f0:=ff 0 (by simp);have f1:=ff 1 (by simp);clear ff;have aO:=(hE.put 0 rfl (j:=0) (by simp) (zI x)).put 0 rfl (j:=1) (by simp) (zI d);have q:=aO.rule 0 rfl;go_wp2_with fail;exact bodyPost_ret (v:=.agg #[zI x,zI d]) (by simp[results,results130,go_sem,q]) rfl ⟨rfl,aO.below⟩
end
theorem Lu {h:Nat} {key:Int} {F:Fm} {f:aI->Int} (h1:(bm h key F f).1=1):(bm h key F f).2.1.on=true/\(bm h key F f).2.1.lv=0:=by
 by_cases eT:F.on=true
 ·unfold bm at h1 ⊢;rw[if_pos eT] at h1 ⊢;dsimp only at h1 ⊢
  by_cases h2:(aF F.lv key false F.e (F.L F.lv) f).1=1/\F.lv=0
  ·rw[if_neg (by rw[h2.1];decide),if_neg (fun hx=>hx.2 h2.2)];exact⟨eT,h2.2⟩
  ·rw[if_neg h2] at h1;exact absurd h1 (by decide)
 ·unfold bm at h1;rw[if_neg eT] at h1;exact absurd h1 (by simp)
def tV (c:Nat) (key:Int) (L:Nat->Lm) (D:Nat->Nat × Value × Int) (h:Nat):List Item:=mR c key L D 0::fI c key L D 0 (h - 1)
theorem Ef {c:Nat} {key:Int} {L:Nat->Lm} {D:Nat->Nat × Value × Int}:∀ (n lv l:Nat),lv < l->l<=lv+n->mR c key L D l∈fI c key L D lv n
 | 0,lv,l,h1,h2=>absurd h2 (by omega)
 | n+1,lv,l,h1,h2=>by
  show _∈mR _ _ _ _ (lv+1)::fI _ _ _ _ (lv+1) n
  by_cases e:l=lv+1
  ·rw[e];exact List.mem_cons_self ..
  ·exact List.mem_cons_of_mem _ (Ef n (lv+1) l (by omega) (by omega))
theorem Lv {c:Nat} {key:Int} {L:Nat->Lm} {D:Nat->Nat × Value × Int} {h l:Nat} (hl:l < h):mR c key L D l∈tV c key L D h:=by
 unfold tV
 by_cases e:l=0
 ·rw[e];exact List.mem_cons_self ..
 ·exact List.mem_cons_of_mem _ (Ef _ _ _ (by omega) (by omega))
section
variable {w0 w:World} {R X:List Item} {fb h g:Nat} {S:ST} {key:Int} {F:Fm} {c:Nat} {nx:Value} {ps:List Value} {L:Nat->Lm} {D:Nat->Nat × Value × Int}
theorem o7.fin (hR:o7 w0 R fb h key S 1 F w) (h0:F.lv=0):∃ g ps D nx,(∀ l,l < h->ps[l]?=some (zP ((D l).1)))/\Env w0 (ae fb (bq S.c key nx 1 g h 0)::ae g ps::(tV S.c key F.L D h++LT S R)) w:=by
 obtain⟨-,-,⟨-,hx,-⟩ | ⟨eT,aE,g,ps,a,D,b1,b2,nx,fe,qD,mg,-,ny,wd,B1,B2,-,hE⟩⟩:=hR
 ·exact absurd hx (by decide)
 ·rw[h0] at aE qD mg hE;refine⟨g,ps,cN D 0 (a,ny,wd),nx,fun l hl=>?_,?_⟩
  ·by_cases e:l=0
   ·rw[e,gD];exact qD
   ·rw[gQ _ _ e];exact mg l (by omega) hl
  ·have sa:tV S.c key F.L (cN D 0 (a,ny,wd)) h=ae a (jI S.c ((0:Nat):Int) key false ny 1 wd (iu 1 (F.L 0)) (iw 1 (F.L 0)) (F.L 0))::fI S.c key F.L D 0 (h - 1 - 0):=by
    unfold tV
    congr 1
    exact vr _ _ fun l hl=>⟨rfl,gQ _ _ (by omega)⟩
   rw[sa];have h9:=hE.perm (L':=(ae fb (bq S.c key nx 1 g h ((0:Nat):Int))::ae g ps::(ae a (jI S.c ((0:Nat):Int) key false ny 1 wd (iu 1 (F.L 0)) (iw 1 (F.L 0)) (F.L 0))::fI S.c key F.L D 0 (h - 1 - 0)++LT S R))++[B1,B2,ae b1 [mvL 173 a],ae b2 [mvL 174 fb]]) (cm fun z=>by
    simp only[LT,List.count_cons,List.count_append,List.cons_append,List.count_nil];omega)
   exact h9.sub (List.sublist_append_left _ _)
end
structure Fd where
 fb:Nat
 g:Nat
 ps:List Value
 D:Nat->Nat × Value × Int
 nx:Value
def Fd.its (F:Fd) (c:Nat) (key:Int) (L:Nat->Lm) (h:Nat):List Item:=ae F.fb (bq c key F.nx 1 F.g h 0)::ae F.g F.ps::tV c key L F.D h
def fg (F:Fd) (c:Nat) (key:Int) (L:Nat->Lm) (h:Nat) (v:World):Prop :=
 ao 0 v F.fb (bq c key F.nx 1 F.g h 0)/\ao 0 v F.g F.ps/\∀ l,l < h->F.ps[l]?=some (zP ((F.D l).1))/\ao 0 v (F.D l).1 (jI c l key false (F.D l).2.1 1 (F.D l).2.2 (iu 1 (L l)) (iw 1 (L l)) (L l))
structure eK (F:Fd) (c:Nat) (key:Int) (L:Nat->Lm) (h:Nat) (R:List Item):Prop where
 its:∀ a∈F.its c key L h,a∈R
 ps:∀ l,l < h->F.ps[l]?=some (zP ((F.D l).1))
 hh:1<=h/\h<=1000
section
variable {F:Fd} {c h:Nat} {key:Int} {L:Nat->Lm} {R N:List Item} {w0 v v':World} {l:Nat}
theorem eK.more (hI:eK F c key L h R) (hs:∀ a∈R,a∈N):eK F c key L h N:=⟨fun a ha=>hs a (hI.its a ha),hI.ps,hI.hh⟩
theorem eK.at9 (hI:eK F c key L h R) (hE:Env w0 N v) (hs:∀ a∈R,a∈N):fg F c key L h v:=by
 have hm:∀ a∈F.its c key L h,a∈N:=fun a ha=>hs a (hI.its a ha);refine⟨hE.mem (hm _ (List.mem_cons_self ..)),hE.mem (hm _ (List.mem_cons_of_mem _ (List.mem_cons_self ..))),fun l hl=>⟨hI.ps l hl,hE.mem (hm (mR c key L F.D l) ?_)⟩⟩;exact List.mem_cons_of_mem _ (List.mem_cons_of_mem _ (Lv hl))
theorem fg.under (hF:fg F c key L h v) (hb:Below v.heap.size v v'):fg F c key L h v':=⟨hF.1.under hb,hF.2.1.under hb,fun l hl=>⟨(hF.2.2 l hl).1,(hF.2.2 l hl).2.under hb⟩⟩
theorem fg.facts (hF:fg F c key L h v) (hl:l < h):ao 0 v F.fb (bq c key F.nx 1 F.g h 0)/\v.cell? ⟨F.g,l,none⟩=some (zP ((F.D l).1))/\ao 0 v (F.D l).1 (jI c l key false (F.D l).2.1 1 (F.D l).2.2 (iu 1 (L l)) (iw 1 (L l)) (L l)) :=
 ⟨hF.1,(ao.rule hF.2.1 l).trans (hF.2.2 l hl).1,(hF.2.2 l hl).2⟩
theorem Eg (hF:fg F c key L h v) (hh:h<=1000) (hl:l < h) :
  Calls prog 133 #[zP F.fb,zI (l:Int)] v fun o w'=>o=.returned (.bool (L l).fd)/\w'=v:=by
 obtain⟨h1,h2,h3⟩:=hF.facts hl;exact Ln _ (xF l hl hh _ h1 h2) (KX h3)
theorem pj (hF:fg F c key L h v) (hh:1<=h/\h<=1000) :
  Calls prog 113 #[zP F.fb] v fun o w'=>o=.returned (.bool (L 0).fd)/\w'=v:=Lp _ (Eg hF hh.2 (l:=0) hh.1)
theorem Lw (hF:fg F c key L h v) (hh:h<=1000) (hl:l < h) :
  Calls prog 200 #[zP F.fb,zI (l:Int)] v fun o w'=>o=.returned (.agg #[zI (L l).p.1,zI (L l).p.2.1,zI (L l).p.2.2,zI 0])/\Below v.heap.size v w':=by
 refine Lr (lp:=some ⟨(F.D l).1,0,none⟩) _ _ _ _ (fun v hb=>?_) (fun v hb=>?_)
 ·obtain⟨h1,h2,-⟩:=(hF.under hb).facts hl;exact xF l hl hh _ h1 h2
 ·obtain⟨-,-,h3⟩:=(hF.under hb).facts hl;exact Ai h3
theorem Eh (hF:fg F c key L h v) (hh:h<=1000) (hl:l < h) :
  Calls prog 179 #[zP F.fb,zI (l:Int)] v fun o w'=>o=.returned (.agg #[zU (L l).W,zI 0,.bool false])/\Below v.heap.size v w':=by
 refine Ls (lp:=some ⟨(F.D l).1,0,none⟩) _ _ _ (fun v hb=>?_) (fun v hb=>?_)
 ·obtain⟨h1,h2,-⟩:=(hF.under hb).facts hl;exact xF l hl hh _ h1 h2
 ·obtain⟨-,-,h3⟩:=(hF.under hb).facts hl;exact KZ h3
theorem Ei (hF:fg F c key L h v) (hh:1<=h/\h<=1000) :
  Calls prog 130 #[zP F.fb] v fun o w'=>o=.returned (.agg #[zI (L 0).C,zI 0])/\Below v.heap.size v w':=by
 refine Lt (lp:=some ⟨(F.D 0).1,0,none⟩) _ _ (fun v hb=>?_) (fun v hb=>?_)
 ·obtain⟨h1,h2,-⟩:=(hF.under hb).facts (l:=0) hh.1;exact xF 0 hh.1 hh.2 _ h1 h2
 ·obtain⟨-,-,h3⟩:=(hF.under hb).facts (l:=0) hh.1;exact KY h3
end
section
variable {w:World} {c q:Nat} {k s b h l e r hs hi:Int}
theorem Lx (hb:ao 0 w c (cT k s b h l e r hs hi q)):Calls prog 32 #[zP c] w fun o w'=>o=.returned (zI r)/\w'=w:=by
 have r1:=hb.rule;unfold cT at r1;go_enter func32,ntmps32
 go_wp2
 go_ret;exact⟨rfl,rfl⟩
end
end
section
open Go.RowKit
theorem Ly (x s v:Int) (w:World) (hg:bE w) (h0:0<=x) (h1:x<=18446744073709551615) :
  Calls prog 242 #[.int .u64 x,.int .i64 s,.int .i64 v] w fun e w'=>e=.returned (.int .u64 (ja x s v))/\Below w.heap.size w w':=by
 cases h:cO x
 ·have hm:ja x s v=aP true s v:=by simp[ja,h]
  have H:=zH h;have HM:=zH hm;clear h hm;go_enter func242,ntmps242;go_wp2_with fail;refine (oh x _ hg h0 h1).mono ?_;rintro e w1 ⟨rfl,hb⟩;rw[H.out];go_wp2_with fail;refine (Dq true s v _ (hg.keep' hb)).mono ?_;rintro e w2 ⟨rfl,eg⟩;go_wp2_with fail;go_ret;exact⟨iA HM.out.symm,hb.trans (eg.mono (by have:=hb.size;omega))⟩
 ·have hm:ja x s v=x:=by simp[ja,h]
  have H:=zH h;have HM:=zH hm;clear h hm;go_enter func242,ntmps242;go_wp2_with fail;refine (oh x _ hg h0 h1).mono ?_;rintro e w1 ⟨rfl,hb⟩;rw[H.out];go_wp2_with fail;go_ret;exact⟨iA HM.out.symm,hb⟩
end
section
open Go.RowKit Go.Maps
section
variable {w:World} {c q:Nat} {k s b h l e r hs hi:Int}
theorem Ax (v d2:Int) (t:Bool) (a d:Int) (hv:aD v) (hm:cO v=false) (hg:bE w) (hb:ao 0 w c (cT k s b h l e r hs hi q)) :
  Calls prog 233 #[zP c,.agg #[zU v,zI d2,.bool t],.agg #[zI a,zI d]] w fun o w'=>o=.returned (.agg #[zU (aP true a e),zI d,.bool false])/\Below w.heap.size w w':=by
 unfold aD at hv;have tW:ja v a e=aP true a e:=by simp[ja,hm]
 have u6:Hid (∀ (x:World) (hx:Below w.heap.size w x),Calls prog 242 #[zU v,zI a,zI e] x fun o w'=>o=.returned (zU (aP true a e))/\Below x.heap.size x w'):=zH fun x hx=>by
  rw[<- tW];exact Ly v a e x (hg.keep' hx) hv.1 hv.2
 have HM:=zH hm;clear hm tW;have hF:=(((Fr.start w).push w.heap.size rfl [zU v,zI d2,.bool t] 110).push (w.heap.size+1) (by simp) [zI a,zI d] 92).push (w.heap.size+1+1) (by simp) [zU 0,zI 0,.bool false] 110;have r:=hF.rule 2 rfl;have oU:=hg.keep' hF.below;have gJ:=hb.1;have cV:=hb.under hF.below;clear hb hg;go_enter func233,ntmps233;go_wp2_with fail;refine (oh v _ oU hv.1 hv.2).mono ?_;rintro o w1 ⟨rfl,hb⟩;rw[HM.out];replace hF:=hF.over hb;replace cV:=cV.under hb;clear hb r oU;unfold cT at cV;go_wp2_with fail;have hX:=hF.blk 2 rfl (by omega);have hY:=hF.blk 1 rfl (by omega);have hZ:=hF.blk 0 rfl (by omega);have hE:=hF.below;clear hF;refine Ord.wc [12] (fun w'=>Below w.heap.size w w'/\ao 0 w' c [zI k,zI s,zI b,zI h,zI l,zI e,zI r,zI hs,zI hi,zP q]/\ao 0 w' w.heap.size [zU v,zI d2,.bool t]/\ao 0 w' (w.heap.size+1) [zI a,zI d]) (fun j w'=>ao 0 w' (w.heap.size+1+1) (if j=0 then [zU 0,zI 0,.bool false] else [zU (aP true a e),zI d,.bool false])) ⟨hE.drew,cV.drew,hX.drew,hY.drew⟩ hZ.drew fun af=>?_
 repeat ((first
  | (refine Ord.cv ?_ af.o ?_ ?_;rotate_left;(intro w5 hS;have r1:=ao.rule hS.2.1;have r2:=ao.rule hS.2.2.1;have r3:=ao.rule hS.2.2.2;go_simp<;>rfl))
  | (refine Ord.co af.o ?_)
  | (refine Ord.cc ?_ ?_ ?_ af.o ?_ ?_ ?_;rotate_left 3;(intro w5 hS;have r1:=ao.rule hS.2.1;have r2:=ao.rule hS.2.2.1;have r3:=ao.rule hS.2.2.2;go_simp;constructor<;>rfl);(intro w5 hS;(first | (with_reducible refine kp (u6.out _ hS.1) ?_ ?_;rfl;exact fun w6 aj=>⟨⟨hS.1.trans (aj.mono hS.1.size),hS.2.1.under aj,hS.2.2.1.under aj,hS.2.2.2.under aj⟩,fun _ h=>h.under aj⟩)))));try simp only[Act.put,zA,zZ,zS])
 refine Ord.ch_turn (v:=undef) 0 af.o rfl (by decide) (Or.inl rfl) (by rfl) ?_ ?_
 ·rintro w5 hS aU;simp only[if_true] at aU;have r:=aU.rule;have f0:=aU.thaw 0 (by simp);have f1:=aU.thaw 1 (by simp);have f2:=aU.thaw 2 (by simp);have hz:=hS.1.size;go_simp;refine⟨rfl,⟨?_,?_,?_,?_⟩,?_⟩
  ·exact dJ (dJ (dJ hS.1 hz (by omega) _) (by simp;omega) (by omega) _) (by simp;omega) (by omega) _
  ·exact ((hS.2.1.off (by omega) _).off (by omega) _).off (by omega) _
  ·exact ((hS.2.2.1.off (by omega) _).off (by omega) _).off (by omega) _
  ·exact ((hS.2.2.2.off (by omega) _).off (by omega) _).off (by omega) _
  ·exact ao.put3 aU _ _ _
 try simp only[Act.put,zA,zZ,zS]
 repeat ((first
  | (refine Ord.cv ?_ af.o ?_ ?_;rotate_left;(intro w5 hS;skip;go_simp<;>rfl))
  | (refine Ord.co af.o ?_));try simp only[Act.put,zA,zZ,zS])
 refine Ord.InText.nil fun w5 hS=>?_;clear af;obtain⟨aL,ai⟩:=Ord.chain_end hS;clear hS;have q:=ai.rule;simp only[show ¬ [12].length=0 by decide,if_false] at q
 go_wp2
 exact bodyPost_ret (v:=.agg #[zU (aP true a e),zI d,.bool false]) (by simp[results,results233,go_sem,q]) rfl ⟨rfl,aL.1⟩
end
def aw (c:Nat) (kd key val lv:Int) (nx:Value) (st:Int) (fp:Value) (n l t y:Int) (an:Bool) (er:Int) (dn:Bool):List Value :=
 [zP c,zI kd,zU key,zU val,zI lv,nx,zI st,fp,zI n,zI 0,zI l,zU t,zI 0,.bool false,zU y,zI 0,.bool false,.bool an,zI er,.bool dn,zU 0]
def qE (b1 b2:Nat):Value:=.func (.func 183) #[] #[zP b1,zP b2]
theorem fg.off {F:Fd} {c h:Nat} {key:Int} {L:Nat->Lm} {w v:World} (h0:fg F c key L h w) (hF:fg F c key L h v) (i:Nat) (u:Value):fg F c key L h (v.setCell ⟨w.heap.size,i,none⟩ u) :=
 ⟨hF.1.off (by have:=h0.1.1;omega) _,hF.2.1.off (by have:=h0.2.1.1;omega) _,fun l hl=>⟨(hF.2.2 l hl).1,(hF.2.2 l hl).2.off (by have:=(h0.2.2 l hl).2.1;omega) _⟩⟩
theorem fg.drew {F:Fd} {c h:Nat} {key:Int} {L:Nat->Lm} {v:World} (hF:fg F c key L h v):fg F c key L h v.drew:=hF
section
variable {w0 w:World} {R M:List Item} {o c:Nat} {kd key val lv:Int} {nx fp:Value} {er st n l t y:Int} {an dn:Bool} {k s b h9 l9 e r hs hi:Int} {q h:Nat}
theorem Ay (Y:Nat) (i:Nat) (hh:h<=1000) (hm:M[i]?=some (dy c 3 s b h l9 e r hs hi q)) (hE:Env w0 (ae o (aw c kd key val lv nx 0 fp n l t y an er dn)::M) w) :
  Calls prog 80 #[zP o,mvL Y o] w fun r w'=>r=.returned (zI 0)/\∃ b1 b2 fb g,Env w0 (ae o (aw c kd key val lv (cvP b1 b2) 0 (zP fb) n l t y an er dn)::ae b1 [mvL 109 fb]::ae b2 [mvL Y o]::ae fb (bq c key (mvL 124 fb) 0 g h 0)::ae g (List.replicate h (.pointer none))::M) w':=by
 have cf:=cg;have vv:=zH fun (v:World) (hv:Env w0 (ae o (aw c kd key val lv nx 0 fp n l t y an er dn)::M) v)=>Lk (i+1) key hh hm hv;clear hh hm;go_enter func80,ntmps80;go_wp2_with fail;refine Ord3.wp_chain [?_,?_,?_,?_,?_,?_,?_,?_,?_,?_,?_,?_,?_,?_] [10,13] (fun w'=>∃ xG,ao 0 w' o (aw c kd key val lv nx 0 xG n l t y an er dn)) (Ord3.Stage fun κs=>[Env w0 (ae o (aw c kd key val lv nx 0 fp n l t y an er dn)::M),fun w'=>∃ fb,κs.getD 0 undef=zP fb/\∃ g,Env w0 (ae fb (bq c key (mvL 124 fb) 0 g h 0)::ae g (List.replicate h (.pointer none))::ae o (aw c kd key val lv nx 0 fp n l t y an er dn)::M) w',fun w'=>∃ fb g,Env w0 (ae fb (bq c key (mvL 124 fb) 0 g h 0)::ae g (List.replicate h (.pointer none))::ae o (aw c kd key val lv nx 0 (zP fb) n l t y an er dn)::M) w']) (by kernel_rfl) (by kernel_rfl) (by kernel_rfl) ⟨fp,hE.drew.get 0 rfl⟩ ⟨_,rfl,hE.drew⟩ (fun hT=>?_);rotate_left 14;have af:=zH hT;clear hT
 repeat ((first
  | (focus (refine Ord3.in_value (v:=?_) af.o (by decide) ?_ (by rfl) ?_ ?_;rotate_left 2;(intro w5 hS;obtain⟨xG,jJ⟩:=hS;have r1:=ao.rule jJ;unfold aw at r1;go_simp<;>rfl);rotate_right;(focus rfl)))
  | (focus (refine Ord3.in_off af.o (by decide) ?_ (by rfl) ?_;(focus rfl))));try simp only[Act.put,zA,zZ,zS])
 refine Ord3.in_turn (fun u=>∃ q,u=zP q) _ ⟨0,rfl⟩ af.o rfl (by decide) (by rfl) ?_ (Or.inl rfl) (by rfl) ?_ ?_
 ·rfl
 ·rintro w7 eY ⟨P7,dD,bI⟩;cases dD;go_simp;simp only[Ord3.Lands];refine (vv.out _ bI).mono ?_;rintro o8 w8 ⟨Ej,g8,rfl,bn⟩;exact⟨_,rfl,⟨Ej,rfl⟩,⟨fp,bn.get 2 rfl⟩,_,rfl,Ej,rfl,g8,bn⟩
 rintro _ ⟨r9,rfl⟩
 try simp only[Act.put,zA,zZ,zS]
 repeat ((first
  | (focus (refine Ord3.in_value (v:=?_) af.o (by decide) ?_ (by rfl) ?_ ?_;rotate_left 2;(intro w5 hS;obtain⟨xG,jJ⟩:=hS;have r1:=ao.rule jJ;unfold aw at r1;go_simp<;>rfl);rotate_right;(focus rfl)))
  | (focus (refine Ord3.in_off af.o (by decide) ?_ (by rfl) ?_;(focus rfl))));try simp only[Act.put,zA,zZ,zS])
 refine Ord3.in_turn (fun u=>u=undef) _ rfl af.o rfl (by decide) (by rfl) ?_ (Or.inr ⟨_,10,[],rfl,by kernel_rfl,by kernel_rfl,rfl⟩) (by rfl) ?_ ?_
 ·rfl
 ·rintro w7 eY ⟨P7,dD,bI⟩;cases dD;obtain⟨a8,he,g8,bI⟩:=bI;cases he;have r:=bI.rule 2 rfl;unfold aw at r;have g:=bI.thaw 2 rfl 7 (by simp[aw]);go_simp;simp only[Ord3.Lands];have h9:=bI.put 2 rfl (j:=7) (by simp[aw]) (zP r9);exact⟨trivial,⟨_,h9.get 2 rfl⟩,_,rfl,r9,g8,h9⟩
 rintro _ rfl
 try simp only[Act.put,zA,zZ,zS]
 refine Ord3.in_nil rfl ?_;rintro w9 aL ⟨P9,dW,ai⟩;cases dW;obtain⟨fb,g,ai⟩:=ai;clear af aL hE vv;go_wp2_with fail;refine Ord3.wp_chain [?_,?_,?_,?_,?_,?_,?_,?_,?_,?_,?_] [9] (fun w'=>∃ gM,ao 0 w' o (aw c kd key val lv gM 0 (zP fb) n l t y an er dn)) (Ord3.Stage fun κs=>[Env w0 (ae fb (bq c key (mvL 124 fb) 0 g h 0)::ae g (List.replicate h (.pointer none))::ae o (aw c kd key val lv nx 0 (zP fb) n l t y an er dn)::M),fun w'=>∃ b1 b2,Env w0 (ae b1 [mvL 109 fb]::ae b2 [mvL Y o]::ae fb (bq c key (mvL 124 fb) 0 g h 0)::ae g (List.replicate h (.pointer none))::ae o (aw c kd key val lv (cvP b1 b2) 0 (zP fb) n l t y an er dn)::M) w']) (by kernel_rfl) (by kernel_rfl) (by kernel_rfl) ⟨nx,ai.drew.get 2 rfl⟩ ⟨_,rfl,ai.drew⟩ (fun hT=>?_);rotate_left 11;have af:=zH hT;clear hT
 repeat ((first
  | (focus (refine Ord3.in_value (v:=?_) af.o (by decide) ?_ (by rfl) ?_ ?_;rotate_left 2;(intro w5 hS;obtain⟨gM,jJ⟩:=hS;have r1:=ao.rule jJ;unfold aw at r1;go_simp<;>rfl);rotate_right;(focus rfl)))
  | (focus (refine Ord3.in_off af.o (by decide) ?_ (by rfl) ?_;(focus rfl))));try simp only[Act.put,zA,zZ,zS])
 refine Ord3.in_turn (fun u=>u=zI 0) _ rfl af.o rfl (by decide) (by rfl) ?_ (Or.inl rfl) (by rfl) ?_ ?_
 ·rfl
 ·rintro w7 eY ⟨P7,dD,bI⟩;cases dD;go_simp;simp only[Ord3.Lands];refine (play_r (o:=5) 2 _ _ _ _ _ _ (by simp[aw]) bI rfl).mono ?_;rintro o8 w8 ⟨rfl,b1,b2,bn⟩;exact⟨_,rfl,rfl,⟨_,bn.get 4 rfl⟩,_,rfl,b1,b2,bn⟩
 rintro _ rfl
 try simp only[Act.put,zA,zZ,zS]
 repeat ((first
  | (focus (refine Ord3.in_value (v:=?_) af.o (by decide) ?_ (by rfl) ?_ ?_;rotate_left 2;(intro w5 hS;skip;go_simp<;>rfl);rotate_right;(focus rfl)))
  | (focus (refine Ord3.in_off af.o (by decide) ?_ (by rfl) ?_;(focus rfl))));try simp only[Act.put,zA,zZ,zS])
 refine Ord3.in_nil rfl ?_;rintro w9 aL ⟨P9,dW,ai⟩;cases dW;obtain⟨b1,b2,ai⟩:=ai;clear af aL;go_wp2_with fail;go_ret;exact⟨rfl,b1,b2,fb,g,ai.perm (List.perm_middle (l₁:=[_,_,_,_]))⟩
theorem sd (i:Nat) (hh:h<=1000) (hm:M[i]?=some (dy c 3 s b h l9 e r hs hi q)) (hE:Env w0 (ae o (aw c kd key val lv nx 0 fp n l t y an er dn)::M) w) :
  Calls prog 43 #[zP o] w fun r w'=>r=.returned (zI 0)/\∃ b1 b2 fb g,Env w0 (ae o (aw c kd key val lv (cvP b1 b2) 0 (zP fb) n l t y an er dn)::ae b1 [mvL 109 fb]::ae b2 [mvL 81 o]::ae fb (bq c key (mvL 124 fb) 0 g h 0)::ae g (List.replicate h (.pointer none))::M) w':=by
 have cf:=cg;have HS:=zH (Ay 81 i hh hm hE);unfold mvL at HS;clear hE hm hh;go_enter func43,ntmps43;go_wp2_with fail;refine HS.out.mono ?_;rintro e w1 ⟨rfl,hX⟩;have HX:=zH hX;clear hX HS;go_wp2_with fail;go_ret;exact⟨rfl,HX.out⟩
theorem qF (e2:Int) (d2:Bool) (hE:Env w0 (ae o (aw c kd key val lv nx st fp n l t y an er dn)::M) w) :
  Calls prog 112 #[zP o,.agg #[zI e2,.bool d2,zU 0]] w fun r w'=>r=.returned (zI 1)/\Env w0 (ae o (aw c kd key val lv nx 1 fp n l t y an e2 d2)::M) w':=by
 have ag:=hE.box w.heap.size rfl [zI e2,.bool d2,zU 0] 63;have r0:=ag.rule 0 rfl;have r:=ag.rule 1 rfl;unfold aw at r;have f:=ag.thaw 1 rfl;have f0:=f 18 (by simp[aw]);have f1:=f 19 (by simp[aw]);have f2:=f 20 (by simp[aw]);clear f;have hP:=((ag.put 1 rfl (j:=18) (by simp[aw]) (zI e2)).put 1 rfl (j:=19) (by simp[aw]) (.bool d2)).put 1 rfl (j:=20) (by simp[aw]) (zU 0);have Av:=zH (end_r (o:=5) 1 1 (by simp[aw]) hP rfl);clear hE ag hP;go_enter func112,ntmps112;go_wp2_with fail;refine Av.out.mono ?_;rintro e w1 ⟨rfl,az⟩;go_wp2_with fail;go_ret;exact⟨rfl,az.sub (.cons _ (List.Sublist.refl _))⟩
theorem Ek (u:Int) (hE:Env w0 (ae o (aw c kd key val lv nx st fp n l t y an er dn)::M) w) :
  Calls prog 231 #[zP o,zI u] w fun r w'=>r=.returned (zI 1)/\Env w0 (ae o (aw c kd key val lv nx 1 fp n l t y an 0 true)::M) w':=by
 have HO:=zH (qF 0 true hE);clear hE;go_enter func231,ntmps231;go_wp2_with fail;refine HO.out.mono ?_;rintro e w1 ⟨rfl,az⟩;go_wp2_with fail;go_ret;exact⟨rfl,az⟩
theorem qG (aH:0<=l/\l<=1000000) (hb:ao 0 w o (aw c kd key val lv nx st fp n l t y an er dn)):Calls prog 152 #[zP o] w fun e w'=>e=.returned (.agg #[zI 5,zI n,zI (7+l),zI 0])/\Below w.heap.size w w':=by
 have bp:=hb.1;have hX:=hb.more (.cells [zI 0,zI 0,zI 0,zI 0].toArray 108);have hZ:=ao.new 0 w [zI 0,zI 0,zI 0,zI 0] 108;have hE:=(Below.refl w.heap.size w).alloc (Nat.le_refl _) (.cells [zI 0,zI 0,zI 0,zI 0].toArray 108);clear hb;have tR:Hid (∀ v,Calls prog 176 #[zI n,zI l] v fun e w'=>e=.returned (.agg #[zI 5,zI n,zI (7+l)])/\Below v.heap.size v w'):=zH fun v=>by
  have:=Af n l v
  rwa [df (7+l) (by omega)] at this
 clear aH;go_enter func152,ntmps152;go_wp2_with fail;refine Ord.wc [16] (fun w'=>Below w.heap.size w w'/\ao 0 w' o (aw c kd key val lv nx st fp n l t y an er dn)) (fun j w'=>ao 0 w' w.heap.size (if j=0 then [zI 0,zI 0,zI 0,zI 0] else [zI 5,zI n,zI (7+l),zI 0])) ⟨hE.drew,hX.drew⟩ hZ.drew fun af=>?_
 repeat ((first
  | (refine Ord.cv ?_ af.o ?_ ?_;rotate_left;(intro w5 hS;have r:=ao.rule hS.2;unfold aw at r;go_simp<;>rfl))
  | (refine Ord.co af.o ?_)
  | (refine Ord.cc ?_ ?_ ?_ af.o ?_ ?_ ?_;rotate_left 3;(intro w5 hS;have r:=ao.rule hS.2;unfold aw at r;go_simp;constructor<;>rfl);(intro w5 hS;(first | (with_reducible refine kp (tR.out _) ?_ ?_;rfl;exact fun w6 aj=>⟨⟨hS.1.trans (aj.mono hS.1.size),hS.2.under aj⟩,fun _ h=>h.under aj⟩)))));try simp only[Act.put,zA,zZ,zS])
 refine Ord.ch_turn (v:=undef) 0 af.o rfl (by decide) (Or.inl rfl) (by rfl) ?_ ?_
 ·rintro w5 hS aU;simp only[if_true] at aU;have r:=aU.rule;have f0:=aU.thaw 0 (by simp);have f1:=aU.thaw 1 (by simp);have f2:=aU.thaw 2 (by simp);have f3:=aU.thaw 3 (by simp);have hz:=hS.1.size;go_simp;refine⟨rfl,⟨?_,?_⟩,?_⟩
  ·exact dJ (dJ (dJ (dJ hS.1 hz (by omega) _) (by simp;omega) (by omega) _) (by simp;omega) (by omega) _) (by simp;omega) (by omega) _
  ·exact (((hS.2.off (by omega) _).off (by omega) _).off (by omega) _).off (by omega) _
  ·exact (((aU.set (i:=0) (by simp) _).set (i:=1) (by simp) _).set (i:=2) (by simp) _).set (i:=3) (by simp) _
 try simp only[Act.put,zA,zZ,zS]
 repeat ((first
  | (refine Ord.cv ?_ af.o ?_ ?_;rotate_left;(intro w5 hS;skip;go_simp<;>rfl))
  | (refine Ord.co af.o ?_));try simp only[Act.put,zA,zZ,zS])
 refine Ord.InText.nil fun w5 hS=>?_;clear af;obtain⟨aL,ai⟩:=Ord.chain_end hS;clear hS;have q:=ai.rule;simp only[show ¬ [16].length=0 by decide,if_false] at q
 go_wp2
 exact bodyPost_ret (v:=.agg #[zI 5,zI n,zI (7+l),zI 0]) (by simp[results,results152,go_sem,q]) rfl ⟨rfl,aL.1⟩
theorem Az (p9:Int) (hb:ao 0 w o (aw c kd key val lv nx st fp n l t y an er dn)):Calls prog 157 #[zP o,zI p9] w fun e w'=>e=.returned (.agg #[zI 5,zI n,zI p9,zI 0])/\Below w.heap.size w w':=by
 have bp:=hb.1;have hX:=hb.more (.cells [zI 0,zI 0,zI 0,zI 0].toArray 108);have hZ:=ao.new 0 w [zI 0,zI 0,zI 0,zI 0] 108;have hE:=(Below.refl w.heap.size w).alloc (Nat.le_refl _) (.cells [zI 0,zI 0,zI 0,zI 0].toArray 108);clear hb;go_enter func157,ntmps157;go_wp2_with fail;refine Ord.wc [13] (fun w'=>Below w.heap.size w w'/\ao 0 w' o (aw c kd key val lv nx st fp n l t y an er dn)) (fun j w'=>ao 0 w' w.heap.size (if j=0 then [zI 0,zI 0,zI 0,zI 0] else [zI 5,zI n,zI p9,zI 0])) ⟨hE.drew,hX.drew⟩ hZ.drew fun af=>?_
 repeat ((first
  | (refine Ord.cv ?_ af.o ?_ ?_;rotate_left;(intro w5 hS;have r:=ao.rule hS.2;unfold aw at r;go_simp<;>rfl))
  | (refine Ord.co af.o ?_)
  | (refine Ord.cc ?_ ?_ ?_ af.o ?_ ?_ ?_;rotate_left 3;(intro w5 hS;have r:=ao.rule hS.2;unfold aw at r;go_simp;constructor<;>rfl);(intro w5 hS;(first | (with_reducible refine kp (wR _ _ _) ?_ ?_;rfl;exact fun w6 aj=>⟨⟨hS.1.trans (aj.mono hS.1.size),hS.2.under aj⟩,fun _ h=>h.under aj⟩)))));try simp only[Act.put,zA,zZ,zS])
 refine Ord.ch_turn (v:=undef) 0 af.o rfl (by decide) (Or.inl rfl) (by rfl) ?_ ?_
 ·rintro w5 hS aU;simp only[if_true] at aU;have r:=aU.rule;have f0:=aU.thaw 0 (by simp);have f1:=aU.thaw 1 (by simp);have f2:=aU.thaw 2 (by simp);have f3:=aU.thaw 3 (by simp);have hz:=hS.1.size;go_simp;refine⟨rfl,⟨?_,?_⟩,?_⟩
  ·exact dJ (dJ (dJ (dJ hS.1 hz (by omega) _) (by simp;omega) (by omega) _) (by simp;omega) (by omega) _) (by simp;omega) (by omega) _
  ·exact (((hS.2.off (by omega) _).off (by omega) _).off (by omega) _).off (by omega) _
  ·exact (((aU.set (i:=0) (by simp) _).set (i:=1) (by simp) _).set (i:=2) (by simp) _).set (i:=3) (by simp) _
 try simp only[Act.put,zA,zZ,zS]
 repeat ((first
  | (refine Ord.cv ?_ af.o ?_ ?_;rotate_left;(intro w5 hS;skip;go_simp<;>rfl))
  | (refine Ord.co af.o ?_));try simp only[Act.put,zA,zZ,zS])
 refine Ord.InText.nil fun w5 hS=>?_;clear af;obtain⟨aL,ai⟩:=Ord.chain_end hS;clear hS;have q:=ai.rule;simp only[show ¬ [13].length=0 by decide,if_false] at q
 go_wp2
 exact bodyPost_ret (v:=.agg #[zI 5,zI n,zI p9,zI 0]) (by simp[results,results157,go_sem,q]) rfl ⟨rfl,aL.1⟩
end
section
variable {w:World} {o c q h l8:Nat} {kd key val lv:Int} {nx:Value} {er st n t y:Int} {an dn:Bool} {ck cs cb ch cl ce cr hs:Int} {F:Fd} {L:Nat->Lm}
theorem xH (hg:bE w) (hh:h<=1000) (hl:l8 < h) (hW:aD (L l8).W) (hF:fg F c key L h w) (hc:ao 0 w c (cT ck cs cb ch cl ce cr hs 0 q)) (hb:ao 0 w o (aw c kd key val lv nx st (zP F.fb) n (l8:Int) t y an er dn)) :
  Calls prog 153 #[zP o] w fun e w'=>e=.returned (.agg #[zU (aP false (aA (L l8).W) ce),zI 0,.bool false])/\Below w.heap.size w w':=by
 have bp:=hb.1;have gJ:=hc.1;have AA:=zH hF;have xI:=zH fun (v:World) (hv:fg F c key L h v)=>Eh hv hh hl;have dF:=zH fun (v:World) (hv:Below w.heap.size w v)=>kt (L l8).W 0 false v hW (hg.keep' hv);have cP:=fun (v:World) (hv:Below w.heap.size w v) (hb:ao 0 v c (cT ck cs cb ch cl ce cr hs 0 q))=>xt (aA (L l8).W) 0 (hg.keep' hv) hb;obtain⟨W,AB⟩:∃ W,(L l8).W=W:=⟨_,rfl⟩;rw[AB];simp only[AB] at xI dF cP;obtain⟨s,bf⟩:∃ s,aA W=s:=⟨_,rfl⟩;rw[bf];simp only[bf] at dF cP;obtain⟨x,mj⟩:∃ x,aP false s ce=x:=⟨_,rfl⟩;rw[mj];simp only[mj] at cP;have dT:=zH cP;have hE:=(Below.refl w.heap.size w).alloc (Nat.le_refl _) (.cells [zU 0,zI 0,.bool false].toArray 110);have hX:=hb.under hE;have Lz:=hc.under hE;have LA:=hF.under hE;have hZ:=ao.new 0 w [zU 0,zI 0,.bool false] 110;clear hb hc hF cP AB bf mj hg hW hl hh;go_enter func153,ntmps153;go_wp2_with fail;refine Ord.wc [15] (fun w'=>Below w.heap.size w w'/\ao 0 w' o (aw c kd key val lv nx st (zP F.fb) n (l8:Int) t y an er dn)/\ao 0 w' c (cT ck cs cb ch cl ce cr hs 0 q)/\fg F c key L h w') (fun j w'=>ao 0 w' w.heap.size (if j=0 then [zU 0,zI 0,.bool false] else [zU x,zI 0,.bool false])) ⟨hE.drew,hX.drew,Lz.drew,LA.drew⟩ hZ.drew fun af=>?_
 repeat ((first
  | (refine Ord.cv ?_ af.o ?_ ?_;rotate_left;(intro w5 hS;have r:=ao.rule hS.2.1;unfold aw at r;go_simp<;>rfl))
  | (refine Ord.co af.o ?_)
  | (refine Ord.cc ?_ ?_ ?_ af.o ?_ ?_ ?_;rotate_left 3;(intro w5 hS;have r:=ao.rule hS.2.1;unfold aw at r;go_simp;constructor<;>rfl);(intro w5 hS;(first | (with_reducible refine kp (xI.out _ hS.2.2.2) ?_ ?_;rfl;exact fun w6 aj=>⟨⟨hS.1.trans (aj.mono hS.1.size),hS.2.1.under aj,hS.2.2.1.under aj,hS.2.2.2.under aj⟩,fun _ h=>h.under aj⟩) | (with_reducible refine kp (dF.out _ hS.1) ?_ ?_;rfl;exact fun w6 aj=>⟨⟨hS.1.trans (aj.mono hS.1.size),hS.2.1.under aj,hS.2.2.1.under aj,hS.2.2.2.under aj⟩,fun _ h=>h.under aj⟩) | (with_reducible refine kp (dT.out _ hS.1 hS.2.2.1) ?_ ?_;rfl;exact fun w6 aj=>⟨⟨hS.1.trans (aj.mono hS.1.size),hS.2.1.under aj,hS.2.2.1.under aj,hS.2.2.2.under aj⟩,fun _ h=>h.under aj⟩)))));try simp only[Act.put,zA,zZ,zS])
 refine Ord.ch_turn (v:=undef) 0 af.o rfl (by decide) (Or.inl rfl) (by rfl) ?_ ?_
 ·rintro w5 hS aU;simp only[if_true] at aU;have r:=aU.rule;have f0:=aU.thaw 0 (by simp);have f1:=aU.thaw 1 (by simp);have f2:=aU.thaw 2 (by simp);have hz:=hS.1.size;go_simp;refine⟨rfl,⟨?_,?_,?_,?_⟩,?_⟩
  ·exact dJ (dJ (dJ hS.1 hz (by omega) _) (by simp;omega) (by omega) _) (by simp;omega) (by omega) _
  ·exact ((hS.2.1.off (by omega) _).off (by omega) _).off (by omega) _
  ·exact ((hS.2.2.1.off (by omega) _).off (by omega) _).off (by omega) _
  ·exact AA.out.off (AA.out.off (AA.out.off hS.2.2.2 _ _) _ _) _ _
  ·exact ((aU.set (i:=0) (by simp) _).set (i:=1) (by simp) _).set (i:=2) (by simp) _
 try simp only[Act.put,zA,zZ,zS]
 repeat ((first
  | (refine Ord.cv ?_ af.o ?_ ?_;rotate_left;(intro w5 hS;skip;go_simp<;>rfl))
  | (refine Ord.co af.o ?_));try simp only[Act.put,zA,zZ,zS])
 refine Ord.InText.nil fun w5 hS=>?_;clear af;obtain⟨aL,ai⟩:=Ord.chain_end hS;clear hS;have q:=ai.rule;simp only[show ¬ [15].length=0 by decide,if_false] at q
 go_wp2
 exact bodyPost_ret (v:=.agg #[zU x,zI 0,.bool false]) (by simp[results,results153,go_sem,q]) rfl ⟨rfl,aL.1⟩
end
section
variable {w0 w:World} {L:List Item} {c q kq:Nat} {F:Nat->Prop} {ql:List bF} {k s b h l e r hs hi:Int}
theorem LB (hh:hs=0) (hb:ao 0 w c (cT k s b h l e r hs hi q)) :
  Calls prog 148 #[zP c] w fun o w'=>o=.returned (.tuple #[.agg #[zI hs,zI hi],.bool false])/\Below w.heap.size w w':=by
 have hF:=(Fr.start w).push w.heap.size rfl [zI 0,zI 0] 92;have cV:=hb.under hF.below;have hn:(hs != 0)=false:=by simpa using hh
 clear hb hh;go_enter func148,ntmps148;go_wp2_with fail;refine (oO cV).mono ?_;rintro o w1 ⟨rfl,hb⟩;rw[hn];replace hF:=hF.over hb;clear hb cV;replace hF:=hF.push w1.heap.size rfl [zI hs,zI hi] 92;have aE:=hF.lt 1 rfl;have hX:=hF.blk 1 rfl (by omega);have hZ:=hF.blk 0 rfl (by have:=hF.below.size;have:=hF.lt 1 rfl;simp at this;omega);have hE:=hF.below;clear hF
 go_upto_region 2 with fail
 generalize w1.alloc _=w2 at *;generalize w1.heap.size=Y at *;have r0:=hX.rule;have r1:=hZ.rule;have f0:=hX.thaw 0 (by simp);have f1:=hX.thaw 1 (by simp);go_wp2_with fail;have q:=((hX.set (i:=0) (by simp) (zI hs)).set (i:=1) (by simp) (zI hi)).rule;exact bodyPost_ret (v:=.tuple #[.agg #[zI hs,zI hi],.bool false]) (by simp[results,results148,go_sem,q]) rfl ⟨rfl,dJ (dJ hE (by omega) (Nat.le_refl _) _) (by simp;omega) (Nat.le_refl _) _⟩
theorem El (hh:hs≠0) (m:Nat) (hE:Env w0 L w) (hm:L[m]?=some (dy c k s b h l e r hs hi q)) :
  Calls prog 148 #[zP c] w fun o w'=>o=.returned (.tuple #[.agg #[zI hs,zI hi],.bool true])/\Env w0 (L.set m (dy c k s b h l e r 0 0 q)) w':=by
 have hn:(hs != 0)=true:=by simpa using hh
 have aQ:m < L.length:=(List.getElem?_eq_some_iff.1 hm).1;have ag:=hE.box w.heap.size rfl [zI 0,zI 0] 92;have iC:(ae w.heap.size [zI 0,zI 0]::L)[m+1]?=some (dy c k s b h l e r hs hi q):=hm;clear hE hh;go_enter func148,ntmps148;go_wp2_with fail;refine (oO (ag.get (m+1) iC)).mono ?_;rintro o w1 ⟨rfl,hb⟩;rw[hn];replace ag:=(ag.over hb).box w1.heap.size rfl [zI hs,zI hi] 92;clear hb;generalize w.heap.size=X at *
 go_upto_region 2 with fail
 generalize w1.alloc _=w2 at *;generalize w1.heap.size=Y at *;have oT:(ae Y [zI hs,zI hi]::ae X [zI 0,zI 0]::L)[m+2]?=some (dy c k s b h l e r hs hi q):=hm;have rc:=ag.rule (m+2) oT;unfold cT at rc;have ff:=ag.thaw (m+2) oT;have f7:=ff 7 (by simp[cT]);have f8:=ff 8 (by simp[cT]);clear ff
 go_upto_region 4 with fail
 have az:=ag.put (m+2) oT (j:=7) (by simp[cT]) (zI 0);have bM:=az.put (m+2) (by rw[List.getElem?_set_self (by simpa using aQ)]) (j:=8) (by simp[cT]) (zI 0);rw[List.set_set] at bM;generalize World.setCell (World.setCell w2 ⟨c,7,none⟩ _) ⟨c,8,none⟩ _=w3 at *;replace bM:Env w0 (ae Y [zI hs,zI hi]::ae X [zI 0,zI 0]::L.set m (dy c k s b h l e r 0 0 q)) w3:=bM;have r0:=bM.rule 0 rfl;have r1:=bM.rule 1 rfl;have ff:=bM.thaw 1 rfl;have f0:=ff 0 (by simp);have f1:=ff 1 (by simp);clear ff;clear rc f7 f8;go_wp2_with fail;have bD:=(bM.put 1 rfl (j:=0) (by simp) (zI hs)).put 1 rfl (j:=1) (by simp) (zI hi);have q:=bD.rule 1 rfl;exact bodyPost_ret (v:=.tuple #[.agg #[zI hs,zI hi],.bool true]) (by simp[results,results148,go_sem,q]) rfl ⟨rfl,bD.sub (.cons _ (.cons _ (List.Sublist.refl _)))⟩
theorem LC (hh:hs=0) (hb:ao 0 w c (cT k s b h l e r hs hi q)) :
  Calls prog 126 #[zP c] w fun o w'=>o=.returned (.tuple #[])/\Below w.heap.size w w':=by
 go_enter func126,ntmps126;go_wp2_with fail;refine (LB hh hb).mono ?_;rintro o w1 ⟨rfl,cV⟩;clear hh hb;go_wp2_with fail
 go_end0
 exact⟨rfl,cV.alloc cV.size _⟩
theorem LD (hh:hs≠0) (m n:Nat) (Em:n≠m) (hE:Env w0 L w) (hm:L[m]?=some (dy c k s b h l e r hs hi q)) (hn:L[n]?=some (fU q F ql kq)) (hl:ql.length+1<=1048576) :
  Calls prog 126 #[zP c] w fun o w'=>o=.returned (.tuple #[])/\∃ k' F',Rm kq (ql.length+1) k'/\Env w0 ((L.set m (dy c k s b h l e r 0 0 q)).set n (fU q F' (ql++[(hs,0,hi)]) k')) w':=by
 have aQ:m < L.length:=(List.getElem?_eq_some_iff.1 hm).1;have iH:=lY (b:=dy c k s b h l e r 0 0 q) Em.symm hn;have iC:(L.set m (dy c k s b h l e r 0 0 q))[m]?=some (dy c k s b h l e r 0 0 q):=by rw[List.getElem?_set_self aQ]
 have HT:=zH (El hh m hE hm);clear hh hE hm hn;generalize L.set m (dy c k s b h l e r 0 0 q)=M at *;go_enter func126,ntmps126;go_wp2_with fail;refine HT.out.mono ?_;rintro o w1 ⟨rfl,ag⟩;clear HT;replace ag:=ag.box w1.heap.size rfl [zI hs,zI hi] 92;go_wp2_with fail;generalize w1.alloc _=w2 at *;generalize w1.heap.size=Y at *;have Ta:(ae Y [zI hs,zI hi]::M)[n+1]?=some (fU q F ql kq):=iH;have oT:(ae Y [zI hs,zI hi]::M)[m+1]?=some (dy c k s b h l e r 0 0 q):=iC;refine Ord3.wp_chain [?_,?_,?_,?_,?_,?_,?_,?_,?_,?_,?_] [9,10] (fun w'=>ao 0 w' c [zI k,zI s,zI b,zI h,zI l,zI e,zI r,zI 0,zI 0,zP q]/\ao 0 w' Y [zI hs,zI hi]) (Ord3.Stage fun κs=>[Env w0 (ae Y [zI hs,zI hi]::M),fun w'=>∃ z,κs.getD 0 undef=.slice (some ⟨z,0,none⟩) 1 1/\Env w0 (ae z [zI hs,zI 0,zI hi]::ae Y [zI hs,zI hi]::M) w',fun w'=>∃ k',Rm kq (ql.length+1) k'/\∃ F' z,Env w0 (ae z [zI hs,zI 0,zI hi]::ae Y [zI hs,zI hi]::M.set n (fU q F' (ql++[(hs,0,hi)]) k')) w']) (by kernel_rfl) (by kernel_rfl) (by kernel_rfl) ⟨ag.drew.get (m+1) oT,ag.drew.get 0 rfl⟩ ⟨_,rfl,ag.drew⟩ (fun hT=>?_);rotate_left 11;have af:=zH hT;clear hT
 repeat ((first
  | (focus (refine Ord3.in_value (v:=?_) af.o (by decide) ?_ (by rfl) ?_ ?_;rotate_left 2;(intro w5 hS;have r1:=ao.rule hS.1;have r2:=ao.rule hS.2;go_simp<;>rfl);rotate_right;(focus rfl)))
  | (focus (refine Ord3.in_off af.o (by decide) ?_ (by rfl) ?_;(focus rfl))));try simp only[Act.put,zA,zZ,zS])
 refine Ord3.in_turn (fun u=>∃ z,u=.slice (some ⟨z,0,none⟩) 1 1) _ ⟨0,rfl⟩ af.o rfl (by decide) (by rfl) ?_ (Or.inl rfl) (by rfl) ?_ ?_
 ·rfl
 ·rintro w7 eY ⟨P7,dD,bI⟩;cases dD;go_simp;simp only[Ord3.Lands];have bn:=bI.box w7.heap.size rfl [zI hs,zI 0,zI hi] 97;exact⟨⟨_,rfl⟩,⟨bn.get (m+2) iC,bn.get 1 rfl⟩,_,rfl,w7.heap.size,rfl,bn⟩
 rintro _ ⟨z9,rfl⟩
 try simp only[Act.put,zA,zZ,zS]
 refine Ord3.in_turn (fun u=>u=zI 0) _ rfl af.o rfl (by decide) (by rfl) ?_ (Or.inr ⟨_,9,[],rfl,by kernel_rfl,by kernel_rfl,rfl⟩) (by rfl) ?_ ?_
 ·rfl
 ·rintro w7 eY ⟨P7,dD,bI⟩;cases dD;obtain⟨z8,he,bI⟩:=bI;cases he;go_simp;simp only[Ord3.Lands];have hA:gI w7 (some ⟨z9,0,none⟩) [(hs,0,hi)]:=ao.row3 (l:=[(hs,0,hi)]) (bI.get 0 rfl);refine (wI (l:=ql) (xs:=[(hs,0,hi)]) (A:=some ⟨z9,0,none⟩) (cap:=1) (by simp;omega) hA (fun _ b hb va=>?_) (bI.queue (n+2) iH)).mono ?_
  ·obtain⟨off,he⟩:=hb;cases he;exact (bI.off (i:=0) (j:=n+2) rfl iH (by omega)) z9 rfl va
  rintro o w8 ⟨rfl,k8,F8,iD,vb,vd⟩;have bn:=bI.turnQ (n+2) iH vb vd;simp only[zS,zZ] at bn;have LF:=lY (b:=fU q F8 (ql++[(hs,0,hi)]) k8) Em iC;exact⟨_,rfl,rfl,⟨bn.get (m+2) LF,bn.get 1 rfl⟩,_,rfl,k8,by simpa using iD,F8,z9,bn⟩
 rintro _ rfl
 try simp only[Act.put,zA,zZ,zS]
 refine Ord3.in_nil rfl ?_;rintro w9 aL ⟨P9,dW,ai⟩;cases dW;obtain⟨k8,iD,F8,z8,ai⟩:=ai;clear af aL;go_wp2_with fail
 go_end0
 exact⟨rfl,k8,F8,iD,ai.sub (.cons _ (.cons _ (List.Sublist.refl _)))⟩
end
section
variable {w0 w:World} {R M:List Item} {o c h l8:Nat} {S:ST} {kd key val lv:Int} {nx fp:Value} {er st n l t y:Int} {an dn:Bool} {F:Fd} {L:Nat->Lm}
theorem xJ (hg:bE w0) (hm:S.m < maxLen) (hl:l8 < h) (aZ:Wf (L l8).p) (hI:eK F S.c key L h R) (hE:Env w0 (ae o (aw S.c kd key val lv nx 0 (zP F.fb) n (l8:Int) t y an er dn)::LT S R) w) :
  Calls prog 180 #[zP o,.iface 28 (zP S.p)] w fun e w'=>e=.returned (.bool (decide (S.f (L l8).p=(L l8).W)))/\∃ G',Env w0 (ae o (aw S.c kd key val lv nx 0 (zP F.fb) n (l8:Int) t y an er dn)::LT { S with G:=G',f:=swf S.f (L l8).p (L l8).W (aP false n S.ce),qc:=dE S.qc (decide (S.f (L l8).p=(L l8).W)),m:=S.m+1 } R) w':=by
 have cf:=cg;have eV:=kQ;have AE:=fun (v:World) (hv:fg F S.c key L h v)=>Eh hv hI.hh.2 hl;have AG:=fun (v:World) (hv:fg F S.c key L h v)=>Lw hv hI.hh.2 hl;have dR:aD (aP false n S.ce):=kN _ _ _;have cP:=fun (v:World) (hv:Below w0.heap.size w0 v) (hb:ao 0 v S.c (cT S.ck S.cs S.cb S.ch S.cl S.ce S.cr S.hs 0 S.q))=>xt n 0 (hg.keep' hv) hb;obtain⟨⟨x,y1,z⟩,hp⟩:∃ p,(L l8).p=p:=⟨_,rfl⟩;obtain⟨W,hW⟩:∃ W,(L l8).W=W:=⟨_,rfl⟩;obtain⟨q,hq⟩:∃ q,aP false n S.ce=q:=⟨_,rfl⟩;rw[hp] at aZ ⊢;rw[hW] at ⊢;rw[hq] at dR ⊢;simp only[hp] at AG;simp only[hW] at AE;simp only[hq] at cP;have HI:=zH hI;have xI:=zH AE;have mQ:=zH AG;have dT:=zH cP;have gp:=zH dR;have dQ:=zH aZ;obtain⟨dd,hdd⟩:∃ dd,decide (S.f (x,y1,z)=W)=dd:=⟨_,rfl⟩;rw[hdd];have dZ:=zH hdd;clear hp hW hq AE AG cP dR aZ hdd hI hg hl;go_enter func180,ntmps180;go_wp2_with fail;refine Ord.wc [31] (fun v=>Below w0.heap.size w0 v/\ao 0 v o (aw S.c kd key val lv nx 0 (zP F.fb) n (l8:Int) t y an er dn)/\ao 0 v S.c (cT S.ck S.cs S.cb S.ch S.cl S.ce S.cr S.hs 0 S.q)/\fg F S.c key L h v) (fun k w'=>∃ G5,Env w0 (ae o (aw S.c kd key val lv nx 0 (zP F.fb) n (l8:Int) t y an er dn)::LT (if k=0 then S else { S with G:=G5,f:=swf S.f (x,y1,z) W q,qc:=dE S.qc dd,m:=S.m+1 }) R) w') ⟨hE.drew.below,hE.drew.get 0 rfl,hE.drew.get 1 rfl,HI.out.at9 hE.drew (fun a ha=>by simp[LT,ha])⟩ ⟨S.G,hE.drew⟩ fun af=>?_
 repeat ((first
  | (refine Ord.cv ?_ af.o ?_ ?_;rotate_left;(intro w5 hS;have r:=ao.rule hS.2.1;unfold aw at r;go_simp<;>rfl))
  | (refine Ord.co af.o ?_)
  | (refine Ord.cc ?_ ?_ ?_ af.o ?_ ?_ ?_;rotate_left 3;(intro w5 hS;have r:=ao.rule hS.2.1;unfold aw at r;go_simp;constructor<;>rfl);(intro w5 hS;(first | (with_reducible refine kp (xI.out _ hS.2.2.2) ?_ ?_;rfl;exact fun w6 aj=>⟨⟨hS.1.trans (aj.mono hS.1.size),hS.2.1.under aj,hS.2.2.1.under aj,hS.2.2.2.under aj⟩,fun k h=>h.elim fun G5 h=>⟨G5,h.over aj⟩⟩) | (with_reducible refine kp (mQ.out _ hS.2.2.2) ?_ ?_;rfl;exact fun w6 aj=>⟨⟨hS.1.trans (aj.mono hS.1.size),hS.2.1.under aj,hS.2.2.1.under aj,hS.2.2.2.under aj⟩,fun k h=>h.elim fun G5 h=>⟨G5,h.over aj⟩⟩) | (with_reducible refine kp (dT.out _ hS.1 hS.2.2.1) ?_ ?_;rfl;exact fun w6 aj=>⟨⟨hS.1.trans (aj.mono hS.1.size),hS.2.1.under aj,hS.2.2.1.under aj,hS.2.2.2.under aj⟩,fun k h=>h.elim fun G5 h=>⟨G5,h.over aj⟩⟩)))));try simp only[Act.put,zA,zZ,zS])
 refine Ord.ch_turn (v:=.bool dd) 0 af.o rfl (by decide) (Or.inl rfl) (by rfl) ?_ ?_
 ·rintro w5 aN ⟨G5,au⟩;simp only[if_true] at au;go_simp;rw[kP];simp only[Result.andThen_ok];go_simp;simp only[Ord.LandsIn];have bS:=kO x y1 z 0 W 0 q 0 false false dQ.out gp.out hm 3 4 (by decide) au rfl rfl;rw[dZ.out] at bS;refine bS.mono ?_;rintro e w6 ⟨rfl,G6,aq⟩;exact⟨rfl,⟨aq.below,aq.get 0 rfl,aq.get 1 rfl,HI.out.at9 aq (fun a ha=>by simp[LT,ha])⟩,G6,aq⟩
 try simp only[Act.put,zA,zZ,zS]
 repeat ((first
  | (refine Ord.cv ?_ af.o ?_ ?_;rotate_left;(intro w5 hS;skip;go_simp<;>rfl))
  | (refine Ord.co af.o ?_));try simp only[Act.put,zA,zZ,zS])
 refine Ord.InText.nil fun w5 hS=>?_;clear af;obtain⟨aL,ai⟩:=Ord.chain_end hS;clear hS;obtain⟨G9,ai⟩:=ai;simp only[List.length_cons,List.length_nil,Nat.zero_add,Nat.one_ne_zero,if_false] at ai;clear aL hE dT dZ;go_wp2_with fail;go_ret;exact⟨rfl,G9,ai⟩
def tX (lv:Int) (an:Bool) (l:Nat):Nat:=if (l:Int)=lv then 201 else if an then 202 else 203
theorem En (hl:l8<=1000) (hE:Env w0 (ae o (aw c kd key val lv nx 0 fp n (l8:Int) t y an er dn)::M) w) :
  Calls prog 181 #[zP o] w fun e w'=>e=.returned (zI 0)/\Env w0 (ae o (aw c kd key val lv (mvL (tX lv an (l8+1)) o) 0 fp n ((l8+1:Nat):Int) t y an er dn)::M) w':=by
 have cf:=cg;have hz:((l8+1:Nat):Int)=(l8:Int)+1:=by simp
 unfold tX;rw[hz];have r0:=hE.rule 0 rfl;unfold aw at r0;have f9:=hE.thaw 0 rfl 10 (by simp[aw]);have hP:=hE.put 0 rfl (j:=10) (by simp[aw]) (zI ((l8:Int)+1));replace hP:Env w0 (ae o (aw c kd key val lv nx 0 fp n ((l8:Int)+1) t y an er dn)::M) _:=hP;clear hE hz
 by_cases hb:(l8:Int)+1=lv
 ·have b1:((l8:Int)+1==lv)=true:=by simpa using hb
  rw[if_pos hb];clear hb;go_enter func181,ntmps181
  go_upto_region 2 with fail
  generalize World.setCell _ _ _=w9 at *;clear r0 f9;refine cG (S:=(Env w0 (ae o (aw c kd key val lv nx 0 fp n ((l8:Int)+1) t y an er dn)::M))) (by kernel_rfl) (by kernel_rfl) hP.drew (fun hT=>?_);have af:=zH hT;clear hT
  repeat ((first
   | (refine cH (v:=?_) af.o (by rfl) ?_ ?_;rotate_left;(intro w5 hS;have r:=hS.rule 0 rfl;unfold aw at r;go_simp<;>rfl))
   | (refine cI af.o (by rfl) ?_)
   | (refine cJ (v:=?_) (f:=?_) (args:=?_) af.o (by rfl) ?_ ?_ ?_;rotate_left 3;(intro w5 hS;have r:=hS.rule 0 rfl;unfold aw at r;go_simp;constructor<;>rfl);(intro w5 hS;(first | fail))));try simp only[Act.put,zA,zZ,zS])
  refine InText.nil fun w5 aK=>?_;clear af;clear hP;have r:=aK.rule 0 rfl;unfold aw at r;go_wp2_with fail;refine (goOn_r (o:=5) 0 _ _ _ (by simp[aw]) aK rfl).mono ?_;rintro e w5 ⟨rfl,aB⟩;go_wp2_with fail;go_ret;exact⟨rfl,aB⟩
 ·have b1:((l8:Int)+1==lv)=false:=by simpa using hb
  rw[if_neg hb];clear hb;cases an
  ·rw[if_neg (by decide)];go_enter func181,ntmps181
   go_upto_region 2 with fail
   generalize World.setCell _ _ _=w9 at *;clear r0 f9;refine cG (S:=(Env w0 (ae o (aw c kd key val lv nx 0 fp n ((l8:Int)+1) t y false er dn)::M))) (by kernel_rfl) (by kernel_rfl) hP.drew (fun hT=>?_);have af:=zH hT;clear hT
   repeat ((first
    | (refine cH (v:=?_) af.o (by rfl) ?_ ?_;rotate_left;(intro w5 hS;have r:=hS.rule 0 rfl;unfold aw at r;go_simp<;>rfl))
    | (refine cI af.o (by rfl) ?_)
    | (refine cJ (v:=?_) (f:=?_) (args:=?_) af.o (by rfl) ?_ ?_ ?_;rotate_left 3;(intro w5 hS;have r:=hS.rule 0 rfl;unfold aw at r;go_simp;constructor<;>rfl);(intro w5 hS;(first | fail))));try simp only[Act.put,zA,zZ,zS])
   refine InText.nil fun w5 aK=>?_;clear af;clear hP;have r:=aK.rule 0 rfl;unfold aw at r;go_wp2_with fail;refine (goOn_r (o:=5) 0 _ _ _ (by simp[aw]) aK rfl).mono ?_;rintro e w5 ⟨rfl,aB⟩;go_wp2_with fail;go_ret;exact⟨rfl,aB⟩
  ·rw[if_pos rfl];go_enter func181,ntmps181
   go_upto_region 2 with fail
   generalize World.setCell _ _ _=w9 at *;clear r0 f9;refine cG (S:=(Env w0 (ae o (aw c kd key val lv nx 0 fp n ((l8:Int)+1) t y true er dn)::M))) (by kernel_rfl) (by kernel_rfl) hP.drew (fun hT=>?_);have af:=zH hT;clear hT
   repeat ((first
    | (refine cH (v:=?_) af.o (by rfl) ?_ ?_;rotate_left;(intro w5 hS;have r:=hS.rule 0 rfl;unfold aw at r;go_simp<;>rfl))
    | (refine cI af.o (by rfl) ?_)
    | (refine cJ (v:=?_) (f:=?_) (args:=?_) af.o (by rfl) ?_ ?_ ?_;rotate_left 3;(intro w5 hS;have r:=hS.rule 0 rfl;unfold aw at r;go_simp;constructor<;>rfl);(intro w5 hS;(first | fail))));try simp only[Act.put,zA,zZ,zS])
   refine InText.nil fun w5 aK=>?_;clear af;clear hP;have r:=aK.rule 0 rfl;unfold aw at r;go_wp2_with fail;refine (goOn_r (o:=5) 0 _ _ _ (by simp[aw]) aK rfl).mono ?_;rintro e w5 ⟨rfl,aB⟩;go_wp2_with fail;go_ret;exact⟨rfl,aB⟩
theorem LG (hg:bE w0) (hm:S.m < maxLen) (dH:S.ck=3) (bH:S.ch=(h:Int)) (aZ:Wf (L 0).p) (heq:S.f (L 0).p≠(L 0).W) (hI:eK F S.c key L h R) (hE:Env w0 (ae o (aw S.c kd key val lv nx 0 (zP F.fb) n 0 t y an er dn)::LT S R) w) :
  Calls prog 154 #[zP o,.iface 28 (zP S.p)] w fun e w'=>e=.returned (zI 0)/\∃ G' b1 b2 fb g,Env w0 (ae o (aw S.c kd key val lv (cvP b1 b2) 0 (zP fb) n 0 t y an er dn)::ae b1 [mvL 109 fb]::ae b2 [mvL 81 o]::ae fb (bq S.c key (mvL 124 fb) 0 g h 0)::ae g (List.replicate h (.pointer none))::LT { S with G:=G',f:=swf S.f (L 0).p (L 0).W (aP false n S.ce),qc:=dE S.qc (decide (S.f (L 0).p=(L 0).W)),m:=S.m+1 } R) w':=by
 have cf:=cg;have kE:=zH (xJ (l8:=0) hg hm (by have:=hI.hh;omega) aZ hI hE);rw[decide_eq_false heq] at kE ⊢;have HH:=zH hI.hh.2;have HC:=zH (And.intro dH bH);clear hE hI aZ heq dH bH;go_enter func154,ntmps154;go_wp2_with fail;refine kE.out.mono ?_;rintro e w1 ⟨rfl,G',ag⟩;clear kE;go_wp2_with fail;have dH:=HC.out.1;have bH:=HC.out.2;refine (sd 0 HH.out (show (LT { S with G:=G',f:=swf S.f (L 0).p (L 0).W (aP false n S.ce),qc:=dE S.qc false,m:=S.m+1 } R)[0]?=some (dy S.c 3 S.cs S.cb h S.cl S.ce S.cr S.hs 0 S.q) by rw[<- dH,<- bH];rfl) ag).mono ?_;rintro e w2 ⟨rfl,b1,b2,fb,g,az⟩;clear dH bH ag;go_wp2_with fail;go_ret;exact⟨rfl,G',b1,b2,fb,g,az⟩
theorem LH (hg:bE w0) (hm:S.m < maxLen) (j5:S.hs≠0) (aZ:Wf (L 0).p) (heq:S.f (L 0).p=(L 0).W) (hI:eK F S.c key L h R) (hE:Env w0 (ae o (aw S.c kd key val lv nx 0 (zP F.fb) n 0 t y an er dn)::LT S R) w) :
  Calls prog 154 #[zP o,.iface 28 (zP S.p)] w fun e w'=>e=.returned (zI 0)/\∃ G',Env w0 (ae o (aw S.c kd key val lv (mvL (tX lv an 1) o) 0 (zP F.fb) n 1 t y an er dn)::LT { S with G:=G',f:=swf S.f (L 0).p (L 0).W (aP false n S.ce),qc:=dE S.qc (decide (S.f (L 0).p=(L 0).W)),m:=S.m+1,hs:=0 } R) w':=by
 have cf:=cg;have kE:=zH (xJ (l8:=0) hg hm (by have:=hI.hh;omega) aZ hI hE);rw[decide_eq_true heq] at kE ⊢;have LI:=zH j5;have r0:=hE.rule 0 rfl;unfold aw at r0;clear hE hI aZ heq j5 r0;go_enter func154,ntmps154;go_wp2_with fail;refine kE.out.mono ?_;rintro e w1 ⟨rfl,G',ag⟩;clear kE;have r0:=ag.rule 0 rfl;unfold aw at r0;go_wp2_with fail;refine (El LI.out 1 ag rfl).mono ?_;rintro e w4 ⟨rfl,bD⟩;simp only[zZ,zS] at bD;clear ag r0;go_wp2_with fail;refine (En (l8:=0) (by decide) bD).mono ?_;rintro e w5 ⟨rfl,aB⟩;go_wp2_with fail;go_ret;exact⟨rfl,G',aB⟩
theorem LJ (hg:bE w0) (hm:S.m < maxLen) (dH:S.ck=3) (bH:S.ch=(h:Int)) (hl:l8 < h) (aZ:Wf (L l8).p) (heq:S.f (L l8).p≠(L l8).W) (hI:eK F S.c key L h R) (hE:Env w0 (ae o (aw S.c kd key val lv nx 0 (zP F.fb) n (l8:Int) t y an er dn)::LT S R) w) :
  Calls prog 203 #[zP o,.iface 28 (zP S.p)] w fun e w'=>e=.returned (zI 0)/\∃ G' b1 b2 fb g,Env w0 (ae o (aw S.c kd key val lv (cvP b1 b2) 0 (zP fb) n (l8:Int) t y an er dn)::ae b1 [mvL 109 fb]::ae b2 [mvL 221 o]::ae fb (bq S.c key (mvL 124 fb) 0 g h 0)::ae g (List.replicate h (.pointer none))::LT { S with G:=G',f:=swf S.f (L l8).p (L l8).W (aP false n S.ce),qc:=dE S.qc (decide (S.f (L l8).p=(L l8).W)),m:=S.m+1 } R) w':=by
 have cf:=cg;have kE:=zH (xJ hg hm hl aZ hI hE);rw[decide_eq_false heq] at kE ⊢;have HH:=zH hI.hh.2;have HC:=zH (And.intro dH bH);clear hE hI aZ heq dH bH;go_enter func203,ntmps203;go_wp2_with fail;refine kE.out.mono ?_;rintro e w1 ⟨rfl,G',ag⟩;clear kE;have dH:=HC.out.1;have bH:=HC.out.2;have sf:=zH (Ay 221 0 HH.out (show (LT { S with G:=G',f:=swf S.f (L l8).p (L l8).W (aP false n S.ce),qc:=dE S.qc false,m:=S.m+1 } R)[0]?=some (dy S.c 3 S.cs S.cb h S.cl S.ce S.cr S.hs 0 S.q) by rw[<- dH,<- bH];rfl) ag);unfold mvL at sf;clear dH bH ag;go_wp2_with fail;refine sf.out.mono ?_;rintro e w2 ⟨rfl,b1,b2,fb,g,az⟩;clear sf;have rT:=zH az;clear az;go_wp2_with fail;go_ret;exact⟨rfl,G',b1,b2,fb,g,rT.out⟩
theorem LK (hg:bE w0) (hm:S.m < maxLen) (hl:l8 < h) (aZ:Wf (L l8).p) (heq:S.f (L l8).p=(L l8).W) (hI:eK F S.c key L h R) (hE:Env w0 (ae o (aw S.c kd key val lv nx 0 (zP F.fb) n (l8:Int) t y an er dn)::LT S R) w) :
  Calls prog 203 #[zP o,.iface 28 (zP S.p)] w fun e w'=>e=.returned (zI 0)/\∃ G',Env w0 (ae o (aw S.c kd key val lv (mvL (tX lv an (l8+1)) o) 0 (zP F.fb) n ((l8+1:Nat):Int) t y an er dn)::LT { S with G:=G',f:=swf S.f (L l8).p (L l8).W (aP false n S.ce),qc:=dE S.qc (decide (S.f (L l8).p=(L l8).W)),m:=S.m+1 } R) w':=by
 have cf:=cg;have kE:=zH (xJ hg hm hl aZ hI hE);rw[decide_eq_true heq] at kE ⊢;have HL:=zH (show l8<=1000 by have:=hI.hh;omega);clear hE hI aZ heq hl;go_enter func203,ntmps203;go_wp2_with fail;refine kE.out.mono ?_;rintro e w1 ⟨rfl,G',ag⟩;clear kE;go_wp2_with fail;refine (En HL.out ag).mono ?_;rintro e w5 ⟨rfl,aB⟩;go_wp2_with fail;go_ret;exact⟨rfl,G',aB⟩
end
def One (q q':bN):Prop :=
 (q'.l=wrap64 (q.l+1)/\q'.s=q.s/\q'.w=q.w/\q'.a=q.a)\/(q'.l=q.l/\q'.s=wrap64 (q.s+1)/\q'.w=q.w/\q'.a=q.a) \/
 (q'.l=q.l/\q'.s=q.s/\q'.w=wrap64 (q.w+1)/\q'.a=q.a)\/(q'.l=q.l/\q'.s=q.s/\q'.w=q.w/\q'.a=wrap64 (q.a+1))
structure Nx (n:Nat) (q:bN) (n':Nat) (q':bN):Prop where
 (le:n'<=n+1)
 (one:One q q')
end
end Go.Proofs.YtleklonmmlfijaaGreatDoor
