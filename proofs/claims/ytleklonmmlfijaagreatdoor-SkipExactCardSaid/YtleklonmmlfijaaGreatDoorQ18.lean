/- What is proved on the way to the statement, part 18: contracts of the functions, among other things in memory. -/
import Derived.Test.YtleklonmmlfijaaGreatDoorQ17
import Derived.LoopIn
import Derived.Shelf.SlMaps.Clone
import Derived.Ground.SlmcProg
import Derived.Test.YtleklonmmlfijaaGreatDoorProg
import Derived.Maps.RangeWalk
import Derived.LoopTactic
import Derived.OwnWalkIn
import Derived.TacticsInMore
import Derived.LoopNIn
import Derived.Maps.AppendAt
import Derived.Shelf.SlSortCmp.NoneTotal
import Derived.Shelf.SlMaps.Equal
import Derived.Shelf.SlicesG.Cmp
import Derived.Shelf.SlGeneric
import Derived.Ground.SlsfProg
import Derived.Ground.SlmeProg
import Derived.Ground.SlgcProg
import Derived.LoopN
import Derived.RangeFuncNested
import Derived.RangeFuncBound
import Derived.RangeFuncCalls
import Derived.RangeFuncLeaves
import Derived.Sort.MapsRangeIn
import Derived.Laws.IdiomRangeMap

open _root_.Go.Proofs.Tryz
set_option maxRecDepth 100000
set_option maxHeartbeats 25600000
namespace Go.Proofs.YtleklonmmlfijaaGreatDoor
section
open Go.RowKit Go.Maps
theorem Env.appendB {w0 w:World} {L:List Item} (h:Env w0 L w) (i k:Nat) {v:Value} {cs:List Nat} {n c:Nat} (hi:L[i]?=some (gx v cs)) (hk:L[k]?=some (ae n [zP c])) (hz:cs.length<=1000000) :
  ∃ g cap w',(Builtin.append_ #[30,30] 30 #[v,.slice (some ⟨n,0,none⟩) 1 1]).run prog w=.ok (.slice (some ⟨g,0,none⟩) (cs.length+1) cap) w' /\
   Env w0 (L.set i (gx (.slice (some ⟨g,0,none⟩) (cs.length+1) cap) (cs++[c]))) w':=by
 obtain⟨i0,nH,jR,oZ,rP⟩:=info_parts Qu;have cF:=h.tpRow i hi;have hr:=h.rule k hk;have oy:∀ j u,[zP c][j]?=some u->w.cell? ((⟨n,0,none⟩:Addr).add j)=some u:=fun j u hj=>by
  have e:(⟨n,0,none⟩:Addr).add j=⟨n,j,none⟩:=by unfold Addr.add;split<;>simp_all
  rw[e,hr j];exact hj
 obtain⟨g,cap,w',cZ,ho,yw,hg,eB⟩:=run_append_lies (P:=prog) w 30 30 0 33 i0 (.pointer none) 1 8 Tryz.underlying30 nH jR oZ rP rfl (by decide) v cs.length (oA cs) cF
  ⟨n,0,none⟩ 1 1 [zP c] rfl oy (by simp[Value.oneCell']) (by omega) (by simp[maxLen];omega) (by omega) (by simp) _ rfl
 have bY:Step (fun k=>v.ownBlock=some k) (fun k=>k=g) w w':=⟨(cj.refl _ w).grown yw fun k _ e=>e,fun k hk=>by
  subst hk
  rcases hg with e | e
  ·exact .inl e
  ·right;rw[e];simp⟩
 refine⟨g,cap,w',cZ,?_⟩;refine h.step i (gx (.slice (some ⟨g,0,none⟩) (cs.length+1) cap) (cs++[c])) hi ⟨bY.turn,fun k hk=>bY.from' k (by cases hk;rfl)⟩ ?_ fun k hk=>by cases hk;exact eB
 have e1:(cs++[c]).length=cs.length+1:=by simp
 show w'.ownsRow 0 33 1 _ (cs++[c]).length (oA (cs++[c]));rw[e1,Qt];exact ho
def oB (k s b h l:Int):List Value:=[zI k,zI s,zI b,zI h,zI l,zI 0,.slice none 0 0,zI 0,zI 0,zI 0]
def QS (w0:World) (k1 k2 k3 k4 k5:Int) (r:Rw) (v:Value) (cs:List Nat) (M:List Item) (κs:List Value) (fo:Option Value) (w:World):Prop :=
 (κs=[]/\((fo=none/\Env w0 (gx v cs::M) w)\/∃ n,fo=some (zP n)/\Env w0 (ae n (oB k1 k2 k3 k4 k5)::gx v cs::M) w)) \/
 (∃ c q F,κs=[zP c]/\((fo=none/\Env w0 (dy c k1 k2 k3 k4 k5 0 0 0 0 q::fU q F [] 2::gx v cs::M) w)\/∃ n,fo=some (zP n)/\Env w0 (ae n (oB k1 k2 k3 k4 k5)::dy c k1 k2 k3 k4 k5 0 0 0 0 q::fU q F [] 2::gx v cs::M) w)) \/
 (∃ c q F n,κs=[zP c,Value.agg #[zP c,zP n,.slice r.A r.ds.length r.cap,zI 0,.bool false,.pointer none,.pointer none,.pointer none,.pointer none,zI 0]]/\fo=some (zP n)/\Env w0 (ae n (oB k1 k2 k3 k4 k5)::dy c k1 k2 k3 k4 k5 0 0 0 0 q::fU q F [] 2::gx v cs::M) w) \/
 (∃ c q F n t,κs=[zP c,Value.agg #[zP c,zP n,.slice r.A r.ds.length r.cap,zI 0,.bool false,.pointer none,.pointer none,.pointer none,.pointer none,zI 0],zP t]/\fo=some (zP n)/\Env w0 (ae t [zP c,zP n,.slice r.A r.ds.length r.cap,zI 0,.bool false,.pointer none,.pointer none,.pointer none,.pointer none,zI 0]::ae n (oB k1 k2 k3 k4 k5)::dy c k1 k2 k3 k4 k5 0 0 0 0 q::fU q F [] 2::gx v cs::M) w) \/
 (∃ c q F n t z,κs=[zP c,Value.agg #[zP c,zP n,.slice r.A r.ds.length r.cap,zI 0,.bool false,.pointer none,.pointer none,.pointer none,.pointer none,zI 0],zP t,.slice (some ⟨z,0,none⟩) 1 1]/\fo=some (zP n)/\Env w0 (ae z [zP t]::ae t [zP c,zP n,.slice r.A r.ds.length r.cap,zI 0,.bool false,.pointer none,.pointer none,.pointer none,.pointer none,zI 0]::ae n (oB k1 k2 k3 k4 k5)::dy c k1 k2 k3 k4 k5 0 0 0 0 q::fU q F [] 2::gx v cs::M) w) \/
 (∃ c q F n t z g cp,κs=[zP c,Value.agg #[zP c,zP n,.slice r.A r.ds.length r.cap,zI 0,.bool false,.pointer none,.pointer none,.pointer none,.pointer none,zI 0],zP t,.slice (some ⟨z,0,none⟩) 1 1,.slice (some ⟨g,0,none⟩) (cs.length+1) cp]/\fo=some (zP n)/\Env w0 (ae z [zP t]::ae t [zP c,zP n,.slice r.A r.ds.length r.cap,zI 0,.bool false,.pointer none,.pointer none,.pointer none,.pointer none,zI 0]::ae n (oB k1 k2 k3 k4 k5)::dy c k1 k2 k3 k4 k5 0 0 0 0 q::fU q F [] 2::gx (.slice (some ⟨g,0,none⟩) (cs.length+1) cp) (cs++[t])::M) w) \/
 (∃ c q F n t z g cp,κs=[zP c,Value.agg #[zP c,zP n,.slice r.A r.ds.length r.cap,zI 0,.bool false,.pointer none,.pointer none,.pointer none,.pointer none,zI 0],zP t,.slice (some ⟨z,0,none⟩) 1 1,.slice (some ⟨g,0,none⟩) (cs.length+1) cp,.slice (some ⟨g,0,none⟩) (cs.length+1) cp]/\fo=some (zP n)/\Env w0 (ae z [zP t]::ae t [zP c,zP n,.slice r.A r.ds.length r.cap,zI 0,.bool false,.pointer none,.pointer none,.pointer none,.pointer none,zI 0]::ae n (oB k1 k2 k3 k4 k5)::dy c k1 k2 k3 k4 k5 0 0 0 0 q::fU q F [] 2::gx (.slice (some ⟨g,0,none⟩) (cs.length+1) cp) (cs++[t])::M) w)
section
variable {w0 w:World} {L:List Item}
theorem QT (k1 k2 k3 k4 k5:Int) (A:Option Addr) (cap:Nat) (rs:List Rw) (qT:rs.length<=4) (fS:jQ uo 1 w0 A rs) (hc:iN k1 k2 k3 k4 k5=0) (hE:Env w0 L w) :
  Calls prog 6 #[.agg #[zI k1,zI k2,zI k3,zI k4,zI k5],.slice A rs.length cap] w fun o w'=>∃ (p cc m g cp:Nat) (S:GS),o=.returned (.tuple #[zP p,zP m,.slice (some ⟨g,0,none⟩) rs.length cp])/\S.ps.length=rs.length/\(∀ i,i < rs.length->∃ q,S.ps[i]?=some q/\yu q (rs.getD i default))/\S.ml=qX/\S.n<=1/\QB 2 S.qc/\Env w0 (EL ⟨k1,k2,k3,k4,k5⟩ (.slice (some ⟨g,0,none⟩) rs.length cp) p cc m S L) w':=by
 have kR:=zH fS;have HC:=zH hc;have QU:=zH qT;replace hE:=hE.box w.heap.size rfl [zI k1,zI k2,zI k3,zI k4,zI k5] 23;clear fS hc;go_enter func6,ntmps6;go_wp2_with fail;generalize w.alloc _=w2 at *;generalize w.heap.size=Y at *;refine (Df hE).mono ?_;rintro o w3 ⟨p,cc,rfl,bM,hb⟩;clear hb hE;go_wp2_with fail;refine (Dg 0 1 (by decide) (by unfold maxLen;omega) bM rfl rfl).mono ?_;rintro o w4 ⟨rfl,F4,bD⟩;simp only[zS,zZ] at bD;clear bM;generalize Gl:({ l:=_,s:=_,w:=_,f:=_,a:=_ }:bN)=q4 at bD;have ik:QB 2 q4:=by
  rw[<- Gl];have h1:=df (0+1) (by omega);unfold QB;dsimp only;rw[h1];omega
 have iM:=zH ik;clear Gl ik;replace bD:=bD.newU w4.heap.size rfl 69;go_wp2_with fail;refine (vi _).mono ?_;rintro o w5 ⟨rfl,hb⟩;replace bD:=bD.over hb;clear hb;generalize w4.heap.size=m at *;go_wp2_with fail;refine (mM 1 0 0 1 (by simp) (bD.ref 0 rfl)).mono ?_;rintro o w6 ⟨rfl,F6,hU,hs⟩;replace bD:=bD.turnU 0 rfl hU hs;simp only[zZ] at bD;clear hU hs;have aB:=bD.tpEmpty w6.heap.size rfl;clear bD;obtain⟨g0,uE⟩:∃ g0,w6.heap.size=g0:=⟨_,rfl⟩;obtain⟨M0,Cc⟩:∃ M0,M0=bP m F6 (cM [] (1,0,0) 1)::fk p cc::dg cc F4 (upd (fun _=>0) (1,0,0) 1) q4 (0+1)::L:=⟨_,rfl⟩;replace aB:=aB.perm (L':=gx (.slice (some ⟨w6.heap.size,0,none⟩) 0 0) []::ae Y [zI k1,zI k2,zI k3,zI k4,zI k5]::bP m F6 (cM [] (1,0,0) 1)::fk p cc::dg cc F4 (upd (fun _=>0) (1,0,0) 1) q4 (0+1)::L) (cm fun z=>by simp only[List.count_cons];omega);have QV:=zH Cc;rw[<- Cc] at aB;clear Cc;go_wp2_with fail;rw[uE] at aB;clear uE
 go_loopw [9,10] (fun ov iv wr=>∃ (j g cp:Nat) (ps:List Pk),j<=rs.length/\iv=.int .i64 j/\ps.length=j/\ov=.slice (some ⟨g,0,none⟩) j cp/\Hid (∀ i,i < j->∃ p,ps[i]?=some p/\yu p (rs.getD i default))/\Env w0 (gx ov (ps.map fun p=>p.X.thr)::ae Y [.int .i64 k1,.int .i64 k2,.int .i64 k3,.int .i64 k4,.int .i64 k5]::(ps.flatMap (Pk.its ⟨k1,k2,k3,k4,k5⟩)++M0)) wr) (fun _ iv _=>rs.length - (intOf iv).toNat)
 case atStart=>exact⟨0,_,0,[],Nat.zero_le _,rfl,rfl,rfl,zH (fun i hi=>absurd hi (Nat.not_lt_zero _)),aB⟩
 case round =>
  clear aB;obtain⟨j,g,cp,ps,hj,rfl,gq,rfl,eE,hE⟩:=hrel;have pL:=zH gq;clear gq
  by_cases aE:j < rs.length
  ·have cV:decide ((j:Int) < (rs.length:Int))=true:=by simp;omega
   have oN:(j:Int) < (rs.length:Int):=by omega
   obtain⟨g9,off,hA,hc⟩:=E4 kR.out (Below.refl _ _) j aE;have TK:=zH hA;subst hA;have oc:=zH hc;obtain⟨r,hr⟩:∃ r,rs.getD j default=r:=⟨_,rfl⟩;rw[hr] at oc;have HR:=zH hr;clear hc hr;obtain⟨M,hM⟩:∃ M,M=(ae Y [zI k1,zI k2,zI k3,zI k4,zI k5]::(ps.flatMap (Pk.its ⟨k1,k2,k3,k4,k5⟩)++M0)):=⟨_,rfl⟩;have Gm:ae Y [zI k1,zI k2,zI k3,zI k4,zI k5]∈M:=by rw[hM];simp
   have qY:=zH Gm;clear Gm;rw[<- hM] at hE;obtain⟨v,hv⟩:∃ v,v=Value.slice (some ⟨g,0,none⟩) j cp:=⟨_,rfl⟩;obtain⟨cs,eO⟩:∃ cs,cs=ps.map fun p=>p.X.thr:=⟨_,rfl⟩;rw[<- hv,<- eO] at hE;have gJ:cs.length=j:=by rw[eO,List.length_map];exact pL.out
   have HM:=zH hM;have vX:=zH eO;have ma:=zH gJ;have lg:=zH aE;clear hM eO gJ aE
   go_upto_region 9 with fail
   subst hv;refine OrdF.wp_float [?_,?_,?_,?_,?_,OrdF.Ptr,?_,?_,?_,?_,?_,?_,?_,?_,?_] [2,10,11,12,13,14] 5 (fun v=>Below w0.heap.size w0 v/\ao 0 v Y [zI k1,zI k2,zI k3,zI k4,zI k5]) (QS w0 k1 k2 k3 k4 k5 r (.slice (some ⟨g,0,none⟩) j cp) cs M) (by kernel_rfl) (by kernel_rfl) (by kernel_rfl) ⟨hE.drew.below,(hE.drew.2.2 (ae Y [zI k1,zI k2,zI k3,zI k4,zI k5]) (by simp[qY.out])).1⟩ (.inl ⟨rfl,.inl ⟨rfl,hE.drew⟩⟩) (fun hT=>?_);rotate_left 14;have af:=zH hT;clear hT
   repeat ((first
    | (focus (refine OrdF.in_value (v:=?_) af.o (by decide) (by decide) ?_ (by rfl) ?_ ?_;rotate_left 2;(intro w5 hS;have c0:=oc.out _ hS.1;have r9:=ao.rule hS.2;go_simp<;>rfl);rotate_right;(focus rfl)))
    | (focus (refine OrdF.in_off af.o (by decide) (by decide) ?_ (by rfl) ?_;(focus rfl))));try simp only[Act.put,zA,zZ,zS])
   refine OrdF.in_turn OrdF.Ptr rfl (fun u=>∃ z,u=zP z) _ ⟨0,rfl⟩ af.o rfl (by decide) (by decide) (by rfl) ?_ (Or.inl rfl) (by rfl) ?_ ?_
   ·rfl
   ·rintro qs w5 - aN au
    rcases au with ⟨h,au⟩ | ⟨c,q,F,h,au⟩ | ⟨c,q,F,n,h,hf,au⟩ | ⟨c,q,F,n,t,h,hf,au⟩ | ⟨c,q,F,n,t,z,h,hf,au⟩ | ⟨c,q,F,n,t,z,g9,iJ,h,hf,au⟩ | ⟨c,q,F,n,t,z,g9,iJ,h,hf,au⟩<;>cases h
    go_simp;simp only[Ord3.Lands]
    rcases au with ⟨rfl,aB⟩ | ⟨n5,rfl,aB⟩
    ·refine (zy k1 k2 k3 k4 k5 HC.out aB).mono ?_;rintro o w6 ⟨c,q,F,rfl,aq⟩;exact⟨_,rfl,⟨_,rfl⟩,⟨aq.below,(aq.2.2 (ae Y [zI k1,zI k2,zI k3,zI k4,zI k5]) (by simp[qY.out])).1⟩,.inr (.inl ⟨c,q,F,rfl,.inl ⟨rfl,aq⟩⟩)⟩
    ·refine (zy k1 k2 k3 k4 k5 HC.out aB).mono ?_;rintro o w6 ⟨c,q,F,rfl,aq⟩;exact⟨_,rfl,⟨_,rfl⟩,⟨aq.below,(aq.2.2 (ae Y [zI k1,zI k2,zI k3,zI k4,zI k5]) (by simp[qY.out])).1⟩,.inr (.inl ⟨c,q,F,rfl,.inr ⟨n5,rfl,aq.perm (List.perm_middle (l₁:=[_,_]))⟩⟩)⟩
   rintro _ ⟨z1,rfl⟩
   try simp only[Act.put,zA,zZ,zS]
   repeat ((first
    | (focus (refine OrdF.in_value (v:=?_) af.o (by decide) (by decide) ?_ (by rfl) ?_ ?_;rotate_left 2;(intro w5 hS;have c0:=oc.out _ hS.1;have r9:=ao.rule hS.2;go_simp<;>rfl);rotate_right;(focus rfl)))
    | (focus (refine OrdF.in_off af.o (by decide) (by decide) ?_ (by rfl) ?_;(focus rfl))));try simp only[Act.put,zA,zZ,zS])
   refine OrdF.in_float OrdF.Ptr (zP 0) ⟨0,rfl⟩ af.o rfl (by decide) ?_ (by rfl) ?_ ?_
   ·rfl
   ·intro w5 κs5 aN au
    rcases au with ⟨h,au⟩ | ⟨c,q,F,h,au⟩ | ⟨c,q,F,n,h,hf,au⟩ | ⟨c,q,F,n,t,h,hf,au⟩ | ⟨c,q,F,n,t,z,h,hf,au⟩ | ⟨c,q,F,n,t,z,g9,iJ,h,hf,au⟩ | ⟨c,q,F,n,t,z,g9,iJ,h,hf,au⟩
    ·rcases au with ⟨-,aB⟩ | ⟨n5,h5,-⟩
     ·subst h;go_simp;simp only[Ord3.Lands];have aq:=aB.box w5.heap.size rfl (oB k1 k2 k3 k4 k5) 78;exact⟨⟨_,rfl⟩,⟨aq.below,(aq.2.2 (ae Y [zI k1,zI k2,zI k3,zI k4,zI k5]) (by simp[qY.out])).1⟩,.inl ⟨rfl,.inr ⟨_,rfl,aq⟩⟩⟩
     ·cases h5
    ·rcases au with ⟨-,aB⟩ | ⟨n5,h5,-⟩
     ·subst h;go_simp;simp only[Ord3.Lands];have aq:=aB.box w5.heap.size rfl (oB k1 k2 k3 k4 k5) 78;exact⟨⟨_,rfl⟩,⟨aq.below,(aq.2.2 (ae Y [zI k1,zI k2,zI k3,zI k4,zI k5]) (by simp[qY.out])).1⟩,.inr (.inl ⟨c,q,F,rfl,.inr ⟨_,rfl,aq⟩⟩)⟩
     ·cases h5
    all_goals cases hf
   rintro _ ⟨n1,rfl⟩
   try simp only[Act.put,zA,zZ,zS]
   repeat ((first
    | (focus (refine OrdF.in_value (v:=?_) af.o (by decide) (by decide) ?_ (by rfl) ?_ ?_;rotate_left 2;(intro w5 hS;have c0:=oc.out _ hS.1;have r9:=ao.rule hS.2;go_simp<;>rfl);rotate_right;(focus rfl)))
    | (focus (refine OrdF.in_off af.o (by decide) (by decide) ?_ (by rfl) ?_;(focus rfl))));try simp only[Act.put,zA,zZ,zS])
   refine OrdF.in_turn_late (by kernel_rfl) (by decide) (by decide) (fun u=>∃ c n,u=Value.agg #[zP c,zP n,.slice r.A r.ds.length r.cap,zI 0,.bool false,.pointer none,.pointer none,.pointer none,.pointer none,zI 0]) _ ⟨0,0,rfl⟩ af.o rfl (by decide) (by rfl) ?_ (Or.inr ⟨_,2,[],rfl,by kernel_rfl,by kernel_rfl,rfl⟩) (by rfl) ?_ ?_
   ·rfl
   ·rintro w5 aN au
    rcases au with ⟨h,au⟩ | ⟨c,q,F,h,au⟩ | ⟨c,q,F,n,h,hf,au⟩ | ⟨c,q,F,n,t,h,hf,au⟩ | ⟨c,q,F,n,t,z,h,hf,au⟩ | ⟨c,q,F,n,t,z,g9,iJ,h,hf,au⟩ | ⟨c,q,F,n,t,z,g9,iJ,h,hf,au⟩<;>cases h
    rcases au with ⟨hn,-⟩ | ⟨n5,hn,aB⟩
    ·cases hn
    cases hn;go_simp;simp only[Ord3.Lands];exact⟨⟨_,_,rfl⟩,aN,.inr (.inr (.inl ⟨_,q,F,_,rfl,rfl,aB⟩))⟩
   rintro _ ⟨c2,n2,rfl⟩
   try simp only[Act.put,zA,zZ,zS]
   refine OrdF.in_turn OrdF.Ptr rfl (fun u=>∃ z,u=zP z) _ ⟨0,rfl⟩ af.o rfl (by decide) (by decide) (by rfl) ?_ (Or.inr ⟨_,10,[],rfl,by kernel_rfl,by kernel_rfl,rfl⟩) (by rfl) ?_ ?_
   ·rfl
   ·rintro qs w5 - aN au
    rcases au with ⟨h,au⟩ | ⟨c,q,F,h,au⟩ | ⟨c,q,F,n,h,hf,au⟩ | ⟨c,q,F,n,t,h,hf,au⟩ | ⟨c,q,F,n,t,z,h,hf,au⟩ | ⟨c,q,F,n,t,z,g9,iJ,h,hf,au⟩ | ⟨c,q,F,n,t,z,g9,iJ,h,hf,au⟩<;>cases h
    subst hf;go_simp;simp only[Ord3.Lands];have aq:=au.box w5.heap.size rfl [zP z1,zP n2,.slice r.A r.ds.length r.cap,zI 0,.bool false,.pointer none,.pointer none,.pointer none,.pointer none,zI 0] 47;exact⟨⟨_,rfl⟩,⟨aq.below,(aq.2.2 (ae Y [zI k1,zI k2,zI k3,zI k4,zI k5]) (by simp[qY.out])).1⟩,.inr (.inr (.inr (.inl ⟨_,q,F,_,_,rfl,rfl,aq⟩)))⟩
   rintro _ ⟨t3,rfl⟩
   try simp only[Act.put,zA,zZ,zS]
   refine OrdF.in_turn OrdF.Ptr rfl (fun u=>∃ z,u=.slice (some ⟨z,0,none⟩) 1 1) _ ⟨0,rfl⟩ af.o rfl (by decide) (by decide) (by rfl) ?_ (Or.inr ⟨_,11,[],rfl,by kernel_rfl,by kernel_rfl,rfl⟩) (by rfl) ?_ ?_
   ·rfl
   ·rintro qs w5 - aN au
    rcases au with ⟨h,au⟩ | ⟨c,q,F,h,au⟩ | ⟨c,q,F,n,h,hf,au⟩ | ⟨c,q,F,n,t,h,hf,au⟩ | ⟨c,q,F,n,t,z,h,hf,au⟩ | ⟨c,q,F,n,t,z,g9,iJ,h,hf,au⟩ | ⟨c,q,F,n,t,z,g9,iJ,h,hf,au⟩<;>cases h
    subst hf;go_simp;simp only[Ord3.Lands];have aq:=au.box w5.heap.size rfl [zP t3] 33;exact⟨⟨_,rfl⟩,⟨aq.below,(aq.2.2 (ae Y [zI k1,zI k2,zI k3,zI k4,zI k5]) (by simp[qY.out])).1⟩,.inr (.inr (.inr (.inr (.inl ⟨_,q,F,_,_,_,rfl,rfl,aq⟩))))⟩
   rintro _ ⟨z4,rfl⟩
   try simp only[Act.put,zA,zZ,zS]
   refine OrdF.in_turn OrdF.Ptr rfl (fun u=>∃ g9 iJ,u=.slice (some ⟨g9,0,none⟩) (cs.length+1) iJ) _ ⟨0,0,rfl⟩ af.o rfl (by decide) (by decide) (by rfl) ?_ (Or.inr ⟨_,12,[],rfl,by kernel_rfl,by kernel_rfl,rfl⟩) (by rfl) ?_ ?_
   ·rfl
   ·rintro qs w5 - aN au
    rcases au with ⟨h,au⟩ | ⟨c,q,F,h,au⟩ | ⟨c,q,F,n,h,hf,au⟩ | ⟨c,q,F,n,t,h,hf,au⟩ | ⟨c,q,F,n,t,z,h,hf,au⟩ | ⟨c,q,F,n,t,z,g9,iJ,h,hf,au⟩ | ⟨c,q,F,n,t,z,g9,iJ,h,hf,au⟩<;>cases h
    obtain⟨g9,iJ,w6,cZ,aq⟩:=au.appendB 5 0 rfl rfl (by have:=ma.out;have:=QU.out;omega);subst hf;rw[sY (.tmp 27) (.tmp 39) 30 rfl (by rfl) (by rfl) cZ];simp only[Ord3.Lands];exact⟨⟨_,_,rfl⟩,⟨aq.below,(aq.2.2 (ae Y [zI k1,zI k2,zI k3,zI k4,zI k5]) (by simp[qY.out])).1⟩,.inr (.inr (.inr (.inr (.inr (.inl ⟨_,q,F,_,_,_,g9,iJ,rfl,rfl,aq⟩)))))⟩
   rintro _ ⟨g5,Gn,rfl⟩
   try simp only[Act.put,zA,zZ,zS]
   refine OrdF.in_turn OrdF.Ptr rfl (fun u=>∃ g9 iJ,u=.slice (some ⟨g9,0,none⟩) (cs.length+1) iJ) _ ⟨0,0,rfl⟩ af.o rfl (by decide) (by decide) (by rfl) ?_ (Or.inr ⟨_,13,[],rfl,by kernel_rfl,by kernel_rfl,rfl⟩) (by rfl) ?_ ?_
   ·rfl
   ·rintro qs w5 - aN au
    rcases au with ⟨h,au⟩ | ⟨c,q,F,h,au⟩ | ⟨c,q,F,n,h,hf,au⟩ | ⟨c,q,F,n,t,h,hf,au⟩ | ⟨c,q,F,n,t,z,h,hf,au⟩ | ⟨c,q,F,n,t,z,g9,iJ,h,hf,au⟩ | ⟨c,q,F,n,t,z,g9,iJ,h,hf,au⟩<;>cases h
    subst hf;go_simp;simp only[Ord3.Lands];exact⟨⟨_,_,rfl⟩,aN,.inr (.inr (.inr (.inr (.inr (.inr ⟨_,q,F,_,_,_,_,_,rfl,rfl,au⟩)))))⟩
   rintro _ ⟨g6,TM,rfl⟩
   try simp only[Act.put,zA,zZ,zS]
   refine OrdF.in_nil rfl (by decide) (by decide) ?_;rintro w5 aN au
   rcases au with ⟨h,au⟩ | ⟨c,q,F,h,au⟩ | ⟨c,q,F,n,h,hf,au⟩ | ⟨c,q,F,n,t,h,hf,au⟩ | ⟨c,q,F,n,t,z,h,hf,au⟩ | ⟨c,q,F,n,t,z,g9,iJ,h,hf,au⟩ | ⟨c,q,F,n,t,z,g9,iJ,h,hf,au⟩<;>cases h
   clear af aN hf cV oN oc;obtain⟨p9,Cd⟩:∃ p9:Pk,p9=⟨{ thr:=t3,c:=z1,q:=q,u:=n2,F:=F,kq:=2,A:=none,rc:=0,N:=0,cr:=0,ro:=0,dA:=r.A,dn:=r.ds.length,dc:=r.cap,pa:=.pointer none,pb:=.pointer none,pr:=.pointer none,pq:=.pointer none,pg:=.pointer none,ph:=.pointer none },K0,.pointer none,.pointer none,.pointer none,.pointer none,0,[]⟩:=⟨_,rfl⟩;have hits:Pk.its ⟨k1,k2,k3,k4,k5⟩ p9=[dy z1 k1 k2 k3 k4 k5 0 0 0 0 q,fU q F [] 2,ae n2 (oB k1 k2 k3 k4 k5),fx none 0 [],ae t3 [zP z1,zP n2,.slice r.A r.ds.length r.cap,zI 0,.bool false,.pointer none,.pointer none,.pointer none,.pointer none,zI 0]]:=by
    rw[Cd];rfl
   have oy:yu p9 r/\p9.X.thr=t3:=by
    rw[Cd];exact⟨⟨rfl,rfl,rfl,rfl,rfl,Int.le_refl _,(by show (0:Int)<=4000000;decide),rfl⟩,rfl⟩
   have aO:=(au.sub (.cons _ (List.Sublist.refl _))).addNone3 98;have bn:Env w0 (gx (.slice (some ⟨g5,0,none⟩) (j+1) Gn) ((ps++[p9]).map fun p=>p.X.thr)::ae Y [zI k1,zI k2,zI k3,zI k4,zI k5]::((ps++[p9]).flatMap (Pk.its ⟨k1,k2,k3,k4,k5⟩)++M0)) w5:=by
    have e1:(ps++[p9]).map (fun p=>p.X.thr)=cs++[t3]:=by rw[List.map_append,vX.out];simp[oy.2]
    rw[e1,<- ma.out];refine aO.perm (cm fun z=>?_);rw[HM.out];simp only[List.flatMap_append,List.flatMap_cons,List.flatMap_nil,hits,fx,List.length_nil,List.count_append,List.count_cons,List.count_nil];omega
   have QW:=zH bn;have QX:=zH oy;clear bn aO au oy hits Cd;go_wp2_with fail;have aE:=lg.out;have gq:=pL.out;refine⟨⟨j+1,g5,Gn,ps++[p9],by omega,by simp,by simp[gq],by simp[ma.out],zH ?_,?_⟩,?_⟩
   ·intro i hi
    by_cases he:i < j
    ·obtain⟨p,h1,h2⟩:=eE.out i he;exact⟨p,by rw[List.getElem?_append_left (by omega)];exact h1,h2⟩
    ·have he:i=j:=by omega
     subst he;refine⟨p9,?_,by rw[HR.out];exact QX.out.1⟩;rw[List.getElem?_append_right (by omega)];simp[gq]
   ·have:=QW.out;rw[ma.out];exact this
   ·simp only[intOf];omega
  ·have cV:decide ((j:Int) < (rs.length:Int))=false:=by simp;omega
   have lg:=zH aE;clear aE;go_wp2_with fail;have aE:=lg.out;have QY:j=rs.length:=by omega
   subst QY;have yo:upd (fun _=>0) (1,0,0) 1=ak qX:=by
    funext x
    rw[sO];unfold upd
    by_cases hx:x=(1,0,0)
    ·simp[hx]
    ·simp[hx]
   refine bodyPost_ret (v:=.tuple #[zP p,zP m,.slice (some ⟨g,0,none⟩) rs.length cp]) (by simp[results,results6,go_sem]) rfl ⟨p,cc,m,g,cp,⟨ps,F4,F6,q4,0+1,qX⟩,rfl,pL.out,eE.out,rfl,Nat.le_refl 1,iM.out,(hE.sub (.cons_cons _ (.cons _ (List.Sublist.refl _)))).perm (cm fun z=>?_)⟩;rw[QV.out,yo];simp only[EL,qX,List.count_append,List.count_cons];omega
end
end
section
open Go.RowKit Go.WideShapes Go.ChangeShapes Go.ChangeAt Go.Deep
def sP (P:Program):Nat->TypeId->Bool
 | 0,_=>false
 | d+1,t =>
  match P.underlying t with
  | some .bool=>true
  | some (.int _)=>true
  | some (.struct fs)=>fs.toList.all fun f=>sP P d f.type
  | some (.slice e)=>sP P d e && decide (0 < P.cellsOf e)
  | _=>false
def Good (P:Program) (w:World):Nat->TypeId->List Value->Prop
 | 0,_,_=>False
 | d+1,t,cs =>
  match P.underlying t with
  | some .bool=>∃ b,cs=[.bool b]
  | some (.int k)=>∃ n,cs=[.int k n]/\(Lit.int k n).wf=true
  | some (.struct fs)=>cs.length=P.cellsOf t/\∀ f∈fs.toList,Good P w d f.type ((cs.drop f.offset).take (P.cellsOf f.type))
  | some (.slice e)=>∃ A len cap,cs=[.slice A len cap]/\len<=maxLen/\len<=cap/\(len=0\/∃ b off,A=some ⟨b,off,none⟩/\b < w.heap.size/\∀ i,i < len->∃ us:List Value,us.length=P.cellsOf e/\km w b (off+i * P.cellsOf e) us/\Good P w d e us)
  | _=>False
section
variable {H:Type} {enc:TypeId × Value->H} {P:Program} {w:World} {held:Bool}
theorem Ce:∀ (d:Nat) {t:TypeId} {fuel:Nat} {cs:List Value} {x:DataW H × List MemPlace},sP P d t=true->DataW.trod enc P w 0 (fun _=>true) held fuel t cs=some x->(∀ p∈x.2,p.block < w.heap.size)->Good P w d t cs
 | 0,_,_,_,_,h,_,_=>by simp[sP] at h
 | d+1,t,fuel,cs,x,h,hx,aE=>by
  unfold sP at h;unfold Good
  split at h
  ·rename_i hu;obtain⟨b,rfl,_⟩:=DataW.trod_bool hu hx
   try rw[hu]
   exact⟨b,rfl⟩
  ·rename_i k hu;obtain⟨n,rfl,_,hw⟩:=DataW.trod_int hu hx
   try rw[hu]
   exact⟨n,rfl,hw⟩
  ·rename_i fs hu;obtain⟨xs,n,_,rfl,hl,hlen,eE⟩:=DataW.trod_struct hu hx
   try rw[hu]
   refine⟨hl,fun f hf=>?_⟩;obtain⟨i,hi,he⟩:=List.getElem_of_mem hf;have fE:i < fs.size:=by simpa using hi
   have h1:=eE i f (by simp[fE];simpa using he);have Gp:i < xs.length:=by omega
   rw[List.getElem?_eq_getElem Gp] at h1;exact Ce d (List.all_eq_true.1 h f hf) h1 fun p hp=>aE p (List.mem_flatMap.2 ⟨xs[i],List.getElem_mem Gp,hp⟩)
  ·rename_i e hu;rw[Bool.and_eq_true,decide_eq_true_iff] at h;obtain⟨h1,h0⟩:=h
   try rw[hu]
   rcases open_slice hu hx with ⟨rfl,_⟩ | ⟨a,len,cap,m,n,D,Pl,rfl,_,hl,hm,yV,rfl,eE⟩
   ·exact⟨none,0,0,rfl,Nat.zero_le _,Nat.le_refl _,.inl rfl⟩
   ·simp only[if_true] at yV;subst yV;refine⟨some a,len,m,rfl,by omega,by omega,?_⟩
    by_cases hz:len=0
    ·exact .inl hz
    ·right
     have each:∀ i,i < m->∃ us:List Value,us.length=P.cellsOf e/\(∀ j v,us[j]?=some v->w.cell? (a.add (i * P.cellsOf e+j))=some v)/\Good P w d e us:=fun i hi=>by
      obtain⟨cs',h2,h3⟩:=eE i hi;obtain⟨_,hlen,ie⟩:=World.cells?_some h2;refine⟨cs',hlen,fun j v hj=>?_,Ce d h1 h3 fun p hp=>aE p (List.mem_append_right _ (List.mem_flatMap.2 ⟨i,by simpa using hi,hp⟩))⟩;have kH:j < P.cellsOf e:=by have:=(List.getElem?_eq_some_iff.1 hj).1;omega
      have:=ie j kH;rw[add_add,hj] at this;exact this
     obtain⟨b,off,spot⟩:=a;have Cg:spot=none:=by
      obtain⟨us,fG,hc,_⟩:=each 0 (by omega);have:=hc 0 (us[0]'(by omega)) (by simp)
      simpa [Addr.add] using World.cell?_spot this
     subst Cg;refine⟨b,off,rfl,aE (.cell b off) (List.mem_append_left _ (MemPlace.mem_row.2 ⟨0,Nat.mul_pos (by omega) h0,by simp⟩)),fun i hi=>?_⟩;obtain⟨us,h4,h5,h6⟩:=each i (by omega);refine⟨us,h4,fun j v hj=>?_,h6⟩;have:=h5 j v hj;rw[add_plain] at this;rw[Nat.add_assoc];exact this
  ·cases h
end
theorem Good.rowC {α:Type} [Inhabited α] {enc:α->List Value} {Ok:α->Prop} {P:Program} {w:World} {t e:TypeId} {d:Nat} {cs:List Value} (ht:P.underlying t=some (.slice e)) (h:Good P w (d+1) t cs)
  (vY:∀ us,us.length=P.cellsOf e->Good P w d e us->∃ r:α,enc r=us/\Ok r) :
  ∃ A cap,∃ xs:List α,cs=[.slice A xs.length cap]/\xs.length<=maxLen/\xs.length<=cap/\(∀ r∈xs,Ok r)/\jQ enc (P.cellsOf e) w A xs:=by
 unfold Good at h;rw[ht] at h;obtain⟨A,len,cap,rfl,hm,z7,hz | ⟨b,off,rfl,hb,eE⟩⟩:=h
 ·subst hz;exact⟨A,cap,[],rfl,hm,Nat.zero_le _,by simp,.inl rfl⟩
 ·have each:∀ i,i < len->∃ r:α,km w b (off+i * P.cellsOf e) (enc r)/\Ok r:=fun i hi=>by
   obtain⟨us,h1,h2,h3⟩:=eE i hi;obtain⟨r,rfl,hr⟩:=vY us h1 h3;exact⟨r,h2,hr⟩
  obtain⟨f,hf⟩:=choose_lt each;refine⟨some ⟨b,off,none⟩,cap,(List.range len).map f,by simp,by simpa using hm,by simpa using z7,fun r hr=>?_,?_⟩
  ·obtain⟨i,hi,rfl⟩:=List.mem_map.1 hr;exact (hf i (by simpa using hi)).2
  ·refine .inr ⟨b,off,rfl,hb,fun i hi=>?_⟩;have fE:i < len:=by simpa using hi
   have e:((List.range len).map f).getD i default=f i:=by simp[fE]
   rw[e];exact (hf i fE).1
theorem Good.row {α:Type} [Inhabited α] {enc:α->List Value} {Ok:α->Prop} {P:Program} {w:World} {t e:TypeId} {d:Nat} {cs:List Value} (ht:P.underlying t=some (.slice e)) (h:Good P w (d+1) t cs)
  (vY:∀ us,us.length=P.cellsOf e->Good P w d e us->∃ r:α,enc r=us/\Ok r) :
  ∃ A cap,∃ xs:List α,cs=[.slice A xs.length cap]/\xs.length<=maxLen/\(∀ r∈xs,Ok r)/\jQ enc (P.cellsOf e) w A xs:=by
 obtain⟨A,cap,xs,h1,h2,-,h3,h4⟩:=h.rowC ht vY;exact⟨A,cap,xs,h1,h2,h3,h4⟩
theorem QZ {α:Type} [Inhabited α] {enc:α->List Value} {Ok:α->Prop} {P:Program} {H:Type} {en:TypeId × Value->H} {W:World} {t e:TypeId} {d:Nat} {A:Option Addr} {len cap:Nat} {dt:DataW H} {p:List MemPlace}
  (ht:P.underlying t=some (.slice e)) (gq:sP P (d+1) t=true)
  (vY:∀ us,us.length=P.cellsOf e->Good P W d e us->∃ r:α,enc r=us/\Ok r)
  (h:DataW.Trod en P W 0 (fun _=>true) true t (.slice A len cap) dt p) (aE:∀ x∈p,x.block < W.heap.size) :
  ∃ xs:List α,xs.length=len/\len<=maxLen/\(∀ r∈xs,Ok r)/\jQ enc (P.cellsOf e) W A xs:=by
 obtain⟨fuel,hf⟩:=h;have hg:=Ce (d+1) gq hf aE;obtain⟨A',ga,xs,he,h1,h2,h3⟩:=hg.row ht vY;simp only[Value.cells,List.cons.injEq,Value.slice.injEq,and_true] at he;obtain⟨rfl,rfl,rfl⟩:=he;exact⟨xs,rfl,h1,h2,h3⟩
theorem Good.int {P:Program} {w:World} {t:TypeId} {k:IntKind} {d:Nat} {cs:List Value} (ht:P.underlying t=some (.int k)) (h:Good P w (d+1) t cs):∃ n,cs=[.int k n]/\(Lit.int k n).wf=true:=by
 unfold Good at h;rw[ht] at h;exact h
theorem Good.struct {P:Program} {w:World} {t:TypeId} {fs:Array Field} {d:Nat} {cs:List Value} (ht:P.underlying t=some (.struct fs)) (h:Good P w (d+1) t cs):cs.length=P.cellsOf t/\∀ f∈fs.toList,Good P w d f.type ((cs.drop f.offset).take (P.cellsOf f.type)):=by
 unfold Good at h;rw[ht] at h;exact h
end
section
open Go.RowKit Go.Maps Go.Deep
def Ch (W:World) (r:Rw):Prop:=r.ds.length<=maxLen/\(∀ d∈r.ds,aD d.key/\aD d.val)/\jQ pM 4 W r.A r.ds
theorem Q5:prog.cellsOf 3=1:=by kernel_rfl
theorem Q6:prog.cellsOf 53=1:=by kernel_rfl
theorem Gq:prog.cellsOf 55=4:=by kernel_rfl
theorem Q7:prog.cellsOf 40=1:=by kernel_rfl
theorem Q8 (W:World) (us:List Value) (hl:us.length=prog.cellsOf 55) (h:Good prog W 5 55 us):∃ r:Dd,pM r=us/\(aD r.key/\aD r.val):=by
 rw[Gq] at hl
 match us,hl with
 | [u1,u2,u3,u4],_ =>
  obtain⟨_,hg⟩:=Good.struct Tryz.underlying55 h;have g0:=hg _ (List.Mem.head _);have g1:=hg _ (List.Mem.tail _ (List.Mem.head _));have g2:=hg _ (List.Mem.tail _ (List.Mem.tail _ (List.Mem.head _)));have g3:=hg _ (List.Mem.tail _ (List.Mem.tail _ (List.Mem.tail _ (List.Mem.head _))));simp only[Q5,Q6,List.drop_zero,List.drop_succ_cons,List.take_succ_cons,List.take_zero] at g0 g1 g2 g3;obtain⟨n1,e1,_⟩:=Good.int Tryz.underlying3 g0;obtain⟨n2,e2,w2⟩:=Good.int Tryz.underlying53 g1;obtain⟨n3,e3,w3⟩:=Good.int Tryz.underlying53 g2;obtain⟨n4,e4,_⟩:=Good.int Tryz.underlying3 g3;simp only[List.cons.injEq,and_true] at e1 e2 e3 e4;exact⟨⟨0,n1,n2,n3,n4⟩,by rw[e1,e2,e3,e4];rfl,u64_in w2,u64_in w3⟩
theorem Q9 (W:World) (us:List Value) (_:us.length=prog.cellsOf 40) (h:Good prog W 6 40 us):∃ r:Rw,uo r=us/\Ch W r:=by
 obtain⟨A,cap,xs,e,h1,h2,h3⟩:=Good.row Tryz.underlying40 h (Q8 W);rw[Gq] at h3;exact⟨⟨A,cap,xs⟩,e.symm,h1,h2,h3⟩
theorem Ra:sP prog 7 24=true:=by kernel_rfl
theorem Rb {H:Type} {en:TypeId × Value->H} {W:World} {A:Option Addr} {len cap:Nat} {d:DataW H} {p:List MemPlace}
  (h:DataW.Trod en prog W 0 (fun _=>true) true 24 (.slice A len cap) d p) (aE:∀ x∈p,x.block < W.heap.size) :
  ∃ xs:List Rw,xs.length=len/\len<=maxLen/\(∀ r∈xs,Ch W r)/\jQ uo 1 W A xs:=by
 obtain⟨xs,h1,h2,h3,h4⟩:=QZ (d:=6) Tryz.underlying24 Ra (Q9 W) h aE;rw[Q7] at h4;exact⟨xs,h1,h2,h3,h4⟩
end
section
open Go.RowKit Go.Maps
section
variable {w0:World}
def Gr (k1 k2 k3 k4 k5:Int) (r:Rw):Prop:=r.ds.length<=30/\∀ i,i < r.ds.length->jE k1 k2 k3 k4 k5 (r.ds.getD i default).ok (r.ds.getD i default).key (r.ds.getD i default).val (r.ds.getD i default).lv=0
theorem Rc (k1 k2 k3 k4 k5:Int) (A Ap:Option Addr) (cap Re np:Nat) (rs:List Rw) (qT:rs.length<=9223372036854775807) (TN:np<=9223372036854775807) (fS:jQ uo 1 w0 A rs) (hlen:∀ r∈rs,r.ds.length<=9223372036854775807) (aG:∀ r∈rs,jQ pM 4 w0 r.A r.ds) (w:World) (hw:Below w0.heap.size w0 w) :
  Calls prog 5 #[.agg #[zI k1,zI k2,zI k3,zI k4,zI k5],.slice A rs.length cap,.slice Ap np Re] w fun o w'=>Below w.heap.size w w'/\(o=.returned (.bool true)\/(o=.returned (.bool false)/\(iN k1 k2 k3 k4 k5=0/\k1=3/\k2<=40/\1<=rs.length/\rs.length<=4/\np<=1500)/\∀ i,i < rs.length->Gr k1 k2 k3 k4 k5 (rs.getD i default))):=by
 have hE:=(Env.start w).box w.heap.size rfl [zI k1,zI k2,zI k3,zI k4,zI k5] 23;have r0:=hE.rule 0 rfl;have kR:=zH fS;have Ci:=zH hlen;have iV:=zH aG;have HW:=zH hw;clear fS hlen hw aG
 by_cases h0:¬ iN k1 k2 k3 k4 k5=0
 ·have b0:(iN k1 k2 k3 k4 k5 != 0)=true:=by simpa using h0
  have H0:=zH h0;clear h0;go_enter func5,ntmps5;go_wp2_with fail;generalize w.alloc _=w2 at *;refine (oP k1 k2 k3 k4 k5 _).mono ?_;rintro o w3 ⟨rfl,hb⟩;replace hE:=hE.over hb;clear hb r0;have r0:=hE.rule 0 rfl;go_wp2_with fail;go_ret;exact⟨hE.below,.inl rfl⟩
 by_cases h1:¬ k1=3
 ·have b0:(iN k1 k2 k3 k4 k5 != 0)=false:=by simpa using h0
  have b1:(k1 != 3)=true:=by simpa using h1
  have H0:=zH h0;have H1:=zH h1;clear h0 h1;go_enter func5,ntmps5;go_wp2_with fail;generalize w.alloc _=w2 at *;refine (oP k1 k2 k3 k4 k5 _).mono ?_;rintro o w3 ⟨rfl,hb⟩;replace hE:=hE.over hb;clear hb r0;have r0:=hE.rule 0 rfl;go_wp2_with fail;go_ret;exact⟨hE.below,.inl rfl⟩
 by_cases h2:40 < k2
 ·have b0:(iN k1 k2 k3 k4 k5 != 0)=false:=by simpa using h0
  have b1:(k1 != 3)=false:=by simpa using h1
  have b2:decide (k2 > 40)=true:=by simp;omega
  have d2:decide (40 < k2)=true:=by simp;omega
  have H0:=zH h0;have H1:=zH h1;have H2:=zH h2;clear h0 h1 h2;go_enter func5,ntmps5;go_wp2_with fail;generalize w.alloc _=w2 at *;refine (oP k1 k2 k3 k4 k5 _).mono ?_;rintro o w3 ⟨rfl,hb⟩;replace hE:=hE.over hb;clear hb r0;have r0:=hE.rule 0 rfl;go_wp2_with fail;go_ret;exact⟨hE.below,.inl rfl⟩
 by_cases h3:rs.length < 1
 ·have b0:(iN k1 k2 k3 k4 k5 != 0)=false:=by simpa using h0
  have b1:(k1 != 3)=false:=by simpa using h1
  have b2:decide (k2 > 40)=false:=by simp;omega
  have d2:decide (40 < k2)=false:=by simp;omega
  have b3:decide ((rs.length:Int) < 1)=true:=by simp;omega
  have d3:decide ((rs.length:Int) < 1)=true:=by simp;omega
  have H0:=zH h0;have H1:=zH h1;have H2:=zH h2;have H3:=zH h3;clear h0 h1 h2 h3;go_enter func5,ntmps5;go_wp2_with fail;generalize w.alloc _=w2 at *;refine (oP k1 k2 k3 k4 k5 _).mono ?_;rintro o w3 ⟨rfl,hb⟩;replace hE:=hE.over hb;clear hb r0;have r0:=hE.rule 0 rfl;go_wp2_with fail;go_ret;exact⟨hE.below,.inl rfl⟩
 by_cases h4:4 < rs.length
 ·have b0:(iN k1 k2 k3 k4 k5 != 0)=false:=by simpa using h0
  have b1:(k1 != 3)=false:=by simpa using h1
  have b2:decide (k2 > 40)=false:=by simp;omega
  have d2:decide (40 < k2)=false:=by simp;omega
  have b3:decide ((rs.length:Int) < 1)=false:=by simp;omega
  have d3:decide ((rs.length:Int) < 1)=false:=by simp;omega
  have b4:decide ((rs.length:Int) > 4)=true:=by simp;omega
  have d4:decide (4 < (rs.length:Int))=true:=by simp;omega
  have H0:=zH h0;have H1:=zH h1;have H2:=zH h2;have H3:=zH h3;have H4:=zH h4;clear h0 h1 h2 h3 h4;go_enter func5,ntmps5;go_wp2_with fail;generalize w.alloc _=w2 at *;refine (oP k1 k2 k3 k4 k5 _).mono ?_;rintro o w3 ⟨rfl,hb⟩;replace hE:=hE.over hb;clear hb r0;have r0:=hE.rule 0 rfl;go_wp2_with fail;go_ret;exact⟨hE.below,.inl rfl⟩
 by_cases h5:1500 < np
 ·have b0:(iN k1 k2 k3 k4 k5 != 0)=false:=by simpa using h0
  have b1:(k1 != 3)=false:=by simpa using h1
  have b2:decide (k2 > 40)=false:=by simp;omega
  have d2:decide (40 < k2)=false:=by simp;omega
  have b3:decide ((rs.length:Int) < 1)=false:=by simp;omega
  have d3:decide ((rs.length:Int) < 1)=false:=by simp;omega
  have b4:decide ((rs.length:Int) > 4)=false:=by simp;omega
  have d4:decide (4 < (rs.length:Int))=false:=by simp;omega
  have b5:decide ((np:Int) > 1500)=true:=by simp;omega
  have d5:decide (1500 < (np:Int))=true:=by simp;omega
  have H0:=zH h0;have H1:=zH h1;have H2:=zH h2;have H3:=zH h3;have H4:=zH h4;have H5:=zH h5;clear h0 h1 h2 h3 h4 h5;go_enter func5,ntmps5;go_wp2_with fail;generalize w.alloc _=w2 at *;refine (oP k1 k2 k3 k4 k5 _).mono ?_;rintro o w3 ⟨rfl,hb⟩;replace hE:=hE.over hb;clear hb r0;have r0:=hE.rule 0 rfl;go_wp2_with fail;go_ret;exact⟨hE.below,.inl rfl⟩
 have b0:(iN k1 k2 k3 k4 k5 != 0)=false:=by simpa using h0
 have b1:(k1 != 3)=false:=by simpa using h1
 have b2:decide (k2 > 40)=false:=by simp;omega
 have d2:decide (40 < k2)=false:=by simp;omega
 have b3:decide ((rs.length:Int) < 1)=false:=by simp;omega
 have d3:decide ((rs.length:Int) < 1)=false:=by simp;omega
 have b4:decide ((rs.length:Int) > 4)=false:=by simp;omega
 have d4:decide (4 < (rs.length:Int))=false:=by simp;omega
 have b5:decide ((np:Int) > 1500)=false:=by simp;omega
 have d5:decide (1500 < (np:Int))=false:=by simp;omega
 have HG:Hid (iN k1 k2 k3 k4 k5=0/\k1=3/\k2<=40/\1<=rs.length/\rs.length<=4/\np<=1500):=zH ⟨Classical.byContradiction h0,Classical.byContradiction h1,by omega,by omega,by omega,by omega⟩;clear h0 h1 h2 h3 h4 h5;go_enter func5,ntmps5;go_wp2_with fail;generalize w.alloc _=w2 at *;refine (oP k1 k2 k3 k4 k5 _).mono ?_;rintro o w3 ⟨rfl,hb⟩;replace hE:=hE.over hb;clear hb r0;have r0:=hE.rule 0 rfl;clear r0;generalize hY:w.heap.size=Y at *;have HY:=zH hY;clear hY;have r0:=hE.rule 0 rfl;go_wp2_with fail;clear b0 b1 b2 b3 b4 b5 d2 d3 d4 d5 r0
 go_loopw [7] (fun iv wr=>∃ (j:Nat),j<=rs.length/\iv=.int .i64 j/\Hid (∀ i,i < j->Gr k1 k2 k3 k4 k5 (rs.getD i default))/\Env w [ae Y [.int .i64 k1,.int .i64 k2,.int .i64 k3,.int .i64 k4,.int .i64 k5]] wr) (fun iv _=>rs.length - (intOf iv).toNat)
 case atStart=>exact⟨0,Nat.zero_le _,rfl,zH (fun i hi=>absurd hi (Nat.not_lt_zero _)),hE⟩
 case round =>
  clear hE;obtain⟨j,hj,rfl,eE,oC⟩:=hrel
  by_cases aE:j < rs.length
  ·have cV:decide ((j:Int) < (rs.length:Int))=true:=by simp;omega
   have qh:(j:Int) < (rs.length:Int):=by omega
   obtain⟨g,off,hA,hc⟩:=E4 kR.out HW.out j aE;have ai:=zH hA;subst hA;have uF:Below w0.heap.size w0 wr:=HW.out.trans (oC.below.mono HW.out.size);have c0:=hc wr uF;have mC:rs.getD j default∈rs:=by rw[show rs.getD j default=rs[j] by simp[aE]];exact List.getElem_mem _
   have jT:=Ci.out _ mC;have ke:=iV.out _ mC;obtain⟨r,hr⟩:∃ r,rs.getD j default=r:=⟨_,rfl⟩;rw[hr] at c0 jT ke hc;have HR:=zH hr;have Cj:=zH aE;have HC:=zH hc;have sM:=zH ke;clear ai hr mC aE hc ke uF
   by_cases Ck:30 < r.ds.length
   ·have b5:decide (30 < (r.ds.length:Int))=true:=by simp;omega
    clear Ck;go_wp2_with fail;go_ret;exact⟨oC.below,.inl rfl⟩
   ·have b5:decide (30 < (r.ds.length:Int))=false:=by simp;omega
    have Rf:=zH Ck;clear Ck;go_wp2_with fail;clear b5 c0
    go_loopw [8] (fun kv wr=>∃ (k:Nat),k<=r.ds.length/\kv=.int .i64 k/\Hid (∀ i,i < k->jE k1 k2 k3 k4 k5 (r.ds.getD i default).ok (r.ds.getD i default).key (r.ds.getD i default).val (r.ds.getD i default).lv=0)/\Env w [ae Y [.int .i64 k1,.int .i64 k2,.int .i64 k3,.int .i64 k4,.int .i64 k5]] wr) (fun kv _=>r.ds.length - (intOf kv).toNat)
    case atStart=>exact⟨0,Nat.zero_le _,rfl,zH (fun i hi=>absurd hi (Nat.not_lt_zero _)),oC⟩
    case round =>
     clear oC;obtain⟨k,hk,rfl,uz,oC⟩:=hrel;have uF:Below w0.heap.size w0 wr:=HW.out.trans (oC.below.mono HW.out.size);have c0:=HC.out wr uF
     by_cases aE:k < r.ds.length
     ·have eg:decide ((k:Int) < (r.ds.length:Int))=true:=by simp;omega
      have jr:(k:Int) < (r.ds.length:Int):=by omega
      rcases sM.out with h0 | ⟨gb,pT,aU,bB,o3⟩
      ·rw[h0] at aE;simp at aE
      have o5:Hid (∀ v,Below w0.heap.size w0 v->km v gb (pT+k * 4) (pM (r.ds.getD k default))):=zH fun v hv=>(o3 k aE).below hv bB;rw[aU] at c0;have gT:Hid (∀ v,Below w0.heap.size w0 v->v.cell? ⟨g,off+j,none⟩=some (.slice (some ⟨gb,pT,none⟩) r.ds.length r.cap)):=zH fun v hv=>by rw[<- aU];exact HC.out v hv
      obtain⟨⟨kk,kd,key,val,lv⟩,hd⟩:∃ d,r.ds.getD k default=d:=⟨_,rfl⟩;rw[hd] at o5;have HD:=zH hd;have yx:=zH aE;have ui:=zH fun v=>Bc k1 k2 k3 k4 k5 kd key val lv v;clear hd aE o3 bB aU;obtain⟨io,uh⟩:∃ io,jE k1 k2 k3 k4 k5 kd key val lv=io:=⟨_,rfl⟩;rw[uh] at ui;have HI:=zH uh;clear uh;go_wp2_with fail;refine cG (S:=(fun v=>Below w0.heap.size w0 v/\Env w [ae Y [zI k1,zI k2,zI k3,zI k4,zI k5]] v)) (by kernel_rfl) (by kernel_rfl) ⟨uF.drew,oC.drew⟩ (fun hT=>?_);have af:=zH hT;clear hT
      repeat ((first
       | (refine cH (v:=?_) af.o (by rfl) ?_ ?_;rotate_left;(intro w5 hS;(have c0:=gT.out _ hS.1;have gV:=o5.out _ hS.1;have d0:=gV 0 _ rfl;have d1:=gV 1 _ rfl;have d2:=gV 2 _ rfl;have d3:=gV 3 _ rfl;clear gV;simp only[Nat.add_zero] at d0;have r0:=hS.2.rule 0 rfl);go_simp<;>rfl))
       | (refine cI af.o (by rfl) ?_)
       | (refine cJ (v:=?_) (f:=?_) (args:=?_) af.o (by rfl) ?_ ?_ ?_;rotate_left 3;(intro w5 hS;(have c0:=gT.out _ hS.1;have gV:=o5.out _ hS.1;have d0:=gV 0 _ rfl;have d1:=gV 1 _ rfl;have d2:=gV 2 _ rfl;have d3:=gV 3 _ rfl;clear gV;simp only[Nat.add_zero] at d0;have r0:=hS.2.rule 0 rfl);go_simp;constructor<;>rfl);(intro w5 hS;(first | (with_reducible refine kp (ui.out _) ?_ ?_;rfl;exact fun w6 aj=>⟨hS.1.trans (aj.mono hS.1.size),hS.2.over aj⟩)))));try simp only[Act.put,zA,zZ,zS])
      refine InText.nil fun w5 aK=>?_;clear af;clear uF oC c0
      by_cases vZ:io=0
      ·have b6:(io != 0)=false:=by simp[vZ]
       have H6:=zH vZ;clear vZ;go_wp2_with fail;refine⟨⟨k+1,by have:=yx.out;omega,by simp,zH fun i hi=>?_,aK.2⟩,by have:=yx.out;simp only[intOf];omega⟩
       by_cases he:i=k
       ·subst he;rw[HD.out];show jE k1 k2 k3 k4 k5 kd key val lv=0;rw[HI.out,H6.out]
       ·exact uz.out i (by omega)
      ·have b6:(io != 0)=true:=by simp[vZ]
       clear vZ;go_wp2_with fail;go_ret;exact⟨aK.2.below,.inl rfl⟩
     ·have eg:decide ((k:Int) < (r.ds.length:Int))=false:=by simp;omega
      have yx:=zH aE;clear aE;go_wp2_with fail;have aE:=Cj.out;refine⟨⟨j+1,by omega,by simp,zH fun i hi=>?_,oC⟩,by simp only[intOf];omega⟩
      by_cases he:i=j
      ·subst he;rw[HR.out];exact⟨by have:=Rf.out;omega,fun i hi=>uz.out i (by have:=yx.out;omega)⟩
      ·exact eE.out i (by omega)
  ·have cV:decide ((j:Int) < (rs.length:Int))=false:=by simp;omega
   have Cj:=zH aE;clear aE;go_wp2_with fail;go_ret;exact⟨oC.below,.inr ⟨rfl,HG.out,fun i hi=>eE.out i (by have:=Cj.out;omega)⟩⟩
end
end
section
theorem Rh {x y:aI} (h:pv x=pv y):x=y:=by
 obtain⟨a,b,c⟩:=x;obtain⟨a',b',c'⟩:=y;simp[pv] at h;simp[h]
def Gs (f:aI->Int) (ss:List aI):Prop:=ss.Nodup/\∀ x,x∈ss ↔ f x≠0
end
end Go.Proofs.YtleklonmmlfijaaGreatDoor
namespace Go.Proofs
section
open Go.Shelf
def Tryz.cloneWords_ren:Go.Shelf.Ren:=⟨fun | 5=>100 | 7=>119 | n=>n,fun | 23=>129 | 25=>72 | 3=>53 | 4=>4 | 20=>20 | n=>n,fun | n=>n⟩
theorem Tryz.cloneWords:Go.Proofs.SlLaysW.n5 prog Tryz.cloneWords_ren:={
 mixed:=by kernel_rfl
 f5:=⟨Tryz.f100.name,by decide,func100.trans (congrArg some (by kernel_rfl))⟩
 f7:=func119.trans (congrArg some (by kernel_rfl))
 t4:=Tryz.underlying4
 a4:=Tryz.isAgg4
 z4:=Tryz.sizeOf4
 v4:=Tryz.zeroValue4
 t20:=Tryz.underlying20
 a20:=Tryz.isAgg20
 z20:=Tryz.sizeOf20
 v20:=Tryz.zeroValue20
 t23:=Tryz.underlying129
 a23:=Tryz.isAgg129
 z23:=Tryz.sizeOf129
 v23:=Tryz.zeroValue129 }
end
end Go.Proofs
namespace Go.Proofs.YtleklonmmlfijaaGreatDoor
section
open Go.RowKit Go.Maps Go.Shelf
theorem Ri {mp:Option Nat} {f:aI->Int} {n:Nat} {w:World} (hM:dP w mp f n) :
  Calls prog 100 #[.map mp] w fun e w'=>∃ sQ,e=.returned (.map sQ)/\dP w' sQ f n/\(∀ b,sQ=some b->w.heap.size<=b)/\Below w.heap.size w w':=by
 rcases hM with ⟨rfl,rfl⟩ | ⟨b,D,rfl,ho,hr⟩
 ·refine Calls.mono (show Calls prog 100 #[.map none] w _ from AnyW.maps_Clone_nil Tryz.cloneWords w) ?_;rintro e w' ⟨rfl,rfl⟩;exact⟨none,rfl,.inl ⟨rfl,rfl⟩,fun b e=>by (cases e),Below.refl _ _⟩
 ·refine Calls.mono (show Calls prog 100 #[.map (some b)] w _ from AnyW.maps_Clone_owns Tryz.cloneWords _ _ b n D w ho) ?_;rintro e w' ⟨rfl,h1,_,h3⟩;exact⟨_,rfl,.inr ⟨_,D,rfl,h1,hr⟩,fun b e=>by (cases e;exact Nat.le_refl _),h3⟩
theorem Rj {c n:Nat} {F:Nat->Prop} {f:aI->Int} {q:bN} {w:World} (hC:ed w c F f q n) :
  Calls prog 73 #[.pointer (some ⟨c,0,none⟩)] w fun e w'=>∃ c' F',e=.returned (.pointer (some ⟨c',0,none⟩))/\ed w' c' F' f ⟨0,0,0,0,0⟩ n/\(∀ k,F' k->w.heap.size<=k)/\Below w.heap.size w w':=by
 obtain⟨mp,hb,hm,hF⟩:=hC;have r:=hb.rule;unfold cv at r;have hc:=Ri hm;clear hm;go_enter func73,ntmps73;go_wp2_with fail;refine hc.mono ?_;rintro e w1 ⟨sQ,rfl,hM,Rk,hB⟩;clear hc r
 go_wp2
 go_ret;have hs:=hB.size;refine⟨w1.heap.size,fun k=>k=w1.heap.size\/sQ=some k,rfl,⟨sQ,ao.new 0 w1 (cv sQ ⟨0,0,0,0,0⟩) 131,hM.more _,fun k=>Iff.rfl⟩,fun k hk=>?_,hB.alloc hs _⟩
 rcases hk with rfl | e
 ·exact hs
 ·exact Rk k e
end
section
open Go.RowKit Go.Maps
theorem Rl {w0 w:World} {L:List Item} {p c n:Nat} {F:Nat->Prop} {f:aI->Int} {q:bN} (i j:Nat) (hE:Env w0 L w) (hi:L[i]?=some (fk p c)) (hj:L[j]?=some (dg c F f q n)) :
  Calls prog 33 #[.pointer (some ⟨p,0,none⟩)] w fun e w'=>∃ c' F',e=.returned (.pointer (some ⟨c',0,none⟩))/\Env w0 (dg c' F' f ⟨0,0,0,0,0⟩ n::L) w':=by
 go_enter func33,ntmps33;go_wp2_with fail;refine (rH (hE.wblk i hi)).mono ?_;rintro e w1 ⟨rfl,rfl⟩;go_wp2_with fail;refine (Rj (hE.cell j hj)).mono ?_;rintro e w2 ⟨c',F',rfl,hC,hF,hb⟩
 go_wp2
 go_ret;exact⟨c',F',rfl,hE.made2 hC hF hb⟩
end
section
open Go.RowKit Go.Maps Go.Sort
theorem Gt {α:Type} (y0 y1 y2 x0 x1 x2:α) (D:List α):∀ P:List α,((((((P++y0::y1::y2::x0::x1::x2::D).set (P.length+3) y0).set (P.length+4) y1).set (P.length+5) y2).set P.length x0).set (P.length+1) x1).set (P.length+2) x2=P++x0::x1::x2::y0::y1::y2::D
 | []=>rfl
 | p::P=>by
  have ih:=Gt y0 y1 y2 x0 x1 x2 D P;simp only[List.cons_append,List.length_cons,show P.length+1+3=P.length+3+1 by omega,show P.length+1+4=P.length+4+1 by omega,show P.length+1+5=P.length+5+1 by omega,show P.length+1+2=P.length+2+1 by omega,zS];rw[ih]
def fP (m:List aI) (j:Nat) (x:aI):List aI:=m.take j++x::m.drop j
theorem Cl (l m:List aI):dX (l++m)=dX l++dX m:=by simp[dX]
theorem Ro (m:List aI) (j:Nat) (hj:j < m.length) (x:aI):((((((dX (fP m (j+1) x)).set (j * 3+3) (.int .i64 (m.getD j z3).1)).set (j * 3+4) (.int .i64 (m.getD j z3).2.1)).set (j * 3+5) (.int .i64 (m.getD j z3).2.2)).set (j * 3) (.int .i64 x.1)).set (j * 3+1) (.int .i64 x.2.1)).set (j * 3+2) (.int .i64 x.2.2)=dX (fP m j x):=by
 have hlen:(dX (m.take j)).length=j * 3:=by rw[Mi];simp;omega
 have e1:dX (fP m (j+1) x)=dX (m.take j)++.int .i64 (m.getD j z3).1::.int .i64 (m.getD j z3).2.1::.int .i64 (m.getD j z3).2.2::.int .i64 x.1::.int .i64 x.2.1::.int .i64 x.2.2::dX (m.drop (j+1)):=by
  unfold fP;rw[Cl,List.take_succ_eq_append_getElem hj,Cl];simp[dX,fj,hj]
 have e2:dX (fP m j x)=dX (m.take j)++.int .i64 x.1::.int .i64 x.2.1::.int .i64 x.2.2::.int .i64 (m.getD j z3).1::.int .i64 (m.getD j z3).2.1::.int .i64 (m.getD j z3).2.2::dX (m.drop (j+1)):=by
  unfold fP;have h0:m.drop j=m[j]::m.drop (j+1):=List.drop_eq_getElem_cons hj;have h1:m.getD j z3=m[j]:=by simp[hj]
  rw[Cl,h0,h1];simp[dX,fj,-List.getElem_cons_drop]
 rw[e1,e2,<- hlen];exact Gt _ _ _ _ _ _ _ _
theorem Rp (m:List aI) (j:Nat) (hj:j<=m.length) (x:aI):(fP m j x).getD j z3=x:=by
 unfold fP;rw[List.getD_eq_getElem?_getD,List.getElem?_append_right (by simp;omega)];simp[Nat.min_eq_left hj]
theorem Rq (m:List aI) (j:Nat) (hj:j < m.length) (x:aI):(fP m (j+1) x).getD j z3=m.getD j z3:=by
 unfold fP;rw[List.getD_eq_getElem?_getD,List.getElem?_append_left (by simp;omega)];simp[List.getElem?_take]
theorem yy (m:List aI) (j:Nat) (hj:j<=m.length) (x:aI):(fP m j x).length=m.length+1:=by unfold fP;simp;omega
theorem Gu {m:List aI} {j:Nat} {x:aI} (hm:mW m) (hj:j<=m.length) (hx:x ∉ m) (hd:∀ y∈m.drop j,ltOf fi x y=true) (hs:j=0\/ltOf fi x (m.getD (j - 1) z3)=false):mW (fP m j x):=by
 have h1:mW (m.take j):=List.Pairwise.sublist (List.take_sublist _ _) hm;have h2:mW (m.drop j):=List.Pairwise.sublist (List.drop_sublist _ _) hm;have h3:∀ y∈m.take j,ltOf fi y x=true:=by
  intro y hy;obtain⟨i,hi,rfl⟩:=List.getElem_of_mem hy;have fE:i < j:=by simp at hi;omega
  rcases hs with rfl | hs
  ·omega
  ·have lu:j - 1 < m.length:=by omega
   have e:m.getD (j - 1) z3=m[j - 1]:=by simp[lu]
   rw[e] at hs;have aE:ltOf fi m[j - 1] x=true:=by
    rcases h:ltOf fi m[j - 1] x with _ | _
    ·exact absurd (AV _ _ hs h) (fun e=>hx (e ▸ List.getElem_mem lu))
    ·rfl
   rw[List.getElem_take]
   rcases Nat.lt_or_ge i (j - 1) with nM | kg
   ·exact qK.trans _ _ _ (List.pairwise_iff_getElem.1 hm i (j - 1) (by omega) lu nM) aE
   ·have:i=j - 1:=by omega
    subst this;exact aE
 unfold fP mW;refine List.pairwise_append.2 ⟨h1,List.pairwise_cons.2 ⟨hd,h2⟩,fun a ha b hb=>?_⟩
 rcases List.mem_cons.1 hb with rfl | hb
 ·exact h3 a ha
 ·exact qK.trans _ _ _ (h3 a ha) (hd b hb)
theorem Rr {m:List aI} {j:Nat} {x y:aI}:y∈fP m j x ↔ y=x\/y∈m:=by
 unfold fP
 conv=>rhs;rw[<- List.take_append_drop j m]
 simp only[List.mem_append,List.mem_cons];constructor
 ·rintro (h | h | h)
  ·exact .inr (.inl h)
  ·exact .inl h
  ·exact .inr (.inr h)
 ·rintro (h | h | h)
  ·exact .inr (.inl h)
  ·exact .inl h
  ·exact .inr (.inr h)
theorem Rs {l:List bT} (h:(l.map (·.1)).Nodup) (x:aI):ak l x≠0 ↔ ∃ v,(x,v)∈l/\v≠0:=by
 induction l with
 | nil=>simp[ak]
 | cons e l ih =>
  rw[List.map_cons,List.nodup_cons] at h;have ih:=ih h.2
  by_cases he:e.1=x
  ·subst he;simp only[ak,if_true];constructor
   ·intro hv;exact⟨e.2,by simp,hv⟩
   ·rintro⟨v,hv,bu⟩
    rcases List.mem_cons.1 hv with e' | e'
    ·rw[<- e'];exact bu
    ·exact absurd (List.mem_map.2 ⟨_,e',rfl⟩) h.1
  ·simp only[ak,if_neg he];rw[ih];constructor
   ·rintro⟨v,hv,bu⟩;exact⟨v,List.mem_cons_of_mem _ hv,bu⟩
   ·rintro⟨v,hv,bu⟩
    rcases List.mem_cons.1 hv with e' | e'
    ·exact absurd (by rw[<- e']) he
    ·exact⟨v,e',bu⟩
theorem Rt {w:World} {b:Nat} {v:Value} {m:List aI} (h:w.ownsRow b 72 3 v m.length (dX m)):mm w v m:=by
 rcases h.2 with ⟨hv,h0⟩ | ⟨g,cap,cur,hv,_,hg,hn,hc,eO,jm⟩
 ·exact .inl ⟨List.eq_nil_of_length_eq_zero h0,hv⟩
 ·refine .inr ⟨g,cap,hv,(Array.getElem?_eq_some_iff.1 hg).1,fun j hj=>?_⟩;have each:∀ c,c < 3->w.cell? ⟨g,j * 3+c,none⟩=(fj (m.getD j z3))[c]?:=fun c zR=>by
   rw[<- xN m j c hj zR,<- jm,List.getElem?_take_of_lt (by omega)];simp[World.cell?,hg]
  exact⟨each 0 (by omega),each 1 (by omega),each 2 (by omega)⟩
def pU (l:List bT) (k:Nat) (m:List aI):Prop:=mW m/\m.length<=k/\∀ x,x∈m ↔ ∃ v,(x,v)∈l.take k/\v≠0
theorem pU.skip {l:List bT} {k:Nat} {m:List aI} (h:pU l k m) (hk:k < l.length) (h0:(l.getD k dO).2=0):pU l (k+1) m:=by
 refine⟨h.1,by have:=h.2.1;omega,fun x=>?_⟩;rw[h.2.2 x,List.take_succ_eq_append_getElem hk];have e:l[k].2=0:=by simpa [hk] using h0
 constructor
 ·rintro⟨v,hv,bu⟩;exact⟨v,List.mem_append.2 (.inl hv),bu⟩
 ·rintro⟨v,hv,bu⟩
  rcases List.mem_append.1 hv with hv | hv
  ·exact⟨v,hv,bu⟩
  ·rw[<- List.mem_singleton.1 hv] at e;exact absurd e bu
theorem pU.new {l:List bT} {k:Nat} {m:List aI} (h:pU l k m) (ef:(l.map (·.1)).Nodup) (hk:k < l.length):(l.getD k dO).1 ∉ m:=by
 intro hx;obtain⟨v,hv,_⟩:=(h.2.2 _).1 hx;obtain⟨i,hi,he⟩:=List.getElem_of_mem hv;have fE:i < k:=by simp at hi;omega
 have e1:l[i].1=l[k].1:=by
  have:(l.take k)[i]=l[i]:=List.getElem_take;rw[this] at he;have e2:l.getD k dO=l[k]:=by simp[hk]
  rw[he,<- e2]
 have:=(List.pairwise_iff_getElem.1 ef) i k (by simp;omega) (by simpa using hk) fE;simp at this;exact this e1
theorem pU.put {l:List bT} {k j:Nat} {m:List aI} (h:pU l k m) (hk:k < l.length) (h0:(l.getD k dO).2≠0) (hj:j<=m.length) (hr:mW (fP m j (l.getD k dO).1)):pU l (k+1) (fP m j (l.getD k dO).1):=by
 refine⟨hr,by have:=h.2.1;rw[yy m j hj];omega,fun x=>?_⟩;have e2:l.getD k dO=l[k]:=by simp[hk]
 rw[Rr,h.2.2 x,List.take_succ_eq_append_getElem hk,e2];rw[e2] at h0;constructor
 ·rintro (rfl | ⟨v,hv,bu⟩)
  ·exact⟨l[k].2,List.mem_append.2 (.inr (List.mem_singleton.2 rfl)),h0⟩
  ·exact⟨v,List.mem_append.2 (.inl hv),bu⟩
 ·rintro⟨v,hv,bu⟩
  rcases List.mem_append.1 hv with hv | hv
  ·exact .inr ⟨v,hv,bu⟩
  ·exact .inl (by rw[<- List.mem_singleton.1 hv])
set_option maxRecDepth 100000 in
theorem Ru {u:Nat} {F:Nat->Prop} {l:List bT} {w:World} (hl:l.length<=1000000) (ef:(l.map (·.1)).Nodup) (hU:jt w u F l) :
  Calls prog 35 #[.pointer (some ⟨u,0,none⟩)] w fun e w'=>∃ m v,e=.returned v/\py (ak l) m/\m.length<=l.length/\w'.ownsRow w.heap.size 72 3 v m.length (dX m)/\Below w.heap.size w w':=by
 obtain⟨A,cap,hblk,cF,mL,hF⟩:=hU.full;have fS:=zQ cF;have oY:=hblk.1;obtain⟨i0,hi,jR,oZ,rP⟩:=info_parts EA;have kR:=zH fS;have HB:Hid (∀ w',Below w.heap.size w w'->∀ i,w'.cell? ⟨u,i,none⟩=[Value.slice A l.length cap][i]?):=zH fun w' hb i=>by rw[hb.cell (p:=⟨u,i,none⟩) oY];exact hblk.rule i
 clear fS hblk cF mL hF;have Gv:(w.alloc (.cells #[] 72)).ownsRow w.heap.size 72 3 (.slice (some ⟨w.heap.size,0,none⟩) 0 0) 0 []:=⟨rfl,.inr ⟨w.heap.size,0,#[],rfl,Nat.le_refl _,heap_alloc_new w _,Nat.le_refl _,Nat.zero_le _,rfl,rfl⟩⟩;have lV:Below w.heap.size w (w.alloc (.cells #[] 72)):=(Below.refl _ w).alloc (Nat.le_refl _) _;go_enter func35,ntmps35;go_wp2_with fail
 go_loopw [3,4] (fun v i wr=>∃ (k:Nat) (m:List aI),k<=l.length/\i=.int .i64 k/\pU l k m/\wr.ownsRow w.heap.size 72 3 v m.length (dX m)/\Below w.heap.size w wr) (fun _ i _=>l.length - (intOf i).toNat)
 case atStart=>exact⟨0,[],by omega,rfl,⟨List.Pairwise.nil,by simp,by simp⟩,Gv,lV⟩
 case round =>
  obtain⟨k,m,hk,rfl,hm,uG,sR⟩:=hrel;have ru:=HB.out _ sR;clear Gv lV
  by_cases aE:k < l.length
  ·rcases kR.out with h0 | ⟨g,rfl,eB,hc⟩
   ·rw[h0] at aE;simp at aE
   obtain⟨c0,c1,c2,c3⟩:=hc k aE;clear hc;generalize ho:l.getD k dO=o at c0 c1 c2 c3;obtain⟨⟨x,y,z⟩,v0⟩:=o;simp only at c0 c1 c2 c3;have HC:Hid (∀ w',Below w.heap.size w w'->(w'.cell? ⟨g,k * 4,none⟩=some (.int .i64 x)/\w'.cell? ⟨g,k * 4+1,none⟩=some (.int .i64 y)/\w'.cell? ⟨g,k * 4+2,none⟩=some (.int .i64 z)/\w'.cell? ⟨g,k * 4+3,none⟩=some (.int .u64 v0))):=zH fun w' hb=>by
    refine⟨?_,?_,?_,?_⟩
    ·rw[hb.cell (p:=⟨g,k * 4,none⟩) eB];exact c0
    ·rw[hb.cell (p:=⟨g,k * 4+1,none⟩) eB];exact c1
    ·rw[hb.cell (p:=⟨g,k * 4+2,none⟩) eB];exact c2
    ·rw[hb.cell (p:=⟨g,k * 4+3,none⟩) eB];exact c3
   have HO:=zH ho;clear c0 c1 c2 c3 ho;obtain⟨c0,c1,c2,c3⟩:=HC.out _ sR
   by_cases iL:v0=0
   ·subst iL;go_wp2_with fail;exact⟨⟨k+1,m,by omega,rfl,hm.skip aE (by rw[HO.out]),uG,sR⟩,by simp[intOf];omega⟩
   ·have aQ:m.length<=k:=hm.2.1;obtain⟨A3,Rv,rfl⟩:=yO uG;obtain⟨v',w2,cZ,qt,jW,Rx⟩:=yJ (P:=prog) 99 99 w.heap.size 72 i0 (.agg #[.int .i64 0,.int .i64 0,.int .i64 0]) 3 24 Tryz.underlying99 hi jR oZ rP rfl (by decide) _ _ _ _ (uG.alloc (.cells #[.int .i64 x,.int .i64 y,.int .i64 z] 72)) (some ⟨wr.heap.size,0,none⟩) 1 1 [.int .i64 x,.int .i64 y,.int .i64 z] rfl
     (.inr ⟨_,rfl,oJ _ _ _⟩) (by simp[Value.oneCell']) (by simp[maxLen];omega) (by omega) (by have:=sR.size;simp;omega)
    obtain⟨b,ga,rfl,Ry,jl⟩:=qt.form (by omega);have oS:Below w.heap.size w w2:=by
     have h1:=sR.alloc sR.size (.cells #[.int .i64 x,.int .i64 y,.int .i64 z] 72);exact cj.below h1 (T:=fun k=>(Value.slice A3 m.length Rv).ownBlock=some k) ⟨jW.os,jW.tape,jW.output,jW.size,fun k hk hn=>jW.block k hk (fun e=>hn e.symm)⟩ h1.size fun k hk=>(uG.lt k hk).1
    go_wp2_with (first | (at_builtin;refine oI rfl _ _ 99 rfl cZ rfl rfl ?_));have Gw:w2.ownsRow w.heap.size 72 3 (.slice (some ⟨b,0,none⟩) (m.length+1) ga) (m.length+1) (dX (fP m m.length (x,y,z))):=by
     have e:dX (fP m m.length (x,y,z))=dX m++[.int .i64 x,.int .i64 y,.int .i64 z]:=by unfold fP;simp[dX,fj]
     rw[e];exact qt
    clear cZ qt jW Rx uG c0 c1 c2 c3 ru;have HM:=zH hm;clear hm
    go_loopw [5] (fun kk wq=>∃ j:Nat,j<=m.length/\kk=.int .i64 j/\(∀ t∈m.drop j,ltOf fi (x,y,z) t=true)/\wq.ownsRow w.heap.size 72 3 (.slice (some ⟨b,0,none⟩) (m.length+1) ga) (m.length+1) (dX (fP m j (x,y,z)))/\Below w.heap.size w wq) (fun kk _=>(intOf kk).toNat)
    case atStart=>exact⟨m.length,Nat.le_refl _,by simp,by simp,Gw,oS⟩
    case round =>
     obtain⟨j,hj,rfl,hd,Gx,Gy⟩:=hrel;clear Gw oS;have Rz:Hid (∀ w6 w7:World,(w6.ownsRow w.heap.size 72 3 (.slice (some ⟨b,0,none⟩) (m.length+1) ga) (m.length+1) (dX (fP m j (x,y,z)))/\Below w.heap.size w w6)->Below w6.heap.size w6 w7->(w7.ownsRow w.heap.size 72 3 (.slice (some ⟨b,0,none⟩) (m.length+1) ga) (m.length+1) (dX (fP m j (x,y,z)))/\Below w.heap.size w w7)):=zH fun w6 w7 h hb=>⟨sX h.1 fun k e=>hb.block k (h.1.lt k e).2,h.2.trans (hb.mono h.2.size)⟩
     rcases j with _ | j
     ·go_wp2_with fail;refine Ord.wc [] (fun w'=>w'.ownsRow w.heap.size 72 3 (.slice (some ⟨b,0,none⟩) (m.length+1) ga) (m.length+1) (dX (fP m 0 (x,y,z)))/\Below w.heap.size w w') (fun _ _=>True) (And.intro Gx.drew Gy.drew) trivial fun af=>?_
      repeat ((first
       | (refine Ord.cv ?_ af.o ?_ ?_;rotate_left;(intro w5 hS;skip;go_simp<;>rfl))
       | (refine Ord.co af.o ?_)
       | (refine Ord.cc ?_ ?_ ?_ af.o ?_ ?_ ?_;rotate_left 3;(intro w5 hS;skip;go_simp;constructor<;>rfl);(intro w5 hS;(first | fail))));try simp only[Act.put,zA,zZ,zS])
      refine Ord.InText.nil fun w5 hS=>?_;clear af;obtain⟨hC,hA⟩:=Ord.chain_end hS;clear hS;clear hA;go_wp2_with fail;have wa:=HM.out.put aE (by rw[HO.out];exact iL) hj (by rw[HO.out];exact Gu HM.out.1 hj (by have:=HM.out.new ef aE;rwa [HO.out] at this) hd (.inl rfl));rw[HO.out] at wa;exact⟨⟨k+1,_,by omega,by simp,wa,by rw[yy m _ hj];exact hC.1,hC.2⟩,by simp[intOf];omega⟩
     ·have wb:Hid (∀ w':World,w'.ownsRow w.heap.size 72 3 (.slice (some ⟨b,0,none⟩) (m.length+1) ga) (m.length+1) (dX (fP m (j+1) (x,y,z))) ->
        (w'.cell? ⟨b,(j+1) * 3,none⟩=some (.int .i64 x)/\w'.cell? ⟨b,(j+1) * 3+1,none⟩=some (.int .i64 y)/\w'.cell? ⟨b,(j+1) * 3+2,none⟩=some (.int .i64 z) /\
         w'.cell? ⟨b,j * 3,none⟩=some (.int .i64 (m.getD j z3).1)/\w'.cell? ⟨b,j * 3+1,none⟩=some (.int .i64 (m.getD j z3).2.1)/\w'.cell? ⟨b,j * 3+2,none⟩=some (.int .i64 (m.getD j z3).2.2))):=zH fun w' h=>by
       have hlen:=yy m (j+1) hj (x,y,z);have e1:∀ c,c < 3->w'.cell? ⟨b,(j+1) * 3+c,none⟩=(fj (x,y,z))[c]?:=fun c hc=>by
        rw[h.cellAt ((j+1) * 3+c) (by omega),xN _ _ _ (by omega) hc,Rp m (j+1) hj]
       have e2:∀ c,c < 3->w'.cell? ⟨b,j * 3+c,none⟩=(fj (m.getD j z3))[c]?:=fun c hc=>by
        rw[h.cellAt (j * 3+c) (by omega),xN _ _ _ (by omega) hc,Rq m j (by omega)]
       exact⟨e1 0 (by omega),e1 1 (by omega),e1 2 (by omega),e2 0 (by omega),e2 1 (by omega),e2 2 (by omega)⟩
      obtain⟨t,ht⟩:∃ t,m.getD j z3=t:=⟨_,rfl⟩;rw[ht] at wb;obtain⟨p,q,s⟩:=t;simp only at wb;have HT:=zH ht;clear ht;have q1:j < m.length:=by omega
      have q2:(0:Int)<=(j:Int)+1:=by omega
      have q3:j < m.length+1:=by omega
      have q4:j<=m.length:=by omega
      have q7:IntKind.i64.wrap (j:Int)=(j:Int):=by rw[IntKind.wrap_i64];omega
      have q5:(j:Int)<=(m.length:Int):=by omega
      have q6:(j:Int) < (m.length:Int)+1:=by omega
      go_wp2_with fail;refine Ord.wc [] (fun w'=>w'.ownsRow w.heap.size 72 3 (.slice (some ⟨b,0,none⟩) (m.length+1) ga) (m.length+1) (dX (fP m (j+1) (x,y,z)))/\Below w.heap.size w w') (fun _ _=>True) (And.intro Gx.drew Gy.drew) trivial fun af=>?_
      repeat ((first
       | (refine Ord.cv ?_ af.o ?_ ?_;rotate_left;(intro w5 hS;obtain⟨c0,c1,c2,c3,c4,c5⟩:=wb.out _ hS.1;go_simp<;>rfl))
       | (refine Ord.co af.o ?_)
       | (refine Ord.cc ?_ ?_ ?_ af.o ?_ ?_ ?_;rotate_left 3;(intro w5 hS;obtain⟨c0,c1,c2,c3,c4,c5⟩:=wb.out _ hS.1;go_simp;constructor<;>rfl);(intro w5 hS;(first | (with_reducible refine kp (Mj _ _ _ _ _ _ _) ?_ ?_;rfl;exact fun w6 dm=>⟨Rz.out _ _ hS dm,fun _ h=>h⟩)))));try simp only[Act.put,zA,zZ,zS])
      refine Ord.InText.nil fun w5 hS=>?_;clear af;obtain⟨hC,hA⟩:=Ord.chain_end hS;clear hS;clear hA;obtain⟨c0,c1,c2,c3,c4,c5⟩:=wb.out _ hC.1
      by_cases hL:ltOf fi (x,y,z) (p,q,s)=true
      ·rw[hL];have dm:b < w5.heap.size:=(hC.1.lt b rfl).2;have TP:¬ w5.heap.size=b:=by omega
       have TQ:¬ b=w5.heap.size:=by omega
       have rA:∀ ob i,(w5.alloc ob).cell? ⟨b,i,none⟩=w5.cell? ⟨b,i,none⟩:=fun ob i=>World.cell?_of_block (Below.heap_alloc _ _ _ dm);have zA:∀ ob i,(w5.alloc ob).frozen? ⟨b,i,none⟩=false:=fun ob i=>(World.frozen?_of_block (Below.heap_alloc _ _ _ dm)).trans (hC.1.frozenAt i);have zW:∀ i,w5.frozen? ⟨b,i,none⟩=false:=fun i=>hC.1.frozenAt i;go_wp2_with fail;have hx:=Ro m j q1 (x,y,z);rw[HT.out] at hx;simp only at hx;have RA:(j+1) * 3=j * 3+3:=by omega
       refine⟨⟨j,by omega,rfl,fun t ht=>?_,?_,?_⟩,by simp[intOf]⟩
       ·rw[List.drop_eq_getElem_cons q1] at ht
        rcases List.mem_cons.1 ht with rfl | ht
        ·have:m[j]=(p,q,s):=by rw[<- HT.out];simp[q1]
         rw[this];exact hL
        ·exact hd t ht
       ·rw[<- hx,RA];exact ((((((((hC.1.stored _ _).1).stored _ _).1).stored _ _).1.stored _ _).1.stored _ _).1.stored _ _).1.alloc _
       ·exact cj.below hC.2 (((((((cj.refl (fun k=>k=b) w5).setCell (p:=⟨b,_,none⟩) (fun _=>rfl) _).setCell (p:=⟨b,_,none⟩) (fun _=>rfl) _).setCell (p:=⟨b,_,none⟩) (fun _=>rfl) _).setCell (p:=⟨b,_,none⟩) (fun _=>rfl) _).setCell (p:=⟨b,_,none⟩) (fun _=>rfl) _).setCell (p:=⟨b,_,none⟩) (fun _=>rfl) _ |>.alloc _) hC.2.size fun k hk=>by subst hk;exact Ry
      ·have r6:ltOf fi (x,y,z) (p,q,s)=false:=by simpa using hL
       rw[r6];go_wp2_with fail;have wa:=HM.out.put aE (by rw[HO.out];exact iL) hj (by rw[HO.out];exact Gu HM.out.1 hj (by have:=HM.out.new ef aE;rwa [HO.out] at this) hd (.inr (by rw[Nat.add_sub_cancel,HT.out];exact r6)));rw[HO.out] at wa;exact⟨⟨k+1,_,by omega,by simp,wa,by rw[yy m _ hj];exact hC.1,hC.2⟩,by simp[intOf];omega⟩
  ·go_wp2_with fail;have:k=l.length:=by omega
   subst this;go_ret;exact⟨m,_,rfl,⟨hm.1,fun x=>by rw[hm.2.2 x,Rs ef x];simp⟩,hm.2.1,uG,sR⟩
end
end Go.Proofs.YtleklonmmlfijaaGreatDoor
namespace Go.Proofs
section
open Go.Shelf
def Tryz.sortPlaces_ren:Go.Shelf.Ren:=⟨fun | 6=>102 | 15=>122 | 14=>121 | 28=>144 | 29=>145 | 20=>136 | 21=>137 | 22=>138 | 23=>139 | 24=>140 | 25=>141 | 26=>142 | 27=>143 | 46=>167 | 47=>168 | 48=>169 | 49=>170 | 50=>171 | 57=>191 | n=>n,fun | 22=>99 | 24=>72 | 25=>160 | 3=>3 | 39=>34 | 0=>0 | 53=>216 | 55=>53 | 4=>4 | 46=>210 | 45=>209 | 50=>206 | 5=>5 | 9=>9 | 66=>232 | 70=>236 | 76=>251 | 77=>252 | n=>n,fun | n=>n⟩
theorem Tryz.sortPlaces:Go.Proofs.SlLaysF0.n6 prog Tryz.sortPlaces_ren:={
 mixed:=by kernel_rfl
 f6:=⟨Tryz.f102.name,by decide,func102.trans (congrArg some (by kernel_rfl))⟩
 f14:=⟨Tryz.f121.name,by decide,func121.trans (congrArg some (by kernel_rfl))⟩
 f15:=func122.trans (congrArg some (by kernel_rfl))
 f20:=⟨Tryz.f136.name,by decide,func136.trans (congrArg some (by kernel_rfl))⟩
 f21:=⟨Tryz.f137.name,by decide,func137.trans (congrArg some (by kernel_rfl))⟩
 f22:=⟨Tryz.f138.name,by decide,func138.trans (congrArg some (by kernel_rfl))⟩
 f23:=⟨Tryz.f139.name,by decide,func139.trans (congrArg some (by kernel_rfl))⟩
 f24:=⟨Tryz.f140.name,by decide,func140.trans (congrArg some (by kernel_rfl))⟩
 f25:=⟨Tryz.f141.name,by decide,func141.trans (congrArg some (by kernel_rfl))⟩
 f26:=⟨Tryz.f142.name,by decide,func142.trans (congrArg some (by kernel_rfl))⟩
 f27:=⟨Tryz.f143.name,by decide,func143.trans (congrArg some (by kernel_rfl))⟩
 f28:=func144.trans (congrArg some (by kernel_rfl))
 f29:=func145.trans (congrArg some (by kernel_rfl))
 f46:=⟨Tryz.f167.name,by decide,func167.trans (congrArg some (by kernel_rfl))⟩
 f47:=func168.trans (congrArg some (by kernel_rfl))
 f48:=func169.trans (congrArg some (by kernel_rfl))
 f49:=⟨Tryz.f170.name,by decide,func170.trans (congrArg some (by kernel_rfl))⟩
 f50:=⟨Tryz.f171.name,by decide,func171.trans (congrArg some (by kernel_rfl))⟩
 f57:=⟨Tryz.f191.name,by decide,func191.trans (congrArg some (by kernel_rfl))⟩
 t0:=Tryz.underlying0
 a0:=Tryz.isAgg0
 z0:=Tryz.sizeOf0
 v0:=Tryz.zeroValue0
 t3:=Tryz.underlying3
 a3:=Tryz.isAgg3
 z3:=Tryz.sizeOf3
 v3:=Tryz.zeroValue3
 t4:=Tryz.underlying4
 a4:=Tryz.isAgg4
 z4:=Tryz.sizeOf4
 v4:=Tryz.zeroValue4
 t5:=Tryz.underlying5
 a5:=Tryz.isAgg5
 z5:=Tryz.sizeOf5
 v5:=Tryz.zeroValue5
 t9:=Tryz.underlying9
 a9:=Tryz.isAgg9
 z9:=Tryz.sizeOf9
 v9:=Tryz.zeroValue9
 t22:=Tryz.underlying99
 a22:=Tryz.isAgg99
 z22:=Tryz.sizeOf99
 v22:=Tryz.zeroValue99
 t25:=Tryz.underlying160
 a25:=Tryz.isAgg160
 z25:=Tryz.sizeOf160
 v25:=Tryz.zeroValue160
 t39:=Tryz.underlying34
 a39:=Tryz.isAgg34
 z39:=Tryz.sizeOf34
 v39:=Tryz.zeroValue34
 t45:=Tryz.underlying209
 a45:=Tryz.isAgg209
 z45:=Tryz.sizeOf209
 v45:=Tryz.zeroValue209
 t46:=Tryz.underlying210
 a46:=Tryz.isAgg210
 z46:=Tryz.sizeOf210
 v46:=Tryz.zeroValue210
 t50:=Tryz.underlying206
 a50:=Tryz.isAgg206
 z50:=Tryz.sizeOf206
 v50:=Tryz.zeroValue206
 t53:=Tryz.underlying216
 a53:=Tryz.isAgg216
 z53:=Tryz.sizeOf216
 v53:=Tryz.zeroValue216
 t55:=Tryz.underlying53
 a55:=Tryz.isAgg53
 z55:=Tryz.sizeOf53
 v55:=Tryz.zeroValue53
 t66:=Tryz.underlying232
 a66:=Tryz.isAgg232
 z66:=Tryz.sizeOf232
 v66:=Tryz.zeroValue232
 t70:=Tryz.underlying236
 a70:=Tryz.isAgg236
 z70:=Tryz.sizeOf236
 v70:=Tryz.zeroValue236
 t76:=Tryz.underlying251
 a76:=Tryz.isAgg251
 z76:=Tryz.sizeOf251
 v76:=Tryz.zeroValue251
 t77:=Tryz.underlying252
 a77:=Tryz.isAgg252
 z77:=Tryz.sizeOf252
 v77:=Tryz.zeroValue252 }
def Tryz.compareInt_ren:Go.Shelf.Ren:=⟨fun | 5=>105 | 7=>123 | n=>n,fun | 22=>3 | 3=>3 | 4=>4 | n=>n,fun | n=>n⟩
theorem Tryz.compareInt:Go.Proofs.SlLaysC2.n5 prog Tryz.compareInt_ren:={
 mixed:=by kernel_rfl
 f5:=⟨Tryz.f105.name,by decide,func105.trans (congrArg some (by kernel_rfl))⟩
 f7:=⟨Tryz.f123.name,by decide,func123.trans (congrArg some (by kernel_rfl))⟩
 t3:=Tryz.underlying3
 a3:=Tryz.isAgg3
 z3:=Tryz.sizeOf3
 v3:=Tryz.zeroValue3
 t4:=Tryz.underlying4
 a4:=Tryz.isAgg4
 z4:=Tryz.sizeOf4
 v4:=Tryz.zeroValue4
 t22:=Tryz.underlying3
 a22:=Tryz.isAgg3
 z22:=Tryz.sizeOf3
 v22:=Tryz.zeroValue3 }
end
end Go.Proofs
namespace Go.Proofs.YtleklonmmlfijaaGreatDoor
section
open Go.RowKit Go.Maps Go.Shelf Go.Sort
theorem Cm (x y:Int) (w:World):Calls prog 105 #[.int .i64 x,.int .i64 y] w fun e w'=>e=.returned (.int .i64 (Lib.compareInt x y))/\w'=w:=AnyG.cmp_Compare_int Tryz.compareInt x y w
theorem RB (a b c:Int) (N:Nat) (w:World) (h:∀ i,w.cell? ⟨N,i,none⟩=[Value.int .i64 a,.int .i64 b,.int .i64 c][i]?) :
  Calls prog 104 #[.slice (some ⟨N,0,none⟩) 3 3] w fun e w'=>e=.returned (.int .i64 (qJ a b c))/\w'=w:=by
 have e1:(a != 0)=true\/((a != 0)=false/\(b != 0)=true)\/((a != 0)=false/\(b != 0)=false/\(c != 0)=true)\/((a != 0)=false/\(b != 0)=false/\(c != 0)=false):=by
  cases (a != 0)<;>cases (b != 0)<;>cases (c != 0)<;>simp
 rcases e1 with h1 | ⟨h1,h2⟩ | ⟨h1,h2,h3⟩ | ⟨h1,h2,h3⟩
 ·go_enter func104,ntmps104
  go_wp2
  refine wp_loop_rounds 1 ?_;rw[rounds_succ]
  go_wp2
  go_ret;exact⟨iA (by simp at h1;simp[qJ,h1]),rfl⟩
 ·go_enter func104,ntmps104
  go_wp2
  refine wp_loop_rounds 2 ?_;rw[rounds_succ]
  go_wp2
  rw[rounds_succ]
  go_wp2
  go_ret;exact⟨iA (by simp at h1 h2;simp[qJ,h1,h2]),rfl⟩
 ·go_enter func104,ntmps104
  go_wp2
  refine wp_loop_rounds 3 ?_;rw[rounds_succ]
  go_wp2
  rw[rounds_succ]
  go_wp2
  rw[rounds_succ]
  go_wp2
  go_ret;exact⟨iA (by simp at h1 h2 h3;simp[qJ,h1,h2]),rfl⟩
 ·go_enter func104,ntmps104
  go_wp2
  refine wp_loop_rounds 4 ?_;rw[rounds_succ]
  go_wp2
  rw[rounds_succ]
  go_wp2
  rw[rounds_succ]
  go_wp2
  rw[rounds_succ]
  go_wp2
  go_ret;exact⟨iA (by simp at h1 h2 h3;simp[qJ,h1,h2,h3]),rfl⟩
theorem RC (a b c a' b' c':Int) (w:World) :
  Calls prog 76 #[.agg #[.int .i64 a,.int .i64 b,.int .i64 c],.agg #[.int .i64 a',.int .i64 b',.int .i64 c']] w fun e w'=>e=.returned (.int .i64 (fi (a,b,c) (a',b',c')))/\∃ q RD,w'=grow (w.drewN q) RD:=by
 have k1:Hid (∀ w',Calls prog 105 #[.int .i64 a,.int .i64 a'] w' fun e iK=>e=.returned (.int .i64 (Lib.compareInt a a'))/\iK=w'):=zH fun w'=>Cm a a' w';have k2:Hid (∀ w',Calls prog 105 #[.int .i64 b,.int .i64 b'] w' fun e iK=>e=.returned (.int .i64 (Lib.compareInt b b'))/\iK=w'):=zH fun w'=>Cm b b' w';have k3:Hid (∀ w',Calls prog 105 #[.int .i64 c,.int .i64 c'] w' fun e iK=>e=.returned (.int .i64 (Lib.compareInt c c'))/\iK=w'):=zH fun w'=>Cm c c' w';unfold fi;simp only;generalize Lib.compareInt a a'=x at *;generalize Lib.compareInt b b'=y at *;generalize Lib.compareInt c c'=z at *;go_enter func76,ntmps76;go_wp2_with fail;have gd:∃ w2,w2=(w.alloc (.cells #[.int .i64 a,.int .i64 b,.int .i64 c] 72)).alloc (.cells #[.int .i64 a',.int .i64 b',.int .i64 c'] 72):=⟨_,rfl⟩;obtain⟨w2,gd⟩:=gd;have h1:ao 0 w2 w.heap.size [.int .i64 a,.int .i64 b,.int .i64 c]:=by rw[gd];exact (ao.new 0 w _ _).more _
 have h2:ao 0 w2 (w.heap.size+1) [.int .i64 a',.int .i64 b',.int .i64 c']:=by rw[gd];exact (ao.new 0 (w.alloc _) _ _).at (by simp)
 rw[<- gd];have HW:=zH gd;clear gd;generalize w.heap.size=B at *;refine Ord.wc [15,16] (fun w'=>ao 0 w' B [.int .i64 a,.int .i64 b,.int .i64 c]/\ao 0 w' (B+1) [.int .i64 a',.int .i64 b',.int .i64 c']) (fun j w'=>∃ q,w'=(if j=0 then w2 else w2.alloc (.cells #[.int .i64 x,.int .i64 y,.int .i64 z] 3)).drewN q) ⟨h1.drew,h2.drew⟩ ⟨1,rfl⟩ fun af=>?_
 repeat (first
  | (refine Ord.cv ?_ af.o ?_ ?_;rotate_left;(intro w5 hS;have r:=hS.1.rule;have r2:=hS.2.rule;go_simp<;>rfl);(try simp only[Act.put,zA,zZ,zS]))
  | (refine Ord.cc ?_ ?_ ?_ af.o ?_ ?_ ?_;rotate_left 3;(intro w5 hS;have r:=hS.1.rule;have r2:=hS.2.rule;go_simp;constructor<;>rfl);(intro w5 hS;(first
      | (with_reducible refine (k1.out _).mono ?_;rintro e w6 ⟨rfl,rfl⟩;constructor;rfl;exact⟨hS,fun _ h=>h⟩)
      | (with_reducible refine (k2.out _).mono ?_;rintro e w6 ⟨rfl,rfl⟩;constructor;rfl;exact⟨hS,fun _ h=>h⟩)
      | (with_reducible refine (k3.out _).mono ?_;rintro e w6 ⟨rfl,rfl⟩;constructor;rfl;exact⟨hS,fun _ h=>h⟩)));(try simp only[Act.put,zA,zZ,zS])))
 refine Ord.ch_turn (v:=.slice (some ⟨w2.heap.size,0,none⟩) 3 3) 0 af.o rfl (by decide) (Or.inl rfl) (by rfl) ?_ ?_
 ·rintro w5 aN ⟨q,hq⟩;rw[if_pos rfl] at hq;subst hq;go_simp;exact⟨by first | rfl | simp,⟨aN.1.more _,aN.2.more _⟩,q,rfl⟩
 try simp only[Act.put,zA,zZ,zS]
 refine Ord.ch_turn (v:=.int .i64 (qJ x y z)) 1 af.o rfl (by decide) (Or.inr ⟨15,rfl,by kernel_rfl⟩) (by rfl) ?_ ?_
 ·rintro w5 aN ⟨q,hq⟩;rw[if_neg (by omega)] at hq;have ie:∀ i,w5.cell? ⟨w2.heap.size,i,none⟩=[Value.int .i64 x,.int .i64 y,.int .i64 z][i]?:=fun i=>by rw[hq];exact (ao.new 0 w2 [Value.int .i64 x,.int .i64 y,.int .i64 z] _).rule i
  have HQ:=zH hq;clear hq;go_simp;simp only[Ord.LandsIn];refine (RB x y z _ w5 ie).mono ?_;rintro e w6 ⟨rfl,rfl⟩;exact⟨rfl,aN,q,HQ.out⟩
 try simp only[Act.put,zA,zZ,zS]
 repeat ((first
  | (refine Ord.cv ?_ af.o ?_ ?_;rotate_left;(intro w5 hS;skip;go_simp<;>rfl))
  | (refine Ord.co af.o ?_));try simp only[Act.put,zA,zZ,zS])
 refine Ord.InText.nil fun w5 hS=>?_;clear af;obtain⟨aL,ai⟩:=Ord.chain_end hS;clear hS;obtain⟨q,hq⟩:=ai
 go_wp2
 go_ret;refine⟨rfl,q,#[.cells #[.int .i64 a,.int .i64 b,.int .i64 c] 72,.cells #[.int .i64 a',.int .i64 b',.int .i64 c'] 72,.cells #[.int .i64 x,.int .i64 y,.int .i64 z] 3],?_⟩;rw[hq,HW.out];simp only[List.length_cons,List.length_nil,alloc_eq_grow,grow_grow];rfl
theorem RE (blk off size:Nat) (w:World):CmpLays prog 76 #[] fj 3 fi blk off size w:=fun _ _ _ _ x y=>RC x.1 x.2.1 x.2.2 y.1 y.2.1 y.2.2 _
theorem RF (w:World):(isAgg 72).run prog w=.ok true w:=by kernel_rfl
theorem RG (w:World):(Go.sizeOf 72).run prog w=.ok 3 w:=by kernel_rfl
def oD (l:List aI):List aI:=l.mergeSort fun x y=>!(ltOf fi) y x
theorem RH (blk off cap:Nat) (d:Array aI) (w:World) (hH:HoldsK fj 3 w blk off d) (hblk:blk < w.heap.size) (iZ:d.size < 4611686018427387904) :
  Calls prog 102 #[.slice (some ⟨blk,off,none⟩) d.size cap,.func (.func 76) #[] #[]] w fun e w'=>e=.returned (.tuple #[])/\∃ n os,w'=sortWorldK fj 3 w blk off n (oD d.toList).toArray os :=
 AnyQ.slices_SortFunc_total Tryz.sortPlaces 3 RF RG fj (fun _=>rfl) (fun x v hv=>by simp[fj] at hv;rcases hv with rfl | rfl | rfl<;>rfl) fi qK 76 #[] blk off cap d w
  (enters_of func76 (by kernel_rfl) rfl) (RE blk off d.size w) hH hblk iZ AV
theorem RI (p:Option Addr) (cap:Nat) (fv:Value) (w:World):Calls prog 102 #[.slice p 0 cap,fv] w fun e w'=>e=.returned (.tuple #[])/\w'=w :=
 AnyF.slices_SortFunc_none { Tryz.sortPlaces with } p cap fv w
attribute [local go_sem] Oper.semAt_some
structure qZ (D:DataW Unit) (left:Lit->Bool) (ss:List aI):Prop where
 once:ss.Nodup
 wf:∀ x∈ss,Wf x
 mem:∀ x,Wf x->(x∈ss ↔ Maps.has D (kl x)=true/\left (kl x)=false)
theorem qZ.start (D:DataW Unit):qZ D (Maps.has D) []:=⟨List.nodup_nil,by simp,fun x _=>by simp⟩
theorem qZ.step {D:DataW Unit} {left:Lit->Bool} {ss:List aI} (h:qZ D left ss) {x:aI} (hx:Wf x) (hl:left (kl x)=true) {yd:DataW Unit} (fQ:∀ zd,D.atKey (kl x) zd=yd):qZ D (fun z=>left z && !z.sameKey (kl x)) (ss++[x]):=by
 have rk:x ∉ ss:=fun e=>by have:=((h.mem x hx).1 e).2;rw[hl] at this;cases this
 refine⟨List.nodup_append.2 ⟨h.once,by simp,fun a ha b hb e=>?_⟩,fun y hy=>?_,fun y hy=>?_⟩
 ·simp at hb;subst hb;subst e;exact rk ha
 ·rcases List.mem_append.1 hy with h1 | h1
  ·exact h.wf y h1
  ·simp at h1;subst h1;exact hx
 ·by_cases e:y=x
  ·subst e;simp[has_true_of_atKey fQ,WideAt.sameKey_self (yT y)]
  ·have bu:kl y≠kl x:=fun e'=>e (uO hy hx e');simp[e,h.mem y hy,sameKey_ne bu]
set_option maxRecDepth 100000 in
theorem RJ (F:Fence) (n:Nat) (hf:F.fn 103) (ke:F.round=none) (hn:1<=n) (l Bm b nn:Nat) (D0:DataW Unit) (J Jx:List aI->World->Prop)
  (hY:∀ pre x W,J pre W->pre.length < Maps.size D0->YieldAt F (n - 1) prog l #[pv x] W fun e W'=>(e=.returned (.bool true)/\J (pre++[x]) W'/\KeepsWalks W W')\/(e=.returned (.bool false)/\Jx (pre++[x]) W'))
  (W:World) (hJ:AbidesFrom W.heap.size J) (hm:W.cell? ⟨Bm,0,none⟩=some (.map (some b))) (cF:W.ownsMap prog 72 (plainElem (H:=Unit) prog 53) b nn D0) (h0:J [] W) :
  CallsIn F n prog 103 #[.func (.yield l) #[] #[],.pointer (some ⟨Bm,0,none⟩)] W fun e W'=>(∃ v,e=.returned v) /\
   ((∃ ss,(qZ D0 (fun _=>false) ss/\ss.length<=Maps.size D0)/\J ss W')\/(∃ pre,True/\Jx pre W')):=by
 refine callsIn_of_wp func103 rfl hf ?_ ke;simp only[ntmps103,List.size_toArray,List.length_cons,List.length_nil,Nat.reduceAdd,Nat.reduceSub,Array.replicate_succ,Array.replicate_zero,List.push_toArray,List.append_toArray,List.nil_append,List.cons_append]
 gi_wp2_with (first
  | (gi_at_range;refine wpListIn_range_own _ rfl _ 129 rfl 72 53 qb Tryz.underlying129 _ b nn _ rfl cF ?_;intro w0 RK uE fV)
  | gi_in)
 go_frame
 gi_loopw [3] (fun _ wr=>∃ (left:Lit->Bool) (dV:Nat) (ss:List aI),wr.ranges prog 72 (plainElem (H:=Unit) prog 53) b W.heap.size nn D0 left dV/\ss.length+dV<=Maps.size D0/\qZ D0 left ss/\J ss wr)
  (fun _ wr=>wr.rangeLeft b W.heap.size)
 case atStart =>
  exact⟨_,_,[],RK,by simp,qZ.start D0,hJ [] W w0 none h0 uE (fun r e=>by cases e)⟩
 case round =>
  obtain⟨left,dV,ss,yz,eO,hC,Gz⟩:=hrel
  gi_wp2_with (first
   | (gi_at_next;refine wpListIn_next_ranges _ rfl _ rfl 72 qb (plainElem (H:=Unit) prog 53) (fun x:aI=>Value.agg #[.int .i64 x.1,.int .i64 x.2.1,.int .i64 x.2.2]) id (fun key kl hk=>by obtain⟨x,_,hx,_⟩:=CV hk;exact⟨x,hx⟩) (fun v _ _=>⟨v,rfl⟩) b W.heap.size nn _ _ _ rfl yz ?_ ?_)
   | gi_in)
  ·intro Ey eI
   gi_wp2
   go_end0
   exact⟨⟨_,rfl⟩,.inl ⟨ss,⟨⟨hC.once,hC.wf,fun x hx=>by rw[hC.mem x hx,eI]⟩,by omega⟩,Gz⟩⟩
  ·intro xa xb xc c kx yd yp w2 RM RN RO hv fQ RP aE lF ko BM;obtain⟨x,RQ,ex,rfl⟩:=CV RN;obtain⟨ya,yb,yc⟩:=x;have GA:=Rh (x:=(xa,xb,xc)) ex;obtain⟨rfl,rfl,rfl⟩:xa=ya/\xb=yb/\xc=yc:=by simpa using GA
   clear ex GA;have RR:J ss w2:=hJ ss wr w2 (some W.heap.size) Gz lF (fun r e=>by cases e;exact⟨Nat.le_refl _,yz.iter_walk⟩);have RS:J ss (w2.alloc (.cells #[.int .i64 xa,.int .i64 xb,.int .i64 xc] 72)):=hJ ss w2 _ none RR (World.grownBy_alloc w2 _ none) (fun r e=>by cases e);obtain⟨fn,tmps,assign,body,hy,hR⟩:=hY ss (xa,xb,xc) _ RS (by omega);have RT:=RP.alloc (.cells #[.int .i64 xa,.int .i64 xb,.int .i64 xc] 72);have rD:=hC.step RQ RO fQ;simp only[pv] at hy;clear ko
   gi_wp2
   refine hR.mono ?_;rintro e W3 (⟨rfl,RU,nY⟩ | ⟨rfl,RV⟩)
   ·gi_wp2
    have GB:=RT.of_walks nY
    go_roundw
    case rel=>exact⟨_,RM,ss++[(xa,xb,xc)],GB,by simp;omega,rD,RU⟩
    case measure=>rw[GB.left_eq,yz.left_eq];exact aE
   ·gi_wp2
    refine bodyPost_ret (results_none rfl _ _ _) rfl ?_;exact⟨⟨_,rfl⟩,  .inr ⟨ss++[(xa,xb,xc)],trivial,RV⟩⟩
def Cn (f:aI->Int) (n:Nat) (ss:List aI):Prop:=Gs f ss/\ss.length<=n
set_option maxRecDepth 100000 in
theorem RW (F:Fence) (n:Nat) (hf:F.fn 103) (ke:F.round=none) (l Bm:Nat) (J:List aI->World->Prop) (W:World) (hJ:AbidesFrom W.heap.size J)
  (hm:W.cell? ⟨Bm,0,none⟩=some (.map none)) (h0:J [] W) :
  CallsIn F n prog 103 #[.func (.yield l) #[] #[],.pointer (some ⟨Bm,0,none⟩)] W fun e W'=>(∃ v,e=.returned v)/\J [] W':=by
 have yz:=run_range_nilMap (P:=prog) W 129 _ _ Tryz.underlying129;have bo:∀ ty,(Instr.next (.pointer (some ⟨W.heap.size,0,none⟩)) false ty).run prog (W.alloc (.mapIter none 0 #[] 0))=_:=fun ty=>run_next_nilMap _ ty 0 0 #[];refine callsIn_of_wp func103 rfl hf ?_ ke;simp only[ntmps103,List.size_toArray,List.length_cons,List.length_nil,Nat.reduceAdd,Nat.reduceSub,Array.replicate_succ,Array.replicate_zero,List.push_toArray,List.append_toArray,List.nil_append,List.cons_append]
 gi_wp2
 refine wpIn_loop_rounds 1 ?_;rw[roundsIn_succ]
 gi_wp2
 go_end0
 exact⟨⟨_,rfl⟩,hJ [] W _ none h0 (World.grownBy_alloc W _ none) (fun r e=>by cases e)⟩
theorem RX (F:Fence) (n:Nat) (hf:F.fn 103) (ke:F.round=none) (hn:1<=n) {Bm nn:Nat} {mp:Option Nat} {f:aI->Int} {w:World} (ra:Bm < w.heap.size)
  (hm:w.cell? ⟨Bm,0,none⟩=some (.map mp)) (hM:dP w mp f nn) :
  SeqStopsK F n prog 103 #[.pointer (some ⟨Bm,0,none⟩)] (fun x:aI=>#[Value.agg #[.int .i64 x.1,.int .i64 x.2.1,.int .i64 x.2.2]]) KeepsWalks (Cn f nn) (fun _=>True) nn w:=fun l J Jx W hW hJ _ hY h0=>by
 rcases hM with ⟨rfl,rfl⟩ | ⟨b,D,rfl,ho,hr⟩
 ·exact (RW F n hf ke l Bm J W hJ ((hW.cell (p:=⟨Bm,0,none⟩) ra).trans hm) h0).mono fun _ _ ⟨he,hj⟩=>⟨he,.inl ⟨[],⟨⟨List.nodup_nil,by simp⟩,Nat.zero_le _⟩,hj⟩⟩
 ·have aE:=ho.lt;have iZ:=ho.size_le;have lS:W.ownsMap prog 72 (plainElem (H:=Unit) prog 53) b nn D:=by
   obtain⟨es,clock,hb,r⟩:=ho;exact⟨es,clock,(hW.block b aE).trans hb,r⟩
  refine (RJ F n hf ke hn l Bm b nn D J Jx (fun pre x W1 h1 h2=>hY pre x W1 h1 (by omega)) W hJ ((hW.cell (p:=⟨Bm,0,none⟩) ra).trans hm) lS h0).mono ?_;rintro e W' ⟨he,⟨ss,⟨hC,hlen⟩,hj⟩ | hx⟩
  ·refine⟨he,.inl ⟨ss,⟨⟨hC.once,fun x=>?_⟩,Nat.le_trans hlen iZ⟩,hj⟩⟩
   by_cases hw:Wf x
   ·rw[hC.mem x hw,hr.has' x hw];simp
   ·constructor
    ·intro e;exact absurd (hC.wf x e) hw
    ·intro e;exact absurd (hr.words.out x hw) e
  ·exact⟨he,.inr hx⟩
theorem RY (F:Fence) (n:Nat) (hf:F.fn 75) (ke:F.round=none) (mp:Option Nat) (w:World) :
  CallsIn F n prog 75 #[.map mp] w fun e w'=>e=.returned (.func (.func 103) #[] #[.pointer (some ⟨w.heap.size,0,none⟩)])/\w'=w.alloc (.cells #[.map mp] 129):=by
 refine callsIn_of_wp func75 rfl hf ?_ ke;simp only[ntmps75,List.size_toArray,List.length_cons,List.length_nil,Nat.reduceAdd,Nat.reduceSub,Array.replicate_succ,Array.replicate_zero,List.push_toArray,List.append_toArray,List.nil_append,List.cons_append]
 gi_wp2
 go_ret;exact⟨rfl,rfl⟩
def yA (W:World) (B:Nat) (x:aI):Prop:=W.heap[B]?=some (.cells #[.int .i64 x.1,.int .i64 x.2.1,.int .i64 x.2.2] 72 (0,0))
theorem yA.rule {W:World} {B:Nat} {x:aI} (h:yA W B x):∀ i,W.cell? ⟨B,i,none⟩=[Value.int .i64 x.1,.int .i64 x.2.1,.int .i64 x.2.2][i]?:=fun i=>by
 unfold yA at h;simp[World.cell?,h]
set_option maxRecDepth 100000 in
theorem RZ (F:Fence) (n:Nat) (hf:F.fn 120) (hk:F.fn 103) (ke:F.round=none) (hn:3<=n) {Bm nn:Nat} {mp:Option Nat} {f:aI->Int} {w:World} (ra:Bm < w.heap.size)
  (hm:w.cell? ⟨Bm,0,none⟩=some (.map mp)) (hM:dP w mp f nn) (hN:nn<=maxLen) (yB:nn * 24<=140737488355328) :
  CallsIn F n prog 120 #[.slice none 0 0,.func (.func 103) #[] #[.pointer (some ⟨Bm,0,none⟩)]] w fun e w'=>∃ v ss,e=.returned v/\Cn f nn ss/\w'.ownsRow w.heap.size 72 3 v ss.length (dX ss)/\(v=.slice none 0 0 ↔ ss=[])/\Below w.heap.size w w':=by
 have h1:1<=n:=by omega
 obtain⟨i0,hi,jR,oZ,rP⟩:=info_parts EA;refine callsIn_of_wp_marks func120 rfl hf ?_ ke;simp only[ntmps120,List.size_toArray,List.length_cons,List.length_nil,Nat.reduceAdd,Nat.reduceSub,Array.replicate_succ,Array.replicate_zero,List.push_toArray,List.append_toArray,List.nil_append,List.cons_append]
 gi_wp2
 have bO:=Boxed.new w 99 (.slice none 0 0);have lV:Below w.heap.size w (w.alloc (.cells #[.slice none 0 0] 99)):=(Below.refl _ w).alloc (Nat.le_refl _) _;refine wpIn_rangeFunc_ownH ke h1 (gf:=103) (lb:=#[.pointer (some ⟨Bm,0,none⟩)]) rfl hk (enters_of func103 (by kernel_rfl) rfl)
  (RX F (n - 1) hk ke (by omega) (w:=w.alloc (.cells #[.slice none 0 0] 99)) (by simp;omega) ((lV.cell (p:=⟨Bm,0,none⟩) ra).trans hm) (hM.more _)) walksK_t walksK_b (Below.refl _ _) (fun _=>rfl)
  (fun pre W=>(∃ v,Boxed W w.heap.size 99 v/\W.ownsRow w.heap.size 72 3 v pre.length (dX pre)/\(v=.slice none 0 0 ↔ pre=[]))/\Below w.heap.size w W)
  (fun _ _ _=>False)
  (OwnFrom.and (Own.from (holdsRow_own w.heap.size w.heap.size 99 72 3 (fun pre:List aI=>pre.length) dX (fun pre v=>v=.slice none 0 0 ↔ pre=[])) _) (ownFrom_below (Nat.le_refl _) (by simp)))
  (fun _ _ _ _ _ hs _ _=>hs)
  ⟨⟨_,bO,World.ownsRow_nil _ _ _ _,by simp⟩,lV⟩
  (fun x a' W=>∃ Bx,yA W Bx x/\a'={ tmps:=#[.slice none 0 0,.func (.func 103) #[] #[.pointer (some ⟨Bm,0,none⟩)],.pointer (some ⟨w.heap.size,0,none⟩),undef,.slice none 0 0,.pointer (some ⟨Bx,0,none⟩),.func (.func 103) #[] #[.pointer (some ⟨Bm,0,none⟩)],.agg #[.int .i64 x.1,.int .i64 x.2.1,.int .i64 x.2.2],undef,undef,undef,undef,undef],defers:=[] })
  (fun x a' _ X Y row hs hg hr=>by
    obtain⟨Bx,h2,h3⟩:=hs;refine⟨Bx,(hg.block Bx (Array.getElem?_eq_some_iff.1 h2).1 (fun e=>?_)).trans h2,h3⟩;obtain⟨_,o,ho,hc⟩:=hr Bx e.symm;rw[show X.heap[Bx]?=_ from h2] at ho;cases ho;cases hc) ?assign ?body ?done ?stop
 case assign =>
  rintro l pre x W K ⟨⟨v,bV,fS,yC⟩,jq⟩ hK
  gi_wp2
  exact hK _ _ ((KeepsOthers.alloc _ _).from _) (KeepsWalks.alloc _ _) ⟨⟨v,bV.alloc _,fS.alloc _,yC⟩,jq.alloc jq.size _⟩ ⟨W.heap.size,World.alloc_heap_new W _,rfl⟩
 case body =>
  rintro l pre x a' W hl ⟨r,hr⟩ ⟨⟨v,hv,fS,yC⟩,hB⟩ ⟨Bx,R0,rfl⟩ aE;have hc:=hv.cell;have hx:=R0.rule
  gi_wp2_with (gi_at_builtin;refine wpListIn_append_own _ rfl _ _ 99 rfl w.heap.size 72 i0 (.agg #[.int .i64 0,.int .i64 0,.int .i64 0]) 3 24 Tryz.underlying99 hi jR oZ rP rfl (by decide) _ _ _ rfl (fS.alloc _) ⟨W.heap.size,0,none⟩ 1 1 [.int .i64 x.1,.int .i64 x.2.1,.int .i64 x.2.2] rfl rfl (oJ _ _ _) (by simp[Value.oneCell']) (by omega) (by omega) (by have:=hB.size;simp;omega) ?_;intro v' w1 GC jW _;obtain⟨g',ga,rfl⟩:=ownsRow_succ GC;obtain⟨GD,Du,qj,e8,eg⟩:=hv.appended (by decide) fS hB.size (Nat.le_refl _) GC jW;have nZ:=GD.cell;have TR:=GD.frozen)
  exact⟨e8.from _,e8.walks,⟨_,Du,by rw[Mh];simpa [fj] using qj,by simp⟩,hB.trans eg⟩
 case done =>
  rintro D ys W hD hS ⟨⟨v,hv,fS,yC⟩,hB⟩ hK;have hc:=hv.cell
  gi_wp2
  refine⟨by simp,.inl ⟨_,_,rfl,run_takeDeferred hK,?_⟩⟩;exact⟨_,results_tmp rfl _ _ _,v,ys,rfl,hS,ownsRow_putObj fS _ hK rfl,yC,hB.trans (belowK_b (w:=w) (Nat.le_refl _) W D _ _ (by simp at hD;omega) hK rfl rfl)⟩
 case stop =>
  rintro D c pre W _ _ h _;exact h.elim
theorem R1 {w:World} {g cap:Nat} {cur:Array Value} {l:List aI} {t:TypeId} (hg:w.heap[g]?=some (.cells cur t (0,0))) (hc:cur.size=cap * 3) (hl:l.length<=cap) (ht:cur.toList.take (l.length * 3)=dX l):HoldsK fj 3 w g 0 l.toArray:=by
 intro j hj;have jk:j < l.length * 3:=by simpa using hj
 refine⟨?_,by simp[World.frozen?,hg]⟩;have h1:(cur.toList.take (l.length * 3))[j]?=(dX l)[j]?:=by rw[ht]
 rw[List.getElem?_take_of_lt jk] at h1;have h2:=xN l (j / 3) (j % 3) (by omega) (by omega);rw[show j / 3 * 3+j % 3=j by omega] at h2;have h3:(fj (l.getD (j / 3) z3))[j % 3]?=some ((fj (l.getD (j / 3) z3))[j % 3]!):=by
  have:j % 3 < (fj (l.getD (j / 3) z3)).length:=by simp[fj];omega
  rw[List.getElem?_eq_getElem this,getElem!_pos (fj (l.getD (j / 3) z3)) (j % 3) this]
 simp only[World.cell?,hg,Nat.zero_add];rw[get_flatK _ _ _ _ (by simpa using jk)];have h4:l.toArray[j / 3]! = l.getD (j / 3) z3:=by
  have aE:j / 3 < l.length:=by omega
  simp[aE]
 have h5:cur[j]?=some ((fj (l.getD (j / 3) z3))[j % 3]!):=by
  rw[<- h3,<- h2,<- h1];simp
 rw[h4]
 simpa using h5
theorem R2 {w:World} {g n:Nat} {os:Array Obj} (d:Array aI):w.grownBy (sortWorldK fj 3 w g 0 n d os) (some g):=by
 refine⟨rfl,rfl,rfl,by simp[sortWorldK,putRowK,grow,putRow,mapBlock,Sort.ahead],fun k hk bu=>?_⟩;have h1:g≠k:=fun e=>bu (by rw[e]);unfold sortWorldK putRowK;rw[heap_grow_old _ _ (by simpa [putRow,mapBlock,Sort.ahead] using hk)];simp[putRow,mapBlock,Sort.ahead,Array.getElem?_modify,h1]
theorem R3 {w:World} {g cap:Nat} {l:List aI} (hg:g < w.heap.size) (h:HoldsK fj 3 w g 0 l.toArray):mm w (.slice (some ⟨g,0,none⟩) l.length cap) l:=by
 refine .inr ⟨g,cap,rfl,hg,fun j hj=>?_⟩;have e:l.toArray[j]! = l.getD j z3:=by simp[hj]
 have h0:=(h.cell (i:=j) (c:=0) (by simpa using hj) (by omega)).1;have h1:=(h.cell (i:=j) (c:=1) (by simpa using hj) (by omega)).1;have h2:=(h.cell (i:=j) (c:=2) (by simpa using hj) (by omega)).1;rw[e] at h0 h1 h2;simp only[Nat.zero_add,Nat.add_zero] at h0 h1 h2;exact⟨h0,h1,h2⟩
theorem Co (l:List aI):(oD l).Perm l:=List.mergeSort_perm _ _
theorem R4 {l:List aI} (h:l.Nodup):mW (oD l):=by
 have hs:(oD l).Pairwise fun x y=>(!(ltOf fi) y x)=true:=by
  unfold oD;refine List.pairwise_mergeSort (fun a b c h1 h2=>?_) (fun a b=>?_) l
  ·simp only[Bool.not_eq_true'] at *;exact qK.ntrans _ _ _ h2 h1
  ·simp only[Bool.or_eq_true,Bool.not_eq_true'];cases h1:ltOf fi b a
   ·exact .inl rfl
   ·refine .inr ?_;cases h2:ltOf fi a b
    ·rfl
    ·have:=qK.trans _ _ _ h1 h2;rw[qK.irrefl] at this;cases this
 have hn:(oD l).Nodup:=(Co l).nodup_iff.2 h;refine (hs.and hn).imp fun {x y} AW=>?_;obtain⟨h1,h2⟩:=AW;cases h3:ltOf fi x y
 ·exact absurd (AV x y h3 (by simpa using h1)) h2
 ·rfl
theorem py.sort {f:aI->Int} {ss:List aI} (h:Gs f ss):py f (oD ss):=⟨R4 h.1,fun x=>((Co ss).mem_iff).trans (h.2 x)⟩
theorem R5 {Bm nn:Nat} {mp:Option Nat} {f:aI->Int} {w:World} (ra:Bm < w.heap.size)
  (hm:w.cell? ⟨Bm,0,none⟩=some (.map mp)) (hM:dP w mp f nn) (hN:nn<=maxLen) (yB:nn * 24<=140737488355328) :
  Calls prog 101 #[.func (.func 103) #[] #[.pointer (some ⟨Bm,0,none⟩)]] w fun e w'=>∃ v ss,e=.returned v/\Cn f nn ss/\w'.ownsRow w.heap.size 72 3 v ss.length (dX ss)/\(v=.slice none 0 0 ↔ ss=[])/\Below w.heap.size w w':=by
 have h1:Calls prog 120 #[.slice none 0 0,.func (.func 103) #[] #[.pointer (some ⟨Bm,0,none⟩)]] w _:=(callsIn_wide (n:=6)).1 (RZ Fence.wide 6 trivial trivial rfl (by omega) ra hm hM hN yB);clear hm hM;go_enter func101,ntmps101;go_wp2_with (refine h1.mono ?_;rintro e w1 ⟨v,ss,rfl,h2,h3,h4,h5⟩);go_ret;exact⟨v,ss,rfl,h2,h3,h4,h5⟩
theorem R6 {Bm nn:Nat} {mp:Option Nat} {f:aI->Int} {w:World} (ra:Bm < w.heap.size)
  (hm:w.cell? ⟨Bm,0,none⟩=some (.map mp)) (hM:dP w mp f nn) (hN:nn<=maxLen) (yB:nn * 24<=140737488355328) :
  Calls prog 74 #[.func (.func 103) #[] #[.pointer (some ⟨Bm,0,none⟩)],.func (.func 76) #[] #[]] w fun e w'=>∃ v l,e=.returned v/\py f l/\mm w' v l/\Below w.heap.size w w':=by
 have h1:=R5 ra hm hM hN yB;clear hm hM;go_enter func74,ntmps74;go_wp2_with fail;refine h1.mono ?_;rintro e w1 ⟨v,ss,rfl,⟨h2,TS⟩,h3,h4,h5⟩
 rcases h3.2 with ⟨rfl,hz⟩ | ⟨g,cap,cur,rfl,uE,hg,hl,z7,eO,jm⟩
 ·have hs:ss=[]:=h4.1 rfl;subst hs;go_wp2_with (refine (RI _ _ _ _).mono ?_;rintro e w2 ⟨rfl,rfl⟩);go_ret;exact⟨_,[],rfl,⟨List.Pairwise.nil,fun x=>by simpa using h2.2 x⟩,.inl ⟨rfl,rfl⟩,h5⟩
 ·have hH:=R1 hg eO hl jm;have eB:g < w1.heap.size:=(Array.getElem?_eq_some_iff.1 hg).1;have hc:=RH g 0 cap ss.toArray w1 hH eB (by simp;omega);have h6:=py.sort h2;have hlen:(oD ss).length=ss.length:=(Co ss).length_eq;simp only[List.size_toArray] at hc;have HH:=zH hH;clear h1 h3 h4 hg jm eO hH;go_wp2_with (refine hc.mono ?_;rintro e w2 ⟨rfl,n,os,rfl⟩);go_ret;have yw:=R2 (w:=w1) (g:=g) (n:=n) (os:=os) (oD ss).toArray;refine⟨_,oD ss,rfl,h6,?_,h5.grown yw h5.size fun k e=>by cases e;exact uE⟩;rw[<- hlen];refine R3 (Nat.lt_of_lt_of_le eB yw.size) (holdsK_grow _ _ _ _ _ _ _ (by simpa [putRowK,putRow,mapBlock,Sort.ahead] using eB) (holdsK_putRowK _ _ _ _ _ ss.toArray _ ?_ (by simp[hlen])));exact holdsK_ahead _ _ _ _ _ _ _ HH.out
theorem R7 {c n:Nat} {F:Nat->Prop} {f:aI->Int} {q:bN} {w:World} (hn:n<=1000000) (hC:ed w c F f q n) :
  Calls prog 34 #[.pointer (some ⟨c,0,none⟩)] w fun e w'=>∃ v l,e=.returned v/\py f l/\mm w' v l/\Below w.heap.size w w':=by
 obtain⟨mp,hb,hm,hF⟩:=hC;have r:=hb.rule;unfold cv at r;have hk:=fun w'=>(callsIn_wide (n:=6)).1 (RY Fence.wide 6 trivial rfl mp w');have hs:=R6 (w:=w.alloc (.cells #[.map mp] 129)) (Bm:=w.heap.size) (by simp) ((ao.new 0 w [.map mp] _).rule 0) (hm.more _) (by unfold maxLen;omega) (by omega);go_enter func34,ntmps34;go_wp2_with fail;refine (hk _).mono ?_;rintro e w1 ⟨rfl,rfl⟩;clear hk;go_wp2_with fail;refine hs.mono ?_;rintro e w2 ⟨v,l,rfl,h1,h2,h3⟩;clear hs
 go_wp2
 go_ret;exact⟨v,l,rfl,h1,h2,((Below.refl _ _).alloc (Nat.le_refl _) _).trans (h3.mono (by simp))⟩
end
section
open Go.RowKit Go.Maps
section
variable {w0 w:World} {R:List Item} {p c m n:Nat} {G FU:Nat->Prop} {qc:bN} {ml:List bT}
theorem Cp (hl:ml.length<=900000) (hn:n<=900000) (hE:Env w0 (fk p c::dg c G (ak ml) qc n::bP m FU ml::R) w) :
  Calls prog 10 #[zP p,zP m] w fun o w'=>o=.returned (.bool true)/\Env w0 (fk p c::dg c G (ak ml) qc n::bP m FU ml::R) w':=by
 go_enter func10,ntmps10;go_wp2_with fail;refine (Rl 0 1 hE rfl rfl).mono ?_;rintro o w1 ⟨c2,F2,rfl,ag⟩;clear hE;go_wp2_with fail;refine (R7 (by omega) (ag.cell 0 rfl)).mono ?_;rintro e w5 ⟨v5,m5,rfl,Cq,ta,hb⟩;have aB:=ag.over hb;clear hb ag;go_wp2_with fail;refine (Ru (by omega) (aB.ref 3 rfl).nodup (aB.ref 3 rfl)).mono ?_;rintro e w6 ⟨m6,v6,rfl,GF,R8,GG,hb⟩;have aq:=aB.over hb;obtain rfl:=Cq.eq GF;have Cs:=ta.below hb;have Ct:=Rt GG;have aZ:∀ x∈m5,Wf x:=fun x hx=>Classical.byContradiction fun h=>((Cq.2 x).1 hx) ((aq.cell 2 rfl).words.out x h);have TU:m5.length<=900000:=by omega
 obtain⟨A1,TV,rfl⟩:=Cs.len;obtain⟨A2,TW,rfl⟩:=Ct.len;have H1:=zH Cs;have H2:=zH Ct;have dQ:=zH aZ;clear hb aB Cq GF ta GG R8 Cs Ct aZ;go_wp2_with fail
 go_loopw [7] (fun i wr=>∃ k:Nat,k<=m5.length/\i=.int .i64 k/\Env w0 (dg c2 F2 (ak ml) ⟨0,0,0,0,0⟩ n::fk p c::dg c G (ak ml) qc n::bP m FU ml::R) wr/\Below w6.heap.size w6 wr) (fun i _=>m5.length - (intOf i).toNat)
 case atStart=>exact⟨0,Nat.zero_le _,rfl,aq,Below.refl _ _⟩
 case round =>
  clear aq;obtain⟨k,hk,rfl,eR,hB⟩:=hrel
  by_cases aE:k < m5.length
  ·have cV:decide ((k:Int) < (m5.length:Int))=true:=by simp;omega
   have xB:(k:Int) < (m5.length:Int):=by omega
   rcases H1.out with ⟨h0,_⟩ | ⟨g1,GH,e1,oU,nZ⟩
   ·rw[h0] at aE;simp at aE
   rcases H2.out with ⟨h0,_⟩ | ⟨g2,wh,e2,lF,o3⟩
   ·rw[h0] at aE;simp at aE
   simp only[Value.slice.injEq] at e1 e2;obtain⟨rfl,-,rfl⟩:=e1;obtain⟨rfl,-,rfl⟩:=e2;obtain⟨a0,a1,a2⟩:=nZ k aE;obtain⟨b0,b1,b2⟩:=o3 k aE;have hx:=dQ.out (m5.getD k z3) (by rw[List.getD_eq_getElem?_getD,List.getElem?_eq_getElem aE];exact List.getElem_mem aE);clear nZ o3;generalize m5.getD k z3=o at a0 a1 a2 b0 b1 b2 hx;obtain⟨x,y,z⟩:=o;simp only at a0 a1 a2 b0 b1 b2;obtain⟨v,hv⟩:∃ v,ak ml (x,y,z)=v:=⟨_,rfl⟩;have HC:Hid (∀ w',(Env w0 (dg c2 F2 (ak ml) ⟨0,0,0,0,0⟩ n::fk p c::dg c G (ak ml) qc n::bP m FU ml::R) w'/\Below w6.heap.size w6 w')->(w'.cell? ⟨g1,k * 3,none⟩=some (zI x)/\w'.cell? ⟨g1,k * 3+1,none⟩=some (zI y)/\w'.cell? ⟨g1,k * 3+2,none⟩=some (zI z) /\
     w'.cell? ⟨g2,k * 3,none⟩=some (zI x)/\w'.cell? ⟨g2,k * 3+1,none⟩=some (zI y)/\w'.cell? ⟨g2,k * 3+2,none⟩=some (zI z))):=zH fun w' hb=>by
    refine⟨?_,?_,?_,?_,?_,?_⟩
    ·rw[hb.2.cell (p:=⟨g1,k * 3,none⟩) oU];exact a0
    ·rw[hb.2.cell (p:=⟨g1,k * 3+1,none⟩) oU];exact a1
    ·rw[hb.2.cell (p:=⟨g1,k * 3+2,none⟩) oU];exact a2
    ·rw[hb.2.cell (p:=⟨g2,k * 3,none⟩) lF];exact b0
    ·rw[hb.2.cell (p:=⟨g2,k * 3+1,none⟩) lF];exact b1
    ·rw[hb.2.cell (p:=⟨g2,k * 3+2,none⟩) lF];exact b2
   have GI:Hid (∀ w',(Env w0 (dg c2 F2 (ak ml) ⟨0,0,0,0,0⟩ n::fk p c::dg c G (ak ml) qc n::bP m FU ml::R) w'/\Below w6.heap.size w6 w')->Calls prog 36 #[zP p,.agg #[zI x,zI y,zI z]] w' fun e v'=>e=.returned (zU v)/\Below w'.heap.size w' v'):=zH fun w' hb=>by
    rw[<- hv];exact Jp x y z hx 1 2 hb.1 rfl rfl
   have xC:Hid (∀ w',(Env w0 (dg c2 F2 (ak ml) ⟨0,0,0,0,0⟩ n::fk p c::dg c G (ak ml) qc n::bP m FU ml::R) w'/\Below w6.heap.size w6 w')->Calls prog 37 #[zP m,.agg #[zI x,zI y,zI z]] w' fun e v'=>e=.returned (zU v)/\Below w'.heap.size w' v'):=zH fun w' hb=>by
    rw[<- hv];exact ju x y z (by omega) (hb.1.ref 3 rfl)
   clear a0 a1 a2 b0 b1 b2 hv hx;go_wp2_with fail;refine cG (S:=(fun w'=>Env w0 (dg c2 F2 (ak ml) ⟨0,0,0,0,0⟩ n::fk p c::dg c G (ak ml) qc n::bP m FU ml::R) w'/\Below w6.heap.size w6 w')) (by kernel_rfl) (by kernel_rfl) ⟨eR.drew,hB.drew⟩ (fun hT=>?_);have af:=zH hT;clear hT
   repeat ((first
    | (refine cH (v:=?_) af.o (by rfl) ?_ ?_;rotate_left;(intro w5 hS;obtain⟨a0,a1,a2,b0,b1,b2⟩:=HC.out _ hS;go_simp<;>rfl))
    | (refine cI af.o (by rfl) ?_)
    | (refine cJ (v:=?_) (f:=?_) (args:=?_) af.o (by rfl) ?_ ?_ ?_;rotate_left 3;(intro w5 hS;obtain⟨a0,a1,a2,b0,b1,b2⟩:=HC.out _ hS;go_simp;constructor<;>rfl);(intro w5 hS;(first | (with_reducible refine kp (GI.out _ hS) ?_ ?_;rfl;exact fun w8 dm=>⟨hS.1.over dm,hS.2.trans (dm.mono hS.2.size)⟩) | (with_reducible refine kp (xC.out _ hS) ?_ ?_;rfl;exact fun w8 dm=>⟨hS.1.over dm,hS.2.trans (dm.mono hS.2.size)⟩)))));try simp only[Act.put,zA,zZ,zS])
   refine InText.nil fun w5 aK=>?_;clear af;clear eR hB HC GI xC;go_wp2_with fail;exact⟨⟨k+1,by omega,by simp,aK⟩,by simp[intOf];omega⟩
  ·have cV:decide ((k:Int) < (m5.length:Int))=false:=by simp;omega
   go_wp2_with fail;go_ret;exact⟨rfl,eR.sub (.cons _ (List.Sublist.refl _))⟩
end
end
end Go.Proofs.YtleklonmmlfijaaGreatDoor
