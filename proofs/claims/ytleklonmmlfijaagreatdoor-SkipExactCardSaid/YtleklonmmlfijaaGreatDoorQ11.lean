/- What is proved on the way to the statement, part 11: contracts of the functions, among other things in memory. -/
import Derived.Test.YtleklonmmlfijaaGreatDoorQ10

open _root_.Go.Proofs.Tryz
set_option maxRecDepth 100000
set_option maxHeartbeats 25600000
namespace Go.Proofs.YtleklonmmlfijaaGreatDoor
section
open Go.RowKit Go.Maps
section
variable {w0 w:World} {R M:List Item} {o c h l8:Nat} {S:ST} {kd key val lv:Int} {nx fp:Value} {er st n l t y:Int} {an dn:Bool} {F:Fd} {L:Nat->Lm}
theorem Env.sbkS {b:Item} (h:Env w0 (b::LT S R) w):Env w0 (LT S (b::R)) w:=h.perm (List.perm_middle (l₁:=[_,_,_,_])).symm
theorem Env.sfrS {b:Item} (h:Env w0 (LT S (b::R)) w):Env w0 (b::LT S R) w:=h.perm (List.perm_middle (l₁:=[_,_,_,_]))
theorem EO (L:Nat->Lm) {k:Nat} (hk:1<=k) (h:∀ j,1<=j->j < k->(L j).fd=false):lK L k=false:=by
 unfold lK;rw[List.any_eq_false];intro i hi;have:=List.mem_range.1 hi;rw[h (i+1) (by omega) (by omega)]
 decide
theorem EP (L:Nat->Lm) {k t:Nat} (hk:1<=k) (aE:k < t) (h:(L k).fd=true):lK L t=true:=by
 unfold lK;rw[List.any_eq_true];exact⟨k - 1,List.mem_range.2 (by omega),by rw[Nat.sub_add_cancel hk];exact h⟩
theorem ER (aH:1<=lv/\lv<=(h:Int)) (hI:eK F c key L h M) (hE:Env w0 (ae o (aw c kd key val lv nx 0 (zP F.fb) n l t y an er dn)::M) w) :
  Calls prog 128 #[zP o] w fun e w'=>e=.returned (.bool (lK L lv.toNat))/\Env w0 (ae o (aw c kd key val lv nx 0 (zP F.fb) n l t y an er dn)::M) w':=by
 have MK:=zH fun (v:World) (hv:Env w0 (ae o (aw c kd key val lv nx 0 (zP F.fb) n l t y an er dn)::M) v) (k:Nat) (hk:k < h)=>Eg (hI.at9 hv (fun a ha=>by simp[ha])) hI.hh.2 hk;have hh:=hI.hh;refine ub fun PP fz=>?_;clear hI;go_enter func128,ntmps128;go_wp2_with fail
 go_loopw [3] (fun iv wr=>∃ k:Nat,1<=k/\(k:Int)<=lv/\iv=.int .i64 (k:Int)/\Hid (∀ j,1<=j->j < k->(L j).fd=false)/\Env w0 (ae o (aw c kd key val lv nx 0 (.pointer (some ⟨F.fb,0,none⟩)) n l t y an er dn)::M) wr) (fun iv _=>lv.toNat - (intOf iv).toNat)
 case atStart=>exact⟨1,by decide,by omega,rfl,zH (fun j h1 h2=>by omega),hE⟩
 case round =>
  clear hE;obtain⟨k,jx,gy,rfl,iY,hE⟩:=hrel;have r:=hE.rule 0 rfl;unfold aw at r
  by_cases aE:(k:Int) < lv
  ·have b1:decide ((k:Int) < lv)=true:=by simpa using aE
   have vB:k < h:=by omega
   obtain⟨fd,bw⟩:∃ fd,(L k).fd=fd:=⟨_,rfl⟩;have A4:=MK.out _ hE k vB;rw[bw] at A4;have ML:=zH A4;have ka:=zH bw;clear A4 bw;go_wp2_with fail;refine ML.out.mono ?_;rintro e w1 ⟨rfl,rfl⟩;cases fd
   ·go_wp2_with fail;refine⟨⟨k+1,by omega,by omega,by simp,zH (fun j h1 h2=>?_),hE⟩,by simp[intOf];omega⟩
    by_cases he:j=k
    ·subst he;exact ka.out
    ·exact iY.out j h1 (by omega)
   ·go_wp2_with fail
    (try go_ret)
    exact fz.out _ _ ⟨by rw[EP L jx (show k < lv.toNat by omega) ka.out];rfl,hE⟩
  ·have b1:decide ((k:Int) < lv)=false:=by simpa using aE
   go_wp2_with fail
   (try go_ret)
   refine fz.out _ _ ⟨?_,hE⟩;have he:lv.toNat=k:=by omega
   rw[he,EO L jx iY.out]
theorem MN (hI:eK F c key L h M) (bw:(L 0).fd=false) (hE:Env w0 (ae o (aw c kd key val lv nx 0 (zP F.fb) n l t y an er dn)::M) w) :
  Calls prog 111 #[zP o] w fun e w'=>e=.returned (zI 1)/\Env w0 (ae o (aw c kd key val lv nx 1 (zP F.fb) n l t y an 0 false)::M) w':=by
 have dN:=pj (hI.at9 hE (fun a ha=>by simp[ha])) hI.hh;rw[bw] at dN;have jK:=zH dN;have HO:=zH fun (v:World) (hv:Env w0 (ae o (aw c kd key val lv nx 0 (zP F.fb) n l t y an er dn)::M) v)=>qF 0 false hv;have r:=hE.rule 0 rfl;unfold aw at r;clear dN hI bw;go_enter func111,ntmps111;go_wp2_with fail;refine jK.out.mono ?_;rintro e w1 ⟨rfl,rfl⟩;go_wp2_with fail;refine (HO.out _ hE).mono ?_;rintro e w2 ⟨rfl,az⟩;go_wp2_with fail;go_ret;exact⟨rfl,az⟩
theorem MO (hI:eK F c key L h M) (bw:(L 0).fd=true) (hE:Env w0 (ae o (aw c kd key val lv nx 0 (zP F.fb) n l t y an er dn)::M) w) :
  Calls prog 111 #[zP o] w fun e w'=>e=.returned (zI 0)/\Env w0 (ae o (aw c kd key val lv (mvL 131 o) 0 (zP F.fb) (L 0).C l t y an er dn)::M) w':=by
 have cf:=cg;have dN:=pj (hI.at9 hE (fun a ha=>by simp[ha])) hI.hh;rw[bw] at dN;have sm:=Ei (hI.at9 hE (fun a ha=>by simp[ha])) hI.hh;obtain⟨C9,aL⟩:∃ C9,(L 0).C=C9:=⟨_,rfl⟩;rw[aL] at sm ⊢;have jK:=zH dN;have xO:=zH sm;have r:=hE.rule 0 rfl;unfold aw at r;clear dN hI bw sm aL;go_enter func111,ntmps111;go_wp2_with fail;refine jK.out.mono ?_;rintro e w1 ⟨rfl,rfl⟩;go_wp2_with fail;refine xO.out.mono ?_;rintro e w2 ⟨rfl,hb⟩;replace hE:=hE.over hb;clear hb r;have r:=hE.rule 0 rfl;unfold aw at r;have f8:=hE.thaw 0 rfl 8 (by simp[aw]);have f9:=hE.thaw 0 rfl 9 (by simp[aw]);have hQ:=(hE.put 0 rfl (j:=8) (by simp[aw]) (zI C9)).put 0 rfl (j:=9) (by simp[aw]) (zI 0);replace hQ:Env w0 (ae o (aw c kd key val lv nx 0 (zP F.fb) C9 l t y an er dn)::M) _:=hQ;clear hE;go_wp2_with fail;refine (goOn_r (o:=5) 0 _ _ _ (by simp[aw]) hQ rfl).mono ?_;rintro e w7 ⟨rfl,aO⟩;go_wp2_with fail;go_ret;exact⟨rfl,aO⟩
theorem MP (hh:S.hs=0) (hI:eK F S.c key L h R) (bw:(L 0).fd=true) (hE:Env w0 (ae o (aw S.c kd key val lv nx 0 (zP F.fb) n l t y an er dn)::LT S R) w) :
  Calls prog 110 #[zP o] w fun e w'=>e=.returned (zI 1)/\Env w0 (ae o (aw S.c kd key val lv nx 1 (zP F.fb) n l t y an 0 false)::LT S R) w':=by
 have cf:=cg;have dN:=pj (hI.at9 hE (fun a ha=>by simp[LT,ha])) hI.hh;rw[bw] at dN;have jK:=zH dN;have r:=hE.rule 0 rfl;unfold aw at r;have xP:=zH (LC hh (hE.get 1 rfl));have HO:=zH fun (v:World) (hv:Env w0 (ae o (aw S.c kd key val lv nx 0 (zP F.fb) n l t y an er dn)::LT S R) v)=>qF 0 false hv;clear dN hI bw hh;go_enter func110,ntmps110;go_wp2_with fail;refine jK.out.mono ?_;rintro e w1 ⟨rfl,rfl⟩;go_wp2_with fail;refine xP.out.mono ?_;rintro e w2 ⟨rfl,hb⟩;replace hE:=hE.over hb;clear hb;go_wp2_with fail;refine (HO.out _ hE).mono ?_;rintro e w2 ⟨rfl,az⟩;go_wp2_with fail;go_ret;exact⟨rfl,az⟩
theorem MQ (hh:S.hs≠0) (hl:S.ql.length+1<=1048576) (hI:eK F S.c key L h R) (bw:(L 0).fd=true) (hE:Env w0 (ae o (aw S.c kd key val lv nx 0 (zP F.fb) n l t y an er dn)::LT S R) w) :
  Calls prog 110 #[zP o] w fun e w'=>e=.returned (zI 1)/\∃ k' F',Env w0 (ae o (aw S.c kd key val lv nx 1 (zP F.fb) n l t y an 0 false)::LT { S with F:=F',kq:=k',ql:=S.ql++[(S.hs,0,0)],hs:=0 } R) w':=by
 have cf:=cg;have dN:=pj (hI.at9 hE (fun a ha=>by simp[LT,ha])) hI.hh;rw[bw] at dN;have jK:=zH dN;have r:=hE.rule 0 rfl;unfold aw at r;have xP:=zH (LD hh 1 2 (by decide) hE rfl rfl hl);clear dN hI bw hh hE hl;go_enter func110,ntmps110;go_wp2_with fail;refine jK.out.mono ?_;rintro e w1 ⟨rfl,rfl⟩;go_wp2_with fail;refine xP.out.mono ?_;rintro e w2 ⟨rfl,k',F',-,az⟩;have HO:=zH (qF (c:=S.c) (M:=LT { S with F:=F',kq:=k',ql:=S.ql++[(S.hs,0,0)],hs:=0 } R) 0 false az);clear az xP r;go_wp2_with fail;refine HO.out.mono ?_;rintro e w2 ⟨rfl,az⟩;go_wp2_with fail;go_ret;exact⟨rfl,k',F',az⟩
theorem MR (hh:S.hs=0) (hd:bk S.ql S.ce S.cl=0) (hI:eK F S.c key L h R) (bw:(L 0).fd=false) (hE:Env w0 (ae o (aw S.c kd key val lv nx 0 (zP F.fb) n l t y an er dn)::LT S R) w) :
  Calls prog 110 #[zP o] w fun e w'=>e=.returned (zI 1)/\Env w0 (ae o (aw S.c kd key val lv nx 1 (zP F.fb) n l t y an 7 false)::LT S R) w':=by
 have cf:=cg;have dN:=pj (hI.at9 hE (fun a ha=>by simp[LT,ha])) hI.hh;rw[bw] at dN;have jK:=zH dN;have r:=hE.rule 0 rfl;unfold aw at r;have HB:Hid ((S.hs != 0)=false):=zH (by simp[hh]);have HH:=zH hh;have HD:=zH hd;clear dN hI bw hh hd;go_enter func110,ntmps110;go_wp2_with fail;refine jK.out.mono ?_;rintro e w1 ⟨rfl,rfl⟩;go_wp2_with fail;refine (oO (hE.get 1 rfl)).mono ?_;rintro e w2 ⟨rfl,hb⟩;rw[HB.out];have az:=(hE.over hb).box w2.heap.size rfl [zI S.hs,zI 0] 92;clear hb hE r;go_wp2_with fail;generalize w2.alloc _=w3 at *;generalize w2.heap.size=Y at *;replace az:Env w0 (ae o (aw S.c kd key val lv nx 0 (zP F.fb) n l t y an er dn)::LT S (ae Y [zI S.hs,zI 0]::R)) w3:=az.perm (cm fun z=>by simp only[LT,List.count_cons];omega);refine Ord.wc [16] (fun v=>∃ gM vC vD mn,ao 0 v o (aw S.c kd key val lv gM vC (zP F.fb) n l t y an vD mn)) (Stage [Env w0 (ae o (aw S.c kd key val lv nx 0 (zP F.fb) n l t y an er dn)::LT S (ae Y [zI S.hs,zI 0]::R)),Env w0 (ae o (aw S.c kd key val lv nx 1 (zP F.fb) n l t y an 7 false)::LT S (ae Y [zI S.hs,zI 0]::R))]) ⟨nx,0,_,_,az.drew.get 0 rfl⟩ ⟨_,rfl,az.drew⟩ fun af=>?_
 repeat ((first
  | (refine Ord.cv ?_ af.o ?_ ?_;rotate_left;(intro w5 hS;obtain⟨gM,vC,vD,mn,jJ⟩:=hS;have r:=ao.rule jJ;unfold aw at r;go_simp<;>rfl))
  | (refine Ord.co af.o ?_));try simp only[Act.put,zA,zZ,zS])
 refine Ord.ch_turn (v:=zI 1) 0 af.o rfl (by decide) (Or.inl rfl) (by rfl) ?_ ?_
 ·rintro w5 aN ⟨P5,cd,au⟩;cases cd;go_simp;simp only[Ord.LandsIn];refine (MH (S:=S) (R:=ae o (aw S.c kd key val lv nx 0 (zP F.fb) n l t y an er dn)::ae Y [zI S.hs,zI 0]::R) (kd:=kd) (key:=key) (val:=val) (lv:=lv) (o:=o) (ro:=5) (FF:=43) (OV:=112) (fun _ _=>by kernel_rfl) HH.out HD.out (fun s2 v=>s2=1/\Env w0 (ae o (aw S.c kd key val lv nx 1 (zP F.fb) n l t y an 7 false)::LT S (ae Y [zI S.hs,zI 0]::R)) v) au.sbkS fun v hv=>(qF 7 false hv.sfrS).mono ?_).mono ?_
  ·rintro e w6 ⟨rfl,aq⟩;exact⟨1,rfl,rfl,aq⟩
  ·rintro e w6 ⟨s2,rfl,rfl,aq⟩;exact⟨rfl,⟨_,_,_,Or.inl (aq.get 0 rfl)⟩,_,rfl,aq⟩
 try simp only[Act.put,zA,zZ,zS]
 repeat ((first
  | (refine Ord.cv ?_ af.o ?_ ?_;rotate_left;(intro w5 hS;skip;go_simp<;>rfl))
  | (refine Ord.co af.o ?_));try simp only[Act.put,zA,zZ,zS])
 refine Ord.InText.nil fun w5 hS=>?_;clear af;obtain⟨aL,ai⟩:=Ord.chain_end hS;clear hS;obtain⟨P9,dW,ai⟩:=ai;cases dW;clear aL az;go_wp2_with fail;go_ret;refine⟨rfl,?_⟩;exact (ai.perm (L':=ae Y [zI S.hs,zI 0]::ae o (aw S.c kd key val lv nx 1 (zP F.fb) n l t y an 7 false)::LT S R) (cm fun z=>by simp only[LT,List.count_cons];omega)).sub (.cons _ (List.Sublist.refl _))
theorem MS (hh:S.hs=0) (hd:bk S.ql S.ce S.cl≠0) (hI:eK F S.c key L h R) (bw:(L 0).fd=false) (hE:Env w0 (ae o (aw S.c kd key val lv nx 0 (zP F.fb) n l t y an er dn)::LT S R) w) :
  Calls prog 110 #[zP o] w fun e w'=>e=.returned (zI 0)/\∃ b1 b2 l5,Env w0 (ae o (aw S.c kd key val lv (cvP b1 b2) 0 (zP F.fb) n l t y an er dn)::ae b1 [mvL 151 l5]::ae b2 [pC S.c kd key val lv o 5 43 112]::ae l5 (av S.c { nx:=fa l5 (bk S.ql S.ce S.cl),left:=.slice none 0 0,k:=kd,key:=key,val:=val,lv:=lv,h:=0,n:=0,r:=0,s:=0 })::LT S R) w':=by
 have cf:=cg;have dN:=pj (hI.at9 hE (fun a ha=>by simp[LT,ha])) hI.hh;rw[bw] at dN;have jK:=zH dN;have r:=hE.rule 0 rfl;unfold aw at r;have HB:Hid ((S.hs != 0)=false):=zH (by simp[hh]);have HH:=zH hh;have HD:=zH hd;clear dN hI bw hh hd;go_enter func110,ntmps110;go_wp2_with fail;refine jK.out.mono ?_;rintro e w1 ⟨rfl,rfl⟩;go_wp2_with fail;refine (oO (hE.get 1 rfl)).mono ?_;rintro e w2 ⟨rfl,hb⟩;rw[HB.out];have az:=(hE.over hb).box w2.heap.size rfl [zI S.hs,zI 0] 92;clear hb hE r;go_wp2_with fail;generalize w2.alloc _=w3 at *;generalize w2.heap.size=Y at *;replace az:Env w0 (ae o (aw S.c kd key val lv nx 0 (zP F.fb) n l t y an er dn)::LT S (ae Y [zI S.hs,zI 0]::R)) w3:=az.perm (cm fun z=>by simp only[LT,List.count_cons];omega);refine Ord.wc [16] (fun v=>∃ gM vC vD mn,ao 0 v o (aw S.c kd key val lv gM vC (zP F.fb) n l t y an vD mn)) (Stage [Env w0 (ae o (aw S.c kd key val lv nx 0 (zP F.fb) n l t y an er dn)::LT S (ae Y [zI S.hs,zI 0]::R)),fun v=>∃ b1 b2 l5,Env w0 (ae o (aw S.c kd key val lv (cvP b1 b2) 0 (zP F.fb) n l t y an er dn)::ae b1 [mvL 151 l5]::ae b2 [pC S.c kd key val lv o 5 43 112]::ae l5 (av S.c { nx:=fa l5 (bk S.ql S.ce S.cl),left:=.slice none 0 0,k:=kd,key:=key,val:=val,lv:=lv,h:=0,n:=0,r:=0,s:=0 })::LT S (ae Y [zI S.hs,zI 0]::R)) v]) ⟨nx,0,_,_,az.drew.get 0 rfl⟩ ⟨_,rfl,az.drew⟩ fun af=>?_
 repeat ((first
  | (refine Ord.cv ?_ af.o ?_ ?_;rotate_left;(intro w5 hS;obtain⟨gM,vC,vD,mn,jJ⟩:=hS;have r:=ao.rule jJ;unfold aw at r;go_simp<;>rfl))
  | (refine Ord.co af.o ?_));try simp only[Act.put,zA,zZ,zS])
 refine Ord.ch_turn (v:=zI 0) 0 af.o rfl (by decide) (Or.inl rfl) (by rfl) ?_ ?_
 ·rintro w5 aN ⟨P5,cd,au⟩;cases cd;go_simp;simp only[Ord.LandsIn];refine (MI (S:=S) (R:=ae o (aw S.c kd key val lv nx 0 (zP F.fb) n l t y an er dn)::ae Y [zI S.hs,zI 0]::R) (kd:=kd) (key:=key) (val:=val) (lv:=lv) (o:=o) (ro:=5) (FF:=43) (OV:=112) (m:=0) rfl (by simp[aw]) HH.out HD.out au.sbkS).mono ?_;rintro e w6 ⟨rfl,b1,b2,l5,aq⟩;have aO:Env w0 (ae o (aw S.c kd key val lv (cvP b1 b2) 0 (zP F.fb) n l t y an er dn)::ae b1 [mvL 151 l5]::ae b2 [pC S.c kd key val lv o 5 43 112]::ae l5 (av S.c { nx:=fa l5 (bk S.ql S.ce S.cl),left:=.slice none 0 0,k:=kd,key:=key,val:=val,lv:=lv,h:=0,n:=0,r:=0,s:=0 })::LT S (ae Y [zI S.hs,zI 0]::R)) w6:=aq.perm (List.perm_middle (l₁:=[_,_,_,_,_,_,_]));exact⟨rfl,by cases dn<;>first | exact⟨_,_,_,Or.inl (aO.get 0 rfl)⟩ | exact⟨_,_,_,Or.inr (aO.get 0 rfl)⟩,_,rfl,b1,b2,l5,aO⟩
 try simp only[Act.put,zA,zZ,zS]
 repeat ((first
  | (refine Ord.cv ?_ af.o ?_ ?_;rotate_left;(intro w5 hS;skip;go_simp<;>rfl))
  | (refine Ord.co af.o ?_));try simp only[Act.put,zA,zZ,zS])
 refine Ord.InText.nil fun w5 hS=>?_;clear af;obtain⟨aL,ai⟩:=Ord.chain_end hS;clear hS;obtain⟨P9,dW,ai⟩:=ai;cases dW;obtain⟨b1,b2,l5,ai⟩:=ai;clear aL az;go_wp2_with fail;go_ret;refine⟨rfl,b1,b2,l5,?_⟩;exact (ai.perm (L':=ae Y [zI S.hs,zI 0]::ae o (aw S.c kd key val lv (cvP b1 b2) 0 (zP F.fb) n l t y an er dn)::ae b1 [mvL 151 l5]::ae b2 [pC S.c kd key val lv o 5 43 112]::ae l5 (av S.c { nx:=fa l5 (bk S.ql S.ce S.cl),left:=.slice none 0 0,k:=kd,key:=key,val:=val,lv:=lv,h:=0,n:=0,r:=0,s:=0 })::LT S R) (cm fun z=>by simp only[LT,List.count_cons];omega)).sub (.cons _ (List.Sublist.refl _))
theorem MT (hh:S.hs≠0) (dH:S.ck=3) (bH:S.ch=(h:Int)) (aH:1<=lv/\lv<=(h:Int)) (fN:lK L lv.toNat=true) (hI:eK F S.c key L h R) (bw:(L 0).fd=false) (hE:Env w0 (ae o (aw S.c kd key val lv nx 0 (zP F.fb) n l t y an er dn)::LT S R) w) :
  Calls prog 110 #[zP o] w fun e w'=>e=.returned (zI 0)/\∃ b1 b2 fb g,Env w0 (ae o (aw S.c kd key val lv (cvP b1 b2) 0 (zP fb) n l t y an er dn)::ae b1 [mvL 109 fb]::ae b2 [mvL 81 o]::ae fb (bq S.c key (mvL 124 fb) 0 g h 0)::ae g (List.replicate h (.pointer none))::LT S R) w':=by
 have cf:=cg;have dN:=pj (hI.at9 hE (fun a ha=>by simp[LT,ha])) hI.hh;rw[bw] at dN;have jK:=zH dN;have r:=hE.rule 0 rfl;unfold aw at r;have HB:Hid ((S.hs != 0)=true):=zH (by simpa using hh);have oq:=fun (Y:Nat) (v:World) (hv:Env w0 (ae o (aw S.c kd key val lv nx 0 (zP F.fb) n l t y an er dn)::LT S (ae Y [zI S.hs,zI 0]::R)) v)=>ER (M:=LT S (ae Y [zI S.hs,zI 0]::R)) aH (hI.more (fun a ha=>by simp[LT,ha])) hv;simp only[fN] at oq;have vE:=zH oq;have HC:=zH (And.intro dH bH);have HK:=zH hI.hh.2;clear dH bH;clear dN bw hh oq fN aH hI;go_enter func110,ntmps110;go_wp2_with fail;refine jK.out.mono ?_;rintro e w1 ⟨rfl,rfl⟩;go_wp2_with fail;refine (oO (hE.get 1 rfl)).mono ?_;rintro e w2 ⟨rfl,hb⟩;rw[HB.out];have az:=(hE.over hb).box w2.heap.size rfl [zI S.hs,zI 0] 92;clear hb hE r;go_wp2_with fail;generalize w2.alloc _=w3 at *;generalize w2.heap.size=Y at *;replace az:Env w0 (ae o (aw S.c kd key val lv nx 0 (zP F.fb) n l t y an er dn)::LT S (ae Y [zI S.hs,zI 0]::R)) w3:=az.perm (cm fun z=>by simp only[LT,List.count_cons];omega);refine (vE.out Y _ az).mono ?_;rintro e w4 ⟨rfl,bD⟩;clear az vE;have dH:=HC.out.1;have bH:=HC.out.2;have vF:=zH (sd 0 HK.out (show (LT S (ae Y [zI S.hs,zI 0]::R))[0]?=some (dy S.c 3 S.cs S.cb h S.cl S.ce S.cr S.hs 0 S.q) by rw[<- dH,<- bH];rfl) bD);clear bD dH bH;go_wp2_with fail;refine vF.out.mono ?_;rintro e w5 ⟨rfl,b1,b2,fb,g,aB⟩;have aq:=(aB.perm (L':=ae Y [zI S.hs,zI 0]::ae o (aw S.c kd key val lv (cvP b1 b2) 0 (zP fb) n l t y an er dn)::ae b1 [mvL 109 fb]::ae b2 [mvL 81 o]::ae fb (bq S.c key (mvL 124 fb) 0 g h 0)::ae g (List.replicate h (.pointer none))::LT S R) (cm fun z=>by simp only[LT,List.count_cons];omega)).sub (.cons _ (List.Sublist.refl _));have HX:=zH aq;clear aB aq vF;go_wp2_with fail;go_ret;exact⟨rfl,b1,b2,fb,g,HX.out⟩
theorem MU (hh:S.hs≠0) (aH:1<=lv/\lv<=(h:Int)) (fN:lK L lv.toNat=false) (hI:eK F S.c key L h R) (bw:(L 0).fd=false) (hE:Env w0 (ae o (aw S.c kd key val lv nx 0 (zP F.fb) n l t y an er dn)::LT S R) w) :
  Calls prog 110 #[zP o] w fun e w'=>e=.returned (zI 0)/\Env w0 (ae o (aw S.c kd key val lv (mvL 129 o) 0 (zP F.fb) S.hs 0 t y an er dn)::LT S R) w':=by
 have cf:=cg;have dN:=pj (hI.at9 hE (fun a ha=>by simp[LT,ha])) hI.hh;rw[bw] at dN;have jK:=zH dN;have r:=hE.rule 0 rfl;unfold aw at r;have HB:Hid ((S.hs != 0)=true):=zH (by simpa using hh);have oq:=fun (Y:Nat) (v:World) (hv:Env w0 (ae o (aw S.c kd key val lv nx 0 (zP F.fb) n l t y an er dn)::LT S (ae Y [zI S.hs,zI 0]::R)) v)=>ER (M:=LT S (ae Y [zI S.hs,zI 0]::R)) aH (hI.more (fun a ha=>by simp[LT,ha])) hv;simp only[fN] at oq;have vE:=zH oq;clear dN bw hh oq fN aH hI;go_enter func110,ntmps110;go_wp2_with fail;refine jK.out.mono ?_;rintro e w1 ⟨rfl,rfl⟩;go_wp2_with fail;refine (oO (hE.get 1 rfl)).mono ?_;rintro e w2 ⟨rfl,hb⟩;rw[HB.out];have az:=(hE.over hb).box w2.heap.size rfl [zI S.hs,zI 0] 92;clear hb hE r;go_wp2_with fail;generalize w2.alloc _=w3 at *;generalize w2.heap.size=Y at *;replace az:Env w0 (ae o (aw S.c kd key val lv nx 0 (zP F.fb) n l t y an er dn)::LT S (ae Y [zI S.hs,zI 0]::R)) w3:=az.perm (cm fun z=>by simp only[LT,List.count_cons];omega);refine (vE.out Y _ az).mono ?_;rintro e w4 ⟨rfl,bD⟩;clear az vE;have rY:=bD.rule 5 rfl;have r:=bD.rule 0 rfl;unfold aw at r;have f8:=bD.thaw 0 rfl 8 (by simp[aw]);have f9:=bD.thaw 0 rfl 9 (by simp[aw]);have f10:=bD.thaw 0 rfl 10 (by simp[aw]);have hQ:=((bD.put 0 rfl (j:=8) (by simp[aw]) (zI S.hs)).put 0 rfl (j:=9) (by simp[aw]) (zI 0)).put 0 rfl (j:=10) (by simp[aw]) (zI 0);replace hQ:Env w0 (ae o (aw S.c kd key val lv nx 0 (zP F.fb) S.hs 0 t y an er dn)::LT S (ae Y [zI S.hs,zI 0]::R)) _:=hQ;clear bD;go_wp2_with fail;refine (goOn_r (o:=5) 0 _ _ _ (by simp[aw]) hQ rfl).mono ?_;rintro e w7 ⟨rfl,aO⟩;go_wp2_with fail;go_ret;replace aO:Env w0 (ae o (aw S.c kd key val lv (mvL 129 o) 0 (zP F.fb) S.hs 0 t y an er dn)::LT S (ae Y [zI S.hs,zI 0]::R)) _:=aO;exact⟨rfl,(aO.perm (L':=ae Y [zI S.hs,zI 0]::ae o (aw S.c kd key val lv (mvL 129 o) 0 (zP F.fb) S.hs 0 t y an er dn)::LT S R) (cm fun z=>by simp only[LT,List.count_cons];omega)).sub (.cons _ (List.Sublist.refl _))⟩
theorem MV (u:Int) (Q:Int->World->Prop) (hE:Env w0 (ae o (aw c 1 key val lv nx 0 fp n l t y an er dn)::M) w) (hc:Calls prog 110 #[zP o] w fun e w'=>∃ s,e=.returned (zI s)/\Q s w') :
  Calls prog 81 #[zP o,zI u] w fun e w'=>∃ s,e=.returned (zI s)/\Q s w':=by
 have r:=hE.rule 0 rfl;unfold aw at r;have HC:=zH hc;clear hc hE;go_enter func81,ntmps81;go_wp2_with fail;refine HC.out.mono ?_;rintro e w1 ⟨s,rfl,hq⟩;go_wp2_with fail;go_ret;exact⟨s,rfl,hq⟩
theorem MW (u:Int) (Q:Int->World->Prop) (hE:Env w0 (ae o (aw c 2 key val lv nx 0 fp n l t y an er dn)::M) w) (hc:Calls prog 111 #[zP o] w fun e w'=>∃ s,e=.returned (zI s)/\Q s w') :
  Calls prog 81 #[zP o,zI u] w fun e w'=>∃ s,e=.returned (zI s)/\Q s w':=by
 have r:=hE.rule 0 rfl;unfold aw at r;have HC:=zH hc;clear hc hE;go_enter func81,ntmps81;go_wp2_with fail;refine HC.out.mono ?_;rintro e w1 ⟨s,rfl,hq⟩;go_wp2_with fail;go_ret;exact⟨s,rfl,hq⟩
theorem MX (u:Int) (h1:kd≠1) (h2:kd≠2) (hI:eK F c key L h M) (hE:Env w0 (ae o (aw c kd key val lv nx 0 (zP F.fb) n l t y an er dn)::M) w) :
  Calls prog 81 #[zP o,zI u] w fun e w'=>e=.returned (zI 1)/\Env w0 (ae o (aw c kd key val lv nx 1 (zP F.fb) n l t y an 0 (L 0).fd)::M) w':=by
 have b1:(kd==1)=false:=by simpa using h1
 have b2:(kd==2)=false:=by simpa using h2
 have jK:=zH (pj (hI.at9 hE (fun a ha=>by simp[ha])) hI.hh);have HO:=zH fun (v:World) (hv:Env w0 (ae o (aw c kd key val lv nx 0 (zP F.fb) n l t y an er dn)::M) v)=>qF 0 (L 0).fd hv;have r:=hE.rule 0 rfl;unfold aw at r;clear hI h1 h2;go_enter func81,ntmps81;go_wp2_with fail;refine jK.out.mono ?_;rintro e w1 ⟨rfl,rfl⟩;go_wp2_with fail;refine (HO.out _ hE).mono ?_;rintro e w2 ⟨rfl,az⟩;go_wp2_with fail;go_ret;exact⟨rfl,az⟩
end
section
variable {w0 w:World} {L:List Item} {c o:Nat} {kd key val lv n l t y er:Int} {fp:Value} {an dn:Bool}
theorem Ba (F p Y:Nat) (y9 u:Value) {b1 b2:Nat} (hx:∀ (ar:Array Value) (v:World),(callFunc F ar).run prog v=.ok (.enter F ar) v) (hy:∀ (ar:Array Value) (v:World),(callFunc Y ar).run prog v=.ok (.enter Y ar) v) (Q:Int->World->Prop)
  (hE:Env w0 (ae o (aw c kd key val lv (cvP b1 b2) 0 fp n l t y an er dn)::ae b1 [mvL F p]::ae b2 [.func (.func Y) #[y9] #[]]::L) w)
  (hc:Calls prog F #[zP p,u] w fun e w1=>∃ s,e=.returned (zI s)/\(s=0->Q 0 w1)/\(s≠0->w1.cell? ⟨b2,0,none⟩=some (.func (.func Y) #[y9] #[])/\Calls prog Y #[y9,zI s] w1 fun e2 w2=>∃ s2,e2=.returned (zI s2)/\Q s2 w2)) :
  Calls prog 16 #[zP o,u] w fun e w'=>∃ s,e=.returned (zI s)/\Q s w':=by
 have gi:=zH (stepP_r (o:=5) F hx (zP p) u y9 Y hy b1 b2 Q (hE.rule 0 rfl 5) (hE.rule 0 rfl 6) (hE.rule 1 rfl 0) hc);clear hc hE;go_enter func16,ntmps16;go_wp2_with fail;refine gi.out.mono ?_;rintro e w1 ⟨s,rfl,hQ⟩;go_wp2_with fail;go_ret;exact⟨s,rfl,hQ⟩
theorem ot (F:Nat) (u:Value) (hx:∀ (ar:Array Value) (v:World),(callFunc F ar).run prog v=.ok (.enter F ar) v) (Q:Int->World->Prop)
  (hE:Env w0 (ae o (aw c kd key val lv (mvL F o) 0 fp n l t y an er dn)::L) w)
  (hc:Calls prog F #[zP o,u] w fun e w'=>∃ s,e=.returned (zI s)/\Q s w') :
  Calls prog 16 #[zP o,u] w fun e w'=>∃ s,e=.returned (zI s)/\Q s w':=by
 have gi:=zH (stepMv_r (o:=5) F hx (zP o) u (fun o w'=>∃ s,o=.returned (zI s)/\Q s w') (hE.rule 0 rfl 5) (hE.rule 0 rfl 6) (hc.mono fun e w' ⟨s,he,hq⟩=>⟨s,he,s,rfl,hq⟩));clear hc hE;go_enter func16,ntmps16;go_wp2_with fail;refine gi.out.mono ?_;rintro e w1 ⟨s,rfl,hQ⟩;go_wp2_with fail;go_ret;exact⟨s,rfl,hQ⟩
theorem ES (u:Value) {b1 b2:Nat} (Q:Int->World->Prop)
  (hE:Env w0 (ae o (aw c kd key val lv (qE b1 b2) 0 fp n l t y an er dn)::L) w)
  (hc:Calls prog 183 #[u,zP b1,zP b2] w fun e w'=>∃ s,e=.returned (zI s)/\Q s w') :
  Calls prog 16 #[zP o,u] w fun e w'=>∃ s,e=.returned (zI s)/\Q s w':=by
 have gi:=zH (stepCv_r (o:=5) 183 b1 b2 (fun _ _=>by kernel_rfl) u (fun o w'=>∃ s,o=.returned (zI s)/\Q s w') (hE.rule 0 rfl 5) (hE.rule 0 rfl 6) (hc.mono fun e w' ⟨s,he,hq⟩=>⟨s,he,s,rfl,hq⟩));clear hc hE;go_enter func16,ntmps16;go_wp2_with fail;refine gi.out.mono ?_;rintro e w1 ⟨s,rfl,hQ⟩;go_wp2_with fail;go_ret;exact⟨s,rfl,hQ⟩
end
theorem Bb {w:World} {o c:Nat} {kd key val lv st n l t y er:Int} {nx fp:Value} {an dn:Bool} (hb:ao 0 w o (aw c kd key val lv nx st fp n l t y an er dn)):Calls prog 17 #[zP o] w fun p w'=>p=.returned (.agg #[zI er,.bool dn,zU 0])/\Below w.heap.size w w':=by
 have r1:=nK hb.1 hb.rule;unfold aw at r1;go_enter func17,ntmps17
 go_wp2
 exact bodyPost_ret (v:=.agg #[zI er,.bool dn,zU 0]) (by simp[results,results17,go_sem]) rfl ⟨rfl,(Below.refl _ _).alloc (Nat.le_refl _) _⟩
end
section
open Go.RowKit
theorem MY (k o:Int) (w:World):Calls prog 49 #[.int .i64 k,.int .i64 o] w fun e w'=>e=.returned (.bool (uY k o))/\w=w':=by
 go_enter func49,ntmps49
 go_wp2
 all_goals
  go_ret
  (try go_light)
  (try simp only[bne_iff_ne,ne_eq,bne_eq_false_iff_eq,beq_iff_eq,beq_eq_false_iff_ne,Bool.or_eq_true,Bool.and_eq_true,decide_eq_true_eq,decide_eq_false_iff_not,Bool.or_eq_false_iff,Bool.not_eq_true',Bool.not_eq_false'] at *)
  refine⟨ig ?_,(by first | rfl | trivial)⟩;rw[Bool.eq_iff_iff];unfold uY
  split
  ·simp;try omega
  ·split
   ·simp;try omega
   ·simp;try omega
theorem MZ (o:Int) (w:World):Calls prog 51 #[.int .i64 o] w fun e w'=>e=.returned (.bool (ze o))/\w=w':=by
 go_enter func51,ntmps51
 go_wp2
 all_goals
  go_ret;refine⟨ig (by rw[Bool.eq_iff_iff];simp[ze];try omega),rfl⟩
theorem M1 (k s b h l o x v y:Int) (w:World):Calls prog 50 #[.agg #[.int .i64 k,.int .i64 s,.int .i64 b,.int .i64 h,.int .i64 l],.agg #[.int .i64 o,.int .u64 x,.int .u64 v,.int .i64 y]] w fun e w'=>e=.returned (.bool (uZ k h o y))/\Below w.heap.size w w':=by
 have hF:=((Fr.start w).push w.heap.size rfl [.int .i64 k,.int .i64 s,.int .i64 b,.int .i64 h,.int .i64 l] 23).push (w.heap.size+1) (by simp) [.int .i64 o,.int .u64 x,.int .u64 v,.int .i64 y] 55;go_enter func50,ntmps50;go_wp2_with
  (with_reducible refine (wM _ _ _ _).mono ?_;rintro e w1 ⟨rfl,rfl⟩)
 all_goals
  go_ret
  (try go_light)
  (try simp only[bne_iff_ne,ne_eq,bne_eq_false_iff_eq,beq_iff_eq,beq_eq_false_iff_ne,Bool.or_eq_true,Bool.and_eq_true,decide_eq_true_eq,decide_eq_false_iff_not,Bool.or_eq_false_iff,Bool.not_eq_true',Bool.not_eq_false'] at *)
  (try subst_vars)
  refine⟨ig ?_,hF.below⟩;unfold uZ
  split
  ·first | rfl | (exfalso;omega)
  ·rw[Bool.eq_iff_iff];simp;try omega
theorem Bc (k s b h l o x v y:Int) (w:World):Calls prog 19 #[.agg #[.int .i64 k,.int .i64 s,.int .i64 b,.int .i64 h,.int .i64 l],.agg #[.int .i64 o,.int .u64 x,.int .u64 v,.int .i64 y]] w fun e w'=>e=.returned (.int .i64 (jE k s b h l o x v y))/\Below w.heap.size w w':=by
 have hF:=((Fr.start w).push w.heap.size rfl [.int .i64 k,.int .i64 s,.int .i64 b,.int .i64 h,.int .i64 l] 23).push (w.heap.size+1) (by simp) [.int .i64 o,.int .u64 x,.int .u64 v,.int .i64 y] 55;have r:=hF.rule 0 rfl;have q:=hF.rule 1 rfl;go_enter func19,ntmps19;go_wp2_with (first
  |
   (with_reducible refine (MY _ _ _).mono ?_;rintro e w1 ⟨rfl,rfl⟩)
  |
   (with_reducible refine (MZ _ _).mono ?_;rintro e w1 ⟨rfl,rfl⟩)
  |
   (with_reducible refine (oP _ _ _ _ _ _).mono ?_;rintro e w1 ⟨rfl,hb⟩;replace hF:=hF.over hb;clear hb r q;have r:=hF.rule 0 rfl;have q:=hF.rule 1 rfl)
  |
   (with_reducible refine (M1 _ _ _ _ _ _ _ _ _ _).mono ?_;rintro e w1 ⟨rfl,hb⟩;replace hF:=hF.over hb;clear hb r q;have r:=hF.rule 0 rfl;have q:=hF.rule 1 rfl)
  )
 all_goals
  go_ret
  (try go_light)
  (try simp only[bne_iff_ne,ne_eq,bne_eq_false_iff_eq,beq_iff_eq,beq_eq_false_iff_ne,Bool.or_eq_true,Bool.and_eq_true,decide_eq_true_eq,decide_eq_false_iff_not,Bool.or_eq_false_iff,Bool.not_eq_true',Bool.not_eq_false'] at *)
  refine⟨iA ?_,hF.below⟩
  (try simp only[ze,decide_eq_true_eq] at *)
  by_cases h8:o=8
  ·subst h8;simp_all [jE,zf]
  ·simp[jE,zf, *]
   (try omega)
end
section
open Go.RowKit Go.Maps
section
variable {w0 w:World} {L:List Item} {c q:Nat} {k s b h l e r hs hi:Int}
theorem ET (v:World) (a b c d e:Int):(Instr.field 23 (.agg #[zI a,zI b,zI c,zI d,zI e]) 0).run prog v=.ok (zI a) v:=by kernel_rfl
theorem M3 (i:Nat) (kd key val lv:Int) (iY:k≠3\/kd=8\/jE k s b h l kd key val lv≠0) (hm:L[i]?=some (dy c k s b h l e r hs hi q)) (hE:Env w0 L w) :
  Calls prog 15 #[zP c,.agg #[zI kd,zU key,zU val,zI lv]] w fun o w'=>o=.returned (.pointer none)/\Env w0 L w':=by
 have Ee:=ET;have ag:=hE.box w.heap.size rfl [zI kd,zU key,zU val,zI lv] 55;have iC:(ae w.heap.size [zI kd,zU key,zU val,zI lv]::L)[i+1]?=some (dy c k s b h l e r hs hi q):=hm;have mh:=zH fun (v:World) (hv:Env w0 (ae w.heap.size [zI kd,zU key,zU val,zI lv]::L) v)=>nT (hv.get (i+1) iC);have sq:=fun v=>Bc k s b h l kd key val lv v;obtain⟨io,uh⟩:∃ io,jE k s b h l kd key val lv=io:=⟨_,rfl⟩;simp only[uh] at sq iY;have ui:=zH sq;clear uh sq hE hm;go_enter func15,ntmps15;go_wp2_with fail;generalize w.alloc _=w2 at *;generalize w.heap.size=Y at *
 by_cases h1:k=3
 ·have b1:(k != 3)=false:=by simpa using h1
  by_cases h2:kd=8
  ·have b2:(kd==8)=true:=by simpa using h2
   clear h1 h2 iY;refine cG (S:=(Env w0 (ae Y [zI kd,zU key,zU val,zI lv]::L))) (by kernel_rfl) (by kernel_rfl) ag.drew (fun hT=>?_);have af:=zH hT;clear hT
   repeat ((first
    | (refine cH (v:=?_) af.o (by rfl) ?_ ?_;rotate_left;(intro w5 hS;have r0:=hS.rule 0 rfl;go_simp<;>rfl))
    | (refine cI af.o (by rfl) ?_)
    | (refine cJ (v:=?_) (f:=?_) (args:=?_) af.o (by rfl) ?_ ?_ ?_;rotate_left 3;(intro w5 hS;have r0:=hS.rule 0 rfl;go_simp;constructor<;>rfl);(intro w5 hS;(first | (with_reducible refine kp (mh.out _ hS) ?_ ?_;rfl;exact fun w6 dm=>hS.over dm)))));try simp only[Act.put,zA,zZ,zS])
   refine InText.nil fun w5 aK=>?_;clear af;clear ag;go_wp2_with fail;go_ret;exact⟨rfl,aK.sub (.cons _ (List.Sublist.refl _))⟩
  ·have b2:(kd==8)=false:=by simpa using h2
   have b3:(io != 0)=true:=by simpa [h1,h2] using iY
   clear h1 h2 iY;refine cG (S:=(Env w0 (ae Y [zI kd,zU key,zU val,zI lv]::L))) (by kernel_rfl) (by kernel_rfl) ag.drew (fun hT=>?_);have af:=zH hT;clear hT
   repeat ((first
    | (refine cH (v:=?_) af.o (by rfl) ?_ ?_;rotate_left;(intro w5 hS;have r0:=hS.rule 0 rfl;go_simp<;>rfl))
    | (refine cI af.o (by rfl) ?_)
    | (refine cJ (v:=?_) (f:=?_) (args:=?_) af.o (by rfl) ?_ ?_ ?_;rotate_left 3;(intro w5 hS;have r0:=hS.rule 0 rfl;go_simp;constructor<;>rfl);(intro w5 hS;(first | (with_reducible refine kp (mh.out _ hS) ?_ ?_;rfl;exact fun w6 dm=>hS.over dm) | (with_reducible refine kp (ui.out _) ?_ ?_;rfl;exact fun w6 dm=>hS.over dm)))));try simp only[Act.put,zA,zZ,zS])
   refine InText.nil fun w5 aK=>?_;clear af;clear ag;go_wp2_with fail;go_ret;exact⟨rfl,aK.sub (.cons _ (List.Sublist.refl _))⟩
 ·have b1:(k != 3)=true:=by simpa using h1
  clear h1 iY;refine cG (S:=(Env w0 (ae Y [zI kd,zU key,zU val,zI lv]::L))) (by kernel_rfl) (by kernel_rfl) ag.drew (fun hT=>?_);have af:=zH hT;clear hT
  repeat ((first
   | (refine cH (v:=?_) af.o (by rfl) ?_ ?_;rotate_left;(intro w5 hS;have r0:=hS.rule 0 rfl;go_simp<;>rfl))
   | (refine cI af.o (by rfl) ?_)
   | (refine cJ (v:=?_) (f:=?_) (args:=?_) af.o (by rfl) ?_ ?_ ?_;rotate_left 3;(intro w5 hS;have r0:=hS.rule 0 rfl;go_simp;constructor<;>rfl);(intro w5 hS;(first | (with_reducible refine kp (mh.out _ hS) ?_ ?_;rfl;exact fun w6 dm=>hS.over dm)))));try simp only[Act.put,zA,zZ,zS])
  refine InText.nil fun w5 aK=>?_;clear af;clear ag;go_wp2_with fail;go_ret;exact⟨rfl,aK.sub (.cons _ (List.Sublist.refl _))⟩
theorem EU {H:Nat} (hH:H<=1000) (i:Nat) (kd key val lv:Int) (h2:kd≠8) (h3:jE 3 s b (H:Int) l kd key val lv=0) (hm:L[i]?=some (dy c 3 s b (H:Int) l e r hs hi q)) (hE:Env w0 L w) :
  Calls prog 15 #[zP c,.agg #[zI kd,zU key,zU val,zI lv]] w fun p w'=>∃ o b1 b2 fb g,p=.returned (zP o)/\Env w0 (ae o (aw c kd key val lv (cvP b1 b2) 0 (zP fb) 0 0 0 0 false 0 false)::ae b1 [mvL 109 fb]::ae b2 [mvL 81 o]::ae fb (bq c key (mvL 124 fb) 0 g H 0)::ae g (List.replicate H (.pointer none))::L) w':=by
 have Ee:=ET;have ag:=hE.box w.heap.size rfl [zI kd,zU key,zU val,zI lv] 55;have iC:(ae w.heap.size [zI kd,zU key,zU val,zI lv]::L)[i+1]?=some (dy c 3 s b (H:Int) l e r hs hi q):=hm;have mh:=zH fun (v:World) (hv:Env w0 (ae w.heap.size [zI kd,zU key,zU val,zI lv]::L) v)=>nT (hv.get (i+1) iC);have sq:=fun v=>Bc 3 s b (H:Int) l kd key val lv v;simp only[h3] at sq;have ui:=zH sq;have b2:(kd==8)=false:=by simpa using h2
 clear sq hE hm h2 h3;go_enter func15,ntmps15;go_wp2_with fail;generalize w.alloc _=w2 at *;generalize w.heap.size=Y at *;refine cG (S:=(Env w0 (ae Y [zI kd,zU key,zU val,zI lv]::L))) (by kernel_rfl) (by kernel_rfl) ag.drew (fun hT=>?_);have af:=zH hT;clear hT
 repeat ((first
  | (refine cH (v:=?_) af.o (by rfl) ?_ ?_;rotate_left;(intro w5 hS;have r0:=hS.rule 0 rfl;go_simp<;>rfl))
  | (refine cI af.o (by rfl) ?_)
  | (refine cJ (v:=?_) (f:=?_) (args:=?_) af.o (by rfl) ?_ ?_ ?_;rotate_left 3;(intro w5 hS;have r0:=hS.rule 0 rfl;go_simp;constructor<;>rfl);(intro w5 hS;(first | (with_reducible refine kp (mh.out _ hS) ?_ ?_;rfl;exact fun w6 dm=>hS.over dm) | (with_reducible refine kp (ui.out _) ?_ ?_;rfl;exact fun w6 dm=>hS.over dm)))));try simp only[Act.put,zA,zZ,zS])
 refine InText.nil fun w5 aK=>?_;clear af;clear ag;have r0:=aK.rule 0 rfl;go_wp2_with fail;have aq:=aK.box w5.heap.size rfl (aw c kd key val lv .nilFunc 0 (.pointer none) 0 0 0 0 false 0 false) 120;refine (sd (i+1) hH iC aq).mono ?_;rintro p w6 ⟨rfl,b1,b3,fb,g,aO⟩;go_wp2_with fail;go_ret;exact⟨_,b1,b3,fb,g,rfl,aO.sub (.cons_cons _ (.cons_cons _ (.cons_cons _ (.cons_cons _ (.cons_cons _ (.cons _ (List.Sublist.refl _)))))))⟩
end
theorem pD (x:Int) (w:World) (hx:aD x) :
  Calls prog 96 #[zU x] w fun o w'=>o=.returned (.bool (cO x))/\Below w.heap.size w w':=by
 unfold aD at hx;have Td:∀ (v:World) (m:Bool) (s b:Int),(Instr.field 145 (.agg #[.bool m,zI s,zI b]) 0).run prog v=.ok (.bool m) v:=fun v m s b=>by kernel_rfl
 go_enter func96,ntmps96;go_wp2_with fail;refine (zX x _ hx.1 hx.2).mono ?_;rintro o w1 ⟨rfl,hb⟩;go_wp2_with fail;go_ret;exact⟨rfl,hb⟩
section
variable {w:World} {u n c:Nat} {A:Option Addr} {k s b h l e N hs r:Int}
theorem pE (a:Int) (hb:ao 0 w u (bx k s b h l e A n c N hs r)) :
  Calls prog 98 #[zP u,zI a] w fun o w'=>o=.returned (zU (aP false a e))/\Below w.heap.size w w':=by
 have r1:=hb.rule;unfold bx at r1;clear hb;go_enter func98,ntmps98;go_wp2_with fail;refine (xh false a e _).mono ?_;rintro o w1 ⟨rfl,hb⟩;go_wp2_with fail;go_ret;exact⟨rfl,hb⟩
theorem M4 (x a:Int) (hx:aD x) (hb:ao 0 w u (bx k s b h l e A n c N hs r)) :
  Calls prog 97 #[zP u,zU x,zI a] w fun o w'=>o=.returned (zU (ja x a e))/\Below w.heap.size w w':=by
 cases hB:cO x
 ·have hm:ja x a e=aP true a e:=by simp[ja,hB]
  have HB:=zH hB;have HM:=zH hm;have HX:=zH hx;clear hB hm hx;go_enter func97,ntmps97;go_wp2_with fail;refine (pD x _ HX.out).mono ?_;rintro o w1 ⟨rfl,cV⟩;rw[HB.out];have r1:=(hb.under cV).rule;unfold bx at r1;clear hb;go_wp2_with fail;refine (xh true a e _).mono ?_;rintro o w2 ⟨rfl,eg⟩;go_wp2_with fail;go_ret;exact⟨iA HM.out.symm,cV.trans (eg.mono cV.size)⟩
 ·have hm:ja x a e=x:=by simp[ja,hB]
  have HB:=zH hB;have HM:=zH hm;have HX:=zH hx;clear hB hm hx hb;go_enter func97,ntmps97;go_wp2_with fail;refine (pD x _ HX.out).mono ?_;rintro o w1 ⟨rfl,cV⟩;rw[HB.out];go_wp2_with fail;go_ret;exact⟨iA HM.out.symm,cV⟩
end
theorem M6 {x e:Int} (hx:aD x) (h0:0<=e) (h1:e<=9223372036854775807):(x==IntKind.u64.wrap e)=okB x e:=by
 unfold aD at hx;have hw:IntKind.u64.wrap e=e:=by rw[IntKind.wrap_u64];omega
 rw[hw];unfold okB mH bg
 by_cases h:x<=9223372036854775807
 ·simp[h]
 ·simp[h];omega
section
variable {w0 w:World} {L:List Item} {u m n c:Nat} {F:Nat->Prop} {ml:List bT} {A:Option Addr} {k s b h l e N hs r:Int}
theorem kT (x:Int) (xi:ak ml (1,0,0)=x) (hx:aD x) (h0:0<=e) (h1:e<=9223372036854775807) (aQ:ml.length<=1000000) (i j:Nat) (hE:Env w0 L w) (hi:L[i]?=some (ae u (bx k s b h l e A n c N hs r))) (hj:L[j]?=some (bP m F ml)) :
  Calls prog 95 #[zP u,zP m] w fun o w'=>o=.returned (.bool (okB x e))/\Env w0 (L.set i (ae u (bx k s b h l e A n c N hs (if okB x e then r else wrap64 (r+1))))) w':=by
 have aG:=M6 hx h0 h1;have rM:∀ w',Env w0 L w'->Env w0 (L.set i (ae u (bx k s b h l e A n c N hs r))) w':=fun w' h=>by
  rw[Dh hi];exact h
 have HS:=zH rM;clear rM hx;generalize hR:(if okB x e then r else wrap64 (r+1))=R;generalize okB x e=B at *;have HR:=zH hR;have l3:Hid (∀ v,Env w0 L v->∀ z,v.cell? ⟨u,z,none⟩=(bx k s b h l e A n c N hs r)[z]?):=zH fun v hv=>hv.rule i hi;unfold bx at l3;have M7:Hid (∀ v,Env w0 L v->Calls prog 37 #[zP m,.agg #[zI 1,zI 0,zI 0]] v fun o w'=>o=.returned (zU x)/\Below v.heap.size v w'):=zH fun v hv=>by
  have:=ju 1 0 0 aQ (hv.ref j hj);rw[xi] at this;exact this
 have iV:=zH aG;clear hR aG xi;go_enter func95,ntmps95;go_wp2_with fail;have aG:=iV.out;refine cG (S:=(Env w0 L)) (by kernel_rfl) (by kernel_rfl) hE.drew (fun hT=>?_);have af:=zH hT;clear hT
 repeat ((first
  | (refine cH (v:=?_) af.o (by rfl) ?_ ?_;rotate_left;(intro w5 hS;have r1:=l3.out _ hS;go_simp<;>rfl))
  | (refine cI af.o (by rfl) ?_)
  | (refine cJ (v:=?_) (f:=?_) (args:=?_) af.o (by rfl) ?_ ?_ ?_;rotate_left 3;(intro w5 hS;have r1:=l3.out _ hS;go_simp;constructor<;>rfl);(intro w5 hS;(first | (with_reducible refine kp (vi _) ?_ ?_;rfl;exact fun w6 dm=>hS.over dm) | (with_reducible refine kp (M7.out _ hS) ?_ ?_;rfl;exact fun w6 dm=>hS.over dm)))));try simp only[Act.put,zA,zZ,zS])
 refine InText.nil fun w5 aK=>?_;clear af;clear hE;have HE:=zH aK;clear aK;cases B
 ·have j0:=HR.out;simp only[Bool.false_eq_true,if_false] at j0;subst j0;have hE:=HE.out;have r1:=l3.out _ hE;have ff:=hE.thaw i hi;have f9:=ff 9 (by simp[bx]);clear ff iV HR;go_wp2_with fail;go_ret;exact⟨rfl,hE.put i hi (j:=9) (by simp[bx]) (zI (wrap64 (r+1)))⟩
 ·have j0:=HR.out;simp only[if_true] at j0;subst j0;clear iV;go_wp2_with fail;go_ret;exact⟨rfl,HS.out _ HE.out⟩
end
def aV (lv key:Int) (vs:Bool) (x y z pc W X K V C:Int) (fd:Bool):List Value:=[zI x,zI y,zI z,zI lv,zU key,.bool vs,zI pc,zU W,zU X,zU K,zU V,zI C,.bool fd]
structure Uc where
 (k s b h l:Int)
 (A:Option Addr)
 (n c:Nat)
 (N hs:Int)
def cW (uc:Uc) (e ro:Int):List Value:=bx uc.k uc.s uc.b uc.h uc.l e uc.A uc.n uc.c uc.N uc.hs ro
def wr (PP TT vs:List Value):List Value:=PP++(vs++TT)
section
variable {PP TT vs:List Value} {k0:Nat}
theorem Bd (h:PP.length=k0) {j:Nat} (hj:j < vs.length):(wr PP TT vs)[k0+j]?=vs[j]?:=by
 subst h;unfold wr;rw[List.getElem?_append_right (by omega),Nat.add_sub_cancel_left,List.getElem?_append_left hj]
theorem M8 (h:PP.length=k0) {j:Nat} (hj:j < vs.length) (v:Value):(wr PP TT vs).set (k0+j) v=wr PP TT (vs.set j v):=by
 subst h;unfold wr;rw[List.set_append_right _ _ (by omega),Nat.add_sub_cancel_left,List.set_append_left _ _ hj]
theorem EV (h:PP.length=k0) {j:Nat} (hj:j < vs.length):k0+j < (wr PP TT vs).length:=by
 unfold wr;rw[List.length_append,List.length_append];omega
end
section
variable {w0 w:World} {L:List Item} {PP TT vs:List Value} {k0 b:Nat}
theorem Env.thawW (hE:Env w0 L w) (h:PP.length=k0) (i:Nat) (hi:L[i]?=some (ae b (wr PP TT vs))) (j:Nat) (hj:j < vs.length):w.frozen? ⟨b,k0+j,none⟩=false:=hE.thaw i hi _ (EV h hj)
theorem Env.putW (hE:Env w0 L w) (h:PP.length=k0) (i:Nat) (hi:L[i]?=some (ae b (wr PP TT vs))) {j:Nat} (hj:j < vs.length) (v:Value):Env w0 (L.set i (ae b (wr PP TT (vs.set j v)))) (w.setCell ⟨b,k0+j,none⟩ v):=by
 have:=hE.put i hi (j:=k0+j) (EV h hj) v
 rwa [M8 h hj] at this
theorem Env.thawW0 (hE:Env w0 L w) (h:PP.length=k0) (i:Nat) (hi:L[i]?=some (ae b (wr PP TT vs))) (hj:0 < vs.length):w.frozen? ⟨b,k0,none⟩=false:=hE.thawW h i hi 0 hj
theorem Env.putW0 (hE:Env w0 L w) (h:PP.length=k0) (i:Nat) (hi:L[i]?=some (ae b (wr PP TT vs))) (hj:0 < vs.length) (v:Value):Env w0 (L.set i (ae b (wr PP TT (vs.set 0 v)))) (w.setCell ⟨b,k0,none⟩ v):=hE.putW h i hi hj v
theorem dj {lv key:Int} {vs fd:Bool} {x y z pc W X K V C:Int} (h:PP.length=k0) (hr:∀ j,w.cell? ⟨b,j,none⟩=(wr PP TT (aV lv key vs x y z pc W X K V C fd))[j]?) :
  w.cell? ⟨b,k0,none⟩=some (.int .i64 x)/\w.cell? ⟨b,k0+1,none⟩=some (.int .i64 y)/\w.cell? ⟨b,k0+2,none⟩=some (.int .i64 z)/\w.cell? ⟨b,k0+3,none⟩=some (.int .i64 lv)/\w.cell? ⟨b,k0+4,none⟩=some (.int .u64 key)/\w.cell? ⟨b,k0+5,none⟩=some (.bool vs)/\w.cell? ⟨b,k0+6,none⟩=some (.int .i64 pc)/\w.cell? ⟨b,k0+7,none⟩=some (.int .u64 W)/\w.cell? ⟨b,k0+8,none⟩=some (.int .u64 X)/\w.cell? ⟨b,k0+9,none⟩=some (.int .u64 K)/\w.cell? ⟨b,k0+10,none⟩=some (.int .u64 V)/\w.cell? ⟨b,k0+11,none⟩=some (.int .i64 C)/\w.cell? ⟨b,k0+12,none⟩=some (.bool fd):=by
 have g:∀ j,j < 13->w.cell? ⟨b,k0+j,none⟩=(aV lv key vs x y z pc W X K V C fd)[j]?:=fun j hj=>by rw[hr,Bd h (by simpa [aV] using hj)]
 exact⟨g 0 (by omega),g 1 (by omega),g 2 (by omega),g 3 (by omega),g 4 (by omega),g 5 (by omega),g 6 (by omega),g 7 (by omega),g 8 (by omega),g 9 (by omega),g 10 (by omega),g 11 (by omega),g 12 (by omega)⟩
end
section
variable {PP TT:List Value} {k0:Nat} (aS:Hid (PP.length=k0))
include aS
variable {uc:Uc} {w:World} {b:Nat} {lv key:Int} {vs fd:Bool} {x y z pc W X K V C:Int}
theorem EW (aH:0<=lv/\lv<=1000000) (hb:ao 0 w b (wr PP TT (aV lv key vs x y z pc W X K V C fd))):Calls prog 116 #[.pointer (some ⟨b,k0,none⟩)] w fun e w'=>e=.returned (.agg #[zI 5,zI C,zI (7+lv)])/\Below w.heap.size w w':=by
 have bp:=hb.1;have hX:=hb.more (.cells [zI 0,zI 0,zI 0].toArray 72);have hZ:=ao.new 0 w [zI 0,zI 0,zI 0] 72;have hE:=(Below.refl w.heap.size w).alloc (Nat.le_refl _) (.cells [zI 0,zI 0,zI 0].toArray 72);have kD:wrap64 (7+lv)=7+lv:=df _ (by omega);have Be:IntKind.i64.wrap (7+lv)=7+lv:=by rw[lU];exact kD
 have HW:=zH kD;clear hb aH kD;go_enter func116,ntmps116;go_wp2_with fail;refine Ord.wc [10] (fun w'=>Below w.heap.size w w'/\ao 0 w' b (wr PP TT (aV lv key vs x y z pc W X K V C fd))) (fun j w'=>ao 0 w' w.heap.size (if j=0 then [zI 0,zI 0,zI 0] else [zI 5,zI C,zI (7+lv)])) ⟨hE.drew,hX.drew⟩ hZ.drew fun af=>?_
 repeat ((first
  | (refine Ord.cv ?_ af.o ?_ ?_;rotate_left;(intro w5 hS;obtain⟨cn,cq,ct,cu,cw,cx,cy,cz,cA,cB,cC,cD,cE⟩:=dj aS.out (ao.rule hS.2);go_simp<;>rfl))
  | (refine Ord.co af.o ?_)
  | (refine Ord.cc ?_ ?_ ?_ af.o ?_ ?_ ?_;rotate_left 3;(intro w5 hS;obtain⟨cn,cq,ct,cu,cw,cx,cy,cz,cA,cB,cC,cD,cE⟩:=dj aS.out (ao.rule hS.2);go_simp;constructor<;>rfl);(intro w5 hS;(first | (with_reducible refine kp (jH _ _ _) ?_ ?_;rfl;exact fun w6 aj=>⟨⟨hS.1.trans (aj.mono hS.1.size),hS.2.under aj⟩,fun _ h=>h.under aj⟩)))));try simp only[Act.put,zA,zZ,zS])
 refine Ord.ch_turn (v:=undef) 0 af.o rfl (by decide) (Or.inl rfl) (by rfl) ?_ ?_
 ·rintro w5 hS aU;simp only[if_true] at aU;have r:=aU.rule;have f0:=aU.thaw 0 (by simp);have f1:=aU.thaw 1 (by simp);have f2:=aU.thaw 2 (by simp);have hz:=hS.1.size;go_simp;refine⟨rfl,⟨?_,?_⟩,?_⟩
  ·exact dJ (dJ (dJ hS.1 hz (by omega) _) (by simp;omega) (by omega) _) (by simp;omega) (by omega) _
  ·exact ((hS.2.off (by omega) _).off (by omega) _).off (by omega) _
  ·exact ((aU.set (i:=0) (by simp) _).set (i:=1) (by simp) _).set (i:=2) (by simp) _
 try simp only[Act.put,zA,zZ,zS]
 repeat ((first
  | (refine Ord.cv ?_ af.o ?_ ?_;rotate_left;(intro w5 hS;skip;go_simp<;>rfl))
  | (refine Ord.co af.o ?_));try simp only[Act.put,zA,zZ,zS])
 refine Ord.InText.nil fun w5 hS=>?_;clear af;obtain⟨aL,ai⟩:=Ord.chain_end hS;clear hS;have q:=ai.rule;simp only[show ¬ [10].length=0 by decide,if_false] at q
 go_wp2
 exact bodyPost_ret (v:=.agg #[zI 5,zI C,zI (7+lv)]) (by simp[results,results116,go_sem,q]) rfl ⟨rfl,aL.1⟩
end
section
variable {PP TT:List Value} {k0:Nat} (aS:Hid (PP.length=k0))
include aS
variable {uc:Uc} {w0 w:World} {L:List Item} {b:Nat} {lv key:Int} {vs fd:Bool} {x y z pc W X K V C:Int}
theorem Bf (v:Int) (hv:aD v) (hE:Env w0 (ae b (wr PP TT (aV lv key vs x y z pc W X K V C fd))::L) w) :
  Calls prog 117 #[.pointer (some ⟨b,k0,none⟩),zU v] w fun o w'=>o=.returned (zI (cS v))/\Env w0 (ae b (wr PP TT (aV lv key vs x y z 3 v 0 K V (aA v) fd))::L) w':=by
 have jd:=fun (u:World)=>iG v hv u;obtain⟨s,hs⟩:∃ s,aA v=s:=⟨_,rfl⟩;have eO:cS v=if s=0 then 1 else 0:=by unfold cS;rw[hs]
 rw[eO,hs];simp only[hs] at jd;have HS:=zH jd;clear hs eO jd hv;obtain⟨cn,cq,ct,cu,cw,cx,cy,cz,cA,cB,cC,cD,cE⟩:=dj aS.out (hE.rule 0 rfl);have f7:=hE.thawW aS.out 0 rfl 7 (by simp[aV]);have f8:=hE.thawW aS.out 0 rfl 8 (by simp[aV]);have hP:=(hE.putW aS.out 0 rfl (j:=7) (by simp[aV]) (zU v)).putW aS.out 0 rfl (j:=8) (by simp[aV]) (zU 0);replace hP:Env w0 (ae b (wr PP TT (aV lv key vs x y z pc v 0 K V C fd))::L) _:=hP;go_enter func117,ntmps117;go_wp2_with fail;refine (HS.out _).mono ?_;rintro o w1 ⟨rfl,hb⟩;have ag:=hP.over hb;clear hb cn cq ct cu cw cx cy cz cA cB cC cD cE f7 f8 hP hE;obtain⟨cn,cq,ct,cu,cw,cx,cy,cz,cA,cB,cC,cD,cE⟩:=dj aS.out (ag.rule 0 rfl);have f11:=ag.thawW aS.out 0 rfl 11 (by simp[aV]);have f6:=ag.thawW aS.out 0 rfl 6 (by simp[aV]);have hP:=(ag.putW aS.out 0 rfl (j:=11) (by simp[aV]) (zI s)).putW aS.out 0 rfl (j:=6) (by simp[aV]) (zI 3);replace hP:Env w0 (ae b (wr PP TT (aV lv key vs x y z 3 v 0 K V s fd))::L) _:=hP
 by_cases h0:s=0
 ·subst h0;go_wp2_with fail;go_ret;exact⟨rfl,hP⟩
 ·have tE:(s==0)=false:=by simpa using h0
  have H0:=zH h0;clear h0;go_wp2_with fail;go_ret;exact⟨rfl,hP⟩
theorem Na (hm:cO W=true) (hv:aD W) (hE:Env w0 (ae b (wr PP TT (aV lv key vs x y z 2 W X K V C fd))::L) w) :
  Calls prog 118 #[.pointer (some ⟨b,k0,none⟩)] w fun o w'=>o=.returned (zI 2)/\Env w0 (ae b (wr PP TT (aV lv key vs x y z 2 W X K V C fd))::L) w':=by
 have h1:=pD W w hv;rw[hm] at h1;obtain⟨cn,cq,ct,cu,cw,cx,cy,cz,cA,cB,cC,cD,cE⟩:=dj aS.out (hE.rule 0 rfl);clear hm hv;go_enter func118,ntmps118;go_wp2_with fail;refine h1.mono ?_;rintro o w1 ⟨rfl,hb⟩;go_wp2_with fail;go_ret;exact⟨rfl,hE.over hb⟩
theorem Nb (hm:cO W=false) (hv:aD W) (hE:Env w0 (ae b (wr PP TT (aV lv key vs x y z 2 W X K V C fd))::L) w) :
  Calls prog 118 #[.pointer (some ⟨b,k0,none⟩)] w fun o w'=>o=.returned (zI (cS W))/\Env w0 (ae b (wr PP TT (aV lv key vs x y z 3 W 0 K V (aA W) fd))::L) w':=by
 have h1:=pD W w hv;rw[hm] at h1;obtain⟨cn,cq,ct,cu,cw,cx,cy,cz,cA,cB,cC,cD,cE⟩:=dj aS.out (hE.rule 0 rfl);have HV:=zH hv;clear hm hv;go_enter func118,ntmps118;go_wp2_with fail;refine h1.mono ?_;rintro o w1 ⟨rfl,hb⟩;replace hE:=hE.over hb;clear hb cn cq ct cu cw cx cy cz cA cB cC cD cE;obtain⟨cn,cq,ct,cu,cw,cx,cy,cz,cA,cB,cC,cD,cE⟩:=dj aS.out (hE.rule 0 rfl);go_wp2_with fail;refine (Bf aS W HV.out hE).mono ?_;rintro o w2 ⟨rfl,az⟩;go_wp2_with fail;go_ret;exact⟨rfl,az⟩
theorem Nc (hv:aD X) (hE:Env w0 (ae b (wr PP TT (aV lv key vs x y z 4 W X K V C fd))::L) w) :
  Calls prog 118 #[.pointer (some ⟨b,k0,none⟩)] w fun o w'=>o=.returned (zI 0)/\Env w0 (ae b (wr PP TT (aV lv key vs x y z (if cO X then 5 else 6) W X K V C fd))::L) w':=by
 obtain⟨mk,bA⟩:∃ mk,cO X=mk:=⟨_,rfl⟩;have h1:=fun (u:World)=>pD X u hv;simp only[bA] at h1;rw[bA];have H1:=zH h1;obtain⟨cn,cq,ct,cu,cw,cx,cy,cz,cA,cB,cC,cD,cE⟩:=dj aS.out (hE.rule 0 rfl);have f6:=hE.thawW aS.out 0 rfl 6 (by simp[aV]);have hP:=hE.putW aS.out 0 rfl (j:=6) (by simp[aV]) (zI 6);replace hP:Env w0 (ae b (wr PP TT (aV lv key vs x y z 6 W X K V C fd))::L) _:=hP;clear bA hv h1;go_enter func118,ntmps118;go_wp2_with fail;refine (H1.out _).mono ?_;rintro o w1 ⟨rfl,hb⟩;replace hP:=hP.over hb;clear hb cn cq ct cu cw cx cy cz cA cB cC cD cE f6;cases mk
 ·go_wp2_with fail;go_ret;exact⟨rfl,hP⟩
 ·obtain⟨cn,cq,ct,cu,cw,cx,cy,cz,cA,cB,cC,cD,cE⟩:=dj aS.out (hP.rule 0 rfl);have f6:=hP.thawW aS.out 0 rfl 6 (by simp[aV]);have hQ:=hP.putW aS.out 0 rfl (j:=6) (by simp[aV]) (zI 5);go_wp2_with fail;go_ret;exact⟨rfl,hQ⟩
theorem Nd (hk:K < key) (aH:0<=lv/\lv<=1000000) (hv:aD X) (hE:Env w0 (ae b (wr PP TT (aV lv key vs x y z 7 W X K V C fd))::L) w) :
  Calls prog 118 #[.pointer (some ⟨b,k0,none⟩)] w fun o w'=>o=.returned (zI (cS X))/\Env w0 (ae b (wr PP TT (aV lv key vs 5 C (7+lv) 3 X 0 K V (aA X) fd))::L) w':=by
 have tN:decide (K < key)=true:=by simpa using hk
 obtain⟨cn,cq,ct,cu,cw,cx,cy,cz,cA,cB,cC,cD,cE⟩:=dj aS.out (hE.rule 0 rfl);have HV:=zH hv;clear hv hk;go_enter func118,ntmps118;go_wp2_with fail;clear cn cq ct cu cw cx cy cz cA cB cC cD cE;refine cG (S:=(Env w0 (ae b (wr PP TT (aV lv key vs x y z 7 W X K V C fd))::L))) (by kernel_rfl) (by kernel_rfl) hE.drew (fun hT=>?_);have af:=zH hT;clear hT
 repeat ((first
  | (refine cH (v:=?_) af.o (by rfl) ?_ ?_;rotate_left;(intro w5 hS;obtain⟨cn,cq,ct,cu,cw,cx,cy,cz,cA,cB,cC,cD,cE⟩:=dj aS.out (hS.rule 0 rfl);go_simp<;>rfl))
  | (refine cI af.o (by rfl) ?_)
  | (refine cJ (v:=?_) (f:=?_) (args:=?_) af.o (by rfl) ?_ ?_ ?_;rotate_left 3;(intro w5 hS;obtain⟨cn,cq,ct,cu,cw,cx,cy,cz,cA,cB,cC,cD,cE⟩:=dj aS.out (hS.rule 0 rfl);go_simp;constructor<;>rfl);(intro w5 hS;(first | fail))));try simp only[Act.put,zA,zZ,zS])
 refine InText.nil fun w5 aK=>?_;clear af;clear hE;go_wp2_with fail;refine (EW aS aH (aK.get 0 rfl)).mono ?_;rintro o w6 ⟨rfl,hb⟩;have hE:=aK.over hb;clear aK hb;obtain⟨cn,cq,ct,cu,cw,cx,cy,cz,cA,cB,cC,cD,cE⟩:=dj aS.out (hE.rule 0 rfl);have g0:=hE.thawW0 aS.out 0 rfl (by simp[aV]);have g1:=hE.thawW aS.out 0 rfl 1 (by simp[aV]);have g2:=hE.thawW aS.out 0 rfl 2 (by simp[aV]);have hP:=((hE.putW0 aS.out 0 rfl (by simp[aV]) (zI 5)).putW aS.out 0 rfl (j:=1) (by simp[aV]) (zI C)).putW aS.out 0 rfl (j:=2) (by simp[aV]) (zI (7+lv));replace hP:Env w0 (ae b (wr PP TT (aV lv key vs 5 C (7+lv) 7 W X K V C fd))::L) _:=hP;obtain⟨Te,Tf,Tg,Ti,Tj,Tk,Tl,Tn,Tp,Tq,Tr,Ts,Tt⟩:=dj aS.out (hP.rule 0 rfl);go_wp2_with fail;refine (Bf aS X HV.out hP).mono ?_;rintro o w2 ⟨rfl,az⟩;go_wp2_with fail;go_ret;exact⟨rfl,az⟩
theorem Nf (hk:K=key) (hE:Env w0 (ae b (wr PP TT (aV lv key false x y z 7 W X K V C fd))::L) w) :
  Calls prog 118 #[.pointer (some ⟨b,k0,none⟩)] w fun o w'=>o=.returned (zI 1)/\Env w0 (ae b (wr PP TT (aV lv key false x y z 7 W X K V C true))::L) w':=by
 have tN:decide (K < key)=false:=by simp;omega
 have gH:(K==key)=true:=by simpa using hk
 clear hk;obtain⟨cn,cq,ct,cu,cw,cx,cy,cz,cA,cB,cC,cD,cE⟩:=dj aS.out (hE.rule 0 rfl);go_enter func118,ntmps118;go_wp2_with fail;clear cn cq ct cu cw cx cy cz cA cB cC cD cE;refine cG (S:=(Env w0 (ae b (wr PP TT (aV lv key false x y z 7 W X K V C fd))::L))) (by kernel_rfl) (by kernel_rfl) hE.drew (fun hT=>?_);have af:=zH hT;clear hT
 repeat ((first
  | (refine cH (v:=?_) af.o (by rfl) ?_ ?_;rotate_left;(intro w5 hS;obtain⟨cn,cq,ct,cu,cw,cx,cy,cz,cA,cB,cC,cD,cE⟩:=dj aS.out (hS.rule 0 rfl);go_simp<;>rfl))
  | (refine cI af.o (by rfl) ?_)
  | (refine cJ (v:=?_) (f:=?_) (args:=?_) af.o (by rfl) ?_ ?_ ?_;rotate_left 3;(intro w5 hS;obtain⟨cn,cq,ct,cu,cw,cx,cy,cz,cA,cB,cC,cD,cE⟩:=dj aS.out (hS.rule 0 rfl);go_simp;constructor<;>rfl);(intro w5 hS;(first | fail))));try simp only[Act.put,zA,zZ,zS])
 refine InText.nil fun w5 aK=>?_;clear af;clear hE;go_wp2_with fail;have hE:=aK;clear aK;refine cG (S:=(Env w0 (ae b (wr PP TT (aV lv key false x y z 7 W X K V C fd))::L))) (by kernel_rfl) (by kernel_rfl) hE.drew (fun hT=>?_);have af:=zH hT;clear hT
 repeat ((first
  | (refine cH (v:=?_) af.o (by rfl) ?_ ?_;rotate_left;(intro w5 hS;obtain⟨cn,cq,ct,cu,cw,cx,cy,cz,cA,cB,cC,cD,cE⟩:=dj aS.out (hS.rule 0 rfl);go_simp<;>rfl))
  | (refine cI af.o (by rfl) ?_)
  | (refine cJ (v:=?_) (f:=?_) (args:=?_) af.o (by rfl) ?_ ?_ ?_;rotate_left 3;(intro w5 hS;obtain⟨cn,cq,ct,cu,cw,cx,cy,cz,cA,cB,cC,cD,cE⟩:=dj aS.out (hS.rule 0 rfl);go_simp;constructor<;>rfl);(intro w5 hS;(first | fail))));try simp only[Act.put,zA,zZ,zS])
 refine InText.nil fun w5 aK=>?_;clear af;clear hE;obtain⟨cn,cq,ct,cu,cw,cx,cy,cz,cA,cB,cC,cD,cE⟩:=dj aS.out (aK.rule 0 rfl);have f12:=aK.thawW aS.out 0 rfl 12 (by simp[aV]);have hP:=aK.putW aS.out 0 rfl (j:=12) (by simp[aV]) (.bool true);replace hP:Env w0 (ae b (wr PP TT (aV lv key false x y z 7 W X K V C true))::L) _:=hP;go_wp2_with fail;go_ret;exact⟨rfl,hP⟩
theorem Ng (hk:K=key) (hE:Env w0 (ae b (wr PP TT (aV lv key true x y z 7 W X K V C fd))::L) w) :
  Calls prog 118 #[.pointer (some ⟨b,k0,none⟩)] w fun o w'=>o=.returned (zI 0)/\Env w0 (ae b (wr PP TT (aV lv key true x y z 8 W X K V C true))::L) w':=by
 have tN:decide (K < key)=false:=by simp;omega
 have gH:(K==key)=true:=by simpa using hk
 clear hk;obtain⟨cn,cq,ct,cu,cw,cx,cy,cz,cA,cB,cC,cD,cE⟩:=dj aS.out (hE.rule 0 rfl);go_enter func118,ntmps118;go_wp2_with fail;clear cn cq ct cu cw cx cy cz cA cB cC cD cE;refine cG (S:=(Env w0 (ae b (wr PP TT (aV lv key true x y z 7 W X K V C fd))::L))) (by kernel_rfl) (by kernel_rfl) hE.drew (fun hT=>?_);have af:=zH hT;clear hT
 repeat ((first
  | (refine cH (v:=?_) af.o (by rfl) ?_ ?_;rotate_left;(intro w5 hS;obtain⟨cn,cq,ct,cu,cw,cx,cy,cz,cA,cB,cC,cD,cE⟩:=dj aS.out (hS.rule 0 rfl);go_simp<;>rfl))
  | (refine cI af.o (by rfl) ?_)
  | (refine cJ (v:=?_) (f:=?_) (args:=?_) af.o (by rfl) ?_ ?_ ?_;rotate_left 3;(intro w5 hS;obtain⟨cn,cq,ct,cu,cw,cx,cy,cz,cA,cB,cC,cD,cE⟩:=dj aS.out (hS.rule 0 rfl);go_simp;constructor<;>rfl);(intro w5 hS;(first | fail))));try simp only[Act.put,zA,zZ,zS])
 refine InText.nil fun w5 aK=>?_;clear af;clear hE;go_wp2_with fail;have hE:=aK;clear aK;refine cG (S:=(Env w0 (ae b (wr PP TT (aV lv key true x y z 7 W X K V C fd))::L))) (by kernel_rfl) (by kernel_rfl) hE.drew (fun hT=>?_);have af:=zH hT;clear hT
 repeat ((first
  | (refine cH (v:=?_) af.o (by rfl) ?_ ?_;rotate_left;(intro w5 hS;obtain⟨cn,cq,ct,cu,cw,cx,cy,cz,cA,cB,cC,cD,cE⟩:=dj aS.out (hS.rule 0 rfl);go_simp<;>rfl))
  | (refine cI af.o (by rfl) ?_)
  | (refine cJ (v:=?_) (f:=?_) (args:=?_) af.o (by rfl) ?_ ?_ ?_;rotate_left 3;(intro w5 hS;obtain⟨cn,cq,ct,cu,cw,cx,cy,cz,cA,cB,cC,cD,cE⟩:=dj aS.out (hS.rule 0 rfl);go_simp;constructor<;>rfl);(intro w5 hS;(first | fail))));try simp only[Act.put,zA,zZ,zS])
 refine InText.nil fun w5 aK=>?_;clear af;clear hE;obtain⟨cn,cq,ct,cu,cw,cx,cy,cz,cA,cB,cC,cD,cE⟩:=dj aS.out (aK.rule 0 rfl);have f12:=aK.thawW aS.out 0 rfl 12 (by simp[aV]);have hP:=aK.putW aS.out 0 rfl (j:=12) (by simp[aV]) (.bool true);replace hP:Env w0 (ae b (wr PP TT (aV lv key true x y z 7 W X K V C true))::L) _:=hP;have f6:=aK.thawW aS.out 0 rfl 6 (by simp[aV]);have hQ:=hP.putW aS.out 0 rfl (j:=6) (by simp[aV]) (zI 8);go_wp2_with fail;go_ret;exact⟨rfl,hQ⟩
theorem Nh (hk:key < K) (hE:Env w0 (ae b (wr PP TT (aV lv key vs x y z 7 W X K V C fd))::L) w) :
  Calls prog 118 #[.pointer (some ⟨b,k0,none⟩)] w fun o w'=>o=.returned (zI 1)/\Env w0 (ae b (wr PP TT (aV lv key vs x y z 7 W X K V C fd))::L) w':=by
 have tN:decide (K < key)=false:=by simp;omega
 have gH:(K==key)=false:=by simp;omega
 clear hk;obtain⟨cn,cq,ct,cu,cw,cx,cy,cz,cA,cB,cC,cD,cE⟩:=dj aS.out (hE.rule 0 rfl);go_enter func118,ntmps118;go_wp2_with fail;clear cn cq ct cu cw cx cy cz cA cB cC cD cE;refine cG (S:=(Env w0 (ae b (wr PP TT (aV lv key vs x y z 7 W X K V C fd))::L))) (by kernel_rfl) (by kernel_rfl) hE.drew (fun hT=>?_);have af:=zH hT;clear hT
 repeat ((first
  | (refine cH (v:=?_) af.o (by rfl) ?_ ?_;rotate_left;(intro w5 hS;obtain⟨cn,cq,ct,cu,cw,cx,cy,cz,cA,cB,cC,cD,cE⟩:=dj aS.out (hS.rule 0 rfl);go_simp<;>rfl))
  | (refine cI af.o (by rfl) ?_)
  | (refine cJ (v:=?_) (f:=?_) (args:=?_) af.o (by rfl) ?_ ?_ ?_;rotate_left 3;(intro w5 hS;obtain⟨cn,cq,ct,cu,cw,cx,cy,cz,cA,cB,cC,cD,cE⟩:=dj aS.out (hS.rule 0 rfl);go_simp;constructor<;>rfl);(intro w5 hS;(first | fail))));try simp only[Act.put,zA,zZ,zS])
 refine InText.nil fun w5 aK=>?_;clear af;clear hE;go_wp2_with fail;have hE:=aK;clear aK;refine cG (S:=(Env w0 (ae b (wr PP TT (aV lv key vs x y z 7 W X K V C fd))::L))) (by kernel_rfl) (by kernel_rfl) hE.drew (fun hT=>?_);have af:=zH hT;clear hT
 repeat ((first
  | (refine cH (v:=?_) af.o (by rfl) ?_ ?_;rotate_left;(intro w5 hS;obtain⟨cn,cq,ct,cu,cw,cx,cy,cz,cA,cB,cC,cD,cE⟩:=dj aS.out (hS.rule 0 rfl);go_simp<;>rfl))
  | (refine cI af.o (by rfl) ?_)
  | (refine cJ (v:=?_) (f:=?_) (args:=?_) af.o (by rfl) ?_ ?_ ?_;rotate_left 3;(intro w5 hS;obtain⟨cn,cq,ct,cu,cw,cx,cy,cz,cA,cB,cC,cD,cE⟩:=dj aS.out (hS.rule 0 rfl);go_simp;constructor<;>rfl);(intro w5 hS;(first | fail))));try simp only[Act.put,zA,zZ,zS])
 refine InText.nil fun w5 aK=>?_;clear af;clear hE;go_wp2_with fail;go_ret;exact⟨rfl,aK⟩
theorem Ni (hE:Env w0 (ae b (wr PP TT (aV lv key vs x y z 9 W X K V C fd))::L) w) :
  Calls prog 118 #[.pointer (some ⟨b,k0,none⟩)] w fun o w'=>o=.returned (zI 1)/\Env w0 (ae b (wr PP TT (aV lv key vs x y z 9 W X K V C fd))::L) w':=by
 obtain⟨cn,cq,ct,cu,cw,cx,cy,cz,cA,cB,cC,cD,cE⟩:=dj aS.out (hE.rule 0 rfl);go_enter func118,ntmps118;go_wp2_with fail;clear cn cq ct cu cw cx cy cz cA cB cC cD cE;refine cG (S:=(Env w0 (ae b (wr PP TT (aV lv key vs x y z 9 W X K V C fd))::L))) (by kernel_rfl) (by kernel_rfl) hE.drew (fun hT=>?_);have af:=zH hT;clear hT
 repeat ((first
  | (refine cH (v:=?_) af.o (by rfl) ?_ ?_;rotate_left;(intro w5 hS;obtain⟨cn,cq,ct,cu,cw,cx,cy,cz,cA,cB,cC,cD,cE⟩:=dj aS.out (hS.rule 0 rfl);go_simp<;>rfl))
  | (refine cI af.o (by rfl) ?_)
  | (refine cJ (v:=?_) (f:=?_) (args:=?_) af.o (by rfl) ?_ ?_ ?_;rotate_left 3;(intro w5 hS;obtain⟨cn,cq,ct,cu,cw,cx,cy,cz,cA,cB,cC,cD,cE⟩:=dj aS.out (hS.rule 0 rfl);go_simp;constructor<;>rfl);(intro w5 hS;(first | fail))));try simp only[Act.put,zA,zZ,zS])
 refine InText.nil fun w5 aK=>?_;clear af;clear hE;go_wp2_with fail;have hE:=aK;clear aK;refine cG (S:=(Env w0 (ae b (wr PP TT (aV lv key vs x y z 9 W X K V C fd))::L))) (by kernel_rfl) (by kernel_rfl) hE.drew (fun hT=>?_);have af:=zH hT;clear hT
 repeat ((first
  | (refine cH (v:=?_) af.o (by rfl) ?_ ?_;rotate_left;(intro w5 hS;obtain⟨cn,cq,ct,cu,cw,cx,cy,cz,cA,cB,cC,cD,cE⟩:=dj aS.out (hS.rule 0 rfl);go_simp<;>rfl))
  | (refine cI af.o (by rfl) ?_)
  | (refine cJ (v:=?_) (f:=?_) (args:=?_) af.o (by rfl) ?_ ?_ ?_;rotate_left 3;(intro w5 hS;obtain⟨cn,cq,ct,cu,cw,cx,cy,cz,cA,cB,cC,cD,cE⟩:=dj aS.out (hS.rule 0 rfl);go_simp;constructor<;>rfl);(intro w5 hS;(first | fail))));try simp only[Act.put,zA,zZ,zS])
 refine InText.nil fun w5 aK=>?_;clear af;clear hE;go_wp2_with fail;go_ret;exact⟨rfl,aK⟩
end
def dG (lv key:Int) (vs:Bool) (L:Lm):List Value:=aV lv key vs L.p.1 L.p.2.1 L.p.2.2 (L.pc:Int) L.W L.X L.K L.V L.C L.fd
section
variable {uc:Uc} {w0 w:World} {R:List Item} {b u m N:Nat} {f:aI->Int} {lv key e ro:Int} {vs:Bool} {L:Lm}
theorem Nj (l:List bT) (x:aI) (o v:Int):(dw l x o v).length<=l.length+1:=by
 unfold dw
 split
 ·exact mb _ _ _
 ·omega
end
end
end Go.Proofs.YtleklonmmlfijaaGreatDoor
