/- What is proved on the way to the statement, part 14: contracts of the functions, among other things in memory. -/
import Derived.Test.YtleklonmmlfijaaGreatDoorQ13

open _root_.Go.Proofs.Tryz
set_option maxRecDepth 100000
set_option maxHeartbeats 25600000
namespace Go.Proofs.YtleklonmmlfijaaGreatDoor
section
open Go.RowKit Go.Maps
section
variable {w0 w:World} {R:List Item} {q:Nat} {U:SU} {kd key val lv n l y er pc:Int} {pf pa pr:Option Addr} {an dn:Bool}
theorem mr (Q:Ending->World->Prop) (bB:0<=l/\l<=1000) (aQ:U.ml.length<=1000000) (hE:Env w0 (ae q (ay kd key val lv pc pf pa pr n l y an er dn)::LU U R) w)
  (hx:(∃ x9:Int,pc=20/\(ak U.ml (5,n,5)=x9)/\(∀ w',Env w0 (ae q (ay kd key val lv 21 pf pa pr n l x9 an er dn)::LU U R) w'->Q (.returned (zI 0)) w')) \/
    (∃ x8:Int,pc=21/\(okB x8 U.ce=false)/\(ak U.ml (1,0,0)=x8)/\(aD x8)/\(0<=U.ce/\U.ce<=9223372036854775807)/\(∀ w' f2,Env w0 (ae q (ay kd key val lv 1 (some ⟨f2,0,none⟩) pa pr n l y an er dn)::ae f2 (aY key (-1) V0)::LU { U with ro:=wrap64 (U.ro+1) } R) w'->Q (.returned (zI 0)) w')) \/
    (∃ x8:Int,pc=23/\(okB x8 U.ce=false)/\(ak U.ml (1,0,0)=x8)/\(aD x8)/\(0<=U.ce/\U.ce<=9223372036854775807)/\(∀ w' f2,Env w0 (ae q (ay kd key val lv 1 (some ⟨f2,0,none⟩) pa pr n l y an er dn)::ae f2 (aY key (-1) V0)::LU { U with ro:=wrap64 (U.ro+1) } R) w'->Q (.returned (zI 0)) w')) \/
    (∃ l2 x8:Int,pc=21/\(l2=if 1<=y/\y<=U.ch then y - 1 else 0)/\(1<=U.ch/\U.ch<=1000)/\(okB x8 U.ce=true)/\(ak U.ml (1,0,0)=x8)/\(aD x8)/\(0<=U.ce/\U.ce<=9223372036854775807)/\(∀ w',Env w0 (ae q (ay kd key val lv 22 pf pa pr n l2 y an er dn)::LU U R) w'->Q (.returned (zI 0)) w')) \/
    (∃ x9:Int,pc=22/\(ak U.ml (5,n,7+l)=x9)/\(∀ w',Env w0 (ae q (ay kd key val lv 23 pf pa pr n l x9 an er dn)::LU U R) w'->Q (.returned (zI 0)) w')) \/
    (∃ x8:Int,pc=23/\(cO y=false)/\(okB x8 U.ce=true)/\(aD y)/\(ak U.ml (1,0,0)=x8)/\(aD x8)/\(0<=U.ce/\U.ce<=9223372036854775807)/\(∀ w',Env w0 (ae q (ay kd key val lv 24 pf pa pr n l y an er dn)::LU U R) w'->Q (.returned (zI 0)) w')) \/
    (∃ x8:Int,pc=23/\(cO y=true)/\(l=0)/\(okB x8 U.ce=true)/\(aD y)/\(ak U.ml (1,0,0)=x8)/\(aD x8)/\(0<=U.ce/\U.ce<=9223372036854775807)/\(∀ w' f2,Env w0 (ae q (ay kd key val lv 1 (some ⟨f2,0,none⟩) pa pr n l y an er dn)::ae f2 (aY key (-1) V0)::LU U R) w'->Q (.returned (zI 0)) w')) \/
    (∃ l2 x8:Int,pc=23/\(cO y=true)/\(l≠0)/\(l - 1=l2)/\(okB x8 U.ce=true)/\(aD y)/\(ak U.ml (1,0,0)=x8)/\(aD x8)/\(0<=U.ce/\U.ce<=9223372036854775807)/\(∀ w',Env w0 (ae q (ay kd key val lv 22 pf pa pr n l2 y an er dn)::LU U R) w'->Q (.returned (zI 0)) w')) \/
    (∃ p2 l2:Int,pc=24/\(p2=if ak U.ml (5,n,7+l)=y then (if l=0 then 25 else 22) else 22)/\(l2=if ak U.ml (5,n,7+l)=y then (if l=0 then l else l - 1) else l)/\(aD y)/\(∀ w' F5,Env w0 (ae q (ay kd key val lv p2 pf pa pr n l2 y an er dn)::LU { U with F:=F5,ml:=dw U.ml (5,n,7+l) y (ja y (aA y) U.ce) } R) w'->Q (.returned (zI 0)) w')) \/
    (pc=25/\((∀ w' F5,ak U.ml (5,n,6)=0->Env w0 (ae q (ay kd key val lv 25 pf pa pr n l y an er true)::LU { U with F:=F5,ml:=dw U.ml (5,n,6) 0 2 } R) w'->Q (.returned (zI 1)) w')/\(∀ w' F5 f2,ak U.ml (5,n,6)≠0->Env w0 (ae q (ay kd key val lv 3 (some ⟨f2,0,none⟩) pa pr n l y an er dn)::ae f2 (aY key (-1) V0)::LU { U with F:=F5,ml:=dw U.ml (5,n,6) 0 2 } R) w'->Q (.returned (zI 0)) w')))) :
  Calls prog 69 #[zP q,zP U.u,zP U.m] w Q:=by
 have iW:=zH aQ;have HX:=zH hx;clear aQ hx;have vI:wrap64 (7+l)=7+l:=df _ (by omega);have E7:IntKind.i64.wrap (7+l)=7+l:=(lU _).trans vI;go_enter func69,ntmps69;go_wp2_with fail;refine OrdF.wp_float [?_,?_,?_,?_,?_,?_,?_,?_,?_,?_,OrdF.Ptr,?_] [11] 10 (fun v=>ao 0 v q (ay kd key val lv pc pf pa pr n l y an er dn)) (OrdF.AF w0 [zI 0,zI 0,zI 0] (OrdF.Sta [fun N9 zs=>N9=(ae q (ay kd key val lv pc pf pa pr n l y an er dn)::LU U R)/\zs=[zI 0,zI 0,zI 0],fun N9 zs=>N9=(ae q (ay kd key val lv pc pf pa pr n l y an er dn)::LU U R)/\zs=[zI 5,zI n,zI (7+l)]])) (by kernel_rfl) (by kernel_rfl) (by kernel_rfl) (hE.drew.get 0 rfl) ⟨_,_,⟨_,rfl,rfl,rfl⟩,.inl ⟨rfl,rfl,hE.drew⟩⟩ (fun hT=>?_);rotate_left 11;have af:=zH hT;clear hT
 repeat ((first
  | (focus (refine OrdF.in_value (v:=?_) af.o (by decide) (by decide) ?_ (by rfl) ?_ ?_;rotate_left 2;(intro w5 hS;have r:=hS.rule;unfold ay at r;go_simp<;>rfl);rotate_right;(focus rfl)))
  | (focus (refine OrdF.in_off af.o (by decide) (by decide) ?_ (by rfl) ?_;(focus rfl))));try simp only[Act.put,zA,zZ,zS])
 focus (refine OrdF.in_call (v:=.agg #[zI 5,zI n,zI (7+l)]) (f:=?_) (args:=?_) af.o (by decide) (by decide) ?_ (by rfl) ?_ ?_ ?_;rotate_left 2;(focus rfl);(intro w5 hS;skip;go_simp;constructor<;>rfl);(intro w5 hS;refine (jH _ _ _).mono ?_;rintro e w6 ⟨rfl,aj⟩;exact⟨rfl,hS.under aj,fun _ _ h=>lG h aj⟩);(try simp only[Act.put,zA,zZ,zS]))
 refine OrdF.in_float OrdF.Ptr (zP 0) ⟨0,rfl⟩ af.o rfl (by decide) ?_ (by rfl) ?_ ?_
 ·rfl
 ·intro w5 κs5 aN au;go_simp;simp only[Ord3.Lands];exact⟨⟨_,rfl⟩,(aN.more _),au.up _⟩
 rintro _ ⟨Z,rfl⟩
 try simp only[Act.put,zA,zZ,zS]
 refine OrdF.in_turn_late (by kernel_rfl) (by decide) (by decide) (fun u=>u=undef) (undef) rfl af.o rfl (by decide) (by rfl) ?_ (.inl rfl) (by rfl) ?_ ?_
 ·rfl
 ·rintro w5 aN ⟨M5,z5,⟨P5,cd,cR⟩,⟨bC,_⟩ | ⟨n5,bC,aB⟩⟩
  ·cases bC
  cases bC;cases cd;obtain⟨rfl,rfl⟩:=cR;have r:=aB.rule 0 rfl;have ff:=aB.thaw 0 rfl;have f0:=ff 0 (by simp);have f1:=ff 1 (by simp);have f2:=ff 2 (by simp);clear ff;go_simp;have aq:=aB.put3 0 rfl (zI 5) (zI n) (zI (7+l));exact⟨rfl,aq.get 1 rfl,_,_,⟨_,rfl,rfl,rfl⟩,.inr ⟨_,rfl,aq⟩⟩
 rintro _ rfl
 try simp only[Act.put,zA,zZ,zS]
 refine OrdF.in_nil rfl (by decide) (by decide) ?_;rintro w5 aN ⟨M5,z5,⟨P5,cd,cR⟩,⟨bC,_⟩ | ⟨n5,bC,aB⟩⟩
 ·cases bC
 cases bC;cases cd;obtain⟨rfl,rfl⟩:=cR;clear af;clear hE aN;have hx:=HX.out;clear HX
 rcases hx with hx | hx | hx | hx | hx | hx | hx | hx | hx | hx
 ·obtain⟨x9,rfl,mj,hQ⟩:=hx;have vK:=zH mj;clear mj;have HQ:=zH hQ;clear hQ;clear bB;have r:=aB.rule 1 rfl;unfold ay at r;go_wp2_with fail;refine (jH _ _ _).mono ?_;rintro e w6 ⟨rfl,aj⟩;replace aB:=aB.over aj;clear r aj;go_wp2_with fail;refine (ju 5 n 5 iW.out (aB.ref 4 rfl)).mono ?_;rintro e w7 ⟨rfl,aj⟩;rw[vK.out];replace aB:=aB.over aj;clear aj;have r:=aB.rule 1 rfl;unfold ay at r;have f10:=aB.thaw 1 rfl 10 (by simp[ay]);have hP:=aB.put 1 rfl (j:=10) (by simp[ay]) (zU x9)
  go_upto_region 5 with fail
  generalize World.setCell _ _ _=w8 at *;replace hP:Env w0 (ae Z [zI 5,zI n,zI (7+l)]::ae q (ay kd key val lv 20 pf pa pr n l x9 an er dn)::LU U R) w8:=hP;clear aB r f10;go_wp2_with fail;refine (fO 21 (hP.sub (.cons _ (List.Sublist.refl _)))).mono ?_;rintro e w9 ⟨rfl,bj⟩;go_wp2_with fail
  (try go_ret)
  exact HQ.out _ bj
 ·obtain⟨x8,rfl,aG,jM,eA,iT,hQ⟩:=hx;have ni:=zH jM;have jU:=zH eA;have gE:=zH iT;have iV:=zH aG;clear jM eA iT aG;have HQ:=zH hQ;clear hQ;clear bB;have r:=aB.rule 1 rfl;unfold ay at r;go_wp2_with fail;have nj:=kT (k:=U.ck) (s:=U.cs) (b:=U.cb) (h:=U.ch) (l:=U.cl) (e:=U.ce) (A:=U.A) (n:=U.ql.length) (c:=U.c) (N:=U.N) (hs:=U.hs) (r:=U.ro) x8 ni.out jU.out gE.out.1 gE.out.2 iW.out 2 4 aB rfl rfl;refine nj.mono ?_;rintro e w6 ⟨rfl,aq⟩;rw[iV.out] at aq ⊢;simp only[Bool.false_eq_true,if_false,zS,zZ] at aq;replace aq:Env w0 (ae Z [zI 5,zI n,zI (7+l)]::ae q (ay kd key val lv 21 pf pa pr n l y an er dn)::LU { U with ro:=wrap64 (U.ro+1) } R) w6:=aq;clear aB r;go_wp2_with fail;refine (ou 1 (aq.sub (.cons _ (List.Sublist.refl _)))).mono ?_;rintro e w9 ⟨rfl,f2,bj⟩;go_wp2_with fail
  (try go_ret)
  exact HQ.out _ f2 bj
 ·obtain⟨x8,rfl,aG,jM,eA,iT,hQ⟩:=hx;have ni:=zH jM;have jU:=zH eA;have gE:=zH iT;have iV:=zH aG;clear jM eA iT aG;have HQ:=zH hQ;clear hQ;clear bB;have r:=aB.rule 1 rfl;unfold ay at r;go_wp2_with fail;have nj:=kT (k:=U.ck) (s:=U.cs) (b:=U.cb) (h:=U.ch) (l:=U.cl) (e:=U.ce) (A:=U.A) (n:=U.ql.length) (c:=U.c) (N:=U.N) (hs:=U.hs) (r:=U.ro) x8 ni.out jU.out gE.out.1 gE.out.2 iW.out 2 4 aB rfl rfl;refine nj.mono ?_;rintro e w6 ⟨rfl,aq⟩;rw[iV.out] at aq ⊢;simp only[Bool.false_eq_true,if_false,zS,zZ] at aq;replace aq:Env w0 (ae Z [zI 5,zI n,zI (7+l)]::ae q (ay kd key val lv 23 pf pa pr n l y an er dn)::LU { U with ro:=wrap64 (U.ro+1) } R) w6:=aq;clear aB r;go_wp2_with fail;refine (ou 1 (aq.sub (.cons _ (List.Sublist.refl _)))).mono ?_;rintro e w9 ⟨rfl,f2,bj⟩;go_wp2_with fail
  (try go_ret)
  exact HQ.out _ f2 bj
 ·obtain⟨l2,x8,rfl,hl,bH,aG,jM,eA,iT,hQ⟩:=hx;have ni:=zH jM;have jU:=zH eA;have gE:=zH iT;have iV:=zH aG;have HL:=zH hl;have pB:=zH bH;clear jM eA iT aG hl bH;have HQ:=zH hQ;clear hQ;clear bB;have r:=aB.rule 1 rfl;unfold ay at r;go_wp2_with fail;have nj:=kT (k:=U.ck) (s:=U.cs) (b:=U.cb) (h:=U.ch) (l:=U.cl) (e:=U.ce) (A:=U.A) (n:=U.ql.length) (c:=U.c) (N:=U.N) (hs:=U.hs) (r:=U.ro) x8 ni.out jU.out gE.out.1 gE.out.2 iW.out 2 4 aB rfl rfl;refine nj.mono ?_;rintro e w6 ⟨rfl,aq⟩;rw[iV.out] at aq ⊢;simp only[if_true,zS,zZ] at aq;replace aq:Env w0 (ae Z [zI 5,zI n,zI (7+l)]::ae q (ay kd key val lv 21 pf pa pr n l y an er dn)::LU U R) w6:=aq;clear aB r;have r:=aq.rule 1 rfl;unfold ay at r;have f9:=aq.thaw 1 rfl 9 (by simp[ay]);have hP:=aq.put 1 rfl (j:=9) (by simp[ay]) (zI 0)
  go_upto_region 10 with fail
  generalize World.setCell _ _ _=w7 at *;replace hP:Env w0 (ae Z [zI 5,zI n,zI (7+l)]::ae q (ay kd key val lv 21 pf pa pr n 0 y an er dn)::LU U R) w7:=hP;clear aq r f9;have bH:U.ch=U.ch:=rfl
  by_cases h1:1<=y
  ·have b1:decide (1<=y)=true:=by simpa using h1
   by_cases h2:y<=U.ch
   ·have eb:l2=y - 1:=by rw[HL.out,if_pos ⟨h1,h2⟩]
    have Ow:IntKind.u64.wrap U.ch=U.ch:=by have:=pB.out;rw[IntKind.wrap_u64];omega
    have b2:decide (y<=U.ch)=true:=by simpa using h2
    have Bu:wrap64 (wrap64 y - 1)=l2:=by have:=pB.out;rw[df y (by omega),df _ (by omega),eb]
    have Tx:wrap64 (IntKind.i64.wrap y - 1)=l2:=by rw[lU];exact Bu
    clear HL eb h1 h2;refine cG (S:=(Env w0 (ae Z [zI 5,zI n,zI (7+l)]::ae q (ay kd key val lv 21 pf pa pr n 0 y an er dn)::LU U R))) (by kernel_rfl) (by kernel_rfl) hP.drew (fun hT=>?_);have af:=zH hT;clear hT
    repeat ((first
     | (refine cH (v:=?_) af.o (by rfl) ?_ ?_;rotate_left;(intro w5 hS;have r:=hS.rule 1 rfl;have ru:=hS.rule 2 rfl;unfold ay at r;unfold bx at ru;go_simp<;>rfl))
     | (refine cI af.o (by rfl) ?_)
     | (refine cJ (v:=?_) (f:=?_) (args:=?_) af.o (by rfl) ?_ ?_ ?_;rotate_left 3;(intro w5 hS;have r:=hS.rule 1 rfl;have ru:=hS.rule 2 rfl;unfold ay at r;unfold bx at ru;go_simp;constructor<;>rfl);(intro w5 hS;(first | fail))));try simp only[Act.put,zA,zZ,zS])
    refine InText.nil fun w5 aK=>?_;clear af;have r:=aK.rule 1 rfl;unfold ay at r;have f9:=aK.thaw 1 rfl 9 (by simp[ay]);have hQ:=aK.put 1 rfl (j:=9) (by simp[ay]) (zI l2)
    go_upto_region 12 with fail
    generalize World.setCell _ _ _=w8 at *;replace hQ:Env w0 (ae Z [zI 5,zI n,zI (7+l)]::ae q (ay kd key val lv 21 pf pa pr n l2 y an er dn)::LU U R) w8:=hQ;clear aK hP r f9;go_wp2_with fail;refine (fO 22 (hQ.sub (.cons _ (List.Sublist.refl _)))).mono ?_;rintro e w9 ⟨rfl,bj⟩;go_wp2_with fail
    (try go_ret)
    exact HQ.out _ bj
   ·have eb:l2=0:=by rw[HL.out,if_neg (fun h=>h2 h.2)]
    have Ow:IntKind.u64.wrap U.ch=U.ch:=by have:=pB.out;rw[IntKind.wrap_u64];omega
    have b2:decide (y<=U.ch)=false:=by simpa using h2
    subst eb;clear HL h1 h2;refine cG (S:=(Env w0 (ae Z [zI 5,zI n,zI (7+l)]::ae q (ay kd key val lv 21 pf pa pr n 0 y an er dn)::LU U R))) (by kernel_rfl) (by kernel_rfl) hP.drew (fun hT=>?_);have af:=zH hT;clear hT
    repeat ((first
     | (refine cH (v:=?_) af.o (by rfl) ?_ ?_;rotate_left;(intro w5 hS;have r:=hS.rule 1 rfl;have ru:=hS.rule 2 rfl;unfold ay at r;unfold bx at ru;go_simp<;>rfl))
     | (refine cI af.o (by rfl) ?_)
     | (refine cJ (v:=?_) (f:=?_) (args:=?_) af.o (by rfl) ?_ ?_ ?_;rotate_left 3;(intro w5 hS;have r:=hS.rule 1 rfl;have ru:=hS.rule 2 rfl;unfold ay at r;unfold bx at ru;go_simp;constructor<;>rfl);(intro w5 hS;(first | fail))));try simp only[Act.put,zA,zZ,zS])
    refine InText.nil fun w5 aK=>?_;clear af;go_wp2_with fail;refine (fO 22 (aK.sub (.cons _ (List.Sublist.refl _)))).mono ?_;rintro e w9 ⟨rfl,bj⟩;go_wp2_with fail
    (try go_ret)
    exact HQ.out _ bj
  ·have eb:l2=0:=by rw[HL.out,if_neg (fun h=>h1 h.1)]
   have b1:decide (1<=y)=false:=by simpa using h1
   subst eb;clear HL h1;refine cG (S:=(Env w0 (ae Z [zI 5,zI n,zI (7+l)]::ae q (ay kd key val lv 21 pf pa pr n 0 y an er dn)::LU U R))) (by kernel_rfl) (by kernel_rfl) hP.drew (fun hT=>?_);have af:=zH hT;clear hT
   repeat ((first
    | (refine cH (v:=?_) af.o (by rfl) ?_ ?_;rotate_left;(intro w5 hS;have r:=hS.rule 1 rfl;have ru:=hS.rule 2 rfl;unfold ay at r;unfold bx at ru;go_simp<;>rfl))
    | (refine cI af.o (by rfl) ?_)
    | (refine cJ (v:=?_) (f:=?_) (args:=?_) af.o (by rfl) ?_ ?_ ?_;rotate_left 3;(intro w5 hS;have r:=hS.rule 1 rfl;have ru:=hS.rule 2 rfl;unfold ay at r;unfold bx at ru;go_simp;constructor<;>rfl);(intro w5 hS;(first | fail))));try simp only[Act.put,zA,zZ,zS])
   refine InText.nil fun w5 aK=>?_;clear af;go_wp2_with fail;refine (fO 22 (aK.sub (.cons _ (List.Sublist.refl _)))).mono ?_;rintro e w9 ⟨rfl,bj⟩;go_wp2_with fail
   (try go_ret)
   exact HQ.out _ bj
 ·obtain⟨x9,rfl,mj,hQ⟩:=hx;have vK:=zH mj;clear mj;have HQ:=zH hQ;clear hQ;clear bB;have r:=aB.rule 1 rfl;unfold ay at r;have rZ:=aB.rule 0 rfl;go_wp2_with fail;refine (ju 5 n (7+l) iW.out (aB.ref 4 rfl)).mono ?_;rintro e w6 ⟨rfl,aj⟩;rw[vK.out];replace aB:=aB.over aj;clear r aj rZ;have r:=aB.rule 1 rfl;unfold ay at r;have f10:=aB.thaw 1 rfl 10 (by simp[ay]);have hP:=aB.put 1 rfl (j:=10) (by simp[ay]) (zU x9)
  go_upto_region 15 with fail
  generalize World.setCell _ _ _=w7 at *;replace hP:Env w0 (ae Z [zI 5,zI n,zI (7+l)]::ae q (ay kd key val lv 22 pf pa pr n l x9 an er dn)::LU U R) w7:=hP;clear aB r f10;go_wp2_with fail;refine (fO 23 (hP.sub (.cons _ (List.Sublist.refl _)))).mono ?_;rintro e w9 ⟨rfl,bj⟩;go_wp2_with fail
  (try go_ret)
  exact HQ.out _ bj
 ·obtain⟨x8,rfl,bA,aG,mw,jM,eA,iT,hQ⟩:=hx;have ni:=zH jM;have jU:=zH eA;have gE:=zH iT;have iV:=zH aG;have fY:=zH fun (v:World)=>pD y v mw;have jZ:=zH bB;have HB:=zH bA;clear jM eA iT aG mw bA;have HQ:=zH hQ;clear hQ;clear bB;have r:=aB.rule 1 rfl;unfold ay at r;go_wp2_with fail;have nj:=kT (k:=U.ck) (s:=U.cs) (b:=U.cb) (h:=U.ch) (l:=U.cl) (e:=U.ce) (A:=U.A) (n:=U.ql.length) (c:=U.c) (N:=U.N) (hs:=U.hs) (r:=U.ro) x8 ni.out jU.out gE.out.1 gE.out.2 iW.out 2 4 aB rfl rfl;refine nj.mono ?_;rintro e w6 ⟨rfl,aq⟩;rw[iV.out] at aq ⊢;simp only[if_true,zS,zZ] at aq;replace aq:Env w0 (ae Z [zI 5,zI n,zI (7+l)]::ae q (ay kd key val lv 23 pf pa pr n l y an er dn)::LU U R) w6:=aq;clear aB r;have r:=aq.rule 1 rfl;unfold ay at r;go_wp2_with fail;refine (fY.out _).mono ?_;rintro e w8 ⟨rfl,lE⟩;have hP:=aq.over lE;clear r lE fY aq;rw[HB.out];go_wp2_with fail;refine (fO 24 (hP.sub (.cons _ (List.Sublist.refl _)))).mono ?_;rintro e w9 ⟨rfl,bj⟩;go_wp2_with fail
  (try go_ret)
  exact HQ.out _ bj
 ·obtain⟨x8,rfl,bA,eI,aG,mw,jM,eA,iT,hQ⟩:=hx;have ni:=zH jM;have jU:=zH eA;have gE:=zH iT;have iV:=zH aG;have fY:=zH fun (v:World)=>pD y v mw;have jZ:=zH bB;have HB:=zH bA;have xV:=zH eI;clear jM eA iT aG mw bA eI;have HQ:=zH hQ;clear hQ;clear bB;have r:=aB.rule 1 rfl;unfold ay at r;go_wp2_with fail;have nj:=kT (k:=U.ck) (s:=U.cs) (b:=U.cb) (h:=U.ch) (l:=U.cl) (e:=U.ce) (A:=U.A) (n:=U.ql.length) (c:=U.c) (N:=U.N) (hs:=U.hs) (r:=U.ro) x8 ni.out jU.out gE.out.1 gE.out.2 iW.out 2 4 aB rfl rfl;refine nj.mono ?_;rintro e w6 ⟨rfl,aq⟩;rw[iV.out] at aq ⊢;simp only[if_true,zS,zZ] at aq;replace aq:Env w0 (ae Z [zI 5,zI n,zI (7+l)]::ae q (ay kd key val lv 23 pf pa pr n l y an er dn)::LU U R) w6:=aq;clear aB r;have r:=aq.rule 1 rfl;unfold ay at r;go_wp2_with fail;refine (fY.out _).mono ?_;rintro e w8 ⟨rfl,lE⟩;have hP:=aq.over lE;clear r lE fY aq;rw[HB.out];have hb:(l==0)=true:=by simpa using xV.out
  have r:=hP.rule 1 rfl;unfold ay at r;go_wp2_with fail;refine (ou 1 (hP.sub (.cons _ (List.Sublist.refl _)))).mono ?_;rintro e w9 ⟨rfl,f2,bj⟩;go_wp2_with fail
  (try go_ret)
  exact HQ.out _ f2 bj
 ·obtain⟨l2,x8,rfl,bA,eI,hle,aG,mw,jM,eA,iT,hQ⟩:=hx;have ni:=zH jM;have jU:=zH eA;have gE:=zH iT;have iV:=zH aG;have fY:=zH fun (v:World)=>pD y v mw;have jZ:=zH bB;have HB:=zH bA;have xV:=zH eI;have dF:=zH hle;clear jM eA iT aG mw bA eI hle;have HQ:=zH hQ;clear hQ;clear bB;have r:=aB.rule 1 rfl;unfold ay at r;go_wp2_with fail;have nj:=kT (k:=U.ck) (s:=U.cs) (b:=U.cb) (h:=U.ch) (l:=U.cl) (e:=U.ce) (A:=U.A) (n:=U.ql.length) (c:=U.c) (N:=U.N) (hs:=U.hs) (r:=U.ro) x8 ni.out jU.out gE.out.1 gE.out.2 iW.out 2 4 aB rfl rfl;refine nj.mono ?_;rintro e w6 ⟨rfl,aq⟩;rw[iV.out] at aq ⊢;simp only[if_true,zS,zZ] at aq;replace aq:Env w0 (ae Z [zI 5,zI n,zI (7+l)]::ae q (ay kd key val lv 23 pf pa pr n l y an er dn)::LU U R) w6:=aq;clear aB r;have r:=aq.rule 1 rfl;unfold ay at r;go_wp2_with fail;refine (fY.out _).mono ?_;rintro e w8 ⟨rfl,lE⟩;have hP:=aq.over lE;clear r lE fY aq;rw[HB.out];have hb:(l==0)=false:=by simpa using xV.out
  have Bu:wrap64 (l - 1)=l2:=by have:=jZ.out;have:=xV.out;rw[df _ (by omega),dF.out]
  have r:=hP.rule 1 rfl;unfold ay at r;have f9:=hP.thaw 1 rfl 9 (by simp[ay]);have hQ:=hP.put 1 rfl (j:=9) (by simp[ay]) (zI l2)
  go_upto_region 24 with fail
  generalize World.setCell _ _ _=w8 at *;replace hQ:Env w0 (ae Z [zI 5,zI n,zI (7+l)]::ae q (ay kd key val lv 23 pf pa pr n l2 y an er dn)::LU U R) w8:=hQ;clear hP r f9;go_wp2_with fail;refine (fO 22 (hQ.sub (.cons _ (List.Sublist.refl _)))).mono ?_;rintro e w9 ⟨rfl,bj⟩;go_wp2_with fail
  (try go_ret)
  exact HQ.out _ bj
 ·obtain⟨p2,l2,rfl,ec,hle,mw,hQ⟩:=hx;have fL:=fun (v:World)=>iG y mw v;obtain⟨s9,bf⟩:∃ s,aA y=s:=⟨_,rfl⟩;simp only[bf] at hQ;simp only[bf] at fL;have bA:=fun (v:World) (hv:ao 0 v U.u (fA U))=>M4 y s9 mw hv;obtain⟨y9,hy⟩:∃ z,ja y s9 U.ce=z:=⟨_,rfl⟩;simp only[hy] at hQ;simp only[hy] at bA;obtain⟨dd,hdd⟩:∃ dd,decide (ak U.ml (5,n,7+l)=y)=dd:=⟨_,rfl⟩;have mg:p2=if dd then (if l=0 then 25 else 22) else 22:=by rw[ec,<- hdd];by_cases h9:ak U.ml (5,n,7+l)=y<;>simp[h9]
  have Fe:l2=if dd then (if l=0 then l else l - 1) else l:=by rw[hle,<- hdd];by_cases h9:ak U.ml (5,n,7+l)=y<;>simp[h9]
  have kA:=zH fL;have fY:=zH bA;have ej:=zH mg;have dF:=zH Fe;have dZ:=zH hdd;have jZ:=zH bB;clear bf hy fL bA mw ec hle hdd mg Fe;have HQ:=zH hQ;clear hQ;clear bB;have r:=aB.rule 1 rfl;unfold ay at r;go_wp2_with fail;refine Ord.wc [17] (fun v=>ao 0 v Z [zI 5,zI n,zI (7+l)]/\ao 0 v U.u (fA U)/\ao 0 v q (ay kd key val lv 24 pf pa pr n l y an er dn)) (fun k9 w'=>∃ F5,Env w0 (ae Z [zI 5,zI n,zI (7+l)]::ae q (ay kd key val lv 24 pf pa pr n l y an er dn)::LU (if k9=0 then U else { U with F:=F5,ml:=dw U.ml (5,n,7+l) y y9 }) R) w') ⟨aB.drew.get 0 rfl,aB.drew.get 2 rfl,aB.drew.get 1 rfl⟩ ⟨U.F,aB.drew⟩ fun af=>?_
  repeat ((first
   | (refine Ord.cv ?_ af.o ?_ ?_;rotate_left;(intro w5 hS;have rz:=hS.1.rule;have ru:=hS.2.1.rule;have rq:=hS.2.2.rule;unfold fA bx at ru;unfold ay at rq;go_simp<;>rfl))
   | (refine Ord.co af.o ?_)
   | (refine Ord.cc ?_ ?_ ?_ af.o ?_ ?_ ?_;rotate_left 3;(intro w5 hS;have rz:=hS.1.rule;have ru:=hS.2.1.rule;have rq:=hS.2.2.rule;unfold fA bx at ru;unfold ay at rq;go_simp;constructor<;>rfl);(intro w5 hS;(first | (with_reducible refine kp (kA.out _) ?_ ?_;rfl;exact fun w6 aj=>⟨⟨hS.1.under aj,hS.2.1.under aj,hS.2.2.under aj⟩,fun k h=>h.elim fun F5 h=>⟨F5,h.over aj⟩⟩) | (with_reducible refine kp (fY.out _ hS.2.1) ?_ ?_;rfl;exact fun w6 aj=>⟨⟨hS.1.under aj,hS.2.1.under aj,hS.2.2.under aj⟩,fun k h=>h.elim fun F5 h=>⟨F5,h.over aj⟩⟩)))));try simp only[Act.put,zA,zZ,zS])
  refine Ord.ch_turn (v:=.bool dd) 0 af.o rfl (by decide) (Or.inl rfl) (by rfl) ?_ ?_
  ·rintro w5 aN ⟨F5,au⟩;simp only[if_true] at au;go_simp;simp only[Ord.LandsIn];have bS:=kz 5 n (7+l) y y9 iW.out (au.ref 4 rfl);rw[dZ.out] at bS;refine bS.mono ?_;rintro e w6 ⟨rfl,F6,hU,bf⟩;have aq:=au.turnU 4 rfl hU bf;exact⟨rfl,⟨aq.get 0 rfl,aq.get 2 rfl,aq.get 1 rfl⟩,F6,aq⟩
  try simp only[Act.put,zA,zZ,zS]
  repeat ((first
   | (refine Ord.cv ?_ af.o ?_ ?_;rotate_left;(intro w5 hS;skip;go_simp<;>rfl))
   | (refine Ord.co af.o ?_));try simp only[Act.put,zA,zZ,zS])
  refine Ord.InText.nil fun w5 hS=>?_;clear af;obtain⟨aL,ai⟩:=Ord.chain_end hS;clear hS;obtain⟨F9,ai⟩:=ai;simp only[List.length_cons,List.length_nil,Nat.zero_add,Nat.one_ne_zero,if_false] at ai;clear aL aB r;cases dd
  ·have eb:p2=22:=ej.out;have hle:l2=l:=dF.out;subst eb;subst hle;go_wp2_with fail;refine (fO 22 (ai.sub (.cons _ (List.Sublist.refl _)))).mono ?_;rintro e w9 ⟨rfl,bj⟩;go_wp2_with fail
   (try go_ret)
   exact HQ.out _ F9 bj
  ·by_cases eI:l=0
   ·have eb:p2=25:=by rw[ej.out,if_pos rfl,if_pos eI]
    have hle:l2=l:=by rw[dF.out,if_pos rfl,if_pos eI]
    have hb:(l==0)=true:=by simpa using eI
    subst eb;subst hle;have r:=ai.rule 1 rfl;unfold ay at r;clear eI;go_wp2_with fail;refine (fO 25 (ai.sub (.cons _ (List.Sublist.refl _)))).mono ?_;rintro e w9 ⟨rfl,bj⟩;go_wp2_with fail
    (try go_ret)
    exact HQ.out _ F9 bj
   ·have eb:p2=22:=by rw[ej.out,if_pos rfl,if_neg eI]
    have hle:l2=l - 1:=by rw[dF.out,if_pos rfl,if_neg eI]
    have hb:(l==0)=false:=by simpa using eI
    have Bu:wrap64 (l - 1)=l2:=by have:=jZ.out;rw[df _ (by omega),hle]
    subst eb;have r:=ai.rule 1 rfl;unfold ay at r;have f9:=ai.thaw 1 rfl 9 (by simp[ay]);have hQ:=ai.put 1 rfl (j:=9) (by simp[ay]) (zI l2);clear eI hle dF ej
    go_upto_region 31 with fail
    generalize World.setCell _ _ _=w8 at *;replace hQ:Env w0 (ae Z [zI 5,zI n,zI (7+l)]::ae q (ay kd key val lv 24 pf pa pr n l2 y an er dn)::LU { U with F:=F9,ml:=dw U.ml (5,n,7+l) y y9 } R) w8:=hQ;clear ai r f9;go_wp2_with fail;refine (fO 22 (hQ.sub (.cons _ (List.Sublist.refl _)))).mono ?_;rintro e w9 ⟨rfl,bj⟩;go_wp2_with fail
    (try go_ret)
    exact HQ.out _ F9 bj
 ·obtain⟨rfl,hQ⟩:=hx;obtain⟨dd,hdd⟩:∃ dd,decide (ak U.ml (5,n,6)=0)=dd:=⟨_,rfl⟩;have dZ:=zH hdd;clear hdd;have HQ:=zH hQ;clear hQ;clear bB;have r:=aB.rule 1 rfl;unfold ay at r;go_wp2_with fail;refine (jH _ _ _).mono ?_;rintro e w6 ⟨rfl,aj⟩;replace aB:=aB.over aj;clear r aj;have bS:=kz 5 n 6 0 2 iW.out (aB.ref 4 rfl);rw[dZ.out] at bS;have iI:=zH bS;clear bS;go_wp2_with fail;refine iI.out.mono ?_;rintro e w7 ⟨rfl,F6,hU,bf⟩;have aq:=aB.turnU 4 rfl hU bf;replace aq:Env w0 (ae Z [zI 5,zI n,zI (7+l)]::ae q (ay kd key val lv 25 pf pa pr n l y an er dn)::LU { U with F:=F6,ml:=dw U.ml (5,n,6) 0 2 } R) w7:=aq;clear aB hU bf iI;cases dd
  ·have bu:ak U.ml (5,n,6)≠0:=of_decide_eq_false dZ.out;have Br:=zH bu;clear bu dZ;go_wp2_with fail;refine (ou 3 (aq.sub (.cons _ (List.Sublist.refl _)))).mono ?_;rintro e w9 ⟨rfl,f2,bj⟩;go_wp2_with fail
   (try go_ret)
   exact HQ.out.2 _ F6 f2 Br.out bj
  ·have heq:ak U.ml (5,n,6)=0:=of_decide_eq_true dZ.out;have Bs:=zH heq;clear heq dZ;have r:=aq.rule 1 rfl;unfold ay at r;have f13:=aq.thaw 1 rfl 13 (by simp[ay]);have hP:=aq.put 1 rfl (j:=13) (by simp[ay]) (.bool true);clear aq;go_wp2_with fail
   (try go_ret)
   exact HQ.out.1 _ F6 Bs.out (hP.sub (.cons _ (List.Sublist.refl _)))
end
section
variable {w0 w:World} {R sub:List Item} {C:Cf} {X:Tm} {V:Wm} {K:Kt} {d:Dd} {q fb:Nat} {FU:Nat->Prop} {ml aR:List bT} {A:Option Addr} {c:Nat} {N:Int} {f:Mem} {s n l y l0:Int} {an:Bool} {pf pa pr:Option Addr} {G:Nat->List Value}
theorem Ox (ax:K.pc=11) (cY:K.an=false) (bB:0<=l/\l<=1000) (aQ:ml.length<=999999) (hN:0<=X.N/\X.N<=4000000) (hE:Env w0 ([ae q (ay d.ok d.key d.val d.lv 20 pf pa pr K.n l y an 0 false)]++LU (aW C X V K FU ml) R) w) :
  Calls prog 27 #[zP q,zP X.u,zP V.m] w fun e w'=>∃ s,e=.returned (zI s)/\bX w0 R C X V d q ml (aJ C d K (ak ml)) s w':=by
 have hle:ml.length<=ml.length+1:=by omega
 have hM:aJ C d K (ak ml)=(0,{ K with y:=ak ml (5,K.n,5),pc:=12 },ak ml):=by
  unfold aJ;(iterate 8 rw[if_neg (by omega)]);rw[if_pos ax]
 rw[hM];refine ur (.inl rfl) _ hE ?_;refine mr (U:=aW C X V K FU ml) _ bB (show ml.length<=1000000 by omega) hE (.inl ⟨_,rfl,rfl,fun w1 az=>?_⟩);exact⟨0,rfl,bX.go (K:={ K with y:=ak ml (5,K.n,5),pc:=12 }) (A:=X.A) (c:=X.rc) (N:=X.N) (sub:=[_]) rfl hle hN (dY.del (K:={ K with y:=ak ml (5,K.n,5),pc:=12 }) 21 _ pa pr _ _ _ (.inr (.inl ⟨rfl,rfl,rfl⟩)) cY (by first | omega | (dsimp only;omega))) az⟩
theorem Oy (ax:K.pc=12) (cY:K.an=false) (bH:1<=C.h/\C.h<=16) (hu:∀ x,aD (ak ml x)) (he:0<=K.T.e/\K.T.e<=9223372036854775807) (bB:0<=l/\l<=1000) (aQ:ml.length<=999999) (hN:0<=X.N/\X.N<=4000000) (hE:Env w0 ([ae q (ay d.ok d.key d.val d.lv 21 pf pa pr K.n l K.y an 0 false)]++LU (aW C X V K FU ml) R) w) :
  Calls prog 27 #[zP q,zP X.u,zP V.m] w fun e w'=>∃ s,e=.returned (zI s)/\bX w0 R C X V d q ml (aJ C d K (ak ml)) s w':=by
 have hle:ml.length<=ml.length+1:=by omega
 refine ur (.inr (.inl rfl)) _ hE ?_;cases aG:okB (ak ml (1,0,0)) K.T.e
 ·have hM:aJ C d K (ak ml)=(0,eu 0 { K with r:=wrap64 (K.r+1) },ak ml):=by
   unfold aJ;(iterate 9 rw[if_neg (by omega)]);rw[if_pos ax,if_neg (by rw[aG];decide)]
  rw[hM];refine mr (U:=aW C X V K FU ml) _ bB (show ml.length<=1000000 by omega) hE (.inr (.inl ⟨_,rfl,aG,rfl,hu _,he,fun w1 f2 az=>?_⟩));exact⟨0,rfl,bX.seek (K:={ K with r:=wrap64 (K.r+1) }) (A:=X.A) (c:=X.rc) (N:=X.N) 0 (by decide) 1 rfl (fun _=>cY) (fun h=>absurd rfl h) (fun h=>absurd h (by decide)) bB rfl hle hN az⟩
 ·have hM:aJ C d K (ak ml)=(0,{ K with lv:=if 1<=K.y/\K.y<=C.h then (K.y - 1).toNat else 0,pc:=13 },ak ml):=by
   unfold aJ;(iterate 9 rw[if_neg (by omega)]);rw[if_pos ax,if_pos aG]
  rw[hM];have o5:((if 1<=K.y/\K.y<=C.h then (K.y - 1).toNat else 0:Nat):Int)=if 1<=K.y/\K.y<=C.h then K.y - 1 else 0:=by
   by_cases h:1<=K.y/\K.y<=C.h
   ·rw[if_pos h,if_pos h];omega
   ·rw[if_neg h,if_neg h];rfl
  have hb:((if 1<=K.y/\K.y<=C.h then (K.y - 1).toNat else 0:Nat):Int)<=1000:=by
   rw[o5]
   by_cases h:1<=K.y/\K.y<=C.h
   ·rw[if_pos h];omega
   ·rw[if_neg h];omega
  refine mr (U:=aW C X V K FU ml) _ bB (show ml.length<=1000000 by omega) hE (.inr (.inr (.inr (.inl ⟨((if 1<=K.y/\K.y<=C.h then (K.y - 1).toNat else 0:Nat):Int),_,rfl,o5,(show 1<=C.h/\C.h<=1000 by omega),aG,rfl,hu _,he,fun w1 az=>?_⟩))));generalize (if 1<=K.y/\K.y<=C.h then (K.y - 1).toNat else 0:Nat)=z at *;exact⟨0,rfl,bX.go (K:={ K with lv:=z,pc:=13 }) (A:=X.A) (c:=X.rc) (N:=X.N) (sub:=[_]) rfl hle hN (dY.del (K:={ K with lv:=z,pc:=13 }) 22 _ pa pr _ _ _ (.inr (.inr (.inl ⟨rfl,rfl,rfl⟩))) cY (by first | omega | (dsimp only;omega))) az⟩
theorem Oz (ax:K.pc=13) (cY:K.an=false) (aH:K.lv<=1000) (aQ:ml.length<=999999) (hN:0<=X.N/\X.N<=4000000) (hE:Env w0 ([ae q (ay d.ok d.key d.val d.lv 22 pf pa pr K.n (K.lv:Int) y an 0 false)]++LU (aW C X V K FU ml) R) w) :
  Calls prog 27 #[zP q,zP X.u,zP V.m] w fun e w'=>∃ s,e=.returned (zI s)/\bX w0 R C X V d q ml (aJ C d K (ak ml)) s w':=by
 have hle:ml.length<=ml.length+1:=by omega
 have hM:aJ C d K (ak ml)=(0,{ K with y:=ak ml (bW K),pc:=14 },ak ml):=by
  unfold aJ;(iterate 10 rw[if_neg (by omega)]);rw[if_pos ax]
 rw[hM];refine ur (.inr (.inr (.inl rfl))) _ hE ?_;refine mr (U:=aW C X V K FU ml) _ (by omega) (show ml.length<=1000000 by omega) hE (.inr (.inr (.inr (.inr (.inl ⟨_,rfl,rfl,fun w1 az=>?_⟩)))));exact⟨0,rfl,bX.go (K:={ K with y:=ak ml (bW K),pc:=14 }) (A:=X.A) (c:=X.rc) (N:=X.N) (sub:=[_]) rfl hle hN (dY.del (K:={ K with y:=ak ml (bW K),pc:=14 }) 23 _ pa pr _ _ _ (.inr (.inr (.inr (.inl ⟨rfl,rfl,rfl,rfl⟩)))) cY (by first | omega | (dsimp only;omega))) az⟩
theorem OA (ax:K.pc=14) (cY:K.an=false) (hy:aD K.y) (aH:K.lv<=1000) (hu:∀ x,aD (ak ml x)) (he:0<=K.T.e/\K.T.e<=9223372036854775807) (aQ:ml.length<=999999) (hN:0<=X.N/\X.N<=4000000) (hE:Env w0 ([ae q (ay d.ok d.key d.val d.lv 23 pf pa pr K.n (K.lv:Int) K.y an 0 false)]++LU (aW C X V K FU ml) R) w) :
  Calls prog 27 #[zP q,zP X.u,zP V.m] w fun e w'=>∃ s,e=.returned (zI s)/\bX w0 R C X V d q ml (aJ C d K (ak ml)) s w':=by
 have hle:ml.length<=ml.length+1:=by omega
 have bB:0<=(K.lv:Int)/\(K.lv:Int)<=1000:=by omega
 refine ur (.inr (.inr (.inr (.inl rfl)))) _ hE ?_;cases aG:okB (ak ml (1,0,0)) K.T.e
 ·have hM:aJ C d K (ak ml)=(0,eu 0 { K with r:=wrap64 (K.r+1) },ak ml):=by
   unfold aJ;(iterate 11 rw[if_neg (by omega)]);rw[if_pos ax,if_neg (by rw[aG];decide)]
  rw[hM];refine mr (U:=aW C X V K FU ml) _ bB (show ml.length<=1000000 by omega) hE (.inr (.inr (.inl ⟨_,rfl,aG,rfl,hu _,he,fun w1 f2 az=>?_⟩)));exact⟨0,rfl,bX.seek (K:={ K with r:=wrap64 (K.r+1) }) (A:=X.A) (c:=X.rc) (N:=X.N) 0 (by decide) 1 rfl (fun _=>cY) (fun h=>absurd rfl h) (fun h=>absurd h (by decide)) bB rfl hle hN az⟩
 cases bA:cO K.y
 ·have hM:aJ C d K (ak ml)=(0,{ K with pc:=15 },ak ml):=by
   unfold aJ;(iterate 11 rw[if_neg (by omega)]);rw[if_pos ax,if_pos aG,if_neg (by rw[bA];decide)]
  rw[hM];refine mr (U:=aW C X V K FU ml) _ bB (show ml.length<=1000000 by omega) hE (.inr (.inr (.inr (.inr (.inr (.inl ⟨_,rfl,bA,aG,hy,rfl,hu _,he,fun w1 az=>?_⟩))))));exact⟨0,rfl,bX.go (K:={ K with pc:=15 }) (A:=X.A) (c:=X.rc) (N:=X.N) (sub:=[_]) rfl hle hN (dY.del (K:={ K with pc:=15 }) 24 _ pa pr _ _ _ (.inr (.inr (.inr (.inr (.inl ⟨rfl,rfl,rfl,rfl⟩))))) cY (by first | omega | (dsimp only;omega))) az⟩
 by_cases hz:K.lv=0
 ·have hM:aJ C d K (ak ml)=(0,eu 0 K,ak ml):=by
   unfold aJ;(iterate 11 rw[if_neg (by omega)]);rw[if_pos ax,if_pos aG,if_pos bA,if_pos hz]
  rw[hM];refine mr (U:=aW C X V K FU ml) _ bB (show ml.length<=1000000 by omega) hE (.inr (.inr (.inr (.inr (.inr (.inr (.inl ⟨_,rfl,bA,by omega,aG,hy,rfl,hu _,he,fun w1 f2 az=>?_⟩)))))));exact⟨0,rfl,bX.seek (A:=X.A) (c:=X.rc) (N:=X.N) 0 (by decide) 1 rfl (fun _=>cY) (fun h=>absurd rfl h) (fun h=>absurd h (by decide)) bB rfl hle hN az⟩
 ·have hM:aJ C d K (ak ml)=(0,{ K with lv:=K.lv - 1,pc:=13 },ak ml):=by
   unfold aJ;(iterate 11 rw[if_neg (by omega)]);rw[if_pos ax,if_pos aG,if_pos bA,if_neg hz]
  rw[hM];refine mr (U:=aW C X V K FU ml) _ bB (show ml.length<=1000000 by omega) hE (.inr (.inr (.inr (.inr (.inr (.inr (.inr (.inl ⟨((K.lv - 1:Nat):Int),_,rfl,bA,by omega,by omega,aG,hy,rfl,hu _,he,fun w1 az=>?_⟩))))))));exact⟨0,rfl,bX.go (K:={ K with lv:=K.lv - 1,pc:=13 }) (A:=X.A) (c:=X.rc) (N:=X.N) (sub:=[_]) rfl hle hN (dY.del (K:={ K with lv:=K.lv - 1,pc:=13 }) 22 _ pa pr _ _ _ (.inr (.inr (.inl ⟨rfl,rfl,rfl⟩))) cY (by first | omega | (dsimp only;omega))) az⟩
theorem OB (ax:K.pc=15) (cY:K.an=false) (hy:aD K.y) (bA:cO K.y=false) (aH:K.lv<=1000) (aQ:ml.length<=999999) (hN:0<=X.N/\X.N<=4000000) (hE:Env w0 ([ae q (ay d.ok d.key d.val d.lv 24 pf pa pr K.n (K.lv:Int) K.y an 0 false)]++LU (aW C X V K FU ml) R) w) :
  Calls prog 27 #[zP q,zP X.u,zP V.m] w fun e w'=>∃ s,e=.returned (zI s)/\bX w0 R C X V d q ml (aJ C d K (ak ml)) s w':=by
 have bB:0<=(K.lv:Int)/\(K.lv:Int)<=1000:=by omega
 have tW:ja K.y (aA K.y) K.T.e=aP true (aA K.y) K.T.e:=by simp[ja,bA]
 refine ur (.inr (.inr (.inr (.inr (.inl rfl))))) _ hE ?_
 by_cases heq:ak ml (bW K)=K.y
 ·have sE:ak (aW C X V K FU ml).ml (5,K.n,7+(K.lv:Int))=K.y:=heq
  by_cases hz:K.lv=0
  ·have hM:aJ C d K (ak ml)=(0,{ K with pc:=16 },swf (ak ml) (bW K) K.y (aP true (aA K.y) K.T.e)):=by
    unfold aJ;(iterate 12 rw[if_neg (by omega)]);rw[if_pos ax,if_pos heq,if_pos hz]
   rw[hM];refine mr (U:=aW C X V K FU ml) _ bB (show ml.length<=1000000 by omega) hE (.inr (.inr (.inr (.inr (.inr (.inr (.inr (.inr (.inl ⟨25,(K.lv:Int),rfl,by rw[if_pos sE,if_pos (by omega)],by rw[if_pos sE,if_pos (by omega)],hy,fun w1 F5 az=>?_⟩)))))))));rw[show ja K.y (aA K.y) (aW C X V K FU ml).ce=aP true (aA K.y) K.T.e from tW] at az;exact⟨0,rfl,bX.go (K:={ K with pc:=16 }) (A:=X.A) (c:=X.rc) (N:=X.N) (sub:=[_]) (lO ml _ _ _) (jf _ _ _ _)  hN (dY.del (K:={ K with pc:=16 }) 25 _ pa pr _ _ _ (.inr (.inr (.inr (.inr (.inr ⟨rfl,rfl⟩))))) cY (by first | omega | (dsimp only;omega))) az⟩
  ·have hM:aJ C d K (ak ml)=(0,{ K with lv:=K.lv - 1,pc:=13 },swf (ak ml) (bW K) K.y (aP true (aA K.y) K.T.e)):=by
    unfold aJ;(iterate 12 rw[if_neg (by omega)]);rw[if_pos ax,if_pos heq,if_neg hz]
   rw[hM];refine mr (U:=aW C X V K FU ml) _ bB (show ml.length<=1000000 by omega) hE (.inr (.inr (.inr (.inr (.inr (.inr (.inr (.inr (.inl ⟨22,((K.lv - 1:Nat):Int),rfl,by rw[if_pos sE,if_neg (by omega)],by rw[if_pos sE,if_neg (by omega)];omega,hy,fun w1 F5 az=>?_⟩)))))))));rw[show ja K.y (aA K.y) (aW C X V K FU ml).ce=aP true (aA K.y) K.T.e from tW] at az;exact⟨0,rfl,bX.go (K:={ K with lv:=K.lv - 1,pc:=13 }) (A:=X.A) (c:=X.rc) (N:=X.N) (sub:=[_]) (lO ml _ _ _) (jf _ _ _ _)  hN (dY.del (K:={ K with lv:=K.lv - 1,pc:=13 }) 22 _ pa pr _ _ _ (.inr (.inr (.inl ⟨rfl,rfl,rfl⟩))) cY (by first | omega | (dsimp only;omega))) az⟩
 ·have sE:¬ ak (aW C X V K FU ml).ml (5,K.n,7+(K.lv:Int))=K.y:=heq;have hM:aJ C d K (ak ml)=(0,{ K with pc:=13 },swf (ak ml) (bW K) K.y (aP true (aA K.y) K.T.e)):=by
   unfold aJ;(iterate 12 rw[if_neg (by omega)]);rw[if_pos ax,if_neg heq]
  rw[hM];refine mr (U:=aW C X V K FU ml) _ bB (show ml.length<=1000000 by omega) hE (.inr (.inr (.inr (.inr (.inr (.inr (.inr (.inr (.inl ⟨22,(K.lv:Int),rfl,by rw[if_neg sE],by rw[if_neg sE],hy,fun w1 F5 az=>?_⟩)))))))));rw[show ja K.y (aA K.y) (aW C X V K FU ml).ce=aP true (aA K.y) K.T.e from tW] at az;exact⟨0,rfl,bX.go (K:={ K with pc:=13 }) (A:=X.A) (c:=X.rc) (N:=X.N) (sub:=[_]) (lO ml _ _ _) (jf _ _ _ _)  hN (dY.del (K:={ K with pc:=13 }) 22 _ pa pr _ _ _ (.inr (.inr (.inl ⟨rfl,rfl,rfl⟩))) cY (by first | omega | (dsimp only;omega))) az⟩
theorem OC (ax:K.pc=16) (he:K.err=0) (bB:0<=l/\l<=1000) (aQ:ml.length<=999999) (hN:0<=X.N/\X.N<=4000000) (hE:Env w0 ([ae q (ay d.ok d.key d.val d.lv 25 pf pa pr K.n l y an 0 false)]++LU (aW C X V K FU ml) R) w) :
  Calls prog 27 #[zP q,zP X.u,zP V.m] w fun e w'=>∃ s,e=.returned (zI s)/\bX w0 R C X V d q ml (aJ C d K (ak ml)) s w':=by
 refine ur (.inr (.inr (.inr (.inr (.inr rfl))))) _ hE ?_;refine mr (U:=aW C X V K FU ml) _ bB (show ml.length<=1000000 by omega) hE (.inr (.inr (.inr (.inr (.inr (.inr (.inr (.inr (.inr (⟨rfl,fun w1 F5 heq az=>?_,fun w1 F5 f2 bu az=>?_⟩))))))))))
 ·have hM:aJ C d K (ak ml)=(1,{ K with dn:=true },swf (ak ml) (5,K.n,6) 0 2):=by
   unfold aJ;(iterate 13 rw[if_neg (by omega)]);rw[if_pos ax,if_pos (show ak ml (5,K.n,6)=0 from heq)]
  rw[hM];exact⟨1,rfl,bX.fin (K:={ K with dn:=true }) (A:=X.A) (c:=X.rc) (N:=X.N) (lO ml _ _ _) (jf _ _ _ _) hN (show (1:Int)≠0 by decide) (by rw[he];exact az)⟩
 ·have hM:aJ C d K (ak ml)=(0,eu 2 K,swf (ak ml) (5,K.n,6) 0 2):=by
   unfold aJ;(iterate 13 rw[if_neg (by omega)]);rw[if_pos ax,if_neg (show ¬ ak ml (5,K.n,6)=0 from bu)]
  rw[hM];exact⟨0,rfl,bX.seek (A:=X.A) (c:=X.rc) (N:=X.N) 2 (by decide) 3 rfl (fun h=>absurd h (by decide)) (fun _=>rfl) (fun h=>absurd h (by decide)) bB (lO ml _ _ _) (jf _ _ _ _) hN az⟩
end
section
variable {w0 w:World} {R:List Item} {q fb h:Nat} {U:SU} {kd key val lv n l y er l0 pc:Int} {pa pr:Option Addr} {an dn:Bool} {V:Nat->List Value} {F:Nat->Lm}
theorem OD {w:World} (hf:gu w fb h key F) (h0:0 < h) :
  w.cell? ⟨fb,2,none⟩=some (zI (F 0).p.1)/\w.cell? ⟨fb,3,none⟩=some (zI (F 0).p.2.1)/\w.cell? ⟨fb,4,none⟩=some (zI (F 0).p.2.2)/\w.cell? ⟨fb,5,none⟩=some (zI 0)/\w.cell? ⟨fb,6,none⟩=some (zU key)/\w.cell? ⟨fb,7,none⟩=some (.bool false)/\w.cell? ⟨fb,8,none⟩=some (zI (F 0).pc)/\w.cell? ⟨fb,9,none⟩=some (zU (F 0).W)/\w.cell? ⟨fb,10,none⟩=some (zU (F 0).X)/\w.cell? ⟨fb,11,none⟩=some (zU (F 0).K)/\w.cell? ⟨fb,12,none⟩=some (zU (F 0).V)/\w.cell? ⟨fb,13,none⟩=some (zI (F 0).C)/\w.cell? ⟨fb,14,none⟩=some (.bool (F 0).fd) :=
 have g:=fun j hj=>hf.at_ 0 h0 j hj
 ⟨g 0 (by omega),g 1 (by omega),g 2 (by omega),g 3 (by omega),g 4 (by omega),g 5 (by omega),g 6 (by omega),g 7 (by omega),g 8 (by omega),g 9 (by omega),g 10 (by omega),g 11 (by omega),g 12 (by omega)⟩
theorem nk (Q:Ending->World->Prop) (h0:0 < h) (dx:Hid (∀ v,ao 0 v fb (aY key l0 V)->gu v fb h key F)) (hE:Env w0 (ae q (ay kd key val lv pc (some ⟨fb,0,none⟩) pa pr n l y an er dn)::ae fb (aY key l0 V)::LU U R) w)
  (hx:(∃ p2:Int,pc=2/\(p2=if (F 0).C≠n then 15 else 13)/\(∀ w',Env w0 (ae q (ay kd key val lv p2 (some ⟨fb,0,none⟩) pa pr n l y true er dn)::ae fb (aY key l0 V)::LU U R) w'->Q (.returned (zI 0)) w')) \/
    (pc=3/\(∀ w' c,Env w0 (ae q (ay kd key val lv 30 (some ⟨fb,0,none⟩) pa (some ⟨c,0,none⟩) n l y an er dn)::ae c (eH n 0 0)::ae fb (aY key l0 V)::LU U R) w'->Q (.returned (zI 0)) w')) \/
    (kd=3/\pc=1/\(∀ w',Env w0 (ae q (ay 3 key val lv 1 (some ⟨fb,0,none⟩) pa pr n l y an er (F 0).fd)::ae fb (aY key l0 V)::LU U R) w'->Q (.returned (zI 1)) w')) \/
    (kd=2/\pc=1/\((F 0).fd=false)/\(∀ w',Env w0 (ae q (ay 2 key val lv 1 (some ⟨fb,0,none⟩) pa pr n l y an er false)::ae fb (aY key l0 V)::LU U R) w'->Q (.returned (zI 1)) w')) \/
    (kd=2/\pc=1/\((F 0).fd=true)/\(∀ w',Env w0 (ae q (ay 2 key val lv 20 (some ⟨fb,0,none⟩) pa pr (F 0).C l y an er dn)::ae fb (aY key l0 V)::LU U R) w'->Q (.returned (zI 0)) w')) \/
    (kd=1/\pc=1/\(0<=U.hs)/\(U.ql.length<=1000000)/\(0<=U.N/\U.N<=1099511627776)/\((F 0).fd=true)/\(∀ w' A' c' N',(N'=U.N\/N'=gN (gO U.N) (U.ql.length+1))->Env w0 (ae q (ay 1 key val lv 1 (some ⟨fb,0,none⟩) pa pr n l y an er dn)::ae fb (aY key l0 V)::LU { U with A:=A',c:=c',N:=N',ql:=j1 U.hs U.ql,hs:=0 } R) w'->Q (.returned (zI 1)) w')) \/
    (kd=1/\pc=1/\(0 < U.hs)/\(1<=lv/\lv<=(h:Int))/\(lK F lv.toNat=true)/\((F 0).fd=false)/\(∀ w' f2,Env w0 (ae q (ay 1 key val lv 1 (some ⟨f2,0,none⟩) pa pr n l y an er dn)::ae f2 (aY key (-1) V0)::LU U R) w'->Q (.returned (zI 0)) w')) \/
    (kd=1/\pc=1/\(0 < U.hs)/\(1<=lv/\lv<=(h:Int))/\(lK F lv.toNat=false)/\((F 0).fd=false)/\(∀ w',Env w0 (ae q (ay 1 key val lv 10 (some ⟨fb,0,none⟩) pa pr U.hs 0 y false er dn)::ae fb (aY key l0 V)::LU U R) w'->Q (.returned (zI 0)) w')) \/
    (kd=1/\pc=1/\(U.hs<=0)/\(bk U.ql U.ce U.cl=0)/\((F 0).fd=false)/\(∀ w' a,Env w0 (ae q (ay 1 key val lv 4 (some ⟨fb,0,none⟩) (some ⟨a,0,none⟩) pr n l y an 7 dn)::ae fb (aY key l0 V)::LU U R) w'->Q (.returned (zI 1)) w')) \/
    (kd=1/\pc=1/\(U.hs<=0)/\(bk U.ql U.ce U.cl≠0)/\((F 0).fd=false)/\(∀ w' a,Env w0 (ae q (ay 1 key val lv 4 (some ⟨fb,0,none⟩) (some ⟨a,0,none⟩) pr n l y an er dn)::ae a (aM ((bk U.ql U.ce U.cl:Nat):Int) 0 0 0)::ae fb (aY key l0 V)::LU U R) w'->Q (.returned (zI 0)) w'))) :
  Calls prog 65 #[zP q,zP U.u] w Q:=by
 have HX:=zH hx;clear hx;have r:=hE.rule 0 rfl;unfold ay at r;obtain⟨a0,a1,a2,a3,a4,a5,a6,a7,a8,a9,pF,pG,a12⟩:=OD (dx.out _ (hE.get 1 rfl)) h0;clear h0;go_enter func65,ntmps65
 go_upto_region 2 with fail
 have ag:=hE.box w.heap.size rfl [zI (F 0).p.1,zI (F 0).p.2.1,zI (F 0).p.2.2,zI 0,zU key,.bool false,zI (F 0).pc,zU (F 0).W,zU (F 0).X,zU (F 0).K,zU (F 0).V,zI (F 0).C,.bool (F 0).fd] 172;generalize w.alloc _=w1 at *;generalize w.heap.size=Z at *;clear hE r a0 a1 a2 a3 a4 a5 a6 a7 a8 a9 pF pG a12;have hx:=HX.out;clear HX
 rcases hx with hx | hx | hx | hx | hx | hx | hx | hx | hx | hx
 ·obtain⟨p2,rfl,ec,hQ⟩:=hx;have HQ:=zH hQ;clear hQ;have r:=ag.rule 1 rfl;unfold ay at r;have f11:=ag.thaw 1 rfl 11 (by simp[ay]);have hP:=ag.put 1 rfl (j:=11) (by simp[ay]) (.bool true)
  go_upto_region 4 with fail
  generalize World.setCell _ _ _=w2 at *;replace hP:Env w0 (ae Z [zI (F 0).p.1,zI (F 0).p.2.1,zI (F 0).p.2.2,zI 0,zU key,.bool false,zI (F 0).pc,zU (F 0).W,zU (F 0).X,zU (F 0).K,zU (F 0).V,zI (F 0).C,.bool (F 0).fd]::ae q (ay kd key val lv 2 (some ⟨fb,0,none⟩) pa pr n l y true er dn)::ae fb (aY key l0 V)::LU U R) w2:=hP;clear ag r f11;obtain⟨C0,Ff⟩:∃ c,(F 0).C=c:=⟨_,rfl⟩;rw[Ff] at ec hP;have ej:=zH ec;clear ec Ff
  by_cases bu:C0=n
  ·have eb:p2=13:=by rw[ej.out,if_neg (fun h=>h bu)]
   subst eb;subst bu;clear ej;refine cG (S:=(Env w0 (ae Z [zI (F 0).p.1,zI (F 0).p.2.1,zI (F 0).p.2.2,zI 0,zU key,.bool false,zI (F 0).pc,zU (F 0).W,zU (F 0).X,zU (F 0).K,zU (F 0).V,zI C0,.bool (F 0).fd]::ae q (ay kd key val lv 2 (some ⟨fb,0,none⟩) pa pr C0 l y true er dn)::ae fb (aY key l0 V)::LU U R))) (by kernel_rfl) (by kernel_rfl) hP.drew (fun hT=>?_);have af:=zH hT;clear hT
   repeat ((first
    | (refine cH (v:=?_) af.o (by rfl) ?_ ?_;rotate_left;(intro w5 hS;have r0:=hS.rule 0 rfl;have r:=hS.rule 1 rfl;unfold ay at r;go_simp<;>rfl))
    | (refine cI af.o (by rfl) ?_)
    | (refine cJ (v:=?_) (f:=?_) (args:=?_) af.o (by rfl) ?_ ?_ ?_;rotate_left 3;(intro w5 hS;have r0:=hS.rule 0 rfl;have r:=hS.rule 1 rfl;unfold ay at r;go_simp;constructor<;>rfl);(intro w5 hS;(first | fail))));try simp only[Act.put,zA,zZ,zS])
   refine InText.nil fun w5 aK=>?_;clear af;go_wp2_with fail;refine (fO 13 (aK.sub (.cons _ (List.Sublist.refl _)))).mono ?_;rintro e w9 ⟨rfl,bj⟩;go_wp2_with fail
   (try go_ret)
   exact HQ.out _ (bj)
  ·have eb:p2=15:=by rw[ej.out,if_pos bu]
   subst eb;have hb:(C0==n)=false:=by simpa using bu
   have eg:(C0 != n)=true:=by simpa using bu
   clear ej bu;refine cG (S:=(Env w0 (ae Z [zI (F 0).p.1,zI (F 0).p.2.1,zI (F 0).p.2.2,zI 0,zU key,.bool false,zI (F 0).pc,zU (F 0).W,zU (F 0).X,zU (F 0).K,zU (F 0).V,zI C0,.bool (F 0).fd]::ae q (ay kd key val lv 2 (some ⟨fb,0,none⟩) pa pr n l y true er dn)::ae fb (aY key l0 V)::LU U R))) (by kernel_rfl) (by kernel_rfl) hP.drew (fun hT=>?_);have af:=zH hT;clear hT
   repeat ((first
    | (refine cH (v:=?_) af.o (by rfl) ?_ ?_;rotate_left;(intro w5 hS;have r0:=hS.rule 0 rfl;have r:=hS.rule 1 rfl;unfold ay at r;go_simp<;>rfl))
    | (refine cI af.o (by rfl) ?_)
    | (refine cJ (v:=?_) (f:=?_) (args:=?_) af.o (by rfl) ?_ ?_ ?_;rotate_left 3;(intro w5 hS;have r0:=hS.rule 0 rfl;have r:=hS.rule 1 rfl;unfold ay at r;go_simp;constructor<;>rfl);(intro w5 hS;(first | fail))));try simp only[Act.put,zA,zZ,zS])
   refine InText.nil fun w5 aK=>?_;clear af;go_wp2_with fail;refine (fO 15 (aK.sub (.cons _ (List.Sublist.refl _)))).mono ?_;rintro e w9 ⟨rfl,bj⟩;go_wp2_with fail
   (try go_ret)
   exact HQ.out _ (bj)
 ·obtain⟨rfl,hQ⟩:=hx;have HQ:=zH hQ;clear hQ;have r:=ag.rule 1 rfl;have r0:=ag.rule 0 rfl;unfold ay at r
  go_upto_region 8 with fail
  clear r r0;have az:=ag.box w1.heap.size rfl (eH n 0 0) 177;have r:=az.rule 2 rfl;unfold ay at r;have f7:=az.thaw 2 rfl 7 (by simp[ay]);have hP:=az.put 2 rfl (j:=7) (by simp[ay]) (zP w1.heap.size);have r1:=ag.rule 1 rfl;unfold ay at r1;unfold eH at r f7
  go_upto_region 9 with fail
  unfold eH at hP;generalize World.setCell _ _ _=w2 at *;generalize w1.heap.size=c at *;replace hP:Env w0 (ae c (eH n 0 0)::ae Z [zI (F 0).p.1,zI (F 0).p.2.1,zI (F 0).p.2.2,zI 0,zU key,.bool false,zI (F 0).pc,zU (F 0).W,zU (F 0).X,zU (F 0).K,zU (F 0).V,zI (F 0).C,.bool (F 0).fd]::ae q (ay kd key val lv 3 (some ⟨fb,0,none⟩) pa (some ⟨c,0,none⟩) n l y an er dn)::ae fb (aY key l0 V)::LU U R) w2:=hP;clear ag az r f7 r1;go_wp2_with fail;have hQ:=(hP.sub (L':=ae c (eH n 0 0)::ae q (ay kd key val lv 3 (some ⟨fb,0,none⟩) pa (some ⟨c,0,none⟩) n l y an er dn)::ae fb (aY key l0 V)::LU U R) (.cons_cons _ (.cons _ (List.Sublist.refl _)))).perm (List.Perm.swap _ _ _);refine (fO 30 hQ).mono ?_;rintro e w9 ⟨rfl,bj⟩;go_wp2_with fail
  (try go_ret)
  exact HQ.out _ c (bj)
 ·obtain⟨rfl,rfl,hQ⟩:=hx;have HQ:=zH hQ;clear hQ;have r:=ag.rule 1 rfl;have r0:=ag.rule 0 rfl;unfold ay at r;have f13:=ag.thaw 1 rfl 13 (by simp[ay]);have hP:=ag.put 1 rfl (j:=13) (by simp[ay]) (.bool (F 0).fd);clear ag;go_wp2_with fail
  (try go_ret)
  exact HQ.out _ (hP.sub (.cons _ (List.Sublist.refl _)))
 ·obtain⟨rfl,rfl,bw,hQ⟩:=hx;have ka:=zH bw;have HQ:=zH hQ;clear hQ bw;rw[ka.out] at ag;have r:=ag.rule 1 rfl;have r0:=ag.rule 0 rfl;unfold ay at r;have f13:=ag.thaw 1 rfl 13 (by simp[ay]);have hP:=ag.put 1 rfl (j:=13) (by simp[ay]) (.bool false);clear ag;go_wp2_with fail
  (try go_ret)
  exact HQ.out _ (hP.sub (.cons _ (List.Sublist.refl _)))
 ·obtain⟨rfl,rfl,bw,hQ⟩:=hx;have ka:=zH bw;have HQ:=zH hQ;clear hQ bw;rw[ka.out] at ag;have r:=ag.rule 1 rfl;have r0:=ag.rule 0 rfl;unfold ay at r;have f8:=ag.thaw 1 rfl 8 (by simp[ay]);have hP:=ag.put 1 rfl (j:=8) (by simp[ay]) (zI (F 0).C);clear ag
  go_upto_region 15 with fail
  generalize World.setCell _ _ _=w2 at *;replace hP:Env w0 (ae Z [zI (F 0).p.1,zI (F 0).p.2.1,zI (F 0).p.2.2,zI 0,zU key,.bool false,zI (F 0).pc,zU (F 0).W,zU (F 0).X,zU (F 0).K,zU (F 0).V,zI (F 0).C,.bool true]::ae q (ay 2 key val lv 1 (some ⟨fb,0,none⟩) pa pr (F 0).C l y an er dn)::ae fb (aY key l0 V)::LU U R) w2:=hP;clear r r0 f8;go_wp2_with fail;refine (fO 20 (hP.sub (.cons _ (List.Sublist.refl _)))).mono ?_;rintro e w9 ⟨rfl,bj⟩;go_wp2_with fail
  (try go_ret)
  exact HQ.out _ (bj)
 ·obtain⟨rfl,rfl,fV,hl,hN,bw,hQ⟩:=hx;have HH:=zH fV;have HL:=zH hl;have HN:=zH hN;have ka:=zH bw;have HQ:=zH hQ;clear hQ bw fV hl hN;rw[ka.out] at ag;have r:=ag.rule 1 rfl;have r0:=ag.rule 0 rfl;unfold ay at r
  go_upto_region 17 with fail
  clear r r0
  by_cases hh:U.hs<=0
  ·have hz:U.hs=0:=by have:=HH.out;omega
   have HZ:=zH hz;have HD:=zH (Kb hh (ag.get 3 rfl));clear hh hz;go_wp2_with fail;refine HD.out.mono ?_;rintro e w2 ⟨rfl,rfl⟩;go_wp2_with fail
   (try go_ret)
   have hz:=HZ.out;refine HQ.out _ U.A U.c U.N (.inl rfl) ?_;rw[show j1 U.hs U.ql=U.ql from if_pos hz];have h9:=ag.sub (L':=ae q (ay 1 key val lv 1 (some ⟨fb,0,none⟩) pa pr n l y an er dn)::ae fb (aY key l0 V)::LU U R) (.cons _ (List.Sublist.refl _));have jT:LU { U with hs:=0 } R=LU U R:=by simp only[LU,hz]
   rw[<- jT] at h9;exact h9
  ·have hz:0 < U.hs:=by omega
   have HZ:=zH hz;have HD:=zH (Kc (lr:=U.ql) hz 3 HL.out HN.out ag rfl rfl);clear hh hz;go_wp2_with fail;refine HD.out.mono ?_;rintro e w2 ⟨rfl,A',c',az⟩;clear ag HD;go_wp2_with fail
   (try go_ret)
   have hz:=HZ.out;refine HQ.out _ A' c' (gN (gO U.N) (U.ql.length+1)) (.inr rfl) ?_;rw[show j1 U.hs U.ql=U.ql++[(U.hs,0,0)] from if_neg (by omega)];have hlen:(U.ql++[(U.hs,(0:Int),(0:Int))]).length=U.ql.length+1:=by simp
   simp only[LU,hlen];exact az.sub (.cons _ (List.Sublist.refl _))
 ·obtain⟨rfl,rfl,hh,aH,fN,bw,hQ⟩:=hx;have HH:=zH hh;have pA:=zH aH;have Bv:=zH fN;have ka:=zH bw;have HQ:=zH hQ;clear hQ bw hh aH fN;rw[ka.out] at ag;have r:=ag.rule 1 rfl;have r0:=ag.rule 0 rfl;unfold ay at r;have ru:=ag.rule 3 rfl;unfold bx at ru;have rN:decide (0 < U.hs)=true:=by simpa using HH.out
  have aH:=pA.out;go_wp2_with fail;clear r r0 ru
  go_loopw [6] (fun iv wr=>∃ k:Nat,1<=k/\(k:Int)<=lv/\iv=.int .i64 (k:Int)/\Hid (∀ j,1<=j->j < k->(F j).fd=false)/\Env w0 (ae Z [.int .i64 (F 0).p.1,.int .i64 (F 0).p.2.1,.int .i64 (F 0).p.2.2,.int .i64 0,.int .u64 key,.bool false,.int .i64 (F 0).pc,.int .u64 (F 0).W,.int .u64 (F 0).X,.int .u64 (F 0).K,.int .u64 (F 0).V,.int .i64 (F 0).C,.bool false]::ae q (ay 1 key val lv 1 (some ⟨fb,0,none⟩) pa pr n l y an er dn)::ae fb (aY key l0 V)::LU U R) wr) (fun iv _=>lv.toNat - (intOf iv).toNat)
  case atStart=>exact⟨1,by decide,by omega,rfl,zH (fun j h1 h2=>by omega),ag⟩
  case round =>
   clear ag;obtain⟨k,jx,gy,rfl,iY,hE⟩:=hrel;have r:=hE.rule 1 rfl;unfold ay at r;have h16:=(dx.out _ (hE.get 2 rfl)).h16
   by_cases aE:(k:Int) < lv
   ·have b1:decide ((k:Int) < lv)=true:=by simpa using aE
    have vB:k < h:=by omega
    have cV:(k:Int) < 16:=by omega
    have jb:(0:Int)<=(k:Int):=by omega
    have AP:wrap64 ((k:Int)+1)=((k+1:Nat):Int):=by rw[df _ (by omega)];omega
    have Bw:wr.cell? ⟨fb,2+k * 13+12,none⟩=some (.bool (F k).fd):=(dx.out _ (hE.get 2 rfl)).at_ k vB 12 (by omega);obtain⟨fd,bw⟩:∃ fd,(F k).fd=fd:=⟨_,rfl⟩;rw[bw] at Bw;have xW:=zH bw;clear bw h16;cases fd
    ·go_wp2_with fail;refine⟨⟨k+1,by omega,by omega,by first | rfl | simp,zH (fun j h1 h2=>?_),hE⟩,by simp[intOf];omega⟩
     by_cases he:j=k
     ·subst he;exact xW.out
     ·exact iY.out j h1 (by omega)
    ·go_wp2_with fail;refine (ou 1 (hE.sub (.cons _ (List.Sublist.refl _)))).mono ?_;rintro e w9 ⟨rfl,f2,bj⟩;go_wp2_with fail
     (try go_ret)
     exact HQ.out _ f2 (bj.sub (.cons_cons _ (.cons_cons _ (.cons _ (List.Sublist.refl _)))))
   ·have b1:decide ((k:Int) < lv)=false:=by simpa using aE
    exfalso
    have he:lv.toNat=k:=by omega
    have:=EO F jx iY.out;rw[<- he,Bv.out] at this;cases this
 ·obtain⟨rfl,rfl,hh,aH,fN,bw,hQ⟩:=hx;have HH:=zH hh;have pA:=zH aH;have Bv:=zH fN;have ka:=zH bw;have HQ:=zH hQ;clear hQ bw hh aH fN;rw[ka.out] at ag;have r:=ag.rule 1 rfl;have r0:=ag.rule 0 rfl;unfold ay at r;have ru:=ag.rule 3 rfl;unfold bx at ru;have rN:decide (0 < U.hs)=true:=by simpa using HH.out
  have aH:=pA.out;go_wp2_with fail;clear r r0 ru
  go_loopw [6] (fun iv wr=>∃ k:Nat,1<=k/\(k:Int)<=lv/\iv=.int .i64 (k:Int)/\Hid (∀ j,1<=j->j < k->(F j).fd=false)/\Env w0 (ae Z [.int .i64 (F 0).p.1,.int .i64 (F 0).p.2.1,.int .i64 (F 0).p.2.2,.int .i64 0,.int .u64 key,.bool false,.int .i64 (F 0).pc,.int .u64 (F 0).W,.int .u64 (F 0).X,.int .u64 (F 0).K,.int .u64 (F 0).V,.int .i64 (F 0).C,.bool false]::ae q (ay 1 key val lv 1 (some ⟨fb,0,none⟩) pa pr n l y an er dn)::ae fb (aY key l0 V)::LU U R) wr) (fun iv _=>lv.toNat - (intOf iv).toNat)
  case atStart=>exact⟨1,by decide,by omega,rfl,zH (fun j h1 h2=>by omega),ag⟩
  case round =>
   clear ag;obtain⟨k,jx,gy,rfl,iY,hE⟩:=hrel;have r:=hE.rule 1 rfl;unfold ay at r;have h16:=(dx.out _ (hE.get 2 rfl)).h16
   by_cases aE:(k:Int) < lv
   ·have b1:decide ((k:Int) < lv)=true:=by simpa using aE
    have vB:k < h:=by omega
    have cV:(k:Int) < 16:=by omega
    have jb:(0:Int)<=(k:Int):=by omega
    have AP:wrap64 ((k:Int)+1)=((k+1:Nat):Int):=by rw[df _ (by omega)];omega
    have Bw:wr.cell? ⟨fb,2+k * 13+12,none⟩=some (.bool (F k).fd):=(dx.out _ (hE.get 2 rfl)).at_ k vB 12 (by omega);obtain⟨fd,bw⟩:∃ fd,(F k).fd=fd:=⟨_,rfl⟩;rw[bw] at Bw;have xW:=zH bw;clear bw h16;cases fd
    ·go_wp2_with fail;refine⟨⟨k+1,by omega,by omega,by first | rfl | simp,zH (fun j h1 h2=>?_),hE⟩,by simp[intOf];omega⟩
     by_cases he:j=k
     ·subst he;exact xW.out
     ·exact iY.out j h1 (by omega)
    ·exfalso
     have:=EP F jx (show k < lv.toNat by omega) xW.out;rw[Bv.out] at this;cases this
   ·have b1:decide ((k:Int) < lv)=false:=by simpa using aE
    have ru:=hE.rule 3 rfl;unfold bx at ru;have f8:=hE.thaw 1 rfl 8 (by simp[ay]);have f9:=hE.thaw 1 rfl 9 (by simp[ay]);have f11:=hE.thaw 1 rfl 11 (by simp[ay]);have hQ:=((hE.put 1 rfl (j:=8) (by simp[ay]) (zI U.hs)).put 1 rfl (j:=9) (by simp[ay]) (zI 0)).put 1 rfl (j:=11) (by simp[ay]) (.bool false);clear hE
    go_upto_region 28 with fail
    generalize World.setCell _ _ _=w8 at *;replace hQ:Env w0 (ae Z [zI (F 0).p.1,zI (F 0).p.2.1,zI (F 0).p.2.2,zI 0,zU key,.bool false,zI (F 0).pc,zU (F 0).W,zU (F 0).X,zU (F 0).K,zU (F 0).V,zI (F 0).C,.bool false]::ae q (ay 1 key val lv 1 (some ⟨fb,0,none⟩) pa pr U.hs 0 y false er dn)::ae fb (aY key l0 V)::LU U R) w8:=hQ;clear r ru f8 f9 f11;go_wp2_with fail;refine (fO 10 (hQ.sub (.cons _ (List.Sublist.refl _)))).mono ?_;rintro e w9 ⟨rfl,bj⟩;go_wp2_with fail
    (try go_ret)
    exact HQ.out _ (bj)
 ·obtain⟨rfl,rfl,hh,hd,bw,hQ⟩:=hx;have HH:=zH hh;have dZ:=zH hd;have Bz:Hid (dI U.ql U.ce U.cl=4):=zH (by unfold dI;rw[if_pos hd]);have ka:=zH bw;have HQ:=zH hQ;clear hQ bw hh hd;rw[ka.out] at ag;have r:=ag.rule 1 rfl;have r0:=ag.rule 0 rfl;unfold ay at r;have ru:=ag.rule 3 rfl;unfold bx at ru;have rN:decide (0 < U.hs)=false:=by have:=HH.out;simp;omega
  go_upto_region 29 with fail
  clear r r0 ru;have r:=ag.rule 1 rfl;unfold ay at r;have az:=ag.box w1.heap.size rfl (aM 0 0 0 0) 179;have f6:=az.thaw 2 rfl 6 (by simp[ay]);have r2:=az.rule 2 rfl;unfold ay at r2;have hP:=az.put 2 rfl (j:=6) (by simp[ay]) (zP w1.heap.size);unfold aM at f6 r2 hP
  go_upto_region 30 with fail
  generalize World.setCell _ _ _=w2 at *;generalize w1.heap.size=c at *;replace hP:Env w0 (ae c (aM 0 0 0 0)::ae Z [zI (F 0).p.1,zI (F 0).p.2.1,zI (F 0).p.2.2,zI 0,zU key,.bool false,zI (F 0).pc,zU (F 0).W,zU (F 0).X,zU (F 0).K,zU (F 0).V,zI (F 0).C,.bool false]::ae q (ay 1 key val lv 1 (some ⟨fb,0,none⟩) (some ⟨c,0,none⟩) pr n l y an er dn)::ae fb (aY key l0 V)::LU U R) w2:=hP;clear ag az r f6 r2;have r:=hP.rule 2 rfl;unfold ay at r;have f4:=hP.thaw 2 rfl 4 (by simp[ay]);have hQ:=hP.put 2 rfl (j:=4) (by simp[ay]) (zI 4)
  go_upto_region 31 with fail
  generalize World.setCell _ _ _=w3 at *;replace hQ:Env w0 (ae c (aM 0 0 0 0)::ae Z [zI (F 0).p.1,zI (F 0).p.2.1,zI (F 0).p.2.2,zI 0,zU key,.bool false,zI (F 0).pc,zU (F 0).W,zU (F 0).X,zU (F 0).K,zU (F 0).V,zI (F 0).C,.bool false]::ae q (ay 1 key val lv 4 (some ⟨fb,0,none⟩) (some ⟨c,0,none⟩) pr n l y an er dn)::ae fb (aY key l0 V)::LU U R) w3:=hQ;clear hP r f4;have r:=hQ.rule 2 rfl;unfold ay at r;have lX:=(hQ.sub (L':=ae c (aM 0 0 0 0)::ae q (ay 1 key val lv 4 (some ⟨fb,0,none⟩) (some ⟨c,0,none⟩) pr n l y an er dn)::ae fb (aY key l0 V)::LU U R) (.cons_cons _ (.cons _ (List.Sublist.refl _)))).perm (L':=ae c (aM 0 0 0 0)::LU U (ae q (ay 1 key val lv 4 (some ⟨fb,0,none⟩) (some ⟨c,0,none⟩) pr n l y an er dn)::ae fb (aY key l0 V)::R)) (((List.perm_append_comm (l₁:=[_,_]) (l₂:=[_,_,_])).append_right R).cons _);have HD:=zH (vk lX);clear lX hQ;go_wp2_with fail;refine HD.out.mono ?_;rintro o w5 ⟨rfl,eS,um,az⟩;rw[Bz.out];have bM:=(az.perm (L':=ae q (ay 1 key val lv 4 (some ⟨fb,0,none⟩) (some ⟨c,0,none⟩) pr n l y an er dn)::ae c (aM eS 0 0 0)::ae fb (aY key l0 V)::LU U R) ((((List.perm_append_comm (l₁:=[_,_,_]) (l₂:=[_,_])).append_right R).cons _).trans (List.Perm.swap _ _ _)));clear az r HD um;go_wp2_with fail;refine (Bl 4 (.inr rfl) bM).mono ?_;rintro o w4 ⟨rfl,bD⟩;go_wp2_with fail
  (try go_ret)
  exact HQ.out _ c (bD.sub (.cons_cons _ (.cons _ (List.Sublist.refl _))))
 ·obtain⟨rfl,rfl,hh,hd,bw,hQ⟩:=hx;have HH:=zH hh;have dZ:=zH hd;have Bz:Hid (dI U.ql U.ce U.cl=0):=zH (by unfold dI;rw[if_neg hd]);have ka:=zH bw;have HQ:=zH hQ;clear hQ bw hh hd;rw[ka.out] at ag;have r:=ag.rule 1 rfl;have r0:=ag.rule 0 rfl;unfold ay at r;have ru:=ag.rule 3 rfl;unfold bx at ru;have rN:decide (0 < U.hs)=false:=by have:=HH.out;simp;omega
  go_upto_region 29 with fail
  clear r r0 ru;have r:=ag.rule 1 rfl;unfold ay at r;have az:=ag.box w1.heap.size rfl (aM 0 0 0 0) 179;have f6:=az.thaw 2 rfl 6 (by simp[ay]);have r2:=az.rule 2 rfl;unfold ay at r2;have hP:=az.put 2 rfl (j:=6) (by simp[ay]) (zP w1.heap.size);unfold aM at f6 r2 hP
  go_upto_region 30 with fail
  generalize World.setCell _ _ _=w2 at *;generalize w1.heap.size=c at *;replace hP:Env w0 (ae c (aM 0 0 0 0)::ae Z [zI (F 0).p.1,zI (F 0).p.2.1,zI (F 0).p.2.2,zI 0,zU key,.bool false,zI (F 0).pc,zU (F 0).W,zU (F 0).X,zU (F 0).K,zU (F 0).V,zI (F 0).C,.bool false]::ae q (ay 1 key val lv 1 (some ⟨fb,0,none⟩) (some ⟨c,0,none⟩) pr n l y an er dn)::ae fb (aY key l0 V)::LU U R) w2:=hP;clear ag az r f6 r2;have r:=hP.rule 2 rfl;unfold ay at r;have f4:=hP.thaw 2 rfl 4 (by simp[ay]);have hQ:=hP.put 2 rfl (j:=4) (by simp[ay]) (zI 4)
  go_upto_region 31 with fail
  generalize World.setCell _ _ _=w3 at *;replace hQ:Env w0 (ae c (aM 0 0 0 0)::ae Z [zI (F 0).p.1,zI (F 0).p.2.1,zI (F 0).p.2.2,zI 0,zU key,.bool false,zI (F 0).pc,zU (F 0).W,zU (F 0).X,zU (F 0).K,zU (F 0).V,zI (F 0).C,.bool false]::ae q (ay 1 key val lv 4 (some ⟨fb,0,none⟩) (some ⟨c,0,none⟩) pr n l y an er dn)::ae fb (aY key l0 V)::LU U R) w3:=hQ;clear hP r f4;have r:=hQ.rule 2 rfl;unfold ay at r;have lX:=(hQ.sub (L':=ae c (aM 0 0 0 0)::ae q (ay 1 key val lv 4 (some ⟨fb,0,none⟩) (some ⟨c,0,none⟩) pr n l y an er dn)::ae fb (aY key l0 V)::LU U R) (.cons_cons _ (.cons _ (List.Sublist.refl _)))).perm (L':=ae c (aM 0 0 0 0)::LU U (ae q (ay 1 key val lv 4 (some ⟨fb,0,none⟩) (some ⟨c,0,none⟩) pr n l y an er dn)::ae fb (aY key l0 V)::R)) (((List.perm_append_comm (l₁:=[_,_]) (l₂:=[_,_,_])).append_right R).cons _);have HD:=zH (vk lX);clear lX hQ;go_wp2_with fail;refine HD.out.mono ?_;rintro o w5 ⟨rfl,eS,um,az⟩;rw[Bz.out];have bM:=(az.perm (L':=ae q (ay 1 key val lv 4 (some ⟨fb,0,none⟩) (some ⟨c,0,none⟩) pr n l y an er dn)::ae c (aM eS 0 0 0)::ae fb (aY key l0 V)::LU U R) ((((List.perm_append_comm (l₁:=[_,_,_]) (l₂:=[_,_])).append_right R).cons _).trans (List.Perm.swap _ _ _)));have OE:=zH (um dZ.out);clear az r HD um;go_wp2_with fail;refine (E2 bM).mono ?_;rintro o w4 ⟨rfl,bD⟩;go_wp2_with fail
  (try go_ret)
  rw[OE.out] at bD;exact HQ.out _ c (bD)
end
def OG (s:Int) (lv:Nat) (key:Int) (Lq:Lm) (V':Nat->List Value):Prop:=s=1->lv≠0->V' (lv - 1)=dG ((lv - 1:Nat):Int) key false (L0 (kB Lq.p))
section
variable {uc:Uc} {w0 w:World} {R:List Item} {q u m N:Nat} {G:Nat->Prop} {ml:List bT} {key e ro:Int} {V:Nat->List Value} {f:aI->Int} {L:Lm}
theorem OH (lv:Nat) (aH:lv < 16) (hV:∀ i,(V i).length=13) (jP:V lv=dG lv key false L) (hL:eJ L) (hA:fc lv L.p) (he:0<=e/\e<=9223372036854775807) (hu:∀ x,aD (f x)) (hN:N<=1000000) (hf:ak ml=f) (aQ:ml.length<=N) (hE:Env w0 (ae q (aY key lv V)::ae u (cW uc e ro)::bP m G ml::R) w) (s:Int) (Lq:Lm) (fq:aI->Int) (rq:Int) (hq:aF lv key false e L f=(s,Lq,fq)) (hr:cU e L f ro=rq) :
  Calls prog 64 #[zP q,zP u,zP m] w fun o w'=>∃ s',o=.returned (zI s')/\s'=(if s=1/\lv=0 then 1 else 0)/\∃ V',(∀ i,(V' i).length=13)/\V' lv=dG lv key false Lq/\(∀ l,lv < l->V' l=V l)/\OG s lv key Lq V'/\∃ aR,ak aR=fq/\aR.length<=N+1/\∃ G',
   Env w0 (ae q (aY key (if s=2 then -1 else if s=1/\lv≠0 then ((lv - 1:Nat):Int) else lv) V')::ae u (cW uc e rq)::bP m G' aR::R) w':=by
 have ei:=xD lv key false e L f;have fQ:fc lv Lq.p:=by
  have h9:fc lv (aF lv key false e L f).2.1.p:=hA.lane hL.C;rw[hq] at h9;exact h9
 rw[hq] at ei;dsimp only at ei;have pK:Hid (∀ x,wr (kU key lv V lv) (mo V lv) x=aY key lv (cN V lv x)):=zH fun x=>Bi key lv V aH x;have gq:=uk key (lv:Int) hV lv;rw[uj key lv V aH,jP] at hE;obtain⟨PP,kV⟩:∃ PP,kU key lv V lv=PP:=⟨_,rfl⟩;obtain⟨TT,qO⟩:∃ TT,mo V lv=TT:=⟨_,rfl⟩;have gT:Hid (∀ vs X v,Env w0 (ae q (wr PP TT vs)::X) v->v.cell? ⟨q,0,none⟩=some (zU key)/\v.cell? ⟨q,1,none⟩=some (zI lv)):=zH fun vs X v hv=>by
  have h0:=hv.rule 0 rfl 0;have h1:=hv.rule 0 rfl 1;rw[<- kV] at h0 h1;exact⟨h0,h1⟩
 rw[kV,qO] at hE pK;rw[kV] at gq;have Fg:Hid (∀ v,fZ PP TT uc w0 R q u m lv key false L e ro f N v->Calls prog 88 #[.pointer (some ⟨q,2+lv * 13,none⟩),zP u,zP m] v fun o w'=>o=.returned (zI s)/\fZ PP TT uc w0 R q u m lv key false Lq e rq fq (N+1) w'):=zH fun v hv=>by
  have h9:=NK (zH gq) hL (show (0:Int)<=(lv:Int)/\(lv:Int)<=1000000 by omega) he hu hN hv;rw[hq,hr] at h9;exact h9
 have OI:=zH hV;have Ty:(lv:Int) < 16:=by omega
 have jb:decide ((lv:Int) < 0)=false:=by simp
 have Fh:fZ PP TT uc w0 R q u m lv key false L e ro f N w:=⟨G,ml,hf,aQ,hE⟩;have mQ:=zH fQ;clear gq hL hA he hu hN hf aQ hq hr kV qO jP hV fQ;obtain⟨c0,c1⟩:=gT.out _ _ _ hE;go_enter func64,ntmps64;go_wp2_with fail;clear c0 c1;refine Ord.wc [10] (fun v=>v.cell? ⟨q,1,none⟩=some (zI lv)) (fun k w'=>if k=0 then fZ PP TT uc w0 R q u m lv key false L e ro f N w' else fZ PP TT uc w0 R q u m lv key false Lq e rq fq (N+1) w') (gT.out _ _ _ hE.drew).2 (show fZ PP TT uc w0 R q u m lv key false L e ro f N w.drew from Fh.elim fun G h=>h.elim fun ml h=>⟨G,ml,h.1,h.2.1,h.2.2.drew⟩) fun af=>?_
 repeat ((first
  | (refine Ord.cv ?_ af.o ?_ ?_;rotate_left;(intro w5 hS;have c1:=hS;go_simp<;>rfl))
  | (refine Ord.co af.o ?_));try simp only[Act.put,zA,zZ,zS])
 refine Ord.ch_turn (v:=zI s) 0 af.o rfl (by decide) (Or.inl rfl) (by rfl) ?_ ?_
 ·rintro w5 aN au;simp only[if_true] at au;go_simp;simp only[Ord.LandsIn];refine (Fg.out _ au).mono ?_;rintro o w6 ⟨rfl,OJ⟩;obtain⟨G6,OL,h1,h2,aq⟩:=OJ;exact⟨rfl,(gT.out _ _ _ aq).2,G6,OL,h1,h2,aq⟩
 try simp only[Act.put,zA,zZ,zS]
 repeat ((first
  | (refine Ord.cv ?_ af.o ?_ ?_;rotate_left;(intro w5 hS;skip;go_simp<;>rfl))
  | (refine Ord.co af.o ?_));try simp only[Act.put,zA,zZ,zS])
 refine Ord.InText.nil fun w5 hS=>?_;clear af;obtain⟨aL,ai⟩:=Ord.chain_end hS;clear hS;simp only[List.length_cons,List.length_nil,Nat.zero_add,Nat.one_ne_zero,if_false] at ai;obtain⟨G9,sF,Fi,jT,bj⟩:=ai;rw[pK.out] at bj;obtain⟨V1,pN⟩:∃ V1,cN V lv (dG lv key false Lq)=V1:=⟨_,rfl⟩;rw[pN] at bj;have kb:Hid ((∀ i,(V1 i).length=13)/\V1 lv=dG lv key false Lq/\∀ l,lv < l->V1 l=V l):=zH ⟨by rw[<- pN];exact Bj OI.out rfl,by rw[<- pN,gD],fun l hl=>by rw[<- pN,gQ _ _ (by omega)]⟩;have qR:=zH (And.intro Fi jT);clear aL Fh hE pK gT Fg pN Fi jT;have c1:w5.cell? ⟨q,1,none⟩=some (zI lv):=bj.rule 0 rfl 1
 rcases ei with rfl | rfl | rfl
 ·go_wp2_with fail;go_ret;exact⟨_,rfl,rfl,V1,kb.out.1,kb.out.2.1,kb.out.2.2,fun h=>absurd h (by decide),sF,qR.out.1,qR.out.2,G9,bj⟩
 ·by_cases h0:lv=0
  ·subst h0;go_wp2_with fail;go_ret;exact⟨_,rfl,rfl,V1,kb.out.1,kb.out.2.1,kb.out.2.2,fun _ h=>absurd rfl h,sF,qR.out.1,qR.out.2,G9,bj⟩
  ·obtain⟨t,rfl⟩:∃ t,lv=t+1:=⟨lv - 1,by omega⟩;obtain⟨⟨x,y,z⟩,pc,W,X,K,VV,C,fd⟩:=Lq;have hz:0<=z/\z<=1000:=by
    rcases mQ.out with e9 | ⟨c9,-,-,e9⟩
    ·simp only[Prod.mk.injEq] at e9;omega
    ·simp only[Prod.mk.injEq] at e9;omega
   have jR:=hz.1;have oZ:=hz.2;have Tz:t+1<=15:=by omega
   have E0:(t:Int)+1 < 16:=by omega
   have TA:(t:Int) < 16:=by omega
   have gB:(0:Int)<=(t:Int)+1:=by omega
   have u9:t+1 < 16:=by omega
   obtain⟨LL,j3⟩:∃ LL,ae q (aY key ((t+1:Nat):Int) V1)::ae u (cW uc e rq)::bP m G9 sF::R=LL:=⟨_,rfl⟩;have ma:Hid (∀ v,Env w0 LL v->v.cell? ⟨q,1,none⟩=some (zI ((t:Int)+1))/\v.cell? ⟨q,2+(t+1) * 13,none⟩=some (zI x)/\v.cell? ⟨q,2+(t+1) * 13+1,none⟩=some (zI y)/\v.cell? ⟨q,2+(t+1) * 13+2,none⟩=some (zI z)):=zH fun v hv=>by
    subst j3;refine⟨hv.rule 0 rfl 1,?_⟩;have h8:=hv.rule 0 rfl;rw[uj key _ V1 aH,kb.out.2.1] at h8;obtain⟨d0,d1,d2,-⟩:=dj (uk key ((t+1:Nat):Int) kb.out.1 (t+1)) h8;exact⟨d0,d1,d2⟩
   have xX:Env w0 LL w5:=by rw[<- j3];exact bj
   have qC:=zH j3;obtain⟨c1,c2,c3,c4⟩:=ma.out _ xX;clear bj j3 h0 hz mQ
   go_upto_region 13 with fail
   clear c1 c2 c3 c4;refine OrdF.wp_float [?_,?_,?_,?_,?_,?_,?_,?_,?_,?_,OrdF.Ptr,?_] [11] 10 (fun v=>Env w0 LL v) (OrdF.AF w0 [zI 0,zI 0,zI 0] (OrdF.Sta [fun N zs=>N=LL/\zs=[zI 0,zI 0,zI 0],fun N zs=>N=LL/\zs=[zI x,zI y,zI z]])) (by kernel_rfl) (by kernel_rfl) (by kernel_rfl) xX.drew ⟨_,_,⟨_,rfl,rfl,rfl⟩,.inl ⟨rfl,rfl,xX.drew⟩⟩ (fun hT=>?_);rotate_left 11;have af:=zH hT;clear hT
   repeat ((first
    | (focus (refine OrdF.in_value (v:=?_) af.o (by decide) (by decide) ?_ (by rfl) ?_ ?_;rotate_left 2;(intro w5 hS;obtain⟨c1,c2,c3,c4⟩:=ma.out _ hS;go_simp<;>rfl);rotate_right;(focus rfl)))
    | (focus (refine OrdF.in_off af.o (by decide) (by decide) ?_ (by rfl) ?_;(focus rfl))));try simp only[Act.put,zA,zZ,zS])
   refine OrdF.in_float OrdF.Ptr (zP 0) ⟨0,rfl⟩ af.o rfl (by decide) ?_ (by rfl) ?_ ?_
   ·rfl
   ·intro w5 κs5 aN au;go_simp;simp only[Ord3.Lands];exact⟨⟨_,rfl⟩,aN.over ((Below.refl _ _).alloc (Nat.le_refl _) _),au.up _⟩
   rintro _ ⟨B,rfl⟩
   try simp only[Act.put,zA,zZ,zS]
   refine OrdF.in_turn_late (by kernel_rfl) (by decide) (by decide) (fun u=>u=undef) (undef) rfl af.o rfl (by decide) (by rfl) ?_ (.inl rfl) (by rfl) ?_ ?_
   ·rfl
   ·rintro w5 aN ⟨M5,z5,⟨P5,cd,cR⟩,⟨bC,_⟩ | ⟨n5,bC,aB⟩⟩
    ·cases bC
    cases bC;cases cd;obtain⟨rfl,rfl⟩:=cR;have r:=aB.rule 0 rfl;have ff:=aB.thaw 0 rfl;have f0:=ff 0 (by simp);have f1:=ff 1 (by simp);have f2:=ff 2 (by simp);clear ff;go_simp;have aq:=aB.put3 0 rfl (zI x) (zI y) (zI z);exact⟨rfl,aq.sub (.cons _ (List.Sublist.refl _)),_,_,⟨_,rfl,rfl,rfl⟩,.inr ⟨_,rfl,aq⟩⟩
   rintro _ rfl
   try simp only[Act.put,zA,zZ,zS]
   refine OrdF.in_nil rfl (by decide) (by decide) ?_;rintro w5 aN ⟨M5,z5,⟨P5,cd,cR⟩,⟨bC,_⟩ | ⟨n5,bC,aB⟩⟩
   ·cases bC
   cases bC;cases cd;obtain⟨rfl,rfl⟩:=cR;clear af;have h9:=qC.out;subst h9;clear ma xX aN qC;have r0:=aB.rule 0 rfl;have g2:=aB.thaw 0 rfl 2 (by simp);have r1:w5.cell? ⟨q,1,none⟩=some (zI ((t:Int)+1)):=aB.rule 1 rfl 1;have g1:=aB.thaw 1 rfl 1 (by simp[aY]);have OM:q≠B:=fun e9=>(aB.off (i:=1) (j:=0) rfl rfl (by decide)) q rfl e9;have TB:B≠q:=fun e9=>OM e9.symm;have hP:=(aB.put 0 rfl (j:=2) (by simp) (zI (z - 1))).put 1 rfl (j:=1) (by simp[aY]) (zI t);simp only[zS,zZ,Bk] at hP
   go_upto_region 16 with fail
   generalize World.setCell _ _ _=w2 at *;clear r0 g2 r1 g1 aB c1;have az:=hP.perm (List.Perm.swap _ _ _);clear hP;have jN:t < 16:=by omega
   rw[uj key t V1 jN] at az;have gq:=uk key (t:Int) kb.out.1 t;obtain⟨b0,b1,b2,b3,b4,b5,b6,b7,b8,b9,pH,pI,pJ,hb⟩:=EY (kb.out.1 t);rw[hb] at az;have pK:Hid (wr (kU key t V1 t) (mo V1 t) (dG t key false (L0 (x,y,z - 1)))=aY key t (cN V1 t (dG t key false (L0 (x,y,z - 1))))):=zH (Bi key t V1 jN _);obtain⟨Fj,kV⟩:∃ PP,kU key t V1 t=PP:=⟨_,rfl⟩;obtain⟨Fk,qO⟩:∃ TT,mo V1 t=TT:=⟨_,rfl⟩;have gT:Hid (∀ vs v,Env w0 (ae q (wr Fj Fk vs)::ae B [zI x,zI y,zI (z - 1)]::ae u (cW uc e rq)::bP m G9 sF::R) v->v.cell? ⟨q,0,none⟩=some (zU key)/\v.cell? ⟨q,1,none⟩=some (zI t)/\v.cell? ⟨B,0,none⟩=some (zI x)/\v.cell? ⟨B,1,none⟩=some (zI y)/\v.cell? ⟨B,2,none⟩=some (zI (z - 1))):=zH fun vs v hv=>by
    have h0:=hv.rule 0 rfl 0;have h1:=hv.rule 0 rfl 1;rw[<- kV] at h0 h1;exact⟨h0,h1,hv.rule 1 rfl 0,hv.rule 1 rfl 1,hv.rule 1 rfl 2⟩
   rw[kV,qO] at az pK;rw[kV] at gq;have pL:=zH gq;clear gq hb kV qO jb E0 gB u9;refine Ord.wc [18] (fun v=>v.cell? ⟨q,0,none⟩=some (zU key)/\v.cell? ⟨q,1,none⟩=some (zI t)/\v.cell? ⟨B,0,none⟩=some (zI x)/\v.cell? ⟨B,1,none⟩=some (zI y)/\v.cell? ⟨B,2,none⟩=some (zI (z - 1))) (fun k w'=>Env w0 (ae q (wr Fj Fk (if k=0 then [b0,b1,b2,b3,b4,b5,b6,b7,b8,b9,pH,pI,pJ] else dG t key false (L0 (x,y,z - 1))))::ae B [zI x,zI y,zI (z - 1)]::ae u (cW uc e rq)::bP m G9 sF::R) w') (gT.out _ _ az.drew) az.drew fun af=>?_
   repeat ((first
    | (refine Ord.cv ?_ af.o ?_ ?_;rotate_left;(intro w5 hS;obtain⟨c0,c1,c2,c3,c4⟩:=hS;go_simp<;>rfl))
    | (refine Ord.co af.o ?_));try simp only[Act.put,zA,zZ,zS])
   refine Ord.ch_turn (v:=undef) 0 af.o rfl (by decide) (Or.inl rfl) (by rfl) ?_ ?_
   ·rintro w5 aN au;simp only[if_true] at au;obtain⟨⟨c0,c1,c2,c3,c4,c5,c6,c7,c8,c9,NS,NT,NU⟩,f0,f1,f2,f3,f4,f5,f6,f7,f8,f9,f10,f11,f12⟩:=au.facts13 pL.out rfl;have aO:=au.put13 pL.out rfl (zI x) (zI y) (zI (z - 1)) (zI t) (zU key) (.bool false) (zI 0) (zU 0) (zU 0) (zU 0) (zU 0) (zI 0) (.bool false);go_simp;exact⟨rfl,gT.out _ _ aO,aO⟩
   try simp only[Act.put,zA,zZ,zS]
   refine Ord.InText.nil fun w5 hS=>?_;clear af;obtain⟨aL,ai⟩:=Ord.chain_end hS;clear hS;simp only[List.length_cons,List.length_nil,Nat.zero_add,Nat.one_ne_zero,if_false] at ai;rw[pK.out] at ai;clear aL az;go_wp2_with fail;go_ret;have e1:t+1 - 1=t:=Nat.add_sub_cancel ..;refine⟨_,rfl,rfl,cN V1 t (dG t key false (L0 (x,y,z - 1))),Bj kb.out.1 rfl,?_,fun l hl=>?_,fun _ _=>?_,sF,qR.out.1,qR.out.2,G9,?_⟩
   ·rw[gQ _ _ (by omega)];exact kb.out.2.1
   ·rw[gQ _ _ (by omega)];exact kb.out.2.2 l hl
   ·rw[e1,gD];rfl
   ·exact ai.sub (.cons_cons _ (.cons _ (List.Sublist.refl _)))
 ·have f1:=bj.thaw 0 rfl 1 (by simp[aY]);have az:=bj.put 0 rfl (j:=1) (by simp[aY]) (zI (-1));rw[Bk] at az;simp only[zZ] at az;go_wp2_with fail;go_ret;exact⟨_,rfl,rfl,V1,kb.out.1,kb.out.2.1,kb.out.2.2,fun h=>absurd h (by decide),sF,qR.out.1,qR.out.2,G9,az⟩
end
def BA (uc:Uc) (w0:World) (R:List Item) (q u m h:Nat) (key:Int) (F:Fm) (f:aI->Int) (N:Nat) (w:World):Prop :=
 ∃ V:Nat->List Value,(∀ i,(V i).length=13)/\(F.on=true->F.lv < h/\∀ l,F.lv<=l->l < h->V l=dG l key false (F.L l))/\∃ ml,ak ml=f/\ml.length<=N/\∃ G,Env w0 (ae q (aY key (if F.on then (F.lv:Int) else -1) V)::ae u (cW uc F.e F.r)::bP m G ml::R) w
section
variable {uc:Uc} {w0 w:World} {R:List Item} {q u m h N:Nat} {key:Int} {F:Fm} {f:aI->Int}
theorem OO (hh:1<=h/\h<=16) (qN:uc.h=(h:Int)) (hF:tQ h F) (he:0<=F.e/\F.e<=9223372036854775807) (hu:∀ x,aD (f x)) (hN:N<=1000000) (hR:BA uc w0 R q u m h key F f N w) :
  Calls prog 64 #[zP q,zP u,zP m] w fun o w'=>o=.returned (zI (bm h key F f).1)/\BA uc w0 R q u m h key (bm h key F f).2.1 (bm h key F f).2.2 (N+1) w':=by
 obtain⟨V,hV,jP,ml,rfl,hl,G,hE⟩:=hR
 by_cases eT:F.on=true
 ·obtain⟨aE,xE,hA⟩:=hF eT;rw[if_pos eT] at hE;obtain⟨-,xY⟩:=jP eT;have hM:bm h key F (ak ml)=(if (aF F.lv key false F.e (F.L F.lv) (ak ml)).1=1/\F.lv=0 then 1 else 0,
   (if (aF F.lv key false F.e (F.L F.lv) (ak ml)).1=2 then { F with on:=false,r:=cU F.e (F.L F.lv) (ak ml) F.r }
     else if (aF F.lv key false F.e (F.L F.lv) (ak ml)).1=1/\F.lv≠0 then
      { F with lv:=F.lv - 1,L:=cN (cN F.L F.lv (aF F.lv key false F.e (F.L F.lv) (ak ml)).2.1) (F.lv - 1) (L0 (kB (aF F.lv key false F.e (F.L F.lv) (ak ml)).2.1.p)),r:=cU F.e (F.L F.lv) (ak ml) F.r }
     else { F with L:=cN F.L F.lv (aF F.lv key false F.e (F.L F.lv) (ak ml)).2.1,r:=cU F.e (F.L F.lv) (ak ml) F.r }),
   (aF F.lv key false F.e (F.L F.lv) (ak ml)).2.2):=by unfold bm;rw[if_pos eT]
  obtain⟨⟨s,Lq,fq⟩,hq⟩:∃ q,aF F.lv key false F.e (F.L F.lv) (ak ml)=q:=⟨_,rfl⟩;obtain⟨rq,hr⟩:∃ r,cU F.e (F.L F.lv) (ak ml) F.r=r:=⟨_,rfl⟩;have ei:=xD F.lv key false F.e (F.L F.lv) (ak ml);rw[hM];rw[hq] at ei ⊢;rw[hr];dsimp only at ei ⊢;obtain⟨T,hT⟩:∃ T:Fm,(if s=2 then { F with on:=false,r:=rq } else if s=1/\F.lv≠0 then { F with lv:=F.lv - 1,L:=cN (cN F.L F.lv Lq) (F.lv - 1) (L0 (kB Lq.p)),r:=rq } else { F with L:=cN F.L F.lv Lq,r:=rq })=T:=⟨_,rfl⟩;rw[hT];refine (OH F.lv (by omega) hV (xY F.lv (Nat.le_refl _) aE) xE hA he hu hN rfl hl hE s Lq fq rq hq hr).mono ?_;rintro o w1 ⟨s',rfl,rfl,V',xZ,pN,BB,ji,aR,ox,fG,G',dh⟩;refine⟨rfl,?_⟩
  rcases ei with h1 | h1 | h1
  ·subst h1;rw[if_neg (by decide),if_neg (fun hx=>absurd hx.1 (by decide))] at hT dh;subst hT;refine⟨V',xZ,fun _=>⟨aE,fun l h1 h2=>?_⟩,aR,ox,fG,G',?_⟩
   ·show V' l=dG l key false (cN F.L F.lv Lq l)
    rcases Nat.lt_or_eq_of_le (show F.lv<=l from h1) with h3 | h3
    ·rw[gQ _ _ (by omega),BB l h3];exact xY l (by omega) h2
    ·rw[<- h3,gD];exact pN
   ·show Env w0 (ae q (aY key (if F.on=true then (F.lv:Int) else -1) V')::_) w1;rw[if_pos eT];exact dh
  ·subst h1;rw[if_neg (by decide)] at hT dh
   by_cases h0:F.lv=0
   ·rw[if_neg (fun hx=>hx.2 h0)] at hT dh;subst hT;refine⟨V',xZ,fun _=>⟨aE,fun l h1 h2=>?_⟩,aR,ox,fG,G',?_⟩
    ·show V' l=dG l key false (cN F.L F.lv Lq l)
     rcases Nat.lt_or_eq_of_le (show F.lv<=l from h1) with h3 | h3
     ·rw[gQ _ _ (by omega),BB l h3];exact xY l (by omega) h2
     ·rw[<- h3,gD];exact pN
    ·show Env w0 (ae q (aY key (if F.on=true then (F.lv:Int) else -1) V')::_) w1;rw[if_pos eT];exact dh
   ·rw[if_pos ⟨rfl,h0⟩] at hT dh;subst hT;refine⟨V',xZ,fun _=>⟨show F.lv - 1 < h by omega,fun l h1 h2=>?_⟩,aR,ox,fG,G',?_⟩
    ·replace h1:F.lv - 1<=l:=h1;show V' l=dG l key false (cN (cN F.L F.lv Lq) (F.lv - 1) (L0 (kB Lq.p)) l)
     by_cases h3:l=F.lv - 1
     ·subst h3;rw[gD];exact ji rfl h0
     ·rw[gQ _ _ h3]
      by_cases h4:l=F.lv
      ·subst h4;rw[gD];exact pN
      ·rw[gQ _ _ h4,BB l (by omega)];exact xY l (by omega) h2
    ·show Env w0 (ae q (aY key (if F.on=true then ((F.lv - 1:Nat):Int) else -1) V')::_) w1;rw[if_pos eT];exact dh
  ·subst h1;rw[if_pos rfl] at hT dh;subst hT;exact⟨V',xZ,fun hx=>absurd hx (by simp),aR,ox,fG,G',dh⟩
 ·have kL:F.on=false:=by simpa using eT
  rw[if_neg eT] at hE;obtain⟨t,rfl⟩:∃ t,h=t+1:=⟨h - 1,by omega⟩;have hM:bm (t+1) key F (ak ml)=(0,{ F with on:=true,lv:=t,L:=cN F.L t (L0 (4,0,(t:Int))),e:=bg (ak ml (1,0,0)) },ak ml):=by unfold bm;rw[kL];rfl
  rw[hM];refine (NQ t (by omega) (by rw[qN];rfl) (by decide) hV (by omega) (hu _) hE).mono ?_;rintro o w1 ⟨rfl,dh⟩;refine⟨rfl,cN V t (dG t key false (L0 (4,0,(t:Int)))),Bj hV rfl,fun _=>⟨Nat.lt_succ_self t,fun l h1 h2=>?_⟩,ml,rfl,by omega,G,dh⟩;have h3:l=t:=by have Fl:t<=l:=h1;omega
  subst h3;show cN V l _ l=dG l key false (cN F.L l (L0 (4,0,(l:Int))) l);rw[gD,gD]
end
end
end Go.Proofs.YtleklonmmlfijaaGreatDoor
