/- What is proved on the way to the statement, part 13: contracts of the functions, among other things in memory. -/
import Derived.Test.YtleklonmmlfijaaGreatDoorQ12

open _root_.Go.Proofs.Tryz
set_option maxRecDepth 100000
set_option maxHeartbeats 25600000
namespace Go.Proofs.YtleklonmmlfijaaGreatDoor
section
open Go.RowKit Go.Maps
section
variable {w0 w:World} {R:List Item} {q fb h:Nat} {U:SU} {kd key val lv n l y er pc l0:Int} {pa pr:Option Addr} {an dn:Bool} {V:Nat->List Value} {F:Nat->Lm}
theorem sA (Q:Ending->World->Prop) (bB:0<=l/\l<=1000) (dx:Hid (∀ v,ao 0 v fb (aY key l0 V)->gu v fb h key F)) (aQ:U.ml.length<=1000000) (hE:Env w0 (ae q (ay kd key val lv pc (some ⟨fb,0,none⟩) pa pr n l y an er dn)::ae fb (aY key l0 V)::LU U R) w)
  (hx:(∃ (i:Nat) (i2 p2:Int),pc=10/\l=(i:Int)/\(i2=(i:Int)+1)/\(p2=if i2=lv then 11 else 10)/\(i < h)/\(i<=1000)/\(aD (F i).W)/\(∀ w' F5,Env w0 (ae q (ay kd key val lv p2 (some ⟨fb,0,none⟩) pa pr n i2 y an er dn)::ae fb (aY key l0 V)::LU { U with F:=F5,ml:=cM U.ml (5,n,7+(i:Int)) (aP false (aA (F i).W) U.ce) } R) w'->Q (.returned (zI 0)) w')) \/
    (pc=11/\(ak U.ml (F 0).p≠(F 0).W)/\(Hid (h<=16))/\(0 < h)/\(∀ w' F5 f2,Env w0 (ae q (ay kd key val lv 1 (some ⟨f2,0,none⟩) pa pr n l y an er dn)::ae f2 (aY key (-1) V0)::LU { U with F:=F5,ml:=dw U.ml (F 0).p (F 0).W (aP false n U.ce) } R) w'->Q (.returned (zI 0)) w')) \/
    (∃ (p2:Int),pc=11/\(p2=if 1 < lv then (if an then 13 else 12) else 15)/\(ak U.ml (F 0).p=(F 0).W)/\(Hid (h<=16))/\(0 < h)/\(∀ w' F5,Env w0 (ae q (ay kd key val lv p2 (some ⟨fb,0,none⟩) pa pr n 1 y an er dn)::ae fb (aY key l0 V)::LU { U with F:=F5,ml:=dw U.ml (F 0).p (F 0).W (aP false n U.ce),hs:=0 } R) w'->Q (.returned (zI 0)) w')) \/
    (∃ (i:Nat) ,pc=12/\l=(i:Int)/\(ak U.ml (F i).p≠(F i).W)/\(Hid (h<=16))/\(i < h)/\(∀ w' F5 f2,Env w0 (ae q (ay kd key val lv 2 (some ⟨f2,0,none⟩) pa pr n (i:Int) y an er dn)::ae f2 (aY key (-1) V0)::LU { U with F:=F5,ml:=dw U.ml (F i).p (F i).W (aP false n U.ce) } R) w'->Q (.returned (zI 0)) w')) \/
    (∃ (i:Nat) (i2 p2:Int),pc=12/\l=(i:Int)/\(i2=(i:Int)+1)/\(p2=if i2 < lv then (if an then 13 else 12) else 15)/\(ak U.ml (F i).p=(F i).W)/\(Hid (h<=16))/\(i < h)/\(∀ w' F5,Env w0 (ae q (ay kd key val lv p2 (some ⟨fb,0,none⟩) pa pr n i2 y an er dn)::ae fb (aY key l0 V)::LU { U with F:=F5,ml:=dw U.ml (F i).p (F i).W (aP false n U.ce) } R) w'->Q (.returned (zI 0)) w')) \/
    (∃ (i:Nat) (x9 p2:Int),pc=13/\l=(i:Int)/\(ak U.ml (5,n,7+(i:Int))=x9)/\(p2=if cO x9 then 15 else if x9=aP false (aA (F i).W) U.ce then 12 else 14)/\(aD x9)/\(aD (F i).W)/\(i < h)/\(∀ w',Env w0 (ae q (ay kd key val lv p2 (some ⟨fb,0,none⟩) pa pr n (i:Int) x9 an er dn)::ae fb (aY key l0 V)::LU U R) w'->Q (.returned (zI 0)) w')) \/
    (∃ (i:Nat) (p2:Int),pc=14/\l=(i:Int)/\(p2=if ak U.ml (5,n,7+(i:Int))=y then 12 else 15)/\(aD (F i).W)/\(i < h)/\(∀ w' F5,Env w0 (ae q (ay kd key val lv p2 (some ⟨fb,0,none⟩) pa pr n (i:Int) y an er dn)::ae fb (aY key l0 V)::LU { U with F:=F5,ml:=dw U.ml (5,n,7+(i:Int)) y (aP false (aA (F i).W) U.ce) } R) w'->Q (.returned (zI 0)) w'))) :
  Calls prog 70 #[zP q,zP U.u,zP U.m] w Q:=by
 have iW:=zH aQ;have HX:=zH hx;clear aQ hx;have vI:wrap64 (7+l)=7+l:=df _ (by omega);have E7:IntKind.i64.wrap (7+l)=7+l:=(lU _).trans vI;go_enter func70,ntmps70;go_wp2_with fail;refine OrdF.wp_float [?_,?_,?_,?_,?_,?_,?_,?_,?_,?_,OrdF.Ptr,?_] [11] 10 (fun v=>ao 0 v q (ay kd key val lv pc (some ⟨fb,0,none⟩) pa pr n l y an er dn)) (OrdF.AF w0 [zI 0,zI 0,zI 0] (OrdF.Sta [fun N9 zs=>N9=(ae q (ay kd key val lv pc (some ⟨fb,0,none⟩) pa pr n l y an er dn)::ae fb (aY key l0 V)::LU U R)/\zs=[zI 0,zI 0,zI 0],fun N9 zs=>N9=(ae q (ay kd key val lv pc (some ⟨fb,0,none⟩) pa pr n l y an er dn)::ae fb (aY key l0 V)::LU U R)/\zs=[zI 5,zI n,zI (7+l)]])) (by kernel_rfl) (by kernel_rfl) (by kernel_rfl) (hE.drew.get 0 rfl) ⟨_,_,⟨_,rfl,rfl,rfl⟩,.inl ⟨rfl,rfl,hE.drew⟩⟩ (fun hT=>?_);rotate_left 11;have af:=zH hT;clear hT
 repeat ((first
  | (focus (refine OrdF.in_value (v:=?_) af.o (by decide) (by decide) ?_ (by rfl) ?_ ?_;rotate_left 2;(intro w5 hS;have r:=hS.rule;unfold ay at r;go_simp<;>rfl);rotate_right;(focus rfl)))
  | (focus (refine OrdF.in_off af.o (by decide) (by decide) ?_ (by rfl) ?_;(focus rfl))));try simp only[Act.put,zA,zZ,zS])
 focus (refine OrdF.in_call (v:=.agg #[zI 5,zI n,zI (7+l)]) (f:=?_) (args:=?_) af.o (by decide) (by decide) ?_ (by rfl) ?_ ?_ ?_;rotate_left 2;(focus rfl);(intro w5 hS;skip;go_simp;constructor<;>rfl);(intro w5 hS;refine (jH _ _ _).mono ?_;rintro e w6 ⟨rfl,aj⟩;exact⟨rfl,hS.under aj,fun _ _ h=>lG h aj⟩);(try simp only[Act.put,zA,zZ,zS]))
 refine OrdF.in_float OrdF.Ptr (zP 0) ⟨0,rfl⟩ af.o rfl (by decide) ?_ (by rfl) ?_ ?_
 ·rfl
 ·intro w5 κs5 aN au;go_simp;simp only[Ord3.Lands];exact⟨⟨_,rfl⟩,(aN.more _),au.up _⟩
 rintro _ ⟨Z,rfl⟩
 try simp only[Act.put,zA,zZ,zS]
 refine OrdF.in_turn_late (by kernel_rfl) (by decide) (by decide) (fun u=>u=undef) (undef) rfl af.o rfl (by decide) (by rfl) ?_ (.inl rfl) (by rfl) ?_ ?_
 ·rfl
 ·rintro w5 aN ⟨M5,z5,⟨P5,cd,cR⟩,⟨bC,_⟩ | ⟨n5,bC,aB⟩⟩
  ·cases bC
  cases bC;cases cd;obtain⟨rfl,rfl⟩:=cR;have r:=aB.rule 0 rfl;have ff:=aB.thaw 0 rfl;have f0:=ff 0 (by simp);have f1:=ff 1 (by simp);have f2:=ff 2 (by simp);clear ff;go_simp;have aq:=aB.put3 0 rfl (zI 5) (zI n) (zI (7+l));exact⟨rfl,aq.get 1 rfl,_,_,⟨_,rfl,rfl,rfl⟩,.inr ⟨_,rfl,aq⟩⟩
 rintro _ rfl
 try simp only[Act.put,zA,zZ,zS]
 refine OrdF.in_nil rfl (by decide) (by decide) ?_;rintro w5 aN ⟨M5,z5,⟨P5,cd,cR⟩,⟨bC,_⟩ | ⟨n5,bC,aB⟩⟩
 ·cases bC
 cases bC;cases cd;obtain⟨rfl,rfl⟩:=cR;clear af;clear hE aN;have hx:=HX.out;clear HX
 rcases hx with hx | hx | hx | hx | hx | hx | hx
 ·obtain⟨i,i2,p2,rfl,rfl,vJ,ec,hi,rp,hW,hQ⟩:=hx;have fL:=fun (v:World)=>iG (F i).W hW v;have cP:=fun (v:World) (hv:ao 0 v U.u (fA U))=>pE (aA (F i).W) hv;obtain⟨s9,bf⟩:∃ s,aA (F i).W=s:=⟨_,rfl⟩;simp only[bf] at hQ;simp only[bf] at fL cP;obtain⟨y9,hy⟩:∃ y,aP false s9 U.ce=y:=⟨_,rfl⟩;simp only[hy] at hQ;simp only[hy] at cP;have iI:=zH (fun (v:World) (hq:ao 0 v q (ay kd key val lv 10 (some ⟨fb,0,none⟩) pa pr n (i:Int) y an er dn)) (hf:gu v fb h key F)=>sy hi hq hf);have kA:=zH fL;have dT:=zH cP;have Ob:=zH rp;have sh:=zH vJ;have ej:=zH ec;clear bf hy fL cP hW vJ ec;have HQ:=zH hQ;clear hQ;clear bB;have r:=aB.rule 1 rfl;unfold ay at r;clear hi rp;go_wp2_with fail;refine Ord.wc [11] (fun v=>ao 0 v Z [zI 5,zI n,zI (7+(i:Int))]/\ao 0 v U.u (fA U)/\ao 0 v q (ay kd key val lv 10 (some ⟨fb,0,none⟩) pa pr n (i:Int) y an er dn)/\ao 0 v fb (aY key l0 V)) (fun k9 w'=>∃ F5,Env w0 (ae Z [zI 5,zI n,zI (7+(i:Int))]::ae q (ay kd key val lv 10 (some ⟨fb,0,none⟩) pa pr n (i:Int) y an er dn)::ae fb (aY key l0 V)::LU (if k9=0 then U else { U with F:=F5,ml:=cM U.ml (5,n,7+(i:Int)) y9 }) R) w') ⟨aB.drew.get 0 rfl,aB.drew.get 3 rfl,aB.drew.get 1 rfl,aB.drew.get 2 rfl⟩ ⟨U.F,aB.drew⟩ fun af=>?_
  repeat ((first
   | (refine Ord.cv ?_ af.o ?_ ?_;rotate_left;(intro w5 hS;have rz:=hS.1.rule;have ru:=hS.2.1.rule;have rq:=hS.2.2.1.rule;unfold fA bx at ru;unfold ay at rq;go_simp<;>rfl))
   | (refine Ord.co af.o ?_)
   | (refine Ord.cc ?_ ?_ ?_ af.o ?_ ?_ ?_;rotate_left 3;(intro w5 hS;have rz:=hS.1.rule;have ru:=hS.2.1.rule;have rq:=hS.2.2.1.rule;unfold fA bx at ru;unfold ay at rq;go_simp;constructor<;>rfl);(intro w5 hS;(first | (with_reducible refine (iI.out _ hS.2.2.1 (dx.out _ hS.2.2.2)).mono ?_;rintro e w6 ⟨rfl,rfl⟩;constructor;rfl;exact⟨hS,fun _ h=>h⟩) | (with_reducible refine kp (kA.out _) ?_ ?_;rfl;exact fun w6 aj=>⟨⟨hS.1.under aj,hS.2.1.under aj,hS.2.2.1.under aj,hS.2.2.2.under aj⟩,fun k h=>h.elim fun F5 h=>⟨F5,h.over aj⟩⟩) | (with_reducible refine kp (dT.out _ hS.2.1) ?_ ?_;rfl;exact fun w6 aj=>⟨⟨hS.1.under aj,hS.2.1.under aj,hS.2.2.1.under aj,hS.2.2.2.under aj⟩,fun k h=>h.elim fun F5 h=>⟨F5,h.over aj⟩⟩)))));try simp only[Act.put,zA,zZ,zS])
  refine Ord.ch_turn (v:=.tuple #[]) 0 af.o rfl (by decide) (Or.inl rfl) (by rfl) ?_ ?_
  ·rintro w5 aN ⟨F5,au⟩;simp only[if_true] at au;go_simp;simp only[Ord.LandsIn];refine (mM 5 n (7+(i:Int)) y9 iW.out (au.ref 5 rfl)).mono ?_;rintro e w6 ⟨rfl,F6,hU,bf⟩;have aq:=au.turnU 5 rfl hU bf;exact⟨rfl,⟨aq.get 0 rfl,aq.get 3 rfl,aq.get 1 rfl,aq.get 2 rfl⟩,F6,aq⟩
  try simp only[Act.put,zA,zZ,zS]
  repeat ((first
   | (refine Ord.cv ?_ af.o ?_ ?_;rotate_left;(intro w5 hS;skip;go_simp<;>rfl))
   | (refine Ord.co af.o ?_));try simp only[Act.put,zA,zZ,zS])
  refine Ord.InText.nil fun w5 hS=>?_;clear af;obtain⟨aL,ai⟩:=Ord.chain_end hS;clear hS;obtain⟨F9,ai⟩:=ai;simp only[List.length_cons,List.length_nil,Nat.zero_add,Nat.one_ne_zero,if_false] at ai;clear aL aB r;have rp:=Ob.out;have Bq:wrap64 ((i:Int)+1)=i2:=by rw[df _ (by omega),sh.out]
  have r:=ai.rule 1 rfl;unfold ay at r;have f9:=ai.thaw 1 rfl 9 (by simp[ay]);have hP:=ai.put 1 rfl (j:=9) (by simp[ay]) (zI i2);clear ai rp
  go_upto_region 6 with fail
  generalize World.setCell _ _ _=w8 at *;replace hP:Env w0 (ae Z [zI 5,zI n,zI (7+(i:Int))]::ae q (ay kd key val lv 10 (some ⟨fb,0,none⟩) pa pr n i2 y an er dn)::ae fb (aY key l0 V)::LU { U with F:=F9,ml:=cM U.ml (5,n,7+(i:Int)) y9 } R) w8:=hP;clear r f9 Bq
  by_cases aH:i2=lv
  ·subst aH;have eb:p2=11:=by rw[ej.out,if_pos rfl]
   subst eb;clear sh ej;refine cG (S:=(Env w0 (ae Z [zI 5,zI n,zI (7+(i:Int))]::ae q (ay kd key val i2 10 (some ⟨fb,0,none⟩) pa pr n i2 y an er dn)::ae fb (aY key l0 V)::LU { U with F:=F9,ml:=cM U.ml (5,n,7+(i:Int)) y9 } R))) (by kernel_rfl) (by kernel_rfl) hP.drew (fun hT=>?_);have af:=zH hT;clear hT
   repeat ((first
    | (refine cH (v:=?_) af.o (by rfl) ?_ ?_;rotate_left;(intro w5 hS;have r:=hS.rule 1 rfl;unfold ay at r;go_simp<;>rfl))
    | (refine cI af.o (by rfl) ?_)
    | (refine cJ (v:=?_) (f:=?_) (args:=?_) af.o (by rfl) ?_ ?_ ?_;rotate_left 3;(intro w5 hS;have r:=hS.rule 1 rfl;unfold ay at r;go_simp;constructor<;>rfl);(intro w5 hS;(first | fail))));try simp only[Act.put,zA,zZ,zS])
   refine InText.nil fun w5 aK=>?_;clear af;go_wp2_with fail;refine (fO 11 (aK.sub (.cons _ (List.Sublist.refl _)))).mono ?_;rintro e w9 ⟨rfl,bj⟩;go_wp2_with fail
   (try go_ret)
   exact HQ.out _ F9 (bj)
  ·have eb:p2=10:=by rw[ej.out,if_neg aH]
   subst eb;clear ej;have hb:(i2==lv)=false:=by simpa using aH
   clear aH;refine cG (S:=(Env w0 (ae Z [zI 5,zI n,zI (7+(i:Int))]::ae q (ay kd key val lv 10 (some ⟨fb,0,none⟩) pa pr n i2 y an er dn)::ae fb (aY key l0 V)::LU { U with F:=F9,ml:=cM U.ml (5,n,7+(i:Int)) y9 } R))) (by kernel_rfl) (by kernel_rfl) hP.drew (fun hT=>?_);have af:=zH hT;clear hT
   repeat ((first
    | (refine cH (v:=?_) af.o (by rfl) ?_ ?_;rotate_left;(intro w5 hS;have r:=hS.rule 1 rfl;unfold ay at r;go_simp<;>rfl))
    | (refine cI af.o (by rfl) ?_)
    | (refine cJ (v:=?_) (f:=?_) (args:=?_) af.o (by rfl) ?_ ?_ ?_;rotate_left 3;(intro w5 hS;have r:=hS.rule 1 rfl;unfold ay at r;go_simp;constructor<;>rfl);(intro w5 hS;(first | fail))));try simp only[Act.put,zA,zZ,zS])
   refine InText.nil fun w5 aK=>?_;clear af;go_wp2_with fail
   (try go_ret)
   exact HQ.out _ F9 (aK.sub (.cons _ (List.Sublist.refl _)))
 ·obtain⟨rfl,bu,HH,hi,hQ⟩:=hx;obtain⟨dd,hdd⟩:∃ dd,decide (ak U.ml (F 0).p=(F 0).W)=dd:=⟨_,rfl⟩;have jg:dd=false:=by rw[<- hdd];simpa using bu
  have sB:=zH jg;clear jg bu;have cP:=fun (v:World) (hv:ao 0 v U.u (fA U))=>pE n hv;obtain⟨y9,hy⟩:∃ y,aP false n U.ce=y:=⟨_,rfl⟩;simp only[hy] at hQ;simp only[hy] at cP;have iI:=zH (fun (v:World) (hq:ao 0 v q (ay kd key val lv 11 (some ⟨fb,0,none⟩) pa pr n l y an er dn)) (hf:gu v fb h key F)=>(show Calls prog 99 #[zP q,zI 0] v (fun o w'=>o=.returned (zU (F 0).W)/\w'=v) from sy hi hq hf));have dT:=zH cP;have HI:=zH hi;have jZ:=zH bB;clear hy cP;have HQ:=zH hQ;clear hQ;clear bB;have r:=aB.rule 1 rfl;unfold ay at r;have dZ:Hid (decide (ak U.ml ((F 0).p.1,(F 0).p.2.1,(F 0).p.2.2)=(F 0).W)=dd):=zH hdd;clear hdd hi;have xS:(((0:Nat):Int) < 16):=by have h9:=HI.out;have h8:=HH.out;omega
  have nH:(0:Int)<=((0:Nat):Int):=by omega
  go_wp2_with fail;refine Ord.wc [18] (fun v=>ao 0 v Z [zI 5,zI n,zI (7+l)]/\ao 0 v U.u (fA U)/\ao 0 v q (ay kd key val lv 11 (some ⟨fb,0,none⟩) pa pr n l y an er dn)/\ao 0 v fb (aY key l0 V)) (fun k9 w'=>∃ F5,Env w0 (ae Z [zI 5,zI n,zI (7+l)]::ae q (ay kd key val lv 11 (some ⟨fb,0,none⟩) pa pr n l y an er dn)::ae fb (aY key l0 V)::LU (if k9=0 then U else { U with F:=F5,ml:=dw U.ml ((F 0).p.1,(F 0).p.2.1,(F 0).p.2.2) (F 0).W y9 }) R) w') ⟨aB.drew.get 0 rfl,aB.drew.get 3 rfl,aB.drew.get 1 rfl,aB.drew.get 2 rfl⟩ ⟨U.F,aB.drew⟩ fun af=>?_
  repeat ((first
   | (refine Ord.cv ?_ af.o ?_ ?_;rotate_left;(intro w5 hS;have rz:=hS.1.rule;have ru:=hS.2.1.rule;have rq:=hS.2.2.1.rule;unfold fA bx at ru;unfold ay at rq;have ln:=dx.out _ hS.2.2.2;have a0:w5.cell? ⟨fb,2+0 * 13,none⟩=some (zI (F 0).p.1):=ln.at_ 0 HI.out 0 (by omega);have a1:w5.cell? ⟨fb,2+0 * 13+1,none⟩=some (zI (F 0).p.2.1):=ln.at_ 0 HI.out 1 (by omega);have a2:w5.cell? ⟨fb,2+0 * 13+2,none⟩=some (zI (F 0).p.2.2):=ln.at_ 0 HI.out 2 (by omega);clear ln;go_simp<;>rfl))
   | (refine Ord.co af.o ?_)
   | (refine Ord.cc ?_ ?_ ?_ af.o ?_ ?_ ?_;rotate_left 3;(intro w5 hS;have rz:=hS.1.rule;have ru:=hS.2.1.rule;have rq:=hS.2.2.1.rule;unfold fA bx at ru;unfold ay at rq;have ln:=dx.out _ hS.2.2.2;have a0:w5.cell? ⟨fb,2+0 * 13,none⟩=some (.int .i64 (F 0).p.1):=ln.at_ 0 HI.out 0 (by omega);have a1:w5.cell? ⟨fb,2+0 * 13+1,none⟩=some (.int .i64 (F 0).p.2.1):=ln.at_ 0 HI.out 1 (by omega);have a2:w5.cell? ⟨fb,2+0 * 13+2,none⟩=some (.int .i64 (F 0).p.2.2):=ln.at_ 0 HI.out 2 (by omega);clear ln;go_simp;constructor<;>rfl);(intro w5 hS;(first | (with_reducible refine (iI.out _ hS.2.2.1 (dx.out _ hS.2.2.2)).mono ?_;rintro e w6 ⟨rfl,rfl⟩;constructor;rfl;exact⟨hS,fun _ h=>h⟩) | (with_reducible refine kp (dT.out _ hS.2.1) ?_ ?_;rfl;exact fun w6 aj=>⟨⟨hS.1.under aj,hS.2.1.under aj,hS.2.2.1.under aj,hS.2.2.2.under aj⟩,fun k h=>h.elim fun F5 h=>⟨F5,h.over aj⟩⟩)))));try simp only[Act.put,zA,zZ,zS])
  refine Ord.ch_turn (v:=.bool dd) 0 af.o rfl (by decide) (Or.inl rfl) (by rfl) ?_ ?_
  ·rintro w5 aN ⟨F5,au⟩;simp only[if_true] at au;go_simp;simp only[Ord.LandsIn];have bS:=kz (F 0).p.1 (F 0).p.2.1 (F 0).p.2.2 (F 0).W y9 iW.out (au.ref 5 rfl);rw[dZ.out] at bS;refine bS.mono ?_;rintro e w6 ⟨rfl,F6,hU,bf⟩;have aq:=au.turnU 5 rfl hU bf;exact⟨rfl,⟨aq.get 0 rfl,aq.get 3 rfl,aq.get 1 rfl,aq.get 2 rfl⟩,F6,aq⟩
  try simp only[Act.put,zA,zZ,zS]
  repeat ((first
   | (refine Ord.cv ?_ af.o ?_ ?_;rotate_left;(intro w5 hS;skip;go_simp<;>rfl))
   | (refine Ord.co af.o ?_));try simp only[Act.put,zA,zZ,zS])
  refine Ord.InText.nil fun w5 hS=>?_;clear af;obtain⟨aL,ai⟩:=Ord.chain_end hS;clear hS;obtain⟨F9,ai⟩:=ai;simp only[List.length_cons,List.length_nil,Nat.zero_add,Nat.one_ne_zero,if_false] at ai;clear aL aB r;have jg:=sB.out;subst jg;go_wp2_with fail;refine (ou 1 (ai.sub (.cons _ (List.Sublist.refl _)))).mono ?_;rintro e w9 ⟨rfl,f2,bj⟩;go_wp2_with fail
  (try go_ret)
  exact HQ.out _ F9 f2 (bj.sub (.cons_cons _ (.cons_cons _ (.cons _ (List.Sublist.refl _)))))
 ·obtain⟨p2,rfl,ec,heq,HH,hi,hQ⟩:=hx;obtain⟨dd,hdd⟩:∃ dd,decide (ak U.ml (F 0).p=(F 0).W)=dd:=⟨_,rfl⟩;have jg:dd=true:=by rw[<- hdd];simpa using heq
  have sB:=zH jg;have ej:=zH ec;clear jg heq ec;have cP:=fun (v:World) (hv:ao 0 v U.u (fA U))=>pE n hv;obtain⟨y9,hy⟩:∃ y,aP false n U.ce=y:=⟨_,rfl⟩;simp only[hy] at hQ;simp only[hy] at cP;have iI:=zH (fun (v:World) (hq:ao 0 v q (ay kd key val lv 11 (some ⟨fb,0,none⟩) pa pr n l y an er dn)) (hf:gu v fb h key F)=>(show Calls prog 99 #[zP q,zI 0] v (fun o w'=>o=.returned (zU (F 0).W)/\w'=v) from sy hi hq hf));have dT:=zH cP;have HI:=zH hi;have jZ:=zH bB;clear hy cP;have HQ:=zH hQ;clear hQ;clear bB;have r:=aB.rule 1 rfl;unfold ay at r;have dZ:Hid (decide (ak U.ml ((F 0).p.1,(F 0).p.2.1,(F 0).p.2.2)=(F 0).W)=dd):=zH hdd;clear hdd hi;have xS:(((0:Nat):Int) < 16):=by have h9:=HI.out;have h8:=HH.out;omega
  have nH:(0:Int)<=((0:Nat):Int):=by omega
  go_wp2_with fail;refine Ord.wc [18] (fun v=>ao 0 v Z [zI 5,zI n,zI (7+l)]/\ao 0 v U.u (fA U)/\ao 0 v q (ay kd key val lv 11 (some ⟨fb,0,none⟩) pa pr n l y an er dn)/\ao 0 v fb (aY key l0 V)) (fun k9 w'=>∃ F5,Env w0 (ae Z [zI 5,zI n,zI (7+l)]::ae q (ay kd key val lv 11 (some ⟨fb,0,none⟩) pa pr n l y an er dn)::ae fb (aY key l0 V)::LU (if k9=0 then U else { U with F:=F5,ml:=dw U.ml ((F 0).p.1,(F 0).p.2.1,(F 0).p.2.2) (F 0).W y9 }) R) w') ⟨aB.drew.get 0 rfl,aB.drew.get 3 rfl,aB.drew.get 1 rfl,aB.drew.get 2 rfl⟩ ⟨U.F,aB.drew⟩ fun af=>?_
  repeat ((first
   | (refine Ord.cv ?_ af.o ?_ ?_;rotate_left;(intro w5 hS;have rz:=hS.1.rule;have ru:=hS.2.1.rule;have rq:=hS.2.2.1.rule;unfold fA bx at ru;unfold ay at rq;have ln:=dx.out _ hS.2.2.2;have a0:w5.cell? ⟨fb,2+0 * 13,none⟩=some (zI (F 0).p.1):=ln.at_ 0 HI.out 0 (by omega);have a1:w5.cell? ⟨fb,2+0 * 13+1,none⟩=some (zI (F 0).p.2.1):=ln.at_ 0 HI.out 1 (by omega);have a2:w5.cell? ⟨fb,2+0 * 13+2,none⟩=some (zI (F 0).p.2.2):=ln.at_ 0 HI.out 2 (by omega);clear ln;go_simp<;>rfl))
   | (refine Ord.co af.o ?_)
   | (refine Ord.cc ?_ ?_ ?_ af.o ?_ ?_ ?_;rotate_left 3;(intro w5 hS;have rz:=hS.1.rule;have ru:=hS.2.1.rule;have rq:=hS.2.2.1.rule;unfold fA bx at ru;unfold ay at rq;have ln:=dx.out _ hS.2.2.2;have a0:w5.cell? ⟨fb,2+0 * 13,none⟩=some (.int .i64 (F 0).p.1):=ln.at_ 0 HI.out 0 (by omega);have a1:w5.cell? ⟨fb,2+0 * 13+1,none⟩=some (.int .i64 (F 0).p.2.1):=ln.at_ 0 HI.out 1 (by omega);have a2:w5.cell? ⟨fb,2+0 * 13+2,none⟩=some (.int .i64 (F 0).p.2.2):=ln.at_ 0 HI.out 2 (by omega);clear ln;go_simp;constructor<;>rfl);(intro w5 hS;(first | (with_reducible refine (iI.out _ hS.2.2.1 (dx.out _ hS.2.2.2)).mono ?_;rintro e w6 ⟨rfl,rfl⟩;constructor;rfl;exact⟨hS,fun _ h=>h⟩) | (with_reducible refine kp (dT.out _ hS.2.1) ?_ ?_;rfl;exact fun w6 aj=>⟨⟨hS.1.under aj,hS.2.1.under aj,hS.2.2.1.under aj,hS.2.2.2.under aj⟩,fun k h=>h.elim fun F5 h=>⟨F5,h.over aj⟩⟩)))));try simp only[Act.put,zA,zZ,zS])
  refine Ord.ch_turn (v:=.bool dd) 0 af.o rfl (by decide) (Or.inl rfl) (by rfl) ?_ ?_
  ·rintro w5 aN ⟨F5,au⟩;simp only[if_true] at au;go_simp;simp only[Ord.LandsIn];have bS:=kz (F 0).p.1 (F 0).p.2.1 (F 0).p.2.2 (F 0).W y9 iW.out (au.ref 5 rfl);rw[dZ.out] at bS;refine bS.mono ?_;rintro e w6 ⟨rfl,F6,hU,bf⟩;have aq:=au.turnU 5 rfl hU bf;exact⟨rfl,⟨aq.get 0 rfl,aq.get 3 rfl,aq.get 1 rfl,aq.get 2 rfl⟩,F6,aq⟩
  try simp only[Act.put,zA,zZ,zS]
  repeat ((first
   | (refine Ord.cv ?_ af.o ?_ ?_;rotate_left;(intro w5 hS;skip;go_simp<;>rfl))
   | (refine Ord.co af.o ?_));try simp only[Act.put,zA,zZ,zS])
  refine Ord.InText.nil fun w5 hS=>?_;clear af;obtain⟨aL,ai⟩:=Ord.chain_end hS;clear hS;obtain⟨F9,ai⟩:=ai;simp only[List.length_cons,List.length_nil,Nat.zero_add,Nat.one_ne_zero,if_false] at ai;clear aL aB r;have jg:=sB.out;subst jg;have ru:=ai.rule 3 rfl;unfold bx at ru;have f8:=ai.thaw 3 rfl 8 (by simp[bx]);have uq:=ai.put 3 rfl (j:=8) (by simp[bx]) (zI 0);have r:=ai.rule 1 rfl;unfold ay at r
  go_upto_region 13 with fail
  generalize World.setCell _ _ _=w7 at *;replace uq:Env w0 (ae Z [zI 5,zI n,zI (7+l)]::ae q (ay kd key val lv 11 (some ⟨fb,0,none⟩) pa pr n l y an er dn)::ae fb (aY key l0 V)::LU { U with F:=F9,ml:=dw U.ml (F 0).p (F 0).W (y9),hs:=0 } R) w7:=uq;clear ai ru f8 r;have r:=uq.rule 1 rfl;unfold ay at r;have f9:=uq.thaw 1 rfl 9 (by simp[ay]);have hP:=uq.put 1 rfl (j:=9) (by simp[ay]) (zI 1)
  go_upto_region 34 with fail
  generalize World.setCell _ _ _=w8 at *;replace hP:Env w0 (ae Z [zI 5,zI n,zI (7+l)]::ae q (ay kd key val lv 11 (some ⟨fb,0,none⟩) pa pr n 1 y an er dn)::ae fb (aY key l0 V)::LU { U with F:=F9,ml:=dw U.ml (F 0).p (F 0).W (y9),hs:=0 } R) w8:=hP;clear uq r f9
  by_cases aH:1 < lv
  ·have hb:decide (1 < lv)=true:=by simpa using aH
   refine cG (S:=(Env w0 (ae Z [zI 5,zI n,zI (7+l)]::ae q (ay kd key val lv 11 (some ⟨fb,0,none⟩) pa pr n 1 y an er dn)::ae fb (aY key l0 V)::LU { U with F:=F9,ml:=dw U.ml (F 0).p (F 0).W (y9),hs:=0 } R))) (by kernel_rfl) (by kernel_rfl) hP.drew (fun hT=>?_);have af:=zH hT;clear hT
   repeat ((first
    | (refine cH (v:=?_) af.o (by rfl) ?_ ?_;rotate_left;(intro w5 hS;have r:=hS.rule 1 rfl;unfold ay at r;go_simp<;>rfl))
    | (refine cI af.o (by rfl) ?_)
    | (refine cJ (v:=?_) (f:=?_) (args:=?_) af.o (by rfl) ?_ ?_ ?_;rotate_left 3;(intro w5 hS;have r:=hS.rule 1 rfl;unfold ay at r;go_simp;constructor<;>rfl);(intro w5 hS;(first | fail))));try simp only[Act.put,zA,zZ,zS])
   refine InText.nil fun w5 aK=>?_;clear af;have r:=aK.rule 1 rfl;unfold ay at r;cases an
   ·have eb:p2=12:=by rw[ej.out,if_pos aH];rfl
    subst eb;clear ej aH;go_wp2_with fail;refine (fO 12 (aK.sub (.cons _ (List.Sublist.refl _)))).mono ?_;rintro e w9 ⟨rfl,bj⟩;go_wp2_with fail
    (try go_ret)
    exact HQ.out _ F9 (bj)
   ·have eb:p2=13:=by rw[ej.out,if_pos aH];rfl
    subst eb;clear ej aH;go_wp2_with fail;refine (fO 13 (aK.sub (.cons _ (List.Sublist.refl _)))).mono ?_;rintro e w9 ⟨rfl,bj⟩;go_wp2_with fail
    (try go_ret)
    exact HQ.out _ F9 (bj)
  ·have hb:decide (1 < lv)=false:=by simpa using aH
   have eb:p2=15:=by rw[ej.out,if_neg aH]
   subst eb;clear ej aH;refine cG (S:=(Env w0 (ae Z [zI 5,zI n,zI (7+l)]::ae q (ay kd key val lv 11 (some ⟨fb,0,none⟩) pa pr n 1 y an er dn)::ae fb (aY key l0 V)::LU { U with F:=F9,ml:=dw U.ml (F 0).p (F 0).W (y9),hs:=0 } R))) (by kernel_rfl) (by kernel_rfl) hP.drew (fun hT=>?_);have af:=zH hT;clear hT
   repeat ((first
    | (refine cH (v:=?_) af.o (by rfl) ?_ ?_;rotate_left;(intro w5 hS;have r:=hS.rule 1 rfl;unfold ay at r;go_simp<;>rfl))
    | (refine cI af.o (by rfl) ?_)
    | (refine cJ (v:=?_) (f:=?_) (args:=?_) af.o (by rfl) ?_ ?_ ?_;rotate_left 3;(intro w5 hS;have r:=hS.rule 1 rfl;unfold ay at r;go_simp;constructor<;>rfl);(intro w5 hS;(first | fail))));try simp only[Act.put,zA,zZ,zS])
   refine InText.nil fun w5 aK=>?_;clear af;go_wp2_with fail;refine (fO 15 (aK.sub (.cons _ (List.Sublist.refl _)))).mono ?_;rintro e w9 ⟨rfl,bj⟩;go_wp2_with fail
   (try go_ret)
   exact HQ.out _ F9 (bj)
 ·obtain⟨i,rfl,rfl,bu,HH,hi,hQ⟩:=hx;obtain⟨dd,hdd⟩:∃ dd,decide (ak U.ml (F i).p=(F i).W)=dd:=⟨_,rfl⟩;have jg:dd=false:=by rw[<- hdd];simpa using bu
  have sB:=zH jg;clear jg bu;have cP:=fun (v:World) (hv:ao 0 v U.u (fA U))=>pE n hv;obtain⟨y9,hy⟩:∃ y,aP false n U.ce=y:=⟨_,rfl⟩;simp only[hy] at hQ;simp only[hy] at cP;have iI:=zH (fun (v:World) (hq:ao 0 v q (ay kd key val lv 12 (some ⟨fb,0,none⟩) pa pr n (i:Int) y an er dn)) (hf:gu v fb h key F)=>(show Calls prog 99 #[zP q,zI (i:Int)] v (fun o w'=>o=.returned (zU (F i).W)/\w'=v) from sy hi hq hf));have dT:=zH cP;have HI:=zH hi;have jZ:=zH bB;clear hy cP;have HQ:=zH hQ;clear hQ;clear bB;have r:=aB.rule 1 rfl;unfold ay at r;have dZ:Hid (decide (ak U.ml ((F i).p.1,(F i).p.2.1,(F i).p.2.2)=(F i).W)=dd):=zH hdd;clear hdd hi;have xS:(((i:Nat):Int) < 16):=by have h9:=HI.out;have h8:=HH.out;omega
  have nH:(0:Int)<=((i:Nat):Int):=by omega
  go_wp2_with fail;refine Ord.wc [26] (fun v=>ao 0 v Z [zI 5,zI n,zI (7+(i:Int))]/\ao 0 v U.u (fA U)/\ao 0 v q (ay kd key val lv 12 (some ⟨fb,0,none⟩) pa pr n (i:Int) y an er dn)/\ao 0 v fb (aY key l0 V)) (fun k9 w'=>∃ F5,Env w0 (ae Z [zI 5,zI n,zI (7+(i:Int))]::ae q (ay kd key val lv 12 (some ⟨fb,0,none⟩) pa pr n (i:Int) y an er dn)::ae fb (aY key l0 V)::LU (if k9=0 then U else { U with F:=F5,ml:=dw U.ml ((F i).p.1,(F i).p.2.1,(F i).p.2.2) (F i).W y9 }) R) w') ⟨aB.drew.get 0 rfl,aB.drew.get 3 rfl,aB.drew.get 1 rfl,aB.drew.get 2 rfl⟩ ⟨U.F,aB.drew⟩ fun af=>?_
  repeat ((first
   | (refine Ord.cv ?_ af.o ?_ ?_;rotate_left;(intro w5 hS;have rz:=hS.1.rule;have ru:=hS.2.1.rule;have rq:=hS.2.2.1.rule;unfold fA bx at ru;unfold ay at rq;have ln:=dx.out _ hS.2.2.2;have a0:w5.cell? ⟨fb,2+i * 13,none⟩=some (zI (F i).p.1):=ln.at_ i HI.out 0 (by omega);have a1:w5.cell? ⟨fb,2+i * 13+1,none⟩=some (zI (F i).p.2.1):=ln.at_ i HI.out 1 (by omega);have a2:w5.cell? ⟨fb,2+i * 13+2,none⟩=some (zI (F i).p.2.2):=ln.at_ i HI.out 2 (by omega);clear ln;go_simp<;>rfl))
   | (refine Ord.co af.o ?_)
   | (refine Ord.cc ?_ ?_ ?_ af.o ?_ ?_ ?_;rotate_left 3;(intro w5 hS;have rz:=hS.1.rule;have ru:=hS.2.1.rule;have rq:=hS.2.2.1.rule;unfold fA bx at ru;unfold ay at rq;have ln:=dx.out _ hS.2.2.2;have a0:w5.cell? ⟨fb,2+i * 13,none⟩=some (.int .i64 (F i).p.1):=ln.at_ i HI.out 0 (by omega);have a1:w5.cell? ⟨fb,2+i * 13+1,none⟩=some (.int .i64 (F i).p.2.1):=ln.at_ i HI.out 1 (by omega);have a2:w5.cell? ⟨fb,2+i * 13+2,none⟩=some (.int .i64 (F i).p.2.2):=ln.at_ i HI.out 2 (by omega);clear ln;go_simp;constructor<;>rfl);(intro w5 hS;(first | (with_reducible refine (iI.out _ hS.2.2.1 (dx.out _ hS.2.2.2)).mono ?_;rintro e w6 ⟨rfl,rfl⟩;constructor;rfl;exact⟨hS,fun _ h=>h⟩) | (with_reducible refine kp (dT.out _ hS.2.1) ?_ ?_;rfl;exact fun w6 aj=>⟨⟨hS.1.under aj,hS.2.1.under aj,hS.2.2.1.under aj,hS.2.2.2.under aj⟩,fun k h=>h.elim fun F5 h=>⟨F5,h.over aj⟩⟩)))));try simp only[Act.put,zA,zZ,zS])
  refine Ord.ch_turn (v:=.bool dd) 0 af.o rfl (by decide) (Or.inl rfl) (by rfl) ?_ ?_
  ·rintro w5 aN ⟨F5,au⟩;simp only[if_true] at au;go_simp;simp only[Ord.LandsIn];have bS:=kz (F i).p.1 (F i).p.2.1 (F i).p.2.2 (F i).W y9 iW.out (au.ref 5 rfl);rw[dZ.out] at bS;refine bS.mono ?_;rintro e w6 ⟨rfl,F6,hU,bf⟩;have aq:=au.turnU 5 rfl hU bf;exact⟨rfl,⟨aq.get 0 rfl,aq.get 3 rfl,aq.get 1 rfl,aq.get 2 rfl⟩,F6,aq⟩
  try simp only[Act.put,zA,zZ,zS]
  repeat ((first
   | (refine Ord.cv ?_ af.o ?_ ?_;rotate_left;(intro w5 hS;skip;go_simp<;>rfl))
   | (refine Ord.co af.o ?_));try simp only[Act.put,zA,zZ,zS])
  refine Ord.InText.nil fun w5 hS=>?_;clear af;obtain⟨aL,ai⟩:=Ord.chain_end hS;clear hS;obtain⟨F9,ai⟩:=ai;simp only[List.length_cons,List.length_nil,Nat.zero_add,Nat.one_ne_zero,if_false] at ai;clear aL aB r;have jg:=sB.out;subst jg;go_wp2_with fail;refine (ou 2 (ai.sub (.cons _ (List.Sublist.refl _)))).mono ?_;rintro e w9 ⟨rfl,f2,bj⟩;go_wp2_with fail
  (try go_ret)
  exact HQ.out _ F9 f2 (bj.sub (.cons_cons _ (.cons_cons _ (.cons _ (List.Sublist.refl _)))))
 ·obtain⟨i,i2,p2,rfl,rfl,vJ,ec,heq,HH,hi,hQ⟩:=hx;obtain⟨dd,hdd⟩:∃ dd,decide (ak U.ml (F i).p=(F i).W)=dd:=⟨_,rfl⟩;have jg:dd=true:=by rw[<- hdd];simpa using heq
  have sB:=zH jg;have ej:=zH ec;have sh:=zH vJ;clear jg heq ec vJ;have cP:=fun (v:World) (hv:ao 0 v U.u (fA U))=>pE n hv;obtain⟨y9,hy⟩:∃ y,aP false n U.ce=y:=⟨_,rfl⟩;simp only[hy] at hQ;simp only[hy] at cP;have iI:=zH (fun (v:World) (hq:ao 0 v q (ay kd key val lv 12 (some ⟨fb,0,none⟩) pa pr n (i:Int) y an er dn)) (hf:gu v fb h key F)=>(show Calls prog 99 #[zP q,zI (i:Int)] v (fun o w'=>o=.returned (zU (F i).W)/\w'=v) from sy hi hq hf));have dT:=zH cP;have HI:=zH hi;have jZ:=zH bB;clear hy cP;have HQ:=zH hQ;clear hQ;clear bB;have r:=aB.rule 1 rfl;unfold ay at r;have dZ:Hid (decide (ak U.ml ((F i).p.1,(F i).p.2.1,(F i).p.2.2)=(F i).W)=dd):=zH hdd;clear hdd hi;have xS:(((i:Nat):Int) < 16):=by have h9:=HI.out;have h8:=HH.out;omega
  have nH:(0:Int)<=((i:Nat):Int):=by omega
  go_wp2_with fail;refine Ord.wc [26] (fun v=>ao 0 v Z [zI 5,zI n,zI (7+(i:Int))]/\ao 0 v U.u (fA U)/\ao 0 v q (ay kd key val lv 12 (some ⟨fb,0,none⟩) pa pr n (i:Int) y an er dn)/\ao 0 v fb (aY key l0 V)) (fun k9 w'=>∃ F5,Env w0 (ae Z [zI 5,zI n,zI (7+(i:Int))]::ae q (ay kd key val lv 12 (some ⟨fb,0,none⟩) pa pr n (i:Int) y an er dn)::ae fb (aY key l0 V)::LU (if k9=0 then U else { U with F:=F5,ml:=dw U.ml ((F i).p.1,(F i).p.2.1,(F i).p.2.2) (F i).W y9 }) R) w') ⟨aB.drew.get 0 rfl,aB.drew.get 3 rfl,aB.drew.get 1 rfl,aB.drew.get 2 rfl⟩ ⟨U.F,aB.drew⟩ fun af=>?_
  repeat ((first
   | (refine Ord.cv ?_ af.o ?_ ?_;rotate_left;(intro w5 hS;have rz:=hS.1.rule;have ru:=hS.2.1.rule;have rq:=hS.2.2.1.rule;unfold fA bx at ru;unfold ay at rq;have ln:=dx.out _ hS.2.2.2;have a0:w5.cell? ⟨fb,2+i * 13,none⟩=some (zI (F i).p.1):=ln.at_ i HI.out 0 (by omega);have a1:w5.cell? ⟨fb,2+i * 13+1,none⟩=some (zI (F i).p.2.1):=ln.at_ i HI.out 1 (by omega);have a2:w5.cell? ⟨fb,2+i * 13+2,none⟩=some (zI (F i).p.2.2):=ln.at_ i HI.out 2 (by omega);clear ln;go_simp<;>rfl))
   | (refine Ord.co af.o ?_)
   | (refine Ord.cc ?_ ?_ ?_ af.o ?_ ?_ ?_;rotate_left 3;(intro w5 hS;have rz:=hS.1.rule;have ru:=hS.2.1.rule;have rq:=hS.2.2.1.rule;unfold fA bx at ru;unfold ay at rq;have ln:=dx.out _ hS.2.2.2;have a0:w5.cell? ⟨fb,2+i * 13,none⟩=some (.int .i64 (F i).p.1):=ln.at_ i HI.out 0 (by omega);have a1:w5.cell? ⟨fb,2+i * 13+1,none⟩=some (.int .i64 (F i).p.2.1):=ln.at_ i HI.out 1 (by omega);have a2:w5.cell? ⟨fb,2+i * 13+2,none⟩=some (.int .i64 (F i).p.2.2):=ln.at_ i HI.out 2 (by omega);clear ln;go_simp;constructor<;>rfl);(intro w5 hS;(first | (with_reducible refine (iI.out _ hS.2.2.1 (dx.out _ hS.2.2.2)).mono ?_;rintro e w6 ⟨rfl,rfl⟩;constructor;rfl;exact⟨hS,fun _ h=>h⟩) | (with_reducible refine kp (dT.out _ hS.2.1) ?_ ?_;rfl;exact fun w6 aj=>⟨⟨hS.1.under aj,hS.2.1.under aj,hS.2.2.1.under aj,hS.2.2.2.under aj⟩,fun k h=>h.elim fun F5 h=>⟨F5,h.over aj⟩⟩)))));try simp only[Act.put,zA,zZ,zS])
  refine Ord.ch_turn (v:=.bool dd) 0 af.o rfl (by decide) (Or.inl rfl) (by rfl) ?_ ?_
  ·rintro w5 aN ⟨F5,au⟩;simp only[if_true] at au;go_simp;simp only[Ord.LandsIn];have bS:=kz (F i).p.1 (F i).p.2.1 (F i).p.2.2 (F i).W y9 iW.out (au.ref 5 rfl);rw[dZ.out] at bS;refine bS.mono ?_;rintro e w6 ⟨rfl,F6,hU,bf⟩;have aq:=au.turnU 5 rfl hU bf;exact⟨rfl,⟨aq.get 0 rfl,aq.get 3 rfl,aq.get 1 rfl,aq.get 2 rfl⟩,F6,aq⟩
  try simp only[Act.put,zA,zZ,zS]
  repeat ((first
   | (refine Ord.cv ?_ af.o ?_ ?_;rotate_left;(intro w5 hS;skip;go_simp<;>rfl))
   | (refine Ord.co af.o ?_));try simp only[Act.put,zA,zZ,zS])
  refine Ord.InText.nil fun w5 hS=>?_;clear af;obtain⟨aL,ai⟩:=Ord.chain_end hS;clear hS;obtain⟨F9,ai⟩:=ai;simp only[List.length_cons,List.length_nil,Nat.zero_add,Nat.one_ne_zero,if_false] at ai;clear aL aB r;have jg:=sB.out;subst jg;have Bq:wrap64 ((i:Int)+1)=i2:=by have h9:=jZ.out;rw[df _ (by omega),sh.out]
  have r:=ai.rule 1 rfl;unfold ay at r;have f9:=ai.thaw 1 rfl 9 (by simp[ay]);have hP:=ai.put 1 rfl (j:=9) (by simp[ay]) (zI i2);clear xS nH
  go_upto_region 34 with fail
  generalize World.setCell _ _ _=w8 at *;replace hP:Env w0 (ae Z [zI 5,zI n,zI (7+(i:Int))]::ae q (ay kd key val lv 12 (some ⟨fb,0,none⟩) pa pr n i2 y an er dn)::ae fb (aY key l0 V)::LU { U with F:=F9,ml:=dw U.ml (F i).p (F i).W (y9) } R) w8:=hP;clear ai Bq r f9
  by_cases aH:i2 < lv
  ·have hb:decide (i2 < lv)=true:=by simpa using aH
   refine cG (S:=(Env w0 (ae Z [zI 5,zI n,zI (7+(i:Int))]::ae q (ay kd key val lv 12 (some ⟨fb,0,none⟩) pa pr n i2 y an er dn)::ae fb (aY key l0 V)::LU { U with F:=F9,ml:=dw U.ml (F i).p (F i).W (y9) } R))) (by kernel_rfl) (by kernel_rfl) hP.drew (fun hT=>?_);have af:=zH hT;clear hT
   repeat ((first
    | (refine cH (v:=?_) af.o (by rfl) ?_ ?_;rotate_left;(intro w5 hS;have r:=hS.rule 1 rfl;unfold ay at r;go_simp<;>rfl))
    | (refine cI af.o (by rfl) ?_)
    | (refine cJ (v:=?_) (f:=?_) (args:=?_) af.o (by rfl) ?_ ?_ ?_;rotate_left 3;(intro w5 hS;have r:=hS.rule 1 rfl;unfold ay at r;go_simp;constructor<;>rfl);(intro w5 hS;(first | fail))));try simp only[Act.put,zA,zZ,zS])
   refine InText.nil fun w5 aK=>?_;clear af;have r:=aK.rule 1 rfl;unfold ay at r;cases an
   ·have eb:p2=12:=by rw[ej.out,if_pos aH];rfl
    subst eb;clear ej aH;go_wp2_with fail;refine (fO 12 (aK.sub (.cons _ (List.Sublist.refl _)))).mono ?_;rintro e w9 ⟨rfl,bj⟩;go_wp2_with fail
    (try go_ret)
    exact HQ.out _ F9 (bj)
   ·have eb:p2=13:=by rw[ej.out,if_pos aH];rfl
    subst eb;clear ej aH;go_wp2_with fail;refine (fO 13 (aK.sub (.cons _ (List.Sublist.refl _)))).mono ?_;rintro e w9 ⟨rfl,bj⟩;go_wp2_with fail
    (try go_ret)
    exact HQ.out _ F9 (bj)
  ·have hb:decide (i2 < lv)=false:=by simpa using aH
   have eb:p2=15:=by rw[ej.out,if_neg aH]
   subst eb;clear ej aH;refine cG (S:=(Env w0 (ae Z [zI 5,zI n,zI (7+(i:Int))]::ae q (ay kd key val lv 12 (some ⟨fb,0,none⟩) pa pr n i2 y an er dn)::ae fb (aY key l0 V)::LU { U with F:=F9,ml:=dw U.ml (F i).p (F i).W (y9) } R))) (by kernel_rfl) (by kernel_rfl) hP.drew (fun hT=>?_);have af:=zH hT;clear hT
   repeat ((first
    | (refine cH (v:=?_) af.o (by rfl) ?_ ?_;rotate_left;(intro w5 hS;have r:=hS.rule 1 rfl;unfold ay at r;go_simp<;>rfl))
    | (refine cI af.o (by rfl) ?_)
    | (refine cJ (v:=?_) (f:=?_) (args:=?_) af.o (by rfl) ?_ ?_ ?_;rotate_left 3;(intro w5 hS;have r:=hS.rule 1 rfl;unfold ay at r;go_simp;constructor<;>rfl);(intro w5 hS;(first | fail))));try simp only[Act.put,zA,zZ,zS])
   refine InText.nil fun w5 aK=>?_;clear af;go_wp2_with fail;refine (fO 15 (aK.sub (.cons _ (List.Sublist.refl _)))).mono ?_;rintro e w9 ⟨rfl,bj⟩;go_wp2_with fail
   (try go_ret)
   exact HQ.out _ F9 (bj)
 ·obtain⟨i,x9,p2,rfl,rfl,mj,ec,eA,hW,hi,hQ⟩:=hx;have fL:=fun (v:World)=>iG (F i).W hW v;have cP:=fun (v:World) (hv:ao 0 v U.u (fA U))=>pE (aA (F i).W) hv;obtain⟨s9,bf⟩:∃ s,aA (F i).W=s:=⟨_,rfl⟩;rw[bf] at ec;simp only[bf] at fL cP;obtain⟨y9,hy⟩:∃ y,aP false s9 U.ce=y:=⟨_,rfl⟩;rw[hy] at ec;simp only[hy] at cP;have iI:=zH (fun (v:World) (hq:ao 0 v q (ay kd key val lv 13 (some ⟨fb,0,none⟩) pa pr n (i:Int) x9 an er dn)) (hf:gu v fb h key F)=>sy hi hq hf);have kA:=zH fL;have dT:=zH cP;have vK:=zH mj;have ej:=zH ec;have fY:=zH fun (v:World)=>pD x9 v eA;clear bf hy fL cP hW mj ec eA hi;have HQ:=zH hQ;clear hQ;clear bB;have r:=aB.rule 1 rfl;unfold ay at r;have rZ:=aB.rule 0 rfl;go_wp2_with fail;refine (ju 5 n (7+(i:Int)) iW.out (aB.ref 5 rfl)).mono ?_;rintro e w6 ⟨rfl,aj⟩;rw[vK.out];replace aB:=aB.over aj;clear r aj rZ;have r:=aB.rule 1 rfl;unfold ay at r;have f10:=aB.thaw 1 rfl 10 (by simp[ay]);have hP:=aB.put 1 rfl (j:=10) (by simp[ay]) (zU x9)
  go_upto_region 20 with fail
  generalize World.setCell _ _ _=w7 at *;replace hP:Env w0 (ae Z [zI 5,zI n,zI (7+(i:Int))]::ae q (ay kd key val lv 13 (some ⟨fb,0,none⟩) pa pr n (i:Int) x9 an er dn)::ae fb (aY key l0 V)::LU U R) w7:=hP;clear aB r f10;have r:=hP.rule 1 rfl;unfold ay at r;go_wp2_with fail;refine (fY.out _).mono ?_;rintro e w8 ⟨rfl,lE⟩;replace hP:=hP.over lE;clear r lE fY
  by_cases bA:cO x9=true
  ·have eb:p2=15:=by rw[ej.out,if_pos bA]
   subst eb;rw[bA];clear ej bA iI kA dT;go_wp2_with fail;refine (fO 15 (hP.sub (.cons _ (List.Sublist.refl _)))).mono ?_;rintro e w9 ⟨rfl,bj⟩;go_wp2_with fail
   (try go_ret)
   exact HQ.out _ bj
  ·have bA:cO x9=false:=by simpa using bA
   rw[bA] at ej ⊢;clear bA
   by_cases heq:x9=y9
   ·have eb:p2=12:=by rw[ej.out,if_neg (by decide),if_pos heq]
    subst eb;subst heq;clear ej
    go_upto_region 22 with fail
    refine cG (S:=(Env w0 (ae Z [zI 5,zI n,zI (7+(i:Int))]::ae q (ay kd key val lv 13 (some ⟨fb,0,none⟩) pa pr n (i:Int) x9 an er dn)::ae fb (aY key l0 V)::LU U R))) (by kernel_rfl) (by kernel_rfl) hP.drew (fun hT=>?_);have af:=zH hT;clear hT
    repeat ((first
     | (refine cH (v:=?_) af.o (by rfl) ?_ ?_;rotate_left;(intro w5 hS;have r:=hS.rule 1 rfl;unfold ay at r;go_simp<;>rfl))
     | (refine cI af.o (by rfl) ?_)
     | (refine cJ (v:=?_) (f:=?_) (args:=?_) af.o (by rfl) ?_ ?_ ?_;rotate_left 3;(intro w5 hS;have r:=hS.rule 1 rfl;unfold ay at r;go_simp;constructor<;>rfl);(intro w5 hS;(first | (with_reducible refine (iI.out _ (hS.get 1 rfl) (dx.out _ (hS.get 2 rfl))).mono ?_;rintro e w6 ⟨rfl,rfl⟩;constructor;rfl;exact hS) | (with_reducible refine kp (kA.out _) ?_ ?_;rfl;exact fun w6 dm=>hS.over dm) | (with_reducible refine kp (dT.out _ (hS.get 3 rfl)) ?_ ?_;rfl;exact fun w6 dm=>hS.over dm)))));try simp only[Act.put,zA,zZ,zS])
    refine InText.nil fun w5 aK=>?_;clear af;go_wp2_with fail;refine (fO 12 (aK.sub (.cons _ (List.Sublist.refl _)))).mono ?_;rintro e w9 ⟨rfl,bj⟩;go_wp2_with fail
    (try go_ret)
    exact HQ.out _ bj
   ·have eb:p2=14:=by rw[ej.out,if_neg (by decide),if_neg heq]
    subst eb;have hb:(x9==y9)=false:=by simpa using heq
    clear ej heq
    go_upto_region 22 with fail
    refine cG (S:=(Env w0 (ae Z [zI 5,zI n,zI (7+(i:Int))]::ae q (ay kd key val lv 13 (some ⟨fb,0,none⟩) pa pr n (i:Int) x9 an er dn)::ae fb (aY key l0 V)::LU U R))) (by kernel_rfl) (by kernel_rfl) hP.drew (fun hT=>?_);have af:=zH hT;clear hT
    repeat ((first
     | (refine cH (v:=?_) af.o (by rfl) ?_ ?_;rotate_left;(intro w5 hS;have r:=hS.rule 1 rfl;unfold ay at r;go_simp<;>rfl))
     | (refine cI af.o (by rfl) ?_)
     | (refine cJ (v:=?_) (f:=?_) (args:=?_) af.o (by rfl) ?_ ?_ ?_;rotate_left 3;(intro w5 hS;have r:=hS.rule 1 rfl;unfold ay at r;go_simp;constructor<;>rfl);(intro w5 hS;(first | (with_reducible refine (iI.out _ (hS.get 1 rfl) (dx.out _ (hS.get 2 rfl))).mono ?_;rintro e w6 ⟨rfl,rfl⟩;constructor;rfl;exact hS) | (with_reducible refine kp (kA.out _) ?_ ?_;rfl;exact fun w6 dm=>hS.over dm) | (with_reducible refine kp (dT.out _ (hS.get 3 rfl)) ?_ ?_;rfl;exact fun w6 dm=>hS.over dm)))));try simp only[Act.put,zA,zZ,zS])
    refine InText.nil fun w5 aK=>?_;clear af;go_wp2_with fail;refine (fO 14 (aK.sub (.cons _ (List.Sublist.refl _)))).mono ?_;rintro e w9 ⟨rfl,bj⟩;go_wp2_with fail
    (try go_ret)
    exact HQ.out _ bj
 ·obtain⟨i,p2,rfl,rfl,ec,hW,hi,hQ⟩:=hx;have fL:=fun (v:World)=>iG (F i).W hW v;have cP:=fun (v:World) (hv:ao 0 v U.u (fA U))=>pE (aA (F i).W) hv;obtain⟨s9,bf⟩:∃ s,aA (F i).W=s:=⟨_,rfl⟩;simp only[bf] at hQ;simp only[bf] at fL cP;obtain⟨y9,hy⟩:∃ y,aP false s9 U.ce=y:=⟨_,rfl⟩;simp only[hy] at hQ;simp only[hy] at cP;obtain⟨dd,hdd⟩:∃ dd,decide (ak U.ml (5,n,7+(i:Int))=y)=dd:=⟨_,rfl⟩;have mg:p2=if dd then 12 else 15:=by rw[ec,<- hdd];by_cases h9:ak U.ml (5,n,7+(i:Int))=y<;>simp[h9]
  have iI:=zH (fun (v:World) (hq:ao 0 v q (ay kd key val lv 14 (some ⟨fb,0,none⟩) pa pr n (i:Int) y an er dn)) (hf:gu v fb h key F)=>sy hi hq hf);have kA:=zH fL;have dT:=zH cP;have ej:=zH mg;have dZ:=zH hdd;clear bf hy fL cP hW ec hi hdd mg;have HQ:=zH hQ;clear hQ;clear bB;have r:=aB.rule 1 rfl;unfold ay at r;go_wp2_with fail;refine Ord.wc [15] (fun v=>ao 0 v Z [zI 5,zI n,zI (7+(i:Int))]/\ao 0 v U.u (fA U)/\ao 0 v q (ay kd key val lv 14 (some ⟨fb,0,none⟩) pa pr n (i:Int) y an er dn)/\ao 0 v fb (aY key l0 V)) (fun k9 w'=>∃ F5,Env w0 (ae Z [zI 5,zI n,zI (7+(i:Int))]::ae q (ay kd key val lv 14 (some ⟨fb,0,none⟩) pa pr n (i:Int) y an er dn)::ae fb (aY key l0 V)::LU (if k9=0 then U else { U with F:=F5,ml:=dw U.ml (5,n,7+(i:Int)) y y9 }) R) w') ⟨aB.drew.get 0 rfl,aB.drew.get 3 rfl,aB.drew.get 1 rfl,aB.drew.get 2 rfl⟩ ⟨U.F,aB.drew⟩ fun af=>?_
  repeat ((first
   | (refine Ord.cv ?_ af.o ?_ ?_;rotate_left;(intro w5 hS;have rz:=hS.1.rule;have ru:=hS.2.1.rule;have rq:=hS.2.2.1.rule;unfold fA bx at ru;unfold ay at rq;go_simp<;>rfl))
   | (refine Ord.co af.o ?_)
   | (refine Ord.cc ?_ ?_ ?_ af.o ?_ ?_ ?_;rotate_left 3;(intro w5 hS;have rz:=hS.1.rule;have ru:=hS.2.1.rule;have rq:=hS.2.2.1.rule;unfold fA bx at ru;unfold ay at rq;go_simp;constructor<;>rfl);(intro w5 hS;(first | (with_reducible refine (iI.out _ hS.2.2.1 (dx.out _ hS.2.2.2)).mono ?_;rintro e w6 ⟨rfl,rfl⟩;constructor;rfl;exact⟨hS,fun _ h=>h⟩) | (with_reducible refine kp (kA.out _) ?_ ?_;rfl;exact fun w6 aj=>⟨⟨hS.1.under aj,hS.2.1.under aj,hS.2.2.1.under aj,hS.2.2.2.under aj⟩,fun k h=>h.elim fun F5 h=>⟨F5,h.over aj⟩⟩) | (with_reducible refine kp (dT.out _ hS.2.1) ?_ ?_;rfl;exact fun w6 aj=>⟨⟨hS.1.under aj,hS.2.1.under aj,hS.2.2.1.under aj,hS.2.2.2.under aj⟩,fun k h=>h.elim fun F5 h=>⟨F5,h.over aj⟩⟩)))));try simp only[Act.put,zA,zZ,zS])
  refine Ord.ch_turn (v:=.bool dd) 0 af.o rfl (by decide) (Or.inl rfl) (by rfl) ?_ ?_
  ·rintro w5 aN ⟨F5,au⟩;simp only[if_true] at au;go_simp;simp only[Ord.LandsIn];have bS:=kz 5 n (7+(i:Int)) y y9 iW.out (au.ref 5 rfl);rw[dZ.out] at bS;refine bS.mono ?_;rintro e w6 ⟨rfl,F6,hU,bf⟩;have aq:=au.turnU 5 rfl hU bf;exact⟨rfl,⟨aq.get 0 rfl,aq.get 3 rfl,aq.get 1 rfl,aq.get 2 rfl⟩,F6,aq⟩
  try simp only[Act.put,zA,zZ,zS]
  repeat ((first
   | (refine Ord.cv ?_ af.o ?_ ?_;rotate_left;(intro w5 hS;skip;go_simp<;>rfl))
   | (refine Ord.co af.o ?_));try simp only[Act.put,zA,zZ,zS])
  refine Ord.InText.nil fun w5 hS=>?_;clear af;obtain⟨aL,ai⟩:=Ord.chain_end hS;clear hS;obtain⟨F9,ai⟩:=ai;simp only[List.length_cons,List.length_nil,Nat.zero_add,Nat.one_ne_zero,if_false] at ai;clear aL aB r;cases dd
  ·have eb:p2=15:=ej.out;subst eb;go_wp2_with fail;refine (fO 15 (ai.sub (.cons _ (List.Sublist.refl _)))).mono ?_;rintro e w9 ⟨rfl,bj⟩;go_wp2_with fail
   (try go_ret)
   exact HQ.out _ F9 (bj)
  ·have eb:p2=12:=ej.out;subst eb;go_wp2_with fail;refine (fO 12 (ai.sub (.cons _ (List.Sublist.refl _)))).mono ?_;rintro e w9 ⟨rfl,bj⟩;go_wp2_with fail
   (try go_ret)
   exact HQ.out _ F9 (bj)
end
section
variable {w0 w:World} {R:List Item} {q fb h:Nat} {U:SU} {kd key val lv n y er l0:Int} {pa pr:Option Addr} {an dn:Bool} {V:Nat->List Value} {F:Nat->Lm}
theorem Oc {l:Int} {pf:Option Addr} (bB:0<=l/\l<=1000) (aQ:U.ml.length<=1000000) (hE:Env w0 (ae q (ay kd key val lv 15 pf pa pr n l y an er dn)::LU U R) w) :
  Calls prog 70 #[zP q,zP U.u,zP U.m] w fun o w'=>(ak U.ml (5,n,6)=0/\o=.returned (zI 1)/\∃ F5,Env w0 (ae q (ay kd key val lv 15 pf pa pr n l y an er true)::LU { U with F:=F5,ml:=dw U.ml (5,n,6) 0 1 } R) w')\/(ak U.ml (5,n,6)≠0/\o=.returned (zI 0)/\∃ F5 f2,Env w0 (ae q (ay kd key val lv 3 (some ⟨f2,0,none⟩) pa pr n l y an er dn)::ae f2 (aY key (-1) V0)::LU { U with F:=F5,ml:=dw U.ml (5,n,6) 0 1 } R) w'):=by
 have iW:=zH aQ;obtain⟨dd,hdd⟩:∃ dd,decide (ak U.ml (5,n,6)=0)=dd:=⟨_,rfl⟩;have dZ:=zH hdd;clear aQ hdd;have vI:wrap64 (7+l)=7+l:=df _ (by omega);have E7:IntKind.i64.wrap (7+l)=7+l:=(lU _).trans vI;go_enter func70,ntmps70;go_wp2_with fail;refine OrdF.wp_float [?_,?_,?_,?_,?_,?_,?_,?_,?_,?_,OrdF.Ptr,?_] [11] 10 (fun v=>ao 0 v q (ay kd key val lv 15 pf pa pr n l y an er dn)) (OrdF.AF w0 [zI 0,zI 0,zI 0] (OrdF.Sta [fun N9 zs=>N9=(ae q (ay kd key val lv 15 pf pa pr n l y an er dn)::LU U R)/\zs=[zI 0,zI 0,zI 0],fun N9 zs=>N9=(ae q (ay kd key val lv 15 pf pa pr n l y an er dn)::LU U R)/\zs=[zI 5,zI n,zI (7+l)]])) (by kernel_rfl) (by kernel_rfl) (by kernel_rfl) (hE.drew.get 0 rfl) ⟨_,_,⟨_,rfl,rfl,rfl⟩,.inl ⟨rfl,rfl,hE.drew⟩⟩ (fun hT=>?_);rotate_left 11;have af:=zH hT;clear hT
 repeat ((first
  | (focus (refine OrdF.in_value (v:=?_) af.o (by decide) (by decide) ?_ (by rfl) ?_ ?_;rotate_left 2;(intro w5 hS;have r:=hS.rule;unfold ay at r;go_simp<;>rfl);rotate_right;(focus rfl)))
  | (focus (refine OrdF.in_off af.o (by decide) (by decide) ?_ (by rfl) ?_;(focus rfl))));try simp only[Act.put,zA,zZ,zS])
 focus (refine OrdF.in_call (v:=.agg #[zI 5,zI n,zI (7+l)]) (f:=?_) (args:=?_) af.o (by decide) (by decide) ?_ (by rfl) ?_ ?_ ?_;rotate_left 2;(focus rfl);(intro w5 hS;skip;go_simp;constructor<;>rfl);(intro w5 hS;refine (jH _ _ _).mono ?_;rintro e w6 ⟨rfl,aj⟩;exact⟨rfl,hS.under aj,fun _ _ h=>lG h aj⟩);(try simp only[Act.put,zA,zZ,zS]))
 refine OrdF.in_float OrdF.Ptr (zP 0) ⟨0,rfl⟩ af.o rfl (by decide) ?_ (by rfl) ?_ ?_
 ·rfl
 ·intro w5 κs5 aN au;go_simp;simp only[Ord3.Lands];exact⟨⟨_,rfl⟩,(aN.more _),au.up _⟩
 rintro _ ⟨Z,rfl⟩
 try simp only[Act.put,zA,zZ,zS]
 refine OrdF.in_turn_late (by kernel_rfl) (by decide) (by decide) (fun u=>u=undef) (undef) rfl af.o rfl (by decide) (by rfl) ?_ (.inl rfl) (by rfl) ?_ ?_
 ·rfl
 ·rintro w5 aN ⟨M5,z5,⟨P5,cd,cR⟩,⟨bC,_⟩ | ⟨n5,bC,aB⟩⟩
  ·cases bC
  cases bC;cases cd;obtain⟨rfl,rfl⟩:=cR;have r:=aB.rule 0 rfl;have ff:=aB.thaw 0 rfl;have f0:=ff 0 (by simp);have f1:=ff 1 (by simp);have f2:=ff 2 (by simp);clear ff;go_simp;have aq:=aB.put3 0 rfl (zI 5) (zI n) (zI (7+l));exact⟨rfl,aq.get 1 rfl,_,_,⟨_,rfl,rfl,rfl⟩,.inr ⟨_,rfl,aq⟩⟩
 rintro _ rfl
 try simp only[Act.put,zA,zZ,zS]
 refine OrdF.in_nil rfl (by decide) (by decide) ?_;rintro w5 aN ⟨M5,z5,⟨P5,cd,cR⟩,⟨bC,_⟩ | ⟨n5,bC,aB⟩⟩
 ·cases bC
 cases bC;cases cd;obtain⟨rfl,rfl⟩:=cR;clear af;clear hE aN;have r:=aB.rule 1 rfl;unfold ay at r;clear bB;go_wp2_with fail;refine (jH _ _ _).mono ?_;rintro e w6 ⟨rfl,aj⟩;replace aB:=aB.over aj;clear r aj;have bS:=kz 5 n 6 0 1 iW.out (aB.ref 4 rfl);rw[dZ.out] at bS;have iI:=zH bS;clear bS;go_wp2_with fail;refine iI.out.mono ?_;rintro e w7 ⟨rfl,F6,hU,bf⟩;have aq:=aB.turnU 4 rfl hU bf;replace aq:Env w0 (ae Z [zI 5,zI n,zI (7+l)]::ae q (ay kd key val lv 15 pf pa pr n l y an er dn)::LU { U with F:=F6,ml:=dw U.ml (5,n,6) 0 1 } R) w7:=aq;clear aB hU bf iI;cases dd
 ·have bu:ak U.ml (5,n,6)≠0:=of_decide_eq_false dZ.out;have Br:=zH bu;clear bu dZ;go_wp2_with fail;refine (ou 3 (aq.sub (.cons _ (List.Sublist.refl _)))).mono ?_;rintro e w9 ⟨rfl,f2,bj⟩;go_wp2_with fail;go_ret;exact .inr ⟨Br.out,rfl,F6,f2,bj⟩
 ·have heq:ak U.ml (5,n,6)=0:=of_decide_eq_true dZ.out;have Bs:=zH heq;clear heq dZ;have r:=aq.rule 1 rfl;unfold ay at r;have f13:=aq.thaw 1 rfl 13 (by simp[ay]);have hP:=aq.put 1 rfl (j:=13) (by simp[ay]) (.bool true);clear aq;go_wp2_with fail;go_ret;exact .inl ⟨Bs.out,rfl,F6,hP.sub (.cons _ (List.Sublist.refl _))⟩
end
section
variable {w0 w:World} {R L:List Item} {q fb a c u m:Nat} {kd key val lv pc n l y er:Int} {pf pa pr:Option Addr} {an dn:Bool}
theorem Od (ax:pc=1\/pc=2\/pc=3) (Q:Int->World->Prop) (hE:Env w0 (ae q (ay kd key val lv pc (some ⟨fb,0,none⟩) pa pr n l y an er dn)::L) w)
  (hc:Calls prog 64 #[zP fb,zP u,zP m] w fun o w1=>∃ s,o=.returned (zI s)/\(s=0\/s=1)/\(s=0->Q 0 w1)/\(s=1->Calls prog 65 #[zP q,zP u] w1 fun o2 w2=>∃ s2,o2=.returned (zI s2)/\Q s2 w2)) :
  Calls prog 27 #[zP q,zP u,zP m] w fun o w'=>∃ s,o=.returned (zI s)/\Q s w':=by
 have r:=hE.rule 0 rfl;unfold ay at r;have HC:=zH hc;clear hc hE
 rcases ax with rfl | rfl | rfl
 ·go_enter func27,ntmps27;go_wp2_with fail;refine HC.out.mono ?_;rintro e w1 ⟨s,rfl,hs,h0,h1⟩
  rcases hs with rfl | rfl
  ·have hq:=h0 rfl;clear h0 h1 HC;go_wp2_with fail;go_ret;exact⟨0,rfl,hq⟩
  ·have HF:=zH (h1 rfl);clear h0 h1 HC;go_wp2_with fail;refine HF.out.mono ?_;rintro e w2 ⟨s2,rfl,hq⟩;go_wp2_with fail;go_ret;exact⟨s2,rfl,hq⟩
 ·go_enter func27,ntmps27;go_wp2_with fail;refine HC.out.mono ?_;rintro e w1 ⟨s,rfl,hs,h0,h1⟩
  rcases hs with rfl | rfl
  ·have hq:=h0 rfl;clear h0 h1 HC;go_wp2_with fail;go_ret;exact⟨0,rfl,hq⟩
  ·have HF:=zH (h1 rfl);clear h0 h1 HC;go_wp2_with fail;refine HF.out.mono ?_;rintro e w2 ⟨s2,rfl,hq⟩;go_wp2_with fail;go_ret;exact⟨s2,rfl,hq⟩
 ·go_enter func27,ntmps27;go_wp2_with fail;refine HC.out.mono ?_;rintro e w1 ⟨s,rfl,hs,h0,h1⟩
  rcases hs with rfl | rfl
  ·have hq:=h0 rfl;clear h0 h1 HC;go_wp2_with fail;go_ret;exact⟨0,rfl,hq⟩
  ·have HF:=zH (h1 rfl);clear h0 h1 HC;go_wp2_with fail;refine HF.out.mono ?_;rintro e w2 ⟨s2,rfl,hq⟩;go_wp2_with fail;go_ret;exact⟨s2,rfl,hq⟩
theorem Oe (Q:Int->World->Prop) (hE:Env w0 (ae q (ay kd key val lv 0 pf pa pr n l y an er dn)::L) w)
  (hc:∀ fb v,Env w0 (ae q (ay kd key val lv 1 (some ⟨fb,0,none⟩) pa pr n l y an er dn)::ae fb (aY key (-1) V0)::L) v->Calls prog 64 #[zP fb,zP u,zP m] v fun o w1=>∃ s,o=.returned (zI s)/\(s=0\/s=1)/\(s=0->Q 0 w1)/\(s=1->Calls prog 65 #[zP q,zP u] w1 fun o2 w2=>∃ s2,o2=.returned (zI s2)/\Q s2 w2)) :
  Calls prog 27 #[zP q,zP u,zP m] w fun o w'=>∃ s,o=.returned (zI s)/\Q s w':=by
 have r:=hE.rule 0 rfl;unfold ay at r;have E8:=zH hc;clear hc;go_enter func27,ntmps27;go_wp2_with fail;refine (ou 1 hE).mono ?_;rintro e w3 ⟨rfl,fb,bM⟩;have HC:=zH (E8.out fb w3 bM);clear E8 hE r;have r:=bM.rule 0 rfl;unfold ay at r;clear bM;go_wp2_with fail;refine HC.out.mono ?_;rintro e w1 ⟨s,rfl,hs,h0,h1⟩
 rcases hs with rfl | rfl
 ·have hq:=h0 rfl;clear h0 h1 HC;go_wp2_with fail;go_ret;exact⟨0,rfl,hq⟩
 ·have HF:=zH (h1 rfl);clear h0 h1 HC;go_wp2_with fail;refine HF.out.mono ?_;rintro e w2 ⟨s2,rfl,hq⟩;go_wp2_with fail;go_ret;exact⟨s2,rfl,hq⟩
theorem Og (s s2:Int) (A1 A2:World->Prop) (hE:Env w0 (ae q (ay kd key val lv 4 pf (some ⟨a,0,none⟩) pr n l y an er dn)::L) w)
  (hq:∀ v,A1 v->ao 0 v q (ay kd key val lv 4 pf (some ⟨a,0,none⟩) pr n l y an er dn)) (gB:∀ v,A2 v->∃ sC qP e9,ao 0 v q (ay kd key val lv qP sC (some ⟨a,0,none⟩) pr n l y an e9 dn))
  (hc:∀ v,Env w0 (ae q (ay kd key val lv 4 pf (some ⟨a,0,none⟩) pr n l y an er dn)::L) v->Calls prog 67 #[zP a,zP u,zP m,.agg #[zI kd,zU key,zU val,zI lv]] v fun o w1=>o=.returned (zI s)/\A1 w1)
  (o3:∀ v,A1 v->Calls prog 66 #[zP q,zI s] v fun o w1=>o=.returned (zI s2)/\A2 w1) :
  Calls prog 27 #[zP q,zP u,zP m] w fun o w'=>o=.returned (zI s2)/\A2 w':=by
 have r:=hE.rule 0 rfl;unfold ay at r;have HC:=zH hc;have gT:=zH o3;have HQ:=zH hq;have ku:=zH gB;clear hc o3 hq gB;go_enter func27,ntmps27;go_wp2_with fail;clear r;refine Ord3.wp_chain [?_,?_,?_,?_,?_,?_,?_,?_,?_,?_,?_,?_,?_,?_] [11,12] (fun w'=>∃ sC qP e9,ao 0 w' q (ay kd key val lv qP sC (some ⟨a,0,none⟩) pr n l y an e9 dn)) (Ord3.Stage fun κs=>[Env w0 (ae q (ay kd key val lv 4 pf (some ⟨a,0,none⟩) pr n l y an er dn)::L),A1,A2]) (by kernel_rfl) (by kernel_rfl) (by kernel_rfl) ⟨pf,4,er,hE.drew.get 0 rfl⟩ ⟨_,rfl,hE.drew⟩ (fun hT=>?_);rotate_left 14;have af:=zH hT;clear hT
 repeat ((first
  | (focus (refine Ord3.in_value (v:=?_) af.o (by decide) ?_ (by rfl) ?_ ?_;rotate_left 2;(intro w5 hS;obtain⟨xG,qP,e9,jJ⟩:=hS;have r1:=ao.rule jJ;unfold ay at r1;go_simp<;>rfl);rotate_right;(focus rfl)))
  | (focus (refine Ord3.in_off af.o (by decide) ?_ (by rfl) ?_;(focus rfl))));try simp only[Act.put,zA,zZ,zS])
 refine Ord3.in_turn (fun x=>x=zI s) _ rfl af.o rfl (by decide) (by rfl) ?_ (Or.inl rfl) (by rfl) ?_ ?_
 ·rfl
 ·rintro w7 eY ⟨P7,dD,bI⟩;cases dD;go_simp;simp only[Ord3.Lands];refine (HC.out _ bI).mono ?_;rintro o w8 ⟨rfl,pn⟩;exact⟨_,rfl,rfl,⟨_,_,_,HQ.out _ pn⟩,_,rfl,pn⟩
 rintro _ rfl
 try simp only[Act.put,zA,zZ,zS]
 refine Ord3.in_turn (fun x=>x=zI s2) _ rfl af.o rfl (by decide) (by rfl) ?_ (Or.inr ⟨_,11,[],rfl,by kernel_rfl,by kernel_rfl,rfl⟩) (by rfl) ?_ ?_
 ·rfl
 ·rintro w7 eY ⟨P7,dD,bI⟩;cases dD;go_simp;simp only[Ord3.Lands];refine (gT.out _ bI).mono ?_;rintro o w8 ⟨rfl,pn⟩;exact⟨_,rfl,rfl,ku.out _ pn,_,rfl,pn⟩
 rintro _ rfl
 try simp only[Act.put,zA,zZ,zS]
 repeat ((first
  | (focus (refine Ord3.in_value (v:=?_) af.o (by decide) ?_ (by rfl) ?_ ?_;rotate_left 2;(intro w5 hS;skip;go_simp<;>rfl);rotate_right;(focus rfl)))
  | (focus (refine Ord3.in_off af.o (by decide) ?_ (by rfl) ?_;(focus rfl))));try simp only[Act.put,zA,zZ,zS])
 refine Ord3.in_nil rfl ?_;rintro w9 aL ⟨P9,dW,ai⟩;cases dW;clear af aL hE;have HA:=zH ai;clear ai;go_wp2_with fail;go_ret;exact⟨rfl,HA.out⟩
theorem Oh (Q:Int->World->Prop) (hE:Env w0 (ae q (ay kd key val lv 30 pf pa (some ⟨c,0,none⟩) n l y an er dn)::L) w)
  (hc:∀ v,Env w0 (ae q (ay kd key val lv 30 pf pa (some ⟨c,0,none⟩) n l y an er true)::L) v->Calls prog 68 #[zP c,zP u,zP m] v fun o w1=>∃ s,o=.returned (zI s)/\Q s w1) :
  Calls prog 27 #[zP q,zP u,zP m] w fun o w'=>∃ s,o=.returned (zI s)/\Q s w':=by
 have r:=hE.rule 0 rfl;unfold ay at r;have f13:=hE.thaw 0 rfl 13 (by simp[ay]);have hP:=hE.put 0 rfl (j:=13) (by simp[ay]) (.bool true);have HC:=zH hc;clear hc hE;go_enter func27,ntmps27
 go_upto_region 14 with fail
 generalize World.setCell _ _ _=w2 at *;replace hP:Env w0 (ae q (ay kd key val lv 30 pf pa (some ⟨c,0,none⟩) n l y an er true)::L) w2:=hP;have gT:=zH (HC.out _ hP);clear HC r f13;have r:=hP.rule 0 rfl;unfold ay at r;clear hP;go_wp2_with fail;refine gT.out.mono ?_;rintro e w3 ⟨s,rfl,hq⟩;go_wp2_with fail;go_ret;exact⟨s,rfl,hq⟩
theorem qQ (ax:pc=10\/pc=11\/pc=12\/pc=13\/pc=14\/pc=15) (Q:Int->World->Prop) (hE:Env w0 (ae q (ay kd key val lv pc pf pa pr n l y an er dn)::L) w)
  (hc:Calls prog 70 #[zP q,zP u,zP m] w fun o w1=>∃ s,o=.returned (zI s)/\Q s w1) :
  Calls prog 27 #[zP q,zP u,zP m] w fun o w'=>∃ s,o=.returned (zI s)/\Q s w':=by
 have r:=hE.rule 0 rfl;unfold ay at r;have HC:=zH hc;clear hc hE
 rcases ax with rfl | rfl | rfl | rfl | rfl | rfl
 all_goals
  go_enter func27,ntmps27;go_wp2_with fail;refine HC.out.mono ?_;rintro e w3 ⟨s,rfl,hq⟩;go_wp2_with fail;go_ret;exact⟨s,rfl,hq⟩
theorem ur (ax:pc=20\/pc=21\/pc=22\/pc=23\/pc=24\/pc=25) (Q:Int->World->Prop) (hE:Env w0 (ae q (ay kd key val lv pc pf pa pr n l y an er dn)::L) w)
  (hc:Calls prog 69 #[zP q,zP u,zP m] w fun o w1=>∃ s,o=.returned (zI s)/\Q s w1) :
  Calls prog 27 #[zP q,zP u,zP m] w fun o w'=>∃ s,o=.returned (zI s)/\Q s w':=by
 have r:=hE.rule 0 rfl;unfold ay at r;have HC:=zH hc;clear hc hE
 rcases ax with rfl | rfl | rfl | rfl | rfl | rfl
 all_goals
  go_enter func27,ntmps27;go_wp2_with fail;refine HC.out.mono ?_;rintro e w3 ⟨s,rfl,hq⟩;go_wp2_with fail;go_ret;exact⟨s,rfl,hq⟩
end
structure jy (C:Cf):Prop where
 (s:1<=C.s/\C.s<=8388607)
 (l:1<=C.l/\C.l<=1099511627775)
structure db (C:Cf) (f:Mem):Prop where
 (u:∀ x,aD (f x))
 (pool:aA (f (2,0,0))<=C.s)
 (chain:∀ i,aA (f (5,i,2))<=C.s)
 (ep:f (1,0,0)<=C.l)
structure dM (C:Cf) (ds:List Dd) (B:Nat) (T:Th):Prop where
 (e:0<=T.e/\T.e<=C.l)
 (w:aD T.ah/\aD T.an/\aD T.ar)
 (hs:0<=T.hs/\T.hs<=C.s)
 (rs:0<=T.rs/\T.rs<=C.s)
 (ql:∀ x∈T.ql,1<=x.1/\x.1<=C.s/\x.2.2=0)
 (nd:T.nd<=ds.length)
 (len:T.ql.length+(ds.length - T.nd)<=B)
 (done:0<=T.done/\T.done<=B)
 (pc:T.pc=0\/T.pc=1\/T.pc=2\/T.pc=3\/T.pc=4)
 (p1:T.pc=1->T.hs=0)
 (nd1:T.pc≠0->1<=T.nd)
 (apc:T.pc=2->T.apc=1\/T.apc=2\/T.apc=3\/T.apc=4\/T.apc=5\/T.apc=6\/10<=T.apc)
 (low:T.pc=2->T.apc<=10->T.hs=0)
 (adv:T.pc=2->T.apc=1->T.e < C.l)
 (born:T.pc=2->T.apc=10->T.ql≠[])
 (pool:T.pc=2->4<=T.apc->T.apc<=6->1<=aA T.ah/\aA T.ah<=C.s/\dr T.ah < C.l)
 (an:aA T.an<=C.s)
 (rpc:T.pc=3->T.rpc=0\/T.rpc=1)
 (rsp:T.pc=3->1<=T.rs)
 (re:0<=T.re/\T.re<=C.l)
 (gpc:T.gpc<=3)
 (give:T.pc=4->1<=T.gpc->T.ql≠[])
 (ghu:aD T.gh)
 (gh:aA T.gh<=C.s)
 (gv:T.pc=4->2<=T.gpc->dr T.gh < C.l)
theorem no {a b:Nat} {P:Prop} (h:a=b) (E9:(a==b)=false):P:=by
 simp at E9;exact absurd h E9
theorem xT {x s S:Int} (h0:0<=S) (hs:s<=S):aA (eh x s)<=S:=by
 have h9:aA 0=0:=by decide
 unfold eh
 split
 ·rename_i h;have:=Dn h;have hv:=tu x
  split
  ·omega
  ·rw[zv (I4 this.1 this.2 (by omega) (by omega))];exact hs
 ·omega
theorem Oi {s S:Int} (h0:0<=S) (hs:s<=S):aA (aP false s 0)<=S:=by
 have h9:aA 0=0:=by decide
 by_cases h:il s 0=true
 ·rw[zv h];exact hs
 ·rw[zu (by simpa using h)];omega
theorem Oj {x l:Int} (hx:aD x) (h:x<=l) (hl:l<=1099511627775):bg x=x/\0<=x:=by
 unfold aD at hx;unfold bg;rw[if_pos (by omega)];exact⟨rfl,by omega⟩
theorem uu (f:Mem) (x y:aI) (o v:Int):swf f x o v y=if y=x/\f x=o then v else f y:=by
 unfold swf upd
 by_cases h:f x=o
 ·rw[if_pos h]
  by_cases hy:y=x
  ·rw[if_pos hy,if_pos ⟨hy,h⟩]
  ·rw[if_neg hy,if_neg (fun h2=>hy h2.1)]
 ·rw[if_neg h,if_neg (fun h2=>h h2.2)]
theorem Fa (ck e key val lv:Int) (k:Nat):((cX ck e key val lv).getD k (0,0)).1≠2:=by
 rw[List.getD_eq_getElem?_getD]
 rcases h:(cX ck e key val lv)[k]? with _ | ⟨a,b⟩
 ·simp
 ·have hm:(a,b)∈cX ck e key val lv:=List.mem_of_getElem? h;simp only[Option.getD_some];unfold cX at hm
  split at hm
  ·simp at hm
   rcases hm with ⟨rfl,rfl⟩ | ⟨rfl,rfl⟩ | ⟨rfl,rfl⟩ | ⟨rfl,rfl⟩<;>decide
  ·split at hm
   ·simp at hm
    rcases hm with ⟨rfl,rfl⟩ | ⟨rfl,rfl⟩ | ⟨rfl,rfl⟩ | ⟨rfl,rfl⟩ | ⟨rfl,rfl⟩<;>decide
   ·simp at hm
    rcases hm with ⟨rfl,rfl⟩ | ⟨rfl,rfl⟩ | ⟨rfl,rfl⟩<;>decide
section
variable {C:Cf} {ds:List Dd} {B:Nat} {T:Th} {f:Mem} {d:Dd}
theorem dM.more (h:dM C ds B T):dM C ds (B+1) T :=
 { h with len:=by have:=h.len;omega,done:=by have:=h.done;constructor<;>omega }
theorem db.upd (h:db C f) {x:aI} {v:Int} (h1:x≠(1,0,0)) (h2:x≠(2,0,0)) (h3:∀ i,x=(5,i,2)->aA v<=C.s) (hu:∀ y,aD (Proofs.YtleklonmmlfijaaGreatDoor.upd f x v y)):db C (Proofs.YtleklonmmlfijaaGreatDoor.upd f x v):=by
 refine⟨hu,?_,?_,?_⟩
 ·rw[kn f v (fun e=>h2 e.symm)];exact h.pool
 ·intro i
  by_cases hx:(5,i,2)=x
  ·rw[<- hx,rC];exact h3 i hx.symm
  ·rw[kn f v hx];exact h.chain i
 ·rw[kn f v (fun e=>h1 e.symm)];exact h.ep
theorem db.swp (h:db C f) {o v:Int} (hv:aA v<=C.s) (hu:∀ y,aD (swf f (2,0,0) o v y)):db C (swf f (2,0,0) o v):=by
 refine⟨hu,?_,?_,?_⟩
 ·rw[uu];split
  ·exact hv
  ·exact h.pool
 ·intro i;rw[uu,if_neg (by simp)];exact h.chain i
 ·rw[uu,if_neg (by simp)];exact h.ep
theorem db.swe (h:db C f) {o v:Int} (hv:v<=C.l) (hu:∀ y,aD (swf f (1,0,0) o v y)):db C (swf f (1,0,0) o v):=by
 refine⟨hu,?_,?_,?_⟩
 ·rw[uu,if_neg (by simp)];exact h.pool
 ·intro i;rw[uu,if_neg (by simp)];exact h.chain i
 ·rw[uu];split
  ·exact hv
  ·exact h.ep
end
structure jL (C:Cf) (lv:Int) (L:Lm):Prop where
 (ok:eJ L)
 (wf:Wf L.p)
 (at9:fc lv L.p)
 (x:6<=L.pc->cO L.X=false)
 (c:3<=L.pc->1<=L.C)
 (sw:aA L.W<=C.s)
 (sx:aA L.X<=C.s)
 (cs:L.C<=C.s)
structure iX (C:Cf) (lv:Int) (L:Lm):Prop where
 (W:aD L.W)
 (X:aD L.X)
 (wf:Wf L.p)
 (at9:fc lv L.p)
 (Cr:0<=L.C/\L.C<=8388607)
 (fd:L.fd=true->1<=L.C/\cO L.X=false)
 (sw:aA L.W<=C.s)
 (sx:aA L.X<=C.s)
 (cs:L.C<=C.s)
structure di (C:Cf) (f:Mem):Prop where
 (root:∀ r,aA (f (4,0,r))<=C.s)
 (link:∀ i l,0<=l->aA (f (5,i,7+l))<=C.s)
theorem di.at9 {C:Cf} {f:Mem} (h:di C f) {p:aI} {lv:Int} (h0:0<=lv) (hp:fc lv p):aA (f p)<=C.s:=by
 rcases hp with rfl | ⟨c,-,-,rfl⟩
 ·exact h.root _
 ·exact h.link c lv h0
theorem sD {m:Bool} {s e S:Int} (h0:0<=S) (hs:s<=S):aA (aP m s e)<=S:=by
 have hz:aA 0=0:=by decide
 by_cases h:il s e=true
 ·rw[zv h];exact hs
 ·have hw:aP m s e=0:=by unfold aP;rw[if_neg h]
  rw[hw,hz];exact h0
section
variable {C:Cf} {lv key e:Int} {vs:Bool} {L:Lm} {f:Mem}
theorem jL.start {p:aI} (hp:fc lv p) (aH:0<=lv/\lv<=1000000) (h0:0<=C.s):jL C lv (L0 p):=by
 have hz:aA 0=0:=by decide
 refine⟨eJ.start _,hp.wf (by omega),hp,fun h=>absurd h (by simp[L0]),fun h=>absurd h (by simp[L0]),?_,?_,?_⟩
 ·show aA 0<=C.s;omega
 ·show aA 0<=C.s;omega
 ·show (0:Int)<=C.s;omega
theorem jL.come (h:jL C lv L) {p:aI} (hp:fc lv p) (aZ:Wf p) (h7:L.pc<=7) (h0:0<=C.s) {v:Int} (hv:aD v) (dL:aA v<=C.s) (bu:aA v≠0):jL C lv { L with p:=p,W:=v,X:=0,C:=aA v,pc:=3 }:=by
 have hz:aA 0=0:=by decide
 have hi:=nV v;have Au:eJ { L with p:=p }:=⟨h.ok.pc,h.ok.v,h.ok.fd,h.ok.ft,h.ok.x,h.ok.c0,h.ok.W,h.ok.X,h.ok.C⟩;refine⟨Au.come h7 v hv,aZ,hp,fun h=>absurd h (by simp),fun _=>?_,dL,?_,dL⟩
 ·show 1<=aA v;omega
 ·show aA 0<=C.s;omega
theorem jL.comeEnd (h:jL C lv L) {p:aI} (hp:fc lv p) (aZ:Wf p) (h7:L.pc<=7) (h0:0<=C.s) {v:Int} (hv:aD v) (dL:aA v<=C.s):iX C lv { L with p:=p,W:=v,X:=0,C:=aA v,pc:=3 }:=by
 have hz:aA 0=0:=by decide
 refine⟨hv,by show aD 0;simp[aD],aZ,hp,nV v,fun hf=>?_,dL,?_,dL⟩
 ·have h9:L.fd=true:=hf;rw[h.ok.fd h7] at h9;exact absurd h9 (by decide)
 ·show aA 0<=C.s;omega
theorem jL.spot (h:jL C lv L) (h6:6<=L.pc):iX C lv L :=
 ⟨h.ok.W,h.ok.X,h.wf,h.at9,h.ok.C,fun _=>⟨h.c (by omega),h.x h6⟩,h.sw,h.sx,h.cs⟩
theorem Bt {v:Int} (h:cS v=0):aA v≠0:=fun h0=>by rw[cS,if_pos h0] at h;exact absurd h (by decide)
theorem Ol (aH:0<=lv/\lv<=1000000) (h:jL C lv L) (hW:∀ x,aD (f x)) (hS:di C f) (h0:0<=C.s):((aF lv key vs e L f).1=0->jL C lv (aF lv key vs e L f).2.1)/\((aF lv key vs e L f).1=1->iX C lv (aF lv key vs e L f).2.1):=by
 have hL:=h.ok;have HK:(aF lv key vs e L f).1=0->eJ (aF lv key vs e L f).2.1:=fun h9=>(K5 hL hW h.wf aH h9).1
 rcases hL.pc with ax | ax | ax | ax | ax | ax | ax | ax | ax
 ·have hM:aF lv key vs e L f=(0,{ L with W:=f L.p,pc:=2 },f):=by simp[aF,ax]
  rw[hM];refine⟨fun h9=>⟨(by have h8:=HK (by rw[hM]);rw[hM] at h8;exact h8),h.wf,h.at9,fun h=>absurd h (by simp),fun h=>absurd h (by simp),hS.at9 aH.1 h.at9,h.sx,h.cs⟩,fun h9=>absurd h9 (by simp)⟩
 ·by_cases aG:okB (f (1,0,0)) e=true
  ·by_cases bA:cO L.W=true
   ·have hM:aF lv key vs e L f=(2,L,f):=by simp[aF,eC,ax,aG,bA]
    rw[hM];exact⟨fun h=>absurd h (by simp),fun h=>absurd h (by simp)⟩
   ·have hM:aF lv key vs e L f=(cS L.W,{ L with W:=L.W,X:=0,C:=aA L.W,pc:=3 },f):=by simp[aF,eC,ax,aG,bA,jv]
    rw[hM];exact⟨fun h9=>h.come h.at9 h.wf (by omega) h0 hL.W h.sw (Bt h9),fun _=>h.comeEnd h.at9 h.wf (by omega) h0 hL.W h.sw⟩
  ·have hM:aF lv key vs e L f=(2,L,f):=by simp[aF,ax,aG]
   rw[hM];exact⟨fun h=>absurd h (by simp),fun h=>absurd h (by simp)⟩
 ·have hM:aF lv key vs e L f=(0,{ L with X:=f (5,L.C,7+lv),pc:=4 },f):=by simp[aF,ax]
  rw[hM];refine⟨fun h9=>⟨(by have h8:=HK (by rw[hM]);rw[hM] at h8;exact h8),h.wf,h.at9,fun h=>absurd h (by simp),fun _=>h.c (by omega),h.sw,hS.link _ _ aH.1,h.cs⟩,fun h9=>absurd h9 (by simp)⟩
 ·by_cases aG:okB (f (1,0,0)) e=true
  ·have hM:aF lv key vs e L f=(0,{ L with pc:=if cO L.X then 5 else 6 },f):=by simp[aF,eC,ax,aG]
   rw[hM];refine⟨fun h9=>⟨(by have h8:=HK (by rw[hM]);rw[hM] at h8;exact h8),h.wf,h.at9,fun h6=>?_,fun _=>h.c (by omega),h.sw,h.sx,h.cs⟩,fun h9=>absurd h9 (by simp)⟩;dsimp only at h6 ⊢;cases hm:cO L.X
   ·rfl
   ·rw[hm] at h6;exact absurd h6 (by decide)
  ·have hM:aF lv key vs e L f=(2,L,f):=by simp[aF,ax,aG]
   rw[hM];exact⟨fun h=>absurd h (by simp),fun h=>absurd h (by simp)⟩
 ·by_cases heq:f L.p=L.W
  ·have hM:aF lv key vs e L f=(cS (aP false (aA L.X) e),{ L with W:=aP false (aA L.X) e,X:=0,C:=aA (aP false (aA L.X) e),pc:=3 },swf f L.p L.W (aP false (aA L.X) e)):=by simp[aF,ax,heq,jv]
   rw[hM];have hle:=sD (m:=false) (e:=e) h0 h.sx;exact⟨fun h9=>h.come h.at9 h.wf (by omega) h0 (kN _ _ _) hle (Bt h9),fun _=>h.comeEnd h.at9 h.wf (by omega) h0 (kN _ _ _) hle⟩
  ·have hM:aF lv key vs e L f=(2,L,swf f L.p L.W (aP false (aA L.X) e)):=by simp[aF,ax,heq]
   rw[hM];exact⟨fun h=>absurd h (by simp),fun h=>absurd h (by simp)⟩
 ·have hM:aF lv key vs e L f=(0,{ L with K:=f (5,L.C,3),pc:=7 },f):=by simp[aF,ax]
  rw[hM];refine⟨fun h9=>⟨(by have h8:=HK (by rw[hM]);rw[hM] at h8;exact h8),h.wf,h.at9,fun _=>h.x (by omega),fun _=>h.c (by omega),h.sw,h.sx,h.cs⟩,fun h9=>absurd h9 (by simp)⟩
 ·by_cases aG:okB (f (1,0,0)) e=true
  ·by_cases aE:L.K < key
   ·have hM:aF lv key vs e L f=(cS L.X,{ L with p:=(5,L.C,7+lv),W:=L.X,X:=0,C:=aA L.X,pc:=3 },f):=by simp[aF,eC,ax,aG,aE,jv]
    rw[hM];have aZ:Wf (5,L.C,7+lv):=vq hL.C (by omega);exact⟨fun h9=>h.come (.inr ⟨_,hL.C.1,hL.C.2,rfl⟩) aZ (by omega) h0 hL.X h.sx (Bt h9),fun _=>h.comeEnd (.inr ⟨_,hL.C.1,hL.C.2,rfl⟩) aZ (by omega) h0 hL.X h.sx⟩
   ·by_cases heq:L.K=key
    ·cases vs;rotate_left
     ·have hM:aF lv key true e L f=(0,{ L with fd:=true,pc:=8 },f):=by simp[aF,eC,ax,aG,heq]
      rw[hM];exact⟨fun h9=>⟨(by have h8:=HK (by rw[hM]);rw[hM] at h8;exact h8),h.wf,h.at9,fun _=>h.x (by omega),fun _=>h.c (by omega),h.sw,h.sx,h.cs⟩,fun h9=>absurd h9 (by simp)⟩
     have hM:aF lv key false e L f=(1,{ L with fd:=true },f):=by simp[aF,eC,ax,aG,heq]
     rw[hM];have jh:=h.spot (by omega);exact⟨fun h=>absurd h (by simp),fun _=>⟨jh.W,jh.X,jh.wf,jh.at9,jh.Cr,fun _=>⟨h.c (by omega),h.x (by omega)⟩,jh.sw,jh.sx,jh.cs⟩⟩
    ·have hM:aF lv key vs e L f=(1,L,f):=by simp[aF,eC,ax,aG,aE,heq]
     rw[hM];exact⟨fun h=>absurd h (by simp),fun _=>h.spot (by omega)⟩
  ·have hM:aF lv key vs e L f=(2,L,f):=by simp[aF,ax,aG]
   rw[hM];exact⟨fun h=>absurd h (by simp),fun h=>absurd h (by simp)⟩
 ·have hM:aF lv key vs e L f=(0,{ L with V:=f (5,L.C,4),pc:=9 },f):=by simp[aF,ax]
  rw[hM];refine⟨fun h9=>⟨(by have h8:=HK (by rw[hM]);rw[hM] at h8;exact h8),h.wf,h.at9,fun _=>h.x (by omega),fun _=>h.c (by omega),h.sw,h.sx,h.cs⟩,fun h9=>absurd h9 (by simp)⟩
 ·by_cases aG:okB (f (1,0,0)) e=true
  ·have hM:aF lv key vs e L f=(1,L,f):=by simp[aF,eC,ax,aG]
   rw[hM];exact⟨fun h=>absurd h (by simp),fun _=>h.spot (by omega)⟩
  ·have hM:aF lv key vs e L f=(2,L,f):=by simp[aF,ax,aG]
   rw[hM];exact⟨fun h=>absurd h (by simp),fun h=>absurd h (by simp)⟩
end
def gW (C:Cf) (h:Nat) (on:Bool) (fl:Nat) (L:Nat->Lm):Prop:=on=true->fl < h/\jL C fl (L fl)/\∀ l,fl < l->l < h->iX C l (L l)
section
variable {C:Cf} {h:Nat} {key e r:Int} {on:Bool} {fl:Nat} {L:Nat->Lm} {f:Mem}
theorem gW.fm (hF:gW C h on fl L):tQ h ⟨on,fl,L,e,r⟩:=fun ho=>⟨(hF ho).1,(hF ho).2.1.ok,(hF ho).2.1.at9⟩
theorem Om (hh:1<=h) (pd:h<=1000) (hF:gW C h on fl L) (hW:∀ x,aD (f x)) (hS:di C f) (h0:0<=C.s) :
  ((bm h key ⟨on,fl,L,e,r⟩ f).1=0->gW C h (bm h key ⟨on,fl,L,e,r⟩ f).2.1.on (bm h key ⟨on,fl,L,e,r⟩ f).2.1.lv (bm h key ⟨on,fl,L,e,r⟩ f).2.1.L)/\((bm h key ⟨on,fl,L,e,r⟩ f).1=1->∀ l,l < h->iX C l ((bm h key ⟨on,fl,L,e,r⟩ f).2.1.L l)):=by
 cases on
 ·have hM:bm h key ⟨false,fl,L,e,r⟩ f=(0,⟨true,h - 1,cN L (h - 1) (L0 (4,0,((h - 1:Nat):Int))),bg (f (1,0,0)),r⟩,f):=by unfold bm;rw[if_neg (by simp)]
  rw[hM];refine⟨fun _ _=>⟨by show h - 1 < h;omega,?_,fun l h1 h2=>absurd h1 (by show ¬ h - 1 < l;omega)⟩,fun h9=>absurd h9 (by simp)⟩;show jL C ((h - 1:Nat):Int) (cN (α:=Lm) _ _ _ (h - 1));rw[gD];exact jL.start (.inl rfl) (by omega) h0
 ·obtain⟨aE,hL,hD⟩:=hF rfl;have hk:=Ol (key:=key) (vs:=false) (e:=e) (by omega) hL hW hS h0;have fQ:fc fl (aF fl key false e (L fl) f).2.1.p:=hL.at9.lane hL.ok.C;have bY:=xD fl key false e (L fl) f;have hM:bm h key ⟨true,fl,L,e,r⟩ f=(if (aF fl key false e (L fl) f).1=1/\fl=0 then 1 else 0,
   (if (aF fl key false e (L fl) f).1=2 then ⟨false,fl,L,e,cU e (L fl) f r⟩
    else if (aF fl key false e (L fl) f).1=1/\fl≠0 then
     ⟨true,fl - 1,cN (cN L fl (aF fl key false e (L fl) f).2.1) (fl - 1) (L0 (kB (aF fl key false e (L fl) f).2.1.p)),e,cU e (L fl) f r⟩
    else ⟨true,fl,cN L fl (aF fl key false e (L fl) f).2.1,e,cU e (L fl) f r⟩),
   (aF fl key false e (L fl) f).2.2):=by unfold bm;rw[if_pos rfl]
  rw[hM];dsimp only;generalize aF fl key false e (L fl) f=q at *;obtain⟨q1,L',f'⟩:=q;dsimp only at hk fQ bY ⊢
  rcases bY with h1 | h1 | h1
  ·subst h1;rw[if_neg (by simp),if_neg (by decide),if_neg (by simp)];refine⟨fun _ _=>⟨aE,?_,fun l h2 h3=>?_⟩,fun h9=>absurd h9 (by decide)⟩
   ·show jL C _ (cN (α:=Lm) _ _ _ fl);rw[gD];exact hk.1 rfl
   ·have h4:fl < l:=h2;show iX C _ (cN (α:=Lm) _ _ _ l);rw[gQ _ _ (by omega)];exact hD l h4 h3
  ·subst h1;have hs:=hk.2 rfl
   by_cases hz:fl=0
   ·rw[if_pos ⟨rfl,hz⟩,if_neg (by decide),if_neg (by simp[hz])];refine⟨fun h9=>absurd h9 (by decide),fun _ l h3=>?_⟩;show iX C _ (cN (α:=Lm) _ _ _ l)
    by_cases h2:l=fl
    ·subst h2;rw[gD];exact hs
    ·rw[gQ _ _ h2];exact hD l (by omega) h3
   ·rw[if_neg (by simp[hz]),if_neg (by decide),if_pos ⟨rfl,hz⟩];have e1:((fl - 1:Nat):Int)=(fl:Int) - 1:=by omega
    refine⟨fun _ _=>⟨by show fl - 1 < h;omega,?_,fun l h2 h3=>?_⟩,fun h9=>absurd h9 (by decide)⟩
    ·show jL C ((fl - 1:Nat):Int) (cN (α:=Lm) _ _ _ (fl - 1));rw[gD];refine jL.start ?_ (by omega) h0;show fc ((fl - 1:Nat):Int) _;rw[e1];exact fQ.below
    ·have h4:fl - 1 < l:=h2;show iX C _ (cN (α:=Lm) _ _ _ l);rw[gQ _ _ (by omega)]
     by_cases h5:l=fl
     ·subst h5;rw[gD];exact hs
     ·rw[gQ _ _ h5];exact hD l (by omega) h3
  ·subst h1;rw[if_neg (by simp),if_pos rfl];exact⟨fun _ h9=>absurd h9 (by simp),fun h9=>absurd h9 (by decide)⟩
end
def aW (C:Cf) (X:Tm) (V:Wm) (K:Kt) (FU:Nat->Prop) (ml:List bT):SU:=SR C { X with ro:=K.r } V K.T FU ml
inductive dY (C:Cf) (d:Dd) (K:Kt) (q:Nat):List Item->Prop where
 | find (fb:Nat) (G:Nat->List Value) (pa pr:Option Addr) (n l y:Int) (an:Bool) (ax:K.pc=1) (dC:K.ft<=2) (h0:K.ft=0->K.an=false) (hn:K.ft≠0->n=K.n) (hl:K.ft=1->l=(K.lv:Int)) (bB:0<=l/\l<=1000) (hG:∀ i,(G i).length=13) (ek:K.on=true->∀ i,K.fl<=i->i < C.h.toNat->G i=dG (i:Int) d.key false (K.L i)) :
   dY C d K q [ae q (ay d.ok d.key d.val d.lv ((K.ft:Int)+1) (some ⟨fb,0,none⟩) pa pr n l y an 0 false),ae fb (aY d.key (if K.on then (K.fl:Int) else -1) G)]
 | take (a:Nat) (pf pr:Option Addr) (n l y:Int) (an:Bool) (ax:K.pc=2) (cY:K.an=false) (bB:0<=l/\l<=1000) :
   dY C d K q [ae q (ay d.ok d.key d.val d.lv 4 pf (some ⟨a,0,none⟩) pr n l y an 0 false),ae a (aM (K.T.apc:Int) K.T.ah K.T.an K.T.ar)]
 | ins (pc:Int) (fb:Nat) (G:Nat->List Value) (pa pr:Option Addr) (l y l0:Int) (ax:(K.pc=3/\pc=10/\K.an=false/\l=(K.lv:Int))\/(K.pc=4/\pc=11/\K.an=false)\/(K.pc=5/\pc=12/\l=(K.lv:Int))\/(K.pc=6/\pc=13/\l=(K.lv:Int))\/(K.pc=9/\pc=14/\l=(K.lv:Int)/\y=K.y)) (bB:0<=l/\l<=1000) (hG:∀ i,(G i).length=13) (ek:∀ i,i < C.h.toNat->G i=dG (i:Int) d.key false (K.L i)) :
   dY C d K q [ae q (ay d.ok d.key d.val d.lv pc (some ⟨fb,0,none⟩) pa pr K.n l y K.an 0 false),ae fb (aY d.key l0 G)]
 | rise (pf pa pr:Option Addr) (l y:Int) (an:Bool) (ax:K.pc=10) (bB:0<=l/\l<=1000) :
   dY C d K q [ae q (ay d.ok d.key d.val d.lv 15 pf pa pr K.n l y an 0 false)]
 | del (pc:Int) (pf pa pr:Option Addr) (l y:Int) (an:Bool) (ax:(K.pc=11/\pc=20)\/(K.pc=12/\pc=21/\y=K.y)\/(K.pc=13/\pc=22/\l=(K.lv:Int))\/(K.pc=14/\pc=23/\l=(K.lv:Int)/\y=K.y)\/(K.pc=15/\pc=24/\l=(K.lv:Int)/\y=K.y)\/(K.pc=16/\pc=25)) (cY:K.an=false) (bB:0<=l/\l<=1000) :
   dY C d K q [ae q (ay d.ok d.key d.val d.lv pc pf pa pr K.n l y an 0 false)]
 | retire (c:Nat) (pf pa:Option Addr) (n l y:Int) (an dn:Bool) (ax:K.pc=7) :
   dY C d K q [ae q (ay d.ok d.key d.val d.lv 30 pf pa (some ⟨c,0,none⟩) n l y an 0 dn),ae c (eH K.T.rs (K.T.rpc:Int) K.T.re)]
def bX (w0:World) (R:List Item) (C:Cf) (X:Tm) (V:Wm) (d:Dd) (q:Nat) (ml:List bT) (z:Int × Kt × Mem) (s:Int) (w':World):Prop :=
 s=z.1/\∃ A' c' N' ca aR fB,ak aR=z.2.2/\aR.length<=ml.length+1/\0<=N'/\N'<=4000000/\(z.1=0->dY C d z.2.1 q fB)/\(z.1≠0->∃ pc pf pa pr n l y an,fB=[ae q (ay d.ok d.key d.val d.lv pc pf pa pr n l y an z.2.1.err z.2.1.dn)])/\Env w0 (fB++LU (aW C { X with A:=A',rc:=c',N:=N' } V z.2.1 ca aR) R) w'
theorem lO (l:List bT) (x:aI) (o v:Int):ak (dw l x o v)=swf (ak l) x o v:=by
 unfold dw swf
 split
 ·rw[lI]
 ·rfl
section
variable {w0 w:World} {R sub:List Item} {C:Cf} {X:Tm} {V:Wm} {K:Kt} {d:Dd} {q fb:Nat} {FU:Nat->Prop} {ml aR:List bT} {A:Option Addr} {c:Nat} {N:Int} {f:Mem} {s n l y l0:Int} {an:Bool} {pf pa pr:Option Addr} {G:Nat->List Value}
theorem bX.fin {pc:Int} (hf:ak aR=f) (hl:aR.length<=ml.length+1) (hN:0<=N/\N<=4000000) (hs:s≠0) (hE:Env w0 (ae q (ay d.ok d.key d.val d.lv pc pf pa pr n l y an K.err K.dn)::LU (aW C { X with A:=A,rc:=c,N:=N } V K FU aR) R) w):bX w0 R C X V d q ml (s,K,f) s w :=
 ⟨rfl,A,c,N,FU,aR,[_],hf,hl,hN.1,hN.2,fun h=>absurd h hs,fun _=>⟨pc,pf,pa,pr,n,l,y,an,rfl⟩,hE⟩
theorem bX.go (hf:ak aR=f) (hl:aR.length<=ml.length+1) (hN:0<=N/\N<=4000000) (hp:dY C d K q sub) (hE:Env w0 (sub++LU (aW C { X with A:=A,rc:=c,N:=N } V K FU aR) R) w):bX w0 R C X V d q ml (0,K,f) 0 w :=
 ⟨rfl,A,c,N,FU,aR,sub,hf,hl,hN.1,hN.2,fun _=>hp,fun h=>absurd rfl h,hE⟩
theorem bX.seek (a:Nat) (ha:a<=2) (pc:Int) (ax:pc=(a:Int)+1) (h0:a=0->K.an=false) (hn:a≠0->n=K.n) (aH:a=1->l=(K.lv:Int)) (bB:0<=l/\l<=1000) (hf:ak aR=f) (hl:aR.length<=ml.length+1) (hN:0<=N/\N<=4000000) (hE:Env w0 (ae q (ay d.ok d.key d.val d.lv pc (some ⟨fb,0,none⟩) pa pr n l y an 0 false)::ae fb (aY d.key (-1) V0)::LU (aW C { X with A:=A,rc:=c,N:=N } V K FU aR) R) w):bX w0 R C X V d q ml (0,eu a K,f) 0 w:=by
 subst ax;exact bX.go (sub:=[_,_]) (K:=eu a K) hf hl hN (dY.find fb V0 pa pr n l y an rfl ha h0 hn aH bB (fun i=>rfl) (fun h=>absurd h (by simp[eu]))) hE
theorem xU {C:Cf} (h:(K.lv:Int) < d.lv) (hd:d.lv<=(C.h.toNat:Int)):K.lv < C.h.toNat:=by omega
theorem On (ax:K.pc=3) (cY:K.an=false) (aH:(K.lv:Int) < d.lv) (hd:d.lv<=(C.h.toNat:Int)) (h16:C.h.toNat<=16) (hS:∀ i,i < C.h.toNat->iX C i (K.L i)) (hG:∀ i,(G i).length=13) (ek:∀ i,i < C.h.toNat->G i=dG (i:Int) d.key false (K.L i)) (aQ:ml.length<=999999) (hN:0<=X.N/\X.N<=4000000) (hE:Env w0 ([ae q (ay d.ok d.key d.val d.lv 10 (some ⟨fb,0,none⟩) pa pr K.n (K.lv:Int) y K.an 0 false),ae fb (aY d.key l0 G)]++LU (aW C X V K FU ml) R) w) :
  Calls prog 27 #[zP q,zP X.u,zP V.m] w fun e w'=>∃ s,e=.returned (zI s)/\bX w0 R C X V d q ml (aJ C d K (ak ml)) s w':=by
 have hM:aJ C d K (ak ml)=(0,(if ((K.lv+1:Nat):Int) < d.lv then { K with lv:=K.lv+1 } else { K with lv:=0,pc:=4 }),upd (ak ml) (bW K) (iQ K)):=by
  unfold aJ;rw[if_neg (by omega),if_neg (by omega),if_pos ax]
 rw[hM];have dx:Hid (∀ v,ao 0 v fb (aY d.key l0 G)->gu v fb C.h.toNat d.key K.L):=zH fun v hb=>gu.of hb hG h16 ek;have aE:=xU aH hd;refine qQ (.inl rfl) _ hE ?_;refine sA (U:=aW C X V K FU ml) (F:=K.L) (h:=C.h.toNat) _ (by omega) dx (show ml.length<=1000000 by omega) hE (.inl ⟨K.lv,((K.lv+1:Nat):Int),_,rfl,rfl,by omega,rfl,aE,by omega,(hS _ aE).W,fun w1 F5 az=>?_⟩);refine⟨0,rfl,?_⟩
 by_cases h2:((K.lv+1:Nat):Int) < d.lv
 ·rw[if_pos h2];rw[if_neg (by omega)] at az;exact bX.go (K:={ K with lv:=K.lv+1 }) (A:=X.A) (c:=X.rc) (N:=X.N) (sub:=[_,_]) (lI _ _ _) (mb _ _ _) hN (dY.ins (K:={ K with lv:=K.lv+1 }) 10 fb G pa pr _ y l0 (.inl ⟨ax,rfl,cY,rfl⟩) (by first | omega | (dsimp only;omega)) hG ek) az
 ·rw[if_neg h2];rw[if_pos (by omega)] at az;exact bX.go (K:={ K with lv:=0,pc:=4 }) (A:=X.A) (c:=X.rc) (N:=X.N) (sub:=[_,_]) (lI _ _ _) (mb _ _ _) hN (dY.ins (K:={ K with lv:=0,pc:=4 }) 11 fb G pa pr _ y l0 (.inr (.inl ⟨rfl,rfl,cY⟩)) (by first | omega | (dsimp only;omega)) hG ek) az
theorem Fb {K0:Kt} {i:Nat} {p2:Int} (ec:p2=if (i:Int) < d.lv then (if K0.an then 13 else 12) else 15) (hi:(i:Int)<=d.lv) (hd:d.lv<=1000) (hf:ak aR=f) (hl:aR.length<=ml.length+1) (hN:0<=N/\N<=4000000) (hG:∀ i,(G i).length=13) (ek:∀ i,i < C.h.toNat->G i=dG (i:Int) d.key false (K0.L i)) (hE:Env w0 (ae q (ay d.ok d.key d.val d.lv p2 (some ⟨fb,0,none⟩) pa pr K0.n (i:Int) y K0.an 0 false)::ae fb (aY d.key l0 G)::LU (aW C { X with A:=A,rc:=c,N:=N } V K0 FU aR) R) w):bX w0 R C X V d q ml (0,fH d K0 i,f) 0 w:=by
 by_cases h:(i:Int) < d.lv
 ·rw[if_pos h] at ec;cases cY:K0.an
  ·have hM:fH d K0 i={ K0 with lv:=i,pc:=5 }:=by unfold fH;rw[if_neg (by omega),if_neg (by simp[cY])]
   rw[hM];rw[cY,if_neg (by decide)] at ec;subst ec;exact bX.go (K:={ K0 with lv:=i,pc:=5 }) (A:=A) (c:=c) (N:=N) (sub:=[_,_]) hf hl hN (dY.ins (K:={ K0 with lv:=i,pc:=5 }) 12 fb G pa pr _ y l0 (.inr (.inr (.inl ⟨rfl,rfl,rfl⟩))) (by first | omega | (dsimp only;omega)) hG ek) hE
  ·have hM:fH d K0 i={ K0 with lv:=i,pc:=6 }:=by unfold fH;rw[if_neg (by omega),if_pos (by simp[cY])]
   rw[hM];rw[cY,if_pos rfl] at ec;subst ec;exact bX.go (K:={ K0 with lv:=i,pc:=6 }) (A:=A) (c:=c) (N:=N) (sub:=[_,_]) hf hl hN (dY.ins (K:={ K0 with lv:=i,pc:=6 }) 13 fb G pa pr _ y l0 (.inr (.inr (.inr (.inl ⟨rfl,rfl,rfl⟩)))) (by first | omega | (dsimp only;omega)) hG ek) hE
 ·rw[if_neg h] at ec;subst ec;have hM:fH d K0 i={ K0 with lv:=i,pc:=10 }:=by unfold fH;rw[if_pos (by omega)]
  rw[hM];exact bX.go (K:={ K0 with lv:=i,pc:=10 }) (A:=A) (c:=c) (N:=N) (sub:=[_]) hf hl hN (dY.rise (K:={ K0 with lv:=i,pc:=10 }) _ pa pr _ y _ rfl (by omega)) (hE.sub (.cons_cons _ (.cons _ (List.Sublist.refl _))))
theorem Oo (ax:K.pc=4) (cY:K.an=false) (mq:K.n=K.T.hs) (hd:1<=d.lv/\d.lv<=(C.h.toNat:Int)) (bB:0<=l/\l<=1000) (h16:C.h.toNat<=16) (hS:∀ i,i < C.h.toNat->iX C i (K.L i)) (hG:∀ i,(G i).length=13) (ek:∀ i,i < C.h.toNat->G i=dG (i:Int) d.key false (K.L i)) (aQ:ml.length<=999999) (hN:0<=X.N/\X.N<=4000000) (hE:Env w0 ([ae q (ay d.ok d.key d.val d.lv 11 (some ⟨fb,0,none⟩) pa pr K.n l y K.an 0 false),ae fb (aY d.key l0 G)]++LU (aW C X V K FU ml) R) w) :
  Calls prog 27 #[zP q,zP X.u,zP V.m] w fun e w'=>∃ s,e=.returned (zI s)/\bX w0 R C X V d q ml (aJ C d K (ak ml)) s w':=by
 have dx:Hid (∀ v,ao 0 v fb (aY d.key l0 G)->gu v fb C.h.toNat d.key K.L):=zH fun v hb=>gu.of hb hG h16 ek;have h1:0 < C.h.toNat:=by omega
 by_cases heq:ak ml (K.L 0).p=(K.L 0).W
 ·have hM:aJ C d K (ak ml)=(0,fH d { K with T:={ K.T with hs:=0 } } 1,swf (ak ml) (K.L 0).p (K.L 0).W (aP false K.n K.T.e)):=by
   unfold aJ;(iterate 3 rw[if_neg (by omega)]);rw[if_pos ax,if_pos heq]
  rw[hM];refine qQ (.inr (.inl rfl)) _ hE ?_;refine sA (U:=aW C X V K FU ml) (F:=K.L) (h:=C.h.toNat) _ bB dx (show ml.length<=1000000 by omega) hE (.inr (.inr (.inl ⟨_,rfl,rfl,heq,zH h16,h1,fun w1 F5 az=>?_⟩)));exact⟨0,rfl,Fb (K0:={ K with T:={ K.T with hs:=0 } }) (i:=1) (A:=X.A) (c:=X.rc) (N:=X.N) rfl (by omega) (by omega) (lO ml _ _ _) (jf _ _ _ _) hN hG ek az⟩
 ·have hM:aJ C d K (ak ml)=(0,eu 0 K,swf (ak ml) (K.L 0).p (K.L 0).W (aP false K.n K.T.e)):=by
   unfold aJ;(iterate 3 rw[if_neg (by omega)]);rw[if_pos ax,if_neg heq]
  rw[hM];refine qQ (.inr (.inl rfl)) _ hE ?_;refine sA (U:=aW C X V K FU ml) (F:=K.L) (h:=C.h.toNat) _ bB dx (show ml.length<=1000000 by omega) hE (.inr (.inl ⟨rfl,heq,zH h16,h1,fun w1 F5 f2 az=>?_⟩));exact⟨0,rfl,bX.seek (A:=X.A) (c:=X.rc) (N:=X.N) 0 (by decide) 1 rfl (fun _=>cY) (fun h=>absurd rfl h) (fun h=>absurd h (by decide)) bB (lO ml _ _ _) (jf _ _ _ _) hN az⟩
theorem Oq (ax:K.pc=5) (aH:(K.lv:Int) < d.lv) (hd:d.lv<=(C.h.toNat:Int)) (h16:C.h.toNat<=16) (hS:∀ i,i < C.h.toNat->iX C i (K.L i)) (hG:∀ i,(G i).length=13) (ek:∀ i,i < C.h.toNat->G i=dG (i:Int) d.key false (K.L i)) (aQ:ml.length<=999999) (hN:0<=X.N/\X.N<=4000000) (hE:Env w0 ([ae q (ay d.ok d.key d.val d.lv 12 (some ⟨fb,0,none⟩) pa pr K.n (K.lv:Int) y K.an 0 false),ae fb (aY d.key l0 G)]++LU (aW C X V K FU ml) R) w) :
  Calls prog 27 #[zP q,zP X.u,zP V.m] w fun e w'=>∃ s,e=.returned (zI s)/\bX w0 R C X V d q ml (aJ C d K (ak ml)) s w':=by
 have dx:Hid (∀ v,ao 0 v fb (aY d.key l0 G)->gu v fb C.h.toNat d.key K.L):=zH fun v hb=>gu.of hb hG h16 ek;have aE:=xU aH hd
 by_cases heq:ak ml (K.L K.lv).p=(K.L K.lv).W
 ·have hM:aJ C d K (ak ml)=(0,fH d K (K.lv+1),swf (ak ml) (K.L K.lv).p (K.L K.lv).W (aP false K.n K.T.e)):=by
   unfold aJ;(iterate 4 rw[if_neg (by omega)]);rw[if_pos ax,if_pos heq]
  rw[hM];refine qQ (.inr (.inr (.inl rfl))) _ hE ?_;refine sA (U:=aW C X V K FU ml) (F:=K.L) (h:=C.h.toNat) _ (by omega) dx (show ml.length<=1000000 by omega) hE (.inr (.inr (.inr (.inr (.inl ⟨K.lv,((K.lv+1:Nat):Int),_,rfl,rfl,by omega,rfl,heq,zH h16,aE,fun w1 F5 az=>?_⟩)))));exact⟨0,rfl,Fb (K0:=K) (i:=K.lv+1) (A:=X.A) (c:=X.rc) (N:=X.N) rfl (by omega) (by omega) (lO ml _ _ _) (jf _ _ _ _) hN hG ek az⟩
 ·have hM:aJ C d K (ak ml)=(0,eu 1 K,swf (ak ml) (K.L K.lv).p (K.L K.lv).W (aP false K.n K.T.e)):=by
   unfold aJ;(iterate 4 rw[if_neg (by omega)]);rw[if_pos ax,if_neg heq]
  rw[hM];refine qQ (.inr (.inr (.inl rfl))) _ hE ?_;refine sA (U:=aW C X V K FU ml) (F:=K.L) (h:=C.h.toNat) _ (by omega) dx (show ml.length<=1000000 by omega) hE (.inr (.inr (.inr (.inl ⟨K.lv,rfl,rfl,heq,zH h16,aE,fun w1 F5 f2 az=>?_⟩))));exact⟨0,rfl,bX.seek (A:=X.A) (c:=X.rc) (N:=X.N) 1 (by decide) 2 rfl (fun h=>absurd h (by decide)) (fun _=>rfl) (fun _=>rfl) (by omega) (lO ml _ _ _) (jf _ _ _ _) hN az⟩
theorem Ot (ax:K.pc=6) (hu:∀ x,aD (ak ml x)) (aH:(K.lv:Int) < d.lv) (hd:d.lv<=(C.h.toNat:Int)) (h16:C.h.toNat<=16) (hS:∀ i,i < C.h.toNat->iX C i (K.L i)) (hG:∀ i,(G i).length=13) (ek:∀ i,i < C.h.toNat->G i=dG (i:Int) d.key false (K.L i)) (aQ:ml.length<=999999) (hN:0<=X.N/\X.N<=4000000) (hE:Env w0 ([ae q (ay d.ok d.key d.val d.lv 13 (some ⟨fb,0,none⟩) pa pr K.n (K.lv:Int) y K.an 0 false),ae fb (aY d.key l0 G)]++LU (aW C X V K FU ml) R) w) :
  Calls prog 27 #[zP q,zP X.u,zP V.m] w fun e w'=>∃ s,e=.returned (zI s)/\bX w0 R C X V d q ml (aJ C d K (ak ml)) s w':=by
 have dx:Hid (∀ v,ao 0 v fb (aY d.key l0 G)->gu v fb C.h.toNat d.key K.L):=zH fun v hb=>gu.of hb hG h16 ek;have aE:=xU aH hd;have hM:aJ C d K (ak ml)=(0,{ K with y:=ak ml (bW K),pc:=if cO (ak ml (bW K)) then 10 else if ak ml (bW K)=iQ K then 5 else 9 },ak ml):=by
  unfold aJ;(iterate 5 rw[if_neg (by omega)]);rw[if_pos ax]
 rw[hM];refine qQ (.inr (.inr (.inr (.inl rfl)))) _ hE ?_;refine sA (U:=aW C X V K FU ml) (F:=K.L) (h:=C.h.toNat) _ (by omega) dx (show ml.length<=1000000 by omega) hE (.inr (.inr (.inr (.inr (.inr (.inl ⟨K.lv,(ak ml (bW K)),_,rfl,rfl,rfl,rfl,hu _,(hS _ aE).W,aE,fun w1 az=>?_⟩))))));refine⟨0,rfl,?_⟩;have hle:ml.length<=ml.length+1:=by omega
 by_cases bA:cO (ak ml (bW K))=true
 ·rw[if_pos bA] at az ⊢;exact bX.go (K:={ K with y:=ak ml (bW K),pc:=10 }) (A:=X.A) (c:=X.rc) (N:=X.N) (sub:=[_]) rfl hle hN (dY.rise (K:={ K with y:=ak ml (bW K),pc:=10 }) _ pa pr _ _ _ rfl (by omega)) (az.sub (.cons_cons _ (.cons _ (List.Sublist.refl _))))
 ·rw[if_neg bA] at az ⊢
  by_cases heq:ak ml (bW K)=iQ K
  ·rw[if_pos heq];rw[if_pos (show ak ml (bW K)=aP false (aA (K.L K.lv).W) (aW C X V K FU ml).ce from heq)] at az;exact bX.go (K:={ K with y:=ak ml (bW K),pc:=5 }) (A:=X.A) (c:=X.rc) (N:=X.N) (sub:=[_,_]) rfl hle hN (dY.ins (K:={ K with y:=ak ml (bW K),pc:=5 }) 12 fb G pa pr _ _ l0 (.inr (.inr (.inl ⟨rfl,rfl,rfl⟩))) (by first | omega | (dsimp only;omega)) hG ek) az
  ·rw[if_neg heq];rw[if_neg (show ¬ ak ml (bW K)=aP false (aA (K.L K.lv).W) (aW C X V K FU ml).ce from heq)] at az;exact bX.go (K:={ K with y:=ak ml (bW K),pc:=9 }) (A:=X.A) (c:=X.rc) (N:=X.N) (sub:=[_,_]) rfl hle hN (dY.ins (K:={ K with y:=ak ml (bW K),pc:=9 }) 14 fb G pa pr _ _ l0 (.inr (.inr (.inr (.inr ⟨rfl,rfl,rfl,rfl⟩)))) (by first | omega | (dsimp only;omega)) hG ek) az
theorem Ou (ax:K.pc=9) (aH:(K.lv:Int) < d.lv) (hd:d.lv<=(C.h.toNat:Int)) (h16:C.h.toNat<=16) (hS:∀ i,i < C.h.toNat->iX C i (K.L i)) (hG:∀ i,(G i).length=13) (ek:∀ i,i < C.h.toNat->G i=dG (i:Int) d.key false (K.L i)) (aQ:ml.length<=999999) (hN:0<=X.N/\X.N<=4000000) (hE:Env w0 ([ae q (ay d.ok d.key d.val d.lv 14 (some ⟨fb,0,none⟩) pa pr K.n (K.lv:Int) K.y K.an 0 false),ae fb (aY d.key l0 G)]++LU (aW C X V K FU ml) R) w) :
  Calls prog 27 #[zP q,zP X.u,zP V.m] w fun e w'=>∃ s,e=.returned (zI s)/\bX w0 R C X V d q ml (aJ C d K (ak ml)) s w':=by
 have dx:Hid (∀ v,ao 0 v fb (aY d.key l0 G)->gu v fb C.h.toNat d.key K.L):=zH fun v hb=>gu.of hb hG h16 ek;have aE:=xU aH hd;have hM:aJ C d K (ak ml)=(0,{ K with pc:=if ak ml (bW K)=K.y then 5 else 10 },swf (ak ml) (bW K) K.y (iQ K)):=by
  unfold aJ;(iterate 6 rw[if_neg (by omega)]);rw[if_pos ax]
 rw[hM];refine qQ (.inr (.inr (.inr (.inr (.inl rfl))))) _ hE ?_;refine sA (U:=aW C X V K FU ml) (F:=K.L) (h:=C.h.toNat) _ (by omega) dx (show ml.length<=1000000 by omega) hE (.inr (.inr (.inr (.inr (.inr (.inr (⟨K.lv,_,rfl,rfl,rfl,(hS _ aE).W,aE,fun w1 F5 az=>?_⟩)))))));refine⟨0,rfl,?_⟩
 by_cases heq:ak ml (bW K)=K.y
 ·rw[if_pos heq];rw[if_pos (show ak (aW C X V K FU ml).ml (5,K.n,7+(K.lv:Int))=K.y from heq)] at az;exact bX.go (K:={ K with pc:=5 }) (A:=X.A) (c:=X.rc) (N:=X.N) (sub:=[_,_]) (lO ml _ _ _) (jf _ _ _ _) hN (dY.ins (K:={ K with pc:=5 }) 12 fb G pa pr _ _ l0 (.inr (.inr (.inl ⟨rfl,rfl,rfl⟩))) (by first | omega | (dsimp only;omega)) hG ek) az
 ·rw[if_neg heq];rw[if_neg (show ¬ ak (aW C X V K FU ml).ml (5,K.n,7+(K.lv:Int))=K.y from heq)] at az;exact bX.go (K:={ K with pc:=10 }) (A:=X.A) (c:=X.rc) (N:=X.N) (sub:=[_]) (lO ml _ _ _) (jf _ _ _ _) hN (dY.rise (K:={ K with pc:=10 }) _ pa pr _ _ _ rfl (by omega)) (az.sub (.cons_cons _ (.cons _ (List.Sublist.refl _))))
theorem Ov (ax:K.pc=10) (he:K.err=0) (bB:0<=l/\l<=1000) (aQ:ml.length<=999999) (hN:0<=X.N/\X.N<=4000000) (hE:Env w0 ([ae q (ay d.ok d.key d.val d.lv 15 pf pa pr K.n l y an 0 false)]++LU (aW C X V K FU ml) R) w) :
  Calls prog 27 #[zP q,zP X.u,zP V.m] w fun e w'=>∃ s,e=.returned (zI s)/\bX w0 R C X V d q ml (aJ C d K (ak ml)) s w':=by
 refine qQ (.inr (.inr (.inr (.inr (.inr rfl))))) _ hE ?_;refine (Oc (U:=aW C X V K FU ml) bB (show ml.length<=1000000 by omega) hE).mono ?_;rintro e w1 (⟨heq,rfl,F5,az⟩ | ⟨bu,rfl,F5,f2,az⟩)
 ·have hM:aJ C d K (ak ml)=(1,{ K with dn:=true },swf (ak ml) (5,K.n,6) 0 1):=by
   unfold aJ;(iterate 7 rw[if_neg (by omega)]);rw[if_pos ax,if_pos (show ak ml (5,K.n,6)=0 from heq)]
  rw[hM];exact⟨1,rfl,bX.fin (K:={ K with dn:=true }) (A:=X.A) (c:=X.rc) (N:=X.N) (lO ml _ _ _) (jf _ _ _ _) hN (show (1:Int)≠0 by decide) (by rw[he];exact az)⟩
 ·have hM:aJ C d K (ak ml)=(0,eu 2 K,swf (ak ml) (5,K.n,6) 0 1):=by
   unfold aJ;(iterate 7 rw[if_neg (by omega)]);rw[if_pos ax,if_neg (show ¬ ak ml (5,K.n,6)=0 from bu)]
  rw[hM];exact⟨0,rfl,bX.seek (A:=X.A) (c:=X.rc) (N:=X.N) 2 (by decide) 3 rfl (fun h=>absurd h (by decide)) (fun _=>rfl) (fun h=>absurd h (by decide)) bB (lO ml _ _ _) (jf _ _ _ _) hN az⟩
end
end
end Go.Proofs.YtleklonmmlfijaaGreatDoor
