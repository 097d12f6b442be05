/- What is proved on the way to the statement, part 12: contracts of the functions, among other things in memory. -/
import Derived.Test.YtleklonmmlfijaaGreatDoorQ11

open _root_.Go.Proofs.Tryz
set_option maxRecDepth 100000
set_option maxHeartbeats 25600000
namespace Go.Proofs.YtleklonmmlfijaaGreatDoor
section
open Go.RowKit Go.Maps
section
variable {PP TT:List Value} {k0:Nat} (aS:Hid (PP.length=k0))
include aS
variable {uc:Uc} {w0 w:World} {R:List Item} {b u m:Nat} {F:Nat->Prop} {ml:List bT} {lv key e ro:Int} {vs fd:Bool} {x y z pc W X K V C:Int}
theorem Nk (v:Int) (br:ak ml (x,y,z)=v) (aQ:ml.length<=1000000) (hE:Env w0 (ae b (wr PP TT (aV lv key vs x y z 0 W X K V C fd))::ae u (cW uc e ro)::bP m F ml::R) w) :
  Calls prog 88 #[.pointer (some ⟨b,k0,none⟩),zP u,zP m] w fun o w'=>o=.returned (zI 0)/\Env w0 (ae b (wr PP TT (aV lv key vs x y z 2 v X K V C fd))::ae u (cW uc e ro)::bP m F ml::R) w':=by
 have HX:=zH br;clear br;obtain⟨cn,cq,ct,cu,cw,cx,cy,cz,cA,cB,cC,cD,cE⟩:=dj aS.out (hE.rule 0 rfl);go_enter func88,ntmps88;go_wp2_with fail;refine (ju x y z aQ (hE.ref 2 rfl)).mono ?_;rintro o w2 ⟨rfl,hb⟩;rw[HX.out];replace hE:=hE.over hb;clear hb cn cq ct cu cw cx cy cz cA cB cC cD cE;obtain⟨cn,cq,ct,cu,cw,cx,cy,cz,cA,cB,cC,cD,cE⟩:=dj aS.out (hE.rule 0 rfl);have f1:=hE.thawW aS.out 0 rfl 7 (by simp[aV]);have f6:=hE.thawW aS.out 0 rfl 6 (by simp[aV]);have hP:=(hE.putW aS.out 0 rfl (j:=7) (by simp[aV]) (zU v)).putW aS.out 0 rfl (j:=6) (by simp[aV]) (zI 2);replace hP:Env w0 (ae b (wr PP TT (aV lv key vs x y z 2 v X K V C fd))::ae u (cW uc e ro)::bP m F ml::R) _:=hP;go_wp2_with fail;go_ret;exact⟨rfl,hP⟩
theorem Nl (aH:0<=lv/\lv<=1000000) (v:Int) (br:ak ml (5,C,7+lv)=v) (aQ:ml.length<=1000000) (hE:Env w0 (ae b (wr PP TT (aV lv key vs x y z 3 W X K V C fd))::ae u (cW uc e ro)::bP m F ml::R) w) :
  Calls prog 88 #[.pointer (some ⟨b,k0,none⟩),zP u,zP m] w fun o w'=>o=.returned (zI 0)/\Env w0 (ae b (wr PP TT (aV lv key vs x y z 4 W v K V C fd))::ae u (cW uc e ro)::bP m F ml::R) w':=by
 have HX:=zH br;clear br;obtain⟨cn,cq,ct,cu,cw,cx,cy,cz,cA,cB,cC,cD,cE⟩:=dj aS.out (hE.rule 0 rfl);go_enter func88,ntmps88;go_wp2_with fail;refine (EW aS aH (hE.get 0 rfl)).mono ?_;rintro o w1 ⟨rfl,hb⟩;replace hE:=hE.over hb;clear hb cn cq ct cu cw cx cy cz cA cB cC cD cE;obtain⟨cn,cq,ct,cu,cw,cx,cy,cz,cA,cB,cC,cD,cE⟩:=dj aS.out (hE.rule 0 rfl);go_wp2_with fail;refine (ju 5 C (7+lv) aQ (hE.ref 2 rfl)).mono ?_;rintro o w2 ⟨rfl,hb⟩;rw[HX.out];replace hE:=hE.over hb;clear hb cn cq ct cu cw cx cy cz cA cB cC cD cE;obtain⟨cn,cq,ct,cu,cw,cx,cy,cz,cA,cB,cC,cD,cE⟩:=dj aS.out (hE.rule 0 rfl);have f1:=hE.thawW aS.out 0 rfl 8 (by simp[aV]);have f6:=hE.thawW aS.out 0 rfl 6 (by simp[aV]);have hP:=(hE.putW aS.out 0 rfl (j:=8) (by simp[aV]) (zU v)).putW aS.out 0 rfl (j:=6) (by simp[aV]) (zI 4);replace hP:Env w0 (ae b (wr PP TT (aV lv key vs x y z 4 W v K V C fd))::ae u (cW uc e ro)::bP m F ml::R) _:=hP;go_wp2_with fail;go_ret;exact⟨rfl,hP⟩
theorem Nn (v:Int) (br:ak ml (5,C,3)=v) (aQ:ml.length<=1000000) (hE:Env w0 (ae b (wr PP TT (aV lv key vs x y z 6 W X K V C fd))::ae u (cW uc e ro)::bP m F ml::R) w) :
  Calls prog 88 #[.pointer (some ⟨b,k0,none⟩),zP u,zP m] w fun o w'=>o=.returned (zI 0)/\Env w0 (ae b (wr PP TT (aV lv key vs x y z 7 W X v V C fd))::ae u (cW uc e ro)::bP m F ml::R) w':=by
 have HX:=zH br;clear br;obtain⟨cn,cq,ct,cu,cw,cx,cy,cz,cA,cB,cC,cD,cE⟩:=dj aS.out (hE.rule 0 rfl);go_enter func88,ntmps88;go_wp2_with fail;refine (jH C 3 _).mono ?_;rintro o w1 ⟨rfl,hb⟩;replace hE:=hE.over hb;clear hb cn cq ct cu cw cx cy cz cA cB cC cD cE;obtain⟨cn,cq,ct,cu,cw,cx,cy,cz,cA,cB,cC,cD,cE⟩:=dj aS.out (hE.rule 0 rfl);go_wp2_with fail;refine (ju 5 C 3 aQ (hE.ref 2 rfl)).mono ?_;rintro o w2 ⟨rfl,hb⟩;rw[HX.out];replace hE:=hE.over hb;clear hb cn cq ct cu cw cx cy cz cA cB cC cD cE;obtain⟨cn,cq,ct,cu,cw,cx,cy,cz,cA,cB,cC,cD,cE⟩:=dj aS.out (hE.rule 0 rfl);have f1:=hE.thawW aS.out 0 rfl 9 (by simp[aV]);have f6:=hE.thawW aS.out 0 rfl 6 (by simp[aV]);have hP:=(hE.putW aS.out 0 rfl (j:=9) (by simp[aV]) (zU v)).putW aS.out 0 rfl (j:=6) (by simp[aV]) (zI 7);replace hP:Env w0 (ae b (wr PP TT (aV lv key vs x y z 7 W X v V C fd))::ae u (cW uc e ro)::bP m F ml::R) _:=hP;go_wp2_with fail;go_ret;exact⟨rfl,hP⟩
theorem Np (v:Int) (br:ak ml (5,C,4)=v) (aQ:ml.length<=1000000) (hE:Env w0 (ae b (wr PP TT (aV lv key vs x y z 8 W X K V C fd))::ae u (cW uc e ro)::bP m F ml::R) w) :
  Calls prog 88 #[.pointer (some ⟨b,k0,none⟩),zP u,zP m] w fun o w'=>o=.returned (zI 0)/\Env w0 (ae b (wr PP TT (aV lv key vs x y z 9 W X K v C fd))::ae u (cW uc e ro)::bP m F ml::R) w':=by
 have HX:=zH br;clear br;obtain⟨cn,cq,ct,cu,cw,cx,cy,cz,cA,cB,cC,cD,cE⟩:=dj aS.out (hE.rule 0 rfl);go_enter func88,ntmps88;go_wp2_with fail;refine (jH C 4 _).mono ?_;rintro o w1 ⟨rfl,hb⟩;replace hE:=hE.over hb;clear hb cn cq ct cu cw cx cy cz cA cB cC cD cE;obtain⟨cn,cq,ct,cu,cw,cx,cy,cz,cA,cB,cC,cD,cE⟩:=dj aS.out (hE.rule 0 rfl);go_wp2_with fail;refine (ju 5 C 4 aQ (hE.ref 2 rfl)).mono ?_;rintro o w2 ⟨rfl,hb⟩;rw[HX.out];replace hE:=hE.over hb;clear hb cn cq ct cu cw cx cy cz cA cB cC cD cE;obtain⟨cn,cq,ct,cu,cw,cx,cy,cz,cA,cB,cC,cD,cE⟩:=dj aS.out (hE.rule 0 rfl);have f1:=hE.thawW aS.out 0 rfl 10 (by simp[aV]);have f6:=hE.thawW aS.out 0 rfl 6 (by simp[aV]);have hP:=(hE.putW aS.out 0 rfl (j:=10) (by simp[aV]) (zU v)).putW aS.out 0 rfl (j:=6) (by simp[aV]) (zI 9);replace hP:Env w0 (ae b (wr PP TT (aV lv key vs x y z 9 W X K v C fd))::ae u (cW uc e ro)::bP m F ml::R) _:=hP;go_wp2_with fail;go_ret;exact⟨rfl,hP⟩
theorem Nq (heq:ak ml (x,y,z)≠W) (hX:aD X) (aQ:ml.length<=1000000) (hE:Env w0 (ae b (wr PP TT (aV lv key vs x y z 5 W X K V C fd))::ae u (cW uc e ro)::bP m F ml::R) w) :
  Calls prog 88 #[.pointer (some ⟨b,k0,none⟩),zP u,zP m] w fun o w'=>o=.returned (zI 2)/\∃ F',Env w0 (ae b (wr PP TT (aV lv key vs x y z 5 W X K V C fd))::ae u (cW uc e ro)::bP m F' (dw ml (x,y,z) W (aP false (aA X) e))::R) w':=by
 have HD:Hid (decide (ak ml (x,y,z)=W)=false):=zH (by simpa using heq);have vG:=zH fun (v:World)=>iG X hX v;have dR:aD (aP false (aA X) e):=kN _ _ _;have gp:=zH dR;have dT:=zH fun (v:World) (hv:ao 0 v u (bx uc.k uc.s uc.b uc.h uc.l e uc.A uc.n uc.c uc.N uc.hs ro))=>pE (aA X) hv;obtain⟨s,hs⟩:∃ s,aA X=s:=⟨_,rfl⟩;rw[hs] at gp ⊢;simp only[hs] at vG dT;obtain⟨q,hq⟩:∃ q,aP false s e=q:=⟨_,rfl⟩;rw[hq] at gp ⊢;simp only[hq] at dT;clear hs hq heq hX dR;obtain⟨cn,cq,ct,cu,cw,cx,cy,cz,cA,cB,cC,cD,cE⟩:=dj aS.out (hE.rule 0 rfl);go_enter func88,ntmps88;go_wp2_with fail;refine (vG.out _).mono ?_;rintro o w1 ⟨rfl,hb⟩;replace hE:=hE.over hb;clear hb cn cq ct cu cw cx cy cz cA cB cC cD cE;go_wp2_with fail;refine (dT.out _ (hE.get 1 rfl)).mono ?_;rintro o w2 ⟨rfl,hb⟩;replace hE:=hE.over hb;clear hb;go_wp2_with fail;refine Ord.wc [10] (fun v=>ao 0 v b (wr PP TT (aV lv key vs x y z 5 W X K V C fd))) (fun k w'=>∃ G5,Env w0 (ae b (wr PP TT (aV lv key vs x y z 5 W X K V C fd))::ae u (cW uc e ro)::bP m G5 (if k=0 then ml else dw ml (x,y,z) W q)::R) w') (hE.drew.get 0 rfl) ⟨_,hE.drew⟩ fun af=>?_
 repeat ((first
  | (refine Ord.cv ?_ af.o ?_ ?_;rotate_left;(intro w5 hS;obtain⟨cn,cq,ct,cu,cw,cx,cy,cz,cA,cB,cC,cD,cE⟩:=dj aS.out (ao.rule hS);go_simp<;>rfl))
  | (refine Ord.co af.o ?_));try simp only[Act.put,zA,zZ,zS])
 refine Ord.ch_turn (v:=.bool false) 0 af.o rfl (by decide) (Or.inl rfl) (by rfl) ?_ ?_
 ·rintro w5 aN ⟨G5,au⟩;simp only[if_true] at au;go_simp;simp only[Ord.LandsIn];have bS:=kz x y z W q aQ (au.ref 2 rfl);rw[HD.out] at bS;refine bS.mono ?_;rintro e w6 ⟨rfl,G6,Bg,tY⟩;have aq:=au.turnU 2 rfl Bg tY;simp only[zS,zZ] at aq;exact⟨rfl,aq.get 0 rfl,G6,aq⟩
 try simp only[Act.put,zA,zZ,zS]
 repeat ((first
  | (refine Ord.cv ?_ af.o ?_ ?_;rotate_left;(intro w5 hS;skip;go_simp<;>rfl))
  | (refine Ord.co af.o ?_));try simp only[Act.put,zA,zZ,zS])
 refine Ord.InText.nil fun w5 hS=>?_;clear af;obtain⟨aL,ai⟩:=Ord.chain_end hS;clear hS;obtain⟨G9,ai⟩:=ai;clear aL hE;simp only[List.length_cons,List.length_nil,Nat.zero_add,Nat.one_ne_zero,if_false] at ai;go_wp2_with fail;go_ret;exact⟨rfl,G9,ai⟩
theorem Ns (heq:ak ml (x,y,z)=W) (hX:aD X) (aQ:ml.length<=1000000) (hE:Env w0 (ae b (wr PP TT (aV lv key vs x y z 5 W X K V C fd))::ae u (cW uc e ro)::bP m F ml::R) w) :
  Calls prog 88 #[.pointer (some ⟨b,k0,none⟩),zP u,zP m] w fun o w'=>o=.returned (zI (cS (aP false (aA X) e)))/\∃ F',Env w0 (ae b (wr PP TT (aV lv key vs x y z 3 (aP false (aA X) e) 0 K V (aA (aP false (aA X) e)) fd))::ae u (cW uc e ro)::bP m F' (dw ml (x,y,z) W (aP false (aA X) e))::R) w':=by
 have HD:Hid (decide (ak ml (x,y,z)=W)=true):=zH (by simpa using heq);have vG:=zH fun (v:World)=>iG X hX v;have dR:aD (aP false (aA X) e):=kN _ _ _;have gp:=zH dR;have dT:=zH fun (v:World) (hv:ao 0 v u (bx uc.k uc.s uc.b uc.h uc.l e uc.A uc.n uc.c uc.N uc.hs ro))=>pE (aA X) hv;obtain⟨s,hs⟩:∃ s,aA X=s:=⟨_,rfl⟩;rw[hs] at gp ⊢;simp only[hs] at vG dT;obtain⟨q,hq⟩:∃ q,aP false s e=q:=⟨_,rfl⟩;rw[hq] at gp ⊢;simp only[hq] at dT;clear hs hq heq hX dR;obtain⟨cn,cq,ct,cu,cw,cx,cy,cz,cA,cB,cC,cD,cE⟩:=dj aS.out (hE.rule 0 rfl);go_enter func88,ntmps88;go_wp2_with fail;refine (vG.out _).mono ?_;rintro o w1 ⟨rfl,hb⟩;replace hE:=hE.over hb;clear hb cn cq ct cu cw cx cy cz cA cB cC cD cE;go_wp2_with fail;refine (dT.out _ (hE.get 1 rfl)).mono ?_;rintro o w2 ⟨rfl,hb⟩;replace hE:=hE.over hb;clear hb;go_wp2_with fail;refine Ord.wc [10] (fun v=>ao 0 v b (wr PP TT (aV lv key vs x y z 5 W X K V C fd))) (fun k w'=>∃ G5,Env w0 (ae b (wr PP TT (aV lv key vs x y z 5 W X K V C fd))::ae u (cW uc e ro)::bP m G5 (if k=0 then ml else dw ml (x,y,z) W q)::R) w') (hE.drew.get 0 rfl) ⟨_,hE.drew⟩ fun af=>?_
 repeat ((first
  | (refine Ord.cv ?_ af.o ?_ ?_;rotate_left;(intro w5 hS;obtain⟨cn,cq,ct,cu,cw,cx,cy,cz,cA,cB,cC,cD,cE⟩:=dj aS.out (ao.rule hS);go_simp<;>rfl))
  | (refine Ord.co af.o ?_));try simp only[Act.put,zA,zZ,zS])
 refine Ord.ch_turn (v:=.bool true) 0 af.o rfl (by decide) (Or.inl rfl) (by rfl) ?_ ?_
 ·rintro w5 aN ⟨G5,au⟩;simp only[if_true] at au;go_simp;simp only[Ord.LandsIn];have bS:=kz x y z W q aQ (au.ref 2 rfl);rw[HD.out] at bS;refine bS.mono ?_;rintro e w6 ⟨rfl,G6,Bg,tY⟩;have aq:=au.turnU 2 rfl Bg tY;simp only[zS,zZ] at aq;exact⟨rfl,aq.get 0 rfl,G6,aq⟩
 try simp only[Act.put,zA,zZ,zS]
 repeat ((first
  | (refine Ord.cv ?_ af.o ?_ ?_;rotate_left;(intro w5 hS;skip;go_simp<;>rfl))
  | (refine Ord.co af.o ?_));try simp only[Act.put,zA,zZ,zS])
 refine Ord.InText.nil fun w5 hS=>?_;clear af;obtain⟨aL,ai⟩:=Ord.chain_end hS;clear hS;obtain⟨G9,ai⟩:=ai;clear aL hE;simp only[List.length_cons,List.length_nil,Nat.zero_add,Nat.one_ne_zero,if_false] at ai;go_wp2_with fail;refine (Bf aS q gp.out ai).mono ?_;rintro o w7 ⟨rfl,aO⟩;go_wp2_with fail;go_ret;exact⟨rfl,G9,aO⟩
theorem Nt (aG:okB (ak ml (1,0,0)) e=false) (hu:aD (ak ml (1,0,0))) (he:0<=e/\e<=9223372036854775807) (aQ:ml.length<=1000000) (hE:Env w0 (ae b (wr PP TT (aV lv key vs x y z 2 W X K V C fd))::ae u (cW uc e ro)::bP m F ml::R) w) :
  Calls prog 88 #[.pointer (some ⟨b,k0,none⟩),zP u,zP m] w fun o w'=>o=.returned (zI 2)/\Env w0 (ae b (wr PP TT (aV lv key vs x y z 2 W X K V C fd))::ae u (cW uc e (wrap64 (ro+1)))::bP m F ml::R) w':=by
 have hv:=kT (L:=(ae b (wr PP TT (aV lv key vs x y z 2 W X K V C fd))::ae u (cW uc e ro)::bP m F ml::R)) (k:=uc.k) (s:=uc.s) (b:=uc.b) (h:=uc.h) (l:=uc.l) (A:=uc.A) (n:=uc.n) (c:=uc.c) (N:=uc.N) (hs:=uc.hs) (r:=ro) _ (rfl:ak ml (1,0,0)=ak ml (1,0,0)) hu he.1 he.2 aQ 1 2 hE rfl rfl;rw[aG] at hv;simp only[zS,zZ,Bool.false_eq_true,if_false] at hv;have HV:=zH hv;clear hv aG hu;obtain⟨cn,cq,ct,cu,cw,cx,cy,cz,cA,cB,cC,cD,cE⟩:=dj aS.out (hE.rule 0 rfl);go_enter func88,ntmps88;go_wp2_with fail;refine HV.out.mono ?_;rintro o w1 ⟨rfl,ag⟩;go_wp2_with fail;go_ret;exact⟨rfl,ag⟩
theorem EX (aG:okB (ak ml (1,0,0)) e=true) (hu:aD (ak ml (1,0,0))) (he:0<=e/\e<=9223372036854775807) (aQ:ml.length<=1000000) (s:Int) (Y:World->Prop) (hE:Env w0 (ae b (wr PP TT (aV lv key vs x y z 2 W X K V C fd))::ae u (cW uc e ro)::bP m F ml::R) w)
  (hc:∀ v,Env w0 (ae b (wr PP TT (aV lv key vs x y z 2 W X K V C fd))::ae u (cW uc e ro)::bP m F ml::R) v->Calls prog 118 #[.pointer (some ⟨b,k0,none⟩)] v fun o w'=>o=.returned (zI s)/\Y w') :
  Calls prog 88 #[.pointer (some ⟨b,k0,none⟩),zP u,zP m] w fun o w'=>o=.returned (zI s)/\Y w':=by
 have hv:=kT (L:=(ae b (wr PP TT (aV lv key vs x y z 2 W X K V C fd))::ae u (cW uc e ro)::bP m F ml::R)) (k:=uc.k) (s:=uc.s) (b:=uc.b) (h:=uc.h) (l:=uc.l) (A:=uc.A) (n:=uc.n) (c:=uc.c) (N:=uc.N) (hs:=uc.hs) (r:=ro) _ (rfl:ak ml (1,0,0)=ak ml (1,0,0)) hu he.1 he.2 aQ 1 2 hE rfl rfl;rw[aG] at hv;simp only[zS,zZ,if_true] at hv;have HV:=zH hv;have HC:=zH hc;clear hv aG hu hc;obtain⟨cn,cq,ct,cu,cw,cx,cy,cz,cA,cB,cC,cD,cE⟩:=dj aS.out (hE.rule 0 rfl);go_enter func88,ntmps88;go_wp2_with fail;refine HV.out.mono ?_;rintro o w1 ⟨rfl,ag⟩;go_wp2_with fail;refine (HC.out _ ag).mono ?_;rintro o w2 ⟨rfl,hY⟩;go_wp2_with fail;go_ret;exact⟨rfl,hY⟩
theorem Nu (aG:okB (ak ml (1,0,0)) e=false) (hu:aD (ak ml (1,0,0))) (he:0<=e/\e<=9223372036854775807) (aQ:ml.length<=1000000) (hE:Env w0 (ae b (wr PP TT (aV lv key vs x y z 4 W X K V C fd))::ae u (cW uc e ro)::bP m F ml::R) w) :
  Calls prog 88 #[.pointer (some ⟨b,k0,none⟩),zP u,zP m] w fun o w'=>o=.returned (zI 2)/\Env w0 (ae b (wr PP TT (aV lv key vs x y z 4 W X K V C fd))::ae u (cW uc e (wrap64 (ro+1)))::bP m F ml::R) w':=by
 have hv:=kT (L:=(ae b (wr PP TT (aV lv key vs x y z 4 W X K V C fd))::ae u (cW uc e ro)::bP m F ml::R)) (k:=uc.k) (s:=uc.s) (b:=uc.b) (h:=uc.h) (l:=uc.l) (A:=uc.A) (n:=uc.n) (c:=uc.c) (N:=uc.N) (hs:=uc.hs) (r:=ro) _ (rfl:ak ml (1,0,0)=ak ml (1,0,0)) hu he.1 he.2 aQ 1 2 hE rfl rfl;rw[aG] at hv;simp only[zS,zZ,Bool.false_eq_true,if_false] at hv;have HV:=zH hv;clear hv aG hu;obtain⟨cn,cq,ct,cu,cw,cx,cy,cz,cA,cB,cC,cD,cE⟩:=dj aS.out (hE.rule 0 rfl);go_enter func88,ntmps88;go_wp2_with fail;refine HV.out.mono ?_;rintro o w1 ⟨rfl,ag⟩;go_wp2_with fail;go_ret;exact⟨rfl,ag⟩
theorem Nv (aG:okB (ak ml (1,0,0)) e=true) (hu:aD (ak ml (1,0,0))) (he:0<=e/\e<=9223372036854775807) (aQ:ml.length<=1000000) (s:Int) (Y:World->Prop) (hE:Env w0 (ae b (wr PP TT (aV lv key vs x y z 4 W X K V C fd))::ae u (cW uc e ro)::bP m F ml::R) w)
  (hc:∀ v,Env w0 (ae b (wr PP TT (aV lv key vs x y z 4 W X K V C fd))::ae u (cW uc e ro)::bP m F ml::R) v->Calls prog 118 #[.pointer (some ⟨b,k0,none⟩)] v fun o w'=>o=.returned (zI s)/\Y w') :
  Calls prog 88 #[.pointer (some ⟨b,k0,none⟩),zP u,zP m] w fun o w'=>o=.returned (zI s)/\Y w':=by
 have hv:=kT (L:=(ae b (wr PP TT (aV lv key vs x y z 4 W X K V C fd))::ae u (cW uc e ro)::bP m F ml::R)) (k:=uc.k) (s:=uc.s) (b:=uc.b) (h:=uc.h) (l:=uc.l) (A:=uc.A) (n:=uc.n) (c:=uc.c) (N:=uc.N) (hs:=uc.hs) (r:=ro) _ (rfl:ak ml (1,0,0)=ak ml (1,0,0)) hu he.1 he.2 aQ 1 2 hE rfl rfl;rw[aG] at hv;simp only[zS,zZ,if_true] at hv;have HV:=zH hv;have HC:=zH hc;clear hv aG hu hc;obtain⟨cn,cq,ct,cu,cw,cx,cy,cz,cA,cB,cC,cD,cE⟩:=dj aS.out (hE.rule 0 rfl);go_enter func88,ntmps88;go_wp2_with fail;refine HV.out.mono ?_;rintro o w1 ⟨rfl,ag⟩;go_wp2_with fail;refine (HC.out _ ag).mono ?_;rintro o w2 ⟨rfl,hY⟩;go_wp2_with fail;go_ret;exact⟨rfl,hY⟩
theorem Nw (aG:okB (ak ml (1,0,0)) e=false) (hu:aD (ak ml (1,0,0))) (he:0<=e/\e<=9223372036854775807) (aQ:ml.length<=1000000) (hE:Env w0 (ae b (wr PP TT (aV lv key vs x y z 7 W X K V C fd))::ae u (cW uc e ro)::bP m F ml::R) w) :
  Calls prog 88 #[.pointer (some ⟨b,k0,none⟩),zP u,zP m] w fun o w'=>o=.returned (zI 2)/\Env w0 (ae b (wr PP TT (aV lv key vs x y z 7 W X K V C fd))::ae u (cW uc e (wrap64 (ro+1)))::bP m F ml::R) w':=by
 have hv:=kT (L:=(ae b (wr PP TT (aV lv key vs x y z 7 W X K V C fd))::ae u (cW uc e ro)::bP m F ml::R)) (k:=uc.k) (s:=uc.s) (b:=uc.b) (h:=uc.h) (l:=uc.l) (A:=uc.A) (n:=uc.n) (c:=uc.c) (N:=uc.N) (hs:=uc.hs) (r:=ro) _ (rfl:ak ml (1,0,0)=ak ml (1,0,0)) hu he.1 he.2 aQ 1 2 hE rfl rfl;rw[aG] at hv;simp only[zS,zZ,Bool.false_eq_true,if_false] at hv;have HV:=zH hv;clear hv aG hu;obtain⟨cn,cq,ct,cu,cw,cx,cy,cz,cA,cB,cC,cD,cE⟩:=dj aS.out (hE.rule 0 rfl);go_enter func88,ntmps88;go_wp2_with fail;refine HV.out.mono ?_;rintro o w1 ⟨rfl,ag⟩;go_wp2_with fail;go_ret;exact⟨rfl,ag⟩
theorem xQ (aG:okB (ak ml (1,0,0)) e=true) (hu:aD (ak ml (1,0,0))) (he:0<=e/\e<=9223372036854775807) (aQ:ml.length<=1000000) (s:Int) (Y:World->Prop) (hE:Env w0 (ae b (wr PP TT (aV lv key vs x y z 7 W X K V C fd))::ae u (cW uc e ro)::bP m F ml::R) w)
  (hc:∀ v,Env w0 (ae b (wr PP TT (aV lv key vs x y z 7 W X K V C fd))::ae u (cW uc e ro)::bP m F ml::R) v->Calls prog 118 #[.pointer (some ⟨b,k0,none⟩)] v fun o w'=>o=.returned (zI s)/\Y w') :
  Calls prog 88 #[.pointer (some ⟨b,k0,none⟩),zP u,zP m] w fun o w'=>o=.returned (zI s)/\Y w':=by
 have hv:=kT (L:=(ae b (wr PP TT (aV lv key vs x y z 7 W X K V C fd))::ae u (cW uc e ro)::bP m F ml::R)) (k:=uc.k) (s:=uc.s) (b:=uc.b) (h:=uc.h) (l:=uc.l) (A:=uc.A) (n:=uc.n) (c:=uc.c) (N:=uc.N) (hs:=uc.hs) (r:=ro) _ (rfl:ak ml (1,0,0)=ak ml (1,0,0)) hu he.1 he.2 aQ 1 2 hE rfl rfl;rw[aG] at hv;simp only[zS,zZ,if_true] at hv;have HV:=zH hv;have HC:=zH hc;clear hv aG hu hc;obtain⟨cn,cq,ct,cu,cw,cx,cy,cz,cA,cB,cC,cD,cE⟩:=dj aS.out (hE.rule 0 rfl);go_enter func88,ntmps88;go_wp2_with fail;refine HV.out.mono ?_;rintro o w1 ⟨rfl,ag⟩;go_wp2_with fail;refine (HC.out _ ag).mono ?_;rintro o w2 ⟨rfl,hY⟩;go_wp2_with fail;go_ret;exact⟨rfl,hY⟩
theorem Ny (aG:okB (ak ml (1,0,0)) e=false) (hu:aD (ak ml (1,0,0))) (he:0<=e/\e<=9223372036854775807) (aQ:ml.length<=1000000) (hE:Env w0 (ae b (wr PP TT (aV lv key vs x y z 9 W X K V C fd))::ae u (cW uc e ro)::bP m F ml::R) w) :
  Calls prog 88 #[.pointer (some ⟨b,k0,none⟩),zP u,zP m] w fun o w'=>o=.returned (zI 2)/\Env w0 (ae b (wr PP TT (aV lv key vs x y z 9 W X K V C fd))::ae u (cW uc e (wrap64 (ro+1)))::bP m F ml::R) w':=by
 have hv:=kT (L:=(ae b (wr PP TT (aV lv key vs x y z 9 W X K V C fd))::ae u (cW uc e ro)::bP m F ml::R)) (k:=uc.k) (s:=uc.s) (b:=uc.b) (h:=uc.h) (l:=uc.l) (A:=uc.A) (n:=uc.n) (c:=uc.c) (N:=uc.N) (hs:=uc.hs) (r:=ro) _ (rfl:ak ml (1,0,0)=ak ml (1,0,0)) hu he.1 he.2 aQ 1 2 hE rfl rfl;rw[aG] at hv;simp only[zS,zZ,Bool.false_eq_true,if_false] at hv;have HV:=zH hv;clear hv aG hu;obtain⟨cn,cq,ct,cu,cw,cx,cy,cz,cA,cB,cC,cD,cE⟩:=dj aS.out (hE.rule 0 rfl);go_enter func88,ntmps88;go_wp2_with fail;refine HV.out.mono ?_;rintro o w1 ⟨rfl,ag⟩;go_wp2_with fail;go_ret;exact⟨rfl,ag⟩
theorem Nz (aG:okB (ak ml (1,0,0)) e=true) (hu:aD (ak ml (1,0,0))) (he:0<=e/\e<=9223372036854775807) (aQ:ml.length<=1000000) (s:Int) (Y:World->Prop) (hE:Env w0 (ae b (wr PP TT (aV lv key vs x y z 9 W X K V C fd))::ae u (cW uc e ro)::bP m F ml::R) w)
  (hc:∀ v,Env w0 (ae b (wr PP TT (aV lv key vs x y z 9 W X K V C fd))::ae u (cW uc e ro)::bP m F ml::R) v->Calls prog 118 #[.pointer (some ⟨b,k0,none⟩)] v fun o w'=>o=.returned (zI s)/\Y w') :
  Calls prog 88 #[.pointer (some ⟨b,k0,none⟩),zP u,zP m] w fun o w'=>o=.returned (zI s)/\Y w':=by
 have hv:=kT (L:=(ae b (wr PP TT (aV lv key vs x y z 9 W X K V C fd))::ae u (cW uc e ro)::bP m F ml::R)) (k:=uc.k) (s:=uc.s) (b:=uc.b) (h:=uc.h) (l:=uc.l) (A:=uc.A) (n:=uc.n) (c:=uc.c) (N:=uc.N) (hs:=uc.hs) (r:=ro) _ (rfl:ak ml (1,0,0)=ak ml (1,0,0)) hu he.1 he.2 aQ 1 2 hE rfl rfl;rw[aG] at hv;simp only[zS,zZ,if_true] at hv;have HV:=zH hv;have HC:=zH hc;clear hv aG hu hc;obtain⟨cn,cq,ct,cu,cw,cx,cy,cz,cA,cB,cC,cD,cE⟩:=dj aS.out (hE.rule 0 rfl);go_enter func88,ntmps88;go_wp2_with fail;refine HV.out.mono ?_;rintro o w1 ⟨rfl,ag⟩;go_wp2_with fail;refine (HC.out _ ag).mono ?_;rintro o w2 ⟨rfl,hY⟩;go_wp2_with fail;go_ret;exact⟨rfl,hY⟩
end
def fZ (PP TT:List Value) (uc:Uc) (w0:World) (R:List Item) (b u m:Nat) (lv key:Int) (vs:Bool) (L:Lm) (e ro:Int) (f:aI->Int) (N:Nat) (w:World):Prop :=
 ∃ F ml,ak ml=f/\ml.length<=N/\Env w0 (ae b (wr PP TT (dG lv key vs L))::ae u (cW uc e ro)::bP m F ml::R) w
section
variable {PP TT:List Value} {k0:Nat} (aS:Hid (PP.length=k0))
include aS
variable {uc:Uc} {w0 w:World} {R:List Item} {b u m N:Nat} {f:aI->Int} {lv key e ro:Int} {vs:Bool} {L:Lm}
theorem NA (ax:L.pc=0) (hL:eJ L) (aH:0<=lv/\lv<=1000000) (he:0<=e/\e<=9223372036854775807) (hu:∀ x,aD (f x)) (hN:N<=1000000) (h:fZ PP TT uc w0 R b u m lv key vs L e ro f N w) :
  Calls prog 88 #[.pointer (some ⟨b,k0,none⟩),zP u,zP m] w fun o w'=>o=.returned (zI (aF lv key vs e L f).1)/\fZ PP TT uc w0 R b u m lv key vs (aF lv key vs e L f).2.1 e (cU e L f ro) (aF lv key vs e L f).2.2 (N+1) w':=by
 obtain⟨F,ml,rfl,hl,hE⟩:=h;have dv:Env w0 (ae b (wr PP TT (aV lv key vs L.p.1 L.p.2.1 L.p.2.2 0 L.W L.X L.K L.V L.C L.fd))::ae u (cW uc e ro)::bP m F ml::R) w:=by
  have h9:=hE;unfold dG at h9;rw[ax] at h9;exact h9
 clear hE;have hM:aF lv key vs e L (ak ml)=(0,{ L with W:=ak ml L.p,pc:=2 },ak ml):=by simp[aF,ax]
 have hr:cU e L (ak ml) ro=ro:=by simp[cU,ax,isVal]
 rw[hM,hr];refine (Nk aS (ak ml L.p) rfl (by omega) dv).mono ?_;rintro o w1 ⟨rfl,ag⟩;exact⟨rfl,F,ml,rfl,by omega,ag⟩
theorem NB (ax:L.pc=3) (hL:eJ L) (aH:0<=lv/\lv<=1000000) (he:0<=e/\e<=9223372036854775807) (hu:∀ x,aD (f x)) (hN:N<=1000000) (h:fZ PP TT uc w0 R b u m lv key vs L e ro f N w) :
  Calls prog 88 #[.pointer (some ⟨b,k0,none⟩),zP u,zP m] w fun o w'=>o=.returned (zI (aF lv key vs e L f).1)/\fZ PP TT uc w0 R b u m lv key vs (aF lv key vs e L f).2.1 e (cU e L f ro) (aF lv key vs e L f).2.2 (N+1) w':=by
 obtain⟨F,ml,rfl,hl,hE⟩:=h;have dv:Env w0 (ae b (wr PP TT (aV lv key vs L.p.1 L.p.2.1 L.p.2.2 3 L.W L.X L.K L.V L.C L.fd))::ae u (cW uc e ro)::bP m F ml::R) w:=by
  have h9:=hE;unfold dG at h9;rw[ax] at h9;exact h9
 clear hE;have hM:aF lv key vs e L (ak ml)=(0,{ L with X:=ak ml (5,L.C,7+lv),pc:=4 },ak ml):=by simp[aF,ax]
 have hr:cU e L (ak ml) ro=ro:=by simp[cU,ax,isVal]
 rw[hM,hr];refine (Nl aS aH (ak ml (5,L.C,7+lv)) rfl (by omega) dv).mono ?_;rintro o w1 ⟨rfl,ag⟩;exact⟨rfl,F,ml,rfl,by omega,ag⟩
theorem NC (ax:L.pc=6) (hL:eJ L) (aH:0<=lv/\lv<=1000000) (he:0<=e/\e<=9223372036854775807) (hu:∀ x,aD (f x)) (hN:N<=1000000) (h:fZ PP TT uc w0 R b u m lv key vs L e ro f N w) :
  Calls prog 88 #[.pointer (some ⟨b,k0,none⟩),zP u,zP m] w fun o w'=>o=.returned (zI (aF lv key vs e L f).1)/\fZ PP TT uc w0 R b u m lv key vs (aF lv key vs e L f).2.1 e (cU e L f ro) (aF lv key vs e L f).2.2 (N+1) w':=by
 obtain⟨F,ml,rfl,hl,hE⟩:=h;have dv:Env w0 (ae b (wr PP TT (aV lv key vs L.p.1 L.p.2.1 L.p.2.2 6 L.W L.X L.K L.V L.C L.fd))::ae u (cW uc e ro)::bP m F ml::R) w:=by
  have h9:=hE;unfold dG at h9;rw[ax] at h9;exact h9
 clear hE;have hM:aF lv key vs e L (ak ml)=(0,{ L with K:=ak ml (5,L.C,3),pc:=7 },ak ml):=by simp[aF,ax]
 have hr:cU e L (ak ml) ro=ro:=by simp[cU,ax,isVal]
 rw[hM,hr];refine (Nn aS (ak ml (5,L.C,3)) rfl (by omega) dv).mono ?_;rintro o w1 ⟨rfl,ag⟩;exact⟨rfl,F,ml,rfl,by omega,ag⟩
theorem ND (ax:L.pc=8) (hL:eJ L) (aH:0<=lv/\lv<=1000000) (he:0<=e/\e<=9223372036854775807) (hu:∀ x,aD (f x)) (hN:N<=1000000) (h:fZ PP TT uc w0 R b u m lv key vs L e ro f N w) :
  Calls prog 88 #[.pointer (some ⟨b,k0,none⟩),zP u,zP m] w fun o w'=>o=.returned (zI (aF lv key vs e L f).1)/\fZ PP TT uc w0 R b u m lv key vs (aF lv key vs e L f).2.1 e (cU e L f ro) (aF lv key vs e L f).2.2 (N+1) w':=by
 obtain⟨F,ml,rfl,hl,hE⟩:=h;have dv:Env w0 (ae b (wr PP TT (aV lv key vs L.p.1 L.p.2.1 L.p.2.2 8 L.W L.X L.K L.V L.C L.fd))::ae u (cW uc e ro)::bP m F ml::R) w:=by
  have h9:=hE;unfold dG at h9;rw[ax] at h9;exact h9
 clear hE;have hM:aF lv key vs e L (ak ml)=(0,{ L with V:=ak ml (5,L.C,4),pc:=9 },ak ml):=by simp[aF,ax]
 have hr:cU e L (ak ml) ro=ro:=by simp[cU,ax,isVal]
 rw[hM,hr];refine (Np aS (ak ml (5,L.C,4)) rfl (by omega) dv).mono ?_;rintro o w1 ⟨rfl,ag⟩;exact⟨rfl,F,ml,rfl,by omega,ag⟩
theorem NF (ax:L.pc=5) (hL:eJ L) (aH:0<=lv/\lv<=1000000) (he:0<=e/\e<=9223372036854775807) (hu:∀ x,aD (f x)) (hN:N<=1000000) (h:fZ PP TT uc w0 R b u m lv key vs L e ro f N w) :
  Calls prog 88 #[.pointer (some ⟨b,k0,none⟩),zP u,zP m] w fun o w'=>o=.returned (zI (aF lv key vs e L f).1)/\fZ PP TT uc w0 R b u m lv key vs (aF lv key vs e L f).2.1 e (cU e L f ro) (aF lv key vs e L f).2.2 (N+1) w':=by
 obtain⟨F,ml,rfl,hl,hE⟩:=h;have dv:Env w0 (ae b (wr PP TT (aV lv key vs L.p.1 L.p.2.1 L.p.2.2 5 L.W L.X L.K L.V L.C L.fd))::ae u (cW uc e ro)::bP m F ml::R) w:=by
  have h9:=hE;unfold dG at h9;rw[ax] at h9;exact h9
 clear hE;have hr:cU e L (ak ml) ro=ro:=by simp[cU,ax,isVal]
 have ei:=Nj ml L.p L.W (aP false (aA L.X) e)
 by_cases heq:ak ml L.p=L.W
 ·have hM:aF lv key vs e L (ak ml)=(cS (aP false (aA L.X) e),{ L with W:=aP false (aA L.X) e,X:=0,C:=aA (aP false (aA L.X) e),pc:=3 },swf (ak ml) L.p L.W (aP false (aA L.X) e)):=by simp[aF,ax,heq,jv]
  rw[hM,hr];refine (Ns aS heq hL.X (by omega) dv).mono ?_;rintro o w1 ⟨rfl,F',ag⟩;exact⟨rfl,F',_,(qL _ _ _ _).symm,by omega,ag⟩
 ·have hM:aF lv key vs e L (ak ml)=(2,L,swf (ak ml) L.p L.W (aP false (aA L.X) e)):=by simp[aF,ax,heq]
  rw[hM,hr];refine (Nq aS heq hL.X (by omega) dv).mono ?_;rintro o w1 ⟨rfl,F',ag⟩;refine⟨rfl,F',_,(qL _ _ _ _).symm,by omega,?_⟩;unfold dG;rw[ax];exact ag
theorem NG (ax:L.pc=2) (hL:eJ L) (aH:0<=lv/\lv<=1000000) (he:0<=e/\e<=9223372036854775807) (hu:∀ x,aD (f x)) (hN:N<=1000000) (h:fZ PP TT uc w0 R b u m lv key vs L e ro f N w) :
  Calls prog 88 #[.pointer (some ⟨b,k0,none⟩),zP u,zP m] w fun o w'=>o=.returned (zI (aF lv key vs e L f).1)/\fZ PP TT uc w0 R b u m lv key vs (aF lv key vs e L f).2.1 e (cU e L f ro) (aF lv key vs e L f).2.2 (N+1) w':=by
 obtain⟨F,ml,rfl,hl,hE⟩:=h;have dv:Env w0 (ae b (wr PP TT (aV lv key vs L.p.1 L.p.2.1 L.p.2.2 2 L.W L.X L.K L.V L.C L.fd))::ae u (cW uc e ro)::bP m F ml::R) w:=by
  have h9:=hE;unfold dG at h9;rw[ax] at h9;exact h9
 clear hE
 by_cases aG:okB (ak ml (1,0,0)) e=true
 ·have hr:cU e L (ak ml) ro=ro:=by simp[cU,aG]
  rw[hr]
  by_cases bA:cO L.W=true
  ·skip
   have hM:aF lv key vs e L (ak ml)=(2,L,ak ml):=by simp[aF,eC,ax,aG,jv,bA]
   rw[hM];refine EX aS aG (hu _) he (by omega) _ _ dv fun v hv=>?_;refine (Na aS bA hL.W hv).mono ?_;rintro o w1 ⟨rfl,ag⟩;refine⟨rfl,F,ml,rfl,by omega,?_⟩;unfold dG;rw[ax];exact ag
  ·have bA:cO L.W=false:=by simpa using bA
   have hM:aF lv key vs e L (ak ml)=(cS L.W,{ L with W:=L.W,X:=0,C:=aA L.W,pc:=3 },ak ml):=by simp[aF,eC,ax,aG,jv,bA]
   rw[hM];refine EX aS aG (hu _) he (by omega) _ _ dv fun v hv=>?_;refine (Nb aS bA hL.W hv).mono ?_;rintro o w1 ⟨rfl,ag⟩;exact⟨rfl,F,ml,rfl,by omega,ag⟩
 ·have aG:okB (ak ml (1,0,0)) e=false:=by simpa using aG
  have hr:cU e L (ak ml) ro=wrap64 (ro+1):=by simp[cU,ax,isVal,aG]
  have hM:aF lv key vs e L (ak ml)=(2,L,ak ml):=by simp[aF,ax,aG]
  rw[hM,hr];refine (Nt aS aG (hu _) he (by omega) dv).mono ?_;rintro o w1 ⟨rfl,ag⟩;refine⟨rfl,F,ml,rfl,by omega,?_⟩;unfold dG;rw[ax];exact ag
theorem NH (ax:L.pc=4) (hL:eJ L) (aH:0<=lv/\lv<=1000000) (he:0<=e/\e<=9223372036854775807) (hu:∀ x,aD (f x)) (hN:N<=1000000) (h:fZ PP TT uc w0 R b u m lv key vs L e ro f N w) :
  Calls prog 88 #[.pointer (some ⟨b,k0,none⟩),zP u,zP m] w fun o w'=>o=.returned (zI (aF lv key vs e L f).1)/\fZ PP TT uc w0 R b u m lv key vs (aF lv key vs e L f).2.1 e (cU e L f ro) (aF lv key vs e L f).2.2 (N+1) w':=by
 obtain⟨F,ml,rfl,hl,hE⟩:=h;have dv:Env w0 (ae b (wr PP TT (aV lv key vs L.p.1 L.p.2.1 L.p.2.2 4 L.W L.X L.K L.V L.C L.fd))::ae u (cW uc e ro)::bP m F ml::R) w:=by
  have h9:=hE;unfold dG at h9;rw[ax] at h9;exact h9
 clear hE
 by_cases aG:okB (ak ml (1,0,0)) e=true
 ·have hr:cU e L (ak ml) ro=ro:=by simp[cU,aG]
  rw[hr];have hM:aF lv key vs e L (ak ml)=(0,{ L with pc:=if cO L.X then 5 else 6 },ak ml):=by simp[aF,eC,ax,aG,jv]
  rw[hM];refine Nv aS aG (hu _) he (by omega) _ _ dv fun v hv=>?_;refine (Nc aS hL.X hv).mono ?_;rintro o w1 ⟨rfl,ag⟩;refine⟨rfl,F,ml,rfl,by omega,?_⟩;cases bA:cO L.X
  ·rw[bA] at ag;exact ag
  ·rw[bA] at ag;exact ag
 ·have aG:okB (ak ml (1,0,0)) e=false:=by simpa using aG
  have hr:cU e L (ak ml) ro=wrap64 (ro+1):=by simp[cU,ax,isVal,aG]
  have hM:aF lv key vs e L (ak ml)=(2,L,ak ml):=by simp[aF,ax,aG]
  rw[hM,hr];refine (Nu aS aG (hu _) he (by omega) dv).mono ?_;rintro o w1 ⟨rfl,ag⟩;refine⟨rfl,F,ml,rfl,by omega,?_⟩;unfold dG;rw[ax];exact ag
theorem NI (ax:L.pc=7) (hL:eJ L) (aH:0<=lv/\lv<=1000000) (he:0<=e/\e<=9223372036854775807) (hu:∀ x,aD (f x)) (hN:N<=1000000) (h:fZ PP TT uc w0 R b u m lv key vs L e ro f N w) :
  Calls prog 88 #[.pointer (some ⟨b,k0,none⟩),zP u,zP m] w fun o w'=>o=.returned (zI (aF lv key vs e L f).1)/\fZ PP TT uc w0 R b u m lv key vs (aF lv key vs e L f).2.1 e (cU e L f ro) (aF lv key vs e L f).2.2 (N+1) w':=by
 obtain⟨F,ml,rfl,hl,hE⟩:=h;have dv:Env w0 (ae b (wr PP TT (aV lv key vs L.p.1 L.p.2.1 L.p.2.2 7 L.W L.X L.K L.V L.C L.fd))::ae u (cW uc e ro)::bP m F ml::R) w:=by
  have h9:=hE;unfold dG at h9;rw[ax] at h9;exact h9
 clear hE
 by_cases aG:okB (ak ml (1,0,0)) e=true
 ·have hr:cU e L (ak ml) ro=ro:=by simp[cU,aG]
  rw[hr]
  by_cases aE:L.K < key
  ·skip
   have hM:aF lv key vs e L (ak ml)=(cS L.X,{ L with p:=(5,L.C,7+lv),W:=L.X,X:=0,C:=aA L.X,pc:=3 },ak ml):=by simp[aF,eC,ax,aG,jv,aE]
   rw[hM];refine xQ aS aG (hu _) he (by omega) _ _ dv fun v hv=>?_;refine (Nd aS aE aH hL.X hv).mono ?_;rintro o w1 ⟨rfl,ag⟩;exact⟨rfl,F,ml,rfl,by omega,ag⟩
  ·by_cases heq:L.K=key
   ·cases vs
    ·skip
     have hM:aF lv key false e L (ak ml)=(1,{ L with fd:=true },ak ml):=by simp[aF,eC,ax,aG,jv,heq]
     rw[hM];refine xQ aS aG (hu _) he (by omega) _ _ dv fun v hv=>?_;refine (Nf aS heq hv).mono ?_;rintro o w1 ⟨rfl,ag⟩;refine⟨rfl,F,ml,rfl,by omega,?_⟩;unfold dG;dsimp only;rw[ax];exact ag
    ·skip
     have hM:aF lv key true e L (ak ml)=(0,{ L with fd:=true,pc:=8 },ak ml):=by simp[aF,eC,ax,aG,jv,heq]
     rw[hM];refine xQ aS aG (hu _) he (by omega) _ _ dv fun v hv=>?_;refine (Ng aS heq hv).mono ?_;rintro o w1 ⟨rfl,ag⟩;exact⟨rfl,F,ml,rfl,by omega,ag⟩
   ·skip
    have hM:aF lv key vs e L (ak ml)=(1,L,ak ml):=by simp[aF,eC,ax,aG,jv,aE,heq]
    rw[hM];refine xQ aS aG (hu _) he (by omega) _ _ dv fun v hv=>?_;refine (Nh aS (by omega) hv).mono ?_;rintro o w1 ⟨rfl,ag⟩;refine⟨rfl,F,ml,rfl,by omega,?_⟩;unfold dG;rw[ax];exact ag
 ·have aG:okB (ak ml (1,0,0)) e=false:=by simpa using aG
  have hr:cU e L (ak ml) ro=wrap64 (ro+1):=by simp[cU,ax,isVal,aG]
  have hM:aF lv key vs e L (ak ml)=(2,L,ak ml):=by simp[aF,ax,aG]
  rw[hM,hr];refine (Nw aS aG (hu _) he (by omega) dv).mono ?_;rintro o w1 ⟨rfl,ag⟩;refine⟨rfl,F,ml,rfl,by omega,?_⟩;unfold dG;rw[ax];exact ag
theorem NJ (ax:L.pc=9) (hL:eJ L) (aH:0<=lv/\lv<=1000000) (he:0<=e/\e<=9223372036854775807) (hu:∀ x,aD (f x)) (hN:N<=1000000) (h:fZ PP TT uc w0 R b u m lv key vs L e ro f N w) :
  Calls prog 88 #[.pointer (some ⟨b,k0,none⟩),zP u,zP m] w fun o w'=>o=.returned (zI (aF lv key vs e L f).1)/\fZ PP TT uc w0 R b u m lv key vs (aF lv key vs e L f).2.1 e (cU e L f ro) (aF lv key vs e L f).2.2 (N+1) w':=by
 obtain⟨F,ml,rfl,hl,hE⟩:=h;have dv:Env w0 (ae b (wr PP TT (aV lv key vs L.p.1 L.p.2.1 L.p.2.2 9 L.W L.X L.K L.V L.C L.fd))::ae u (cW uc e ro)::bP m F ml::R) w:=by
  have h9:=hE;unfold dG at h9;rw[ax] at h9;exact h9
 clear hE
 by_cases aG:okB (ak ml (1,0,0)) e=true
 ·have hr:cU e L (ak ml) ro=ro:=by simp[cU,aG]
  rw[hr];have hM:aF lv key vs e L (ak ml)=(1,L,ak ml):=by simp[aF,eC,ax,aG,jv]
  rw[hM];refine Nz aS aG (hu _) he (by omega) _ _ dv fun v hv=>?_;refine (Ni aS hv).mono ?_;rintro o w1 ⟨rfl,ag⟩;refine⟨rfl,F,ml,rfl,by omega,?_⟩;unfold dG;rw[ax];exact ag
 ·have aG:okB (ak ml (1,0,0)) e=false:=by simpa using aG
  have hr:cU e L (ak ml) ro=wrap64 (ro+1):=by simp[cU,ax,isVal,aG]
  have hM:aF lv key vs e L (ak ml)=(2,L,ak ml):=by simp[aF,ax,aG]
  rw[hM,hr];refine (Ny aS aG (hu _) he (by omega) dv).mono ?_;rintro o w1 ⟨rfl,ag⟩;refine⟨rfl,F,ml,rfl,by omega,?_⟩;unfold dG;rw[ax];exact ag
theorem NK (hL:eJ L) (aH:0<=lv/\lv<=1000000) (he:0<=e/\e<=9223372036854775807) (hu:∀ x,aD (f x)) (hN:N<=1000000) (h:fZ PP TT uc w0 R b u m lv key vs L e ro f N w) :
  Calls prog 88 #[.pointer (some ⟨b,k0,none⟩),zP u,zP m] w fun o w'=>o=.returned (zI (aF lv key vs e L f).1)/\fZ PP TT uc w0 R b u m lv key vs (aF lv key vs e L f).2.1 e (cU e L f ro) (aF lv key vs e L f).2.2 (N+1) w':=by
 rcases hL.pc with h0 | h0 | h0 | h0 | h0 | h0 | h0 | h0 | h0
 ·exact NA aS h0 hL aH he hu hN h
 ·exact NG aS h0 hL aH he hu hN h
 ·exact NB aS h0 hL aH he hu hN h
 ·exact NH aS h0 hL aH he hu hN h
 ·exact NF aS h0 hL aH he hu hN h
 ·exact NC aS h0 hL aH he hu hN h
 ·exact NI aS h0 hL aH he hu hN h
 ·exact ND aS h0 hL aH he hu hN h
 ·exact NJ aS h0 hL aH he hu hN h
end
def aY (key lv:Int) (V:Nat->List Value):List Value:=zU key::zI lv::(List.range 16).flatMap V
theorem NL:∀ l,l < 16->List.range 16=List.range l++l::List.range' (l+1) (15 - l):=by decide
theorem Bh {V V':Nat->List Value}:∀ (l:List Nat),(∀ i∈l,V i=V' i)->l.flatMap V=l.flatMap V'
 | [],_=>rfl
 | a::r,h=>by
  rw[List.flatMap_cons,List.flatMap_cons,h a (List.mem_cons_self ..),Bh r fun i hi=>h i (List.mem_cons_of_mem _ hi)]
def kU (key lv:Int) (V:Nat->List Value) (l:Nat):List Value:=zU key::zI lv::(List.range l).flatMap V
def mo (V:Nat->List Value) (l:Nat):List Value:=(List.range' (l+1) (15 - l)).flatMap V
theorem uj (key lv:Int) (V:Nat->List Value) {l:Nat} (h:l < 16):aY key lv V=wr (kU key lv V l) (mo V l) (V l):=by
 unfold aY wr kU mo;rw[NL l h,List.flatMap_append,List.flatMap_cons];simp
theorem uk (key lv:Int) {V:Nat->List Value} (hV:∀ i,(V i).length=13):∀ l,(kU key lv V l).length=2+l * 13
 | 0=>rfl
 | l+1=>by
  have ih:=uk key lv hV l;unfold kU at ih ⊢;rw[List.range_succ,List.flatMap_append];simp only[List.length_cons,List.length_append,List.flatMap_cons,List.flatMap_nil,List.append_nil,hV] at ih ⊢;omega
theorem NM (key lv:Int) (V:Nat->List Value) (l:Nat) (x:List Value):kU key lv (cN V l x) l=kU key lv V l:=by
 unfold kU;rw[Bh _ fun i hi=>gQ _ _ (show i≠l by rw[List.mem_range] at hi;omega)]
theorem NP (V:Nat->List Value) (l:Nat) (x:List Value):mo (cN V l x) l=mo V l:=by
 unfold mo;rw[Bh _ fun i hi=>gQ _ _ (show i≠l by rw[List.mem_range'_1] at hi;omega)]
theorem Bi (key lv:Int) (V:Nat->List Value) {l:Nat} (h:l < 16) (x:List Value):wr (kU key lv V l) (mo V l) x=aY key lv (cN V l x):=by
 rw[uj key lv (cN V l x) h,NM,NP,gD]
theorem EY:∀ {l:List Value},l.length=13->∃ a0 a1 a2 a3 a4 a5 a6 a7 a8 a9 pF pG a12,l=[a0,a1,a2,a3,a4,a5,a6,a7,a8,a9,pF,pG,a12]
 | [a0,a1,a2,a3,a4,a5,a6,a7,a8,a9,pF,pG,a12],_=>⟨a0,a1,a2,a3,a4,a5,a6,a7,a8,a9,pF,pG,a12,rfl⟩
theorem Bj {V:Nat->List Value} (hV:∀ i,(V i).length=13) {l:Nat} {x:List Value} (hx:x.length=13):∀ i,(cN V l x i).length=13:=fun i=>by
 by_cases e:i=l
 ·rw[e,gD];exact hx
 ·rw[gQ _ _ e];exact hV i
theorem Bk (key lv sr:Int) (V:Nat->List Value):(aY key lv V).set 1 (zI sr)=aY key sr V:=rfl
section
variable {w0 w:World} {L:List Item} {q:Nat} {b0 b1 b2 b3 b4 b5 b6 b7 b8 b9 pH pI pJ:Value}
theorem Env.put13 (hE:Env w0 L w) {PP TT:List Value} {k0:Nat} (hp:PP.length=k0) (hi:L[0]?=some (ae q (wr PP TT [b0,b1,b2,b3,b4,b5,b6,b7,b8,b9,pH,pI,pJ]))) (a0 a1 a2 a3 a4 a5 a6 a7 a8 a9 pF pG a12:Value) :
  Env w0 (L.set 0 (ae q (wr PP TT [a0,a1,a2,a3,a4,a5,a6,a7,a8,a9,pF,pG,a12]))) (((((((((((((w.setCell ⟨q,k0,none⟩ a0).setCell ⟨q,k0+1,none⟩ a1).setCell ⟨q,k0+2,none⟩ a2).setCell ⟨q,k0+3,none⟩ a3).setCell ⟨q,k0+4,none⟩ a4).setCell ⟨q,k0+5,none⟩ a5).setCell ⟨q,k0+6,none⟩ a6).setCell ⟨q,k0+7,none⟩ a7).setCell ⟨q,k0+8,none⟩ a8).setCell ⟨q,k0+9,none⟩ a9).setCell ⟨q,k0+10,none⟩ pF).setCell ⟨q,k0+11,none⟩ pG).setCell ⟨q,k0+12,none⟩ a12):=by
 obtain⟨x,r,rfl⟩:∃ x r,L=x::r:=by
  cases L with
  | nil=>cases hi
  | cons x r=>exact⟨x,r,rfl⟩
 obtain rfl:x=ae q (wr PP TT [b0,b1,b2,b3,b4,b5,b6,b7,b8,b9,pH,pI,pJ]):=by simpa using hi
 exact ((((((((((((hE.putW0 hp 0 rfl (by simp) a0).putW hp 0 rfl (j:=1) (by simp) a1).putW hp 0 rfl (j:=2) (by simp) a2).putW hp 0 rfl (j:=3) (by simp) a3).putW hp 0 rfl (j:=4) (by simp) a4).putW hp 0 rfl (j:=5) (by simp) a5).putW hp 0 rfl (j:=6) (by simp) a6).putW hp 0 rfl (j:=7) (by simp) a7).putW hp 0 rfl (j:=8) (by simp) a8).putW hp 0 rfl (j:=9) (by simp) a9).putW hp 0 rfl (j:=10) (by simp) pF).putW hp 0 rfl (j:=11) (by simp) pG).putW hp 0 rfl (j:=12) (by simp) a12
theorem Env.facts13 (hE:Env w0 L w) {PP TT:List Value} {k0:Nat} (hp:PP.length=k0) (hi:L[0]?=some (ae q (wr PP TT [b0,b1,b2,b3,b4,b5,b6,b7,b8,b9,pH,pI,pJ]))) :
  (w.cell? ⟨q,k0,none⟩=some b0/\w.cell? ⟨q,k0+1,none⟩=some b1/\w.cell? ⟨q,k0+2,none⟩=some b2/\w.cell? ⟨q,k0+3,none⟩=some b3/\w.cell? ⟨q,k0+4,none⟩=some b4/\w.cell? ⟨q,k0+5,none⟩=some b5/\w.cell? ⟨q,k0+6,none⟩=some b6/\w.cell? ⟨q,k0+7,none⟩=some b7/\w.cell? ⟨q,k0+8,none⟩=some b8/\w.cell? ⟨q,k0+9,none⟩=some b9/\w.cell? ⟨q,k0+10,none⟩=some pH/\w.cell? ⟨q,k0+11,none⟩=some pI/\w.cell? ⟨q,k0+12,none⟩=some pJ) /\
  (w.frozen? ⟨q,k0,none⟩=false/\w.frozen? ⟨q,k0+1,none⟩=false/\w.frozen? ⟨q,k0+2,none⟩=false/\w.frozen? ⟨q,k0+3,none⟩=false/\w.frozen? ⟨q,k0+4,none⟩=false/\w.frozen? ⟨q,k0+5,none⟩=false/\w.frozen? ⟨q,k0+6,none⟩=false/\w.frozen? ⟨q,k0+7,none⟩=false/\w.frozen? ⟨q,k0+8,none⟩=false/\w.frozen? ⟨q,k0+9,none⟩=false/\w.frozen? ⟨q,k0+10,none⟩=false/\w.frozen? ⟨q,k0+11,none⟩=false/\w.frozen? ⟨q,k0+12,none⟩=false):=by
 have g:∀ j,j < 13->w.cell? ⟨q,k0+j,none⟩=[b0,b1,b2,b3,b4,b5,b6,b7,b8,b9,pH,pI,pJ][j]?:=fun j hj=>by rw[hE.rule 0 hi,Bd hp (by simpa using hj)]
 have f:∀ j,j < 13->w.frozen? ⟨q,k0+j,none⟩=false:=fun j hj=>hE.thawW hp 0 hi j (by simpa using hj);exact⟨⟨g 0 (by omega),g 1 (by omega),g 2 (by omega),g 3 (by omega),g 4 (by omega),g 5 (by omega),g 6 (by omega),g 7 (by omega),g 8 (by omega),g 9 (by omega),g 10 (by omega),g 11 (by omega),g 12 (by omega)⟩,f 0 (by omega),f 1 (by omega),f 2 (by omega),f 3 (by omega),f 4 (by omega),f 5 (by omega),f 6 (by omega),f 7 (by omega),f 8 (by omega),f 9 (by omega),f 10 (by omega),f 11 (by omega),f 12 (by omega)⟩
end
section
variable {uc:Uc} {w0 w:World} {R:List Item} {q u m N:Nat} {G:Nat->Prop} {ml:List bT} {key e ro l0:Int} {V:Nat->List Value}
theorem NQ (t:Nat) (ht:t < 16) (qN:uc.h=(t:Int)+1) (EZ:l0 < 0) (hV:∀ i,(V i).length=13) (aQ:ml.length<=1000000) (hu:aD (ak ml (1,0,0))) (hE:Env w0 (ae q (aY key l0 V)::ae u (cW uc e ro)::bP m G ml::R) w) :
  Calls prog 64 #[zP q,zP u,zP m] w fun o w'=>o=.returned (zI 0)/\Env w0 (ae q (aY key t (cN V t (dG t key false (L0 (4,0,(t:Int))))))::ae u (cW uc (bg (ak ml (1,0,0))) ro)::bP m G ml::R) w':=by
 have hc:=DY (L:=ae q (aY key l0 V)::ae u (cW uc e ro)::bP m G ml::R) (k:=uc.k) (s:=uc.s) (b:=uc.b) (h:=uc.h) (l:=uc.l) (A:=uc.A) (n:=uc.n) (c:=uc.c) (N:=uc.N) (hs:=uc.hs) (r:=ro) (e:=e) _ (rfl:ak ml (1,0,0)=ak ml (1,0,0)) hu aQ 1 2 hE rfl rfl;simp only[zS,zZ] at hc;obtain⟨e1,qw⟩:∃ e1,bg (ak ml (1,0,0))=e1:=⟨_,rfl⟩;rw[qw] at hc ⊢;have HC:=zH hc;have jb:decide (l0 < 0)=true:=by simpa using EZ
 have r0:w.cell? ⟨q,1,none⟩=some (zI l0):=hE.rule 0 rfl 1;have NR:=zH qN;clear hc EZ hu aQ qw qN;go_enter func64,ntmps64;go_wp2_with fail;refine HC.out.mono ?_;rintro o w1 ⟨rfl,ag⟩;replace ag:Env w0 (ae q (aY key l0 V)::ae u (cW uc e1 ro)::bP m G ml::R) w1:=ag;clear HC hE r0;have r3:w1.cell? ⟨u,3,none⟩=some (zI ((t:Int)+1)):=by rw[<- NR.out];exact ag.rule 1 rfl 3
 have r1:w1.cell? ⟨q,1,none⟩=some (zI l0):=ag.rule 0 rfl 1;have f1:=ag.thaw 0 rfl 1 (by simp[aY]);have Tv:t<=15:=by omega
 have az:=ag.put 0 rfl (j:=1) (by simp[aY]) (zI t);rw[Bk] at az;simp only[zZ] at az
 go_upto_region 4 with fail
 generalize World.setCell _ _ _=w2 at *;clear r1 r3 f1 ag;rw[uj key t V ht] at az;have gq:=uk key (t:Int) hV t;obtain⟨b0,b1,b2,b3,b4,b5,b6,b7,b8,b9,pH,pI,pJ,hb⟩:=EY (hV t);rw[hb] at az;have pK:Hid (wr (kU key t V t) (mo V t) (dG t key false (L0 (4,0,(t:Int))))=aY key t (cN V t (dG t key false (L0 (4,0,(t:Int)))))):=zH (Bi key t V ht _);obtain⟨PP,kV⟩:∃ PP,kU key t V t=PP:=⟨_,rfl⟩;obtain⟨TT,qO⟩:∃ TT,mo V t=TT:=⟨_,rfl⟩;have gT:Hid (∀ vs v,Env w0 (ae q (wr PP TT vs)::ae u (cW uc e1 ro)::bP m G ml::R) v->v.cell? ⟨q,0,none⟩=some (zU key)/\v.cell? ⟨q,1,none⟩=some (zI t)):=zH fun vs v hv=>by
  have h0:=hv.rule 0 rfl 0;have h1:=hv.rule 0 rfl 1;rw[<- kV] at h0 h1;exact⟨h0,h1⟩
 rw[kV,qO] at az pK;rw[kV] at gq;have pL:=zH gq;have E0:(t:Int) < 16:=by omega
 clear gq hb kV qO jb;refine Ord.wc [22] (fun v=>v.cell? ⟨q,0,none⟩=some (zU key)/\v.cell? ⟨q,1,none⟩=some (zI t)) (fun k w'=>Env w0 (ae q (wr PP TT (if k=0 then [b0,b1,b2,b3,b4,b5,b6,b7,b8,b9,pH,pI,pJ] else dG t key false (L0 (4,0,(t:Int)))))::ae u (cW uc e1 ro)::bP m G ml::R) w') (gT.out _ _ az.drew) az.drew fun af=>?_
 repeat ((first
  | (refine Ord.cv ?_ af.o ?_ ?_;rotate_left;(intro w5 hS;obtain⟨c0,c1⟩:=hS;go_simp<;>rfl))
  | (refine Ord.co af.o ?_));try simp only[Act.put,zA,zZ,zS])
 refine Ord.ch_turn (v:=undef) 0 af.o rfl (by decide) (Or.inl rfl) (by rfl) ?_ ?_
 ·rintro w5 aN au;simp only[if_true] at au;obtain⟨⟨c0,c1,c2,c3,c4,c5,c6,c7,c8,c9,NS,NT,NU⟩,f0,f1,f2,f3,f4,f5,f6,f7,f8,f9,f10,f11,f12⟩:=au.facts13 pL.out rfl;have aO:=au.put13 pL.out rfl (zI 4) (zI 0) (zI t) (zI t) (zU key) (.bool false) (zI 0) (zU 0) (zU 0) (zU 0) (zU 0) (zI 0) (.bool false);go_simp;exact⟨rfl,gT.out _ _ aO,aO⟩
 try simp only[Act.put,zA,zZ,zS]
 refine Ord.InText.nil fun w5 hS=>?_;clear af;obtain⟨aL,ai⟩:=Ord.chain_end hS;clear hS;simp only[List.length_cons,List.length_nil,Nat.zero_add,Nat.one_ne_zero,if_false] at ai;rw[pK.out] at ai;clear aL az;go_wp2_with fail;go_ret;exact⟨rfl,ai⟩
end
def V0:Nat->List Value:=fun _=>aV 0 0 false 0 0 0 0 0 0 0 0 0 false
theorem NV {w0 w:World} {L:List Item} (key:Int) (hE:Env w0 L w) :
  Calls prog 87 #[zU key] w fun o w'=>∃ q,o=.returned (zP q)/\Env w0 (ae q (aY key (-1) V0)::L) w':=by
 have ag:=hE.box w.heap.size rfl (aY key (-1) V0) 175;clear hE;go_enter func87,ntmps87;go_wp2_with fail;go_ret;exact⟨_,rfl,ag⟩
section
variable {w0 w:World} {R:List Item} {C:Cf} {d:Dd} {X:Tm} {V:Wm} {T:Th} {f:aI->Int} {G FU:Nat->Prop} {qc:bN} {n r b:Nat} {ml:List bT}
theorem NW (hn:n < maxLen) (hl:T.ql.length+1<=1000000) (he:aD T.re) (hs:In64 T.rs) (hE:Env w0 (ae r (dS X.c (j6 r T.rpc) T.rs T.re)::LT (SP C X V T f G qc n) R) w) :
  Calls prog 241 #[zP r,.iface 28 (zP V.p)] w fun o w'=>o=.returned (zI (cQ T f).1)/\∃ (F':Nat->Prop) (k':Nat) (G':Nat->Prop) (bt:bN) (n':Nat),Nx n qc n' bt/\(((cQ T f).1=0/\Env w0 (ae r (dS X.c (j6 r (cQ T f).2.1.rpc) (cQ T f).2.1.rs (cQ T f).2.1.re)::LT (SP C { X with F:=F',kq:=k' } V (cQ T f).2.1 (cQ T f).2.2 G' bt n') R) w')\/((cQ T f).1≠0/\Env w0 (LT (SP C { X with F:=F',kq:=k' } V (cQ T f).2.1 (cQ T f).2.2 G' bt n') R) w')):=by
 by_cases h0:T.rpc=0
 ·have bp:cQ T f=(0,{ T with re:=f (1,0,0),rpc:=1 },f):=by unfold cQ;rw[if_pos h0]
  rw[bp];rw[h0] at hE;refine (Ep (S:=SP C X V T f G qc n) 0 _ hE rfl (L3 (S:=SP C X V T f G qc n) _ rfl (zH rfl) hE)).mono ?_;rintro o w1 ⟨rfl,ag⟩;exact⟨rfl,X.F,X.kq,G,_,n,⟨by omega,(by first | exact Or.inl ⟨rfl,rfl,rfl,rfl⟩ | exact Or.inr (Or.inl ⟨rfl,rfl,rfl,rfl⟩) | exact Or.inr (Or.inr (Or.inl ⟨rfl,rfl,rfl,rfl⟩)) | exact Or.inr (Or.inr (Or.inr ⟨rfl,rfl,rfl,rfl⟩)))⟩,.inl ⟨rfl,ag⟩⟩
 ·have bp:cQ T f=(1,{ T with ql:=T.ql++[(T.rs,bg T.re,0)] },upd f (5,T.rs,1) T.re):=by unfold cQ;rw[if_neg h0]
  rw[bp];have bo:j6 r T.rpc=j6 r 1:=by unfold j6 pk;rw[if_neg h0,if_neg (by decide)]
  rw[bo] at hE;refine (Ep (S:=SP C X V T f G qc n) 1 _ hE rfl (L4 (S:=SP C X V T f G qc n) he hs hn (Nat.le_trans hl (by decide)) hE)).mono ?_;rintro o w1 ⟨rfl,k',F',G',-,ag⟩;exact⟨rfl,F',k',G',_,n+1,⟨Nat.le_refl _,(by first | exact Or.inl ⟨rfl,rfl,rfl,rfl⟩ | exact Or.inr (Or.inl ⟨rfl,rfl,rfl,rfl⟩) | exact Or.inr (Or.inr (Or.inl ⟨rfl,rfl,rfl,rfl⟩)) | exact Or.inr (Or.inr (Or.inr ⟨rfl,rfl,rfl,rfl⟩)))⟩,.inr ⟨show (1:Int)≠0 by decide,ag⟩⟩
theorem NY (hl:T.ql.length+1<=1000000) (he:aD T.re) (xR:T.rpc≠0->bg T.re=T.re) (ax:T.rpc=0\/T.rpc=1) (aQ:ml.length<=999999) (hN:0<=X.N/\X.N<=4000000) (hE:Env w0 (ae b (eH T.rs (T.rpc:Int) T.re)::LU (SR C X V T FU ml) R) w) :
  Calls prog 68 #[zP b,zP X.u,zP V.m] w fun o w'=>o=.returned (zI (cQ T (ak ml)).1)/\∃ (A':Option Addr) (ea:Nat) (N':Int) (ca:Nat->Prop) (aR:List bT),ak aR=(cQ T (ak ml)).2.2/\aR.length<=ml.length+1/\0<=N'/\N'<=4000000/\(((cQ T (ak ml)).1=0/\Env w0 (ae b (eH (cQ T (ak ml)).2.1.rs ((cQ T (ak ml)).2.1.rpc:Int) (cQ T (ak ml)).2.1.re)::LU (SR C { X with A:=A',rc:=ea,N:=N' } V (cQ T (ak ml)).2.1 ca aR) R) w')\/((cQ T (ak ml)).1≠0/\Env w0 (LU (SR C { X with A:=A',rc:=ea,N:=N' } V (cQ T (ak ml)).2.1 ca aR) R) w')):=by
 rcases ax with h0 | h0
 ·have bp:cQ T (ak ml)=(0,{ T with re:=ak ml (1,0,0),rpc:=1 },ak ml):=by unfold cQ;rw[if_pos h0]
  rw[bp];rw[h0] at hE;refine (LO (U:=SR C X V T FU ml) _ rfl (by show ml.length<=1000000;omega) hE).mono ?_;rintro o w1 ⟨rfl,ag⟩;exact⟨rfl,X.A,X.rc,X.N,FU,ml,rfl,by omega,hN.1,hN.2,.inl ⟨rfl,ag⟩⟩
 ·have bp:cQ T (ak ml)=(1,{ T with ql:=T.ql++[(T.rs,bg T.re,0)] },upd (ak ml) (5,T.rs,1) T.re):=by unfold cQ;rw[if_neg (by omega)]
  rw[bp];have NZ:=xR (by omega);rw[h0] at hE;refine (LP (U:=SR C X V T FU ml) he (by show ml.length<=1000000;omega) (by show T.ql.length<=1000000;omega) (by show 0<=X.N/\X.N<=1099511627776;omega) hE).mono ?_;rintro o w1 ⟨rfl,F5,A',c',ag⟩;have gL:=xK hN hl;have xL:(ak (cM ml (5,T.rs,1) (bg T.re)))=upd (ak ml) (5,T.rs,1) T.re:=by rw[lI,NZ]
  exact⟨rfl,A',c',_,F5,_,xL,mb _ _ _,gL.1,gL.2,.inr ⟨show (1:Int)≠0 by decide,ag⟩⟩
theorem N0 (hg:bE w0) (hn:n < maxLen) (su:aD T.gh) (ax:T.gpc<=3) (hq:2<=T.gpc->∃ x y t,T.ql=(x,y,0)::t/\In64 x) (hE:Env w0 (ae r (bR X.c (iq r T.gpc) T.gh T.gg)::LT (SP C X V T f G qc n) R) w) :
  Calls prog 25 #[zP r,.iface 28 (zP V.p)] w fun o w'=>o=.returned (zI (cK C T f).1)/\∃ (G':Nat->Prop) (bt:bN) (n':Nat) (nx:Value × Value),Nx n qc n' bt/\((cK C T f).1=0->nx=iq r (cK C T f).2.1.gpc)/\Env w0 (ae r (bR X.c nx (cK C T f).2.1.gh (cK C T f).2.1.gg)::LT (SP C X V (cK C T f).2.1 (cK C T f).2.2 G' bt n') R) w':=by
 rcases (show T.gpc=0\/T.gpc=1\/T.gpc=2\/T.gpc=3 by omega) with h0 | h0 | h0 | h0
 ·have bp:cK C T f=(js T.ql,{ T with e:=bg (f (1,0,0)),gpc:=1 },f):=by unfold cK;rw[if_pos h0]
  rw[bp];rw[h0] at hE;refine (vf (S:=SP C X V T f G qc n) 0 _ hE rfl (JK (S:=SP C X V T f G qc n) _ rfl (zH rfl) hE)).mono ?_;rintro o w1 ⟨rfl,nx,bo,ag⟩;refine⟨rfl,G,_,n,nx,⟨by omega,(by first | exact Or.inl ⟨rfl,rfl,rfl,rfl⟩ | exact Or.inr (Or.inl ⟨rfl,rfl,rfl,rfl⟩) | exact Or.inr (Or.inr (Or.inl ⟨rfl,rfl,rfl,rfl⟩)) | exact Or.inr (Or.inr (Or.inr ⟨rfl,rfl,rfl,rfl⟩)))⟩,fun h=>bo ?_,ag⟩;intro iP;have fT:T.ql=[]:=iP;have h':js T.ql=0:=h;rw[fT] at h';exact absurd h' (by decide)
 ·have bp:cK C T f=(jV (f (2,0,0)) C.l,{ T with gh:=f (2,0,0),gpc:=2 },f):=by unfold cK;rw[if_neg (by omega),if_pos h0]
  rw[bp];rw[h0] at hE;refine (vf (S:=SP C X V T f G qc n) 1 _ hE rfl (JL (S:=SP C X V T f G qc n) _ rfl hg (zH rfl) hE)).mono ?_;rintro o w1 ⟨rfl,nx,bo,ag⟩;exact⟨rfl,G,_,n,nx,⟨by omega,(by first | exact Or.inl ⟨rfl,rfl,rfl,rfl⟩ | exact Or.inr (Or.inl ⟨rfl,rfl,rfl,rfl⟩) | exact Or.inr (Or.inr (Or.inl ⟨rfl,rfl,rfl,rfl⟩)) | exact Or.inr (Or.inr (Or.inr ⟨rfl,rfl,rfl,rfl⟩)))⟩,bo,ag⟩
 ·obtain⟨x,y,t,bU,hx⟩:=hq (by omega);have bp:cK C T f=(0,{ T with gpc:=3 },upd f (5,x,2) (aP false (aA T.gh) 0)):=by unfold cK;rw[if_neg (by omega),if_neg (by omega),if_pos h0,bU];rfl
  rw[bp];rw[h0] at hE;refine (vf (S:=SP C X V T f G qc n) 2 _ hE rfl (JM (S:=SP C X V T f G qc n) x y t bU hx su hg hn (zH rfl) hE)).mono ?_;rintro o w1 ⟨rfl,G',ag⟩;exact⟨rfl,G',_,n+1,_,⟨Nat.le_refl _,(by first | exact Or.inl ⟨rfl,rfl,rfl,rfl⟩ | exact Or.inr (Or.inl ⟨rfl,rfl,rfl,rfl⟩) | exact Or.inr (Or.inr (Or.inl ⟨rfl,rfl,rfl,rfl⟩)) | exact Or.inr (Or.inr (Or.inr ⟨rfl,rfl,rfl,rfl⟩)))⟩,fun _=>rfl,ag⟩
 ·obtain⟨x,y,t,bU,hx⟩:=hq (by omega);rw[h0] at hE
  by_cases j8:f (2,0,0)=T.gh
  ·have bp:cK C T f=(js t,{ T with ql:=t,gg:=wrap64 (T.gg+1),gpc:=1 },swf f (2,0,0) T.gh (eh T.gh x)):=by unfold cK;(iterate 3 rw[if_neg (by omega)]);rw[if_pos j8,bU];rfl
   rw[bp];refine (vf (S:=SP C X V T f G qc n) 3 _ hE rfl (JP (S:=SP C X V T f G qc n) x y t bU j8 su hg hn (zH rfl) hE)).mono ?_;rintro o w1 ⟨rfl,nx,G',bo,ag⟩;refine⟨rfl,G',_,n+1,nx,⟨Nat.le_refl _,(by first | exact Or.inl ⟨rfl,rfl,rfl,rfl⟩ | exact Or.inr (Or.inl ⟨rfl,rfl,rfl,rfl⟩) | exact Or.inr (Or.inr (Or.inl ⟨rfl,rfl,rfl,rfl⟩)) | exact Or.inr (Or.inr (Or.inr ⟨rfl,rfl,rfl,rfl⟩)))⟩,fun h=>bo ?_,ag⟩;intro iP;have h':js t=0:=h;rw[iP] at h';exact absurd h' (by decide)
  ·have bp:cK C T f=(0,{ T with gpc:=1 },swf f (2,0,0) T.gh (eh T.gh x)):=by unfold cK;(iterate 3 rw[if_neg (by omega)]);rw[if_neg j8,bU];rfl
   rw[bp];refine (vf (S:=SP C X V T f G qc n) 3 _ hE rfl (JO (S:=SP C X V T f G qc n) x y t bU j8 su hg hn (zH rfl) hE)).mono ?_;rintro o w1 ⟨rfl,G',ag⟩;exact⟨rfl,G',_,n+1,_,⟨Nat.le_refl _,(by first | exact Or.inl ⟨rfl,rfl,rfl,rfl⟩ | exact Or.inr (Or.inl ⟨rfl,rfl,rfl,rfl⟩) | exact Or.inr (Or.inr (Or.inl ⟨rfl,rfl,rfl,rfl⟩)) | exact Or.inr (Or.inr (Or.inr ⟨rfl,rfl,rfl,rfl⟩)))⟩,fun _=>rfl,ag⟩
theorem N2 (hl:T.ql.length+1<=1000000) (su:aD T.gh) (j7:∀ x,aD (ak ml x)) (ax:T.gpc<=3) (hq:2<=T.gpc->∃ x y t,T.ql=(x,y,0)::t/\0<=x/\x<=8388607) (hv:T.gpc=3->dr T.gh < 1099511627775) (aQ:ml.length<=999999) (hN:0<=X.N/\X.N<=4000000) (hE:Env w0 (ae b (cL (T.gpc:Int) T.gh T.gg)::LU (SR C X V T FU ml) R) w) :
  Calls prog 26 #[zP b,zP X.u,zP V.m] w fun o w'=>o=.returned (zI (cK C T (ak ml)).1)/\∃ (A':Option Addr) (ea:Nat) (ca:Nat->Prop) (aR:List bT) (eS:Int),ak aR=(cK C T (ak ml)).2.2/\aR.length<=ml.length+1/\((cK C T (ak ml)).1=0->eS=((cK C T (ak ml)).2.1.gpc:Int))/\Env w0 (ae b (cL eS (cK C T (ak ml)).2.1.gh (cK C T (ak ml)).2.1.gg)::LU (SR C { X with A:=A',rc:=ea } V (cK C T (ak ml)).2.1 ca aR) R) w':=by
 rcases (show T.gpc=0\/T.gpc=1\/T.gpc=2\/T.gpc=3 by omega) with h0 | h0 | h0 | h0
 ·have bp:cK C T (ak ml)=(js T.ql,{ T with e:=bg (ak ml (1,0,0)),gpc:=1 },ak ml):=by unfold cK;rw[if_pos h0]
  rw[bp];rw[h0] at hE;refine (LQ (U:=SR C X V T FU ml) _ rfl (j7 _) (by show ml.length<=1000000;omega) hE).mono ?_;rintro o w1 ⟨rfl,ag⟩;exact⟨rfl,X.A,X.rc,FU,ml,1,rfl,by omega,fun _=>rfl,ag⟩
 ·have bp:cK C T (ak ml)=(jV (ak ml (2,0,0)) C.l,{ T with gh:=ak ml (2,0,0),gpc:=2 },ak ml):=by unfold cK;rw[if_neg (by omega),if_pos h0]
  rw[bp];rw[h0] at hE;refine (LR (U:=SR C X V T FU ml) _ rfl (j7 _) (by show ml.length<=1000000;omega) hE).mono ?_;rintro o w1 ⟨rfl,eS,um,ag⟩;exact⟨rfl,X.A,X.rc,FU,ml,eS,rfl,by omega,um,ag⟩
 ·obtain⟨x,y,t,bU,hx⟩:=hq (by omega);have bp:cK C T (ak ml)=(0,{ T with gpc:=3 },upd (ak ml) (5,x,2) (aP false (aA T.gh) 0)):=by unfold cK;rw[if_neg (by omega),if_neg (by omega),if_pos h0,bU];rfl
  rw[bp];rw[h0] at hE;refine (LS (U:=SR C X V T FU ml) x y t bU su (by show ml.length<=1000000;omega) hE).mono ?_;rintro o w1 ⟨rfl,F5,ag⟩;exact⟨rfl,X.A,X.rc,F5,_,3,lI _ _ _,mb _ _ _,fun _=>rfl,ag⟩
 ·obtain⟨x,y,t,bU,hx⟩:=hq (by omega);have bo:=EC hx (hv h0);rw[h0] at hE
  by_cases j8:ak ml (2,0,0)=T.gh
  ·have bp:cK C T (ak ml)=(js t,{ T with ql:=t,gg:=wrap64 (T.gg+1),gpc:=1 },swf (ak ml) (2,0,0) T.gh (eh T.gh x)):=by unfold cK;(iterate 3 rw[if_neg (by omega)]);rw[if_pos j8,bU];rfl
   rw[bp,bo];rw[bU] at hl;refine (LW (U:=SR C X V T FU ml) x y t bU j8 (by simp at hl;omega) su (by show ml.length<=1000000;omega) hE).mono ?_;rintro o w1 ⟨rfl,F5,A',c',ag⟩;exact⟨rfl,A',c',F5,_,1,(qL _ _ _ _).symm,jf _ _ _ _,fun _=>rfl,ag⟩
  ·have bp:cK C T (ak ml)=(0,{ T with gpc:=1 },swf (ak ml) (2,0,0) T.gh (eh T.gh x)):=by unfold cK;(iterate 3 rw[if_neg (by omega)]);rw[if_neg j8,bU];rfl
   rw[bp,bo];refine (LV (U:=SR C X V T FU ml) x y t bU j8 su (by show ml.length<=1000000;omega) hE).mono ?_;rintro o w1 ⟨rfl,F5,ag⟩;exact⟨rfl,X.A,X.rc,F5,_,1,(qL _ _ _ _).symm,jf _ _ _ _,fun _=>rfl,ag⟩
end
def ay (kd key val lv pc:Int) (pf pa pr:Option Addr) (n l y:Int) (an:Bool) (er:Int) (dn:Bool):List Value:=[zI kd,zU key,zU val,zI lv,zI pc,.pointer pf,.pointer pa,.pointer pr,zI n,zI l,zU y,.bool an,zI er,.bool dn]
def fA (U:SU):List Value:=bx U.ck U.cs U.cb U.ch U.cl U.ce U.A U.ql.length U.c U.N U.hs U.ro
structure gu (w:World) (f h:Nat) (key:Int) (L:Nat->Lm):Prop where
 (at_:∀ l,l < h->∀ j,j < 13->w.cell? ⟨f,2+l * 13+j,none⟩=(dG (l:Int) key false (L l))[j]?)
 (h16:h<=16)
theorem gu.of {w:World} {f h:Nat} {key l0:Int} {V:Nat->List Value} {L:Nat->Lm} (hb:ao 0 w f (aY key l0 V)) (hV:∀ i,(V i).length=13) (hh:h<=16) (jP:∀ l,l < h->V l=dG (l:Int) key false (L l)):gu w f h key L :=
 ⟨fun l hl j hj=>by
   rw[hb.rule,uj key l0 V (show l < 16 by omega),Bd (uk key l0 hV l) (by rw[hV];exact hj),jP l hl],hh⟩
section
variable {w0 w:World} {R L:List Item} {q fb:Nat} {U:SU} {kd key val lv pc n l y er:Int} {pf pa pr:Option Addr} {an dn:Bool}
theorem ou (p2:Int) (hE:Env w0 (ae q (ay kd key val lv pc pf pa pr n l y an er dn)::L) w) :
  Calls prog 63 #[zP q,zI p2] w fun o w'=>o=.returned (zI 0)/\∃ f,Env w0 (ae q (ay kd key val lv p2 (some ⟨f,0,none⟩) pa pr n l y an er dn)::ae f (aY key (-1) V0)::L) w':=by
 have r:=hE.rule 0 rfl;unfold ay at r;have HN:=zH (NV key hE);clear hE;go_enter func63,ntmps63;go_wp2_with fail;refine HN.out.mono ?_;rintro o w1 ⟨f,rfl,hE⟩;clear r HN;have r:=hE.rule 1 rfl;unfold ay at r;have f5:=hE.thaw 1 rfl 5 (by simp[ay]);have hP:=hE.put 1 rfl (j:=5) (by simp[ay]) (zP f)
 go_upto_region 2 with fail
 generalize World.setCell _ _ _=w2 at *;replace hP:Env w0 (ae f (aY key (-1) V0)::ae q (ay kd key val lv pc (some ⟨f,0,none⟩) pa pr n l y an er dn)::L) w2:=hP;clear hE r f5;have r:=hP.rule 1 rfl;unfold ay at r;have f4:=hP.thaw 1 rfl 4 (by simp[ay]);have hQ:=hP.put 1 rfl (j:=4) (by simp[ay]) (zI p2);clear hP;go_wp2_with fail;go_ret;exact⟨rfl,f,hQ.perm (List.Perm.swap _ _ _)⟩
theorem fO (p2:Int) (hE:Env w0 (ae q (ay kd key val lv pc pf pa pr n l y an er dn)::L) w) :
  Calls prog 89 #[zP q,zI p2] w fun o w'=>o=.returned (zI 0)/\Env w0 (ae q (ay kd key val lv p2 pf pa pr n l y an er dn)::L) w':=by
 have f4:=hE.thaw 0 rfl 4 (by simp[ay]);have r:=hE.rule 0 rfl;unfold ay at r;have hQ:=hE.put 0 rfl (j:=4) (by simp[ay]) (zI p2);clear hE;go_enter func89,ntmps89;go_wp2_with fail;go_ret;exact⟨rfl,hQ⟩
theorem E1 (s:Int) (hs:s=1\/s=2) (hE:Env w0 (ae q (ay kd key val lv pc pf pa pr n l y an er dn)::L) w) :
  Calls prog 66 #[zP q,zI s] w fun o w'=>o=.returned (zI 0)/\∃ f,Env w0 (ae q (ay kd key val lv 1 (some ⟨f,0,none⟩) pa pr n l y an er dn)::ae f (aY key (-1) V0)::L) w':=by
 have HF:=zH (ou 1 hE);clear hE
 rcases hs with rfl | rfl
 all_goals
  go_enter func66,ntmps66;go_wp2_with fail;refine HF.out.mono ?_;rintro e w1 ⟨rfl,f,az⟩;go_wp2_with fail;go_ret;exact⟨rfl,f,az⟩
theorem Bl (s:Int) (hs:s=3\/s=4) (hE:Env w0 (ae q (ay kd key val lv pc pf pa pr n l y an er dn)::L) w) :
  Calls prog 66 #[zP q,zI s] w fun o w'=>o=.returned (zI 1)/\Env w0 (ae q (ay kd key val lv pc pf pa pr n l y an (s+3) dn)::L) w':=by
 have f:=hE.thaw 0 rfl 12 (by simp[ay]);have r:=hE.rule 0 rfl;unfold ay at r;have h6:=hE.put 0 rfl (j:=12) (by simp[ay]) (zI 6);have h7:=hE.put 0 rfl (j:=12) (by simp[ay]) (zI 7);clear hE
 rcases hs with rfl | rfl
 ·go_enter func66,ntmps66;go_wp2_with fail;go_ret;exact⟨rfl,h6⟩
 ·go_enter func66,ntmps66;go_wp2_with fail;go_ret;exact⟨rfl,h7⟩
theorem E2 (hE:Env w0 (ae q (ay kd key val lv pc pf pa pr n l y an er dn)::L) w) :
  Calls prog 66 #[zP q,zI 0] w fun o w'=>o=.returned (zI 0)/\Env w0 (ae q (ay kd key val lv pc pf pa pr n l y an er dn)::L) w':=by
 go_enter func66,ntmps66;go_wp2_with fail;go_ret;exact⟨rfl,hE⟩
theorem sy {F:Nat->Lm} {h i:Nat} (hi:i < h) (hq:ao 0 w q (ay kd key val lv pc (some ⟨fb,0,none⟩) pa pr n l y an er dn)) (hf:gu w fb h key F) :
  Calls prog 99 #[zP q,zI (i:Int)] w fun o w'=>o=.returned (zU (F i).W)/\w'=w:=by
 have r:=hq.rule;unfold ay at r;have r7:w.cell? ⟨fb,2+i * 13+7,none⟩=some (zU (F i).W):=hf.at_ i hi 7 (by omega);have cV:(i:Int) < 16:=by have:=hf.h16;omega
 have jb:(0:Int)<=(i:Int):=by omega
 clear hq hf;go_enter func99,ntmps99;go_wp2_with fail;go_ret;exact⟨rfl,rfl⟩
end
def pM (d:Dd):List Value:=[zI d.ok,zU d.key,zU d.val,zI d.lv]
def lM (w0:World) (R:List Item) (A:Option Addr) (ds:List Dd):Prop :=
 ds=[]\/∃ g off,A=some ⟨g,off,none⟩/\∀ i,i < ds.length->∀ v,KR w0 R v->km v g (off+i * 4) (pM (ds.getD i default))
theorem E3 {w0:World} {R:List Item} {A:Option Addr} {ds:List Dd} (hd:lM w0 R A ds) (i:Nat) (hi:i < ds.length) :
  ∃ g off,A=some ⟨g,off,none⟩/\∀ v,KR w0 R v->km v g (off+i * 4) (pM (ds.getD i default)):=by
 rcases hd with h | ⟨g,off,hA,hc⟩
 ·rw[h] at hi;simp at hi
 ·exact⟨g,off,hA,hc i hi⟩
theorem Env.put4c {w0 w:World} {L:List Item} (h:Env w0 L w) (i:Nat) {B:Nat} {a b c d:Value} (hi:L[i]?=some (ae B [a,b,c,d])) (u v t x:Value) :
  Env w0 (L.set i (ae B [u,v,t,x])) ((((w.setCell ⟨B,0,none⟩ u).setCell ⟨B,1,none⟩ v).setCell ⟨B,2,none⟩ t).setCell ⟨B,3,none⟩ x):=by
 have hl:i < L.length:=(List.getElem?_eq_some_iff.1 hi).1;have h1:=h.put i hi (j:=0) (by simp) u;have h2:=h1.put i (by rw[List.getElem?_set_self hl]) (j:=1) (by simp) v;have h3:=h2.put i (by rw[List.getElem?_set_self (by simpa using hl)]) (j:=2) (by simp) t;have h4:=h3.put i (by rw[List.getElem?_set_self (by simpa using hl)]) (j:=3) (by simp) x
 simpa using h4
def bK (c u:Nat) (dA:Option Addr) (dn dc:Nat) (nd:Int) (busy:Bool) (po pq pg ph:Value) (st:Int):List Value:=[zP c,zP u,.slice dA dn dc,zI nd,.bool busy,po,pq,pg,ph,zI st]
structure Rw where
 (A:Option Addr)
 (cap:Nat)
 (ds:List Dd)
instance:Inhabited Rw:=⟨⟨none,0,[]⟩⟩
def uo (r:Rw):List Value:=[.slice r.A r.ds.length r.cap]
theorem E4 {w0 v:World} {A:Option Addr} {rs:List Rw} (hd:jQ uo 1 w0 A rs) (hb:Below w0.heap.size w0 v) (i:Nat) (hi:i < rs.length) :
  ∃ g off,A=some ⟨g,off,none⟩/\∀ v,Below w0.heap.size w0 v->v.cell? ⟨g,off+i,none⟩=some (.slice (rs.getD i default).A (rs.getD i default).ds.length (rs.getD i default).cap):=by
 rcases hd with h | ⟨b,off,hA,hl,hc⟩
 ·rw[h] at hi;simp at hi
 ·refine⟨b,off,hA,fun v hv=>?_⟩;have:=((hc i hi).below hv hl) 0 _ rfl
  simpa using this
section
variable {w0 w:World} {R L:List Item} {thr c u q dn dc nd:Nat} {dA:Option Addr} {s b h l e r hs hi st:Int} {busy:Bool} {po pq pg ph:Value} {ds:List Dd}
theorem N3 (aE:¬ nd < dn) (hE:Env w0 (ae thr (bK c u dA dn dc nd busy po pq pg ph st)::L) w) :
  Calls prog 24 #[zP thr] w fun o w'=>o=.returned (.bool false)/\Env w0 (ae thr (bK c u dA dn dc nd busy po pq pg ph st)::L) w':=by
 have cV:decide (((dn:Nat):Int)<=(nd:Int))=true:=by simp;omega
 have eg:decide ((nd:Int) < ((dn:Nat):Int))=false:=by simp;omega
 have jr:((dn:Nat):Int)<=(nd:Int):=by omega
 unfold bK at hE ⊢;clear aE;go_enter func24,ntmps24;go_wp2_with fail;refine cG (S:=(Env w0 (ae thr [zP c,zP u,.slice dA dn dc,zI (nd:Int),.bool busy,po,pq,pg,ph,zI st]::L))) (by kernel_rfl) (by kernel_rfl) hE.drew (fun hT=>?_);have af:=zH hT;clear hT
 repeat ((first
  | (refine cH (v:=?_) af.o (by rfl) ?_ ?_;rotate_left;(intro w5 hS;have r:=hS.rule 0 rfl;go_simp<;>rfl))
  | (refine cI af.o (by rfl) ?_)
  | (refine cJ (v:=?_) (f:=?_) (args:=?_) af.o (by rfl) ?_ ?_ ?_;rotate_left 3;(intro w5 hS;have r:=hS.rule 0 rfl;go_simp;constructor<;>rfl);(intro w5 hS;(first | fail))));try simp only[Act.put,zA,zZ,zS])
 refine InText.nil fun w5 aK=>?_;clear af;clear hE;go_wp2_with fail;go_ret;exact⟨rfl,aK⟩
theorem N4 {H:Nat} (hH:H<=1000) (i:Nat) (hd:lM w0 R dA ds) (hR:∀ a∈R,a∈L) (dU:dn=ds.length) (aE:nd < ds.length) (ow:ds.length<=1000) {d:Dd} (hdd:ds.getD nd default=d) (h8:d.ok≠8) (h3:jE 3 s b (H:Int) l d.ok d.key d.val d.lv=0) (hm:L[i]?=some (dy c 3 s b (H:Int) l e r hs hi q)) (hE:Env w0 (ae thr (bK c u dA dn dc nd busy po pq pg ph st)::L) w) :
  Calls prog 24 #[zP thr] w fun o w'=>o=.returned (.bool true)/\∃ o9 b1 b2 sb g9 q9,Env w0 (ae q9 (ay d.ok d.key d.val d.lv 0 none none none 0 0 0 false 0 false)::ae o9 (aw c d.ok d.key d.val d.lv (cvP b1 b2) 0 (zP sb) 0 0 0 0 false 0 false)::ae b1 [mvL 109 sb]::ae b2 [mvL 81 o9]::ae sb (bq c d.key (mvL 124 sb) 0 g9 H 0)::ae g9 (List.replicate H (.pointer none))::ae thr (bK c u dA dn dc (nd+1) true (zP o9) (zP q9) (.pointer none) ph st)::L) w':=by
 obtain⟨kk,kd,key,val,lv⟩:=d;dsimp only at h8 h3 ⊢;have cV:decide (((dn:Nat):Int)<=(nd:Int))=false:=by simp;omega
 have eg:decide ((nd:Int) < ((dn:Nat):Int))=true:=by simp;omega
 have jr:(nd:Int) < ((dn:Nat):Int):=by omega
 have Bn:¬ ((dn:Nat):Int)<=(nd:Int):=by omega
 have N5:(0:Int)<=(nd:Int):=by omega
 have Dr:(kd==8)=false:=by simpa using h8
 obtain⟨nd1,sz⟩:∃ z:Int,z=(nd:Int)+1:=⟨_,rfl⟩;have ij:wrap64 ((nd:Int)+1)=nd1:=by rw[sz];exact df _ (by omega)
 rw[<- sz];obtain⟨g,off,rfl,hc⟩:=E3 hd nd aE;rw[hdd] at hc;unfold pM at hc;dsimp only at hc;have HC:=zH hc;have HR:=zH hR;have N6:=zH fun (P:List Item) (v:World) (hv:Env w0 (P++L) v)=>EU (c:=c) (e:=e) (r:=r) (hs:=hs) (hi:=hi) (q:=q) (s:=s) (b:=b) (l:=l) hH (P.length+i) kd key val lv h8 h3 (by rw[List.getElem?_append_right (by omega)];rw[Nat.add_sub_cancel_left];exact hm) hv;unfold bK at hE ⊢;clear aE hc hd hdd ow dU hR hm h8 h3 sz;go_enter func24,ntmps24;go_wp2_with fail;refine cG (S:=(Env w0 (ae thr [zP c,zP u,.slice (some ⟨g,off,none⟩) dn dc,zI (nd:Int),.bool busy,po,pq,pg,ph,zI st]::L))) (by kernel_rfl) (by kernel_rfl) hE.drew (fun hT=>?_);have af:=zH hT;clear hT
 repeat ((first
  | (refine cH (v:=?_) af.o (by rfl) ?_ ?_;rotate_left;(intro w5 hS;have r:=hS.rule 0 rfl;go_simp<;>rfl))
  | (refine cI af.o (by rfl) ?_)
  | (refine cJ (v:=?_) (f:=?_) (args:=?_) af.o (by rfl) ?_ ?_ ?_;rotate_left 3;(intro w5 hS;have r:=hS.rule 0 rfl;go_simp;constructor<;>rfl);(intro w5 hS;(first | fail))));try simp only[Act.put,zA,zZ,zS])
 refine InText.nil fun w5 aK=>?_;clear af;clear hE;go_wp2_with fail;refine OrdF.wp_float [?_,?_,?_,?_,?_,?_,?_,?_,?_,?_,OrdF.Ptr,?_] [11] 10 (fun v=>KR w0 R v/\ao 0 v thr [zP c,zP u,.slice (some ⟨g,off,none⟩) dn dc,zI (nd:Int),.bool busy,po,pq,pg,ph,zI st]) (OrdF.AF w0 [zI 0,zU 0,zU 0,zI 0] (OrdF.Sta [fun N9 zs=>N9=(ae thr [zP c,zP u,.slice (some ⟨g,off,none⟩) dn dc,zI (nd:Int),.bool busy,po,pq,pg,ph,zI st]::L)/\zs=[zI 0,zU 0,zU 0,zI 0],fun N9 zs=>N9=(ae thr [zP c,zP u,.slice (some ⟨g,off,none⟩) dn dc,zI (nd:Int),.bool busy,po,pq,pg,ph,zI st]::L)/\zs=[zI kd,zU key,zU val,zI lv]])) (by kernel_rfl) (by kernel_rfl) (by kernel_rfl) ⟨aK.drew.kr (fun a ha=>by simp[HR.out a ha]),aK.drew.get 0 rfl⟩ ⟨_,_,⟨_,rfl,rfl,rfl⟩,.inl ⟨rfl,rfl,aK.drew⟩⟩ (fun hT=>?_);rotate_left 11;have af:=zH hT;clear hT
 repeat ((first
  | (focus (refine OrdF.in_value (v:=?_) af.o (by decide) (by decide) ?_ (by rfl) ?_ ?_;rotate_left 2;(intro w5 hS;have r:=hS.2.rule;have gV:=HC.out _ hS.1;have c0:=gV 0 _ rfl;have c1:=gV 1 _ rfl;have c2:=gV 2 _ rfl;have c3:=gV 3 _ rfl;clear gV;simp only[Nat.add_zero] at c0;go_simp<;>rfl);rotate_right;(focus rfl)))
  | (focus (refine OrdF.in_off af.o (by decide) (by decide) ?_ (by rfl) ?_;(focus rfl))));try simp only[Act.put,zA,zZ,zS])
 refine OrdF.in_float OrdF.Ptr (zP 0) ⟨0,rfl⟩ af.o rfl (by decide) ?_ (by rfl) ?_ ?_
 ·rfl
 ·intro w5 κs5 aN au;go_simp;simp only[Ord3.Lands];exact⟨⟨_,rfl⟩,⟨aN.1.more _,aN.2.more _⟩,au.up _⟩
 rintro _ ⟨Z,rfl⟩
 try simp only[Act.put,zA,zZ,zS]
 refine OrdF.in_turn_late (by kernel_rfl) (by decide) (by decide) (fun u=>u=undef) (undef) rfl af.o rfl (by decide) (by rfl) ?_ (.inl rfl) (by rfl) ?_ ?_
 ·rfl
 ·rintro w5 aN ⟨M5,z5,⟨P5,cd,cR⟩,⟨bC,_⟩ | ⟨n5,bC,aB⟩⟩
  ·cases bC
  cases bC;cases cd;obtain⟨rfl,rfl⟩:=cR;have r:=aB.rule 0 rfl;have ff:=aB.thaw 0 rfl;have f0:=ff 0 (by simp);have f1:=ff 1 (by simp);have f2:=ff 2 (by simp);have f3:=ff 3 (by simp);clear ff;go_simp;have aq:=aB.put4c 0 rfl (zI kd) (zU key) (zU val) (zI lv);exact⟨rfl,⟨aq.kr (fun a ha=>by simp[HR.out a ha]),aq.get 1 rfl⟩,_,_,⟨_,rfl,rfl,rfl⟩,.inr ⟨_,rfl,aq⟩⟩
 rintro _ rfl
 try simp only[Act.put,zA,zZ,zS]
 refine OrdF.in_nil rfl (by decide) (by decide) ?_;rintro w5 aN ⟨M5,z5,⟨P5,cd,cR⟩,⟨bC,_⟩ | ⟨n5,bC,aB⟩⟩
 ·cases bC
 cases bC;cases cd;obtain⟨rfl,rfl⟩:=cR;clear af;clear aN aK;have rt:=aB.rule 1 rfl;have ff:=aB.thaw 1 rfl;have f3:=ff 3 (by simp);have f4:=ff 4 (by simp);have f5:=ff 5 (by simp);have f7:=ff 7 (by simp);have rZ:=aB.rule 0 rfl
 go_upto_region 11 with fail
 have aq:=(((aB.put 1 rfl (j:=3) (by simp) (zI nd1)).put 1 rfl (j:=4) (by simp) (.bool true)).put 1 rfl (j:=5) (by simp) (.pointer none)).put 1 rfl (j:=7) (by simp) (.pointer none);simp only[zS,zZ] at aq;generalize World.setCell _ _ _=w9 at *;replace aq:Env w0 (ae Z [zI kd,zU key,zU val,zI lv]::ae thr [zP c,zP u,.slice (some ⟨g,off,none⟩) dn dc,zI nd1,.bool true,.pointer none,pq,.pointer none,ph,zI st]::L) w9:=aq;clear aB rt ff f3 f4 f5 f7 rZ;refine Ord3.wp_chain [?_,?_,?_,?_,?_,?_,?_,?_,?_,?_] [6,9] (fun v=>ao 0 v Z [zI kd,zU key,zU val,zI lv]/\v.cell? ⟨thr,0,none⟩=some (zP c)) (Ord3.Stage fun κs=>[Env w0 (ae Z [zI kd,zU key,zU val,zI lv]::ae thr [zP c,zP u,.slice (some ⟨g,off,none⟩) dn dc,zI nd1,.bool true,.pointer none,pq,.pointer none,ph,zI st]::L),fun v=>∃ o9,κs.getD 0 undef=zP o9/\∃ b1 b2 sb g9,Env w0 (ae o9 (aw c kd key val lv (cvP b1 b2) 0 (zP sb) 0 0 0 0 false 0 false)::ae b1 [mvL 109 sb]::ae b2 [mvL 81 o9]::ae sb (bq c key (mvL 124 sb) 0 g9 H 0)::ae g9 (List.replicate H (.pointer none))::ae Z [zI kd,zU key,zU val,zI lv]::ae thr [zP c,zP u,.slice (some ⟨g,off,none⟩) dn dc,zI nd1,.bool true,.pointer none,pq,.pointer none,ph,zI st]::L) v,fun v=>∃ o9,κs.getD 0 undef=zP o9/\∃ b1 b2 sb g9,Env w0 (ae o9 (aw c kd key val lv (cvP b1 b2) 0 (zP sb) 0 0 0 0 false 0 false)::ae b1 [mvL 109 sb]::ae b2 [mvL 81 o9]::ae sb (bq c key (mvL 124 sb) 0 g9 H 0)::ae g9 (List.replicate H (.pointer none))::ae Z [zI kd,zU key,zU val,zI lv]::ae thr [zP c,zP u,.slice (some ⟨g,off,none⟩) dn dc,zI nd1,.bool true,(zP o9),pq,.pointer none,ph,zI st]::L) v]) (by kernel_rfl) (by kernel_rfl) (by kernel_rfl) ⟨aq.drew.get 0 rfl,aq.drew.rule 1 rfl 0⟩ ⟨_,rfl,aq.drew⟩ (fun hT=>?_);rotate_left 10;have af:=zH hT;clear hT
 repeat ((first
  | (focus (refine Ord3.in_value (v:=?_) af.o (by decide) ?_ (by rfl) ?_ ?_;rotate_left 2;(intro w5 hS;have r0:=ao.rule hS.1;have r1:=hS.2;go_simp<;>rfl);rotate_right;(focus rfl)))
  | (focus (refine Ord3.in_off af.o (by decide) ?_ (by rfl) ?_;(focus rfl))));try simp only[Act.put,zA,zZ,zS])
 refine Ord3.in_turn (fun u=>∃ z,u=zP z) _ ⟨0,rfl⟩ af.o rfl (by decide) (by rfl) ?_ (Or.inl rfl) (by rfl) ?_ ?_
 ·rfl
 ·rintro v7 eY ⟨P7,dD,bI⟩;cases dD;go_simp;simp only[Ord3.Lands];refine (N6.out [_,_] v7 bI).mono ?_;rintro o v8 ⟨o9,b1,b2,sb,g9,rfl,o4⟩;exact⟨_,rfl,⟨_,rfl⟩,⟨o4.get 5 rfl,o4.rule 6 rfl 0⟩,_,rfl,o9,rfl,b1,b2,sb,g9,o4⟩
 rintro _ ⟨x8,rfl⟩
 try simp only[Act.put,zA,zZ,zS]
 repeat ((first
  | (focus (refine Ord3.in_value (v:=?_) af.o (by decide) ?_ (by rfl) ?_ ?_;rotate_left 2;(intro w5 hS;have r0:=ao.rule hS.1;have r1:=hS.2;go_simp<;>rfl);rotate_right;(focus rfl)))
  | (focus (refine Ord3.in_off af.o (by decide) ?_ (by rfl) ?_;(focus rfl))));try simp only[Act.put,zA,zZ,zS])
 refine Ord3.in_turn (fun u=>u=undef) _ rfl af.o rfl (by decide) (by rfl) ?_ (Or.inr ⟨_,6,[],rfl,by kernel_rfl,by kernel_rfl,rfl⟩) (by rfl) ?_ ?_
 ·rfl
 ·rintro v7 eY ⟨P7,dD,bI⟩;cases dD;obtain⟨o9,he,b1,b2,sb,g9,bI⟩:=bI;cases he;have ft:=bI.thaw 6 rfl 5 (by simp);have rt:=bI.rule 6 rfl;go_simp;simp only[Ord3.Lands];have kS:=bI.put 6 rfl (j:=5) (by simp) (zP x8)
  first | exact⟨rfl,⟨kS.get 5 rfl,kS.rule 6 rfl 0⟩,_,rfl,x8,rfl,b1,b2,sb,g9,kS⟩ | exact⟨trivial,⟨kS.get 5 rfl,kS.rule 6 rfl 0⟩,_,rfl,x8,rfl,b1,b2,sb,g9,kS⟩
 rintro _ rfl
 try simp only[Act.put,zA,zZ,zS]
 refine Ord3.in_nil rfl ?_;rintro v9 aL ⟨P9,dW,ai⟩;cases dW;obtain⟨o9,he,b1,b2,sb,g9,ai⟩:=ai;cases he;clear af aL aq;have rt:=ai.rule 6 rfl;have rZ:=ai.rule 5 rfl;have e7:=ai.box v9.heap.size rfl (ay kd key val lv 0 none none none 0 0 0 false 0 false) 86;have Bo:=e7.rule 7 rfl;have fu:=e7.thaw 7 rfl 6 (by simp);have uU:=e7.put 7 rfl (j:=6) (by simp) (zP v9.heap.size);unfold ay at Bo fu;clear ai e7;go_wp2_with fail;go_ret;refine⟨rfl,x8,b1,b2,sb,g9,v9.heap.size,?_⟩;have hF:=uU.perm (show List.Perm _ (ae Z [zI kd,zU key,zU val,zI lv]::_) from List.perm_middle (l₁:=[_,_,_,_,_,_]));exact hF.sub (.cons _ (List.Sublist.refl _))
theorem N7 (hd:lM w0 R dA ds) (hR:∀ a∈R,a∈L) (dU:dn=ds.length) (aE:nd < ds.length) (ow:ds.length<=1000) {d:Dd} (hdd:ds.getD nd default=d) (h8:d.ok=8) (hE:Env w0 (ae thr (bK c u dA dn dc nd busy po pq pg ph st)::L) w) :
  Calls prog 24 #[zP thr] w fun o w'=>o=.returned (.bool true)/\∃ x y,Env w0 (ae y (cL 0 0 0)::ae x (bR c (iq x 0) 0 0)::ae thr (bK c u dA dn dc (nd+1) true (.pointer none) pq (zP x) (zP y) st)::L) w':=by
 obtain⟨kk,kd,key,val,lv⟩:=d;dsimp only at h8 ⊢;subst h8;have cV:decide (((dn:Nat):Int)<=(nd:Int))=false:=by simp;omega
 have eg:decide ((nd:Int) < ((dn:Nat):Int))=true:=by simp;omega
 have jr:(nd:Int) < ((dn:Nat):Int):=by omega
 have Bn:¬ ((dn:Nat):Int)<=(nd:Int):=by omega
 have N5:(0:Int)<=(nd:Int):=by omega
 obtain⟨nd1,sz⟩:∃ z:Int,z=(nd:Int)+1:=⟨_,rfl⟩;have ij:wrap64 ((nd:Int)+1)=nd1:=by rw[sz];exact df _ (by omega)
 rw[<- sz];obtain⟨g,off,rfl,hc⟩:=E3 hd nd aE;rw[hdd] at hc;unfold pM at hc;dsimp only at hc;have HC:=zH hc;have HR:=zH hR;unfold bK at hE ⊢;clear aE hc hd hdd ow dU hR sz;go_enter func24,ntmps24;go_wp2_with fail;refine cG (S:=(Env w0 (ae thr [zP c,zP u,.slice (some ⟨g,off,none⟩) dn dc,zI (nd:Int),.bool busy,po,pq,pg,ph,zI st]::L))) (by kernel_rfl) (by kernel_rfl) hE.drew (fun hT=>?_);have af:=zH hT;clear hT
 repeat ((first
  | (refine cH (v:=?_) af.o (by rfl) ?_ ?_;rotate_left;(intro w5 hS;have r:=hS.rule 0 rfl;go_simp<;>rfl))
  | (refine cI af.o (by rfl) ?_)
  | (refine cJ (v:=?_) (f:=?_) (args:=?_) af.o (by rfl) ?_ ?_ ?_;rotate_left 3;(intro w5 hS;have r:=hS.rule 0 rfl;go_simp;constructor<;>rfl);(intro w5 hS;(first | fail))));try simp only[Act.put,zA,zZ,zS])
 refine InText.nil fun w5 aK=>?_;clear af;clear hE;go_wp2_with fail;refine OrdF.wp_float [?_,?_,?_,?_,?_,?_,?_,?_,?_,?_,OrdF.Ptr,?_] [11] 10 (fun v=>KR w0 R v/\ao 0 v thr [zP c,zP u,.slice (some ⟨g,off,none⟩) dn dc,zI (nd:Int),.bool busy,po,pq,pg,ph,zI st]) (OrdF.AF w0 [zI 0,zU 0,zU 0,zI 0] (OrdF.Sta [fun N9 zs=>N9=(ae thr [zP c,zP u,.slice (some ⟨g,off,none⟩) dn dc,zI (nd:Int),.bool busy,po,pq,pg,ph,zI st]::L)/\zs=[zI 0,zU 0,zU 0,zI 0],fun N9 zs=>N9=(ae thr [zP c,zP u,.slice (some ⟨g,off,none⟩) dn dc,zI (nd:Int),.bool busy,po,pq,pg,ph,zI st]::L)/\zs=[zI 8,zU key,zU val,zI lv]])) (by kernel_rfl) (by kernel_rfl) (by kernel_rfl) ⟨aK.drew.kr (fun a ha=>by simp[HR.out a ha]),aK.drew.get 0 rfl⟩ ⟨_,_,⟨_,rfl,rfl,rfl⟩,.inl ⟨rfl,rfl,aK.drew⟩⟩ (fun hT=>?_);rotate_left 11;have af:=zH hT;clear hT
 repeat ((first
  | (focus (refine OrdF.in_value (v:=?_) af.o (by decide) (by decide) ?_ (by rfl) ?_ ?_;rotate_left 2;(intro w5 hS;have r:=hS.2.rule;have gV:=HC.out _ hS.1;have c0:=gV 0 _ rfl;have c1:=gV 1 _ rfl;have c2:=gV 2 _ rfl;have c3:=gV 3 _ rfl;clear gV;simp only[Nat.add_zero] at c0;go_simp<;>rfl);rotate_right;(focus rfl)))
  | (focus (refine OrdF.in_off af.o (by decide) (by decide) ?_ (by rfl) ?_;(focus rfl))));try simp only[Act.put,zA,zZ,zS])
 refine OrdF.in_float OrdF.Ptr (zP 0) ⟨0,rfl⟩ af.o rfl (by decide) ?_ (by rfl) ?_ ?_
 ·rfl
 ·intro w5 κs5 aN au;go_simp;simp only[Ord3.Lands];exact⟨⟨_,rfl⟩,⟨aN.1.more _,aN.2.more _⟩,au.up _⟩
 rintro _ ⟨Z,rfl⟩
 try simp only[Act.put,zA,zZ,zS]
 refine OrdF.in_turn_late (by kernel_rfl) (by decide) (by decide) (fun u=>u=undef) (undef) rfl af.o rfl (by decide) (by rfl) ?_ (.inl rfl) (by rfl) ?_ ?_
 ·rfl
 ·rintro w5 aN ⟨M5,z5,⟨P5,cd,cR⟩,⟨bC,_⟩ | ⟨n5,bC,aB⟩⟩
  ·cases bC
  cases bC;cases cd;obtain⟨rfl,rfl⟩:=cR;have r:=aB.rule 0 rfl;have ff:=aB.thaw 0 rfl;have f0:=ff 0 (by simp);have f1:=ff 1 (by simp);have f2:=ff 2 (by simp);have f3:=ff 3 (by simp);clear ff;go_simp;have aq:=aB.put4c 0 rfl (zI 8) (zU key) (zU val) (zI lv);exact⟨rfl,⟨aq.kr (fun a ha=>by simp[HR.out a ha]),aq.get 1 rfl⟩,_,_,⟨_,rfl,rfl,rfl⟩,.inr ⟨_,rfl,aq⟩⟩
 rintro _ rfl
 try simp only[Act.put,zA,zZ,zS]
 refine OrdF.in_nil rfl (by decide) (by decide) ?_;rintro w5 aN ⟨M5,z5,⟨P5,cd,cR⟩,⟨bC,_⟩ | ⟨n5,bC,aB⟩⟩
 ·cases bC
 cases bC;cases cd;obtain⟨rfl,rfl⟩:=cR;clear af;clear aN aK;have rt:=aB.rule 1 rfl;have ff:=aB.thaw 1 rfl;have f3:=ff 3 (by simp);have f4:=ff 4 (by simp);have f5:=ff 5 (by simp);have f7:=ff 7 (by simp);have rZ:=aB.rule 0 rfl
 go_upto_region 9 with fail
 have aq:=(((aB.put 1 rfl (j:=3) (by simp) (zI nd1)).put 1 rfl (j:=4) (by simp) (.bool true)).put 1 rfl (j:=5) (by simp) (.pointer none)).put 1 rfl (j:=7) (by simp) (.pointer none);simp only[zS,zZ] at aq;generalize World.setCell _ _ _=w9 at *;replace aq:Env w0 (ae Z [zI 8,zU key,zU val,zI lv]::ae thr [zP c,zP u,.slice (some ⟨g,off,none⟩) dn dc,zI nd1,.bool true,.pointer none,pq,.pointer none,ph,zI st]::L) w9:=aq;clear aB rt ff f3 f4 f5 f7 rZ;have E5:=zH (JJ (c:=c) aq);have N8:=aq.rule 1 rfl;clear aq;go_wp2_with fail;refine E5.out.mono ?_;rintro o w8 ⟨x8,rfl,bn⟩;clear N8 E5;have rt:=bn.rule 2 rfl;have ft:=bn.thaw 2 rfl 7 (by simp);have dW:=bn.put 2 rfl (j:=7) (by simp) (zP x8);have Tw:=dW.rule 2 rfl;have e7:=dW.box w8.heap.size (by simp) (cL 0 0 0) 134;have Bo:=e7.rule 3 rfl;have fu:=e7.thaw 3 rfl 8 (by simp);have uU:=e7.put 3 rfl (j:=8) (by simp) (zP w8.heap.size);unfold cL at Bo fu;clear bn dW e7;go_wp2_with fail;go_ret;refine⟨rfl,x8,w8.heap.size,?_⟩;exact uU.sub (.cons_cons _ (.cons_cons _ (.cons _ (List.Sublist.refl _))))
end
section
variable {w0 w:World} {L:List Item} {thr c u p m o9 q9 dn dc:Nat} {nd:Int} {dA:Option Addr} {st s:Int} {ph:Value} {Q1 Q2:List Item->Prop}
def E6 (L:List Item) (c o9 q9:Nat):Prop:=∃ (i j:Nat) (kd key val lv:Int) (nx:Value) (s9:Int) (sp:Value) (n1 l1 t1 y1:Int) (gw:Bool) (pc:Int) (pf pa pr:Option Addr) (n2 l2 y2:Int) (lN:Bool) (er:Int) (mn:Bool),L[i]?=some (ae o9 (aw c kd key val lv nx s9 sp n1 l1 t1 y1 gw er mn))/\L[j]?=some (ae q9 (ay kd key val lv pc pf pa pr n2 l2 y2 lN er mn))
theorem Oa (hE:Env w0 (ae thr (bK c u dA dn dc nd true (zP o9) (zP q9) (.pointer none) ph st)::L) w)
  (hO:∀ v,Env w0 (ae thr (bK c u dA dn dc nd true (zP o9) (zP q9) (.pointer none) ph 0)::L) v->Calls prog 16 #[zP o9,.iface 28 (zP p)] v fun e v'=>e=.returned (zI s)/\∃ L1,Q1 L1/\Env w0 (ae thr (bK c u dA dn dc nd true (zP o9) (zP q9) (.pointer none) ph 0)::L1) v')
  (hQ:∀ L1 v,Q1 L1->Env w0 (ae thr (bK c u dA dn dc nd true (zP o9) (zP q9) (.pointer none) ph s)::L1) v->Calls prog 27 #[zP q9,zP u,zP m] v fun e v'=>e=.returned (zI s)/\∃ L2,Q2 L2/\Env w0 (ae thr (bK c u dA dn dc nd true (zP o9) (zP q9) (.pointer none) ph s)::L2) v')
  (hA:∀ L2,Q2 L2->s≠0->E6 L2 c o9 q9) :
  Calls prog 8 #[zP thr,zP p,zP m] w fun o w'=>o=.returned (.bool true)/\∃ L2,Q2 L2/\Env w0 (ae thr (bK c u dA dn dc nd (decide (s=0)) (zP o9) (zP q9) (.pointer none) ph s)::L2) w':=by
 have HO:=zH hO;have HQ:=zH hQ;have HA:=zH hA;clear hO hQ hA;unfold bK at *;have r0:=hE.rule 0 rfl;have f9:=hE.thaw 0 rfl 9 (by simp);have ag:=hE.put 0 rfl (j:=9) (by simp) (zI 0);have r1:=ag.rule 0 rfl;clear hE;refine ub fun PP fz=>?_;go_enter func8,ntmps8;go_wp2_with fail;refine (HO.out _ ag).mono ?_;rintro e v ⟨rfl,L1,fT,az⟩;clear r0 f9 r1 ag;have r0:=az.rule 0 rfl;have f9:=az.thaw 0 rfl 9 (by simp);have bM:=az.put 0 rfl (j:=9) (by simp) (zI s);have nh:=zH fT;clear az fT
 go_upto_region 9 with fail
 clear r0 f9;generalize World.setCell _ _ _=v1 at *;replace bM:Env w0 (ae thr [zP c,zP u,.slice dA dn dc,zI nd,.bool true,zP o9,zP q9,.pointer none,ph,zI s]::L1) v1:=bM;refine Ord.wc [9] (fun v=>ao 0 v thr [zP c,zP u,.slice dA dn dc,zI nd,.bool true,zP o9,zP q9,.pointer none,ph,zI s]) (fun k v=>if k=0 then Env w0 (ae thr [zP c,zP u,.slice dA dn dc,zI nd,.bool true,zP o9,zP q9,.pointer none,ph,zI s]::L1) v else ∃ L2,Q2 L2/\Env w0 (ae thr [zP c,zP u,.slice dA dn dc,zI nd,.bool true,zP o9,zP q9,.pointer none,ph,zI s]::L2) v) (bM.drew.get 0 rfl) (by rw[if_pos rfl];exact bM.drew) fun af=>?_
 repeat ((first
  | (refine Ord.cv ?_ af.o ?_ ?_;rotate_left;(intro w5 hS;have r:=ao.rule hS;go_simp<;>rfl))
  | (refine Ord.co af.o ?_));try simp only[Act.put,zA,zZ,zS])
 refine Ord.ch_turn (v:=zI s) 0 af.o rfl (by decide) (Or.inl rfl) (by rfl) ?_ ?_
 ·rintro w5 aN au;rw[if_pos rfl] at au;go_simp;simp only[Ord.LandsIn];refine (HQ.out L1 w5 nh.out au).mono ?_;rintro e w6 ⟨rfl,L2,h2,h5⟩;exact⟨rfl,h5.get 0 rfl,L2,h2,h5⟩
 try simp only[Act.put,zA,zZ,zS]
 repeat ((first
  | (refine Ord.cv ?_ af.o ?_ ?_;rotate_left;(intro w5 hS;skip;go_simp<;>rfl))
  | (refine Ord.co af.o ?_));try simp only[Act.put,zA,zZ,zS])
 refine Ord.InText.nil fun w5 hS=>?_;clear af;obtain⟨aL,ai⟩:=Ord.chain_end hS;clear hS;rw[if_neg (by decide)] at ai;obtain⟨L2,gB,bD⟩:=ai;clear aL bM;have ku:=zH gB;have qg:=zH fun h=>HA.out L2 gB h;clear gB HO HQ HA nh;have r0:=bD.rule 0 rfl;have b9:(s != s)=false:=by simp
 by_cases hs:s=0
 ·subst hs;have HE:=zH bD;clear bD;go_wp2_with fail
  (try go_ret)
  exact fz.out _ _ ⟨rfl,L2,ku.out,HE.out⟩
 ·have b8:(s==0)=false:=by simpa using hs
  obtain⟨i,j,kd,key,val,lv,nx,s9,sp,n1,l1,t1,y1,gw,pc,pf,pa,pr,n2,l2,y2,lN,er,mn,h1,h2⟩:=qg.out hs;have hd:decide (s=0)=false:=by simpa using hs
  rw[hd] at fz;have f4:=bD.thaw 0 rfl 4 (by simp);have aB:=bD.put 0 rfl (j:=4) (by simp) (.bool false);clear bD hs hd qg;have H1:=zH h1;have H2:=zH h2;clear h1 h2
  go_upto_region 15 with fail
  clear r0 f4;generalize World.setCell _ _ _=v2 at *;replace aB:Env w0 (ae thr [zP c,zP u,.slice dA dn dc,zI nd,.bool false,zP o9,zP q9,.pointer none,ph,zI s]::L2) v2:=aB;have Bp:=zH fun (v:World) (hv:Env w0 (ae thr [zP c,zP u,.slice dA dn dc,zI nd,.bool false,zP o9,zP q9,.pointer none,ph,zI s]::L2) v)=>Bb (hv.get (i+1) H1.out);have vH:=zH fun (v:World) (hv:Env w0 (ae thr [zP c,zP u,.slice dA dn dc,zI nd,.bool false,zP o9,zP q9,.pointer none,ph,zI s]::L2) v)=>(show ∀ k,v.cell? ⟨q9,k,none⟩=[zI kd,zU key,zU val,zI lv,zI pc,.pointer pf,.pointer pa,.pointer pr,zI n2,zI l2,zU y2,.bool lN,zI er,.bool mn][k]? from hv.rule (j+1) H2.out);clear H1 H2;refine cG (S:=(Env w0 (ae thr [zP c,zP u,.slice dA dn dc,zI nd,.bool false,zP o9,zP q9,.pointer none,ph,zI s]::L2))) (by kernel_rfl) (by kernel_rfl) aB.drew (fun hT=>?_);have af:=zH hT;clear hT
  repeat ((first
   | (refine cH (v:=?_) af.o (by rfl) ?_ ?_;rotate_left;(intro w5 hS;have r:=hS.rule 0 rfl;have rq:=vH.out _ hS;go_simp<;>rfl))
   | (refine cI af.o (by rfl) ?_)
   | (refine cJ (v:=?_) (f:=?_) (args:=?_) af.o (by rfl) ?_ ?_ ?_;rotate_left 3;(intro w5 hS;have r:=hS.rule 0 rfl;have rq:=vH.out _ hS;go_simp;constructor<;>rfl);(intro w5 hS;(first | (with_reducible refine kp (Bp.out _ hS) ?_ ?_;rfl;exact fun w6 dm=>hS.over dm)))));try simp only[Act.put,zA,zZ,zS])
  refine InText.nil fun w5 aK=>?_;clear af;clear aB;go_wp2_with fail
  (try go_ret)
  exact fz.out _ _ ⟨rfl,L2,ku.out,aK⟩
end
end
end Go.Proofs.YtleklonmmlfijaaGreatDoor
