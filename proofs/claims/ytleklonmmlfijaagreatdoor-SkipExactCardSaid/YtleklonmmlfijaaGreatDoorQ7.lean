/- What is proved on the way to the statement, part 7: contracts of the functions, among other things in memory. -/
import Derived.Test.YtleklonmmlfijaaGreatDoorQ6

open _root_.Go.Proofs.Tryz
set_option maxRecDepth 100000
set_option maxHeartbeats 25600000
namespace Go.Proofs.YtleklonmmlfijaaGreatDoor
section
open Go.RowKit Go.Maps
def cS (v:Int):Int:=if aA v=0 then 1 else 0
section
variable {w0 w:World} {L:List Item} {a c:Nat} {lv key:Int} {vs:Bool} {nx:Value} {x y z W C X wd:Int} {pf:Bool} {pv:Int}
theorem Ag (v:Int) (hv:aD v) (hg:bE w0) (hE:Env w0 (ae a (aC c lv key vs nx 0 x y z W C X wd pf pv)::L) w) :
  Calls prog 229 #[zP a,.agg #[zU v,zI 0,.bool false]] w fun o w'=>o=.returned (zI (cS v))/\∃ nx,(aA v≠0->nx=mvL 238 a)/\Env w0 (ae a (aC c lv key vs nx (cS v) x y z v (aA v) 0 wd pf pv)::L) w':=by
 by_cases hs:aA v=0
 ·refine (Kv v hs hv hg hE).mono ?_;rintro o w1 ⟨rfl,nx,ag⟩;have hc:cS v=1:=if_pos hs;rw[hc,hs];exact⟨rfl,nx,fun h=>absurd rfl h,ag⟩
 ·refine (Kw v hs hv hg hE).mono ?_;rintro o w1 ⟨rfl,ag⟩;have hc:cS v=0:=if_neg hs;rw[hc];exact⟨rfl,_,fun _=>rfl,ag⟩
theorem KB (hm:cO W=true) (hv:aD W) (hg:bE w0) (hE:Env w0 (ae a (aC c lv key vs nx 0 x y z W C X wd pf pv)::L) w) :
  Calls prog 210 #[zP a] w fun o w'=>o=.returned (zI 2)/\∃ nx,Env w0 (ae a (aC c lv key vs nx 2 x y z W C X wd pf pv)::L) w':=by
 have r:=hE.rule 0 rfl;unfold aC at r;have h1:=oh W w (hg.keep' hE.below) hv.1 hv.2;rw[hm] at h1;clear hm hv hg;go_enter func210,ntmps210;go_wp2_with fail;refine h1.mono ?_;rintro o w1 ⟨rfl,hb⟩;replace hE:=hE.over hb;clear hb r;go_wp2_with fail;refine (rW 0 2 (by simp[aC]) hE rfl).mono ?_;rintro o w6 ⟨rfl,nx,aq⟩;go_wp2_with fail;go_ret;exact⟨rfl,nx,aq⟩
theorem KC (hm:cO W=false) (hv:aD W) (hg:bE w0) (hE:Env w0 (ae a (aC c lv key vs nx 0 x y z W C X wd pf pv)::L) w) :
  Calls prog 210 #[zP a] w fun o w'=>o=.returned (zI (cS W))/\∃ nx,(aA W≠0->nx=mvL 238 a)/\Env w0 (ae a (aC c lv key vs nx (cS W) x y z W (aA W) 0 wd pf pv)::L) w':=by
 have r:=hE.rule 0 rfl;unfold aC at r;have h1:=oh W w (hg.keep' hE.below) hv.1 hv.2;rw[hm] at h1;have HV:=zH hv;have HG:=zH hg;clear hm hv hg;go_enter func210,ntmps210;go_wp2_with fail;refine h1.mono ?_;rintro o w1 ⟨rfl,hb⟩;replace hE:=hE.over hb;clear hb r;have r:=hE.rule 0 rfl;unfold aC at r;go_wp2_with fail;refine (Ag W HV.out HG.out hE).mono ?_;rintro o w6 ⟨rfl,nx,bo,aq⟩;go_wp2_with fail;go_ret;exact⟨rfl,nx,bo,aq⟩
theorem KD (hv:aD X) (hg:bE w0) (hE:Env w0 (ae a (aC c lv key vs nx 0 x y z W C X wd pf pv)::L) w) :
  Calls prog 244 #[zP a] w fun o w'=>o=.returned (zI 0)/\Env w0 (ae a (aC c lv key vs (mvL (if cO X then 247 else 248) a) 0 x y z W C X wd pf pv)::L) w':=by
 have cf:=cg;have r:=hE.rule 0 rfl;unfold aC at r;have h1:=oh X w (hg.keep' hE.below) hv.1 hv.2;obtain⟨b,qh⟩:∃ b,cO X=b:=⟨_,rfl⟩;rw[qh] at h1 ⊢;clear qh hv hg;go_enter func244,ntmps244;go_wp2_with fail;refine h1.mono ?_;rintro o w1 ⟨rfl,hb⟩;replace hE:=hE.over hb;clear hb r;cases b
 ·go_wp2_with fail;refine (tS 0 _ _ _ (by simp[aC]) hE rfl).mono ?_;rintro o w6 ⟨rfl,aq⟩;go_wp2_with fail;go_ret;exact⟨rfl,aq⟩
 ·go_wp2_with fail;refine (tS 0 _ _ _ (by simp[aC]) hE rfl).mono ?_;rintro o w6 ⟨rfl,aq⟩;go_wp2_with fail;go_ret;exact⟨rfl,aq⟩
theorem KE (hE:Env w0 (ae a (aC c lv key vs nx 0 x y z W C X wd pf pv)::L) w) :
  Calls prog 254 #[zP a] w fun o w'=>o=.returned (zI 1)/\∃ nx,Env w0 (ae a (aC c lv key vs nx 1 x y z W C X wd true wd)::L) w':=by
 have r:=hE.rule 0 rfl;unfold aC at r;have g0:=hE.thaw 0 rfl 19 (by simp[aC]);have g1:=hE.thaw 0 rfl 20 (by simp[aC]);have hP:=(hE.put 0 rfl (j:=19) (by simp[aC]) (.bool true)).put 0 rfl (j:=20) (by simp[aC]) (zU wd);replace hP:Env w0 (ae a (aC c lv key vs nx 0 x y z W C X wd true wd)::L) _:=hP;go_enter func254,ntmps254;go_wp2_with fail;refine (rW 0 1 (by simp[aC]) hP rfl).mono ?_;rintro o w6 ⟨rfl,nx,aq⟩;go_wp2_with fail;go_ret;exact⟨rfl,nx,aq⟩
theorem KF (hk:wd < key) (aH:0<=lv/\lv<=1000000) (hv:aD X) (hg:bE w0) (hE:Env w0 (ae a (aC c lv key vs nx 0 x y z W C X wd pf pv)::L) w) :
  Calls prog 252 #[zP a] w fun o w'=>o=.returned (zI (cS X))/\∃ nx,(aA X≠0->nx=mvL 238 a)/\Env w0 (ae a (aC c lv key vs nx (cS X) 5 C (7+lv) X (aA X) 0 wd pf pv)::L) w':=by
 have tN:decide (wd < key)=true:=by simpa using hk
 have HV:=zH hv;have HG:=zH hg;clear hk hv hg;go_enter func252,ntmps252;go_wp2_with fail;refine cG (S:=(Env w0 (ae a (aC c lv key vs nx 0 x y z W C X wd pf pv)::L))) (by kernel_rfl) (by kernel_rfl) hE.drew (fun hT=>?_);have af:=zH hT;clear hT
 repeat ((first
  | (refine cH (v:=?_) af.o (by rfl) ?_ ?_;rotate_left;(intro w5 hS;have r:=hS.rule 0 rfl;unfold aC at r;go_simp<;>rfl))
  | (refine cI af.o (by rfl) ?_)
  | (refine cJ (v:=?_) (f:=?_) (args:=?_) af.o (by rfl) ?_ ?_ ?_;rotate_left 3;(intro w5 hS;have r:=hS.rule 0 rfl;unfold aC at r;go_simp;constructor<;>rfl);(intro w5 hS;(first | fail))));try simp only[Act.put,zA,zZ,zS])
 refine InText.nil fun w5 aK=>?_;clear af;clear hE;go_wp2_with fail;refine (D8 aH (aK.get 0 rfl)).mono ?_;rintro o w6 ⟨rfl,hb⟩;have hE:=aK.over hb;clear aK hb;have r:=hE.rule 0 rfl;unfold aC at r;have g0:=hE.thaw 0 rfl 6 (by simp[aC]);have g1:=hE.thaw 0 rfl 7 (by simp[aC]);have g2:=hE.thaw 0 rfl 8 (by simp[aC]);have g3:=hE.thaw 0 rfl 9 (by simp[aC]);have hP:=(((hE.put 0 rfl (j:=6) (by simp[aC]) (zI 5)).put 0 rfl (j:=7) (by simp[aC]) (zI C)).put 0 rfl (j:=8) (by simp[aC]) (zI (7+lv))).put 0 rfl (j:=9) (by simp[aC]) (zI 0);replace hP:Env w0 (ae a (aC c lv key vs nx 0 5 C (7+lv) W C X wd pf pv)::L) _:=hP;clear hE;have r9:=hP.rule 0 rfl;unfold aC at r9;go_wp2_with fail;refine (Ag X HV.out HG.out hP).mono ?_;rintro o w7 ⟨rfl,nx,bo,aq⟩;go_wp2_with fail;go_ret;exact⟨rfl,nx,bo,aq⟩
theorem KG (hk:wd=key) (hE:Env w0 (ae a (aC c lv key true nx 0 x y z W C X wd pf pv)::L) w) :
  Calls prog 252 #[zP a] w fun o w'=>o=.returned (zI 0)/\Env w0 (ae a (aC c lv key true (mvL 253 a) 0 x y z W C X wd pf pv)::L) w':=by
 have cf:=cg;subst hk;have aE:decide (wd < wd)=false:=by simp
 have heq:(wd==wd)=true:=by simp
 go_enter func252,ntmps252;go_wp2_with fail;refine cG (S:=(Env w0 (ae a (aC c lv wd true nx 0 x y z W C X wd pf pv)::L))) (by kernel_rfl) (by kernel_rfl) hE.drew (fun hT=>?_);have af:=zH hT;clear hT
 repeat ((first
  | (refine cH (v:=?_) af.o (by rfl) ?_ ?_;rotate_left;(intro w5 hS;have r:=hS.rule 0 rfl;unfold aC at r;go_simp<;>rfl))
  | (refine cI af.o (by rfl) ?_)
  | (refine cJ (v:=?_) (f:=?_) (args:=?_) af.o (by rfl) ?_ ?_ ?_;rotate_left 3;(intro w5 hS;have r:=hS.rule 0 rfl;unfold aC at r;go_simp;constructor<;>rfl);(intro w5 hS;(first | fail))));try simp only[Act.put,zA,zZ,zS])
 refine InText.nil fun w5 aK=>?_;clear af;clear hE;go_wp2_with fail;have hE:=aK;clear aK;refine cG (S:=(Env w0 (ae a (aC c lv wd true nx 0 x y z W C X wd pf pv)::L))) (by kernel_rfl) (by kernel_rfl) hE.drew (fun hT=>?_);have af:=zH hT;clear hT
 repeat ((first
  | (refine cH (v:=?_) af.o (by rfl) ?_ ?_;rotate_left;(intro w5 hS;have r:=hS.rule 0 rfl;unfold aC at r;go_simp<;>rfl))
  | (refine cI af.o (by rfl) ?_)
  | (refine cJ (v:=?_) (f:=?_) (args:=?_) af.o (by rfl) ?_ ?_ ?_;rotate_left 3;(intro w5 hS;have r:=hS.rule 0 rfl;unfold aC at r;go_simp;constructor<;>rfl);(intro w5 hS;(first | fail))));try simp only[Act.put,zA,zZ,zS])
 refine InText.nil fun w5 aK=>?_;clear af;clear hE;go_wp2_with fail;refine (tS 0 _ _ _ (by simp[aC]) aK rfl).mono ?_;rintro o w6 ⟨rfl,aq⟩;go_wp2_with fail;go_ret;exact⟨rfl,aq⟩
theorem KH (hk:wd=key) (hE:Env w0 (ae a (aC c lv key false nx 0 x y z W C X wd pf pv)::L) w) :
  Calls prog 252 #[zP a] w fun o w'=>o=.returned (zI 1)/\∃ nx,Env w0 (ae a (aC c lv key false nx 1 x y z W C X wd true pv)::L) w':=by
 have cf:=cg;subst hk;have aE:decide (wd < wd)=false:=by simp
 have heq:(wd==wd)=true:=by simp
 go_enter func252,ntmps252;go_wp2_with fail;refine cG (S:=(Env w0 (ae a (aC c lv wd false nx 0 x y z W C X wd pf pv)::L))) (by kernel_rfl) (by kernel_rfl) hE.drew (fun hT=>?_);have af:=zH hT;clear hT
 repeat ((first
  | (refine cH (v:=?_) af.o (by rfl) ?_ ?_;rotate_left;(intro w5 hS;have r:=hS.rule 0 rfl;unfold aC at r;go_simp<;>rfl))
  | (refine cI af.o (by rfl) ?_)
  | (refine cJ (v:=?_) (f:=?_) (args:=?_) af.o (by rfl) ?_ ?_ ?_;rotate_left 3;(intro w5 hS;have r:=hS.rule 0 rfl;unfold aC at r;go_simp;constructor<;>rfl);(intro w5 hS;(first | fail))));try simp only[Act.put,zA,zZ,zS])
 refine InText.nil fun w5 aK=>?_;clear af;clear hE;go_wp2_with fail;have hE:=aK;clear aK;refine cG (S:=(Env w0 (ae a (aC c lv wd false nx 0 x y z W C X wd pf pv)::L))) (by kernel_rfl) (by kernel_rfl) hE.drew (fun hT=>?_);have af:=zH hT;clear hT
 repeat ((first
  | (refine cH (v:=?_) af.o (by rfl) ?_ ?_;rotate_left;(intro w5 hS;have r:=hS.rule 0 rfl;unfold aC at r;go_simp<;>rfl))
  | (refine cI af.o (by rfl) ?_)
  | (refine cJ (v:=?_) (f:=?_) (args:=?_) af.o (by rfl) ?_ ?_ ?_;rotate_left 3;(intro w5 hS;have r:=hS.rule 0 rfl;unfold aC at r;go_simp;constructor<;>rfl);(intro w5 hS;(first | fail))));try simp only[Act.put,zA,zZ,zS])
 refine InText.nil fun w5 aK=>?_;clear af;clear hE;go_wp2_with fail;have hE:=aK;clear aK;refine Ord.wc [12] (fun u=>∃ n8,ao 0 u a (aC c lv wd false nx 0 x y z W C X wd n8 pv)) (fun k w'=>Env w0 (ae a (if k=0 then (aC c lv wd false nx 0 x y z W C X wd pf pv) else (aC c lv wd false nx 0 x y z W C X wd true pv))::L) w') ⟨pf,hE.drew.get 0 rfl⟩ hE.drew fun af=>?_
 repeat ((first
  | (refine Ord.cv ?_ af.o ?_ ?_;rotate_left;(intro w5 hS;obtain⟨n9,dz⟩:=hS;have r:=dz.rule;unfold aC at r;go_simp<;>rfl))
  | (refine Ord.co af.o ?_));try simp only[Act.put,zA,zZ,zS])
 refine Ord.ch_turn (v:=undef) 0 af.o rfl (by decide) (Or.inl rfl) (by rfl) ?_ ?_
 ·rintro w5 aN au;simp only[if_true] at au;have r:=au.rule 0 rfl;unfold aC at r;have g0:=au.thaw 0 rfl 19 (by simp[aC]);go_simp;have h9:=au.put 0 rfl (j:=19) (by simp[aC]) (.bool true);replace h9:Env w0 (ae a (aC c lv wd false nx 0 x y z W C X wd true pv)::L) _:=h9
  first | exact⟨rfl,.inl (h9.get 0 rfl),h9⟩ | exact⟨rfl,.inr (h9.get 0 rfl),h9⟩
 try simp only[Act.put,zA,zZ,zS]
 repeat ((first
  | (refine Ord.cv ?_ af.o ?_ ?_;rotate_left;(intro w5 hS;skip;go_simp<;>rfl))
  | (refine Ord.co af.o ?_));try simp only[Act.put,zA,zZ,zS])
 refine Ord.InText.nil fun w5 hS=>?_;clear af;obtain⟨aL,ai⟩:=Ord.chain_end hS;clear hS;replace ai:Env w0 (ae a (aC c lv wd false nx 0 x y z W C X wd true pv)::L) w5:=ai;clear hE aL;go_wp2_with fail;refine (rW 0 1 (by simp[aC]) ai rfl).mono ?_;rintro o w6 ⟨rfl,nx,aq⟩;go_wp2_with fail;go_ret;exact⟨rfl,nx,aq⟩
theorem KI (hk:key < wd) (hE:Env w0 (ae a (aC c lv key vs nx 0 x y z W C X wd pf pv)::L) w) :
  Calls prog 252 #[zP a] w fun o w'=>o=.returned (zI 1)/\∃ nx,Env w0 (ae a (aC c lv key vs nx 1 x y z W C X wd false pv)::L) w':=by
 have cf:=cg;have aE:decide (wd < key)=false:=by simp;omega
 have heq:(wd==key)=false:=by simp;omega
 clear hk;go_enter func252,ntmps252;go_wp2_with fail;refine cG (S:=(Env w0 (ae a (aC c lv key vs nx 0 x y z W C X wd pf pv)::L))) (by kernel_rfl) (by kernel_rfl) hE.drew (fun hT=>?_);have af:=zH hT;clear hT
 repeat ((first
  | (refine cH (v:=?_) af.o (by rfl) ?_ ?_;rotate_left;(intro w5 hS;have r:=hS.rule 0 rfl;unfold aC at r;go_simp<;>rfl))
  | (refine cI af.o (by rfl) ?_)
  | (refine cJ (v:=?_) (f:=?_) (args:=?_) af.o (by rfl) ?_ ?_ ?_;rotate_left 3;(intro w5 hS;have r:=hS.rule 0 rfl;unfold aC at r;go_simp;constructor<;>rfl);(intro w5 hS;(first | fail))));try simp only[Act.put,zA,zZ,zS])
 refine InText.nil fun w5 aK=>?_;clear af;clear hE;go_wp2_with fail;have hE:=aK;clear aK;refine cG (S:=(Env w0 (ae a (aC c lv key vs nx 0 x y z W C X wd pf pv)::L))) (by kernel_rfl) (by kernel_rfl) hE.drew (fun hT=>?_);have af:=zH hT;clear hT
 repeat ((first
  | (refine cH (v:=?_) af.o (by rfl) ?_ ?_;rotate_left;(intro w5 hS;have r:=hS.rule 0 rfl;unfold aC at r;go_simp<;>rfl))
  | (refine cI af.o (by rfl) ?_)
  | (refine cJ (v:=?_) (f:=?_) (args:=?_) af.o (by rfl) ?_ ?_ ?_;rotate_left 3;(intro w5 hS;have r:=hS.rule 0 rfl;unfold aC at r;go_simp;constructor<;>rfl);(intro w5 hS;(first | fail))));try simp only[Act.put,zA,zZ,zS])
 refine InText.nil fun w5 aK=>?_;clear af;clear hE;go_wp2_with fail;have hE:=aK;clear aK;refine Ord.wc [12] (fun u=>∃ n8,ao 0 u a (aC c lv key vs nx 0 x y z W C X wd n8 pv)) (fun k w'=>Env w0 (ae a (if k=0 then (aC c lv key vs nx 0 x y z W C X wd pf pv) else (aC c lv key vs nx 0 x y z W C X wd false pv))::L) w') ⟨pf,hE.drew.get 0 rfl⟩ hE.drew fun af=>?_
 repeat ((first
  | (refine Ord.cv ?_ af.o ?_ ?_;rotate_left;(intro w5 hS;obtain⟨n9,dz⟩:=hS;have r:=dz.rule;unfold aC at r;go_simp<;>rfl))
  | (refine Ord.co af.o ?_));try simp only[Act.put,zA,zZ,zS])
 refine Ord.ch_turn (v:=undef) 0 af.o rfl (by decide) (Or.inl rfl) (by rfl) ?_ ?_
 ·rintro w5 aN au;simp only[if_true] at au;have r:=au.rule 0 rfl;unfold aC at r;have g0:=au.thaw 0 rfl 19 (by simp[aC]);go_simp;have h9:=au.put 0 rfl (j:=19) (by simp[aC]) (.bool false);replace h9:Env w0 (ae a (aC c lv key vs nx 0 x y z W C X wd false pv)::L) _:=h9
  first | exact⟨rfl,.inl (h9.get 0 rfl),h9⟩ | exact⟨rfl,.inr (h9.get 0 rfl),h9⟩
 try simp only[Act.put,zA,zZ,zS]
 repeat ((first
  | (refine Ord.cv ?_ af.o ?_ ?_;rotate_left;(intro w5 hS;skip;go_simp<;>rfl))
  | (refine Ord.co af.o ?_));try simp only[Act.put,zA,zZ,zS])
 refine Ord.InText.nil fun w5 hS=>?_;clear af;obtain⟨aL,ai⟩:=Ord.chain_end hS;clear hS;replace ai:Env w0 (ae a (aC c lv key vs nx 0 x y z W C X wd false pv)::L) w5:=ai;clear hE aL;go_wp2_with fail;refine (rW 0 1 (by simp[aC]) ai rfl).mono ?_;rintro o w6 ⟨rfl,nx,aq⟩;go_wp2_with fail;go_ret;exact⟨rfl,nx,aq⟩
end
section
variable {w0 w:World} {R:List Item} {a:Nat} {S:ST} {lv key:Int} {vs:Bool} {nx:Value} {x y z W C X wd:Int} {pf:Bool} {pv:Int}
theorem KJ (heq:S.f (x,y,z)≠W) (aZ:Wf (x,y,z)) (hX:aD X) (hg:bE w0) (hm:S.m < maxLen) (hE:Env w0 (ae a (aC S.c lv key vs nx 0 x y z W C X wd pf pv)::LT S R) w) :
  Calls prog 247 #[zP a,.iface 28 (zP S.p)] w fun o w'=>o=.returned (zI 2)/\∃ nx G',Env w0 (ae a (aC S.c lv key vs nx 2 x y z W C X wd pf pv)::LT { S with G:=G',f:=swf S.f (x,y,z) W (aP false (aA X) S.ce),qc:=dE S.qc false,m:=S.m+1 } R) w':=by
 have cf:=cg;have eV:=kQ;have HD:Hid (decide (S.f (x,y,z)=W)=false):=zH (by simpa using heq);have HG:=zH hg;have dQ:=zH aZ;have dF:=zH fun (v:World) (hv:Below w0.heap.size w0 v)=>kt X 0 false v hX (hg.keep' hv);have dR:aD (aP false (aA X) S.ce):=kN _ _ _;have cP:=fun (v:World) (hv:Below w0.heap.size w0 v) (hb:ao 0 v S.c (cT S.ck S.cs S.cb S.ch S.cl S.ce S.cr S.hs 0 S.q))=>xt (aA X) 0 (hg.keep' hv) hb;obtain⟨s,hs⟩:∃ s,aA X=s:=⟨_,rfl⟩;rw[hs] at dR ⊢;simp only[hs] at dF cP;clear hs;obtain⟨q,hq⟩:∃ q,aP false s S.ce=q:=⟨_,rfl⟩;rw[hq] at dR ⊢;simp only[hq] at cP;have gp:=zH dR;have dT:=zH cP;clear hq dR cP heq aZ hX hg;go_enter func247,ntmps247;go_wp2_with fail;refine OrdF.wp_float [?_,?_,?_,?_,?_,?_,?_,?_,?_,?_,OrdF.Ptr,?_] [11] 10 (fun v=>Below w0.heap.size w0 v/\ao 0 v a (aC S.c lv key vs nx 0 x y z W C X wd pf pv)/\ao 0 v S.c (cT S.ck S.cs S.cb S.ch S.cl S.ce S.cr S.hs 0 S.q)) (OrdF.AF w0 [zU 0,zI 0,.bool false] (OrdF.Sta [fun N zs=>N=ae a (aC S.c lv key vs nx 0 x y z W C X wd pf pv)::LT S R/\zs=[zU 0,zI 0,.bool false],fun N zs=>N=ae a (aC S.c lv key vs nx 0 x y z W C X wd pf pv)::LT S R/\zs=[zU q,zI 0,.bool false]])) (by kernel_rfl) (by kernel_rfl) (by kernel_rfl) ⟨hE.drew.below,hE.drew.get 0 rfl,hE.drew.get 1 rfl⟩ ⟨_,_,⟨_,rfl,rfl,rfl⟩,.inl ⟨rfl,rfl,hE.drew⟩⟩ (fun hT=>?_);rotate_left 11;have af:=zH hT;clear hT
 repeat ((first
  | (focus (refine OrdF.in_value (v:=?_) af.o (by decide) (by decide) ?_ (by rfl) ?_ ?_;rotate_left 2;(intro w5 hS;have r:=hS.2.1.rule;unfold aC at r;go_simp<;>rfl);rotate_right;(focus rfl)))
  | (focus (refine OrdF.in_off af.o (by decide) (by decide) ?_ (by rfl) ?_;(focus rfl))));try simp only[Act.put,zA,zZ,zS])
 focus (refine OrdF.in_call (v:=.agg #[zI s,zI 0]) (f:=?_) (args:=?_) af.o (by decide) (by decide) ?_ (by rfl) ?_ ?_ ?_;rotate_left 2;(focus rfl);(intro w5 hS;skip;go_simp;constructor<;>rfl);(intro w5 hS;refine (dF.out _ hS.1).mono ?_;rintro e w6 ⟨rfl,aj⟩;exact⟨rfl,⟨hS.1.trans (aj.mono hS.1.size),hS.2.1.under aj,hS.2.2.under aj⟩,fun _ _ h=>lG h aj⟩);(try simp only[Act.put,zA,zZ,zS]))
 focus (refine OrdF.in_call (v:=.agg #[zU q,zI 0,.bool false]) (f:=?_) (args:=?_) af.o (by decide) (by decide) ?_ (by rfl) ?_ ?_ ?_;rotate_left 2;(focus rfl);(intro w5 hS;skip;go_simp;constructor<;>rfl);(intro w5 hS;refine (dT.out _ hS.1 hS.2.2).mono ?_;rintro e w6 ⟨rfl,aj⟩;exact⟨rfl,⟨hS.1.trans (aj.mono hS.1.size),hS.2.1.under aj,hS.2.2.under aj⟩,fun _ _ h=>lG h aj⟩);(try simp only[Act.put,zA,zZ,zS]))
 refine OrdF.in_float OrdF.Ptr (zP 0) ⟨0,rfl⟩ af.o rfl (by decide) ?_ (by rfl) ?_ ?_
 ·rfl
 ·intro w5 κs5 aN au;go_simp;simp only[Ord3.Lands];exact⟨⟨_,rfl⟩,⟨aN.1.alloc aN.1.size _,aN.2.1.more _,aN.2.2.more _⟩,au.up _⟩
 rintro _ ⟨V,rfl⟩
 try simp only[Act.put,zA,zZ,zS]
 refine OrdF.in_turn_late (by kernel_rfl) (by decide) (by decide) (fun u=>u=undef) (undef) rfl af.o rfl (by decide) (by rfl) ?_ (.inl rfl) (by rfl) ?_ ?_
 ·rfl
 ·rintro w5 aN ⟨M5,z5,⟨P5,cd,cR⟩,⟨bC,_⟩ | ⟨n5,bC,aB⟩⟩
  ·cases bC
  cases bC;cases cd;obtain⟨rfl,rfl⟩:=cR;have r:=aB.rule 0 rfl;have ff:=aB.thaw 0 rfl;have f0:=ff 0 (by simp);have f1:=ff 1 (by simp);have f2:=ff 2 (by simp);clear ff;go_simp;have aq:=aB.put3 0 rfl (zU q) (zI 0) (.bool false);exact⟨rfl,⟨aq.below,aq.get 1 rfl,aq.get 2 rfl⟩,_,_,⟨_,rfl,rfl,rfl⟩,.inr ⟨_,rfl,aq⟩⟩
 rintro _ rfl
 try simp only[Act.put,zA,zZ,zS]
 refine OrdF.in_nil rfl (by decide) (by decide) ?_;rintro w5 aN ⟨M5,z5,⟨P5,cd,cR⟩,⟨bC,_⟩ | ⟨n5,bC,aB⟩⟩
 ·cases bC
 cases bC;cases cd;obtain⟨rfl,rfl⟩:=cR;clear af;clear dT dF hE;go_wp2_with fail;refine Ord.wc [13] (fun v=>ao 0 v a (aC S.c lv key vs nx 0 x y z W C X wd pf pv)/\ao 0 v V [zU q,zI 0,.bool false]) (fun k w'=>∃ G5,Env w0 (ae V [zU q,zI 0,.bool false]::ae a (aC S.c lv key vs nx 0 x y z W C X wd pf pv)::LT (if k=0 then S else { S with G:=G5,f:=swf S.f (x,y,z) W q,qc:=dE S.qc false,m:=S.m+1 }) R) w') ⟨aB.drew.get 1 rfl,aB.drew.get 0 rfl⟩ ⟨S.G,aB.drew⟩ fun af=>?_
 repeat ((first
  | (refine Ord.cv ?_ af.o ?_ ?_;rotate_left;(intro w5 hS;have r:=hS.1.rule;have r1:=hS.2.rule;unfold aC at r;go_simp<;>rfl))
  | (refine Ord.co af.o ?_));try simp only[Act.put,zA,zZ,zS])
 refine Ord.ch_turn (v:=.bool false) 0 af.o rfl (by decide) (Or.inl rfl) (by rfl) ?_ ?_
 ·rintro w5 aN ⟨G5,au⟩;simp only[if_true] at au;go_simp;rw[kP];simp only[Result.andThen_ok];go_simp;simp only[Ord.LandsIn];have bS:=kO x y z 0 W 0 q 0 false false dQ.out gp.out hm 4 5 (by decide) au rfl rfl;rw[HD.out] at bS;refine bS.mono ?_;rintro e w6 ⟨rfl,G6,aq⟩;exact⟨rfl,⟨aq.get 1 rfl,aq.get 0 rfl⟩,G6,aq⟩
 try simp only[Act.put,zA,zZ,zS]
 repeat ((first
  | (refine Ord.cv ?_ af.o ?_ ?_;rotate_left;(intro w5 hS;skip;go_simp<;>rfl))
  | (refine Ord.co af.o ?_));try simp only[Act.put,zA,zZ,zS])
 refine Ord.InText.nil fun w5 hS=>?_;clear af;obtain⟨aL,ai⟩:=Ord.chain_end hS;clear hS;obtain⟨G9,ai⟩:=ai;clear aL aB;simp only[List.length_cons,List.length_nil,Nat.zero_add,Nat.one_ne_zero,if_false] at ai;go_wp2_with fail;refine (rW 1 2 (by simp[aC]) ai rfl).mono ?_;rintro o w7 ⟨rfl,nx,aO⟩;go_wp2_with fail;go_ret;exact⟨rfl,nx,G9,aO.sub (.cons _ (List.Sublist.refl _))⟩
theorem KK (heq:S.f (x,y,z)=W) (aZ:Wf (x,y,z)) (hX:aD X) (hg:bE w0) (hm:S.m < maxLen) (hE:Env w0 (ae a (aC S.c lv key vs nx 0 x y z W C X wd pf pv)::LT S R) w) :
  Calls prog 247 #[zP a,.iface 28 (zP S.p)] w fun o w'=>o=.returned (zI (cS (aP false (aA X) S.ce)))/\∃ nx G',(aA (aP false (aA X) S.ce)≠0->nx=mvL 238 a)/\Env w0 (ae a (aC S.c lv key vs nx (cS (aP false (aA X) S.ce)) x y z (aP false (aA X) S.ce) (aA (aP false (aA X) S.ce)) 0 wd pf pv)::LT { S with G:=G',f:=swf S.f (x,y,z) W (aP false (aA X) S.ce),qc:=dE S.qc true,m:=S.m+1 } R) w':=by
 have cf:=cg;have eV:=kQ;have HD:Hid (decide (S.f (x,y,z)=W)=true):=zH (by simpa using heq);have HG:=zH hg;have dQ:=zH aZ;have dF:=zH fun (v:World) (hv:Below w0.heap.size w0 v)=>kt X 0 false v hX (hg.keep' hv);have dR:aD (aP false (aA X) S.ce):=kN _ _ _;have cP:=fun (v:World) (hv:Below w0.heap.size w0 v) (hb:ao 0 v S.c (cT S.ck S.cs S.cb S.ch S.cl S.ce S.cr S.hs 0 S.q))=>xt (aA X) 0 (hg.keep' hv) hb;obtain⟨s,hs⟩:∃ s,aA X=s:=⟨_,rfl⟩;rw[hs] at dR ⊢;simp only[hs] at dF cP;clear hs;obtain⟨q,hq⟩:∃ q,aP false s S.ce=q:=⟨_,rfl⟩;rw[hq] at dR ⊢;simp only[hq] at cP;have gp:=zH dR;have dT:=zH cP;clear hq dR cP heq aZ hX hg;go_enter func247,ntmps247;go_wp2_with fail;refine OrdF.wp_float [?_,?_,?_,?_,?_,?_,?_,?_,?_,?_,OrdF.Ptr,?_] [11] 10 (fun v=>Below w0.heap.size w0 v/\ao 0 v a (aC S.c lv key vs nx 0 x y z W C X wd pf pv)/\ao 0 v S.c (cT S.ck S.cs S.cb S.ch S.cl S.ce S.cr S.hs 0 S.q)) (OrdF.AF w0 [zU 0,zI 0,.bool false] (OrdF.Sta [fun N zs=>N=ae a (aC S.c lv key vs nx 0 x y z W C X wd pf pv)::LT S R/\zs=[zU 0,zI 0,.bool false],fun N zs=>N=ae a (aC S.c lv key vs nx 0 x y z W C X wd pf pv)::LT S R/\zs=[zU q,zI 0,.bool false]])) (by kernel_rfl) (by kernel_rfl) (by kernel_rfl) ⟨hE.drew.below,hE.drew.get 0 rfl,hE.drew.get 1 rfl⟩ ⟨_,_,⟨_,rfl,rfl,rfl⟩,.inl ⟨rfl,rfl,hE.drew⟩⟩ (fun hT=>?_);rotate_left 11;have af:=zH hT;clear hT
 repeat ((first
  | (focus (refine OrdF.in_value (v:=?_) af.o (by decide) (by decide) ?_ (by rfl) ?_ ?_;rotate_left 2;(intro w5 hS;have r:=hS.2.1.rule;unfold aC at r;go_simp<;>rfl);rotate_right;(focus rfl)))
  | (focus (refine OrdF.in_off af.o (by decide) (by decide) ?_ (by rfl) ?_;(focus rfl))));try simp only[Act.put,zA,zZ,zS])
 focus (refine OrdF.in_call (v:=.agg #[zI s,zI 0]) (f:=?_) (args:=?_) af.o (by decide) (by decide) ?_ (by rfl) ?_ ?_ ?_;rotate_left 2;(focus rfl);(intro w5 hS;skip;go_simp;constructor<;>rfl);(intro w5 hS;refine (dF.out _ hS.1).mono ?_;rintro e w6 ⟨rfl,aj⟩;exact⟨rfl,⟨hS.1.trans (aj.mono hS.1.size),hS.2.1.under aj,hS.2.2.under aj⟩,fun _ _ h=>lG h aj⟩);(try simp only[Act.put,zA,zZ,zS]))
 focus (refine OrdF.in_call (v:=.agg #[zU q,zI 0,.bool false]) (f:=?_) (args:=?_) af.o (by decide) (by decide) ?_ (by rfl) ?_ ?_ ?_;rotate_left 2;(focus rfl);(intro w5 hS;skip;go_simp;constructor<;>rfl);(intro w5 hS;refine (dT.out _ hS.1 hS.2.2).mono ?_;rintro e w6 ⟨rfl,aj⟩;exact⟨rfl,⟨hS.1.trans (aj.mono hS.1.size),hS.2.1.under aj,hS.2.2.under aj⟩,fun _ _ h=>lG h aj⟩);(try simp only[Act.put,zA,zZ,zS]))
 refine OrdF.in_float OrdF.Ptr (zP 0) ⟨0,rfl⟩ af.o rfl (by decide) ?_ (by rfl) ?_ ?_
 ·rfl
 ·intro w5 κs5 aN au;go_simp;simp only[Ord3.Lands];exact⟨⟨_,rfl⟩,⟨aN.1.alloc aN.1.size _,aN.2.1.more _,aN.2.2.more _⟩,au.up _⟩
 rintro _ ⟨V,rfl⟩
 try simp only[Act.put,zA,zZ,zS]
 refine OrdF.in_turn_late (by kernel_rfl) (by decide) (by decide) (fun u=>u=undef) (undef) rfl af.o rfl (by decide) (by rfl) ?_ (.inl rfl) (by rfl) ?_ ?_
 ·rfl
 ·rintro w5 aN ⟨M5,z5,⟨P5,cd,cR⟩,⟨bC,_⟩ | ⟨n5,bC,aB⟩⟩
  ·cases bC
  cases bC;cases cd;obtain⟨rfl,rfl⟩:=cR;have r:=aB.rule 0 rfl;have ff:=aB.thaw 0 rfl;have f0:=ff 0 (by simp);have f1:=ff 1 (by simp);have f2:=ff 2 (by simp);clear ff;go_simp;have aq:=aB.put3 0 rfl (zU q) (zI 0) (.bool false);exact⟨rfl,⟨aq.below,aq.get 1 rfl,aq.get 2 rfl⟩,_,_,⟨_,rfl,rfl,rfl⟩,.inr ⟨_,rfl,aq⟩⟩
 rintro _ rfl
 try simp only[Act.put,zA,zZ,zS]
 refine OrdF.in_nil rfl (by decide) (by decide) ?_;rintro w5 aN ⟨M5,z5,⟨P5,cd,cR⟩,⟨bC,_⟩ | ⟨n5,bC,aB⟩⟩
 ·cases bC
 cases bC;cases cd;obtain⟨rfl,rfl⟩:=cR;clear af;clear dT dF hE;go_wp2_with fail;refine Ord.wc [13] (fun v=>ao 0 v a (aC S.c lv key vs nx 0 x y z W C X wd pf pv)/\ao 0 v V [zU q,zI 0,.bool false]) (fun k w'=>∃ G5,Env w0 (ae V [zU q,zI 0,.bool false]::ae a (aC S.c lv key vs nx 0 x y z W C X wd pf pv)::LT (if k=0 then S else { S with G:=G5,f:=swf S.f (x,y,z) W q,qc:=dE S.qc true,m:=S.m+1 }) R) w') ⟨aB.drew.get 1 rfl,aB.drew.get 0 rfl⟩ ⟨S.G,aB.drew⟩ fun af=>?_
 repeat ((first
  | (refine Ord.cv ?_ af.o ?_ ?_;rotate_left;(intro w5 hS;have r:=hS.1.rule;have r1:=hS.2.rule;unfold aC at r;go_simp<;>rfl))
  | (refine Ord.co af.o ?_));try simp only[Act.put,zA,zZ,zS])
 refine Ord.ch_turn (v:=.bool true) 0 af.o rfl (by decide) (Or.inl rfl) (by rfl) ?_ ?_
 ·rintro w5 aN ⟨G5,au⟩;simp only[if_true] at au;go_simp;rw[kP];simp only[Result.andThen_ok];go_simp;simp only[Ord.LandsIn];have bS:=kO x y z 0 W 0 q 0 false false dQ.out gp.out hm 4 5 (by decide) au rfl rfl;rw[HD.out] at bS;refine bS.mono ?_;rintro e w6 ⟨rfl,G6,aq⟩;exact⟨rfl,⟨aq.get 1 rfl,aq.get 0 rfl⟩,G6,aq⟩
 try simp only[Act.put,zA,zZ,zS]
 repeat ((first
  | (refine Ord.cv ?_ af.o ?_ ?_;rotate_left;(intro w5 hS;skip;go_simp<;>rfl))
  | (refine Ord.co af.o ?_));try simp only[Act.put,zA,zZ,zS])
 refine Ord.InText.nil fun w5 hS=>?_;clear af;obtain⟨aL,ai⟩:=Ord.chain_end hS;clear hS;obtain⟨G9,ai⟩:=ai;clear aL aB;simp only[List.length_cons,List.length_nil,Nat.zero_add,Nat.one_ne_zero,if_false] at ai;have rV:=ai.rule 0 rfl;go_wp2_with fail;refine (Ag q gp.out HG.out (ai.sub (.cons _ (List.Sublist.refl _)))).mono ?_;rintro o w7 ⟨rfl,nx,bo,aO⟩;go_wp2_with fail;go_ret;exact⟨rfl,nx,G9,bo,aO⟩
end
section
variable {w0 w:World} {R:List Item} {a b1 b2:Nat} {S:ST} {lv key:Int} {vs:Bool} {nx:Value} {x y z W C X wd:Int} {pf:Bool} {pv:Int}
theorem xw (T:Value) (aG:okB (S.f (1,0,0)) S.ce=false) (hE:Env w0 (ae a (aC S.c lv key vs nx 0 x y z W C X wd pf pv)::ae b1 [zP a]::ae b2 [T]::LT S R) w) :
  Calls prog 228 #[.iface 28 (zP S.p),zP b1,zP b2] w fun o w'=>o=.returned (zI 2)/\∃ nx,Env w0 (ae a (aC S.c lv key vs nx 2 x y z W C X wd pf pv)::ae b1 [zP a]::ae b2 [T]::LT { S with qc:={ S.qc with l:=wrap64 (S.qc.l+1) },cr:=wrap64 (S.cr+1) } R) w':=by
 have hv:=xr _ (rfl:S.f (1,0,0)=S.f (1,0,0)) 3 5 6 (by decide) (by decide) hE rfl rfl rfl;rw[aG] at hv;simp only[zS,zZ,Bool.false_eq_true,if_false] at hv;have HV:=zH hv;clear hv aG;have r0:=hE.rule 1 rfl;have r:=hE.rule 0 rfl;unfold aC at r;go_enter func228,ntmps228;go_wp2_with fail;refine HV.out.mono ?_;rintro o w1 ⟨rfl,ag⟩;replace ag:Env w0 (ae a (aC S.c lv key vs nx 0 x y z W C X wd pf pv)::ae b1 [zP a]::ae b2 [T]::LT { S with qc:={ S.qc with l:=wrap64 (S.qc.l+1) },cr:=wrap64 (S.cr+1) } R) w1:=ag;clear HV hE r0 r;have r0:=ag.rule 1 rfl;go_wp2_with fail;refine (rW 0 2 (by simp[aC]) ag rfl).mono ?_;rintro o w6 ⟨rfl,nx,aq⟩;go_wp2_with fail;go_ret;exact⟨rfl,nx,aq⟩
theorem xy (F:Nat) (hx:∀ (ar:Array Value) (v:World),(callFunc F ar).run prog v=.ok (.enter F ar) v) (aG:okB (S.f (1,0,0)) S.ce=true) (hE:Env w0 (ae a (aC S.c lv key vs nx 0 x y z W C X wd pf pv)::ae b1 [zP a]::ae b2 [mvL F a]::LT S R) w) (s:Int) (Y:World->Prop)
  (hc:∀ v,Env w0 (ae a (aC S.c lv key vs nx 0 x y z W C X wd pf pv)::ae b1 [zP a]::ae b2 [mvL F a]::LT { S with qc:={ S.qc with l:=wrap64 (S.qc.l+1) } } R) v->Calls prog F #[zP a] v fun o w'=>o=.returned (zI s)/\Y w') :
  Calls prog 228 #[.iface 28 (zP S.p),zP b1,zP b2] w fun o w'=>o=.returned (zI s)/\Y w':=by
 have hv:=xr _ (rfl:S.f (1,0,0)=S.f (1,0,0)) 3 5 6 (by decide) (by decide) hE rfl rfl rfl;rw[aG] at hv;simp only[zS,zZ,if_true] at hv;have HV:=zH hv;have HC:=zH hc;clear hv aG hc;have r0:=hE.rule 1 rfl;have r:=hE.rule 0 rfl;unfold aC at r;go_enter func228,ntmps228;go_wp2_with fail;refine HV.out.mono ?_;rintro o w1 ⟨rfl,ag⟩;replace ag:Env w0 (ae a (aC S.c lv key vs nx 0 x y z W C X wd pf pv)::ae b1 [zP a]::ae b2 [mvL F a]::LT { S with qc:={ S.qc with l:=wrap64 (S.qc.l+1) } } R) w1:=ag;clear HV hE r0 r;have r0:=ag.rule 2 rfl;unfold mvL at r0;go_wp2_with fail;refine (HC.out _ ag).mono ?_;rintro o w6 ⟨rfl,hY⟩;go_wp2_with fail;go_ret;exact⟨rfl,hY⟩
end
def jI (c:Nat) (lv key:Int) (vs:Bool) (nx:Value) (st wd:Int) (pf:Bool) (pv:Int) (L:Lm):List Value:=aC c lv key vs nx st L.p.1 L.p.2.1 L.p.2.2 L.W L.C L.X wd pf pv
def iS (pc:Nat):Nat:=if pc=0 then 192 else if pc=3 then 238 else if pc=5 then 247 else if pc=6 then 248 else 253
def gS (pc:Nat):Nat:=if pc=2 then 210 else if pc=4 then 244 else if pc=7 then 252 else 254
theorem tU (pc:Nat) (ar:Array Value) (v:World):(callFunc (iS pc) ar).run prog v=.ok (.enter (iS pc) ar) v:=by
 unfold iS
 repeat' split
 all_goals kernel_rfl
theorem xA (pc:Nat) (ar:Array Value) (v:World):(callFunc (gS pc) ar).run prog v=.ok (.enter (gS pc) ar) v:=by
 unfold gS
 repeat' split
 all_goals kernel_rfl
def Ah (a pc:Nat) (nx:Value) (B1 B2:Item):Prop:=(isVal pc=false->nx=mvL (iS pc) a)/\(isVal pc=true->∃ b1 b2,nx=gR b1 b2/\B1=ae b1 [zP a]/\B2=ae b2 [mvL (gS pc) a])
def iu (s:Int) (L:Lm):Bool:=if s=1 then L.fd else false
def iw (s:Int) (L:Lm):Int:=if s=1 then L.V else 0
def eD (w0:World) (R:List Item) (a:Nat) (lv key:Int) (vs:Bool) (S:ST) (s:Int) (L:Lm) (w:World):Prop :=
 ∃ nx wd B1 B2,(s=0->Ah a L.pc nx B1 B2/\(L.pc=7->wd=L.K)/\(L.pc=9->wd=L.V))/\Env w0 (ae a (jI S.c lv key vs nx s wd (iu s L) (iw s L) L)::B1::B2::LT S R) w
def j2 (L:Lm) (f:aI->Int) (q:bN):bN:=if L.pc=5 then dE q (decide (f L.p=L.W)) else { q with l:=wrap64 (q.l+1) }
def dB (lv key:Int) (vs:Bool) (S:ST) (L:Lm) (G:Nat->Prop):ST:={ S with G:=G,f:=(aF lv key vs S.ce L S.f).2.2,qc:=j2 L S.f S.qc,m:=if L.pc=5 then S.m+1 else S.m,cr:=cU S.ce L S.f S.cr }
theorem vq {C n:Int} (h:0<=C/\C<=8388607) (hn:0<=n/\n<=2000000):Wf (5,C,n):=by unfold Wf In64;simp;omega
theorem jv (L:Lm) (v:Int):rU L v=(cS v,{ L with W:=v,X:=0,C:=aA v,pc:=3 }):=rfl
section
variable {w0 w:World} {R:List Item} {a:Nat} {S:ST} {lv key:Int} {vs:Bool} {L:Lm}
theorem eD.came {nx:Value} {v wd:Int} {B1 B2:Item} {L':Lm} (hl:L'={ L with W:=v,X:=0,C:=aA v,pc:=3 }) (bw:L.fd=false) (hv:L.V=0) (bo:aA v≠0->nx=mvL 238 a) (hE:Env w0 (ae a (aC S.c lv key vs nx (cS v) L.p.1 L.p.2.1 L.p.2.2 v (aA v) 0 wd false 0)::B1::B2::LT S R) w):eD w0 R a lv key vs S (cS v) L' w:=by
 subst hl;refine⟨nx,wd,B1,B2,fun hs=>⟨⟨fun _=>bo ?_,fun h=>absurd h (by simp[isVal])⟩,fun h=>absurd h (by simp),fun h=>absurd h (by simp)⟩,?_⟩
 ·intro h;rw[cS,if_pos h] at hs;exact absurd hs (by decide)
 ·have h1:iu (cS v) { L with W:=v,X:=0,C:=aA v,pc:=3 }=false:=by unfold iu;split;exact bw;rfl
  have h2:iw (cS v) { L with W:=v,X:=0,C:=aA v,pc:=3 }=0:=by unfold iw;split;exact hv;rfl
  rw[h1,h2];exact hE
end
def kC:Item where
 F:=fun _=>False
 says:=fun _=>True
 loc:=fun _ _ _ _ _=>trivial
section
variable {w0 w:World} {L:List Item} {x:Item}
theorem Env.none1 (h:Env w0 L w):Env w0 (kC::L) w:=h.add kC (Below.refl _ _) trivial fun k hk=>absurd hk (by simp[kC])
theorem Env.none2 (h:Env w0 (x::L) w):Env w0 (x::kC::kC::L) w:=h.none1.none1.perm (List.perm_middle (l₁:=[kC,kC]))
end
section
variable {w0 w:World} {R:List Item} {a:Nat} {S:ST} {lv key:Int} {vs:Bool} {L:Lm}
theorem KL (ax:L.pc=0) (hL:eJ L) (aH:0<=lv/\lv<=1000000) (aZ:Wf L.p) (hg:bE w0) (hm:S.m < maxLen) (h:eD w0 R a lv key vs S 0 L w) :
  Calls prog 173 #[zP a,.iface 28 (zP S.p)] w fun o w'=>o=.returned (zI (aF lv key vs S.ce L S.f).1)/\∃ G',eD w0 R a lv key vs (dB lv key vs S L G') (aF lv key vs S.ce L S.f).1 (aF lv key vs S.ce L S.f).2.1 w':=by
 obtain⟨nx,wd,B1,B2,hn,hE⟩:=h;obtain⟨⟨bo,-⟩,-,-⟩:=hn rfl;have bo:=bo (by rw[ax];rfl);rw[ax] at bo;have hV:L.V=0:=hL.v (by omega);have hM:aF lv key vs S.ce L S.f=(0,{ L with W:=S.f L.p,pc:=2 },S.f):=by simp[aF,ax]
 have hS:∀ G,dB lv key vs S L G={ S with G:=G,qc:={ S.qc with l:=wrap64 (S.qc.l+1) } }:=fun G=>by simp[dB,j2,cU,hM,ax,isVal]
 rw[hM];have ix:w.cell? ⟨a,4,none⟩=some (mvL (iS 0) a):=by rw[hE.rule 0 rfl 4,<- bo];rfl
 have iy:w.cell? ⟨a,5,none⟩=some (zI 0):=hE.rule 0 rfl 5;refine tT (iS 0) (tU 0) _ _ ix iy ?_;refine (Kx (S.f L.p) rfl aZ (hE.sub (.cons_cons _ (.cons _ (.cons _ (List.Sublist.refl _)))))).mono ?_;rintro o w1 ⟨rfl,b1,b2,ag⟩;refine⟨0,rfl,rfl,S.G,?_⟩;rw[hS];exact⟨gR b1 b2,wd,_,_,fun _=>⟨⟨fun h=>absurd h (by simp[isVal]),fun _=>⟨b1,b2,rfl,rfl,rfl⟩⟩,fun h=>absurd h (by simp),fun h=>absurd h (by simp)⟩,ag⟩
theorem KM (ax:L.pc=3) (hL:eJ L) (aH:0<=lv/\lv<=1000000) (aZ:Wf L.p) (hg:bE w0) (hm:S.m < maxLen) (h:eD w0 R a lv key vs S 0 L w) :
  Calls prog 173 #[zP a,.iface 28 (zP S.p)] w fun o w'=>o=.returned (zI (aF lv key vs S.ce L S.f).1)/\∃ G',eD w0 R a lv key vs (dB lv key vs S L G') (aF lv key vs S.ce L S.f).1 (aF lv key vs S.ce L S.f).2.1 w':=by
 obtain⟨nx,wd,B1,B2,hn,hE⟩:=h;obtain⟨⟨bo,-⟩,-,-⟩:=hn rfl;have bo:=bo (by rw[ax];rfl);rw[ax] at bo;have hV:L.V=0:=hL.v (by omega);have hM:aF lv key vs S.ce L S.f=(0,{ L with X:=S.f (5,L.C,7+lv),pc:=4 },S.f):=by simp[aF,ax]
 have hS:∀ G,dB lv key vs S L G={ S with G:=G,qc:={ S.qc with l:=wrap64 (S.qc.l+1) } }:=fun G=>by simp[dB,j2,cU,hM,ax,isVal]
 rw[hM];have ix:w.cell? ⟨a,4,none⟩=some (mvL (iS 3) a):=by rw[hE.rule 0 rfl 4,<- bo];rfl
 have iy:w.cell? ⟨a,5,none⟩=some (zI 0):=hE.rule 0 rfl 5;refine tT (iS 3) (tU 3) _ _ ix iy ?_;refine (Ky aH (S.f (5,L.C,7+lv)) rfl (vq hL.C (by omega)) (hE.sub (.cons_cons _ (.cons _ (.cons _ (List.Sublist.refl _)))))).mono ?_;rintro o w1 ⟨rfl,b1,b2,ag⟩;refine⟨0,rfl,rfl,S.G,?_⟩;rw[hS];exact⟨gR b1 b2,wd,_,_,fun _=>⟨⟨fun h=>absurd h (by simp[isVal]),fun _=>⟨b1,b2,rfl,rfl,rfl⟩⟩,fun h=>absurd h (by simp),fun h=>absurd h (by simp)⟩,ag⟩
theorem KN (ax:L.pc=6) (hL:eJ L) (aH:0<=lv/\lv<=1000000) (aZ:Wf L.p) (hg:bE w0) (hm:S.m < maxLen) (h:eD w0 R a lv key vs S 0 L w) :
  Calls prog 173 #[zP a,.iface 28 (zP S.p)] w fun o w'=>o=.returned (zI (aF lv key vs S.ce L S.f).1)/\∃ G',eD w0 R a lv key vs (dB lv key vs S L G') (aF lv key vs S.ce L S.f).1 (aF lv key vs S.ce L S.f).2.1 w':=by
 obtain⟨nx,wd,B1,B2,hn,hE⟩:=h;obtain⟨⟨bo,-⟩,-,-⟩:=hn rfl;have bo:=bo (by rw[ax];rfl);rw[ax] at bo;have hV:L.V=0:=hL.v (by omega);have hM:aF lv key vs S.ce L S.f=(0,{ L with K:=S.f (5,L.C,3),pc:=7 },S.f):=by simp[aF,ax]
 have hS:∀ G,dB lv key vs S L G={ S with G:=G,qc:={ S.qc with l:=wrap64 (S.qc.l+1) } }:=fun G=>by simp[dB,j2,cU,hM,ax,isVal]
 rw[hM];have ix:w.cell? ⟨a,4,none⟩=some (mvL (iS 6) a):=by rw[hE.rule 0 rfl 4,<- bo];rfl
 have iy:w.cell? ⟨a,5,none⟩=some (zI 0):=hE.rule 0 rfl 5;refine tT (iS 6) (tU 6) _ _ ix iy ?_;refine (Kz (S.f (5,L.C,3)) rfl (vq hL.C (by omega)) (hE.sub (.cons_cons _ (.cons _ (.cons _ (List.Sublist.refl _)))))).mono ?_;rintro o w1 ⟨rfl,b1,b2,ag⟩;refine⟨0,rfl,rfl,S.G,?_⟩;rw[hS];exact⟨gR b1 b2,S.f (5,L.C,3),_,_,fun _=>⟨⟨fun h=>absurd h (by simp[isVal]),fun _=>⟨b1,b2,rfl,rfl,rfl⟩⟩,fun _=>rfl,fun h=>absurd h (by simp)⟩,ag⟩
theorem KO (ax:L.pc=8) (hL:eJ L) (aH:0<=lv/\lv<=1000000) (aZ:Wf L.p) (hg:bE w0) (hm:S.m < maxLen) (h:eD w0 R a lv key vs S 0 L w) :
  Calls prog 173 #[zP a,.iface 28 (zP S.p)] w fun o w'=>o=.returned (zI (aF lv key vs S.ce L S.f).1)/\∃ G',eD w0 R a lv key vs (dB lv key vs S L G') (aF lv key vs S.ce L S.f).1 (aF lv key vs S.ce L S.f).2.1 w':=by
 obtain⟨nx,wd,B1,B2,hn,hE⟩:=h;obtain⟨⟨bo,-⟩,-,-⟩:=hn rfl;have bo:=bo (by rw[ax];rfl);rw[ax] at bo;have hV:L.V=0:=hL.v (by omega);have hM:aF lv key vs S.ce L S.f=(0,{ L with V:=S.f (5,L.C,4),pc:=9 },S.f):=by simp[aF,ax]
 have hS:∀ G,dB lv key vs S L G={ S with G:=G,qc:={ S.qc with l:=wrap64 (S.qc.l+1) } }:=fun G=>by simp[dB,j2,cU,hM,ax,isVal]
 rw[hM];have ix:w.cell? ⟨a,4,none⟩=some (mvL (iS 8) a):=by rw[hE.rule 0 rfl 4,<- bo];rfl
 have iy:w.cell? ⟨a,5,none⟩=some (zI 0):=hE.rule 0 rfl 5;refine tT (iS 8) (tU 8) _ _ ix iy ?_;refine (KA (S.f (5,L.C,4)) rfl (vq hL.C (by omega)) (hE.sub (.cons_cons _ (.cons _ (.cons _ (List.Sublist.refl _)))))).mono ?_;rintro o w1 ⟨rfl,b1,b2,ag⟩;refine⟨0,rfl,rfl,S.G,?_⟩;rw[hS];exact⟨gR b1 b2,S.f (5,L.C,4),_,_,fun _=>⟨⟨fun h=>absurd h (by simp[isVal]),fun _=>⟨b1,b2,rfl,rfl,rfl⟩⟩,fun h=>absurd h (by simp),fun _=>rfl⟩,ag⟩
theorem KP (ax:L.pc=5) (hL:eJ L) (aH:0<=lv/\lv<=1000000) (aZ:Wf L.p) (hg:bE w0) (hm:S.m < maxLen) (h:eD w0 R a lv key vs S 0 L w) :
  Calls prog 173 #[zP a,.iface 28 (zP S.p)] w fun o w'=>o=.returned (zI (aF lv key vs S.ce L S.f).1)/\∃ G',eD w0 R a lv key vs (dB lv key vs S L G') (aF lv key vs S.ce L S.f).1 (aF lv key vs S.ce L S.f).2.1 w':=by
 obtain⟨nx,wd,B1,B2,hn,hE⟩:=h;obtain⟨⟨bo,-⟩,-,-⟩:=hn rfl;have bo:=bo (by rw[ax];rfl);rw[ax] at bo;have hV:L.V=0:=hL.v (by omega);have bw:L.fd=false:=hL.fd (by omega);have ix:w.cell? ⟨a,4,none⟩=some (mvL (iS 5) a):=by rw[hE.rule 0 rfl 4,<- bo];rfl
 have iy:w.cell? ⟨a,5,none⟩=some (zI 0):=hE.rule 0 rfl 5;have dv:Env w0 (ae a (aC S.c lv key vs nx 0 L.p.1 L.p.2.1 L.p.2.2 L.W L.C L.X wd false 0)::LT S R) w:=(hE.sub (.cons_cons _ (.cons _ (.cons _ (List.Sublist.refl _)))))
 by_cases heq:S.f L.p=L.W
 ·have hM:aF lv key vs S.ce L S.f=(cS (aP false (aA L.X) S.ce),{ L with W:=aP false (aA L.X) S.ce,X:=0,C:=aA (aP false (aA L.X) S.ce),pc:=3 },swf S.f L.p L.W (aP false (aA L.X) S.ce)):=by simp[aF,ax,heq,jv]
  have hS:∀ G,dB lv key vs S L G={ S with G:=G,f:=swf S.f L.p L.W (aP false (aA L.X) S.ce),qc:=dE S.qc true,m:=S.m+1 }:=fun G=>by simp[dB,j2,cU,hM,ax,isVal,heq]
  rw[hM];refine tT (iS 5) (tU 5) _ _ ix iy ?_;refine (KK heq aZ hL.X hg hm dv).mono ?_;rintro o w1 ⟨rfl,nx,G',bo,ag⟩;refine⟨_,rfl,rfl,G',?_⟩;rw[hS];exact eD.came rfl bw hV bo ag.none2
 ·have hM:aF lv key vs S.ce L S.f=(2,L,swf S.f L.p L.W (aP false (aA L.X) S.ce)):=by simp[aF,ax,heq]
  have hS:∀ G,dB lv key vs S L G={ S with G:=G,f:=swf S.f L.p L.W (aP false (aA L.X) S.ce),qc:=dE S.qc false,m:=S.m+1 }:=fun G=>by simp[dB,j2,cU,hM,ax,isVal,heq]
  rw[hM];refine tT (iS 5) (tU 5) _ _ ix iy ?_;refine (KJ heq aZ hL.X hg hm dv).mono ?_;rintro o w1 ⟨rfl,nx,G',ag⟩;refine⟨_,rfl,rfl,G',?_⟩;rw[hS];exact⟨nx,wd,kC,kC,fun h=>absurd h (by simp),ag.none2⟩
theorem KQ (ax:L.pc=2) (hL:eJ L) (aH:0<=lv/\lv<=1000000) (aZ:Wf L.p) (hg:bE w0) (hm:S.m < maxLen) (h:eD w0 R a lv key vs S 0 L w) :
  Calls prog 173 #[zP a,.iface 28 (zP S.p)] w fun o w'=>o=.returned (zI (aF lv key vs S.ce L S.f).1)/\∃ G',eD w0 R a lv key vs (dB lv key vs S L G') (aF lv key vs S.ce L S.f).1 (aF lv key vs S.ce L S.f).2.1 w':=by
 obtain⟨nx,wd,B1,B2,hn,hE⟩:=h;obtain⟨⟨-,bo⟩,kD,qB⟩:=hn rfl;obtain⟨b1,b2,rfl,rfl,rfl⟩:=bo (by rw[ax];rfl);rw[ax] at hE kD qB;have ix:w.cell? ⟨a,4,none⟩=some (gR b1 b2):=by rw[hE.rule 0 rfl 4];rfl
 have iy:w.cell? ⟨a,5,none⟩=some (zI 0):=hE.rule 0 rfl 5;have dv:Env w0 (ae a (aC S.c lv key vs (gR b1 b2) 0 L.p.1 L.p.2.1 L.p.2.2 L.W L.C L.X wd false 0)::ae b1 [zP a]::ae b2 [mvL (gS 2) a]::LT S R) w:=hE
 by_cases aG:okB (S.f (1,0,0)) S.ce=true
 ·have hS:∀ G,dB lv key vs S L G={ S with G:=G,qc:={ S.qc with l:=wrap64 (S.qc.l+1) } }:=fun G=>by simp[dB,j2,cU,aF,ax,isVal,aG]
  refine qA b1 b2 _ _ ix iy ?_;have eW:∀ (s:Int) (L':Lm),aF lv key vs S.ce L S.f=(s,L',S.f)->(∀ v,Env w0 (ae a (aC S.c lv key vs (gR b1 b2) 0 L.p.1 L.p.2.1 L.p.2.2 L.W L.C L.X wd false 0)::ae b1 [zP a]::ae b2 [mvL (gS 2) a]::LT { S with qc:={ S.qc with l:=wrap64 (S.qc.l+1) } } R) v->Calls prog (gS 2) #[zP a] v fun o w'=>o=.returned (zI s)/\eD w0 R a lv key vs { S with qc:={ S.qc with l:=wrap64 (S.qc.l+1) } } s L' w') ->
    Calls prog 228 #[.iface 28 (zP S.p),zP b1,zP b2] w fun e w'=>∃ s,e=.returned (zI s)/\((.returned (zI s):Ending)=.returned (zI (aF lv key vs S.ce L S.f).1)/\∃ G',eD w0 R a lv key vs (dB lv key vs S L G') (aF lv key vs S.ce L S.f).1 (aF lv key vs S.ce L S.f).2.1 w'):=fun s L' hM hc=>by
   refine (xy (gS 2) (xA 2) aG dv s _ hc).mono ?_;rintro o w1 ⟨rfl,hR⟩;refine⟨s,rfl,?_,S.G,?_⟩
   ·rw[hM]
   ·rw[hM,hS];exact hR
  clear hE hn;have hV:L.V=0:=hL.v (by omega);have bw:L.fd=false:=hL.fd (by omega)
  by_cases bA:cO L.W=true
  ·refine eW 2 L (by simp[aF,eC,ax,aG,bA]) fun v hv=>?_;refine (KB bA hL.W hg hv).mono ?_;rintro o w1 ⟨rfl,nx,ag⟩;exact⟨rfl,nx,wd,_,_,fun h=>absurd h (by simp),ag⟩
  ·have bA:cO L.W=false:=by simpa using bA
   refine eW (cS L.W) { L with W:=L.W,X:=0,C:=aA L.W,pc:=3 } (by simp[aF,eC,ax,aG,bA,jv]) fun v hv=>?_;refine (KC bA hL.W hg hv).mono ?_;rintro o w1 ⟨rfl,nx,bo,ag⟩;exact⟨rfl,eD.came rfl bw hV bo ag⟩
 ·have aG:okB (S.f (1,0,0)) S.ce=false:=by simpa using aG
  have hM:aF lv key vs S.ce L S.f=(2,L,S.f):=by simp[aF,ax,aG]
  have hS:∀ G,dB lv key vs S L G={ S with G:=G,qc:={ S.qc with l:=wrap64 (S.qc.l+1) },cr:=wrap64 (S.cr+1) }:=fun G=>by simp[dB,j2,cU,hM,ax,isVal,aG]
  rw[hM];refine qA b1 b2 _ _ ix iy ?_;refine (xw _ aG dv).mono ?_;rintro o w1 ⟨rfl,nx,ag⟩;refine⟨2,rfl,rfl,S.G,?_⟩;rw[hS];exact⟨nx,wd,_,_,fun h=>absurd h (by simp),ag⟩
theorem KS (ax:L.pc=4) (hL:eJ L) (aH:0<=lv/\lv<=1000000) (aZ:Wf L.p) (hg:bE w0) (hm:S.m < maxLen) (h:eD w0 R a lv key vs S 0 L w) :
  Calls prog 173 #[zP a,.iface 28 (zP S.p)] w fun o w'=>o=.returned (zI (aF lv key vs S.ce L S.f).1)/\∃ G',eD w0 R a lv key vs (dB lv key vs S L G') (aF lv key vs S.ce L S.f).1 (aF lv key vs S.ce L S.f).2.1 w':=by
 obtain⟨nx,wd,B1,B2,hn,hE⟩:=h;obtain⟨⟨-,bo⟩,kD,qB⟩:=hn rfl;obtain⟨b1,b2,rfl,rfl,rfl⟩:=bo (by rw[ax];rfl);rw[ax] at hE kD qB;have ix:w.cell? ⟨a,4,none⟩=some (gR b1 b2):=by rw[hE.rule 0 rfl 4];rfl
 have iy:w.cell? ⟨a,5,none⟩=some (zI 0):=hE.rule 0 rfl 5;have dv:Env w0 (ae a (aC S.c lv key vs (gR b1 b2) 0 L.p.1 L.p.2.1 L.p.2.2 L.W L.C L.X wd false 0)::ae b1 [zP a]::ae b2 [mvL (gS 4) a]::LT S R) w:=hE
 by_cases aG:okB (S.f (1,0,0)) S.ce=true
 ·have hS:∀ G,dB lv key vs S L G={ S with G:=G,qc:={ S.qc with l:=wrap64 (S.qc.l+1) } }:=fun G=>by simp[dB,j2,cU,aF,ax,isVal,aG]
  refine qA b1 b2 _ _ ix iy ?_;have eW:∀ (s:Int) (L':Lm),aF lv key vs S.ce L S.f=(s,L',S.f)->(∀ v,Env w0 (ae a (aC S.c lv key vs (gR b1 b2) 0 L.p.1 L.p.2.1 L.p.2.2 L.W L.C L.X wd false 0)::ae b1 [zP a]::ae b2 [mvL (gS 4) a]::LT { S with qc:={ S.qc with l:=wrap64 (S.qc.l+1) } } R) v->Calls prog (gS 4) #[zP a] v fun o w'=>o=.returned (zI s)/\eD w0 R a lv key vs { S with qc:={ S.qc with l:=wrap64 (S.qc.l+1) } } s L' w') ->
    Calls prog 228 #[.iface 28 (zP S.p),zP b1,zP b2] w fun e w'=>∃ s,e=.returned (zI s)/\((.returned (zI s):Ending)=.returned (zI (aF lv key vs S.ce L S.f).1)/\∃ G',eD w0 R a lv key vs (dB lv key vs S L G') (aF lv key vs S.ce L S.f).1 (aF lv key vs S.ce L S.f).2.1 w'):=fun s L' hM hc=>by
   refine (xy (gS 4) (xA 4) aG dv s _ hc).mono ?_;rintro o w1 ⟨rfl,hR⟩;refine⟨s,rfl,?_,S.G,?_⟩
   ·rw[hM]
   ·rw[hM,hS];exact hR
  clear hE hn;refine eW 0 { L with pc:=if cO L.X then 5 else 6 } (by simp[aF,eC,ax,aG]) fun v hv=>?_;refine (KD hL.X hg hv).mono ?_;rintro o w1 ⟨rfl,ag⟩;cases bA:cO L.X
  ·rw[bA] at ag;exact⟨rfl,_,wd,_,_,fun _=>⟨⟨fun _=>rfl,fun h=>absurd h (by simp[isVal])⟩,fun h=>absurd h (by simp),fun h=>absurd h (by simp)⟩,ag⟩
  ·rw[bA] at ag;exact⟨rfl,_,wd,_,_,fun _=>⟨⟨fun _=>rfl,fun h=>absurd h (by simp[isVal])⟩,fun h=>absurd h (by simp),fun h=>absurd h (by simp)⟩,ag⟩
 ·have aG:okB (S.f (1,0,0)) S.ce=false:=by simpa using aG
  have hM:aF lv key vs S.ce L S.f=(2,L,S.f):=by simp[aF,ax,aG]
  have hS:∀ G,dB lv key vs S L G={ S with G:=G,qc:={ S.qc with l:=wrap64 (S.qc.l+1) },cr:=wrap64 (S.cr+1) }:=fun G=>by simp[dB,j2,cU,hM,ax,isVal,aG]
  rw[hM];refine qA b1 b2 _ _ ix iy ?_;refine (xw _ aG dv).mono ?_;rintro o w1 ⟨rfl,nx,ag⟩;refine⟨2,rfl,rfl,S.G,?_⟩;rw[hS];exact⟨nx,wd,_,_,fun h=>absurd h (by simp),ag⟩
theorem KT (ax:L.pc=7) (hL:eJ L) (aH:0<=lv/\lv<=1000000) (aZ:Wf L.p) (hg:bE w0) (hm:S.m < maxLen) (h:eD w0 R a lv key vs S 0 L w) :
  Calls prog 173 #[zP a,.iface 28 (zP S.p)] w fun o w'=>o=.returned (zI (aF lv key vs S.ce L S.f).1)/\∃ G',eD w0 R a lv key vs (dB lv key vs S L G') (aF lv key vs S.ce L S.f).1 (aF lv key vs S.ce L S.f).2.1 w':=by
 obtain⟨nx,wd,B1,B2,hn,hE⟩:=h;obtain⟨⟨-,bo⟩,kD,qB⟩:=hn rfl;obtain⟨b1,b2,rfl,rfl,rfl⟩:=bo (by rw[ax];rfl);rw[ax] at hE kD qB;have ix:w.cell? ⟨a,4,none⟩=some (gR b1 b2):=by rw[hE.rule 0 rfl 4];rfl
 have iy:w.cell? ⟨a,5,none⟩=some (zI 0):=hE.rule 0 rfl 5;have dv:Env w0 (ae a (aC S.c lv key vs (gR b1 b2) 0 L.p.1 L.p.2.1 L.p.2.2 L.W L.C L.X wd false 0)::ae b1 [zP a]::ae b2 [mvL (gS 7) a]::LT S R) w:=hE
 by_cases aG:okB (S.f (1,0,0)) S.ce=true
 ·have hS:∀ G,dB lv key vs S L G={ S with G:=G,qc:={ S.qc with l:=wrap64 (S.qc.l+1) } }:=fun G=>by simp[dB,j2,cU,aF,ax,isVal,aG]
  refine qA b1 b2 _ _ ix iy ?_;have eW:∀ (s:Int) (L':Lm),aF lv key vs S.ce L S.f=(s,L',S.f)->(∀ v,Env w0 (ae a (aC S.c lv key vs (gR b1 b2) 0 L.p.1 L.p.2.1 L.p.2.2 L.W L.C L.X wd false 0)::ae b1 [zP a]::ae b2 [mvL (gS 7) a]::LT { S with qc:={ S.qc with l:=wrap64 (S.qc.l+1) } } R) v->Calls prog (gS 7) #[zP a] v fun o w'=>o=.returned (zI s)/\eD w0 R a lv key vs { S with qc:={ S.qc with l:=wrap64 (S.qc.l+1) } } s L' w') ->
    Calls prog 228 #[.iface 28 (zP S.p),zP b1,zP b2] w fun e w'=>∃ s,e=.returned (zI s)/\((.returned (zI s):Ending)=.returned (zI (aF lv key vs S.ce L S.f).1)/\∃ G',eD w0 R a lv key vs (dB lv key vs S L G') (aF lv key vs S.ce L S.f).1 (aF lv key vs S.ce L S.f).2.1 w'):=fun s L' hM hc=>by
   refine (xy (gS 7) (xA 7) aG dv s _ hc).mono ?_;rintro o w1 ⟨rfl,hR⟩;refine⟨s,rfl,?_,S.G,?_⟩
   ·rw[hM]
   ·rw[hM,hS];exact hR
  clear hE hn;have hV:L.V=0:=hL.v (by omega);have bw:L.fd=false:=hL.fd (by omega);have jX:wd=L.K:=kD rfl;subst jX
  by_cases aE:L.K < key
  ·refine eW (cS L.X) { L with p:=(5,L.C,7+lv),W:=L.X,X:=0,C:=aA L.X,pc:=3 } (by simp[aF,eC,ax,aG,aE,jv]) fun v hv=>?_;refine (KF aE aH hL.X hg hv).mono ?_;rintro o w1 ⟨rfl,nx,bo,ag⟩;exact⟨rfl,eD.came (L:={ L with p:=(5,L.C,7+lv) }) rfl bw hV bo ag⟩
  ·by_cases heq:L.K=key
   ·cases vs
    ·refine eW 1 { L with fd:=true } (by simp[aF,eC,ax,aG,heq]) fun v hv=>?_;refine (KH heq hv).mono ?_;rintro o w1 ⟨rfl,nx,ag⟩;have h2:iw 1 { L with fd:=true }=0:=hV;refine⟨rfl,nx,L.K,ae b1 [zP a],ae b2 [mvL (gS 7) a],fun h=>absurd h (by simp),?_⟩;rw[h2];exact ag
    ·refine eW 0 { L with fd:=true,pc:=8 } (by simp[aF,eC,ax,aG,heq]) fun v hv=>?_;refine (KG heq hv).mono ?_;rintro o w1 ⟨rfl,ag⟩;exact⟨rfl,_,L.K,_,_,fun _=>⟨⟨fun _=>rfl,fun h=>absurd h (by simp[isVal])⟩,fun h=>absurd h (by simp),fun h=>absurd h (by simp)⟩,ag⟩
   ·refine eW 1 L (by simp[aF,eC,ax,aG,aE,heq]) fun v hv=>?_;refine (KI (by omega) hv).mono ?_;rintro o w1 ⟨rfl,nx,ag⟩;have h1:iu 1 L=false:=bw;have h2:iw 1 L=0:=hV;refine⟨rfl,nx,L.K,ae b1 [zP a],ae b2 [mvL (gS 7) a],fun h=>absurd h (by simp),?_⟩;rw[h1,h2];exact ag
 ·have aG:okB (S.f (1,0,0)) S.ce=false:=by simpa using aG
  have hM:aF lv key vs S.ce L S.f=(2,L,S.f):=by simp[aF,ax,aG]
  have hS:∀ G,dB lv key vs S L G={ S with G:=G,qc:={ S.qc with l:=wrap64 (S.qc.l+1) },cr:=wrap64 (S.cr+1) }:=fun G=>by simp[dB,j2,cU,hM,ax,isVal,aG]
  rw[hM];refine qA b1 b2 _ _ ix iy ?_;refine (xw _ aG dv).mono ?_;rintro o w1 ⟨rfl,nx,ag⟩;refine⟨2,rfl,rfl,S.G,?_⟩;rw[hS];exact⟨nx,wd,_,_,fun h=>absurd h (by simp),ag⟩
theorem KU (ax:L.pc=9) (hL:eJ L) (aH:0<=lv/\lv<=1000000) (aZ:Wf L.p) (hg:bE w0) (hm:S.m < maxLen) (h:eD w0 R a lv key vs S 0 L w) :
  Calls prog 173 #[zP a,.iface 28 (zP S.p)] w fun o w'=>o=.returned (zI (aF lv key vs S.ce L S.f).1)/\∃ G',eD w0 R a lv key vs (dB lv key vs S L G') (aF lv key vs S.ce L S.f).1 (aF lv key vs S.ce L S.f).2.1 w':=by
 obtain⟨nx,wd,B1,B2,hn,hE⟩:=h;obtain⟨⟨-,bo⟩,kD,qB⟩:=hn rfl;obtain⟨b1,b2,rfl,rfl,rfl⟩:=bo (by rw[ax];rfl);rw[ax] at hE kD qB;have ix:w.cell? ⟨a,4,none⟩=some (gR b1 b2):=by rw[hE.rule 0 rfl 4];rfl
 have iy:w.cell? ⟨a,5,none⟩=some (zI 0):=hE.rule 0 rfl 5;have dv:Env w0 (ae a (aC S.c lv key vs (gR b1 b2) 0 L.p.1 L.p.2.1 L.p.2.2 L.W L.C L.X wd false 0)::ae b1 [zP a]::ae b2 [mvL (gS 9) a]::LT S R) w:=hE
 by_cases aG:okB (S.f (1,0,0)) S.ce=true
 ·have hS:∀ G,dB lv key vs S L G={ S with G:=G,qc:={ S.qc with l:=wrap64 (S.qc.l+1) } }:=fun G=>by simp[dB,j2,cU,aF,ax,isVal,aG]
  refine qA b1 b2 _ _ ix iy ?_;have eW:∀ (s:Int) (L':Lm),aF lv key vs S.ce L S.f=(s,L',S.f)->(∀ v,Env w0 (ae a (aC S.c lv key vs (gR b1 b2) 0 L.p.1 L.p.2.1 L.p.2.2 L.W L.C L.X wd false 0)::ae b1 [zP a]::ae b2 [mvL (gS 9) a]::LT { S with qc:={ S.qc with l:=wrap64 (S.qc.l+1) } } R) v->Calls prog (gS 9) #[zP a] v fun o w'=>o=.returned (zI s)/\eD w0 R a lv key vs { S with qc:={ S.qc with l:=wrap64 (S.qc.l+1) } } s L' w') ->
    Calls prog 228 #[.iface 28 (zP S.p),zP b1,zP b2] w fun e w'=>∃ s,e=.returned (zI s)/\((.returned (zI s):Ending)=.returned (zI (aF lv key vs S.ce L S.f).1)/\∃ G',eD w0 R a lv key vs (dB lv key vs S L G') (aF lv key vs S.ce L S.f).1 (aF lv key vs S.ce L S.f).2.1 w'):=fun s L' hM hc=>by
   refine (xy (gS 9) (xA 9) aG dv s _ hc).mono ?_;rintro o w1 ⟨rfl,hR⟩;refine⟨s,rfl,?_,S.G,?_⟩
   ·rw[hM]
   ·rw[hM,hS];exact hR
  clear hE hn;have dC:L.fd=true:=hL.ft (by omega);have jX:wd=L.V:=qB rfl;subst jX;refine eW 1 L (by simp[aF,eC,ax,aG]) fun v hv=>?_;refine (KE hv).mono ?_;rintro o w1 ⟨rfl,nx,ag⟩;have h1:iu 1 L=true:=dC;refine⟨rfl,nx,L.V,ae b1 [zP a],ae b2 [mvL (gS 9) a],fun h=>absurd h (by simp),?_⟩;rw[h1];exact ag
 ·have aG:okB (S.f (1,0,0)) S.ce=false:=by simpa using aG
  have hM:aF lv key vs S.ce L S.f=(2,L,S.f):=by simp[aF,ax,aG]
  have hS:∀ G,dB lv key vs S L G={ S with G:=G,qc:={ S.qc with l:=wrap64 (S.qc.l+1) },cr:=wrap64 (S.cr+1) }:=fun G=>by simp[dB,j2,cU,hM,ax,isVal,aG]
  rw[hM];refine qA b1 b2 _ _ ix iy ?_;refine (xw _ aG dv).mono ?_;rintro o w1 ⟨rfl,nx,ag⟩;refine⟨2,rfl,rfl,S.G,?_⟩;rw[hS];exact⟨nx,wd,_,_,fun h=>absurd h (by simp),ag⟩
theorem KV (hL:eJ L) (aH:0<=lv/\lv<=1000000) (aZ:Wf L.p) (hg:bE w0) (hm:S.m < maxLen) (h:eD w0 R a lv key vs S 0 L w) :
  Calls prog 173 #[zP a,.iface 28 (zP S.p)] w fun o w'=>o=.returned (zI (aF lv key vs S.ce L S.f).1)/\∃ G',eD w0 R a lv key vs (dB lv key vs S L G') (aF lv key vs S.ce L S.f).1 (aF lv key vs S.ce L S.f).2.1 w':=by
 rcases hL.pc with h0 | h0 | h0 | h0 | h0 | h0 | h0 | h0 | h0
 ·exact KL h0 hL aH aZ hg hm h
 ·exact KQ h0 hL aH aZ hg hm h
 ·exact KM h0 hL aH aZ hg hm h
 ·exact KS h0 hL aH aZ hg hm h
 ·exact KP h0 hL aH aZ hg hm h
 ·exact KN h0 hL aH aZ hg hm h
 ·exact KT h0 hL aH aZ hg hm h
 ·exact KO h0 hL aH aZ hg hm h
 ·exact KU h0 hL aH aZ hg hm h
end
section
variable {w0 w:World} {L:List Item}
theorem KW (c:Nat) (x y z lv key:Int) (vs:Bool) (hE:Env w0 L w) :
  Calls prog 172 #[zP c,.agg #[zI x,zI y,zI z,zI 0],zI lv,zU key,.bool vs] w fun o w'=>∃ a,o=.returned (zP a)/\Env w0 (ae a (aC c lv key vs (mvL 192 a) 0 x y z 0 0 0 0 false 0)::L) w':=by
 have cf:=cg;have ag:=hE.box w.heap.size rfl [zI x,zI y,zI z,zI 0] 108;have r0:=ag.rule 0 rfl;have az:=ag.box (w.heap.size+1) (by simp) (aC c lv key vs .nilFunc 0 x y z 0 0 0 0 false 0) 247;have jG:=zH (tS 0 (.func 192) #[zP (w.heap.size+1)] #[] (by simp[aC]) az rfl);clear hE ag az;go_enter func172,ntmps172;go_wp2_with fail;refine jG.out.mono ?_;rintro o w1 ⟨rfl,bM⟩;go_wp2_with fail;go_ret;exact⟨_,rfl,bM.sub (.cons_cons _ (.cons _ (List.Sublist.refl _)))⟩
end
section
variable {w:World} {a c:Nat} {lv key:Int} {vs:Bool} {nx:Value} {st x y z W C X wd:Int} {pf:Bool} {pv:Int}
theorem KX (hb:ao 0 w a (aC c lv key vs nx st x y z W C X wd pf pv)):Calls prog 160 #[zP a] w fun o w'=>o=.returned (.bool pf)/\w'=w:=by
 have r1:=hb.rule;unfold aC at r1;go_enter func160,ntmps160
 go_wp2
 go_ret;exact⟨rfl,rfl⟩
theorem KY (hb:ao 0 w a (aC c lv key vs nx st x y z W C X wd pf pv)):Calls prog 156 #[zP a] w fun o w'=>o=.returned (.agg #[zI C,zI 0])/\Below w.heap.size w w':=by
 have r1:=nK hb.1 hb.rule;unfold aC at r1;go_enter func156,ntmps156
 go_wp2
 exact bodyPost_ret (v:=.agg #[zI C,zI 0]) (by simp[results,results156,go_sem]) rfl ⟨rfl,(Below.refl _ _).alloc (Nat.le_refl _) _⟩
theorem Ai (hb:ao 0 w a (aC c lv key vs nx st x y z W C X wd pf pv)):Calls prog 211 #[zP a] w fun o w'=>o=.returned (.agg #[zI x,zI y,zI z,zI 0])/\Below w.heap.size w w':=by
 have r1:=nK hb.1 hb.rule;unfold aC at r1;go_enter func211,ntmps211
 go_wp2
 exact bodyPost_ret (v:=.agg #[zI x,zI y,zI z,zI 0]) (by simp[results,results211,go_sem]) rfl ⟨rfl,(Below.refl _ _).alloc (Nat.le_refl _) _⟩
theorem KZ (hb:ao 0 w a (aC c lv key vs nx st x y z W C X wd pf pv)):Calls prog 199 #[zP a] w fun o w'=>o=.returned (.agg #[zU W,zI 0,.bool false])/\Below w.heap.size w w':=by
 have r1:=nK hb.1 hb.rule;unfold aC at r1;go_enter func199,ntmps199
 go_wp2
 exact bodyPost_ret (v:=.agg #[zU W,zI 0,.bool false]) (by simp[results,results199,go_sem]) rfl ⟨rfl,(Below.refl _ _).alloc (Nat.le_refl _) _⟩
end
def cvP (b1 b2:Nat):Value:=.func (.func 125) #[] #[zP b1,zP b2]
section
variable {w0 w:World} {L:List Item} {a o:Nat} {vs:List Value}
theorem play_r (m:Nat) (Aj Ak:Fn) (Al Am Ao Aq:Array Value) (hv:o < vs.length) (hE:Env w0 L w) (hm:L[m]?=some (ae a vs)) :
  Calls prog 108 #[.pointer (some ⟨a,o,none⟩),.func Aj Al Am,.func Ak Ao Aq] w fun r w'=>r=.returned (zI 0)/\∃ b1 b2,Env w0 (ae b1 [.func Aj Al Am]::ae b2 [.func Ak Ao Aq]::L.set m (ae a (vs.set o (cvP b1 b2)))) w':=by
 have cf:=cg;have ag:=(hE.box w.heap.size rfl [.func Aj Al Am] 115).box (w.heap.size+1) (by simp) [.func Ak Ao Aq] 164;have jG:=zH (goOn_r (o:=o) (m+2) (.func 125) #[] #[zP w.heap.size,zP (w.heap.size+1)] hv ag hm);clear hE ag hv hm;go_enter func108,ntmps108;go_wp2_with fail;refine jG.out.mono ?_;rintro e w1 ⟨rfl,az⟩;go_wp2_with fail;go_ret;exact⟨rfl,_,_,az.perm (List.Perm.swap _ _ _)⟩
theorem play1_r (X:Nat) (hx:∀ (ar:Array Value) (v:World),(callFunc X ar).run prog v=.ok (.enter X ar) v) (p u q:Value) (Y:Nat) (hy:∀ (ar:Array Value) (v:World),(callFunc Y ar).run prog v=.ok (.enter Y ar) v) (b1 b2:Nat) (Q:Int->World->Prop) (h1:w.cell? ⟨b1,0,none⟩=some (.func (.func X) #[p] #[]))
  (hc:Calls prog X #[p,u] w fun e w1=>∃ s,e=.returned (zI s)/\(s=0->Q 0 w1)/\(s≠0->w1.cell? ⟨b2,0,none⟩=some (.func (.func Y) #[q] #[])/\Calls prog Y #[q,zI s] w1 fun e2 w2=>∃ s2,e2=.returned (zI s2)/\Q s2 w2)) :
  Calls prog 125 #[u,zP b1,zP b2] w fun e w'=>∃ s,e=.returned (zI s)/\Q s w':=by
 have HC:=zH hc;clear hc;go_enter func125,ntmps125;go_wp2_with fail;refine HC.out.mono ?_;rintro e w1 ⟨s,rfl,h0,hn⟩
 by_cases hs:s=0
 ·subst hs;have hq:=h0 rfl;clear h0 hn HC;go_wp2_with fail;go_ret;exact⟨0,rfl,hq⟩
 ·obtain⟨eg,o5⟩:=hn hs;have tE:(s==0)=false:=by simpa using hs
  have oc:=zH o5;clear h0 hn HC o5;go_wp2_with fail;refine oc.out.mono ?_;rintro e2 w2 ⟨s2,rfl,hq⟩;go_wp2_with fail;go_ret;exact⟨s2,rfl,hq⟩
theorem stepP_r (X:Nat) (hx:∀ (ar:Array Value) (v:World),(callFunc X ar).run prog v=.ok (.enter X ar) v) (p u q:Value) (Y:Nat) (hy:∀ (ar:Array Value) (v:World),(callFunc Y ar).run prog v=.ok (.enter Y ar) v) (b1 b2:Nat) (Q:Int->World->Prop) (hn:w.cell? ⟨a,o,none⟩=some (cvP b1 b2)) (hs:w.cell? ⟨a,o+1,none⟩=some (zI 0)) (h1:w.cell? ⟨b1,0,none⟩=some (.func (.func X) #[p] #[]))
  (hc:Calls prog X #[p,u] w fun e w1=>∃ s,e=.returned (zI s)/\(s=0->Q 0 w1)/\(s≠0->w1.cell? ⟨b2,0,none⟩=some (.func (.func Y) #[q] #[])/\Calls prog Y #[q,zI s] w1 fun e2 w2=>∃ s2,e2=.returned (zI s2)/\Q s2 w2)) :
  Calls prog 44 #[.pointer (some ⟨a,o,none⟩),u] w fun e w'=>∃ s,e=.returned (zI s)/\Q s w' :=
 stepCv_r 125 b1 b2 (fun _ _=>by kernel_rfl) u _ hn hs ((play1_r X hx p u q Y hy b1 b2 Q h1 hc).mono fun e w' ⟨s,he,hq⟩=>⟨s,he,s,rfl,hq⟩)
end
def bq (c:Nat) (key:Int) (nx:Value) (st:Int) (g h:Nat) (lv:Int):List Value:=[zP c,zU key,nx,zI st,.slice (some ⟨g,0,none⟩) h h,zI lv]
section
variable {w0 w:World} {L:List Item} {fb g h c:Nat} {key:Int} {nx:Value} {st:Int} {ps:List Value} {l0:Int}
theorem Ea (lv:Nat) (aE:lv < h) (hh:h<=1000) (fe:ps.length=h) (x y z:Int) (hE:Env w0 (ae fb (bq c key nx st g h l0)::ae g ps::L) w) :
  Calls prog 146 #[zP fb,zI (lv:Int),.agg #[zI x,zI y,zI z,zI 0]] w fun o w'=>o=.returned (zI 0)/\∃ b1 b2 a,Env w0 (ae b1 [mvL 173 a]::ae b2 [mvL 174 fb]::ae a (aC c lv key false (mvL 192 a) 0 x y z 0 0 0 0 false 0)::ae fb (bq c key (cvP b1 b2) st g h lv)::ae g (ps.set lv (zP a))::L) w':=by
 have cf:=cg;have ag:=hE.box w.heap.size rfl [zI x,zI y,zI z,zI 0] 108;have r:=ag.rule 1 rfl;unfold bq at r;have f5:=ag.thaw 1 rfl 5 (by simp[bq]);have hP:=ag.put 1 rfl (j:=5) (by simp[bq]) (zI lv);replace hP:Env w0 (ae w.heap.size [zI x,zI y,zI z,zI 0]::ae fb (bq c key nx st g h lv)::ae g ps::L) _:=hP;have xB:(lv:Int) < (h:Int):=by omega
 have fN:(h:Int)<=1000:=by omega
 have kg:∃ u,ps[lv]?=some u:=⟨_,List.getElem?_eq_getElem (by omega)⟩;obtain⟨u,hu⟩:=kg;have HU:=zH hu;have Ar:Hid (lv < ps.length):=zH (by omega);clear hE ag fe hu;go_enter func146,ntmps146;go_wp2_with fail;generalize World.setCell _ _ _=w2 at *;generalize w.heap.size=Y at *;clear r f5;refine Ord3.wp_chain [?_,?_,?_,?_,?_,?_,?_,?_,?_,?_,?_,?_,?_,?_,?_,?_,?_,?_] [15,17] (fun w'=>ao 0 w' Y [zI x,zI y,zI z,zI 0]/\ao 0 w' fb (bq c key nx st g h lv)) (Ord3.Stage fun κs=>[Env w0 (ae Y [zI x,zI y,zI z,zI 0]::ae fb (bq c key nx st g h lv)::ae g ps::L),fun w'=>∃ a,κs.getD 0 undef=zP a/\Env w0 (ae a (aC c lv key false (mvL 192 a) 0 x y z 0 0 0 0 false 0)::ae Y [zI x,zI y,zI z,zI 0]::ae fb (bq c key nx st g h lv)::ae g ps::L) w',fun w'=>∃ a,Env w0 (ae a (aC c lv key false (mvL 192 a) 0 x y z 0 0 0 0 false 0)::ae Y [zI x,zI y,zI z,zI 0]::ae fb (bq c key nx st g h lv)::ae g (ps.set lv (zP a))::L) w']) (by kernel_rfl) (by kernel_rfl) (by kernel_rfl) ⟨hP.drew.get 0 rfl,hP.drew.get 1 rfl⟩ ⟨_,rfl,hP.drew⟩ (fun hT=>?_);rotate_left 18;have af:=zH hT;clear hT
 repeat ((first
  | (focus (refine Ord3.in_value (v:=?_) af.o (by decide) ?_ (by rfl) ?_ ?_;rotate_left 2;(intro w5 hS;have r0:=ao.rule hS.1;have r1:=ao.rule hS.2;unfold bq at r1;go_simp<;>rfl);rotate_right;(focus rfl)))
  | (focus (refine Ord3.in_off af.o (by decide) ?_ (by rfl) ?_;(focus rfl))));try simp only[Act.put,zA,zZ,zS])
 refine Ord3.in_turn (fun u=>∃ q,u=zP q) _ ⟨0,rfl⟩ af.o rfl (by decide) (by rfl) ?_ (Or.inl rfl) (by rfl) ?_ ?_
 ·rfl
 ·rintro w7 eY ⟨P7,dD,bI⟩;cases dD;go_simp;simp only[Ord3.Lands];refine (KW c x y z lv key false bI).mono ?_;rintro o8 w8 ⟨r8,rfl,bn⟩;exact⟨_,rfl,⟨r8,rfl⟩,⟨bn.get 1 rfl,bn.get 2 rfl⟩,_,rfl,r8,rfl,bn⟩
 rintro _ ⟨r9,rfl⟩
 try simp only[Act.put,zA,zZ,zS]
 repeat ((first
  | (focus (refine Ord3.in_value (v:=?_) af.o (by decide) ?_ (by rfl) ?_ ?_;rotate_left 2;(intro w5 hS;have r0:=ao.rule hS.1;have r1:=ao.rule hS.2;unfold bq at r1;go_simp<;>rfl);rotate_right;(focus rfl)))
  | (focus (refine Ord3.in_off af.o (by decide) ?_ (by rfl) ?_;(focus rfl))));try simp only[Act.put,zA,zZ,zS])
 refine Ord3.in_turn (fun u=>u=undef) _ rfl af.o rfl (by decide) (by rfl) ?_ (Or.inr ⟨_,15,[],rfl,by kernel_rfl,by kernel_rfl,rfl⟩) (by rfl) ?_ ?_
 ·rfl
 ·rintro w7 eY ⟨P7,dD,bI⟩;cases dD;obtain⟨a8,he,bI⟩:=bI;cases he;have r:=(bI.rule 3 rfl lv).trans HU.out;have g3:=bI.thaw 3 rfl lv Ar.out;go_simp;simp only[Ord3.Lands];have h9:=bI.put 3 rfl (j:=lv) Ar.out (zP r9);exact⟨trivial,⟨h9.get 1 rfl,h9.get 2 rfl⟩,_,rfl,r9,h9⟩
 rintro _ rfl
 try simp only[Act.put,zA,zZ,zS]
 refine Ord3.in_nil rfl ?_;rintro w9 aL ⟨P9,dW,ai⟩;cases dW;obtain⟨a,ai⟩:=ai;clear af aL hP;have xC:Hid (∀ v,ao 0 v g (ps.set lv (zP a))->v.cell? ⟨g,lv,none⟩=some (zP a)):=zH fun v hv=>by
  rw[hv.rule lv,List.getElem?_set_self Ar.out]
 have ai:=ai.sub (L':=ae a (aC c lv key false (mvL 192 a) 0 x y z 0 0 0 0 false 0)::ae fb (bq c key nx st g h lv)::ae g (ps.set lv (zP a))::L) (.cons_cons _ (.cons _ (List.Sublist.refl _)));go_wp2_with fail;refine Ord3.wp_chain [?_,?_,?_,?_,?_,?_,?_,?_,?_,?_,?_,?_,?_,?_,?_] [13] (fun w'=>(∃ gM,ao 0 w' fb (bq c key gM st g h lv))/\ao 0 w' g (ps.set lv (zP a))) (Ord3.Stage fun κs=>[Env w0 (ae a (aC c lv key false (mvL 192 a) 0 x y z 0 0 0 0 false 0)::ae fb (bq c key nx st g h lv)::ae g (ps.set lv (zP a))::L),fun w'=>∃ b1 b2,Env w0 (ae b1 [mvL 173 a]::ae b2 [mvL 174 fb]::ae a (aC c lv key false (mvL 192 a) 0 x y z 0 0 0 0 false 0)::ae fb (bq c key (cvP b1 b2) st g h lv)::ae g (ps.set lv (zP a))::L) w']) (by kernel_rfl) (by kernel_rfl) (by kernel_rfl) ⟨⟨nx,ai.drew.get 1 rfl⟩,ai.drew.get 2 rfl⟩ ⟨_,rfl,ai.drew⟩ (fun hT=>?_);rotate_left 15;have af:=zH hT;clear hT
 repeat ((first
  | (focus (refine Ord3.in_value (v:=?_) af.o (by decide) ?_ (by rfl) ?_ ?_;rotate_left 2;(intro w5 hS;obtain⟨⟨gM,jJ⟩,K1⟩:=hS;have r1:=ao.rule jJ;have r2:=xC.out _ K1;unfold bq at r1;go_simp<;>rfl);rotate_right;(focus rfl)))
  | (focus (refine Ord3.in_off af.o (by decide) ?_ (by rfl) ?_;(focus rfl))));try simp only[Act.put,zA,zZ,zS])
 refine Ord3.in_turn (fun u=>u=zI 0) _ rfl af.o rfl (by decide) (by rfl) ?_ (Or.inl rfl) (by rfl) ?_ ?_
 ·rfl
 ·rintro w7 eY ⟨P7,dD,bI⟩;cases dD;go_simp;simp only[Ord3.Lands];refine (play_r (o:=2) 1 _ _ _ _ _ _ (by simp[bq]) bI rfl).mono ?_;rintro o8 w8 ⟨rfl,b1,b2,bn⟩;exact⟨_,rfl,rfl,⟨⟨_,bn.get 3 rfl⟩,bn.get 4 rfl⟩,_,rfl,b1,b2,bn⟩
 rintro _ rfl
 try simp only[Act.put,zA,zZ,zS]
 repeat ((first
  | (focus (refine Ord3.in_value (v:=?_) af.o (by decide) ?_ (by rfl) ?_ ?_;rotate_left 2;(intro w5 hS;skip;go_simp<;>rfl);rotate_right;(focus rfl)))
  | (focus (refine Ord3.in_off af.o (by decide) ?_ (by rfl) ?_;(focus rfl))));try simp only[Act.put,zA,zZ,zS])
 refine Ord3.in_nil rfl ?_;rintro w9 aL ⟨P9,dW,ai⟩;cases dW;obtain⟨b1,b2,ai⟩:=ai;clear af aL;go_wp2_with fail;go_ret;exact⟨rfl,b1,b2,a,ai⟩
end
section
variable {w0 w:World} {L:List Item} {fb g h c a:Nat} {key:Int} {nx lx:Value} {st s W C X wd pv x y z:Int} {pf:Bool} {ps:List Value}
theorem K2 (lv:Nat) (h1:1<=lv) (aE:lv < h) (hh:h<=1000) (o6:ps[lv]?=some (zP a)) (i:Nat) (hi:L[i]?=some (ae a (aC c lv key false lx s 4 0 lv W C X wd pf pv))) (hE:Env w0 (ae fb (bq c key nx st g h lv)::ae g ps::L) w) :
  Calls prog 193 #[zP fb] w fun o w'=>o=.returned (.agg #[zI 4,zI 0,zI ((lv:Int) - 1),zI 0])/\Env w0 (ae fb (bq c key nx st g h lv)::ae g ps::L) w':=by
 have ag:=hE.box w.heap.size rfl [zI 0,zI 0,zI 0,zI 0] 108;obtain⟨LL,j3⟩:∃ LL,ae w.heap.size [zI 0,zI 0,zI 0,zI 0]::ae fb (bq c key nx st g h lv)::ae g ps::L=LL:=⟨_,rfl⟩;have lJ:LL[i+3]?=some (ae a (aC c lv key false lx s 4 0 lv W C X wd pf pv)):=by rw[<- j3];exact hi
 have HC:Hid (∀ v,Env w0 LL v->ao 0 v fb (bq c key nx st g h lv)/\v.cell? ⟨g,lv,none⟩=some (zP a)):=zH fun v hv=>by
  subst j3;exact⟨hv.get 1 rfl,(hv.rule 2 rfl lv).trans o6⟩
 have mQ:=zH fun (v:World) (hv:Env w0 LL v)=>Ai (hv.get (i+3) lJ);have xB:(lv:Int) < (h:Int):=by omega
 have fN:(h:Int)<=1000:=by omega
 have ij:wrap64 ((lv:Int) - 1)=(lv:Int) - 1:=df _ (by omega);have gd:IntKind.i64.wrap ((lv:Int) - 1)=(lv:Int) - 1:=by rw[lU];exact ij
 have qC:=zH j3;rw[j3] at ag;clear hE lJ hi o6 j3;go_enter func193,ntmps193;go_wp2_with fail;generalize w.alloc _=w2 at *;generalize w.heap.size=Y at *;refine OrdF.wp_float [?_,?_,?_,?_,?_,?_,?_,?_,?_,?_,?_,OrdF.Ptr,?_] [12] 11 (fun v=>Env w0 LL v) (OrdF.AF w0 [zI 0,zI 0,zI 0,zI 0] (OrdF.Sta [fun N zs=>N=LL/\zs=[zI 0,zI 0,zI 0,zI 0],fun N zs=>N=LL/\zs=[zI 4,zI 0,zI lv,zI 0]])) (by kernel_rfl) (by kernel_rfl) (by kernel_rfl) ag.drew ⟨_,_,⟨_,rfl,rfl,rfl⟩,.inl ⟨rfl,rfl,ag.drew⟩⟩ (fun hT=>?_);rotate_left 12;have af:=zH hT;clear hT
 repeat ((first
  | (focus (refine OrdF.in_value (v:=?_) af.o (by decide) (by decide) ?_ (by rfl) ?_ ?_;rotate_left 2;(intro w5 hS;obtain⟨q1,r2⟩:=HC.out _ hS;have r1:=q1.rule;unfold bq at r1;go_simp<;>rfl);rotate_right;(focus rfl)))
  | (focus (refine OrdF.in_off af.o (by decide) (by decide) ?_ (by rfl) ?_;(focus rfl))));try simp only[Act.put,zA,zZ,zS])
 focus (refine OrdF.in_call (v:=.agg #[zI 4,zI 0,zI lv,zI 0]) (f:=?_) (args:=?_) af.o (by decide) (by decide) ?_ (by rfl) ?_ ?_ ?_;rotate_left 2;(focus rfl);(intro w5 hS;skip;go_simp;constructor<;>rfl);(intro w5 hS;refine (mQ.out _ hS).mono ?_;rintro e w6 ⟨rfl,aj⟩;exact⟨rfl,hS.over aj,fun _ _ h=>lG h aj⟩);(try simp only[Act.put,zA,zZ,zS]))
 repeat ((first
  | (focus (refine OrdF.in_value (v:=?_) af.o (by decide) (by decide) ?_ (by rfl) ?_ ?_;rotate_left 2;(intro w5 hS;skip;go_simp<;>rfl);rotate_right;(focus rfl)))
  | (focus (refine OrdF.in_off af.o (by decide) (by decide) ?_ (by rfl) ?_;(focus rfl))));try simp only[Act.put,zA,zZ,zS])
 refine OrdF.in_float OrdF.Ptr (zP 0) ⟨0,rfl⟩ af.o rfl (by decide) ?_ (by rfl) ?_ ?_
 ·rfl
 ·intro w5 κs5 aN au;go_simp;simp only[Ord3.Lands];exact⟨⟨_,rfl⟩,aN.over ((Below.refl _ _).alloc (Nat.le_refl _) _),au.up _⟩
 rintro _ ⟨V,rfl⟩
 try simp only[Act.put,zA,zZ,zS]
 refine OrdF.in_turn_late (by kernel_rfl) (by decide) (by decide) (fun u=>u=undef) (undef) rfl af.o rfl (by decide) (by rfl) ?_ (.inl rfl) (by rfl) ?_ ?_
 ·rfl
 ·rintro w5 aN ⟨M5,z5,⟨P5,cd,cR⟩,⟨bC,_⟩ | ⟨n5,bC,aB⟩⟩
  ·cases bC
  cases bC;cases cd;obtain⟨rfl,rfl⟩:=cR;have r:=aB.rule 0 rfl;have ff:=aB.thaw 0 rfl;have f0:=ff 0 (by simp);have f1:=ff 1 (by simp);have f2:=ff 2 (by simp);have f3:=ff 3 (by simp);clear ff;go_simp;have aq:=(((aB.put 0 rfl (j:=0) (by simp) (zI 4)).put 0 rfl (j:=1) (by simp) (zI 0)).put 0 rfl (j:=2) (by simp) (zI lv)).put 0 rfl (j:=3) (by simp) (zI 0);exact⟨rfl,aq.sub (.cons _ (List.Sublist.refl _)),_,_,⟨_,rfl,rfl,rfl⟩,.inr ⟨_,rfl,aq⟩⟩
 rintro _ rfl
 try simp only[Act.put,zA,zZ,zS]
 refine OrdF.in_nil rfl (by decide) (by decide) ?_;rintro w5 aN ⟨M5,z5,⟨P5,cd,cR⟩,⟨bC,_⟩ | ⟨n5,bC,aB⟩⟩
 ·cases bC
 cases bC;cases cd;obtain⟨rfl,rfl⟩:=cR;clear af;have h9:=qC.out;subst h9;clear mQ ag aN qC;go_wp2_with fail;refine cG (S:=(Env w0 (ae V [zI 4,zI 0,zI lv,zI 0]::ae Y [zI 0,zI 0,zI 0,zI 0]::ae fb (bq c key nx st g h lv)::ae g ps::L))) (by kernel_rfl) (by kernel_rfl) aB.drew (fun hT=>?_);have af:=zH hT;clear hT
 repeat ((first
  | (refine cH (v:=?_) af.o (by rfl) ?_ ?_;rotate_left;(intro w5 hS;have r0:=hS.rule 0 rfl;have r1:=hS.rule 2 rfl;unfold bq at r1;go_simp<;>rfl))
  | (refine cI af.o (by rfl) ?_)
  | (refine cJ (v:=?_) (f:=?_) (args:=?_) af.o (by rfl) ?_ ?_ ?_;rotate_left 3;(intro w5 hS;have r0:=hS.rule 0 rfl;have r1:=hS.rule 2 rfl;unfold bq at r1;go_simp;constructor<;>rfl);(intro w5 hS;(first | (with_reducible refine kp (xu _ _) ?_ ?_;rfl;exact fun w6 dm=>hS.over dm)))));try simp only[Act.put,zA,zZ,zS])
 refine InText.nil fun w5 aK=>?_;clear af;clear aB;have aq:=aK.sub (L':=ae Y [zI 0,zI 0,zI 0,zI 0]::ae fb (bq c key nx st g h lv)::ae g ps::L) (.cons _ (List.Sublist.refl _));clear aK;have r1:=aq.rule 1 rfl;unfold bq at r1;go_wp2_with fail;refine (xu _ _).mono ?_;rintro o w7 ⟨rfl,hb⟩;replace aq:=aq.over hb;clear hb r1;have r0:=aq.rule 0 rfl;have ff:=aq.thaw 0 rfl;have f0:=ff 0 (by simp);have f1:=ff 1 (by simp);have f2:=ff 2 (by simp);have f3:=ff 3 (by simp);clear ff;have aO:=(((aq.put 0 rfl (j:=0) (by simp) (zI 4)).put 0 rfl (j:=1) (by simp) (zI 0)).put 0 rfl (j:=2) (by simp) (zI ((lv:Int) - 1))).put 0 rfl (j:=3) (by simp) (zI 0);have q:=aO.rule 0 rfl;go_wp2_with fail;exact bodyPost_ret (v:=.agg #[zI 4,zI 0,zI ((lv:Int) - 1),zI 0]) (by simp[results,results193,go_sem,q]) rfl ⟨rfl,aO.sub (.cons _ (List.Sublist.refl _))⟩
theorem K3 (lv:Nat) (h1:1<=lv) (aE:lv < h) (hh:h<=1000) (sl:Int) (o6:ps[lv]?=some (zP a)) (i:Nat) (hi:L[i]?=some (ae a (aC c lv key false lx s 5 sl (7+(lv:Int)) W C X wd pf pv))) (hE:Env w0 (ae fb (bq c key nx st g h lv)::ae g ps::L) w) :
  Calls prog 193 #[zP fb] w fun o w'=>o=.returned (.agg #[zI 5,zI sl,zI (7+(lv:Int) - 1),zI 0])/\Env w0 (ae fb (bq c key nx st g h lv)::ae g ps::L) w':=by
 have ag:=hE.box w.heap.size rfl [zI 0,zI 0,zI 0,zI 0] 108;obtain⟨LL,j3⟩:∃ LL,ae w.heap.size [zI 0,zI 0,zI 0,zI 0]::ae fb (bq c key nx st g h lv)::ae g ps::L=LL:=⟨_,rfl⟩;have lJ:LL[i+3]?=some (ae a (aC c lv key false lx s 5 sl (7+(lv:Int)) W C X wd pf pv)):=by rw[<- j3];exact hi
 have HC:Hid (∀ v,Env w0 LL v->ao 0 v fb (bq c key nx st g h lv)/\v.cell? ⟨g,lv,none⟩=some (zP a)):=zH fun v hv=>by
  subst j3;exact⟨hv.get 1 rfl,(hv.rule 2 rfl lv).trans o6⟩
 have mQ:=zH fun (v:World) (hv:Env w0 LL v)=>Ai (hv.get (i+3) lJ);have xB:(lv:Int) < (h:Int):=by omega
 have fN:(h:Int)<=1000:=by omega
 have ij:wrap64 ((lv:Int) - 1)=(lv:Int) - 1:=df _ (by omega);have gd:IntKind.i64.wrap ((lv:Int) - 1)=(lv:Int) - 1:=by rw[lU];exact ij
 have tR:=zH fun (v:World)=>(show Calls prog 176 #[zI sl,zI ((lv:Int) - 1)] v fun e w'=>e=.returned (.agg #[zI 5,zI sl,zI (7+(lv:Int) - 1)])/\Below v.heap.size v w' by
  have h9:=Af sl ((lv:Int) - 1) v
  rwa [show wrap64 (7+((lv:Int) - 1))=7+(lv:Int) - 1 by rw[df _ (by omega)];omega] at h9)
 obtain⟨zz,jC⟩:∃ zz,7+(lv:Int) - 1=zz:=⟨_,rfl⟩;obtain⟨zt,Eb⟩:∃ zt,7+(lv:Int)=zt:=⟨_,rfl⟩;rw[jC] at tR ⊢;rw[Eb] at mQ;have qC:=zH j3;rw[j3] at ag;clear hE lJ hi o6 j3 jC Eb;go_enter func193,ntmps193;go_wp2_with fail;generalize w.alloc _=w2 at *;generalize w.heap.size=Y at *;refine OrdF.wp_float [?_,?_,?_,?_,?_,?_,?_,?_,?_,?_,?_,OrdF.Ptr,?_] [12] 11 (fun v=>Env w0 LL v) (OrdF.AF w0 [zI 0,zI 0,zI 0,zI 0] (OrdF.Sta [fun N zs=>N=LL/\zs=[zI 0,zI 0,zI 0,zI 0],fun N zs=>N=LL/\zs=[zI 5,zI sl,zI zt,zI 0]])) (by kernel_rfl) (by kernel_rfl) (by kernel_rfl) ag.drew ⟨_,_,⟨_,rfl,rfl,rfl⟩,.inl ⟨rfl,rfl,ag.drew⟩⟩ (fun hT=>?_);rotate_left 12;have af:=zH hT;clear hT
 repeat ((first
  | (focus (refine OrdF.in_value (v:=?_) af.o (by decide) (by decide) ?_ (by rfl) ?_ ?_;rotate_left 2;(intro w5 hS;obtain⟨q1,r2⟩:=HC.out _ hS;have r1:=q1.rule;unfold bq at r1;go_simp<;>rfl);rotate_right;(focus rfl)))
  | (focus (refine OrdF.in_off af.o (by decide) (by decide) ?_ (by rfl) ?_;(focus rfl))));try simp only[Act.put,zA,zZ,zS])
 focus (refine OrdF.in_call (v:=.agg #[zI 5,zI sl,zI zt,zI 0]) (f:=?_) (args:=?_) af.o (by decide) (by decide) ?_ (by rfl) ?_ ?_ ?_;rotate_left 2;(focus rfl);(intro w5 hS;skip;go_simp;constructor<;>rfl);(intro w5 hS;refine (mQ.out _ hS).mono ?_;rintro e w6 ⟨rfl,aj⟩;exact⟨rfl,hS.over aj,fun _ _ h=>lG h aj⟩);(try simp only[Act.put,zA,zZ,zS]))
 repeat ((first
  | (focus (refine OrdF.in_value (v:=?_) af.o (by decide) (by decide) ?_ (by rfl) ?_ ?_;rotate_left 2;(intro w5 hS;skip;go_simp<;>rfl);rotate_right;(focus rfl)))
  | (focus (refine OrdF.in_off af.o (by decide) (by decide) ?_ (by rfl) ?_;(focus rfl))));try simp only[Act.put,zA,zZ,zS])
 refine OrdF.in_float OrdF.Ptr (zP 0) ⟨0,rfl⟩ af.o rfl (by decide) ?_ (by rfl) ?_ ?_
 ·rfl
 ·intro w5 κs5 aN au;go_simp;simp only[Ord3.Lands];exact⟨⟨_,rfl⟩,aN.over ((Below.refl _ _).alloc (Nat.le_refl _) _),au.up _⟩
 rintro _ ⟨V,rfl⟩
 try simp only[Act.put,zA,zZ,zS]
 refine OrdF.in_turn_late (by kernel_rfl) (by decide) (by decide) (fun u=>u=undef) (undef) rfl af.o rfl (by decide) (by rfl) ?_ (.inl rfl) (by rfl) ?_ ?_
 ·rfl
 ·rintro w5 aN ⟨M5,z5,⟨P5,cd,cR⟩,⟨bC,_⟩ | ⟨n5,bC,aB⟩⟩
  ·cases bC
  cases bC;cases cd;obtain⟨rfl,rfl⟩:=cR;have r:=aB.rule 0 rfl;have ff:=aB.thaw 0 rfl;have f0:=ff 0 (by simp);have f1:=ff 1 (by simp);have f2:=ff 2 (by simp);have f3:=ff 3 (by simp);clear ff;go_simp;have aq:=(((aB.put 0 rfl (j:=0) (by simp) (zI 5)).put 0 rfl (j:=1) (by simp) (zI sl)).put 0 rfl (j:=2) (by simp) (zI zt)).put 0 rfl (j:=3) (by simp) (zI 0);exact⟨rfl,aq.sub (.cons _ (List.Sublist.refl _)),_,_,⟨_,rfl,rfl,rfl⟩,.inr ⟨_,rfl,aq⟩⟩
 rintro _ rfl
 try simp only[Act.put,zA,zZ,zS]
 refine OrdF.in_nil rfl (by decide) (by decide) ?_;rintro w5 aN ⟨M5,z5,⟨P5,cd,cR⟩,⟨bC,_⟩ | ⟨n5,bC,aB⟩⟩
 ·cases bC
 cases bC;cases cd;obtain⟨rfl,rfl⟩:=cR;clear af;have h9:=qC.out;subst h9;clear mQ ag aN qC;go_wp2_with fail;refine cG (S:=(Env w0 (ae V [zI 5,zI sl,zI zt,zI 0]::ae Y [zI 0,zI 0,zI 0,zI 0]::ae fb (bq c key nx st g h lv)::ae g ps::L))) (by kernel_rfl) (by kernel_rfl) aB.drew (fun hT=>?_);have af:=zH hT;clear hT
 repeat ((first
  | (refine cH (v:=?_) af.o (by rfl) ?_ ?_;rotate_left;(intro w5 hS;have r0:=hS.rule 0 rfl;have r1:=hS.rule 2 rfl;unfold bq at r1;go_simp<;>rfl))
  | (refine cI af.o (by rfl) ?_)
  | (refine cJ (v:=?_) (f:=?_) (args:=?_) af.o (by rfl) ?_ ?_ ?_;rotate_left 3;(intro w5 hS;have r0:=hS.rule 0 rfl;have r1:=hS.rule 2 rfl;unfold bq at r1;go_simp;constructor<;>rfl);(intro w5 hS;(first | (with_reducible refine kp (xu _ _) ?_ ?_;rfl;exact fun w6 dm=>hS.over dm)))));try simp only[Act.put,zA,zZ,zS])
 refine InText.nil fun w5 aK=>?_;clear af;clear aB;go_wp2_with fail;refine Ord.wc [12] (fun v=>Env w0 (ae V [zI 5,zI sl,zI zt,zI 0]::ae fb (bq c key nx st g h lv)::ae g ps::L) v) (fun k w'=>Env w0 (ae Y (if k=0 then [zI 0,zI 0,zI 0,zI 0] else [zI 5,zI sl,zI zz,zI 0])::ae V [zI 5,zI sl,zI zt,zI 0]::ae fb (bq c key nx st g h lv)::ae g ps::L) w') (aK.drew.sub (.cons_cons _ (.cons _ (List.Sublist.refl _)))) (aK.drew.perm (List.Perm.swap _ _ _)) fun af=>?_
 repeat ((first
  | (refine Ord.cv ?_ af.o ?_ ?_;rotate_left;(intro w5 hS;have r0:=hS.rule 0 rfl;have r1:=hS.rule 1 rfl;unfold bq at r1;go_simp<;>rfl))
  | (refine Ord.co af.o ?_)
  | (refine Ord.cc ?_ ?_ ?_ af.o ?_ ?_ ?_;rotate_left 3;(intro w5 hS;have r0:=hS.rule 0 rfl;have r1:=hS.rule 1 rfl;unfold bq at r1;go_simp;constructor<;>rfl);(intro w5 hS;(first | (with_reducible refine kp (tR.out _) ?_ ?_;rfl;exact fun w6 aj=>⟨hS.over aj,fun _ h=>h.over aj⟩)))));try simp only[Act.put,zA,zZ,zS])
 refine Ord.ch_turn (v:=undef) 0 af.o rfl (by decide) (Or.inl rfl) (by rfl) ?_ ?_
 ·rintro w5 aN au;simp only[if_true] at au;have r0:=au.rule 0 rfl;have ff:=au.thaw 0 rfl;have f0:=ff 0 (by simp);have f1:=ff 1 (by simp);have f2:=ff 2 (by simp);have f3:=ff 3 (by simp);clear ff;go_simp;have aO:=(((au.put 0 rfl (j:=0) (by simp) (zI 5)).put 0 rfl (j:=1) (by simp) (zI sl)).put 0 rfl (j:=2) (by simp) (zI zz)).put 0 rfl (j:=3) (by simp) (zI 0);exact⟨rfl,aO.sub (.cons _ (List.Sublist.refl _)),aO⟩
 try simp only[Act.put,zA,zZ,zS]
 repeat ((first
  | (refine Ord.cv ?_ af.o ?_ ?_;rotate_left;(intro w5 hS;skip;go_simp<;>rfl))
  | (refine Ord.co af.o ?_));try simp only[Act.put,zA,zZ,zS])
 refine Ord.InText.nil fun w5 hS=>?_;clear af;obtain⟨aL,ai⟩:=Ord.chain_end hS;clear hS;simp only[List.length_cons,List.length_nil,Nat.zero_add,Nat.one_ne_zero,if_false] at ai;have q:=ai.rule 0 rfl
 go_wp2
 exact bodyPost_ret (v:=.agg #[zI 5,zI sl,zI zz,zI 0]) (by simp[results,results193,go_sem,q]) rfl ⟨rfl,ai.sub (.cons _ (.cons _ (List.Sublist.refl _)))⟩
end
def r5 {α:Type} (q:Int × α):Prop:=q.1=0\/q.1=1\/q.1=2
theorem Ec (L:Lm) (v:Int):r5 (rU L v):=by
 unfold rU
 by_cases h:aA v=0
 ·simp[h,r5]
 ·simp[h,r5]
theorem K4 (lv key:Int) (vs:Bool) (L:Lm):r5 (eC lv key vs L):=by
 unfold eC
 repeat' split
 all_goals first | exact Ec _ _ | simp[r5]
theorem xD (lv key:Int) (vs:Bool) (e:Int) (L:Lm) (f:aI->Int):(aF lv key vs e L f).1=0\/(aF lv key vs e L f).1=1\/(aF lv key vs e L f).1=2:=by
 show r5 (aF lv key vs e L f);unfold aF
 repeat' split
 all_goals first | exact Ec L (aP false (aA L.X) e) | exact K4 lv key vs L | simp[r5]
theorem eJ.come {L:Lm} (hL:eJ L) (h7:L.pc<=7) (v:Int) (hv:aD v):eJ { L with W:=v,X:=0,C:=aA v,pc:=3 } :=
 ⟨by simp,fun _=>hL.v (by omega),fun _=>hL.fd h7,fun h=>absurd h (by simp),fun _=>rfl,fun h=>absurd h (by simp),hv,by simp[aD],nV v⟩
theorem K5 {lv key:Int} {vs:Bool} {e:Int} {L:Lm} {f:aI->Int} (hL:eJ L) (hW:∀ x,aD (f x)) (hp:Wf L.p) (aH:0<=lv/\lv<=1000000) (h0:(aF lv key vs e L f).1=0):eJ (aF lv key vs e L f).2.1/\Wf (aF lv key vs e L f).2.1.p:=by
 have S8:L.pc<=9:=by rcases hL.pc with h | h | h | h | h | h | h | h | h<;>omega
 rcases hL.pc with ax | ax | ax | ax | ax | ax | ax | ax | ax
 ·have hM:aF lv key vs e L f=(0,{ L with W:=f L.p,pc:=2 },f):=by simp[aF,ax]
  rw[hM];exact⟨⟨by simp,fun _=>hL.v (by omega),fun _=>hL.fd (by omega),fun h=>absurd h (by simp),fun _=>hL.x (by omega),fun _=>hL.c0 (by omega),hW _,hL.X,hL.C⟩,hp⟩
 ·by_cases aG:okB (f (1,0,0)) e=true
  ·by_cases bA:cO L.W=true
   ·have hM:aF lv key vs e L f=(2,L,f):=by simp[aF,eC,ax,aG,bA]
    rw[hM] at h0;exact absurd h0 (by simp)
   ·have hM:aF lv key vs e L f=(cS L.W,{ L with W:=L.W,X:=0,C:=aA L.W,pc:=3 },f):=by simp[aF,eC,ax,aG,bA,jv]
    rw[hM];exact⟨hL.come (by omega) _ hL.W,hp⟩
  ·have hM:aF lv key vs e L f=(2,L,f):=by simp[aF,ax,aG]
   rw[hM] at h0;exact absurd h0 (by simp)
 ·have hM:aF lv key vs e L f=(0,{ L with X:=f (5,L.C,7+lv),pc:=4 },f):=by simp[aF,ax]
  rw[hM];exact⟨⟨by simp,fun _=>hL.v (by omega),fun _=>hL.fd (by omega),fun h=>absurd h (by simp),fun h=>absurd h (by simp),fun h=>absurd h (by simp),hL.W,hW _,hL.C⟩,hp⟩
 ·by_cases aG:okB (f (1,0,0)) e=true
  ·have hM:aF lv key vs e L f=(0,{ L with pc:=if cO L.X then 5 else 6 },f):=by simp[aF,eC,ax,aG]
   rw[hM];cases cO L.X
   ·exact⟨⟨by simp,fun _=>hL.v (by omega),fun _=>hL.fd (by omega),fun h=>absurd h (by simp),fun h=>absurd h (by simp),fun h=>absurd h (by simp),hL.W,hL.X,hL.C⟩,hp⟩
   ·exact⟨⟨by simp,fun _=>hL.v (by omega),fun _=>hL.fd (by omega),fun h=>absurd h (by simp),fun h=>absurd h (by simp),fun h=>absurd h (by simp),hL.W,hL.X,hL.C⟩,hp⟩
  ·have hM:aF lv key vs e L f=(2,L,f):=by simp[aF,ax,aG]
   rw[hM] at h0;exact absurd h0 (by simp)
 ·by_cases heq:f L.p=L.W
  ·have hM:aF lv key vs e L f=(cS (aP false (aA L.X) e),{ L with W:=aP false (aA L.X) e,X:=0,C:=aA (aP false (aA L.X) e),pc:=3 },swf f L.p L.W (aP false (aA L.X) e)):=by simp[aF,ax,heq,jv]
   rw[hM];exact⟨hL.come (by omega) _ (kN _ _ _),hp⟩
  ·have hM:aF lv key vs e L f=(2,L,swf f L.p L.W (aP false (aA L.X) e)):=by simp[aF,ax,heq]
   rw[hM] at h0;exact absurd h0 (by simp)
 ·have hM:aF lv key vs e L f=(0,{ L with K:=f (5,L.C,3),pc:=7 },f):=by simp[aF,ax]
  rw[hM];exact⟨⟨by simp,fun _=>hL.v (by omega),fun _=>hL.fd (by omega),fun h=>absurd h (by simp),fun h=>absurd h (by simp),fun h=>absurd h (by simp),hL.W,hL.X,hL.C⟩,hp⟩
 ·by_cases aG:okB (f (1,0,0)) e=true
  ·by_cases aE:L.K < key
   ·have hM:aF lv key vs e L f=(cS L.X,{ L with p:=(5,L.C,7+lv),W:=L.X,X:=0,C:=aA L.X,pc:=3 },f):=by simp[aF,eC,ax,aG,aE,jv]
    rw[hM];have Au:eJ { L with p:=(5,L.C,7+lv) }:=⟨hL.pc,hL.v,hL.fd,hL.ft,hL.x,hL.c0,hL.W,hL.X,hL.C⟩;exact⟨Au.come (by show L.pc<=7;omega) _ hL.X,vq hL.C (by omega)⟩
   ·by_cases heq:L.K=key
    ·cases vs
     ·have hM:aF lv key false e L f=(1,{ L with fd:=true },f):=by simp[aF,eC,ax,aG,heq]
      rw[hM] at h0;exact absurd h0 (by simp)
     ·have hM:aF lv key true e L f=(0,{ L with fd:=true,pc:=8 },f):=by simp[aF,eC,ax,aG,heq]
      rw[hM];exact⟨⟨by simp,fun _=>hL.v (by omega),fun h=>absurd h (by simp),fun _=>rfl,fun h=>absurd h (by simp),fun h=>absurd h (by simp),hL.W,hL.X,hL.C⟩,hp⟩
    ·have hM:aF lv key vs e L f=(1,L,f):=by simp[aF,eC,ax,aG,aE,heq]
     rw[hM] at h0;exact absurd h0 (by simp)
  ·have hM:aF lv key vs e L f=(2,L,f):=by simp[aF,ax,aG]
   rw[hM] at h0;exact absurd h0 (by simp)
 ·have hM:aF lv key vs e L f=(0,{ L with V:=f (5,L.C,4),pc:=9 },f):=by simp[aF,ax]
  rw[hM];exact⟨⟨by simp,fun h=>absurd h (by simp),fun h=>absurd h (by simp),fun _=>hL.ft (by omega),fun h=>absurd h (by simp),fun h=>absurd h (by simp),hL.W,hL.X,hL.C⟩,hp⟩
 ·by_cases aG:okB (f (1,0,0)) e=true
  ·have hM:aF lv key vs e L f=(1,L,f):=by simp[aF,eC,ax,aG]
   rw[hM] at h0;exact absurd h0 (by simp)
  ·have hM:aF lv key vs e L f=(2,L,f):=by simp[aF,ax,aG]
   rw[hM] at h0;exact absurd h0 (by simp)
theorem cm {L L':List Item} (h:∀ [BEq Item] [LawfulBEq Item] (z:Item),L.count z=L'.count z):L.Perm L':=by
 classical
 exact List.perm_iff_count.2 fun z=>h z
theorem Env.mem {w0 w:World} {L:List Item} (h:Env w0 L w) {a:Item} (ha:a∈L):a.says w:=(h.2.2 a ha).1
end
end Go.Proofs.YtleklonmmlfijaaGreatDoor
namespace Go.Proofs.YtleklonmmlfijaaGreatDoor.Ord
section
open Go
section
variable {P:Program} {ops:Array Oper} {Q:Exit->Act->World->Prop} {md:Region.Mode} {C:World->Prop} {A:Nat->World->Prop} {ps:List Nat}
theorem ch2_earlyp (m:Nat) (path:List Nat) {p:Nat} {k:Nat} {o:Oper} {rest:List Oper} {a:Act} {v:Value} (hf:dK md ops=true) (hk:k ∉ ps) (hp:ps[m]?=some p) (rm:oF md ops (p::path)=true) (rn:(p::path).getLast?=some k) (lq:k < ops.size) (hw:Region.wanted o (yielded ops a.tmps)=true)
  (hv:∀ w j,j<=m->C w->A j w->(execOp a.eval o).run P w=.ok (.value v) w)
  (h:InText P md ops Q (nC md ops ps C A) (k+1) rest (a.put o.dst v)):InText P md ops Q (nC md ops ps C A) k (o::rest) a :=
 InText.cons hf (Or.inl ⟨hw,fun l w hr hS=>by
  obtain⟨hc,hS⟩:=hS;have gF:=hS;obtain⟨hs,hC,j,hj,hl,hA⟩:=hS;have lu:j<=m:=by
   rcases Nat.lt_or_ge m j with aE | kg
   ·exfalso
    have h1:=hl m p hp;have h2:l.getD p false=true:=by rw[h1.2];simpa using aE
    have h0:l.getD k true=false:=(mem_ready.1 hr).1;have h4:=hc.path path p rm h2 k rn;rw[Array.getD_eq_getD_getElem?] at h4 h0;have gy:k < l.size:=by rw[hs];exact lq
    simp[gy] at h4 h0;rw[h0] at h4;cases h4
   ·exact kg
  rw[hv w j lu hC hA];exact⟨rfl,hc.set hr,kh hk gF hC fun _ h=>h⟩⟩) h
end
end
end Go.Proofs.YtleklonmmlfijaaGreatDoor.Ord
