/- What is proved on the way to the statement, part 9: contracts of the functions, among other things in memory. -/
import Derived.Test.YtleklonmmlfijaaGreatDoorQ8
import Derived.LoopIn
import Derived.Shelf.SlSortCmp.Insertion
import Derived.Sort.Statements

open _root_.Go.Proofs.Tryz
set_option maxRecDepth 100000
set_option maxHeartbeats 25600000
namespace Go.Proofs.YtleklonmmlfijaaGreatDoor
section
open Go.RowKit Go.Maps
section
variable {w0 w:World} {R:List Item} {b:Nat} {U:SU} {h n r ok key val lv:Int}
theorem LM (x y:Int) (t:List bF) (bU:U.ql=(x,y,0)::t) (hl:t.length<=1000000) (part word:Int) (gm:(cX U.ck U.ce key val (IntKind.u64.wrap lv))[0]?=some (part,word)) (he:0<=U.ce/\U.ce<=9223372036854775807) (aQ:U.ml.length<=1000000) (hh:aD h) (hE:Env w0 (ae b (aM 10 h n r)::LU U R) w) :
  Calls prog 67 #[zP b,zP U.u,zP U.m,.agg #[zI ok,zU key,zU val,zI lv]] w fun o w'=>o=.returned (zI (eF 0 (cX U.ck U.ce key val (IntKind.u64.wrap lv)).length))/\∃ F5 A' c',Env w0 (ae b (aM 11 h n r)::LU { U with F:=F5,ml:=cM U.ml (5,x,part) word,hs:=x,ql:=t,A:=A',c:=c' } R) w':=by
 have ag:=(hE.box w.heap.size rfl [zI ok,zU key,zU val,zI lv] 55).perm (L':=ae b (aM 10 h n r)::LU U (ae w.heap.size [zI ok,zU key,zU val,zI lv]::R)) (List.perm_middle (l₁:=[ae b (aM 10 h n r),_,_,_])).symm;have rb:=ag.rule 0 rfl;unfold aM at rb;have jc:=zH (fun (v:World)=>iG h hh v);have AH:Hid (∀ v,Env w0 (ae b (aM 10 h n r)::LU U (ae w.heap.size [zI ok,zU key,zU val,zI lv]::R)) v->Calls prog 94 #[zP b,zP U.u,zP U.m,.agg #[zI ok,zU key,zU val,zI lv]] v fun o w'=>o=.returned (zI (eF 0 (cX U.ck U.ce key val (IntKind.u64.wrap lv)).length))/\∃ F5 A' c',Env w0 (ae b (aM 11 h n r)::LU { U with F:=F5,ml:=cM U.ml (5,x,part) word,hs:=x,ql:=t,A:=A',c:=c' } (ae w.heap.size [zI ok,zU key,zU val,zI lv]::R)) w'):=zH fun v hv=>Ku x y t bU hl part word gm he aQ hv;clear hE gm he;go_enter func67,ntmps67;go_wp2_with fail;generalize w.alloc _=w1 at *;generalize w.heap.size=O at *;refine (jc.out _).mono ?_;rintro o w2 ⟨rfl,hb⟩;replace ag:=ag.over hb;clear hb rb;have rb:=ag.rule 0 rfl;unfold aM at rb;have rO:=ag.rule 4 rfl;go_wp2_with fail;refine (AH.out _ ag).mono ?_;rintro o w3 ⟨rfl,F5,A5,c5,aB⟩;go_wp2_with fail;go_ret;exact⟨rfl,F5,A5,c5,aB.sub (.cons_cons _ (.cons_cons _ (.cons_cons _ (.cons_cons _ (.cons _ (List.Sublist.refl _))))))⟩
theorem LN (kk:Nat) (mO:0 < kk) (part word:Int) (gm:(cX U.ck U.ce key val (IntKind.u64.wrap lv))[kk]?=some (part,word)) (he:0<=U.ce/\U.ce<=9223372036854775807) (aQ:U.ml.length<=1000000) (hh:aD h) (hE:Env w0 (ae b (aM (10+(kk:Int)) h n r)::LU U R) w) :
  Calls prog 67 #[zP b,zP U.u,zP U.m,.agg #[zI ok,zU key,zU val,zI lv]] w fun o w'=>o=.returned (zI (eF kk (cX U.ck U.ce key val (IntKind.u64.wrap lv)).length))/\∃ F5,Env w0 (ae b (aM (10+(kk:Int)+1) h n r)::LU { U with F:=F5,ml:=cM U.ml (5,U.hs,part) word } R) w':=by
 have ag:=(hE.box w.heap.size rfl [zI ok,zU key,zU val,zI lv] 55).perm (L':=ae b (aM (10+(kk:Int)) h n r)::LU U (ae w.heap.size [zI ok,zU key,zU val,zI lv]::R)) (List.perm_middle (l₁:=[ae b (aM (10+(kk:Int)) h n r),_,_,_])).symm;have rb:=ag.rule 0 rfl;unfold aM at rb;have jc:=zH (fun (v:World)=>iG h hh v);have AH:Hid (∀ v,Env w0 (ae b (aM (10+(kk:Int)) h n r)::LU U (ae w.heap.size [zI ok,zU key,zU val,zI lv]::R)) v->Calls prog 94 #[zP b,zP U.u,zP U.m,.agg #[zI ok,zU key,zU val,zI lv]] v fun o w'=>o=.returned (zI (eF kk (cX U.ck U.ce key val (IntKind.u64.wrap lv)).length))/\∃ F5,Env w0 (ae b (aM (10+(kk:Int)+1) h n r)::LU { U with F:=F5,ml:=cM U.ml (5,U.hs,part) word } (ae w.heap.size [zI ok,zU key,zU val,zI lv]::R)) w'):=zH fun v hv=>Ks kk mO part word gm he aQ hv;have hk:∀ j:Int,0<=j->j < 7->((10+(kk:Int))==j)=false:=fun j h0 h1=>by simp;omega
 have k1:=hk 1 (by decide) (by decide);have k2:=hk 2 (by decide) (by decide);have k3:=hk 3 (by decide) (by decide);have k4:=hk 4 (by decide) (by decide);have k5:=hk 5 (by decide) (by decide);have k6:=hk 6 (by decide) (by decide);clear hk;clear hE gm he;go_enter func67,ntmps67;go_wp2_with fail;generalize w.alloc _=w1 at *;generalize w.heap.size=O at *;refine (jc.out _).mono ?_;rintro o w2 ⟨rfl,hb⟩;replace ag:=ag.over hb;clear hb rb;have rb:=ag.rule 0 rfl;unfold aM at rb;have rO:=ag.rule 4 rfl;go_wp2_with fail;refine (AH.out _ ag).mono ?_;rintro o w3 ⟨rfl,F5,aB⟩;go_wp2_with fail;go_ret;exact⟨rfl,F5,aB.sub (.cons_cons _ (.cons_cons _ (.cons_cons _ (.cons_cons _ (.cons _ (List.Sublist.refl _))))))⟩
def eH (s pc e:Int):List Value:=[zI s,zI pc,zU e]
variable {s e:Int}
theorem LO (x:Int) (br:ak U.ml (1,0,0)=x) (aQ:U.ml.length<=1000000) (hE:Env w0 (ae b (eH s 0 e)::LU U R) w) :
  Calls prog 68 #[zP b,zP U.u,zP U.m] w fun o w'=>o=.returned (zI 0)/\Env w0 (ae b (eH s 1 x)::LU U R) w':=by
 have rb:=hE.rule 0 rfl;unfold eH at rb;have HX:=zH br;clear br;go_enter func68,ntmps68;go_wp2_with fail;refine (vi _).mono ?_;rintro o w1 ⟨rfl,hb⟩;replace hE:=hE.over hb;clear hb rb;go_wp2_with fail;refine (ju 1 0 0 aQ (hE.ref 3 rfl)).mono ?_;rintro o w2 ⟨rfl,hb⟩;rw[HX.out];replace hE:=hE.over hb;clear hb;have rb:=hE.rule 0 rfl;unfold eH at rb;have f1:=hE.thaw 0 rfl 1 (by simp[eH]);have f2:=hE.thaw 0 rfl 2 (by simp[eH]);have hP:=(hE.put 0 rfl (j:=2) (by simp[eH]) (zU x)).put 0 rfl (j:=1) (by simp[eH]) (zI 1);go_wp2_with fail;go_ret;exact⟨rfl,hP⟩
theorem LP (he:aD e) (aQ:U.ml.length<=1000000) (hl:U.ql.length<=1000000) (hN:0<=U.N/\U.N<=1099511627776) (hE:Env w0 (ae b (eH s 1 e)::LU U R) w) :
  Calls prog 68 #[zP b,zP U.u,zP U.m] w fun o w'=>o=.returned (zI 1)/\∃ F5 A' c',Env w0 (LU { U with F:=F5,ml:=cM U.ml (5,s,1) (bg e),A:=A',c:=c',N:=gN (gO U.N) (U.ql.length+1),ql:=U.ql++[(s,bg e,0)] } R) w':=by
 have rb:=hE.rule 0 rfl;unfold eH at rb;have AJ:=he;unfold aD at AJ
 by_cases aE:e < 9223372036854775808
 ·have mc:Hid (bg e=e):=zH (by unfold bg;rw[if_pos (by omega)]);have Ac:decide (e < 9223372036854775808)=true:=by simpa using aE
  have ij:wrap64 e=e:=df _ (by omega);have gd:IntKind.u64.wrap e=e:=mK _ (by omega) (by omega);clear aE AJ he;go_enter func68,ntmps68;go_wp2_with fail;refine (jH _ _ _).mono ?_;rintro o w1 ⟨rfl,hb⟩;replace hE:=hE.over hb;clear hb rb;go_wp2_with fail;refine (mM 5 s 1 e aQ (hE.ref 3 rfl)).mono ?_;rintro o w2 ⟨rfl,F5,hU,bf⟩;have az:Env w0 (ae b (eH s 1 e)::LU { U with F:=F5,ml:=cM U.ml (5,s,1) e } R) w2:=hE.turnU 3 rfl hU bf;clear hU bf hE;go_wp2_with fail;refine Ord.wc [9] (fun v=>ao 0 v b (eH s 1 e)) (fun k w'=>if k=0 then Env w0 (ae b (eH s 1 e)::LU { U with F:=F5,ml:=cM U.ml (5,s,1) e } R) w' else ∃ A' c',Env w0 (ae b (eH s 1 e)::LU { U with F:=F5,ml:=cM U.ml (5,s,1) e,A:=A',c:=c',N:=gN (gO U.N) (U.ql.length+1),ql:=U.ql++[(s,e,0)] } R) w') (az.drew.get 0 rfl) (by rw[if_pos rfl];exact az.drew) fun af=>?_
  repeat ((first
   | (refine Ord.cv ?_ af.o ?_ ?_;rotate_left;(intro w5 hS;have r:=hS.rule;unfold eH at r;go_simp<;>rfl))
   | (refine Ord.co af.o ?_));try simp only[Act.put,zA,zZ,zS])
  refine Ord.ch_turn (v:=.tuple #[]) 0 af.o rfl (by decide) (Or.inl rfl) (by rfl) ?_ ?_
  ·rintro w5 aN au;simp only[if_true] at au;go_simp;simp only[Ord.LandsIn];refine (tH s e 0 6 1 au rfl rfl rfl rfl hl hN).mono ?_;rintro o w7 ⟨rfl,A7,c7,aO⟩;have bn:Env w0 (ae b (eH s 1 e)::LU { U with F:=F5,ml:=cM U.ml (5,s,1) e,A:=A7,c:=c7,N:=gN (gO U.N) (U.ql.length+1),ql:=U.ql++[(s,e,0)] } R) w7:=by
    have hq:(U.ql++[(s,e,(0:Int))]).length=U.ql.length+1:=by simp
    unfold LU;rw[hq];exact aO
   exact⟨rfl,bn.get 0 rfl,A7,c7,bn⟩
  try simp only[Act.put,zA,zZ,zS]
  repeat ((first
   | (refine Ord.cv ?_ af.o ?_ ?_;rotate_left;(intro w5 hS;skip;go_simp<;>rfl))
   | (refine Ord.co af.o ?_));try simp only[Act.put,zA,zZ,zS])
  refine Ord.InText.nil fun w5 hS=>?_;clear af;obtain⟨aL,ai⟩:=Ord.chain_end hS;clear hS;rw[if_neg (by decide)] at ai;obtain⟨A7,c7,bn⟩:=ai;clear aL az;go_wp2_with fail;go_ret;rw[mc.out];exact⟨rfl,F5,A7,c7,bn.sub (.cons _ (List.Sublist.refl _))⟩
 ·have mc:Hid (bg e=0):=zH (by unfold bg;rw[if_neg (by omega)]);have Ac:decide (e < 9223372036854775808)=false:=by simpa using aE
  clear aE AJ he;go_enter func68,ntmps68;go_wp2_with fail;refine (jH _ _ _).mono ?_;rintro o w1 ⟨rfl,hb⟩;replace hE:=hE.over hb;clear hb rb;go_wp2_with fail;refine (mM 5 s 1 0 aQ (hE.ref 3 rfl)).mono ?_;rintro o w2 ⟨rfl,F5,hU,bf⟩;have az:Env w0 (ae b (eH s 1 e)::LU { U with F:=F5,ml:=cM U.ml (5,s,1) 0 } R) w2:=hE.turnU 3 rfl hU bf;clear hU bf hE;go_wp2_with fail;refine Ord.wc [9] (fun v=>ao 0 v b (eH s 1 e)) (fun k w'=>if k=0 then Env w0 (ae b (eH s 1 e)::LU { U with F:=F5,ml:=cM U.ml (5,s,1) 0 } R) w' else ∃ A' c',Env w0 (ae b (eH s 1 e)::LU { U with F:=F5,ml:=cM U.ml (5,s,1) 0,A:=A',c:=c',N:=gN (gO U.N) (U.ql.length+1),ql:=U.ql++[(s,0,0)] } R) w') (az.drew.get 0 rfl) (by rw[if_pos rfl];exact az.drew) fun af=>?_
  repeat ((first
   | (refine Ord.cv ?_ af.o ?_ ?_;rotate_left;(intro w5 hS;have r:=hS.rule;unfold eH at r;go_simp<;>rfl))
   | (refine Ord.co af.o ?_));try simp only[Act.put,zA,zZ,zS])
  refine Ord.ch_turn (v:=.tuple #[]) 0 af.o rfl (by decide) (Or.inl rfl) (by rfl) ?_ ?_
  ·rintro w5 aN au;simp only[if_true] at au;go_simp;simp only[Ord.LandsIn];refine (tH s 0 0 6 1 au rfl rfl rfl rfl hl hN).mono ?_;rintro o w7 ⟨rfl,A7,c7,aO⟩;have bn:Env w0 (ae b (eH s 1 e)::LU { U with F:=F5,ml:=cM U.ml (5,s,1) 0,A:=A7,c:=c7,N:=gN (gO U.N) (U.ql.length+1),ql:=U.ql++[(s,0,0)] } R) w7:=by
    have hq:(U.ql++[(s,0,(0:Int))]).length=U.ql.length+1:=by simp
    unfold LU;rw[hq];exact aO
   exact⟨rfl,bn.get 0 rfl,A7,c7,bn⟩
  try simp only[Act.put,zA,zZ,zS]
  repeat ((first
   | (refine Ord.cv ?_ af.o ?_ ?_;rotate_left;(intro w5 hS;skip;go_simp<;>rfl))
   | (refine Ord.co af.o ?_));try simp only[Act.put,zA,zZ,zS])
  refine Ord.InText.nil fun w5 hS=>?_;clear af;obtain⟨aL,ai⟩:=Ord.chain_end hS;clear hS;rw[if_neg (by decide)] at ai;obtain⟨A7,c7,bn⟩:=ai;clear aL az;go_wp2_with fail;go_ret;rw[mc.out];exact⟨rfl,F5,A7,c7,bn.sub (.cons _ (List.Sublist.refl _))⟩
def cL (pc h g:Int):List Value:=[zI pc,zU h,zI g]
variable {pc g:Int}
theorem Eo (hE:Env w0 (ae b (cL pc h g)::LU U R) w) :
  Calls prog 54 #[zP b,zP U.u] w fun o w'=>o=.returned (zI (js U.ql))/\Env w0 (ae b (cL 1 h g)::LU U R) w':=by
 have rb:=hE.rule 0 rfl;unfold cL at rb;have f0:=hE.thaw 0 rfl 0 (by simp[cL]);have hP:Env w0 (ae b (cL 1 h g)::LU U R) _:=hE.put 0 rfl (j:=0) (by simp[cL]) (zI 1);have ru:=hP.rule 1 rfl;unfold bx at ru
 rcases hq:U.ql with _ | ⟨x,t⟩
 ·simp only[hq,List.length_nil] at ru;clear hq;go_enter func54,ntmps54;go_wp2_with fail;go_ret;exact⟨rfl,hP⟩
 ·have hl:(((x::t).length:Int)==0)=false:=by simp;omega
  simp only[hq] at ru;generalize (x::t).length=N at *;clear hq;go_enter func54,ntmps54;go_wp2_with fail;go_ret;exact⟨rfl,hP⟩
theorem LQ (x:Int) (br:ak U.ml (1,0,0)=x) (eA:aD x) (aQ:U.ml.length<=1000000) (hE:Env w0 (ae b (cL 0 h g)::LU U R) w) :
  Calls prog 26 #[zP b,zP U.u,zP U.m] w fun o w'=>o=.returned (zI (js U.ql))/\Env w0 (ae b (cL 1 h g)::LU { U with ce:=bg x } R) w':=by
 have rb:=hE.rule 0 rfl;unfold cL at rb;go_enter func26,ntmps26;go_wp2_with fail;refine (DY x br eA aQ 1 3 hE rfl rfl).mono ?_;rintro o w1 ⟨rfl,ag⟩;go_wp2_with fail;refine (Eo (U:={ U with ce:=bg x }) ag).mono ?_;rintro o w2 ⟨rfl,az⟩;go_wp2_with fail;go_ret;exact⟨rfl,az⟩
theorem LR (x:Int) (br:ak U.ml (2,0,0)=x) (eA:aD x) (aQ:U.ml.length<=1000000) (hE:Env w0 (ae b (cL 1 h g)::LU U R) w) :
  Calls prog 26 #[zP b,zP U.u,zP U.m] w fun o w'=>o=.returned (zI (jV x U.cl))/\∃ eS,(jV x U.cl=0->eS=2)/\Env w0 (ae b (cL eS x g)::LU U R) w':=by
 have rb:=hE.rule 0 rfl;unfold cL at rb;have HX:=zH br;have rS:=fun (v:World)=>xl x eA v;obtain⟨y,hy⟩:∃ y,dr x=y:=⟨_,rfl⟩;simp only[hy] at rS;have xo:=zH rS;have HY:=zH hy;clear rS br eA hy
 by_cases hv:U.cl<=y
 all_goals
  have HV:=zH hv
  first
   | (have Ab:decide (U.cl<=y)=true:=by simpa using hv)
   | (have Ab:decide (U.cl<=y)=false:=by simpa using hv)
  clear hv;go_enter func26,ntmps26;go_wp2_with fail;refine (tK _).mono ?_;rintro o w1 ⟨rfl,hb⟩;replace hE:=hE.over hb;clear hb rb;go_wp2_with fail;refine (ju 2 0 0 aQ (hE.ref 3 rfl)).mono ?_;rintro o w2 ⟨rfl,hb⟩;rw[HX.out];replace hE:=hE.over hb;clear hb;have f1:=hE.thaw 0 rfl 1 (by simp[cL]);have rb:=hE.rule 0 rfl;unfold cL at rb;have az:Env w0 (ae b (cL 1 x g)::LU U R) (w2.setCell ⟨b,1,none⟩ (zU x)):=hE.put 0 rfl (j:=1) (by simp[cL]) (zU x);go_wp2_with fail;clear rb f1 hE;generalize w2.setCell _ _=w9 at *;refine cG (S:=(Env w0 (ae b (cL 1 x g)::LU U R))) (by kernel_rfl) (by kernel_rfl) az.drew (fun hT=>?_);have af:=zH hT;clear hT
  repeat ((first
   | (refine cH (v:=?_) af.o (by rfl) ?_ ?_;rotate_left;(intro w5 hS;have rb:=hS.rule 0 rfl;unfold cL at rb;have ru:=hS.rule 1 rfl;unfold bx at ru;go_simp<;>rfl))
   | (refine cI af.o (by rfl) ?_)
   | (refine cJ (v:=?_) (f:=?_) (args:=?_) af.o (by rfl) ?_ ?_ ?_;rotate_left 3;(intro w5 hS;have rb:=hS.rule 0 rfl;unfold cL at rb;have ru:=hS.rule 1 rfl;unfold bx at ru;go_simp;constructor<;>rfl);(intro w5 hS;(first | (with_reducible refine kp (xo.out _) ?_ ?_;rfl;exact fun w6 aj=>hS.over aj)))));try simp only[Act.put,zA,zZ,zS])
  refine InText.nil fun w5 aK=>?_;clear af;clear az;have rb:=aK.rule 0 rfl;unfold cL at rb;have f0:=aK.thaw 0 rfl 0 (by simp[cL]);have hP:=aK.put 0 rfl (j:=0) (by simp[cL]) (zI 2);go_wp2_with fail;go_ret
  first
   | (have hp:jV x U.cl=4:=by unfold jV;rw[HY.out,if_pos HV.out]
      rw[hp];exact⟨rfl,1,fun h=>absurd h (by decide),aK⟩)
   | (have hp:jV x U.cl=0:=by unfold jV;rw[HY.out,if_neg (by have:=HV.out;omega)]
      rw[hp];exact⟨rfl,2,fun _=>rfl,hP⟩)
theorem LS (x y:Int) (t:List bF) (bU:U.ql=(x,y,0)::t) (hh:aD h) (aQ:U.ml.length<=1000000) (hE:Env w0 (ae b (cL 2 h g)::LU U R) w) :
  Calls prog 26 #[zP b,zP U.u,zP U.m] w fun o w'=>o=.returned (zI 0)/\∃ F5,Env w0 (ae b (cL 3 h g)::LU { U with F:=F5,ml:=cM U.ml (5,x,2) (aP false (aA h) 0) } R) w':=by
 have hr:(ae b (cL 2 h g)::LU U R)[2]?=some (fx U.A U.c ((x,y,0)::t)):=by rw[<- bU];rfl
 obtain⟨gg,off,hA,hc⟩:=xn 2 hr hE;have aE:decide ((0:Int) < ((((x,y,(0:Int))::t).length:Nat):Int))=true:=by simp
 have nL:0 < ((x,y,(0:Int))::t).length:=by simp
 have bu:(((x,y,(0:Int))::t).length=0)=False:=by simp
 have qH:bx U.ck U.cs U.cb U.ch U.cl U.ce U.A U.ql.length U.c U.N U.hs U.ro=[zI U.ck,zI U.cs,zI U.cb,zI U.ch,zI U.cl,zI U.ce,.slice (some ⟨gg,off,none⟩) ((x,y,(0:Int))::t).length U.c,zI U.N,zI U.hs,zI U.ro]:=by
  unfold bx;rw[hA,bU]
 have lW:∀ v L,Env w0 L v->L[2]?=some (fx U.A U.c ((x,y,0)::t))->jY v gg off (zI x):=fun v L hv hr=>by
  rcases hv.cells3 2 rfl hr with h0 | ⟨b',rR,he,aE,hc⟩
  ·cases h0
  ·rw[hA] at he;cases he;have:=qa (hc 0 (by simp));exact⟨aE,by simpa using this.1⟩
 have dx:=zH lW;have HR:=zH hr;have fL:=fun (v:World)=>iG h hh v;have jX:=fun (v:World)=>xh false (aA h) 0 v;obtain⟨y9,hy⟩:∃ y,aP false (aA h) 0=y:=⟨_,rfl⟩;rw[hy];simp only[hy] at jX;obtain⟨sl,ei⟩:∃ s,aA h=s:=⟨_,rfl⟩;simp only[ei] at fL jX;have kA:=zH fL;have vj:=zH jX;clear fL jX hy ei hh;generalize ((x,y,(0:Int))::t).length=NN at *;have qI:=zH qH;have HQ:=zH bU;clear bU hr hc lW hA qH;have rb:=hE.rule 0 rfl;unfold cL at rb;go_enter func26,ntmps26;go_wp2_with fail;refine Ord.wc [17] (fun v=>ao 0 v U.u (bx U.ck U.cs U.cb U.ch U.cl U.ce U.A U.ql.length U.c U.N U.hs U.ro)/\ao 0 v b (cL 2 h g)/\jY v gg off (zI x)) (fun k w'=>∃ F5,Env w0 (ae b (cL 2 h g)::LU (if k=0 then U else { U with F:=F5,ml:=cM U.ml (5,x,2) y9 }) R) w') ⟨hE.drew.get 1 rfl,hE.drew.get 0 rfl,dx.out _ _ hE.drew HR.out⟩ ⟨U.F,hE.drew⟩ fun af=>?_
 repeat ((first
  | (refine Ord.cv ?_ af.o ?_ ?_;rotate_left;(intro w5 hS;have ru:=hS.1.rule;simp only[qI.out] at ru;have rb:=hS.2.1.rule;unfold cL at rb;have rc:=hS.2.2.2;go_simp<;>rfl))
  | (refine Ord.co af.o ?_)
  | (refine Ord.cc ?_ ?_ ?_ af.o ?_ ?_ ?_;rotate_left 3;(intro w5 hS;have ru:=hS.1.rule;simp only[qI.out] at ru;have rb:=hS.2.1.rule;unfold cL at rb;have rc:=hS.2.2.2;go_simp;constructor<;>rfl);(intro w5 hS;(first | (with_reducible refine kp (jH _ _ _) ?_ ?_;rfl;exact fun w6 aj=>⟨⟨hS.1.under aj,hS.2.1.under aj,hS.2.2.under aj⟩,fun k h=>h.elim fun F5 h=>⟨F5,h.over aj⟩⟩) | (with_reducible refine kp (kA.out _) ?_ ?_;rfl;exact fun w6 aj=>⟨⟨hS.1.under aj,hS.2.1.under aj,hS.2.2.under aj⟩,fun k h=>h.elim fun F5 h=>⟨F5,h.over aj⟩⟩) | (with_reducible refine kp (vj.out _) ?_ ?_;rfl;exact fun w6 aj=>⟨⟨hS.1.under aj,hS.2.1.under aj,hS.2.2.under aj⟩,fun k h=>h.elim fun F5 h=>⟨F5,h.over aj⟩⟩)))));try simp only[Act.put,zA,zZ,zS])
 refine Ord.ch_turn (v:=.tuple #[]) 0 af.o rfl (by decide) (Or.inl rfl) (by rfl) ?_ ?_
 ·rintro w5 aN ⟨F5,au⟩;simp only[if_true] at au;go_simp;simp only[Ord.LandsIn];refine (mM 5 x 2 y9 aQ (au.ref 3 rfl)).mono ?_;rintro e w6 ⟨rfl,F6,hU,bf⟩;have aq:=au.turnU 3 rfl hU bf;exact⟨rfl,⟨aq.get 1 rfl,aq.get 0 rfl,dx.out _ _ aq (by rw[<- HQ.out];rfl)⟩,F6,aq⟩
 try simp only[Act.put,zA,zZ,zS]
 repeat ((first
  | (refine Ord.cv ?_ af.o ?_ ?_;rotate_left;(intro w5 hS;skip;go_simp<;>rfl))
  | (refine Ord.co af.o ?_));try simp only[Act.put,zA,zZ,zS])
 refine Ord.InText.nil fun w5 hS=>?_;clear af;obtain⟨aL,ai⟩:=Ord.chain_end hS;clear hS;obtain⟨F9,ai⟩:=ai;simp only[List.length_cons,List.length_nil,Nat.zero_add,Nat.one_ne_zero,if_false] at ai;clear aL hE rb;have rb:=ai.rule 0 rfl;unfold cL at rb;have f0:=ai.thaw 0 rfl 0 (by simp[cL]);have hP:=ai.put 0 rfl (j:=0) (by simp[cL]) (zI 3);go_wp2_with fail;go_ret;exact⟨rfl,F9,hP⟩
theorem LV (x y:Int) (t:List bF) (bU:U.ql=(x,y,0)::t) (br:ak U.ml (2,0,0)≠h) (hh:aD h) (aQ:U.ml.length<=1000000) (hE:Env w0 (ae b (cL 3 h g)::LU U R) w) :
  Calls prog 26 #[zP b,zP U.u,zP U.m] w fun o w'=>o=.returned (zI 0)/\∃ F5,Env w0 (ae b (cL 1 h g)::LU { U with F:=F5,ml:=dw U.ml (2,0,0) h (aP false x (dr h+1)) } R) w':=by
 have hr:(ae b (cL 3 h g)::LU U R)[2]?=some (fx U.A U.c ((x,y,0)::t)):=by rw[<- bU];rfl
 obtain⟨gg,off,hA,hc⟩:=xn 2 hr hE;have aE:decide ((0:Int) < ((((x,y,(0:Int))::t).length:Nat):Int))=true:=by simp
 have nL:0 < ((x,y,(0:Int))::t).length:=by simp
 have bu:(((x,y,(0:Int))::t).length=0)=False:=by simp
 have qH:bx U.ck U.cs U.cb U.ch U.cl U.ce U.A U.ql.length U.c U.N U.hs U.ro=[zI U.ck,zI U.cs,zI U.cb,zI U.ch,zI U.cl,zI U.ce,.slice (some ⟨gg,off,none⟩) ((x,y,(0:Int))::t).length U.c,zI U.N,zI U.hs,zI U.ro]:=by
  unfold bx;rw[hA,bU]
 have lW:∀ v L,Env w0 L v->L[2]?=some (fx U.A U.c ((x,y,0)::t))->jY v gg off (zI x):=fun v L hv hr=>by
  rcases hv.cells3 2 rfl hr with h0 | ⟨b',rR,he,aE,hc⟩
  ·cases h0
  ·rw[hA] at he;cases he;have:=qa (hc 0 (by simp));exact⟨aE,by simpa using this.1⟩
 have dx:=zH lW;have HR:=zH hr;have HD:Hid (decide (ak U.ml (2,0,0)=h)=false):=zH (by simpa using br);have eQ:=fun (v:World)=>xm h x hh v;obtain⟨y9,hy⟩:∃ y,aP false x (dr h+1)=y:=⟨_,rfl⟩;rw[hy];simp only[hy] at eQ;have jF:=zH eQ;clear eQ hy hh br;generalize ((x,y,(0:Int))::t).length=NN at *;have qI:=zH qH;have HQ:=zH bU;clear bU hr hc lW hA qH;have rb:=hE.rule 0 rfl;unfold cL at rb;go_enter func26,ntmps26;go_wp2_with fail;refine Ord.wc [19] (fun v=>ao 0 v U.u (bx U.ck U.cs U.cb U.ch U.cl U.ce U.A U.ql.length U.c U.N U.hs U.ro)/\ao 0 v b (cL 3 h g)/\jY v gg off (zI x)) (fun k w'=>∃ F5,Env w0 (ae b (cL 3 h g)::LU (if k=0 then U else { U with F:=F5,ml:=dw U.ml (2,0,0) h y9 }) R) w') ⟨hE.drew.get 1 rfl,hE.drew.get 0 rfl,dx.out _ _ hE.drew HR.out⟩ ⟨U.F,hE.drew⟩ fun af=>?_
 repeat ((first
  | (refine Ord.cv ?_ af.o ?_ ?_;rotate_left;(intro w5 hS;have ru:=hS.1.rule;simp only[qI.out] at ru;have rb:=hS.2.1.rule;unfold cL at rb;have rc:=hS.2.2.2;go_simp<;>rfl))
  | (refine Ord.co af.o ?_)
  | (refine Ord.cc ?_ ?_ ?_ af.o ?_ ?_ ?_;rotate_left 3;(intro w5 hS;have ru:=hS.1.rule;simp only[qI.out] at ru;have rb:=hS.2.1.rule;unfold cL at rb;have rc:=hS.2.2.2;go_simp;constructor<;>rfl);(intro w5 hS;(first | (with_reducible refine kp (tK _) ?_ ?_;rfl;exact fun w6 aj=>⟨⟨hS.1.under aj,hS.2.1.under aj,hS.2.2.under aj⟩,fun k h=>h.elim fun F5 h=>⟨F5,h.over aj⟩⟩) | (with_reducible refine kp (jF.out _) ?_ ?_;rfl;exact fun w6 aj=>⟨⟨hS.1.under aj,hS.2.1.under aj,hS.2.2.under aj⟩,fun k h=>h.elim fun F5 h=>⟨F5,h.over aj⟩⟩)))));try simp only[Act.put,zA,zZ,zS])
 refine Ord.ch_turn (v:=.bool false) 0 af.o rfl (by decide) (Or.inl rfl) (by rfl) ?_ ?_
 ·rintro w5 aN ⟨F5,au⟩;simp only[if_true] at au;go_simp;simp only[Ord.LandsIn];have bS:=kz 2 0 0 h y9 aQ (au.ref 3 rfl);rw[HD.out] at bS;refine bS.mono ?_;rintro e w6 ⟨rfl,F6,hU,bf⟩;have aq:=au.turnU 3 rfl hU bf;exact⟨rfl,⟨aq.get 1 rfl,aq.get 0 rfl,dx.out _ _ aq (by rw[<- HQ.out];rfl)⟩,F6,aq⟩
 try simp only[Act.put,zA,zZ,zS]
 repeat ((first
  | (refine Ord.cv ?_ af.o ?_ ?_;rotate_left;(intro w5 hS;skip;go_simp<;>rfl))
  | (refine Ord.co af.o ?_));try simp only[Act.put,zA,zZ,zS])
 refine Ord.InText.nil fun w5 hS=>?_;clear af;obtain⟨aL,ai⟩:=Ord.chain_end hS;clear hS;obtain⟨F9,ai⟩:=ai;simp only[List.length_cons,List.length_nil,Nat.zero_add,Nat.one_ne_zero,if_false] at ai;clear aL hE rb;have rb:=ai.rule 0 rfl;unfold cL at rb;have f0:=ai.thaw 0 rfl 0 (by simp[cL]);have hP:=ai.put 0 rfl (j:=0) (by simp[cL]) (zI 1);go_wp2_with fail;go_ret;exact⟨rfl,F9,hP⟩
theorem LW (x y:Int) (t:List bF) (bU:U.ql=(x,y,0)::t) (br:ak U.ml (2,0,0)=h) (hl:t.length<=1000000) (hh:aD h) (aQ:U.ml.length<=1000000) (hE:Env w0 (ae b (cL 3 h g)::LU U R) w) :
  Calls prog 26 #[zP b,zP U.u,zP U.m] w fun o w'=>o=.returned (zI (js t))/\∃ F5 A' c',Env w0 (ae b (cL 1 h (wrap64 (g+1)))::LU { U with F:=F5,ml:=dw U.ml (2,0,0) h (aP false x (dr h+1)),ql:=t,A:=A',c:=c' } R) w':=by
 have hr:(ae b (cL 3 h g)::LU U R)[2]?=some (fx U.A U.c ((x,y,0)::t)):=by rw[<- bU];rfl
 obtain⟨gg,off,hA,hc⟩:=xn 2 hr hE;have aE:decide ((0:Int) < ((((x,y,(0:Int))::t).length:Nat):Int))=true:=by simp
 have nL:0 < ((x,y,(0:Int))::t).length:=by simp
 have bu:(((x,y,(0:Int))::t).length=0)=False:=by simp
 have qH:bx U.ck U.cs U.cb U.ch U.cl U.ce U.A U.ql.length U.c U.N U.hs U.ro=[zI U.ck,zI U.cs,zI U.cb,zI U.ch,zI U.cl,zI U.ce,.slice (some ⟨gg,off,none⟩) ((x,y,(0:Int))::t).length U.c,zI U.N,zI U.hs,zI U.ro]:=by
  unfold bx;rw[hA,bU]
 have lW:∀ v L,Env w0 L v->L[2]?=some (fx U.A U.c ((x,y,0)::t))->jY v gg off (zI x):=fun v L hv hr=>by
  rcases hv.cells3 2 rfl hr with h0 | ⟨b',rR,he,aE,hc⟩
  ·cases h0
  ·rw[hA] at he;cases he;have:=qa (hc 0 (by simp));exact⟨aE,by simpa using this.1⟩
 have dx:=zH lW;have HR:=zH hr;have HD:Hid (decide (ak U.ml (2,0,0)=h)=true):=zH (by rw[br];simp);have eQ:=fun (v:World)=>xm h x hh v;obtain⟨y9,hy⟩:∃ y,aP false x (dr h+1)=y:=⟨_,rfl⟩;rw[hy];simp only[hy] at eQ;have jF:=zH eQ;clear eQ hy hh br;generalize ((x,y,(0:Int))::t).length=NN at *;have qI:=zH qH;have HQ:=zH bU;clear bU hr hc lW hA qH;have rb:=hE.rule 0 rfl;unfold cL at rb;go_enter func26,ntmps26;go_wp2_with fail;refine Ord.wc [19] (fun v=>ao 0 v U.u (bx U.ck U.cs U.cb U.ch U.cl U.ce U.A U.ql.length U.c U.N U.hs U.ro)/\ao 0 v b (cL 3 h g)/\jY v gg off (zI x)) (fun k w'=>∃ F5,Env w0 (ae b (cL 3 h g)::LU (if k=0 then U else { U with F:=F5,ml:=dw U.ml (2,0,0) h y9 }) R) w') ⟨hE.drew.get 1 rfl,hE.drew.get 0 rfl,dx.out _ _ hE.drew HR.out⟩ ⟨U.F,hE.drew⟩ fun af=>?_
 repeat ((first
  | (refine Ord.cv ?_ af.o ?_ ?_;rotate_left;(intro w5 hS;have ru:=hS.1.rule;simp only[qI.out] at ru;have rb:=hS.2.1.rule;unfold cL at rb;have rc:=hS.2.2.2;go_simp<;>rfl))
  | (refine Ord.co af.o ?_)
  | (refine Ord.cc ?_ ?_ ?_ af.o ?_ ?_ ?_;rotate_left 3;(intro w5 hS;have ru:=hS.1.rule;simp only[qI.out] at ru;have rb:=hS.2.1.rule;unfold cL at rb;have rc:=hS.2.2.2;go_simp;constructor<;>rfl);(intro w5 hS;(first | (with_reducible refine kp (tK _) ?_ ?_;rfl;exact fun w6 aj=>⟨⟨hS.1.under aj,hS.2.1.under aj,hS.2.2.under aj⟩,fun k h=>h.elim fun F5 h=>⟨F5,h.over aj⟩⟩) | (with_reducible refine kp (jF.out _) ?_ ?_;rfl;exact fun w6 aj=>⟨⟨hS.1.under aj,hS.2.1.under aj,hS.2.2.under aj⟩,fun k h=>h.elim fun F5 h=>⟨F5,h.over aj⟩⟩)))));try simp only[Act.put,zA,zZ,zS])
 refine Ord.ch_turn (v:=.bool true) 0 af.o rfl (by decide) (Or.inl rfl) (by rfl) ?_ ?_
 ·rintro w5 aN ⟨F5,au⟩;simp only[if_true] at au;go_simp;simp only[Ord.LandsIn];have bS:=kz 2 0 0 h y9 aQ (au.ref 3 rfl);rw[HD.out] at bS;refine bS.mono ?_;rintro e w6 ⟨rfl,F6,hU,bf⟩;have aq:=au.turnU 3 rfl hU bf;exact⟨rfl,⟨aq.get 1 rfl,aq.get 0 rfl,dx.out _ _ aq (by rw[<- HQ.out];rfl)⟩,F6,aq⟩
 try simp only[Act.put,zA,zZ,zS]
 repeat ((first
  | (refine Ord.cv ?_ af.o ?_ ?_;rotate_left;(intro w5 hS;skip;go_simp<;>rfl))
  | (refine Ord.co af.o ?_));try simp only[Act.put,zA,zZ,zS])
 refine Ord.InText.nil fun w5 hS=>?_;clear af;obtain⟨aL,ai⟩:=Ord.chain_end hS;clear hS;obtain⟨F9,ai⟩:=ai;simp only[List.length_cons,List.length_nil,Nat.zero_add,Nat.one_ne_zero,if_false] at ai;clear aL hE rb;have rb:=ai.rule 0 rfl;unfold cL at rb;go_wp2_with fail;refine (DZ x y 0 6 1 ai rfl (by dsimp only;rw[HQ.out];rfl) (show _=some (fx U.A U.c ((x,y,0)::t)) by rw[<- HQ.out];rfl) hl).mono ?_;rintro o w7 ⟨rfl,A7,c7,aO⟩;have bn:Env w0 (ae b (cL 3 h g)::LU { U with F:=F9,ml:=dw U.ml (2,0,0) h y9,ql:=t,A:=A7,c:=c7 } R) w7:=aO;clear aO rb ai;have rb:=bn.rule 0 rfl;unfold cL at rb;have f2:=bn.thaw 0 rfl 2 (by simp[cL]);have hP:=bn.put 0 rfl (j:=2) (by simp[cL]) (zI (wrap64 (g+1)));go_wp2_with fail;refine (Eo (U:={ U with F:=F9,ml:=dw U.ml (2,0,0) h y9,ql:=t,A:=A7,c:=c7 }) (pc:=3) (h:=h) (g:=wrap64 (g+1)) hP).mono ?_;rintro o w8 ⟨rfl,bj⟩;go_wp2_with fail;go_ret;exact⟨rfl,F9,A7,c7,bj⟩
end
structure Tm where
 (thr c q u:Nat)
 (F:Nat->Prop)
 (kq:Nat)
 (A:Option Addr)
 (rc:Nat)
 (N cr ro:Int)
 (dA:Option Addr)
 (dn dc:Nat)
 (pa pb pr pq pg ph:Value)
structure Wm where
 (p cc m:Nat)
 (G FU:Nat->Prop)
 (qc:bN)
 (n:Nat)
 (ml:List bT)
def dS (c:Nat) (nx:Value × Value) (s e:Int):List Value:=[zP c,nx.1,nx.2,zI s,zI 0,zU e,zI 0,.bool false]
def pk (pc:Nat):Nat:=if pc=0 then 246 else 250
def j6 (a pc:Nat):Value × Value:=(mvL (pk pc) a,zI 0)
theorem LX (pc:Nat) (ar:Array Value) (v:World):(callFunc (pk pc) ar).run prog v=.ok (.enter (pk pc) ar) v:=by
 unfold pk
 split
 all_goals kernel_rfl
section
variable {w0 w:World} {R:List Item} {a:Nat} {S:ST} {nx:Value × Value} {s e:Int}
theorem LY (pc:Nat) (u:Value) (Q:Ending->World->Prop) (hE:Env w0 (ae a (dS S.c nx s e)::LT S R) w) (bo:nx=j6 a pc)
  (hc:Calls prog (pk pc) #[zP a,u] w fun e w'=>∃ s,e=.returned (zI s)/\Q (.returned (zI s)) w') :
  Calls prog 241 #[zP a,u] w Q:=by
 have hn:w.cell? ⟨a,1,none⟩=some (.func (.func (pk pc)) #[zP a] #[]):=by
  have:=hE.rule 0 rfl 1;rw[this,show (dS S.c nx s e)[1]?=some nx.1 from rfl,bo];rfl
 have fV:w.cell? ⟨a,1+1,none⟩=some (zI 0):=by
  have:=hE.rule 0 rfl 2;rw[this,show (dS S.c nx s e)[2]?=some nx.2 from rfl,bo];rfl
 have bY:=stepMv_r (o:=1) (pk pc) (LX pc) (zP a) u (fun o w'=>∃ s,o=.returned (zI s)/\Q (.returned (zI s)) w') hn fV (hc.mono fun e w' ⟨s,he,hq⟩=>⟨s,he,s,rfl,hq⟩);have gi:=zH bY;clear bY hc;go_enter func241,ntmps241;go_wp2_with fail;refine gi.out.mono ?_;rintro o w1 ⟨s,rfl,hQ⟩;go_wp2_with fail;exact hQ
theorem Ep {st:Int} {Y:World->Prop} (pc:Nat) (u:Value) (hE:Env w0 (ae a (dS S.c nx s e)::LT S R) w) (bo:nx=j6 a pc)
  (hc:Calls prog (pk pc) #[zP a,u] w fun o w'=>o=.returned (zI st)/\Y w') :
  Calls prog 241 #[zP a,u] w fun o w'=>o=.returned (zI st)/\Y w' :=
 LY pc u _ hE bo (hc.mono fun _ _ h=>⟨st,h.1,rfl,h.2⟩)
theorem LZ (d:Int) {L:List Item} {c:Nat} (hE:Env w0 L w) :
  Calls prog 240 #[zP c,.agg #[zI d,zI 0]] w fun o w'=>∃ a,o=.returned (zP a)/\Env w0 (ae a (dS c (j6 a 0) d 0)::L) w':=by
 have cf:=cg;have dv:=hE.box w.heap.size rfl [zI d,zI 0] 92;have ag:=dv.box (w.heap.size+1) (by simp) (dS c (.nilFunc,zI 0) d 0) 278;have r0:=dv.rule 0 rfl;have eW:=goOn_m (fn:=.func 246) (fs:=#[zP (w.heap.size+1)]) (cs:=#[]) 0 (by simp[dS]) rfl ag rfl;have jG:=zH eW;clear hE dv ag eW;go_enter func240,ntmps240;go_wp2_with fail;refine jG.out.mono ?_;rintro o w1 ⟨rfl,az⟩;go_wp2_with fail;go_ret;exact⟨_,rfl,az.sub (.cons_cons _ (.cons _ (List.Sublist.refl _)))⟩
theorem L3 (x:Int) (br:S.f (1,0,0)=x) (hz:Hid (nx.2=zI 0)) (hE:Env w0 (ae a (dS S.c nx s e)::LT S R) w) :
  Calls prog 246 #[zP a,.iface 28 (zP S.p)] w fun o w'=>o=.returned (zI 0)/\Env w0 (ae a (dS S.c (j6 a 1) s x)::LT { S with qc:={ S.qc with l:=wrap64 (S.qc.l+1) } } R) w':=by
 have cf:=cg;have eV:=l4;have HX:=zH br;clear br;go_enter func246,ntmps246;go_wp2_with fail;refine Ord.wc [7,10] (fun _=>True) (fun k w'=>Env w0 (l6 (ae a (dS S.c nx s e)::LT S R) (ae a (dS S.c nx s e)::LT { S with qc:={ S.qc with l:=wrap64 (S.qc.l+1) } } R) (ae a (dS S.c nx s x)::LT { S with qc:={ S.qc with l:=wrap64 (S.qc.l+1) } } R) k) w') trivial hE.drew fun af=>?_
 repeat ((first
  | (refine Ord.cv ?_ af.o ?_ ?_;rotate_left;(intro w5 hS;skip;go_simp<;>rfl))
  | (refine Ord.co af.o ?_)
  | (refine Ord.cc ?_ ?_ ?_ af.o ?_ ?_ ?_;rotate_left 3;(intro w5 hS;skip;go_simp;constructor<;>rfl);(intro w5 hS;(first | (with_reducible refine kp (wL _) ?_ ?_;rfl;exact fun w6 aj=>⟨trivial,fun k h=>h.over aj⟩) | (with_reducible refine kp (nW _ _ _ _) ?_ ?_;rfl;exact fun w6 aj=>⟨trivial,fun k h=>h.over aj⟩)))));try simp only[Act.put,zA,zZ,zS])
 refine Ord.ch_turn (v:=.agg #[zU x,zI 0,.bool false]) 0 af.o rfl (by decide) (Or.inl rfl) (by rfl) ?_ ?_
 ·rintro w5 aN au;replace au:Env w0 (ae a (dS S.c nx s e)::LT S R) w5:=au;go_simp;rw[lB];simp only[Result.andThen_ok];go_simp;simp only[Ord.LandsIn];have hl:=lA 1 0 0 0 (by unfold Wf In64;simp) 3 4 (by decide) au rfl rfl;rw[HX.out] at hl;refine hl.mono ?_;rintro e w6 ⟨rfl,aq⟩;exact⟨rfl,aq⟩
 try simp only[Act.put,zA,zZ,zS]
 repeat ((first
  | (refine Ord.cv ?_ af.o ?_ ?_;rotate_left;(intro w5 hS;skip;go_simp<;>rfl))
  | (refine Ord.co af.o ?_));try simp only[Act.put,zA,zZ,zS])
 refine Ord.ch_turn (v:=undef) 1 af.o rfl (by decide) (Or.inr ⟨_,rfl,by kernel_rfl⟩) (by rfl) ?_ ?_
 ·rintro w5 aN au;replace au:Env w0 (ae a (dS S.c nx s e)::LT { S with qc:={ S.qc with l:=wrap64 (S.qc.l+1) } } R) w5:=au;have r:=au.rule 0 rfl;unfold dS at r;have f6:=au.thaw 0 rfl 5 (by simp[dS]);have f7:=au.thaw 0 rfl 6 (by simp[dS]);have f8:=au.thaw 0 rfl 7 (by simp[dS]);go_simp;have h9:=((au.put 0 rfl (j:=5) (by simp[dS]) (zU x)).put 0 rfl (j:=6) (by simp[dS]) (zI 0)).put 0 rfl (j:=7) (by simp[dS]) (.bool false);exact⟨rfl,h9⟩
 try simp only[Act.put,zA,zZ,zS]
 repeat ((first
  | (refine Ord.cv ?_ af.o ?_ ?_;rotate_left;(intro w5 hS;skip;go_simp<;>rfl))
  | (refine Ord.co af.o ?_));try simp only[Act.put,zA,zZ,zS])
 refine Ord.InText.nil fun w5 hS=>?_;clear af;obtain⟨aL,ai⟩:=Ord.chain_end hS;clear hS;replace ai:Env w0 (ae a (dS S.c nx s x)::LT { S with qc:={ S.qc with l:=wrap64 (S.qc.l+1) } } R) w5:=ai;have r:=ai.rule 0 rfl;unfold dS at r;go_wp2_with fail;refine (goOn_m 0 _ _ _ (by simp[dS]) (by exact congrArg some hz.out) ai rfl).mono ?_;rintro o w7 ⟨rfl,aO⟩;go_wp2_with fail;go_ret;exact⟨rfl,aO⟩
theorem L4 (he:aD e) (hs:In64 s) (hm:S.m < maxLen) (hl:S.ql.length+1<=1048576) (hE:Env w0 (ae a (dS S.c nx s e)::LT S R) w) :
  Calls prog 250 #[zP a,.iface 28 (zP S.p)] w fun o w'=>o=.returned (zI 1)/\∃ k' F' G',Rm S.kq (S.ql.length+1) k'/\Env w0 (LT { S with G:=G',f:=upd S.f (5,s,1) e,qc:={ S.qc with s:=wrap64 (S.qc.s+1) },m:=S.m+1,ql:=S.ql++[(s,bg e,0)],kq:=k',F:=F' } R) w':=by
 have cf:=cg;have eV:=ve;have dQ:Hid (Wf (5,s,1)):=zH (by unfold Wf;exact⟨by unfold In64;simp,hs,by unfold In64;simp⟩);have sh:=zH he;clear he hs;go_enter func250,ntmps250;go_wp2_with fail;refine Ord.wc [13] (fun v=>ao 0 v a (dS S.c nx s e)) (fun k w'=>∃ G5,Env w0 (ae a (dS S.c nx s e)::LT (if k=0 then S else { S with G:=G5,f:=upd S.f (5,s,1) e,qc:={ S.qc with s:=wrap64 (S.qc.s+1) },m:=S.m+1 }) R) w') (hE.drew.get 0 rfl) ⟨S.G,hE.drew⟩ fun af=>?_
 repeat ((first
  | (refine Ord.cv ?_ af.o ?_ ?_;rotate_left;(intro w5 hS;have r:=hS.rule;unfold dS at r;go_simp<;>rfl))
  | (refine Ord.co af.o ?_)
  | (refine Ord.cc ?_ ?_ ?_ af.o ?_ ?_ ?_;rotate_left 3;(intro w5 hS;have r:=hS.rule;unfold dS at r;go_simp;constructor<;>rfl);(intro w5 hS;(first | (with_reducible refine kp (u7 _ _ _ _) ?_ ?_;rfl;exact fun w6 aj=>⟨hS.under aj,fun k h=>h.elim fun G5 h=>⟨G5,h.over aj⟩⟩)))));try simp only[Act.put,zA,zZ,zS])
 refine Ord.ch_turn (v:=.tuple #[]) 0 af.o rfl (by decide) (Or.inl rfl) (by rfl) ?_ ?_
 ·rintro w5 aN ⟨G5,au⟩;simp only[if_true] at au;go_simp;rw[tr];simp only[Result.andThen_ok];go_simp;simp only[Ord.LandsIn];refine (tq 5 s 1 0 e 0 false dQ.out sh.out hm 3 4 (by decide) au rfl rfl).mono ?_;rintro e w6 ⟨rfl,G6,aq⟩;exact⟨rfl,aq.get 0 rfl,G6,aq⟩
 try simp only[Act.put,zA,zZ,zS]
 repeat ((first
  | (refine Ord.cv ?_ af.o ?_ ?_;rotate_left;(intro w5 hS;skip;go_simp<;>rfl))
  | (refine Ord.co af.o ?_));try simp only[Act.put,zA,zZ,zS])
 refine Ord.InText.nil fun w5 hS=>?_;clear af;obtain⟨aL,ai⟩:=Ord.chain_end hS;clear hS;obtain⟨G9,ai⟩:=ai;simp only[List.length_cons,List.length_nil,Nat.zero_add,Nat.one_ne_zero,if_false] at ai;clear aL hE;go_wp2_with fail;refine Ord3.wp_chain [?_,?_,?_,?_,?_,?_,?_,?_,?_,?_,?_,?_,?_,?_,?_,?_,?_,?_,?_,?_,?_,?_,?_,?_] [22,23] (fun w'=>ao 0 w' a (dS S.c nx s e)/\ao 0 w' S.c (cT S.ck S.cs S.cb S.ch S.cl S.ce S.cr S.hs 0 S.q)) (Ord3.Stage fun κs=>[Env w0 (ae a (dS S.c nx s e)::LT { S with G:=G9,f:=upd S.f (5,s,1) e,qc:={ S.qc with s:=wrap64 (S.qc.s+1) },m:=S.m+1 } R),fun w'=>∃ z,κs.getD 0 undef=.slice (some ⟨z,0,none⟩) 1 1/\Env w0 (ae z [zI s,zI (bg e),zI 0]::ae a (dS S.c nx s e)::LT { S with G:=G9,f:=upd S.f (5,s,1) e,qc:={ S.qc with s:=wrap64 (S.qc.s+1) },m:=S.m+1 } R) w',fun w'=>∃ k',Rm S.kq (S.ql.length+1) k'/\∃ F' z,Env w0 (ae z [zI s,zI (bg e),zI 0]::ae a (dS S.c nx s e)::LT { S with G:=G9,f:=upd S.f (5,s,1) e,qc:={ S.qc with s:=wrap64 (S.qc.s+1) },m:=S.m+1,ql:=S.ql++[(s,bg e,0)],kq:=k',F:=F' } R) w']) (by kernel_rfl) (by kernel_rfl) (by kernel_rfl) ⟨ai.drew.get 0 rfl,ai.drew.get 1 rfl⟩ ⟨_,rfl,ai.drew⟩ (fun hT=>?_);rotate_left 24;have af:=zH hT;clear hT
 repeat ((first
  | (focus (refine Ord3.in_value (v:=?_) af.o (by decide) ?_ (by rfl) ?_ ?_;rotate_left 2;(intro w5 hS;have r1:=ao.rule hS.1;unfold dS at r1;go_simp<;>rfl);rotate_right;(focus rfl)))
  | (focus (refine Ord3.in_off af.o (by decide) ?_ (by rfl) ?_;(focus rfl)))
  | (focus (refine Ord3.in_call (v:=?_) (f:=?_) (args:=?_) af.o (by decide) ?_ (by rfl) ?_ ?_ ?_;rotate_left 4;(intro w5 hS;have r1:=ao.rule hS.1;unfold dS at r1;go_simp;constructor<;>rfl);(intro w5 hS;(first | (with_reducible refine (qk hS.2).mono ?_;rintro o w6 ⟨rfl,rfl⟩;constructor;rfl;exact⟨hS,fun _ h=>h⟩) | (with_reducible refine kp (Dv _ _ _ sh.out _) ?_ ?_;rfl;exact fun w6 aj=>⟨⟨hS.1.under aj,hS.2.under aj⟩,fun κs h=>Ord3.Stage.three h (fun h=>h.over aj) (fun h=>h.elim fun z h=>⟨z,h.1,h.2.over aj⟩) (fun h=>h.elim fun k h=>⟨k,h.1,h.2.elim fun F h=>⟨F,h.elim fun z h=>⟨z,h.over aj⟩⟩⟩)⟩)));rotate_right;(focus rfl))));try simp only[Act.put,zA,zZ,zS])
 refine Ord3.in_turn (fun u=>∃ z,u=.slice (some ⟨z,0,none⟩) 1 1) _ ⟨0,rfl⟩ af.o rfl (by decide) (by rfl) ?_ (Or.inl rfl) (by rfl) ?_ ?_
 ·rfl
 ·rintro w7 eY ⟨P7,dD,bI⟩;cases dD;go_simp;simp only[Ord3.Lands];have bn:=bI.box w7.heap.size rfl [zI s,zI (bg e),zI 0] 97;exact⟨⟨_,rfl⟩,⟨bn.get 1 rfl,bn.get 2 rfl⟩,_,rfl,w7.heap.size,rfl,bn⟩
 rintro _ ⟨z9,rfl⟩
 try simp only[Act.put,zA,zZ,zS]
 refine Ord3.in_turn (fun u=>u=zI 0) _ rfl af.o rfl (by decide) (by rfl) ?_ (Or.inr ⟨_,22,[],rfl,by kernel_rfl,by kernel_rfl,rfl⟩) (by rfl) ?_ ?_
 ·rfl
 ·rintro w7 eY ⟨P7,dD,bI⟩;cases dD;obtain⟨z8,he,bI⟩:=bI;cases he;go_simp;simp only[Ord3.Lands];have hA:gI w7 (some ⟨z9,0,none⟩) [(s,bg e,0)]:=ao.row3 (l:=[(s,bg e,0)]) (bI.get 0 rfl);refine (wI (l:=S.ql) (xs:=[(s,bg e,0)]) (A:=some ⟨z9,0,none⟩) (cap:=1) (by simp;omega) hA (fun _ b hb va=>?_) (bI.queue 3 rfl)).mono ?_
  ·obtain⟨off,he⟩:=hb;cases he;exact (bI.off (i:=0) (j:=3) rfl rfl (by omega)) z9 rfl va
  rintro o w8 ⟨rfl,k8,F8,iD,vb,vd⟩;have bn:=bI.turnQ 3 rfl vb vd;exact⟨_,rfl,rfl,⟨bn.get 1 rfl,bn.get 2 rfl⟩,_,rfl,k8,by simpa using iD,F8,z9,bn⟩
 rintro _ rfl
 try simp only[Act.put,zA,zZ,zS]
 refine Ord3.in_nil rfl ?_;rintro w9 aL ⟨P9,dW,pn⟩;cases dW;obtain⟨k8,iD,F8,z8,pn⟩:=pn;clear af aL ai;have bj:=pn.sub (.cons _ (List.Sublist.refl _));have r:=bj.rule 0 rfl;unfold dS at r;go_wp2_with fail;refine (end_m 0 1 (by simp[dS]) bj rfl).mono ?_;rintro o tC ⟨rfl,tF,iE⟩;go_wp2_with fail;go_ret;exact⟨rfl,k8,F8,G9,iD,iE.sub (.cons _ (List.Sublist.refl _))⟩
end
instance:Inhabited Dd:=⟨⟨0,0,0,0,0⟩⟩
theorem xK {N:Int} {n:Nat} (h:0<=N/\N<=4000000) (hn:n<=1000000):0<=gN (gO N) n/\gN (gO N) n<=4000000:=by
 unfold gN gO
 split<;>split<;>omega
def KR (w0:World) (R:List Item) (v:World):Prop:=Below w0.heap.size w0 v/\∀ a∈R,a.says v/\∀ k,a.F k->k < v.heap.size
theorem Env.kr {w0 w:World} {L R:List Item} (h:Env w0 L w) (hR:∀ a∈R,a∈L):KR w0 R w:=⟨h.below,fun a ha=>⟨(h.2.2 a (hR a ha)).1,fun k hk=>((h.2.2 a (hR a ha)).2 k hk).2⟩⟩
theorem KR.more {w0 w:World} {R:List Item} (h:KR w0 R w) (o:Obj):KR w0 R (w.alloc o):=⟨h.1.alloc h.1.size _,fun a ha=>by
 obtain⟨h1,h2⟩:=h.2 a ha;have hb:Below w.heap.size w (w.alloc o):=(Below.refl _ _).alloc (Nat.le_refl _) o;exact⟨a.loc w _ h1 (fun k hk=>hb.block k (h2 k hk)) hb.size,fun k hk=>Nat.lt_of_lt_of_le (h2 k hk) hb.size⟩⟩
theorem KR.sub {w0 w:World} {L R:List Item} (h:KR w0 R w) (hR:∀ a∈L,a∈R):KR w0 L w:=⟨h.1,fun a ha=>h.2 a (hR a ha)⟩
end
section
open Go.RowKit
theorem L5 (v:Value) (m:Int) (w:World):Calls prog 271 #[v,.int .i64 m] w fun e w'=>e=.returned (.int .i64 0)/\w'=w:=by
 go_enter func271,ntmps271
 go_wp2
 go_ret;exact⟨rfl,rfl⟩
end
section
open Go.RowKit Go.Maps
section
variable {w0 w:World} {R:List Item} {a:Nat} {S:ST} {M:MA}
theorem Er (g o N C:Nat) (part word:Int) (hC:N+1<=C) (Es:In64 part) (jX:aD word) (xL:In64 M.s) (hm:S.m < maxLen) (Et:M.left=.slice (some ⟨g,o,none⟩) (N+1) C) {xs:List Value} (h0:xs[o]?=some (zI part)) (h1:xs[o+1]?=some (zU word)) (hE:Env w0 (ae a (av S.c M)::LT S (eZ g xs::R)) w) :
  Calls prog 217 #[zP a,.iface 28 (zP S.p)] w fun u w'=>u=.returned (zI (if N=0 then 1 else 0))/\∃ nx left G',(N≠0->nx=M.nx/\left=.slice (some ⟨g,o+2,none⟩) N (C - 1))/\Env w0 (ae a (av S.c { M with nx:=nx,left:=left })::LT { S with G:=G',f:=upd S.f (5,M.s,part) word,qc:={ S.qc with s:=wrap64 (S.qc.s+1) },m:=S.m+1 } (eZ g xs::R)) w':=by
 have cf:=cg;have eV:=ve;have dQ:Hid (Wf (5,M.s,part)):=zH (by unfold Wf;exact⟨by unfold In64;omega,xL,Es⟩);have vj:=zH jX;have r:=hE.rule 0 rfl;unfold av at r;simp only[Et] at r;have c0:=hE.lies 5 rfl o _ h0;have c1:=hE.lies 5 rfl (o+1) _ h1;have aE:(0:Int) < ((N+1:Nat):Int):=by omega
 clear Es jX xL;go_enter func217,ntmps217;go_wp2_with fail;have ag:=(hE.box w.heap.size rfl [zI part,zU word] 273).perm (L':=ae a (av S.c M)::LT S (ae w.heap.size [zI part,zU word]::eZ g xs::R)) (List.perm_middle (l₁:=[ae a (av S.c M),_,_,_,_])).symm;clear r c0 c1 hE;generalize w.alloc _=w1 at *;generalize w.heap.size=Y at *;refine Ord.wc [14] (fun v=>ao 0 v a (av S.c M)/\ao 0 v Y [zI part,zU word]) (fun k w'=>∃ G5,Env w0 (ae a (av S.c M)::LT (if k=0 then S else { S with G:=G5,f:=upd S.f (5,M.s,part) word,qc:={ S.qc with s:=wrap64 (S.qc.s+1) },m:=S.m+1 }) (ae Y [zI part,zU word]::eZ g xs::R)) w') ⟨ag.drew.get 0 rfl,ag.drew.get 5 rfl⟩ ⟨S.G,ag.drew⟩ fun af=>?_
 repeat ((first
  | (refine Ord.cv ?_ af.o ?_ ?_;rotate_left;(intro w5 hS;have r:=hS.1.rule;have r1:=hS.2.rule;unfold av at r;go_simp<;>rfl))
  | (refine Ord.co af.o ?_)
  | (refine Ord.cc ?_ ?_ ?_ af.o ?_ ?_ ?_;rotate_left 3;(intro w5 hS;have r:=hS.1.rule;have r1:=hS.2.rule;unfold av at r;go_simp;constructor<;>rfl);(intro w5 hS;(first | (with_reducible refine kp (u7 _ _ _ _) ?_ ?_;rfl;exact fun w6 aj=>⟨⟨hS.1.under aj,hS.2.under aj⟩,fun k h=>h.elim fun G5 h=>⟨G5,h.over aj⟩⟩)))));try simp only[Act.put,zA,zZ,zS])
 refine Ord.ch_turn (v:=.tuple #[]) 0 af.o rfl (by decide) (Or.inl rfl) (by rfl) ?_ ?_
 ·rintro w5 aN ⟨G5,au⟩;simp only[if_true] at au;go_simp;rw[tr];simp only[Result.andThen_ok];go_simp;simp only[Ord.LandsIn];refine (tq 5 M.s part 0 word 0 false dQ.out vj.out hm 3 4 (by decide) au rfl rfl).mono ?_;rintro e w6 ⟨rfl,G6,aq⟩;exact⟨rfl,⟨aq.get 0 rfl,aq.get 5 rfl⟩,G6,aq⟩
 try simp only[Act.put,zA,zZ,zS]
 repeat ((first
  | (refine Ord.cv ?_ af.o ?_ ?_;rotate_left;(intro w5 hS;skip;go_simp<;>rfl))
  | (refine Ord.co af.o ?_));try simp only[Act.put,zA,zZ,zS])
 refine Ord.InText.nil fun w5 hS=>?_;clear af;obtain⟨aL,ai⟩:=Ord.chain_end hS;clear hS;obtain⟨G9,ai⟩:=ai;simp only[List.length_cons,List.length_nil,Nat.zero_add,Nat.one_ne_zero,if_false] at ai;replace ai:=ai.sub (L':=ae a (av S.c M)::LT { S with G:=G9,f:=upd S.f (5,M.s,part) word,qc:={ S.qc with s:=wrap64 (S.qc.s+1) },m:=S.m+1 } (eZ g xs::R)) (.cons_cons _ (.cons_cons _ (.cons_cons _ (.cons_cons _ (.cons_cons _ (.cons _ (List.Sublist.refl _)))))));clear aL ag;have r:=ai.rule 0 rfl;unfold av at r;simp only[Et] at r;have f:=ai.thaw 0 rfl 18 (by simp[av]);have hP:=fun v=>ai.put 0 rfl (j:=18) (by simp[av]) v;obtain _ | C:=C
 ·omega
 obtain _ | N:=N
 ·obtain _ | C:=C
  ·go_wp2_with fail;refine (end_m 0 1 (by simp[av]) (hP _) rfl).mono ?_;rintro o w7 ⟨rfl,nx,aO⟩;go_wp2_with fail;go_ret
   first | exact⟨rfl,nx,_,G9,fun h=>absurd rfl h,aO⟩ | exact⟨rfl,nx,_,G9,aO⟩ | exact⟨rfl,nx.1,nx.2,_,G9,aO⟩ | exact⟨rfl,nx.1,nx.2,_,G9,fun h=>absurd rfl h,aO⟩
  ·go_wp2_with fail;refine (end_m 0 1 (by simp[av]) (hP _) rfl).mono ?_;rintro o w7 ⟨rfl,nx,aO⟩;go_wp2_with fail;go_ret
   first | exact⟨rfl,nx,_,G9,fun h=>absurd rfl h,aO⟩ | exact⟨rfl,nx,_,G9,aO⟩ | exact⟨rfl,nx.1,nx.2,_,G9,aO⟩ | exact⟨rfl,nx.1,nx.2,_,G9,fun h=>absurd rfl h,aO⟩
 ·obtain _ | C:=C
  ·omega
  ·go_wp2_with fail;go_ret
   first | exact⟨rfl,M.nx,_,⟨rfl,rfl⟩,G9,hP _⟩ | exact⟨rfl,M.nx.1,M.nx.2,_,⟨rfl,rfl⟩,G9,hP _⟩
theorem L6 (k p:Nat) (w:World):(method (k+1) 28 (zP p) "Born").run prog w=.ok (271,zP p) w:=by kernel_rfl
theorem L7 (x y:Int) (t:List bF) (bU:S.ql=(x,y,0)::t) (hx:1<=x/\x<=S.cs) (eO:S.cs<=9223372036854775806) (bZ:S.hs=0) (he:0<=S.ce/\S.ce<=9223372036854775807) (hm:S.m < maxLen) (hz:Hid (M.nx.2=zI 0)) (hE:Env w0 (ae a (av S.c M)::LT S R) w) :
  Calls prog 196 #[zP a,.iface 28 (zP S.p)] w fun u w'=>u=.returned (zI 0)/\∃ g c G',(cX S.ck S.ce M.key M.val (IntKind.u64.wrap M.lv)).length<=c/\Env w0 (ae a (av S.c { M with nx:=fa a 11,s:=x,left:=.slice (some ⟨g,2,none⟩) ((cX S.ck S.ce M.key M.val (IntKind.u64.wrap M.lv)).length - 1) (c - 1) })::LT { S with ql:=t,hs:=x,G:=G',f:=upd S.f (5,x,0) S.ce,qc:={ S.qc with s:=wrap64 (S.qc.s+1) },m:=S.m+1 } (eZ g (im (cX S.ck S.ce M.key M.val (IntKind.u64.wrap M.lv)))::R)) w':=by
 have cf:=cg;have Tb:=L6;have r:=hE.rule 0 rfl;unfold av at r;have hQ:=hE.queue 2 rfl;rw[bU] at hQ;go_enter func196,ntmps196;go_wp2_with fail;refine (qk (hE.get 1 rfl)).mono ?_;rintro o w1 ⟨rfl,rfl⟩;go_wp2_with fail;refine (wT x y 0 hQ).mono ?_;rintro o w2 ⟨rfl,hb⟩;have ag:=((hE.over hb).box w2.heap.size rfl [zI x,zI y,zI 0] 97).perm (L':=ae a (av S.c M)::LT S (ae w2.heap.size [zI x,zI y,zI 0]::R)) (List.perm_middle (l₁:=[ae a (av S.c M),_,_,_,_])).symm;clear r hb hQ hE;simp only[tv];go_wp2_with fail;generalize w2.alloc _=w3 at *;generalize w2.heap.size=Y at *;refine Ord.wc [10] (fun v=>ao 0 v Y [zI x,zI y,zI 0]) (fun k w'=>Env w0 (ae a (av S.c (if k=0 then M else { M with s:=x }))::LT S (ae Y [zI x,zI y,zI 0]::R)) w') (ag.drew.get 5 rfl) ag.drew fun af=>?_
 repeat ((first
  | (refine Ord.cv ?_ af.o ?_ ?_;rotate_left;(intro w5 hS;have r:=hS.rule;go_simp<;>rfl))
  | (refine Ord.co af.o ?_)
  | (refine Ord.cc ?_ ?_ ?_ af.o ?_ ?_ ?_;rotate_left 3;(intro w5 hS;have r:=hS.rule;go_simp;constructor<;>rfl);(intro w5 hS;(first | (with_reducible refine (L5 _ _ _).mono ?_;rintro e w6 ⟨rfl,rfl⟩;constructor;rfl;exact⟨hS,fun k h=>h⟩)))));try simp only[Act.put,zA,zZ,zS])
 refine Ord.ch_turn (v:=undef) 0 af.o rfl (by decide) (Or.inl rfl) (by rfl) ?_ ?_
 ·rintro w5 aN au;simp only[if_true] at au;have r:=au.rule 0 rfl;unfold av at r;have f6:=au.thaw 0 rfl 16 (by simp[av]);have f7:=au.thaw 0 rfl 17 (by simp[av]);go_simp;have h9:=(au.put 0 rfl (j:=16) (by simp[av]) (zI x)).put 0 rfl (j:=17) (by simp[av]) (zI 0);replace h9:Env w0 (ae a (av S.c { M with s:=x })::LT S (ae Y [zI x,zI y,zI 0]::R)) _:=h9;exact⟨rfl,h9.get 5 rfl,h9⟩
 try simp only[Act.put,zA,zZ,zS]
 repeat ((first
  | (refine Ord.cv ?_ af.o ?_ ?_;rotate_left;(intro w5 hS;skip;go_simp<;>rfl))
  | (refine Ord.co af.o ?_));try simp only[Act.put,zA,zZ,zS])
 refine Ord.InText.nil fun w5 hS=>?_;clear af;obtain⟨aL,ai⟩:=Ord.chain_end hS;clear hS;simp only[List.length_cons,List.length_nil,Nat.zero_add,Nat.one_ne_zero,if_false] at ai;clear aL ag;replace ai:=ai.sub (L':=ae a (av S.c { M with s:=x })::LT S R) (.cons_cons _ (.cons_cons _ (.cons_cons _ (.cons_cons _ (.cons_cons _ (.cons _ (List.Sublist.refl _)))))));have hQ:=ai.queue 2 rfl;rw[bU] at hQ;go_wp2_with fail;refine (Dw x y 0 hQ).mono ?_;rintro o w6 ⟨rfl,Eu,tY⟩;have aq:Env w0 (ae a (av S.c { M with s:=x })::LT { S with ql:=t } R) w6:=ai.turnQ 2 rfl Eu tY;clear hQ Eu tY ai;go_wp2_with fail;refine Ord.wc [9] (fun v=>ao 0 v a (av S.c { M with s:=x })) (fun k w'=>Env w0 (ae a (av S.c { M with s:=x })::LT (if k=0 then { S with ql:=t } else { S with ql:=t,hs:=x }) R) w') (aq.drew.get 0 rfl) aq.drew fun af=>?_
 repeat ((first
  | (refine Ord.cv ?_ af.o ?_ ?_;rotate_left;(intro w5 hS;have r:=hS.rule;unfold av at r;go_simp<;>rfl))
  | (refine Ord.co af.o ?_)
  | (refine Ord.cc ?_ ?_ ?_ af.o ?_ ?_ ?_;rotate_left 3;(intro w5 hS;have r:=hS.rule;unfold av at r;go_simp;constructor<;>rfl);(intro w5 hS;(first | fail))));try simp only[Act.put,zA,zZ,zS])
 refine Ord.ch_turn (v:=zI 0) 0 af.o rfl (by decide) (Or.inl rfl) (by rfl) ?_ ?_
 ·rintro w5 aN au;simp only[if_true] at au;go_simp;simp only[Ord.LandsIn];refine (Jg x 0 bZ hx 1 au rfl).mono ?_;rintro e w6 ⟨rfl,aO⟩;exact⟨rfl,aO.get 0 rfl,aO⟩
 try simp only[Act.put,zA,zZ,zS]
 repeat ((first
  | (refine Ord.cv ?_ af.o ?_ ?_;rotate_left;(intro w5 hS;skip;go_simp<;>rfl))
  | (refine Ord.co af.o ?_));try simp only[Act.put,zA,zZ,zS])
 refine Ord.InText.nil fun w5 hS=>?_;clear af;obtain⟨aL,ai⟩:=Ord.chain_end hS;clear hS;simp only[List.length_cons,List.length_nil,Nat.zero_add,Nat.one_ne_zero,if_false] at ai;clear aL aq;have r:=ai.rule 0 rfl;unfold av at r;go_wp2_with fail;refine (JG (S:={ S with ql:=t,hs:=x }) (M:={ M with s:=x }) he ai).mono ?_;rintro o w7 ⟨g,c,rfl,vw,aO⟩;replace aO:=aO.perm (L':=ae a (av S.c { M with s:=x })::LT { S with ql:=t,hs:=x } (eZ g (im (cX S.ck S.ce M.key M.val (IntKind.u64.wrap M.lv)))::R)) (List.perm_middle (l₁:=[ae a (av S.c { M with s:=x }),_,_,_,_])).symm;clear r ai;have hle:3<=(cX S.ck S.ce M.key M.val (IntKind.u64.wrap M.lv)).length:=by unfold cX;simp
 have h0:(im (cX S.ck S.ce M.key M.val (IntKind.u64.wrap M.lv)))[0]?=some (zI 0):=by simp[cX,im]
 have h1:(im (cX S.ck S.ce M.key M.val (IntKind.u64.wrap M.lv)))[0+1]?=some (zU S.ce):=by simp[cX,im]
 generalize tP:cX S.ck S.ce M.key M.val (IntKind.u64.wrap M.lv)=W at *;have mP:=zH tP;clear tP;obtain⟨N,hN⟩:∃ N,W.length=N+1:=⟨W.length - 1,by omega⟩;have HN:=zH hN;rw[hN] at vw hle ⊢;simp only[hN];have jw:N≠0:=by omega
 clear hN hle;have r:=aO.rule 0 rfl;unfold av at r;have f6:=aO.thaw 0 rfl 18 (by simp[av]);have h7:=aO.put 0 rfl (j:=18) (by simp[av]) (.slice (some ⟨g,0,none⟩) (N+1) c);have eW:=goOn_m (fn:=.func 217) (fs:=#[zP a]) (cs:=#[]) 0 (by simp[av]) (by exact congrArg some hz.out) h7 rfl;have jG:=zH eW;clear eW h7;go_wp2_with fail;refine jG.out.mono ?_;rintro o w9 ⟨rfl,h8⟩;replace h8:Env w0 (ae a (av S.c { M with nx:=fa a 11,s:=x,left:=.slice (some ⟨g,0,none⟩) (N+1) c })::LT { S with ql:=t,hs:=x } (eZ g (im W)::R)) _:=h8;clear jG f6 r aO;have bY:=Er (S:={ S with ql:=t,hs:=x }) (M:={ M with nx:=fa a 11,s:=x,left:=.slice (some ⟨g,0,none⟩) (N+1) c }) g 0 N c 0 S.ce vw (by unfold In64;omega) (by unfold aD;omega) (by unfold In64;dsimp only;omega) hm rfl h0 h1 h8;have gi:=zH bY;clear bY h8 he hx eO;go_wp2_with fail;refine gi.out.mono ?_;rintro o w8 ⟨rfl,nx,left,G',AK,bn⟩;obtain⟨rfl,rfl⟩:=AK jw;rw[if_neg jw];go_wp2_with fail;go_ret;rw[mP.out,HN.out];exact⟨rfl,g,c,G',vw,bn⟩
end
theorem L8 (pc:Nat) (ar:Array Value) (v:World):(callFunc (mJ pc) ar).run prog v=.ok (.enter (mJ pc) ar) v:=by
 unfold mJ
 repeat' split
 all_goals kernel_rfl
section
variable {w0 w:World} {R:List Item} {a:Nat} {S:ST} {M:MA}
theorem L9 (pc:Nat) (u:Value) (Q:Ending->World->Prop) (hE:Env w0 (ae a (av S.c M)::LT S R) w) (bo:M.nx=fa a pc)
  (hc:Calls prog (mJ pc) #[zP a,u] w fun e w'=>∃ s,e=.returned (zI s)/\Q (.returned (zI s)) w') :
  Calls prog 151 #[zP a,u] w Q:=by
 have hn:w.cell? ⟨a,1,none⟩=some (.func (.func (mJ pc)) #[zP a] #[]):=by
  have:=hE.rule 0 rfl 1;rw[this,show (av S.c M)[1]?=some M.nx.1 from rfl,bo];rfl
 have fV:w.cell? ⟨a,1+1,none⟩=some (zI 0):=by
  have:=hE.rule 0 rfl 2;rw[this,show (av S.c M)[2]?=some M.nx.2 from rfl,bo];rfl
 have bY:=stepMv_r (o:=1) (mJ pc) (L8 pc) (zP a) u (fun o w'=>∃ s,o=.returned (zI s)/\Q (.returned (zI s)) w') hn fV (hc.mono fun e w' ⟨s,he,hq⟩=>⟨s,he,s,rfl,hq⟩);have gi:=zH bY;clear bY hc;go_enter func151,ntmps151;go_wp2_with fail;refine gi.out.mono ?_;rintro o w1 ⟨s,rfl,hQ⟩;go_wp2_with fail;exact hQ
theorem oo {st:Int} {Y:World->Prop} (pc:Nat) (u:Value) (hE:Env w0 (ae a (av S.c M)::LT S R) w) (bo:M.nx=fa a pc)
  (hc:Calls prog (mJ pc) #[zP a,u] w fun o w'=>o=.returned (zI st)/\Y w') :
  Calls prog 151 #[zP a,u] w fun o w'=>o=.returned (zI st)/\Y w' :=
 L9 pc u _ hE bo (hc.mono fun _ _ h=>⟨st,h.1,rfl,h.2⟩)
theorem Ev (k key val lv:Int) (hh:S.hs=0) (hE:Env w0 (LT S R) w) :
  Calls prog 149 #[zP S.c,.agg #[zI k,zU key,zU val,zI lv]] w fun o w'=>(bk S.ql S.ce S.cl=0/\o=.returned (.tuple #[.pointer none,zI 4])/\Env w0 (LT S R) w')\/(bk S.ql S.ce S.cl≠0/\∃ a,o=.returned (.tuple #[zP a,zI 0])/\Env w0 (ae a (av S.c { nx:=fa a (bk S.ql S.ce S.cl),left:=.slice none 0 0,k:=k,key:=key,val:=val,lv:=lv,h:=0,n:=0,r:=0,s:=0 })::LT S R) w'):=by
 have ag:=hE.box w.heap.size rfl [zI k,zU key,zU val,zI lv] 55;have hb:(S.hs != 0)=false:=by simpa using hh
 clear hE;go_enter func149,ntmps149;go_wp2_with fail;refine (oO (ag.get 1 rfl)).mono ?_;rintro o w1 ⟨rfl,cV⟩;rw[hb];have az:=(ag.over cV).more (.cells [zI 0,zI 0].toArray 92);clear cV ag;have r0:=az.rule 0 rfl;go_wp2_with fail;have bM:=(az.box (w1.heap.size+1) (by simp) (av S.c { nx:=(.nilFunc,zI 0),left:=.slice none 0 0,k:=k,key:=key,val:=val,lv:=lv,h:=0,n:=0,r:=0,s:=0 }) 241).sub (L':=ae (w1.heap.size+1) (av S.c { nx:=(.nilFunc,zI 0),left:=.slice none 0 0,k:=k,key:=key,val:=val,lv:=lv,h:=0,n:=0,r:=0,s:=0 })::LT S R) (.cons_cons _ (.cons _ (List.Sublist.refl _)));refine (DA (zH rfl) bM).mono ?_;rintro o w2 ⟨rfl,nx,bo,bD⟩;clear r0 az bM
 by_cases hd:bk S.ql S.ce S.cl=0
 ·have vy:dI S.ql S.ce S.cl=4:=by unfold dI;rw[if_pos hd]
  rw[vy];have HD:=zH hd;clear hd vy bo;go_wp2_with fail
  go_ret2
  exact .inl ⟨HD.out,rfl,bD.sub (.cons _ (List.Sublist.refl _))⟩
 ·have vy:dI S.ql S.ce S.cl=0:=by unfold dI;rw[if_neg hd]
  rw[vy];have HD:=zH hd;have px:=zH (bo hd);clear hd vy bo;go_wp2_with fail
  go_ret2
  rw[px.out] at bD;exact .inr ⟨HD.out,_,rfl,bD⟩
end
def SP (C:Cf) (X:Tm) (V:Wm) (T:Th) (f:aI->Int) (G:Nat->Prop) (qc:bN) (n:Nat):ST:={ c:=X.c,q:=X.q,p:=V.p,cc:=V.cc,ck:=C.k,cs:=C.s,cb:=C.b,ch:=C.h,cl:=C.l,ce:=T.e,cr:=X.cr,hs:=T.hs,F:=X.F,ql:=T.ql,kq:=X.kq,G:=G,f:=f,qc:=qc,m:=n }
def WD (C:Cf) (d:Dd) (T:Th):List (Int × Int):=cX C.k T.e d.key d.val (IntKind.u64.wrap d.lv)
def fh (a:Nat) (d:Dd) (T:Th) (left:Value) (s:Int):MA:={ nx:=fa a T.apc,left:=left,k:=d.ok,key:=d.key,val:=d.val,lv:=d.lv,h:=T.ah,n:=T.an,r:=T.ar,s:=s }
def si (c a:Nat) (d:Dd) (T:Th) (left:Value) (s:Int):List Value:=av c (fh a d T left s)
def iU (C:Cf) (d:Dd) (T:Th) (left:Value) (s:Int) (gl:List Item):Prop :=
 if T.apc<=10 then gl=[] else ∃ g c9 N,gl=[eZ g (im (WD C d T))]/\s=T.hs/\left=.slice (some ⟨g,2 * (T.apc - 10),none⟩) (N+1) c9/\N+1<=c9/\(WD C d T).length=(T.apc - 10)+(N+1)
structure tZ (C:Cf) (T:Th) (n:Nat):Prop where
 (he:0<=T.e/\T.e<=9223372036854775807)
 (hn:n < maxLen)
 (hl:T.ql.length+1<=1000000)
 (hs:0<=C.s/\C.s<=9223372036854775806)
 (hw:aD T.ah/\aD T.an/\aD T.ar)
 (apc:T.apc=1\/T.apc=2\/T.apc=3\/T.apc=4\/T.apc=5\/T.apc=6\/10<=T.apc)
 (born:T.apc=10->T.hs=0/\∃ x y t,T.ql=(x,y,0)::t/\1<=x/\x<=C.s)
 (hh:In64 T.hs)
theorem Ma (l:List (Int × Int)) (k:Nat) {a b:Int} (h:l[k]?=some (a,b)):(im l)[2 * k]?=some (zI a)/\(im l)[2 * k+1]?=some (zU b):=by
 induction l generalizing k with
 | nil=>simp at h
 | cons p r ih =>
  cases k with
  | zero =>
   simp at h;subst h;simp[im]
  | succ k =>
   have h':r[k]?=some (a,b):=by simpa using h
   have:=ih k h';have e1:2 * (k+1)=2 * k+1+1:=by omega
   rw[e1]
   simpa [im] using this
theorem Mb {C:Cf} {d:Dd} {T:Th} (he:0<=T.e/\T.e<=9223372036854775807) (hd:aD d.key/\aD d.val) {k:Nat} {a b:Int} (h:(WD C d T)[k]?=some (a,b)):In64 a/\aD b:=by
 have hm:(a,b)∈WD C d T:=List.mem_of_getElem? h;have hw:aD (IntKind.u64.wrap d.lv):=by rw[IntKind.wrap_u64];unfold aD;omega
 unfold WD cX at hm;have h0:aD 0:=by unfold aD;omega
 have h1:aD T.e:=by unfold aD;omega
 split at hm
 ·simp at hm
  rcases hm with ⟨rfl,rfl⟩ | ⟨rfl,rfl⟩ | ⟨rfl,rfl⟩ | ⟨rfl,rfl⟩<;>exact⟨by unfold In64;omega,by first | exact h1 | exact h0 | exact hd.1 | exact hd.2⟩
 ·split at hm
  ·simp at hm
   rcases hm with ⟨rfl,rfl⟩ | ⟨rfl,rfl⟩ | ⟨rfl,rfl⟩ | ⟨rfl,rfl⟩ | ⟨rfl,rfl⟩<;>exact⟨by unfold In64;omega,by first | exact h1 | exact h0 | exact hd.1 | exact hw⟩
  ·simp at hm
   rcases hm with ⟨rfl,rfl⟩ | ⟨rfl,rfl⟩ | ⟨rfl,rfl⟩<;>exact⟨by unfold In64;omega,by first | exact h1 | exact h0 | exact hd.1⟩
theorem mU (ql:List bF) (e l:Int):bk ql e l=0\/bk ql e l=1\/bk ql e l=2\/bk ql e l=10:=by
 rcases ql with _ | ⟨⟨x,y,z⟩,t⟩
 ·exact .inr (.inr (.inl rfl))
 ·simp only[bk]
  split
  ·simp
  ·split<;>simp
theorem AL {pc:Nat} (h:11<=pc):mJ pc=217:=by
 unfold mJ;(iterate 6 rw[if_neg (by omega)]);rw[if_neg (by omega)]
theorem iU.of {C:Cf} {d:Dd} {T:Th} {left:Value} {s:Int} (h:T.apc<=10):iU C d T left s []:=by unfold iU;rw[if_pos h]
theorem AO (C:Cf) (d:Dd) (T:Th):3<=(WD C d T).length/\(WD C d T).length<=5:=by
 unfold WD;rw[D5]
 split
 ·omega
 ·split<;>omega
section
variable {w0 w:World} {R:List Item} {C:Cf} {d:Dd} {X:Tm} {V:Wm} {T:Th} {f:aI->Int} {G:Nat->Prop} {qc:bN} {n a:Nat} {left:Value} {s:Int} {gl:List Item}
theorem Mc (hg:bE w0) (hk:tZ C T n) (hd:aD d.key/\aD d.val) (fJ:iU C d T left s gl) (hE:Env w0 (ae a (si X.c a d T left s)::LT (SP C X V T f G qc n) (gl++R)) w) :
  Calls prog 151 #[zP a,.iface 28 (zP V.p)] w fun o w'=>o=.returned (zI (aT C d T f).1)/\∃ (F':Nat->Prop) (k':Nat) (G':Nat->Prop) (bt:bN) (n':Nat),Nx n qc n' bt/\(((aT C d T f).1=0/\∃ xM s' vz,iU C d (aT C d T f).2.1 xM s' vz/\Env w0 (ae a (si X.c a d (aT C d T f).2.1 xM s')::LT (SP C { X with F:=F',kq:=k' } V (aT C d T f).2.1 (aT C d T f).2.2 G' bt n') (vz++R)) w')\/((aT C d T f).1≠0/\Env w0 (LT (SP C { X with F:=F',kq:=k' } V (aT C d T f).2.1 (aT C d T f).2.2 G' bt n') R) w')):=by
 have drop:∀ {S:ST} {y:Item} {w':World},Env w0 (y::LT S R) w'->Env w0 (LT S R) w':=fun h=>h.sub (.cons _ (List.Sublist.refl _));have j7:∀ x,aD (f x):=fun x=>(hE.cell 4 rfl).words.1 x
 rcases hk.apc with h1 | h1 | h1 | h1 | h1 | h1 | h1
 ·have eB:gl=[]:=by unfold iU at fJ;rw[if_pos (by omega)] at fJ;exact fJ
  subst eB;have bp:aT C d T f=(2,T,swf f (1,0,0) T.e (T.e+1)):=by unfold aT;rw[if_pos h1]
  rw[bp];refine (oo (S:=SP C X V T f G qc n) (M:=fh a d T left s) 1 _ hE (by simp[fh,h1]) (Js (S:=SP C X V T f G qc n) (M:=fh a d T left s) hk.he hk.hn hE)).mono ?_;rintro o w1 ⟨rfl,nx,G',ag⟩;exact⟨rfl,X.F,X.kq,G',_,n+1,⟨Nat.le_refl _,(by first | exact Or.inl ⟨rfl,rfl,rfl,rfl⟩ | exact Or.inr (Or.inl ⟨rfl,rfl,rfl,rfl⟩) | exact Or.inr (Or.inr (Or.inl ⟨rfl,rfl,rfl,rfl⟩)) | exact Or.inr (Or.inr (Or.inr ⟨rfl,rfl,rfl,rfl⟩)))⟩,.inr ⟨show (2:Int)≠0 by decide,drop ag⟩⟩
 ·have eB:gl=[]:=by unfold iU at fJ;rw[if_pos (by omega)] at fJ;exact fJ
  subst eB
  by_cases hx:C.s<=f (3,0,0)
  ·have bp:aT C d T f=(0,{ T with apc:=3 },upd f (3,0,0) (IntKind.u64.wrap (f (3,0,0)+1))):=by unfold aT;rw[if_neg (by omega),if_pos h1,if_pos hx]
   rw[bp];refine (oo (S:=SP C X V T f G qc n) (M:=fh a d T left s) 2 _ hE (by simp[fh,h1]) (Jv (S:=SP C X V T f G qc n) (M:=fh a d T left s) _ rfl (j7 _).1 hx hk.hs hk.hn (zH rfl) hE)).mono ?_;rintro o w1 ⟨rfl,G',ag⟩;exact⟨rfl,X.F,X.kq,G',_,n+1,⟨Nat.le_refl _,(by first | exact Or.inl ⟨rfl,rfl,rfl,rfl⟩ | exact Or.inr (Or.inl ⟨rfl,rfl,rfl,rfl⟩) | exact Or.inr (Or.inr (Or.inl ⟨rfl,rfl,rfl,rfl⟩)) | exact Or.inr (Or.inr (Or.inr ⟨rfl,rfl,rfl,rfl⟩)))⟩,.inl ⟨rfl,left,s,[],.of (show (3:Nat)<=10 by decide),ag⟩⟩
  ·have bp:aT C d T f=(dI (T.ql++[(f (3,0,0)+1,0,0)]) T.e C.l,{ T with ql:=T.ql++[(f (3,0,0)+1,0,0)],apc:=bk (T.ql++[(f (3,0,0)+1,0,0)]) T.e C.l },upd f (3,0,0) (IntKind.u64.wrap (f (3,0,0)+1))):=by unfold aT;rw[if_neg (by omega),if_pos h1,if_neg hx]
   rw[bp];refine (oo (S:=SP C X V T f G qc n) (M:=fh a d T left s) 2 _ hE (by simp[fh,h1]) (Jw (S:=SP C X V T f G qc n) (M:=fh a d T left s) _ rfl (Nat.le_trans hk.hl (by decide)) (j7 _).1 (show f (3,0,0) < C.s by omega) hk.hs.2 hk.hn (zH rfl) hE)).mono ?_;rintro o w1 ⟨rfl,nx,k',F',G',bo,-,ag⟩;have AP:=mU (T.ql++[(f (3,0,0)+1,0,0)]) T.e C.l
   by_cases hz:bk (T.ql++[(f (3,0,0)+1,0,0)]) T.e C.l=0
   ·exact⟨rfl,F',k',G',_,n+1,⟨Nat.le_refl _,(by first | exact Or.inl ⟨rfl,rfl,rfl,rfl⟩ | exact Or.inr (Or.inl ⟨rfl,rfl,rfl,rfl⟩) | exact Or.inr (Or.inr (Or.inl ⟨rfl,rfl,rfl,rfl⟩)) | exact Or.inr (Or.inr (Or.inr ⟨rfl,rfl,rfl,rfl⟩)))⟩,.inr ⟨show dI (T.ql++[(f (3,0,0)+1,0,0)]) T.e C.l≠0 by unfold dI;rw[if_pos hz];decide,drop ag⟩⟩
   ·have bo:=bo hz;subst bo;exact⟨rfl,F',k',G',_,n+1,⟨Nat.le_refl _,(by first | exact Or.inl ⟨rfl,rfl,rfl,rfl⟩ | exact Or.inr (Or.inl ⟨rfl,rfl,rfl,rfl⟩) | exact Or.inr (Or.inr (Or.inl ⟨rfl,rfl,rfl,rfl⟩)) | exact Or.inr (Or.inr (Or.inr ⟨rfl,rfl,rfl,rfl⟩)))⟩,.inl ⟨show dI (T.ql++[(f (3,0,0)+1,0,0)]) T.e C.l=0 by unfold dI;rw[if_neg hz],left,s,[],.of (show bk (T.ql++[(f (3,0,0)+1,0,0)]) T.e C.l<=10 by omega),ag⟩⟩
 ·have eB:gl=[]:=by unfold iU at fJ;rw[if_pos (by omega)] at fJ;exact fJ
  subst eB;have bp:aT C d T f=(gC (f (2,0,0)) C.l,{ T with ah:=f (2,0,0),apc:=4 },f):=by unfold aT;rw[if_neg (by omega),if_neg (by omega),if_pos h1]
  rw[bp];refine (oo (S:=SP C X V T f G qc n) (M:=fh a d T left s) 3 _ hE (by simp[fh,h1]) (Jy (S:=SP C X V T f G qc n) (M:=fh a d T left s) _ rfl hg (zH rfl) hE)).mono ?_;rintro o w1 ⟨rfl,nx,bo,ag⟩
  by_cases hz:gC (f (2,0,0)) C.l=0
  ·have bo:=bo hz;subst bo;exact⟨rfl,X.F,X.kq,G,_,n,⟨by omega,(by first | exact Or.inl ⟨rfl,rfl,rfl,rfl⟩ | exact Or.inr (Or.inl ⟨rfl,rfl,rfl,rfl⟩) | exact Or.inr (Or.inr (Or.inl ⟨rfl,rfl,rfl,rfl⟩)) | exact Or.inr (Or.inr (Or.inr ⟨rfl,rfl,rfl,rfl⟩)))⟩,.inl ⟨hz,left,s,[],.of (show (4:Nat)<=10 by decide),ag⟩⟩
  ·exact⟨rfl,X.F,X.kq,G,_,n,⟨by omega,(by first | exact Or.inl ⟨rfl,rfl,rfl,rfl⟩ | exact Or.inr (Or.inl ⟨rfl,rfl,rfl,rfl⟩) | exact Or.inr (Or.inr (Or.inl ⟨rfl,rfl,rfl,rfl⟩)) | exact Or.inr (Or.inr (Or.inr ⟨rfl,rfl,rfl,rfl⟩)))⟩,.inr ⟨hz,drop ag⟩⟩
 ·have eB:gl=[]:=by unfold iU at fJ;rw[if_pos (by omega)] at fJ;exact fJ
  subst eB;have bp:aT C d T f=(0,{ T with an:=f (5,aA T.ah,2),apc:=5 },f):=by unfold aT;(iterate 3 rw[if_neg (by omega)]);rw[if_pos h1]
  rw[bp];refine (oo (S:=SP C X V T f G qc n) (M:=fh a d T left s) 4 _ hE (by simp[fh,h1]) (Jz (S:=SP C X V T f G qc n) (M:=fh a d T left s) _ rfl hk.hw.1 hg (zH rfl) hE)).mono ?_;rintro o w1 ⟨rfl,ag⟩;exact⟨rfl,X.F,X.kq,G,_,n,⟨by omega,(by first | exact Or.inl ⟨rfl,rfl,rfl,rfl⟩ | exact Or.inr (Or.inl ⟨rfl,rfl,rfl,rfl⟩) | exact Or.inr (Or.inr (Or.inl ⟨rfl,rfl,rfl,rfl⟩)) | exact Or.inr (Or.inr (Or.inr ⟨rfl,rfl,rfl,rfl⟩)))⟩,.inl ⟨rfl,left,s,[],.of (show (5:Nat)<=10 by decide),ag⟩⟩
 ·have eB:gl=[]:=by unfold iU at fJ;rw[if_pos (by omega)] at fJ;exact fJ
  subst eB;have bp:aT C d T f=(0,{ T with ar:=f (5,aA T.ah,1),apc:=6 },f):=by unfold aT;(iterate 4 rw[if_neg (by omega)]);rw[if_pos h1]
  rw[bp];refine (oo (S:=SP C X V T f G qc n) (M:=fh a d T left s) 5 _ hE (by simp[fh,h1]) (JA (S:=SP C X V T f G qc n) (M:=fh a d T left s) _ rfl hk.hw.1 hg (zH rfl) hE)).mono ?_;rintro o w1 ⟨rfl,ag⟩;exact⟨rfl,X.F,X.kq,G,_,n,⟨by omega,(by first | exact Or.inl ⟨rfl,rfl,rfl,rfl⟩ | exact Or.inr (Or.inl ⟨rfl,rfl,rfl,rfl⟩) | exact Or.inr (Or.inr (Or.inl ⟨rfl,rfl,rfl,rfl⟩)) | exact Or.inr (Or.inr (Or.inr ⟨rfl,rfl,rfl,rfl⟩)))⟩,.inl ⟨rfl,left,s,[],.of (show (6:Nat)<=10 by decide),ag⟩⟩
 ·have eB:gl=[]:=by unfold iU at fJ;rw[if_pos (by omega)] at fJ;exact fJ
  subst eB
  by_cases hx:f (2,0,0)=T.ah
  ·have bp:aT C d T f=(dI (T.ql++[(aA T.ah,bg T.ar,0)]) T.e C.l,{ T with ql:=T.ql++[(aA T.ah,bg T.ar,0)],apc:=bk (T.ql++[(aA T.ah,bg T.ar,0)]) T.e C.l },swf f (2,0,0) T.ah (eh T.ah (aA T.an))):=by unfold aT;(iterate 5 rw[if_neg (by omega)]);rw[if_pos h1,if_pos hx]
   rw[bp];refine (oo (S:=SP C X V T f G qc n) (M:=fh a d T left s) 6 _ hE (by simp[fh,h1]) (JC (S:=SP C X V T f G qc n) (M:=fh a d T left s) hx hk.hw.2.2 (Nat.le_trans hk.hl (by decide)) hk.hw.1 hk.hw.2.1 hg hk.hn (zH rfl) hE)).mono ?_;rintro o w1 ⟨rfl,nx,k',F',G',bo,-,ag⟩;have AP:=mU (T.ql++[(aA T.ah,bg T.ar,0)]) T.e C.l
   by_cases hz:bk (T.ql++[(aA T.ah,bg T.ar,0)]) T.e C.l=0
   ·exact⟨rfl,F',k',G',_,n+1,⟨Nat.le_refl _,(by first | exact Or.inl ⟨rfl,rfl,rfl,rfl⟩ | exact Or.inr (Or.inl ⟨rfl,rfl,rfl,rfl⟩) | exact Or.inr (Or.inr (Or.inl ⟨rfl,rfl,rfl,rfl⟩)) | exact Or.inr (Or.inr (Or.inr ⟨rfl,rfl,rfl,rfl⟩)))⟩,.inr ⟨show dI (T.ql++[(aA T.ah,bg T.ar,0)]) T.e C.l≠0 by unfold dI;rw[if_pos hz];decide,drop ag⟩⟩
   ·have bo:=bo hz;subst bo;exact⟨rfl,F',k',G',_,n+1,⟨Nat.le_refl _,(by first | exact Or.inl ⟨rfl,rfl,rfl,rfl⟩ | exact Or.inr (Or.inl ⟨rfl,rfl,rfl,rfl⟩) | exact Or.inr (Or.inr (Or.inl ⟨rfl,rfl,rfl,rfl⟩)) | exact Or.inr (Or.inr (Or.inr ⟨rfl,rfl,rfl,rfl⟩)))⟩,.inl ⟨show dI (T.ql++[(aA T.ah,bg T.ar,0)]) T.e C.l=0 by unfold dI;rw[if_neg hz],left,s,[],.of (show bk (T.ql++[(aA T.ah,bg T.ar,0)]) T.e C.l<=10 by omega),ag⟩⟩
  ·have bp:aT C d T f=(0,{ T with apc:=3 },swf f (2,0,0) T.ah (eh T.ah (aA T.an))):=by unfold aT;(iterate 5 rw[if_neg (by omega)]);rw[if_pos h1,if_neg hx]
   rw[bp];refine (oo (S:=SP C X V T f G qc n) (M:=fh a d T left s) 6 _ hE (by simp[fh,h1]) (JB (S:=SP C X V T f G qc n) (M:=fh a d T left s) _ rfl hx hk.hw.1 hk.hw.2.1 hg hk.hn (zH rfl) hE)).mono ?_;rintro o w1 ⟨rfl,G',ag⟩;exact⟨rfl,X.F,X.kq,G',_,n+1,⟨Nat.le_refl _,(by first | exact Or.inl ⟨rfl,rfl,rfl,rfl⟩ | exact Or.inr (Or.inl ⟨rfl,rfl,rfl,rfl⟩) | exact Or.inr (Or.inr (Or.inl ⟨rfl,rfl,rfl,rfl⟩)) | exact Or.inr (Or.inr (Or.inr ⟨rfl,rfl,rfl,rfl⟩)))⟩,.inl ⟨rfl,left,s,[],.of (show (3:Nat)<=10 by decide),ag⟩⟩
 ·obtain⟨lJ,Md⟩:=AO C d T
  by_cases mV:T.apc=10
  ·have eB:gl=[]:=by unfold iU at fJ;rw[if_pos (by omega)] at fJ;exact fJ
   subst eB;obtain⟨bZ,x,y,t,bU,qn,j8⟩:=hk.born mV;have bp:aT C d T f=(eF 0 (WD C d T).length,{ T with ql:=t,hs:=x,apc:=11 },upd f (5,x,0) T.e):=by
    unfold aT;(iterate 5 rw[if_neg (by omega)]);rw[if_neg (by omega)];simp only[mV,bU,if_true,List.tail_cons,List.headD_cons];rfl
   have ua:eF 0 (WD C d T).length=0:=by unfold eF;rw[if_neg (by omega)]
   rw[bp,ua];refine (oo (S:=SP C X V T f G qc n) (M:=fh a d T left s) 10 _ hE (by simp[fh,mV]) (L7 (S:=SP C X V T f G qc n) (M:=fh a d T left s) x y t bU ⟨qn,j8⟩ hk.hs.2 bZ hk.he hk.hn (zH rfl) hE)).mono ?_;rintro o w1 ⟨rfl,g,c,G',vw,ag⟩;obtain⟨N,hN⟩:∃ N,(WD C d T).length=N+2:=⟨(WD C d T).length - 2,by omega⟩;have Tc:N+2<=c:=by rw[<- hN];exact vw
   have uK:iU C d { T with ql:=t,hs:=x,apc:=11 } (.slice (some ⟨g,2,none⟩) ((WD C d T).length - 1) (c - 1)) x [eZ g (im (WD C d T))]:=by
    unfold iU;rw[if_neg (show ¬ (11:Nat)<=10 by decide)];refine⟨g,c - 1,N,rfl,rfl,?_,by omega,?_⟩
    ·rw[hN];rfl
    ·show (WD C d T).length=(11 - 10)+(N+1);omega
   exact⟨rfl,X.F,X.kq,G',_,n+1,⟨Nat.le_refl _,(by first | exact Or.inl ⟨rfl,rfl,rfl,rfl⟩ | exact Or.inr (Or.inl ⟨rfl,rfl,rfl,rfl⟩) | exact Or.inr (Or.inr (Or.inl ⟨rfl,rfl,rfl,rfl⟩)) | exact Or.inr (Or.inr (Or.inr ⟨rfl,rfl,rfl,rfl⟩)))⟩,.inl ⟨rfl,_,x,_,uK,ag⟩⟩
  ·have Ew:11<=T.apc:=by omega
   unfold iU at fJ;rw[if_neg (by omega)] at fJ;obtain⟨g,c9,N,rfl,rfl,rfl,nX,hlen⟩:=fJ;obtain⟨k,Me⟩:∃ k,T.apc=10+k:=⟨T.apc - 10,by omega⟩;have lL:T.apc - 10=k:=by omega
   rw[lL] at hlen hE;obtain⟨⟨part,word⟩,gm⟩:∃ pw,(WD C d T)[k]?=some pw:=⟨_,List.getElem?_eq_getElem (by omega)⟩;obtain⟨Mf,Mg⟩:=Mb hk.he hd gm;obtain⟨Ey,nZ⟩:=Ma _ _ gm;have bp:aT C d T f=(eF k (WD C d T).length,{ T with apc:=T.apc+1 },upd f (5,T.hs,part) word):=by
    unfold aT;(iterate 5 rw[if_neg (by omega)]);rw[if_neg (by omega)];have hg:(cX C.k T.e d.key d.val (IntKind.u64.wrap d.lv)).getD k (0,0)=(part,word):=by
     have h9:(cX C.k T.e d.key d.val (IntKind.u64.wrap d.lv))[k]?=some (part,word):=gm;rw[List.getD_eq_getElem?_getD,h9];rfl
    simp only[lL,hg];rw[if_neg (by omega)];rfl
   have bY:=Er (S:=SP C X V T f G qc n) (M:={ nx:=fa a T.apc,left:=.slice (some ⟨g,2 * k,none⟩) (N+1) c9,k:=d.ok,key:=d.key,val:=d.val,lv:=d.lv,h:=T.ah,n:=T.an,r:=T.ar,s:=T.hs }) g (2 * k) N c9 part word nX Mf Mg hk.hh hk.hn rfl Ey nZ hE;rw[<- AL Ew] at bY;rw[bp];have ua:eF k (WD C d T).length=if N=0 then 1 else 0:=by
    unfold eF
    by_cases hN:N=0
    ·rw[if_pos hN,if_pos (by omega)]
    ·rw[if_neg hN,if_neg (by omega)]
   rw[ua];refine (oo (S:=SP C X V T f G qc n) T.apc _ hE rfl bY).mono ?_;rintro o w1 ⟨rfl,nx,left,G',AK,ag⟩
   by_cases hN:N=0
   ·rw[if_pos hN];exact⟨rfl,X.F,X.kq,G',_,n+1,⟨Nat.le_refl _,(by first | exact Or.inl ⟨rfl,rfl,rfl,rfl⟩ | exact Or.inr (Or.inl ⟨rfl,rfl,rfl,rfl⟩) | exact Or.inr (Or.inr (Or.inl ⟨rfl,rfl,rfl,rfl⟩)) | exact Or.inr (Or.inr (Or.inr ⟨rfl,rfl,rfl,rfl⟩)))⟩,.inr ⟨show (1:Int)≠0 by decide,ag.sub (.cons _ (.cons_cons _ (.cons_cons _ (.cons_cons _ (.cons_cons _ (.cons _ (List.Sublist.refl _)))))))⟩⟩
   ·obtain⟨rfl,rfl⟩:=AK hN;rw[if_neg hN];obtain⟨M,rfl⟩:∃ M,N=M+1:=⟨N - 1,by omega⟩;have uK:iU C d { T with apc:=T.apc+1 } (.slice (some ⟨g,2 * k+2,none⟩) (M+1) (c9 - 1)) T.hs [eZ g (im (WD C d T))]:=by
     unfold iU;rw[if_neg (show ¬ T.apc+1<=10 by omega)];refine⟨g,c9 - 1,M,rfl,rfl,?_,by omega,?_⟩
     ·show _=Value.slice (some ⟨g,2 * (T.apc+1 - 10),none⟩) (M+1) (c9 - 1);rw[show 2 * (T.apc+1 - 10)=2 * k+2 by omega]
     ·show (WD C d T).length=(T.apc+1 - 10)+(M+1);omega
    have bo:fa a T.apc=fa a (T.apc+1):=by
     unfold fa;rw[AL Ew,AL (by omega)]
    have az:Env w0 (ae a (si X.c a d { T with apc:=T.apc+1 } (.slice (some ⟨g,2 * k+2,none⟩) (M+1) (c9 - 1)) T.hs)::LT (SP C X V { T with apc:=T.apc+1 } (upd f (5,T.hs,part) word) G' { qc with s:=wrap64 (qc.s+1) } (n+1)) ([eZ g (im (WD C d T))]++R)) w1:=by
     unfold si fh;rw[<- bo];exact ag
    exact⟨rfl,X.F,X.kq,G',_,n+1,⟨Nat.le_refl _,(by first | exact Or.inl ⟨rfl,rfl,rfl,rfl⟩ | exact Or.inr (Or.inl ⟨rfl,rfl,rfl,rfl⟩) | exact Or.inr (Or.inr (Or.inl ⟨rfl,rfl,rfl,rfl⟩)) | exact Or.inr (Or.inr (Or.inr ⟨rfl,rfl,rfl,rfl⟩)))⟩,.inl ⟨rfl,_,T.hs,_,uK,az⟩⟩
end
end
section
open Go.RowKit Go.Maps Go.Shelf Go.Sort
def qJ (a b c:Int):Int:=if a≠0 then a else if b≠0 then b else c
def fi (x y:aI):Int:=qJ (Lib.compareInt x.1 y.1) (Lib.compareInt x.2.1 y.2.1) (Lib.compareInt x.2.2 y.2.2)
theorem AQ (a b:Int):Lib.compareInt a b < 0 ↔ a < b:=by unfold Lib.compareInt;split<;>(try split)<;>omega
theorem Ez (a b:Int):Lib.compareInt a b=0 ↔ a=b:=by unfold Lib.compareInt;split<;>(try split)<;>omega
theorem AS (x y:aI):ltOf fi x y=true ↔ x.1 < y.1\/(x.1=y.1/\(x.2.1 < y.2.1\/(x.2.1=y.2.1/\x.2.2 < y.2.2))):=by
 have h1:=AQ x.1 y.1;have h2:=AQ x.2.1 y.2.1;have h3:=AQ x.2.2 y.2.2;have z1:=Ez x.1 y.1;have z2:=Ez x.2.1 y.2.1;have e:ltOf fi x y=true ↔ fi x y < 0:=by simp[ltOf]
 rw[e];unfold fi qJ
 split
 ·rename_i h;rw[h1];rw[ne_eq,z1] at h;omega
 ·rename_i h;have h:=z1.1 (by simpa using h)
  split
  ·rename_i k;rw[h2];rw[ne_eq,z2] at k;omega
  ·rename_i k;have k:=z2.1 (by simpa using k);rw[h3];omega
theorem AU (x y:aI):ltOf fi x y=false ↔ ¬ (x.1 < y.1\/(x.1=y.1/\(x.2.1 < y.2.1\/(x.2.1=y.2.1/\x.2.2 < y.2.2)))):=by rw[<- AS,Bool.not_eq_true]
theorem qK:SWO (ltOf fi) where
 irrefl x:=by rw[AU];omega
 trans x y z h1 h2:=by rw[AS] at *;omega
 ntrans x y z h1 h2:=by rw[AU] at *;omega
theorem AV (x y:aI) (h1:ltOf fi x y=false) (h2:ltOf fi y x=false):x=y:=by
 rw[AU] at *;obtain⟨a,b,c⟩:=x;obtain⟨a',b',c'⟩:=y;simp only[Prod.mk.injEq];simp only at h1 h2;omega
def fj (x:aI):List Value:=[.int .i64 x.1,.int .i64 x.2.1,.int .i64 x.2.2]
attribute [local go_sem] Oper.semAt_some
def dX (l:List aI):List Value:=l.flatMap fj
theorem Mh (l:List aI) (x:aI):dX (l++[x])=dX l++fj x:=by simp[dX]
theorem Mi (l:List aI):(dX l).length=l.length * 3:=by
 induction l with
 | nil=>rfl
 | cons x l ih=>simp[dX,fj] at *;omega
theorem EA:(prog.info? 72).map (fun i=>(i.zero,i.size,i.bytes))=some (some (.agg #[.int .i64 0,.int .i64 0,.int .i64 0]),3,24):=by kernel_rfl
def z3:aI:=(0,0,0)
def mm (w:World) (v:Value) (l:List aI):Prop :=
 (l=[]/\v=.slice none 0 0)\/∃ g cap,v=.slice (some ⟨g,0,none⟩) l.length cap/\g < w.heap.size/\∀ j,j < l.length ->
  w.cell? ⟨g,j * 3,none⟩=some (.int .i64 (l.getD j z3).1)/\w.cell? ⟨g,j * 3+1,none⟩=some (.int .i64 (l.getD j z3).2.1)/\w.cell? ⟨g,j * 3+2,none⟩=some (.int .i64 (l.getD j z3).2.2)
theorem mm.over {w w':World} {v:Value} {l:List aI} {T:Nat->Prop} (h:mm w v l) (ht:cj T w w') (hT:∀ g len cap,v=.slice (some ⟨g,0,none⟩) len cap->¬ T g):mm w' v l:=by
 rcases h with h | ⟨g,cap,hv,hg,hc⟩
 ·exact .inl h
 ·have hb:=ht.block g hg (hT g _ cap hv);exact .inr ⟨g,cap,hv,Nat.lt_of_lt_of_le hg ht.size,fun j hj=>by
   obtain⟨h1,h2,h3⟩:=hc j hj;refine⟨?_,?_,?_⟩
   ·rw[World.cell?_of_block (w:=w) hb];exact h1
   ·rw[World.cell?_of_block (w:=w) hb];exact h2
   ·rw[World.cell?_of_block (w:=w) hb];exact h3⟩
theorem xN (l:List aI):∀ (j c:Nat),j < l.length->c < 3->(dX l)[j * 3+c]?=(fj (l.getD j z3))[c]?:=by
 induction l with
 | nil=>intro j c h;simp at h
 | cons x l ih =>
  intro j c hj hc;have e:dX (x::l)=fj x++dX l:=by simp[dX]
  cases j with
  | zero=>rw[e,List.getElem?_append_left (by simp[fj];omega)];simp
  | succ j =>
   rw[e,List.getElem?_append_right (by simp[fj];omega)];have:=ih j c (by simpa using hj) hc;have e2:(j+1) * 3+c - (fj x).length=j * 3+c:=by simp[fj];omega
   rw[e2,this];simp
def mW (l:List aI):Prop:=l.Pairwise fun x y=>ltOf fi x y=true
theorem EB:∀ {l m:List aI},mW l->mW m->(∀ x,x∈l ↔ x∈m)->l=m
 | [],[],_,_,_=>rfl
 | [],y::m,_,_,h=>by have:=(h y).2 (by simp);simp at this
 | x::l,[],_,_,h=>by have:=(h x).1 (by simp);simp at this
 | x::l,y::m,h1,h2,h=>by
  obtain⟨a1,a2⟩:=List.pairwise_cons.1 h1;obtain⟨b1,b2⟩:=List.pairwise_cons.1 h2;have no:∀ a b:aI,ltOf fi a b=true->ltOf fi b a=true->False:=fun a b p q=>by
   have:=qK.trans _ _ _ p q;rw[qK.irrefl] at this;cases this
  have AW:x=y:=by
   rcases List.mem_cons.1 ((h x).1 (by simp)) with e | hx
   ·exact e
   ·rcases List.mem_cons.1 ((h y).2 (by simp)) with e | hy
    ·exact e.symm
    ·exact (no x y (a1 y hy) (b1 x hx)).elim
  subst AW;rw[EB a2 b2 fun z=>⟨fun hz=>by
   rcases List.mem_cons.1 ((h z).1 (by simp[hz])) with e | h'
   ·subst e;exact (no _ _ (a1 _ hz) (a1 _ hz)).elim
   ·exact h',fun hz=>by
   rcases List.mem_cons.1 ((h z).2 (by simp[hz])) with e | h'
   ·subst e;exact (no _ _ (b1 _ hz) (b1 _ hz)).elim
   ·exact h'⟩]
def py (f:aI->Int) (l:List aI):Prop:=mW l/\∀ x,x∈l ↔ f x≠0
theorem py.eq {f:aI->Int} {l m:List aI} (h:py f l) (k:py f m):l=m:=EB h.1 k.1 fun x=>(h.2 x).trans (k.2 x).symm
theorem mm.len {w:World} {v:Value} {l:List aI} (h:mm w v l):∃ a cap,v=.slice a l.length cap:=by
 rcases h with ⟨rfl,rfl⟩ | ⟨g,cap,rfl,_⟩
 ·exact⟨_,_,rfl⟩
 ·exact⟨_,_,rfl⟩
theorem mm.below {w w':World} {v:Value} {l:List aI} (h:mm w v l) (hb:Below w.heap.size w w'):mm w' v l:=h.over (cj.of_below hb:cj (fun _=>False) w w') fun _ _ _ _ e=>e
end
section
open Go.RowKit Go.Maps Go.Sort
theorem Mj (x y z a b d:Int) (w:World) :
  Calls prog 77 #[.agg #[.int .i64 x,.int .i64 y,.int .i64 z],.agg #[.int .i64 a,.int .i64 b,.int .i64 d]] w fun e w'=>e=.returned (.bool (ltOf fi (x,y,z) (a,b,d)))/\Below w.heap.size w w':=by
 have hE:=((Fr.start w).push w.heap.size rfl [.int .i64 x,.int .i64 y,.int .i64 z] 72).push (w.heap.size+1) (by simp) [.int .i64 a,.int .i64 b,.int .i64 d] 72;have r:=hE.rule 0 rfl;have r1:=hE.rule 1 rfl;have hL:ltOf fi (x,y,z) (a,b,d)=if x≠a then decide (x < a) else if y≠b then decide (y < b) else decide (z < d):=by
  have h:=AS (x,y,z) (a,b,d);rw[Bool.eq_iff_iff,h]
  split
  ·simp;omega
  ·split
   ·simp;omega
   ·simp;omega
 rw[hL];go_enter func77,ntmps77
 by_cases h1:x=a
 ·subst h1
  by_cases h2:y=b
  ·subst h2;go_wp2_with fail;go_ret;exact⟨by simp,hE.below⟩
  ·go_wp2_with fail;go_ret;exact⟨by simp[h2],hE.below⟩
 ·go_wp2_with fail;go_ret;exact⟨by simp[h1],hE.below⟩
end
section
open Go.RowKit Go.Maps
def bv (t:bN):List Value:=[.int .i64 t.l,.int .i64 t.s,.int .i64 t.w,.int .i64 t.f,.int .i64 t.a]
theorem qL (l:List bT) (x:aI) (o v:Int):swf (ak l) x o v=ak (dw l x o v):=by
 unfold swf dw
 split
 ·rw[lI]
 ·rfl
def SR (C:Cf) (X:Tm) (V:Wm) (T:Th) (FU:Nat->Prop) (ml:List bT):SU:={ u:=X.u,m:=V.m,ck:=C.k,cs:=C.s,cb:=C.b,ch:=C.h,cl:=C.l,ce:=T.e,hs:=T.hs,ro:=X.ro,N:=X.N,A:=X.A,c:=X.rc,ql:=T.ql,F:=FU,ml:=ml }
theorem EC {x s:Int} (hs:0<=s/\s<=8388607) (hv:dr x < 1099511627775):eh x s=aP false s (dr x+1):=by
 unfold eh;rw[if_pos (by simp[lD];omega),if_neg (by omega)]
theorem jf (l:List bT) (x:aI) (o v:Int):(dw l x o v).length<=l.length+1:=by
 unfold dw
 split
 ·exact mb _ _ _
 ·omega
section
variable {w0 w:World} {R:List Item} {C:Cf} {d:Dd} {X:Tm} {V:Wm} {T:Th} {FU:Nat->Prop} {ml:List bT} {n b:Nat}
theorem Mk (hk:tZ C T n) (aQ:ml.length<=999999) (hN:0<=X.N/\X.N<=4000000) (hv:T.apc=6->dr T.ah < 1099511627775) (j7:∀ x,aD (ak ml x)) (lL:T.apc<=10\/T.apc - 10 < (WD C d T).length) (hE:Env w0 (ae b (aM (T.apc:Int) T.ah T.an T.ar)::LU (SR C X V T FU ml) R) w) :
  Calls prog 67 #[zP b,zP X.u,zP V.m,.agg #[zI d.ok,zU d.key,zU d.val,zI d.lv]] w fun o w'=>o=.returned (zI (aT C d T (ak ml)).1)/\∃ (A':Option Addr) (ea:Nat) (N':Int) (ca:Nat->Prop) (aR:List bT),ak aR=(aT C d T (ak ml)).2.2/\aR.length<=ml.length+1/\0<=N'/\N'<=4000000/\(((aT C d T (ak ml)).1=0/\Env w0 (ae b (aM ((aT C d T (ak ml)).2.1.apc:Int) (aT C d T (ak ml)).2.1.ah (aT C d T (ak ml)).2.1.an (aT C d T (ak ml)).2.1.ar)::LU (SR C { X with A:=A',rc:=ea,N:=N' } V (aT C d T (ak ml)).2.1 ca aR) R) w')\/((aT C d T (ak ml)).1≠0/\Env w0 (LU (SR C { X with A:=A',rc:=ea,N:=N' } V (aT C d T (ak ml)).2.1 ca aR) R) w')):=by
 have drop:∀ {S:SU} {y:Item} {w':World},Env w0 (y::LU S R) w'->Env w0 (LU S R) w':=fun h=>h.sub (.cons _ (List.Sublist.refl _))
 rcases hk.apc with h1 | h1 | h1 | h1 | h1 | h1 | h1
 ·have bp:aT C d T (ak ml)=(2,T,swf (ak ml) (1,0,0) T.e (T.e+1)):=by unfold aT;rw[if_pos h1]
  rw[bp];rw[h1] at hE;refine (Kj (U:=SR C X V T FU ml) hk.he (by show ml.length<=1000000;omega) hk.hw.1 hE).mono ?_;rintro o w1 ⟨rfl,F5,ag⟩;exact⟨rfl,X.A,X.rc,X.N,F5,_,(qL _ _ _ _).symm,jf _ _ _ _,hN.1,hN.2,.inr ⟨show (2:Int)≠0 by decide,drop ag⟩⟩
 ·rw[h1] at hE
  by_cases hx:C.s<=ak ml (3,0,0)
  ·have bp:aT C d T (ak ml)=(0,{ T with apc:=3 },upd (ak ml) (3,0,0) (IntKind.u64.wrap (ak ml (3,0,0)+1))):=by unfold aT;rw[if_neg (by omega),if_pos h1,if_pos hx]
   rw[bp];refine (Kk (U:=SR C X V T FU ml) _ rfl (by show ml.length<=999999;omega) (j7 _).1 hx hk.hs hk.hw.1 hE).mono ?_;rintro o w1 ⟨rfl,F5,ag⟩;exact⟨rfl,X.A,X.rc,X.N,F5,_,lI _ _ _,mb _ _ _,hN.1,hN.2,.inl ⟨rfl,ag⟩⟩
  ·have bp:aT C d T (ak ml)=(dI (T.ql++[(ak ml (3,0,0)+1,0,0)]) T.e C.l,{ T with ql:=T.ql++[(ak ml (3,0,0)+1,0,0)],apc:=bk (T.ql++[(ak ml (3,0,0)+1,0,0)]) T.e C.l },upd (ak ml) (3,0,0) (IntKind.u64.wrap (ak ml (3,0,0)+1))):=by unfold aT;rw[if_neg (by omega),if_pos h1,if_neg hx]
   rw[bp];refine (Kl (U:=SR C X V T FU ml) _ rfl (by show ml.length<=999999;omega) (j7 _).1 (show ak ml (3,0,0) < C.s by omega) hk.hs.2 (by have:=hk.hl;show T.ql.length<=1000000;omega) (by show 0<=X.N/\X.N<=1099511627776;omega) hk.hw.1 hE).mono ?_;rintro o w1 ⟨rfl,eS,F5,A',c',ax,ag⟩;have gL:=xK hN hk.hl
   by_cases hz:bk (T.ql++[(ak ml (3,0,0)+1,0,0)]) T.e C.l=0
   ·exact⟨rfl,A',c',_,F5,_,lI _ _ _,mb _ _ _,gL.1,gL.2,.inr ⟨show dI (T.ql++[(ak ml (3,0,0)+1,0,0)]) T.e C.l≠0 by unfold dI;rw[if_pos hz];decide,drop ag⟩⟩
   ·have ax:=ax hz;subst ax;exact⟨rfl,A',c',_,F5,_,lI _ _ _,mb _ _ _,gL.1,gL.2,.inl ⟨show dI (T.ql++[(ak ml (3,0,0)+1,0,0)]) T.e C.l=0 by unfold dI;rw[if_neg hz],ag⟩⟩
 ·rw[h1] at hE;have bp:aT C d T (ak ml)=(gC (ak ml (2,0,0)) C.l,{ T with ah:=ak ml (2,0,0),apc:=4 },ak ml):=by unfold aT;rw[if_neg (by omega),if_neg (by omega),if_pos h1]
  rw[bp];refine (Km (U:=SR C X V T FU ml) _ rfl (j7 _) (by show ml.length<=1000000;omega) hk.hw.1 hE).mono ?_;rintro o w1 ⟨rfl,eS,ax,ag⟩
  by_cases hz:gC (ak ml (2,0,0)) C.l=0
  ·have ax:=ax hz;subst ax;exact⟨rfl,X.A,X.rc,X.N,FU,ml,rfl,by omega,hN.1,hN.2,.inl ⟨hz,ag⟩⟩
  ·exact⟨rfl,X.A,X.rc,X.N,FU,ml,rfl,by omega,hN.1,hN.2,.inr ⟨hz,drop ag⟩⟩
 ·rw[h1] at hE;have bp:aT C d T (ak ml)=(0,{ T with an:=ak ml (5,aA T.ah,2),apc:=5 },ak ml):=by unfold aT;(iterate 3 rw[if_neg (by omega)]);rw[if_pos h1]
  rw[bp];refine (Ko (U:=SR C X V T FU ml) _ rfl (by show ml.length<=1000000;omega) hk.hw.1 hE).mono ?_;rintro o w1 ⟨rfl,ag⟩;exact⟨rfl,X.A,X.rc,X.N,FU,ml,rfl,by omega,hN.1,hN.2,.inl ⟨rfl,ag⟩⟩
 ·rw[h1] at hE;have bp:aT C d T (ak ml)=(0,{ T with ar:=ak ml (5,aA T.ah,1),apc:=6 },ak ml):=by unfold aT;(iterate 4 rw[if_neg (by omega)]);rw[if_pos h1]
  rw[bp];refine (Kp (U:=SR C X V T FU ml) _ rfl (by show ml.length<=1000000;omega) hk.hw.1 hE).mono ?_;rintro o w1 ⟨rfl,ag⟩;exact⟨rfl,X.A,X.rc,X.N,FU,ml,rfl,by omega,hN.1,hN.2,.inl ⟨rfl,ag⟩⟩
 ·rw[h1] at hE;have bo:=EC (nV T.an) (hv h1)
  by_cases hx:ak ml (2,0,0)=T.ah
  ·have bp:aT C d T (ak ml)=(dI (T.ql++[(aA T.ah,bg T.ar,0)]) T.e C.l,{ T with ql:=T.ql++[(aA T.ah,bg T.ar,0)],apc:=bk (T.ql++[(aA T.ah,bg T.ar,0)]) T.e C.l },swf (ak ml) (2,0,0) T.ah (eh T.ah (aA T.an))):=by unfold aT;(iterate 5 rw[if_neg (by omega)]);rw[if_pos h1,if_pos hx]
   rw[bp,bo];refine (Kr (U:=SR C X V T FU ml) hk.hw.2.1 (by show ml.length<=1000000;omega) hx hk.hw.2.2 (by have:=hk.hl;show T.ql.length<=1000000;omega) (by show 0<=X.N/\X.N<=1099511627776;omega) hk.hw.1 hE).mono ?_;rintro o w1 ⟨rfl,eS,F5,A',c',ax,ag⟩;have gL:=xK hN hk.hl
   by_cases hz:bk (T.ql++[(aA T.ah,bg T.ar,0)]) T.e C.l=0
   ·exact⟨rfl,A',c',_,F5,_,(qL _ _ _ _).symm,jf _ _ _ _,gL.1,gL.2,.inr ⟨show dI (T.ql++[(aA T.ah,bg T.ar,0)]) T.e C.l≠0 by unfold dI;rw[if_pos hz];decide,drop ag⟩⟩
   ·have ax:=ax hz;subst ax;exact⟨rfl,A',c',_,F5,_,(qL _ _ _ _).symm,jf _ _ _ _,gL.1,gL.2,.inl ⟨show dI (T.ql++[(aA T.ah,bg T.ar,0)]) T.e C.l=0 by unfold dI;rw[if_neg hz],ag⟩⟩
  ·have bp:aT C d T (ak ml)=(0,{ T with apc:=3 },swf (ak ml) (2,0,0) T.ah (eh T.ah (aA T.an))):=by unfold aT;(iterate 5 rw[if_neg (by omega)]);rw[if_pos h1,if_neg hx]
   rw[bp,bo];refine (Kq (U:=SR C X V T FU ml) hk.hw.2.1 (by show ml.length<=1000000;omega) hx hk.hw.1 hE).mono ?_;rintro o w1 ⟨rfl,F5,ag⟩;exact⟨rfl,X.A,X.rc,X.N,F5,_,(qL _ _ _ _).symm,jf _ _ _ _,hN.1,hN.2,.inl ⟨rfl,ag⟩⟩
 ·obtain⟨lJ,Md⟩:=AO C d T
  by_cases mV:T.apc=10
  ·rw[mV] at hE;obtain⟨bZ,x,y,t,bU,qn,j8⟩:=hk.born mV;have bp:aT C d T (ak ml)=(eF 0 (WD C d T).length,{ T with ql:=t,hs:=x,apc:=11 },upd (ak ml) (5,x,0) T.e):=by
    unfold aT;(iterate 5 rw[if_neg (by omega)]);rw[if_neg (by omega)];simp only[mV,bU,if_true,List.tail_cons,List.headD_cons];rfl
   have ua:eF 0 (WD C d T).length=0:=by unfold eF;rw[if_neg (by omega)]
   rw[bp,ua];have hl:=hk.hl;rw[bU] at hl;have ED:=LM (U:=SR C X V T FU ml) (ok:=d.ok) (key:=d.key) (val:=d.val) (lv:=d.lv) x y t bU (by simp at hl;omega) 0 T.e rfl hk.he (by show ml.length<=1000000;omega) hk.hw.1 hE;have Ml:eF 0 (cX (SR C X V T FU ml).ck (SR C X V T FU ml).ce d.key d.val (IntKind.u64.wrap d.lv)).length=0:=ua;rw[Ml] at ED;refine ED.mono ?_;rintro o w1 ⟨rfl,F5,A',c',ag⟩;exact⟨rfl,A',c',X.N,F5,_,lI _ _ _,mb _ _ _,hN.1,hN.2,.inl ⟨rfl,ag⟩⟩
  ·obtain⟨k,Me⟩:∃ k,T.apc=10+k:=⟨T.apc - 10,by omega⟩;have Mm:T.apc - 10=k:=by omega
   have gy:k < (WD C d T).length:=by omega
   obtain⟨⟨part,word⟩,gm⟩:∃ pw,(WD C d T)[k]?=some pw:=⟨_,List.getElem?_eq_getElem gy⟩;have bp:aT C d T (ak ml)=(eF k (WD C d T).length,{ T with apc:=T.apc+1 },upd (ak ml) (5,T.hs,part) word):=by
    unfold aT;(iterate 5 rw[if_neg (by omega)]);rw[if_neg (by omega)];have hg:(cX C.k T.e d.key d.val (IntKind.u64.wrap d.lv)).getD k (0,0)=(part,word):=by
     have h9:(cX C.k T.e d.key d.val (IntKind.u64.wrap d.lv))[k]?=some (part,word):=gm;rw[List.getD_eq_getElem?_getD,h9];rfl
    simp only[Mm,hg];rw[if_neg (by omega)];rfl
   have ax:((T.apc:Nat):Int)=10+(k:Int):=by omega
   rw[ax] at hE;rw[bp];refine (LN (U:=SR C X V T FU ml) (ok:=d.ok) (key:=d.key) (val:=d.val) (lv:=d.lv) k (by omega) part word gm hk.he (by show ml.length<=1000000;omega) hk.hw.1 hE).mono ?_;rintro o w1 ⟨rfl,F5,ag⟩;have Mn:(10+(k:Int)+1)=((T.apc+1:Nat):Int):=by omega
   rw[Mn] at ag
   by_cases hz:eF k (WD C d T).length=0
   ·exact⟨rfl,X.A,X.rc,X.N,F5,_,lI _ _ _,mb _ _ _,hN.1,hN.2,.inl ⟨hz,ag⟩⟩
   ·exact⟨rfl,X.A,X.rc,X.N,F5,_,lI _ _ _,mb _ _ _,hN.1,hN.2,.inr ⟨hz,drop ag⟩⟩
end
theorem ub {P:Program} {g:FuncId} {args:Array Value} {w:World} {Q:Ending->World->Prop} (h:∀ PP:Ending->World->Prop,Hid (∀ o w',Q o w'->PP o w')->Calls P g args w PP):Calls P g args w Q:=h Q (zH fun _ _ h=>h)
theorem ud (C:Cf) (d:Dd) (T:Th) (f:Mem):(aT C d T f).2.1.e=T.e/\(aT C d T f).2.1.nd=T.nd/\(aT C d T f).2.1.pc=T.pc/\(aT C d T f).2.1.rs=T.rs/\(aT C d T f).2.1.rpc=T.rpc/\(aT C d T f).2.1.re=T.re/\(aT C d T f).2.1.gpc=T.gpc/\(aT C d T f).2.1.gh=T.gh/\(aT C d T f).2.1.gg=T.gg/\(aT C d T f).2.1.done=T.done/\(aT C d T f).2.1.full=T.full:=by
 unfold aT
 repeat' split
 all_goals exact⟨rfl,rfl,rfl,rfl,rfl,rfl,rfl,rfl,rfl,rfl,rfl⟩
theorem AX (C:Cf) (d:Dd) (T:Th) (f:Mem):(aT C d T f).1=0\/(aT C d T f).1=1\/(aT C d T f).1=2\/(aT C d T f).1=3\/(aT C d T f).1=4:=by
 unfold aT dI gC eF
 repeat' split
 all_goals first | exact .inl rfl | exact .inr (.inl rfl) | exact .inr (.inr (.inl rfl)) | exact .inr (.inr (.inr (.inl rfl))) | exact .inr (.inr (.inr (.inr rfl))) | (dsimp only;repeat' split)<;>simp
def Same (X X':Tm):Prop:=X'.thr=X.thr/\X'.c=X.c/\X'.q=X.q/\X'.u=X.u/\X'.dA=X.dA/\X'.dn=X.dn/\X'.dc=X.dc
end
end Go.Proofs.YtleklonmmlfijaaGreatDoor
