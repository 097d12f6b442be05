/- What is proved on the way to the statement, part 6: contracts of the functions, among other things in memory. -/
import Derived.Test.YtleklonmmlfijaaGreatDoorQ5

open _root_.Go.Proofs.Tryz
set_option maxRecDepth 100000
set_option maxHeartbeats 25600000
namespace Go.Proofs.YtleklonmmlfijaaGreatDoor
section
open Go.RowKit Go.Maps
def jY (v:World) (g k:Nat) (x:Value):Prop:=g < v.heap.size/\v.cell? ⟨g,k,none⟩=some x
theorem jY.under {v v':World} {g k:Nat} {x:Value} (h:jY v g k x) (hb:Below v.heap.size v v'):jY v' g k x:=⟨Nat.lt_of_lt_of_le h.1 hb.size,by rw[hb.cell (p:=⟨g,k,none⟩) h.1];exact h.2⟩
theorem Env.lie {w0 w:World} {L:List Item} (h:Env w0 L w) (i:Nat) {g:Nat} {xs:List Value} (hi:L[i]?=some (eZ g xs)) (k:Nat) {x:Value} (hx:xs[k]?=some x):jY w g k x:=⟨h.lt i hi g rfl,h.lies i hi k x hx⟩
theorem Env.as {w0 w:World} {L:List Item} (h:Env w0 L w) (i:Nat) {a:Item} (b:Item) (hi:L[i]?=some a) (hF:∀ k,b.F k->a.F k) (hb:b.says w):Env w0 (L.set i b) w :=
 h.step i b hi ⟨cj.refl _ w,fun k hk=>.inl (hF k hk)⟩ hb fun k hk=>h.lt i hi k (hF k hk)
theorem Env.rowLiesAt {w0 w:World} {L:List Item} {e:TypeId} {s n:Nat} {v:Value} {xs:List Value} (h:Env w0 L w) (i:Nat) (hi:L[i]?=some (gZ v e s n xs)) (hn:n≠0) :
  ∃ g c,v=.slice (some ⟨g,0,none⟩) n c/\Env w0 (L.set i (eZ g xs)) w:=by
 have ho:w.ownsRow 0 e s v n xs:=h.get i hi
 rcases ho.2 with ⟨-,h0⟩ | ⟨g,cap,cur,hv,-,hg,wE,-⟩
 ·exact absurd h0 hn
 ·refine⟨g,cap,hv,h.as i (eZ g xs) hi (fun k hk=>?_) fun j u hu=>?_⟩
  ·show v.ownBlock=some k;rw[hv];show some g=some k;rw[show k=g from hk]
  ·have this:=ho.cells (g:=g) (by rw[hv];rfl) j u hu;have e2:(⟨g,0,none⟩:Addr).add j=⟨g,j,none⟩:=by unfold Addr.add;split<;>simp_all
   rw[e2] at this;exact this
theorem Env.addLit {w0 w:World} {L:List Item} (h:Env w0 L w) (e:TypeId) (s n:Nat) (xs:List Value) (hx:xs.length=n * s) (hn:n<=maxLen):Env w0 (gZ (.slice (some ⟨w.heap.size,0,none⟩) n n) e s n xs::L) (w.alloc (.cells xs.toArray e)) :=
 h.add (gZ (.slice (some ⟨w.heap.size,0,none⟩) n n) e s n xs) ((Below.refl _ _).alloc (Nat.le_refl _) _)
  (show (w.alloc (.cells xs.toArray e)).ownsRow 0 e s (.slice (some ⟨w.heap.size,0,none⟩) n n) n xs from World.ownsRow_lit (base:=0) (e:=e) (size:=s) w xs.toArray n (Nat.zero_le _) hn (by simpa using hx)) fun k hk=>by
  have:w.heap.size=k:=by simpa [gZ,Value.ownBlock] using hk
  subst this;simp
theorem D3:(prog.info? 3).map (fun i=>(i.zero,i.size,i.bytes))=some (some (zI 0),1,8):=by kernel_rfl
theorem D4:(prog.info? 53).map (fun i=>(i.zero,i.size,i.bytes))=some (some (zU 0),1,8):=by kernel_rfl
def eF (k n:Nat):Int:=if k+1=n then 1 else 0
def me (l:List (Int × Int)):List Value:=l.map fun p=>zI p.1
def mf (l:List (Int × Int)):List Value:=l.map fun p=>zU p.2
theorem D5 (ck e key val lv:Int):(cX ck e key val lv).length=if ck=2 then 4 else if ck=3 then 5 else 3:=by
 unfold cX
 split
 ·rfl
 ·split<;>rfl
section
variable {w0 w:World} {R:List Item} {b:Nat} {U:SU} {h n r ok key val lv:Int}
theorem D6 (kk:Nat) (Q:Ending->World->Prop) (part word:Int) (gm:(cX U.ck U.ce key val (IntKind.u64.wrap lv))[kk]?=some (part,word)) (he:0<=U.ce/\U.ce<=9223372036854775807) (aQ:U.ml.length<=1000000) (hq:0 < kk\/(kk=0/\∃ x y t,U.ql=(x,y,0)::t/\t.length<=1000000)) (hE:Env w0 (ae b (aM (10+(kk:Int)) h n r)::LU U R) w)
  (hQ:∀ w' bf et A9 c9 F5,((0 < kk/\bf=U.hs/\et=U.ql/\A9=U.A/\c9=U.c)\/(kk=0/\∃ y,U.ql=(bf,y,0)::et))->Env w0 (ae b (aM (10+(kk:Int)+1) h n r)::LU { U with F:=F5,ml:=cM U.ml (5,bf,part) word,hs:=bf,ql:=et,A:=A9,c:=c9 } R) w'->Q (.returned (zI (eF kk (cX U.ck U.ce key val (IntKind.u64.wrap lv)).length))) w') :
  Calls prog 94 #[zP b,zP U.u,zP U.m,.agg #[zI ok,zU key,zU val,zI lv]] w Q:=by
 have HQ:=zH hQ;clear hQ;have ag:=(hE.box w.heap.size rfl [zI ok,zU key,zU val,zI lv] 55).perm (L':=ae b (aM (10+(kk:Int)) h n r)::LU U (ae w.heap.size [zI ok,zU key,zU val,zI lv]::R)) (List.perm_middle (l₁:=[ae b (aM (10+(kk:Int)) h n r),_,_,_])).symm;have ij:IntKind.u64.wrap U.ce=U.ce:=mK _ (by omega) (by omega);have gy:kk < (cX U.ck U.ce key val (IntKind.u64.wrap lv)).length:=(List.getElem?_eq_some_iff.1 gm).1;clear he hE;have rb:=ag.rule 0 rfl;unfold aM at rb;have S7:kk < 5:=by
  rw[D5] at gy
  split at gy
  ·omega
  ·split at gy<;>omega
 have gd:(10+(kk:Int) - 10)=kk:=by omega
 have Ad:=zH hq;have tN:((10+(kk:Int))==10)=decide (kk=0):=by
  by_cases h:kk=0
  ·rw[decide_eq_true h];simp[h]
  ·rw[decide_eq_false h];simp;omega
 obtain⟨bz,Ae⟩:∃ z,decide (kk=0)=z:=⟨_,rfl⟩;rw[Ae] at tN;have xq:=zH Ae;clear Ae hq;go_enter func94,ntmps94;cases bz
 focus
  have mO:0 < kk:=by have:=of_decide_eq_false xq.out;omega
  go_upto_region 4 with fail
  generalize w.alloc _=w3 at *;generalize w.heap.size=O at *;obtain⟨bf,h1⟩:∃ z,z=U.hs:=⟨_,rfl⟩;obtain⟨et,h2⟩:∃ z,z=U.ql:=⟨_,rfl⟩;obtain⟨A9,h3⟩:∃ z,z=U.A:=⟨_,rfl⟩;obtain⟨c9,h4⟩:∃ z,z=U.c:=⟨_,rfl⟩;have bD:Env w0 (ae b (aM (10+(kk:Int)) h n r)::LU { U with hs:=bf,ql:=et,A:=A9,c:=c9 } (ae O [zI ok,zU key,zU val,zI lv]::R)) w3:=by subst h1;subst h2;subst h3;subst h4;exact ag
  have HS:Hid ((0 < kk/\bf=U.hs/\et=U.ql/\A9=U.A/\c9=U.c)\/(kk=0/\∃ y,U.ql=(bf,y,0)::et)):=zH (.inl ⟨mO,h1,h2,h3,h4⟩);clear ag rb h1 h2 h3 h4 mO xq Ad
 rotate_left
 focus
  have mO:kk=0:=of_decide_eq_true xq.out;obtain⟨x,y,t,bU,hl⟩:=Ad.out.elim (fun h=>absurd h (by omega)) And.right;clear Ad xq;have tO:=zH mO;clear mO;go_wp2_with fail;generalize w.alloc _=w1 at *;generalize w.heap.size=O at *;have rF:(ae b (aM (10+(kk:Int)) h n r)::LU U (ae O [zI ok,zU key,zU val,zI lv]::R))[2]?=some (fx U.A U.c ((x,y,0)::t)):=by rw[<- bU];rfl
  refine (DZ x y 0 6 1 ag rfl (by rw[bU];rfl) rF hl).mono ?_;rintro o w2 ⟨rfl,A9,c9,az⟩;have bM:=(az.box w2.heap.size rfl [zI x,zI y,zI 0] 98);have r9:=bM.rule 0 rfl;have r8:=bM.rule 2 rfl;unfold bx at r8;have f8:=bM.thaw 2 rfl 8 (by simp[bx]);have bD:=(bM.put 2 rfl (j:=8) (by simp[bx]) (zI x)).sub (L':=ae b (aM (10+(kk:Int)) h n r)::LU { U with hs:=x,ql:=t,A:=A9,c:=c9 } (ae O [zI ok,zU key,zU val,zI lv]::R)) (.cons _ (List.Sublist.refl _));simp only[tv];clear ag az bM rb rF
  go_upto_region 4 with fail
  clear r9 r8 f8;generalize (w2.alloc _).setCell _ _=w3 at *;generalize w2.heap.size=Y2 at *;obtain⟨bf,h1⟩:∃ z,z=x:=⟨_,rfl⟩;obtain⟨et,h2⟩:∃ z,z=t:=⟨_,rfl⟩;rw[<- h1,<- h2] at bD;have HS:Hid ((0 < kk/\bf=U.hs/\et=U.ql/\A9=U.A/\c9=U.c)\/(kk=0/\∃ y,U.ql=(bf,y,0)::et)):=zH (.inr ⟨tO.out,y,by rw[h1,h2];exact bU⟩);subst h1;subst h2;clear bU hl tO
 rotate_left
 all_goals
  have aB:=bD.addLit 3 1 3 [zI 0,zI 1,zI 3] rfl (by decide);clear bD;go_wp2_with fail;generalize w3.alloc _=w4 at *;generalize w3.heap.size=z1 at *;refine Ord3.wp_chain [?_,?_,?_,?_,?_,?_,?_,?_,?_] [7,8] (fun v=>ao 0 v U.u (bx U.ck U.cs U.cb U.ch U.cl U.ce A9 et.length c9 U.N bf U.ro)/\ao 0 v O [zI ok,zU key,zU val,zI lv]) (Ord3.Stage fun κs=>[Env w0 (gZ (.slice (some ⟨z1,0,none⟩) 3 3) 3 1 3 [zI 0,zI 1,zI 3]::ae b (aM (10+(kk:Int)) h n r)::LU { U with hs:=bf,ql:=et,A:=A9,c:=c9 } (ae O [zI ok,zU key,zU val,zI lv]::R)),Env w0 (gZ (κs.getD 0 undef) 53 1 3 [zU U.ce,zU 0,zU key]::gZ (.slice (some ⟨z1,0,none⟩) 3 3) 3 1 3 [zI 0,zI 1,zI 3]::ae b (aM (10+(kk:Int)) h n r)::LU { U with hs:=bf,ql:=et,A:=A9,c:=c9 } (ae O [zI ok,zU key,zU val,zI lv]::R)),Env w0 (gZ (κs.getD 1 undef) 53 1 3 [zU U.ce,zU 0,zU key]::gZ (.slice (some ⟨z1,0,none⟩) 3 3) 3 1 3 [zI 0,zI 1,zI 3]::ae b (aM (10+(kk:Int)) h n r)::LU { U with hs:=bf,ql:=et,A:=A9,c:=c9 } (ae O [zI ok,zU key,zU val,zI lv]::R))]) (by kernel_rfl) (by kernel_rfl) (by kernel_rfl) ⟨aB.drew.get 2 rfl,aB.drew.get 5 rfl⟩ ⟨_,rfl,aB.drew⟩ (fun hT=>?_);rotate_left 9;have af:=zH hT;clear hT
  repeat ((first
   | (focus (refine Ord3.in_value (v:=?_) af.o (by decide) ?_ (by rfl) ?_ ?_;rotate_left 2;(intro w5 hS;have r1:=ao.rule hS.1;have r2:=ao.rule hS.2;unfold bx at r1;go_simp<;>rfl);rotate_right;(focus rfl)))
   | (focus (refine Ord3.in_off af.o (by decide) ?_ (by rfl) ?_;(focus rfl)))
   | (focus (refine Ord3.in_call (v:=?_) (f:=?_) (args:=?_) af.o (by decide) ?_ (by rfl) ?_ ?_ ?_;rotate_left 4;(intro w5 hS;have r1:=ao.rule hS.1;have r2:=ao.rule hS.2;unfold bx at r1;go_simp;constructor<;>rfl);(intro w5 hS;(first | fail));rotate_right;(focus rfl))));try simp only[Act.put,zA,zZ,zS])
  refine Ord3.in_turn (fun u=>∃ z,u=.slice (some ⟨z,0,none⟩) 3 3) _ ⟨0,rfl⟩ af.o rfl (by decide) (by rfl) ?_ (Or.inl rfl) (by rfl) ?_ ?_
  ·rfl
  ·rintro w7 eY ⟨P7,dD,bI⟩;cases dD;go_simp;simp only[Ord3.Lands];have bn:=bI.addLit 53 1 3 [zU U.ce,zU 0,zU key] rfl (by decide);exact⟨⟨_,rfl⟩,⟨bn.get 3 rfl,bn.get 6 rfl⟩,_,rfl,bn⟩
  rintro _ ⟨z9,rfl⟩
  try simp only[Act.put,zA,zZ,zS]
  refine Ord3.in_turn (fun u=>∃ z,u=.slice (some ⟨z,0,none⟩) 3 3) _ ⟨0,rfl⟩ af.o rfl (by decide) (by rfl) ?_ (Or.inr ⟨_,7,[],rfl,by kernel_rfl,by kernel_rfl,rfl⟩) (by rfl) ?_ ?_
  ·rfl
  ·rintro w7 eY ⟨P7,dD,bI⟩;cases dD;go_simp;simp only[Ord3.Lands];exact⟨⟨_,rfl⟩,eY,_,rfl,bI⟩
  rintro _ ⟨z2,rfl⟩
  try simp only[Act.put,zA,zZ,zS]
  refine Ord3.in_nil rfl ?_;rintro w9 aL ⟨P9,dW,ai⟩;cases dW;replace ai:Env w0 (gZ (.slice (some ⟨z2,0,none⟩) 3 3) 53 1 3 [zU U.ce,zU 0,zU key]::gZ (.slice (some ⟨z1,0,none⟩) 3 3) 3 1 3 [zI 0,zI 1,zI 3]::ae b (aM (10+(kk:Int)) h n r)::LU { U with hs:=bf,ql:=et,A:=A9,c:=c9 } (ae O [zI ok,zU key,zU val,zI lv]::R)) w9:=ai;clear af aL aB;have r1:=ai.rule 3 rfl;unfold bx at r1;have r2:=ai.rule 6 rfl;have r3:=ai.rule 2 rfl;unfold aM at r3;obtain⟨WW,tP⟩:∃ WW,(cX U.ck U.ce key val (IntKind.u64.wrap lv))=WW:=⟨_,rfl⟩;rw[tP] at gm gy;have mP:=zH tP;clear tP
  rcases e8:U.ck==2 with _ | _
  ·rcases nY:U.ck==3 with _ | _
   ·have lJ:WW=[(0,U.ce),(1,0),(3,key)]:=by rw[<- mP.out];unfold cX;rw[if_neg (by simpa using e8),if_neg (by simpa using nY)];rfl
    go_upto_region 12 with fail
    clear r1 r2 r3;obtain⟨g2,c2,mN,hB⟩:=ai.rowLiesAt 0 rfl (by decide);cases mN;obtain⟨g1,c1,qw,hB⟩:=hB.rowLiesAt 1 rfl (by decide);cases qw;subst lJ;have qx:Hid (List.length ([(0,U.ce),(1,0),(3,key)]:List (Int × Int))=3):=zH rfl;have lq:kk < 3:=gy;have nN:(me [(0,U.ce),(1,0),(3,key)])[kk]?=some (zI part):=by unfold me;rw[List.getElem?_map,gm];rfl
    have ec:(mf [(0,U.ce),(1,0),(3,key)])[kk]?=some (zU word):=by unfold mf;rw[List.getElem?_map,gm];rfl
    have e7:Env w0 (eZ z2 (mf [(0,U.ce),(1,0),(3,key)])::eZ z1 (me [(0,U.ce),(1,0),(3,key)])::ae b (aM (10+(kk:Int)) h n r)::LU { U with hs:=bf,ql:=et,A:=A9,c:=c9 } (ae O [zI ok,zU key,zU val,zI lv]::R)) _:=hB;clear hB ai;have nO:=e7.lie 1 rfl kk nN;have jZ:=e7.lie 0 rfl kk ec;have oV:((kk:Int)==2)=decide (kk+1=3):=by
     by_cases h:kk+1=3
     ·rw[decide_eq_true h];simp;omega
     ·rw[decide_eq_false h];simp;omega
    have aE:decide ((kk:Int) < 3)=true:=by simp;omega
    have nM:(kk:Int) < 3:=by omega
    have kg:(0:Int)<=kk:=by omega
    obtain⟨bl,jl⟩:∃ b,decide (kk+1=3)=b:=⟨_,rfl⟩;rw[jl] at oV;have qy:=zH jl;clear jl;have r3:=e7.rule 2 rfl;unfold aM at r3;go_wp2_with fail;refine Ord.wc [14] (fun v=>ao 0 v U.u (bx U.ck U.cs U.cb U.ch U.cl U.ce A9 et.length c9 U.N bf U.ro)/\jY v z1 kk (zI part)/\jY v z2 kk (zU word)) (fun k w'=>∃ F5,Env w0 (eZ z2 (mf [(0,U.ce),(1,0),(3,key)])::eZ z1 (me [(0,U.ce),(1,0),(3,key)])::ae b (aM (10+(kk:Int)) h n r)::LU (if k=0 then { U with hs:=bf,ql:=et,A:=A9,c:=c9 } else { U with F:=F5,ml:=cM U.ml (5,bf,part) word,hs:=bf,ql:=et,A:=A9,c:=c9 }) (ae O [zI ok,zU key,zU val,zI lv]::R)) w') ⟨e7.drew.get 3 rfl,nO.under ((Below.refl _ _).drew),jZ.under ((Below.refl _ _).drew)⟩ ⟨U.F,e7.drew⟩ fun af=>?_
    repeat ((first
     | (refine Ord.cv ?_ af.o ?_ ?_;rotate_left;(intro w5 hS;have r1:=hS.1.rule;have r2:=hS.2.1.2;have r3:=hS.2.2.2;unfold bx at r1;go_simp<;>rfl))
     | (refine Ord.co af.o ?_)
     | (refine Ord.cc ?_ ?_ ?_ af.o ?_ ?_ ?_;rotate_left 3;(intro w5 hS;have r1:=hS.1.rule;have r2:=hS.2.1.2;have r3:=hS.2.2.2;unfold bx at r1;go_simp;constructor<;>rfl);(intro w5 hS;(first | (with_reducible refine kp (jH _ _ _) ?_ ?_;rfl;exact fun w6 aj=>⟨⟨hS.1.under aj,hS.2.1.under aj,hS.2.2.under aj⟩,fun k h=>h.elim fun F5 h=>⟨F5,h.over aj⟩⟩)))));try simp only[Act.put,zA,zZ,zS])
    refine Ord.ch_turn (v:=.tuple #[]) 0 af.o rfl (by decide) (Or.inl rfl) (by rfl) ?_ ?_
    ·rintro w5 aN ⟨F5,au⟩;simp only[if_true] at au;go_simp;simp only[Ord.LandsIn];refine (mM 5 bf part word aQ (au.ref 5 rfl)).mono ?_;rintro e w6 ⟨rfl,F6,hU,bf⟩;have aq:=au.turnU 5 rfl hU bf;exact⟨rfl,⟨aq.get 3 rfl,aq.lie 1 rfl kk nN,aq.lie 0 rfl kk ec⟩,F6,aq⟩
    try simp only[Act.put,zA,zZ,zS]
    repeat ((first
     | (refine Ord.cv ?_ af.o ?_ ?_;rotate_left;(intro w5 hS;skip;go_simp<;>rfl))
     | (refine Ord.co af.o ?_));try simp only[Act.put,zA,zZ,zS])
    refine Ord.InText.nil fun w5 hS=>?_;clear af;obtain⟨aL,ai⟩:=Ord.chain_end hS;clear hS;obtain⟨F9,ai⟩:=ai;simp only[List.length_cons,List.length_nil,Nat.zero_add,Nat.one_ne_zero,if_false] at ai;clear aL e7;have r3:=ai.rule 2 rfl;unfold aM at r3;have f0:=ai.thaw 2 rfl 0 (by simp[aM]);have hP:=(ai.put 2 rfl (j:=0) (by simp[aM]) (zI (10+(kk:Int)+1))).sub (L':=ae b (aM (10+(kk:Int)+1) h n r)::LU { U with F:=F9,ml:=cM U.ml (5,bf,part) word,hs:=bf,ql:=et,A:=A9,c:=c9 } R) (.cons _ (.cons _ (.cons_cons _ (.cons_cons _ (.cons_cons _ (.cons_cons _ (.cons _ (List.Sublist.refl _))))))));cases bl
    ·have bu:¬ kk+1=3:=by simpa using qy.out
     have HP:Hid (eF kk (List.length ([(0,U.ce),(1,0),(3,key)]:List (Int × Int)))=0):=zH (if_neg (by rw[qx.out];exact bu));clear bu;go_wp2_with fail
     (try go_ret)
     have h9:=HQ.out _ bf et A9 c9 F9 HS.out hP;rw[mP.out,HP.out] at h9;exact h9
    ·have heq:kk+1=3:=by simpa using qy.out
     have HP:Hid (eF kk (List.length ([(0,U.ce),(1,0),(3,key)]:List (Int × Int)))=1):=zH (if_pos (by rw[qx.out];exact heq));clear heq;go_wp2_with fail
     (try go_ret)
     have h9:=HQ.out _ bf et A9 c9 F9 HS.out hP;rw[mP.out,HP.out] at h9;exact h9
   ·have lJ:WW=[(0,U.ce),(1,0),(3,key),(5,IntKind.u64.wrap lv),(6,0)]:=by rw[<- mP.out];unfold cX;rw[if_neg (by simpa using e8),if_pos (by simpa using nY)];rfl
    go_upto_region 10 with fail
    clear r1 r3;have hX:=ai.box w9.heap.size rfl [zI 5,zI 6] 3;obtain⟨A8,c8,w8,cZ,o4⟩:=hX.appendRow (P:=prog) 2 rfl 25 25 Tryz.underlying25 (zI 0) D3 rfl (by decide) (some ⟨w9.heap.size,0,none⟩) 2 2 [zI 5,zI 6] rfl (.inr ⟨_,rfl,oJ _ _ _⟩) (by simp[Value.oneCell']) (by decide) (by decide);have iF:=zH cZ;have kS:=o4.sub (.cons _ (List.Sublist.refl _));have r2:=kS.rule 6 rfl;clear cZ hX o4 ai
    go_upto_region 11 with (at_builtin;refine oI rfl _ _ 25 rfl iF.out rfl rfl ?_)
    clear iF;have hY:=kS.box w8.heap.size rfl [zU (IntKind.u64.wrap lv),zU 0] 53;obtain⟨A6,c6,w6,cZ,vp⟩:=hY.appendRow (P:=prog) 1 rfl 195 195 Tryz.underlying195 (zU 0) D4 rfl (by decide) (some ⟨w8.heap.size,0,none⟩) 2 2 [zU (IntKind.u64.wrap lv),zU 0] rfl (.inr ⟨_,rfl,oJ _ _ _⟩) (by simp[Value.oneCell']) (by decide) (by decide);have iF:=zH cZ;have ai:=vp.sub (.cons _ (List.Sublist.refl _));have r1:=ai.rule 3 rfl;unfold bx at r1;clear cZ hY vp
    go_upto_region 12 with (at_builtin;refine oI rfl _ _ 195 rfl iF.out rfl rfl ?_)
    clear iF kS r1 r2;obtain⟨g2,c2,mN,hB⟩:=ai.rowLiesAt 0 rfl (by decide);cases mN;obtain⟨g1,c1,qw,hB⟩:=hB.rowLiesAt 1 rfl (by decide);cases qw;subst lJ;have qx:Hid (List.length ([(0,U.ce),(1,0),(3,key),(5,IntKind.u64.wrap lv),(6,0)]:List (Int × Int))=5):=zH rfl;have lq:kk < 5:=gy;have nN:(me [(0,U.ce),(1,0),(3,key),(5,IntKind.u64.wrap lv),(6,0)])[kk]?=some (zI part):=by unfold me;rw[List.getElem?_map,gm];rfl
    have ec:(mf [(0,U.ce),(1,0),(3,key),(5,IntKind.u64.wrap lv),(6,0)])[kk]?=some (zU word):=by unfold mf;rw[List.getElem?_map,gm];rfl
    have e7:Env w0 (eZ g2 (mf [(0,U.ce),(1,0),(3,key),(5,IntKind.u64.wrap lv),(6,0)])::eZ g1 (me [(0,U.ce),(1,0),(3,key),(5,IntKind.u64.wrap lv),(6,0)])::ae b (aM (10+(kk:Int)) h n r)::LU { U with hs:=bf,ql:=et,A:=A9,c:=c9 } (ae O [zI ok,zU key,zU val,zI lv]::R)) _:=hB;clear hB ai;have nO:=e7.lie 1 rfl kk nN;have jZ:=e7.lie 0 rfl kk ec;have oV:((kk:Int)==4)=decide (kk+1=5):=by
     by_cases h:kk+1=5
     ·rw[decide_eq_true h];simp;omega
     ·rw[decide_eq_false h];simp;omega
    have aE:decide ((kk:Int) < 5)=true:=by simp;omega
    have nM:(kk:Int) < 5:=by omega
    have kg:(0:Int)<=kk:=by omega
    obtain⟨bl,jl⟩:∃ b,decide (kk+1=5)=b:=⟨_,rfl⟩;rw[jl] at oV;have qy:=zH jl;clear jl;have r3:=e7.rule 2 rfl;unfold aM at r3;go_wp2_with fail;refine Ord.wc [14] (fun v=>ao 0 v U.u (bx U.ck U.cs U.cb U.ch U.cl U.ce A9 et.length c9 U.N bf U.ro)/\jY v g1 kk (zI part)/\jY v g2 kk (zU word)) (fun k w'=>∃ F5,Env w0 (eZ g2 (mf [(0,U.ce),(1,0),(3,key),(5,IntKind.u64.wrap lv),(6,0)])::eZ g1 (me [(0,U.ce),(1,0),(3,key),(5,IntKind.u64.wrap lv),(6,0)])::ae b (aM (10+(kk:Int)) h n r)::LU (if k=0 then { U with hs:=bf,ql:=et,A:=A9,c:=c9 } else { U with F:=F5,ml:=cM U.ml (5,bf,part) word,hs:=bf,ql:=et,A:=A9,c:=c9 }) (ae O [zI ok,zU key,zU val,zI lv]::R)) w') ⟨e7.drew.get 3 rfl,nO.under ((Below.refl _ _).drew),jZ.under ((Below.refl _ _).drew)⟩ ⟨U.F,e7.drew⟩ fun af=>?_
    repeat ((first
     | (refine Ord.cv ?_ af.o ?_ ?_;rotate_left;(intro w5 hS;have r1:=hS.1.rule;have r2:=hS.2.1.2;have r3:=hS.2.2.2;unfold bx at r1;go_simp<;>rfl))
     | (refine Ord.co af.o ?_)
     | (refine Ord.cc ?_ ?_ ?_ af.o ?_ ?_ ?_;rotate_left 3;(intro w5 hS;have r1:=hS.1.rule;have r2:=hS.2.1.2;have r3:=hS.2.2.2;unfold bx at r1;go_simp;constructor<;>rfl);(intro w5 hS;(first | (with_reducible refine kp (jH _ _ _) ?_ ?_;rfl;exact fun w6 aj=>⟨⟨hS.1.under aj,hS.2.1.under aj,hS.2.2.under aj⟩,fun k h=>h.elim fun F5 h=>⟨F5,h.over aj⟩⟩)))));try simp only[Act.put,zA,zZ,zS])
    refine Ord.ch_turn (v:=.tuple #[]) 0 af.o rfl (by decide) (Or.inl rfl) (by rfl) ?_ ?_
    ·rintro w5 aN ⟨F5,au⟩;simp only[if_true] at au;go_simp;simp only[Ord.LandsIn];refine (mM 5 bf part word aQ (au.ref 5 rfl)).mono ?_;rintro e w6 ⟨rfl,F6,hU,bf⟩;have aq:=au.turnU 5 rfl hU bf;exact⟨rfl,⟨aq.get 3 rfl,aq.lie 1 rfl kk nN,aq.lie 0 rfl kk ec⟩,F6,aq⟩
    try simp only[Act.put,zA,zZ,zS]
    repeat ((first
     | (refine Ord.cv ?_ af.o ?_ ?_;rotate_left;(intro w5 hS;skip;go_simp<;>rfl))
     | (refine Ord.co af.o ?_));try simp only[Act.put,zA,zZ,zS])
    refine Ord.InText.nil fun w5 hS=>?_;clear af;obtain⟨aL,ai⟩:=Ord.chain_end hS;clear hS;obtain⟨F9,ai⟩:=ai;simp only[List.length_cons,List.length_nil,Nat.zero_add,Nat.one_ne_zero,if_false] at ai;clear aL e7;have r3:=ai.rule 2 rfl;unfold aM at r3;have f0:=ai.thaw 2 rfl 0 (by simp[aM]);have hP:=(ai.put 2 rfl (j:=0) (by simp[aM]) (zI (10+(kk:Int)+1))).sub (L':=ae b (aM (10+(kk:Int)+1) h n r)::LU { U with F:=F9,ml:=cM U.ml (5,bf,part) word,hs:=bf,ql:=et,A:=A9,c:=c9 } R) (.cons _ (.cons _ (.cons_cons _ (.cons_cons _ (.cons_cons _ (.cons_cons _ (.cons _ (List.Sublist.refl _))))))));cases bl
    ·have bu:¬ kk+1=5:=by simpa using qy.out
     have HP:Hid (eF kk (List.length ([(0,U.ce),(1,0),(3,key),(5,IntKind.u64.wrap lv),(6,0)]:List (Int × Int)))=0):=zH (if_neg (by rw[qx.out];exact bu));clear bu;go_wp2_with fail
     (try go_ret)
     have h9:=HQ.out _ bf et A9 c9 F9 HS.out hP;rw[mP.out,HP.out] at h9;exact h9
    ·have heq:kk+1=5:=by simpa using qy.out
     have HP:Hid (eF kk (List.length ([(0,U.ce),(1,0),(3,key),(5,IntKind.u64.wrap lv),(6,0)]:List (Int × Int)))=1):=zH (if_pos (by rw[qx.out];exact heq));clear heq;go_wp2_with fail
     (try go_ret)
     have h9:=HQ.out _ bf et A9 c9 F9 HS.out hP;rw[mP.out,HP.out] at h9;exact h9
  ·have nY:(U.ck==3)=false:=by simp only[beq_iff_eq] at e8;simp[e8]
   have lJ:WW=[(0,U.ce),(1,0),(3,key),(4,val)]:=by rw[<- mP.out];unfold cX;rw[if_pos (by simpa using e8)];rfl
   go_upto_region 7 with fail
   clear r1 r3;have hX:=ai.box w9.heap.size rfl [zI 4] 3;obtain⟨A8,c8,w8,cZ,o4⟩:=hX.appendRow (P:=prog) 2 rfl 25 25 Tryz.underlying25 (zI 0) D3 rfl (by decide) (some ⟨w9.heap.size,0,none⟩) 1 1 [zI 4] rfl (.inr ⟨_,rfl,oJ _ _ _⟩) (by simp[Value.oneCell']) (by decide) (by decide);have iF:=zH cZ;have kS:=o4.sub (.cons _ (List.Sublist.refl _));have r2:=kS.rule 6 rfl;clear cZ hX o4 ai
   go_upto_region 8 with (at_builtin;refine oI rfl _ _ 25 rfl iF.out rfl rfl ?_)
   clear iF;have hY:=kS.box w8.heap.size rfl [zU val] 53;obtain⟨A6,c6,w6,cZ,vp⟩:=hY.appendRow (P:=prog) 1 rfl 195 195 Tryz.underlying195 (zU 0) D4 rfl (by decide) (some ⟨w8.heap.size,0,none⟩) 1 1 [zU val] rfl (.inr ⟨_,rfl,oJ _ _ _⟩) (by simp[Value.oneCell']) (by decide) (by decide);have iF:=zH cZ;have ai:=vp.sub (.cons _ (List.Sublist.refl _));have r1:=ai.rule 3 rfl;unfold bx at r1;clear cZ hY vp
   go_upto_region 12 with (at_builtin;refine oI rfl _ _ 195 rfl iF.out rfl rfl ?_)
   clear iF kS r1 r2;obtain⟨g2,c2,mN,hB⟩:=ai.rowLiesAt 0 rfl (by decide);cases mN;obtain⟨g1,c1,qw,hB⟩:=hB.rowLiesAt 1 rfl (by decide);cases qw;subst lJ;have qx:Hid (List.length ([(0,U.ce),(1,0),(3,key),(4,val)]:List (Int × Int))=4):=zH rfl;have lq:kk < 4:=gy;have nN:(me [(0,U.ce),(1,0),(3,key),(4,val)])[kk]?=some (zI part):=by unfold me;rw[List.getElem?_map,gm];rfl
   have ec:(mf [(0,U.ce),(1,0),(3,key),(4,val)])[kk]?=some (zU word):=by unfold mf;rw[List.getElem?_map,gm];rfl
   have e7:Env w0 (eZ g2 (mf [(0,U.ce),(1,0),(3,key),(4,val)])::eZ g1 (me [(0,U.ce),(1,0),(3,key),(4,val)])::ae b (aM (10+(kk:Int)) h n r)::LU { U with hs:=bf,ql:=et,A:=A9,c:=c9 } (ae O [zI ok,zU key,zU val,zI lv]::R)) _:=hB;clear hB ai;have nO:=e7.lie 1 rfl kk nN;have jZ:=e7.lie 0 rfl kk ec;have oV:((kk:Int)==3)=decide (kk+1=4):=by
    by_cases h:kk+1=4
    ·rw[decide_eq_true h];simp;omega
    ·rw[decide_eq_false h];simp;omega
   have aE:decide ((kk:Int) < 4)=true:=by simp;omega
   have nM:(kk:Int) < 4:=by omega
   have kg:(0:Int)<=kk:=by omega
   obtain⟨bl,jl⟩:∃ b,decide (kk+1=4)=b:=⟨_,rfl⟩;rw[jl] at oV;have qy:=zH jl;clear jl;have r3:=e7.rule 2 rfl;unfold aM at r3;go_wp2_with fail;refine Ord.wc [14] (fun v=>ao 0 v U.u (bx U.ck U.cs U.cb U.ch U.cl U.ce A9 et.length c9 U.N bf U.ro)/\jY v g1 kk (zI part)/\jY v g2 kk (zU word)) (fun k w'=>∃ F5,Env w0 (eZ g2 (mf [(0,U.ce),(1,0),(3,key),(4,val)])::eZ g1 (me [(0,U.ce),(1,0),(3,key),(4,val)])::ae b (aM (10+(kk:Int)) h n r)::LU (if k=0 then { U with hs:=bf,ql:=et,A:=A9,c:=c9 } else { U with F:=F5,ml:=cM U.ml (5,bf,part) word,hs:=bf,ql:=et,A:=A9,c:=c9 }) (ae O [zI ok,zU key,zU val,zI lv]::R)) w') ⟨e7.drew.get 3 rfl,nO.under ((Below.refl _ _).drew),jZ.under ((Below.refl _ _).drew)⟩ ⟨U.F,e7.drew⟩ fun af=>?_
   repeat ((first
    | (refine Ord.cv ?_ af.o ?_ ?_;rotate_left;(intro w5 hS;have r1:=hS.1.rule;have r2:=hS.2.1.2;have r3:=hS.2.2.2;unfold bx at r1;go_simp<;>rfl))
    | (refine Ord.co af.o ?_)
    | (refine Ord.cc ?_ ?_ ?_ af.o ?_ ?_ ?_;rotate_left 3;(intro w5 hS;have r1:=hS.1.rule;have r2:=hS.2.1.2;have r3:=hS.2.2.2;unfold bx at r1;go_simp;constructor<;>rfl);(intro w5 hS;(first | (with_reducible refine kp (jH _ _ _) ?_ ?_;rfl;exact fun w6 aj=>⟨⟨hS.1.under aj,hS.2.1.under aj,hS.2.2.under aj⟩,fun k h=>h.elim fun F5 h=>⟨F5,h.over aj⟩⟩)))));try simp only[Act.put,zA,zZ,zS])
   refine Ord.ch_turn (v:=.tuple #[]) 0 af.o rfl (by decide) (Or.inl rfl) (by rfl) ?_ ?_
   ·rintro w5 aN ⟨F5,au⟩;simp only[if_true] at au;go_simp;simp only[Ord.LandsIn];refine (mM 5 bf part word aQ (au.ref 5 rfl)).mono ?_;rintro e w6 ⟨rfl,F6,hU,bf⟩;have aq:=au.turnU 5 rfl hU bf;exact⟨rfl,⟨aq.get 3 rfl,aq.lie 1 rfl kk nN,aq.lie 0 rfl kk ec⟩,F6,aq⟩
   try simp only[Act.put,zA,zZ,zS]
   repeat ((first
    | (refine Ord.cv ?_ af.o ?_ ?_;rotate_left;(intro w5 hS;skip;go_simp<;>rfl))
    | (refine Ord.co af.o ?_));try simp only[Act.put,zA,zZ,zS])
   refine Ord.InText.nil fun w5 hS=>?_;clear af;obtain⟨aL,ai⟩:=Ord.chain_end hS;clear hS;obtain⟨F9,ai⟩:=ai;simp only[List.length_cons,List.length_nil,Nat.zero_add,Nat.one_ne_zero,if_false] at ai;clear aL e7;have r3:=ai.rule 2 rfl;unfold aM at r3;have f0:=ai.thaw 2 rfl 0 (by simp[aM]);have hP:=(ai.put 2 rfl (j:=0) (by simp[aM]) (zI (10+(kk:Int)+1))).sub (L':=ae b (aM (10+(kk:Int)+1) h n r)::LU { U with F:=F9,ml:=cM U.ml (5,bf,part) word,hs:=bf,ql:=et,A:=A9,c:=c9 } R) (.cons _ (.cons _ (.cons_cons _ (.cons_cons _ (.cons_cons _ (.cons_cons _ (.cons _ (List.Sublist.refl _))))))));cases bl
   ·have bu:¬ kk+1=4:=by simpa using qy.out
    have HP:Hid (eF kk (List.length ([(0,U.ce),(1,0),(3,key),(4,val)]:List (Int × Int)))=0):=zH (if_neg (by rw[qx.out];exact bu));clear bu;go_wp2_with fail
    (try go_ret)
    have h9:=HQ.out _ bf et A9 c9 F9 HS.out hP;rw[mP.out,HP.out] at h9;exact h9
   ·have heq:kk+1=4:=by simpa using qy.out
    have HP:Hid (eF kk (List.length ([(0,U.ce),(1,0),(3,key),(4,val)]:List (Int × Int)))=1):=zH (if_pos (by rw[qx.out];exact heq));clear heq;go_wp2_with fail
    (try go_ret)
    have h9:=HQ.out _ bf et A9 c9 F9 HS.out hP;rw[mP.out,HP.out] at h9;exact h9
theorem Ks (kk:Nat) (mO:0 < kk) (part word:Int) (gm:(cX U.ck U.ce key val (IntKind.u64.wrap lv))[kk]?=some (part,word)) (he:0<=U.ce/\U.ce<=9223372036854775807) (aQ:U.ml.length<=1000000) (hE:Env w0 (ae b (aM (10+(kk:Int)) h n r)::LU U R) w) :
  Calls prog 94 #[zP b,zP U.u,zP U.m,.agg #[zI ok,zU key,zU val,zI lv]] w fun o w'=>o=.returned (zI (eF kk (cX U.ck U.ce key val (IntKind.u64.wrap lv)).length))/\∃ F5,Env w0 (ae b (aM (10+(kk:Int)+1) h n r)::LU { U with F:=F5,ml:=cM U.ml (5,U.hs,part) word } R) w':=by
 refine D6 kk _ part word gm he aQ (.inl mO) hE (fun w' bf et A9 c9 F5 hx az=>?_)
 rcases hx with ⟨-,rfl,rfl,rfl,rfl⟩ | ⟨h,-⟩
 ·exact⟨rfl,F5,az⟩
 ·omega
theorem Ku (x y:Int) (t:List bF) (bU:U.ql=(x,y,0)::t) (hl:t.length<=1000000) (part word:Int) (gm:(cX U.ck U.ce key val (IntKind.u64.wrap lv))[0]?=some (part,word)) (he:0<=U.ce/\U.ce<=9223372036854775807) (aQ:U.ml.length<=1000000) (hE:Env w0 (ae b (aM 10 h n r)::LU U R) w) :
  Calls prog 94 #[zP b,zP U.u,zP U.m,.agg #[zI ok,zU key,zU val,zI lv]] w fun o w'=>o=.returned (zI (eF 0 (cX U.ck U.ce key val (IntKind.u64.wrap lv)).length))/\∃ F5 A' c',Env w0 (ae b (aM 11 h n r)::LU { U with F:=F5,ml:=cM U.ml (5,x,part) word,hs:=x,ql:=t,A:=A',c:=c' } R) w':=by
 refine D6 0 _ part word gm he aQ (.inr ⟨rfl,x,y,t,bU,hl⟩) hE (fun w' bf et A9 c9 F5 hx az=>?_)
 rcases hx with ⟨h,-⟩ | ⟨-,y9,h⟩
 ·omega
 ·rw[bU] at h
  injection h with h1 h2
  injection h1 with h1 h3
  subst h1;subst h2;exact⟨rfl,F5,A9,c9,az⟩
end
structure Dd where
 (kind ok key val lv:Int)
structure Cf where
 (k s b h l:Int)
structure Th where
 (e:Int)
 (ql:List bF)
 (hs:Int)
 (nd pc apc:Nat)
 (ah an ar rs:Int)
 (rpc:Nat)
 (re:Int)
 (gpc:Nat)
 (gh gg done:Int)
 (full:Bool)
abbrev Mem:=aI->Int
def aT (C:Cf) (d:Dd) (T:Th) (f:Mem):Int × Th × Mem :=
 if T.apc=1 then (2,T,swf f (1,0,0) T.e (T.e+1))
 else if T.apc=2 then
  if C.s<=f (3,0,0) then (0,{ T with apc:=3 },upd f (3,0,0) (IntKind.u64.wrap (f (3,0,0)+1)))
  else (dI (T.ql++[(f (3,0,0)+1,0,0)]) T.e C.l,{ T with ql:=T.ql++[(f (3,0,0)+1,0,0)],apc:=bk (T.ql++[(f (3,0,0)+1,0,0)]) T.e C.l },upd f (3,0,0) (IntKind.u64.wrap (f (3,0,0)+1)))
 else if T.apc=3 then (gC (f (2,0,0)) C.l,{ T with ah:=f (2,0,0),apc:=4 },f)
 else if T.apc=4 then (0,{ T with an:=f (5,aA T.ah,2),apc:=5 },f)
 else if T.apc=5 then (0,{ T with ar:=f (5,aA T.ah,1),apc:=6 },f)
 else if T.apc=6 then
  if f (2,0,0)=T.ah then (dI (T.ql++[(aA T.ah,bg T.ar,0)]) T.e C.l,{ T with ql:=T.ql++[(aA T.ah,bg T.ar,0)],apc:=bk (T.ql++[(aA T.ah,bg T.ar,0)]) T.e C.l },swf f (2,0,0) T.ah (eh T.ah (aA T.an)))
  else (0,{ T with apc:=3 },swf f (2,0,0) T.ah (eh T.ah (aA T.an)))
 else
  let W:=cX C.k T.e d.key d.val (IntKind.u64.wrap d.lv)
  let pw:=W.getD (T.apc - 10) (0,0)
  if T.apc=10 then (eF 0 W.length,{ T with ql:=T.ql.tail,hs:=(T.ql.headD t0).1,apc:=11 },upd f (5,(T.ql.headD t0).1,pw.1) pw.2)
  else (eF (T.apc - 10) W.length,{ T with apc:=T.apc+1 },upd f (5,T.hs,pw.1) pw.2)
def cQ (T:Th) (f:Mem):Int × Th × Mem :=
 if T.rpc=0 then (0,{ T with re:=f (1,0,0),rpc:=1 },f)
 else (1,{ T with ql:=T.ql++[(T.rs,bg T.re,0)] },upd f (5,T.rs,1) T.re)
def cK (C:Cf) (T:Th) (f:Mem):Int × Th × Mem :=
 if T.gpc=0 then (js T.ql,{ T with e:=bg (f (1,0,0)),gpc:=1 },f)
 else if T.gpc=1 then (jV (f (2,0,0)) C.l,{ T with gh:=f (2,0,0),gpc:=2 },f)
 else if T.gpc=2 then (0,{ T with gpc:=3 },upd f (5,(T.ql.headD t0).1,2) (aP false (aA T.gh) 0))
 else if f (2,0,0)=T.gh then (js T.ql.tail,{ T with ql:=T.ql.tail,gg:=wrap64 (T.gg+1),gpc:=1 },swf f (2,0,0) T.gh (eh T.gh (T.ql.headD t0).1))
 else (0,{ T with gpc:=1 },swf f (2,0,0) T.gh (eh T.gh (T.ql.headD t0).1))
def je (C:Cf) (d:Dd) (T:Th) (f:Mem):Th × Mem :=
 if T.pc=1 then
  let e:=bg (f (1,0,0))
  ({ T with e:=e,apc:=bk T.ql e C.l,ah:=0,an:=0,ar:=0,pc:=if bk T.ql e C.l=0 then 0 else 2,full:=false },f)
 else if T.pc=2 then
  let r:=aT C d T f
  ({ r.2.1 with pc:=if r.1=2 then 1 else if r.1=0 then 2 else 0,done:=if r.1=1 then T.done+1 else T.done,full:=r.1==3 },r.2.2)
 else if T.pc=3 then
  let r:=cQ T f
  ({ r.2.1 with pc:=if r.1=0 then 3 else 0,full:=false },r.2.2)
 else
  let r:=cK C T f
  ({ r.2.1 with pc:=if r.1=0 then 4 else 0,full:=false },r.2.2)
section
variable {w0 w:World} {L:List Item} {p c n:Nat} {F:Nat->Prop} {f:aI->Int} {q:bN}
variable {cc qq:Nat} {k s b h l e r hs hh:Int}
def okB (x e:Int):Bool:=mH x && (bg x==e)
theorem xr (x:Int) (br:f (1,0,0)=x) (m i j:Nat) (gG:j≠i) (lu:j≠m) (hE:Env w0 L w) (hm:L[m]?=some (dy cc k s b h l e r hs hh qq)) (hi:L[i]?=some (fk p c)) (hj:L[j]?=some (dg c F f q n)) :
  Calls prog 184 #[zP cc,.iface 28 (zP p)] w fun o w'=>o=.returned (.bool (okB x e))/\Env w0 ((L.set j (dg c F f { q with l:=wrap64 (q.l+1) } n)).set m (dy cc k s b h l e (if okB x e then r else wrap64 (r+1)) hs hh qq)) w':=by
 have aQ:m < L.length:=(List.getElem?_eq_some_iff.1 hm).1;have nP:∀ w',Env w0 (L.set j (dg c F f { q with l:=wrap64 (q.l+1) } n)) w'->Env w0 ((L.set j (dg c F f { q with l:=wrap64 (q.l+1) } n)).set m (dy cc k s b h l e r hs hh qq)) w':=fun w' h=>by
  rw[Dh (lY (b:=dg c F f { q with l:=wrap64 (q.l+1) } n) lu hm)];exact h
 have HS:=zH nP;clear nP;have aG:okB x e=(mH x && (bg x==e)):=rfl;generalize hR:(if okB x e then r else wrap64 (r+1))=R;rw[aG] at hR ⊢;clear aG;generalize hy:bg x=y at *;generalize hB:mH x=B at *;have HR:=zH hR;have HY:=zH hy;have HB:=zH hB;clear hR hy hB;go_enter func184,ntmps184;go_wp2_with fail;refine (Di x br i j gG hE hi hj).mono ?_;rintro o w1 ⟨rfl,ag⟩;have iC:=lY (b:=dg c F f { q with l:=wrap64 (q.l+1) } n) lu hm;have r1:=ag.rule m iC;unfold cT at r1;have f1:=ag.thaw m iC 6 (by simp[cT]);rw[HY.out,HB.out];clear HY HB;cases B
 ·have j0:=HR.out;simp only[Bool.false_and,Bool.false_eq_true,if_false] at j0;subst j0;go_wp2_with fail;go_ret;exact⟨rfl,ag.put m iC (j:=6) (by simp[cT]) (zI (wrap64 (r+1)))⟩
 ·cases hy:y==e
  ·have j0:=HR.out;rw[hy] at j0;simp only[Bool.and_false,Bool.false_eq_true,if_false] at j0;subst j0;go_wp2_with fail;go_ret;exact⟨ig (by rw[hy];rfl),ag.put m iC (j:=6) (by simp[cT]) (zI (wrap64 (r+1)))⟩
  ·have j0:=HR.out;rw[hy] at j0;simp only[Bool.and_true,if_true] at j0;subst j0;go_wp2_with fail;go_ret;exact⟨ig (by rw[hy];rfl),HS.out _ ag⟩
end
structure Lm where
 p:aI
 pc:Nat
 W:Int
 X:Int
 K:Int
 V:Int
 C:Int
 fd:Bool
def L0 (p:aI):Lm:=⟨p,0,0,0,0,0,0,false⟩
def rU (L:Lm) (w:Int):Int × Lm:=(if aA w=0 then 1 else 0,{ L with W:=w,X:=0,C:=aA w,pc:=3 })
def eC (lv key:Int) (vs:Bool) (L:Lm):Int × Lm :=
 if L.pc=2 then (if cO L.W then (2,L) else rU L L.W)
 else if L.pc=4 then (0,{ L with pc:=if cO L.X then 5 else 6 })
 else if L.pc=7 then
  if L.K < key then rU { L with p:=(5,L.C,7+lv) } L.X
  else if L.K=key then (if vs then (0,{ L with fd:=true,pc:=8 }) else (1,{ L with fd:=true }))
  else (1,L)
 else (1,L)
def aF (lv key:Int) (vs:Bool) (e:Int) (L:Lm) (f:aI->Int):Int × Lm × (aI->Int) :=
 if L.pc=0 then (0,{ L with W:=f L.p,pc:=2 },f)
 else if L.pc=3 then (0,{ L with X:=f (5,L.C,7+lv),pc:=4 },f)
 else if L.pc=5 then
  if f L.p=L.W then ((rU L (aP false (aA L.X) e)).1,(rU L (aP false (aA L.X) e)).2,swf f L.p L.W (aP false (aA L.X) e))
  else (2,L,swf f L.p L.W (aP false (aA L.X) e))
 else if L.pc=6 then (0,{ L with K:=f (5,L.C,3),pc:=7 },f)
 else if L.pc=8 then (0,{ L with V:=f (5,L.C,4),pc:=9 },f)
 else if okB (f (1,0,0)) e then ((eC lv key vs L).1,(eC lv key vs L).2,f)
 else (2,L,f)
def isVal (pc:Nat):Bool:=pc==2 || pc==4 || pc==7 || pc==9
def cU (e:Int) (L:Lm) (f:aI->Int) (r:Int):Int:=if isVal L.pc && !okB (f (1,0,0)) e then wrap64 (r+1) else r
structure eJ (L:Lm):Prop where
 pc:L.pc=0\/L.pc=2\/L.pc=3\/L.pc=4\/L.pc=5\/L.pc=6\/L.pc=7\/L.pc=8\/L.pc=9
 v:L.pc<=8->L.V=0
 fd:L.pc<=7->L.fd=false
 ft:8<=L.pc->L.fd=true
 x:L.pc<=3->L.X=0
 c0:L.pc<=2->L.C=0
 W:aD L.W
 X:aD L.X
 C:0<=L.C/\L.C<=8388607
theorem eJ.start (p:aI):eJ (L0 p):=⟨.inl rfl,fun _=>rfl,fun _=>rfl,fun h=>absurd h (by simp[L0]),fun _=>rfl,fun _=>rfl,by simp[L0,aD],by simp[L0,aD],by simp[L0]⟩
structure Fm where
 on:Bool
 lv:Nat
 L:Nat->Lm
 e:Int
 r:Int
def cN {α:Type} (L:Nat->α) (k:Nat) (x:α):Nat->α:=fun i=>if i=k then x else L i
theorem gD {α:Type} (L:Nat->α) (k:Nat) (x:α):cN L k x k=x:=by simp[cN]
theorem gQ {α:Type} (L:Nat->α) {k i:Nat} (x:α) (h:i≠k):cN L k x i=L i:=by simp[cN,h]
def kB (p:aI):aI:=(p.1,p.2.1,p.2.2 - 1)
def bm (h:Nat) (key:Int) (F:Fm) (f:aI->Int):Int × Fm × (aI->Int) :=
 if F.on then
  (if (aF F.lv key false F.e (F.L F.lv) f).1=1/\F.lv=0 then 1 else 0,
   (if (aF F.lv key false F.e (F.L F.lv) f).1=2 then { F with on:=false,r:=cU F.e (F.L F.lv) f F.r }
    else if (aF F.lv key false F.e (F.L F.lv) f).1=1/\F.lv≠0 then
     { F with lv:=F.lv - 1,L:=cN (cN F.L F.lv (aF F.lv key false F.e (F.L F.lv) f).2.1) (F.lv - 1) (L0 (kB (aF F.lv key false F.e (F.L F.lv) f).2.1.p)),r:=cU F.e (F.L F.lv) f F.r }
    else { F with L:=cN F.L F.lv (aF F.lv key false F.e (F.L F.lv) f).2.1,r:=cU F.e (F.L F.lv) f F.r }),
   (aF F.lv key false F.e (F.L F.lv) f).2.2)
 else (0,{ F with on:=true,lv:=h - 1,L:=cN F.L (h - 1) (L0 (4,0,((h - 1:Nat):Int))),e:=bg (f (1,0,0)) },f)
def fc (lv:Int) (p:aI):Prop:=p=(4,0,lv)\/∃ c,0<=c/\c<=8388607/\p=(5,c,7+lv)
theorem fc.wf {lv:Int} {p:aI} (h:fc lv p) (aH:-7<=lv/\lv<=1000000):Wf p:=by
 rcases h with rfl | ⟨c,h0,h1,rfl⟩
 ·unfold Wf In64;simp;omega
 ·unfold Wf In64;simp;omega
theorem fc.below {lv:Int} {p:aI} (h:fc lv p):fc (lv - 1) (kB p):=by
 rcases h with rfl | ⟨c,h0,h1,rfl⟩
 ·exact .inl rfl
 ·exact .inr ⟨c,h0,h1,by unfold kB;simp;omega⟩
theorem fc.lane {lv key e:Int} {vs:Bool} {L:Lm} {f:aI->Int} (h:fc lv L.p) (hC:0<=L.C/\L.C<=8388607):fc lv (aF lv key vs e L f).2.1.p:=by
 have h2:fc lv (5,L.C,7+lv):=.inr ⟨_,hC.1,hC.2,rfl⟩
 by_cases h0:L.pc=0
 ·simp only[aF,if_pos h0];exact h
 by_cases h3:L.pc=3
 ·simp only[aF,if_neg h0,if_pos h3];exact h
 by_cases h5:L.pc=5
 ·simp only[aF,if_neg h0,if_neg h3,if_pos h5]
  by_cases hx:f L.p=L.W
  ·rw[if_pos hx];exact h
  ·rw[if_neg hx];exact h
 by_cases h6:L.pc=6
 ·simp only[aF,if_neg h0,if_neg h3,if_neg h5,if_pos h6];exact h
 by_cases h8:L.pc=8
 ·simp only[aF,if_neg h0,if_neg h3,if_neg h5,if_neg h6,if_pos h8];exact h
 simp only[aF,if_neg h0,if_neg h3,if_neg h5,if_neg h6,if_neg h8]
 by_cases aG:okB (f (1,0,0)) e=true
 ·rw[if_pos aG];unfold eC
  by_cases p2:L.pc=2
  ·rw[if_pos p2]
   by_cases hm:cO L.W=true
   ·rw[if_pos hm];exact h
   ·rw[if_neg hm];exact h
  rw[if_neg p2]
  by_cases p4:L.pc=4
  ·rw[if_pos p4];exact h
  rw[if_neg p4]
  by_cases p7:L.pc=7
  ·rw[if_pos p7]
   by_cases hk:L.K < key
   ·rw[if_pos hk];exact h2
   ·rw[if_neg hk]
    by_cases hq:L.K=key
    ·rw[if_pos hq];cases vs
     ·exact h
     ·exact h
    ·rw[if_neg hq];exact h
  ·rw[if_neg p7];exact h
 ·rw[if_neg aG];exact h
def tQ (h:Nat) (F:Fm):Prop:=F.on=true->F.lv < h/\eJ (F.L F.lv)/\fc F.lv (F.L F.lv).p
structure Kt where
 T:Th
 pc:Nat
 ft:Nat
 on:Bool
 fl:Nat
 L:Nat->Lm
 n:Int
 lv:Nat
 y:Int
 an:Bool
 err:Int
 dn:Bool
 r:Int
def j1 (hs:Int) (ql:List bF):List bF:=if hs=0 then ql else ql++[(hs,0,0)]
def eu (a:Nat) (K:Kt):Kt:={ K with pc:=1,ft:=a,on:=false,fl:=0,L:=fun _=>L0 (0,0,0) }
def lK (L:Nat->Lm) (t:Nat):Bool:=(List.range (t - 1)).any fun i=>(L (i+1)).fd
def qz (C:Cf) (K:Kt):Int × Kt :=
 if bk K.T.ql K.T.e C.l=0 then (1,{ K with err:=7 })
 else (0,{ K with pc:=2,T:={ K.T with pc:=2,apc:=bk K.T.ql K.T.e C.l,ah:=0,an:=0,ar:=0 } })
def bQ (C:Cf) (d:Dd) (K:Kt):Int × Kt :=
 if K.ft=1 then (0,{ K with an:=true,pc:=if (K.L 0).C=K.n then 6 else 10 })
 else if K.ft=2 then (0,{ K with pc:=7,T:={ K.T with pc:=3,rs:=K.n,rpc:=0,re:=0 } })
 else if d.ok=1 then
  if (K.L 0).fd then (1,{ K with T:={ K.T with ql:=j1 K.T.hs K.T.ql,hs:=0 } })
  else if K.T.hs=0 then qz C K
  else if lK K.L d.lv.toNat then (0,eu 0 K)
  else (0,{ K with pc:=3,n:=K.T.hs,lv:=0 })
 else if d.ok=2 then
  if (K.L 0).fd then (0,{ K with pc:=11,n:=(K.L 0).C }) else (1,K)
 else (1,{ K with dn:=(K.L 0).fd })
def fH (d:Dd) (K:Kt) (l:Nat):Kt:={ K with lv:=l,pc:=if (l:Int)=d.lv then 10 else if K.an then 6 else 5 }
def bW (K:Kt):aI:=(5,K.n,7+(K.lv:Int))
def iQ (K:Kt):Int:=aP false (aA (K.L K.lv).W) K.T.e
def aJ (C:Cf) (d:Dd) (K:Kt) (f:Mem):Int × Kt × Mem :=
 if K.pc=1 then
  let q:=bm C.h.toNat d.key ⟨K.on,K.fl,K.L,K.T.e,K.r⟩ f
  let K':={ K with on:=q.2.1.on,fl:=q.2.1.lv,L:=q.2.1.L,r:=q.2.1.r,T:={ K.T with e:=q.2.1.e } }
  if q.1=1 then ((bQ C d K').1,(bQ C d K').2,q.2.2) else (0,K',q.2.2)
 else if K.pc=2 then
  let q:=aT C d K.T f
  if q.1=0 then (0,{ K with T:=q.2.1 },q.2.2)
  else if q.1=3 then (1,{ K with T:={ q.2.1 with pc:=0 },err:=6 },q.2.2)
  else if q.1=4 then (1,{ K with T:={ q.2.1 with pc:=0 },err:=7 },q.2.2)
  else (0,eu 0 { K with T:={ q.2.1 with pc:=0 } },q.2.2)
 else if K.pc=3 then
  (0,(if ((K.lv+1:Nat):Int) < d.lv then { K with lv:=K.lv+1 } else { K with lv:=0,pc:=4 }),upd f (bW K) (iQ K))
 else if K.pc=4 then
  if f (K.L 0).p=(K.L 0).W then (0,fH d { K with T:={ K.T with hs:=0 } } 1,swf f (K.L 0).p (K.L 0).W (aP false K.n K.T.e))
  else (0,eu 0 K,swf f (K.L 0).p (K.L 0).W (aP false K.n K.T.e))
 else if K.pc=5 then
  if f (K.L K.lv).p=(K.L K.lv).W then (0,fH d K (K.lv+1),swf f (K.L K.lv).p (K.L K.lv).W (aP false K.n K.T.e))
  else (0,eu 1 K,swf f (K.L K.lv).p (K.L K.lv).W (aP false K.n K.T.e))
 else if K.pc=6 then
  (0,{ K with y:=f (bW K),pc:=if cO (f (bW K)) then 10 else if f (bW K)=iQ K then 5 else 9 },f)
 else if K.pc=9 then
  (0,{ K with pc:=if f (bW K)=K.y then 5 else 10 },swf f (bW K) K.y (iQ K))
 else if K.pc=10 then
  if f (5,K.n,6)=0 then (1,{ K with dn:=true },swf f (5,K.n,6) 0 1) else (0,eu 2 K,swf f (5,K.n,6) 0 1)
 else if K.pc=11 then (0,{ K with y:=f (5,K.n,5),pc:=12 },f)
 else if K.pc=12 then
  if okB (f (1,0,0)) K.T.e then (0,{ K with lv:=if 1<=K.y/\K.y<=C.h then (K.y - 1).toNat else 0,pc:=13 },f)
  else (0,eu 0 { K with r:=wrap64 (K.r+1) },f)
 else if K.pc=13 then (0,{ K with y:=f (bW K),pc:=14 },f)
 else if K.pc=14 then
  if okB (f (1,0,0)) K.T.e then
   if cO K.y then (if K.lv=0 then (0,eu 0 K,f) else (0,{ K with lv:=K.lv - 1,pc:=13 },f))
   else (0,{ K with pc:=15 },f)
  else (0,eu 0 { K with r:=wrap64 (K.r+1) },f)
 else if K.pc=15 then
  (0,(if f (bW K)=K.y then (if K.lv=0 then { K with pc:=16 } else { K with lv:=K.lv - 1,pc:=13 }) else { K with pc:=13 }),swf f (bW K) K.y (aP true (aA K.y) K.T.e))
 else if K.pc=16 then
  if f (5,K.n,6)=0 then (1,{ K with dn:=true },swf f (5,K.n,6) 0 2) else (0,eu 2 K,swf f (5,K.n,6) 0 2)
 else
  let q:=cQ K.T f
  if q.1=0 then (0,{ K with T:=q.2.1 },q.2.2) else (1,{ K with T:={ q.2.1 with pc:=0 },dn:=true },q.2.2)
def fM (C:Cf) (d:Dd) (K:Kt) (f:Mem):Int × Kt × Mem :=
 if K.pc=8 then
  let q:=cK C K.T f
  if q.1=0 then (0,{ K with T:=q.2.1 },q.2.2) else (q.1,{ K with T:={ q.2.1 with pc:=0 },pc:=0 },q.2.2)
 else
  let q:=aJ C d K f
  (q.1,{ q.2.1 with pc:=if q.1=0 then q.2.1.pc else 0 },q.2.2)
def eG (d:Dd) (K:Kt):Kt :=
 if d.ok=8 then { K with pc:=8,T:={ K.T with pc:=4,nd:=K.T.nd+1,gpc:=0,gh:=0,gg:=0 } }
 else { eu 0 K with T:={ K.T with nd:=K.T.nd+1 },an:=false,err:=0,dn:=false }
def iR (C:Cf) (ds:List Dd) (K:Kt) (f:Mem):Int × Kt × Mem :=
 if K.pc=0 then
  if K.T.nd < ds.length then fM C (ds.getD K.T.nd ⟨0,0,0,0,0⟩) (eG (ds.getD K.T.nd ⟨0,0,0,0,0⟩) K) f
  else (0,K,f)
 else fM C (ds.getD (K.T.nd - 1) ⟨0,0,0,0,0⟩) K f
section
variable {w:World} {c q:Nat} {k s b h l e r hs hi:Int}
theorem xt (a d:Int) (hg:bE w) (hb:ao 0 w c (cT k s b h l e r hs hi q)) :
  Calls prog 177 #[zP c,.agg #[zI a,zI d]] w fun o w'=>o=.returned (.agg #[zU (aP false a e),zI d,.bool false])/\Below w.heap.size w w':=by
 have gJ:=hb.1;have u6:=zH fun (v:World) (hv:Below w.heap.size w v)=>zB a e v (hg.keep' hv);clear hg;have cV:=(hb.more (.cells [zI a,zI d].toArray 92)).more (.cells [zU 0,zI 0,.bool false].toArray 110);have hX:=(ao.new 0 w [zI a,zI d] 92).more (.cells [zU 0,zI 0,.bool false].toArray 110);have hB:=(ao.new 0 (w.alloc (.cells [zI a,zI d].toArray 92)) [zU 0,zI 0,.bool false] 110).at (n':=w.heap.size+1) (by simp);have hE:=((Below.refl w.heap.size w).alloc (Nat.le_refl _) (.cells [zI a,zI d].toArray 92)).alloc (by simp) (.cells [zU 0,zI 0,.bool false].toArray 110);unfold cT at cV;clear hb;go_enter func177,ntmps177;go_wp2_with fail;refine Ord.wc [10] (fun w'=>Below w.heap.size w w'/\ao 0 w' c [zI k,zI s,zI b,zI h,zI l,zI e,zI r,zI hs,zI hi,zP q]/\ao 0 w' w.heap.size [zI a,zI d]) (fun j w'=>ao 0 w' (w.heap.size+1) (if j=0 then [zU 0,zI 0,.bool false] else [zU (aP false a e),zI d,.bool false])) ⟨hE.drew,cV.drew,hX.drew⟩ hB.drew fun af=>?_
 repeat ((first
  | (refine Ord.cv ?_ af.o ?_ ?_;rotate_left;(intro w5 hS;have r:=ao.rule hS.2.1;have r2:=ao.rule hS.2.2;go_simp<;>rfl))
  | (refine Ord.co af.o ?_)
  | (refine Ord.cc ?_ ?_ ?_ af.o ?_ ?_ ?_;rotate_left 3;(intro w5 hS;have r:=ao.rule hS.2.1;have r2:=ao.rule hS.2.2;go_simp;constructor<;>rfl);(intro w5 hS;(first | (with_reducible refine kp (u6.out _ hS.1) ?_ ?_;rfl;exact fun w6 aj=>⟨⟨hS.1.trans (aj.mono hS.1.size),hS.2.1.under aj,hS.2.2.under aj⟩,fun _ h=>h.under aj⟩)))));try simp only[Act.put,zA,zZ,zS])
 refine Ord.ch_turn (v:=undef) 0 af.o rfl (by decide) (Or.inl rfl) (by rfl) ?_ ?_
 ·rintro w5 hS aU;simp only[if_true] at aU;have r:=aU.rule;have f0:=aU.thaw 0 (by simp);have f1:=aU.thaw 1 (by simp);have f2:=aU.thaw 2 (by simp);have hz:=hS.1.size;go_simp;refine⟨rfl,⟨?_,?_,?_⟩,?_⟩
  ·exact dJ (dJ (dJ hS.1 hz (by omega) _) (by simp;omega) (by omega) _) (by simp;omega) (by omega) _
  ·exact ((hS.2.1.off (by omega) _).off (by omega) _).off (by omega) _
  ·exact ((hS.2.2.off (by omega) _).off (by omega) _).off (by omega) _
  ·exact ao.put3 aU _ _ _
 try simp only[Act.put,zA,zZ,zS]
 repeat ((first
  | (refine Ord.cv ?_ af.o ?_ ?_;rotate_left;(intro w5 hS;skip;go_simp<;>rfl))
  | (refine Ord.co af.o ?_));try simp only[Act.put,zA,zZ,zS])
 refine Ord.InText.nil fun w5 hS=>?_;clear af;obtain⟨aL,ai⟩:=Ord.chain_end hS;clear hS;have q:=ai.rule;simp only[show ¬ [10].length=0 by decide,if_false] at q
 go_wp2
 exact bodyPost_ret (v:=.agg #[zU (aP false a e),zI d,.bool false]) (by simp[results,results177,go_sem,q]) rfl ⟨rfl,aL.1⟩
end
end
section
open Go.RowKit
theorem oh (x:Int) (w:World) (hg:bE w) (h0:0<=x) (h1:x<=18446744073709551615) :
  Calls prog 219 #[.int .u64 x] w fun e w'=>e=.returned (.bool (cO x))/\Below w.heap.size w w':=by
 obtain⟨-,-,⟨c0,c1⟩,-,-,hs⟩:=hg;have HG:=zH (I8 x h0 h1);go_enter func219,ntmps219;go_wp2_with fail;refine (zq 63 1 x _ (by decide) (by decide) h0 h1).mono ?_;rintro e w1 ⟨rfl,hb⟩;generalize lZ 63 1 x=y at *
 go_wp2
 go_ret;exact⟨ig (by rw[<- HG.out];rfl),hb⟩
theorem Af (y m:Int) (w:World):Calls prog 176 #[.int .i64 y,.int .i64 m] w fun e w'=>e=.returned (.agg #[.int .i64 5,.int .i64 y,.int .i64 (wrap64 (7+m))])/\Below w.heap.size w w':=by
 have hF:=(Fr.start w).push w.heap.size rfl [.int .i64 0,.int .i64 0,.int .i64 0] 72;go_enter func176,ntmps176;go_wp2_with fail;refine (wR _ _ _).mono ?_;rintro e w1 ⟨rfl,hb⟩;replace hF:=hF.over hb;have r:=hF.rule 0 rfl;have f:=hF.thaw 0 rfl (Nat.le_refl _)
 go_wp2
 have hP:=hF.put3 (Nat.le_refl _) (fun x hx=>by cases hx) (.int .i64 5) (.int .i64 y) (.int .i64 (wrap64 (7+m)));have q:=hP.rule 0 rfl;exact bodyPost_ret (v:=.agg #[.int .i64 5,.int .i64 y,.int .i64 (wrap64 (7+m))]) (by simp[results,results176,go_sem,q]) rfl ⟨rfl,hP.below⟩
theorem xu (z:Int) (w:World):Calls prog 147 #[.int .i64 z] w fun e w'=>e=.returned (.agg #[.int .i64 4,.int .i64 0,.int .i64 z])/\Below w.heap.size w w':=by
 go_enter func147,ntmps147
 go_wp2
 exact bodyPost_ret (v:=.agg #[.int .i64 4,.int .i64 0,.int .i64 z]) (by simp[results,results147,go_sem]) rfl ⟨rfl,(Below.refl _ _).alloc (Nat.le_refl _) _⟩
end
section
open Go.RowKit Go.Maps
def aC (c:Nat) (lv key:Int) (vs:Bool) (nx:Value) (st x y z W C X wd:Int) (pf:Bool) (pv:Int):List Value :=
 [zP c,zI lv,zU key,.bool vs,nx,zI st,zI x,zI y,zI z,zI 0,zU W,zI 0,.bool false,zI C,zI 0,zU X,zI 0,.bool false,zU wd,.bool pf,zU pv]
def gR (b1 b2:Nat):Value:=.func (.func 228) #[] #[zP b1,zP b2]
section
variable {w:World} {a c:Nat} {lv key:Int} {vs:Bool} {nx:Value} {st x y z W C X wd:Int} {pf:Bool} {pv:Int}
theorem D7 (n:Int) (hb:ao 0 w a (aC c lv key vs nx st x y z W C X wd pf pv)):Calls prog 251 #[zP a,zI n] w fun e w'=>e=.returned (.agg #[zI 5,zI C,zI n,zI 0])/\Below w.heap.size w w':=by
 have bp:=hb.1;have hX:=hb.more (.cells [zI 0,zI 0,zI 0,zI 0].toArray 108);have hZ:=ao.new 0 w [zI 0,zI 0,zI 0,zI 0] 108;have hE:=(Below.refl w.heap.size w).alloc (Nat.le_refl _) (.cells [zI 0,zI 0,zI 0,zI 0].toArray 108);clear hb;go_enter func251,ntmps251;go_wp2_with fail;refine Ord.wc [13] (fun w'=>Below w.heap.size w w'/\ao 0 w' a (aC c lv key vs nx st x y z W C X wd pf pv)) (fun j w'=>ao 0 w' w.heap.size (if j=0 then [zI 0,zI 0,zI 0,zI 0] else [zI 5,zI C,zI n,zI 0])) ⟨hE.drew,hX.drew⟩ hZ.drew fun af=>?_
 repeat ((first
  | (refine Ord.cv ?_ af.o ?_ ?_;rotate_left;(intro w5 hS;have r:=ao.rule hS.2;unfold aC at r;go_simp<;>rfl))
  | (refine Ord.co af.o ?_)
  | (refine Ord.cc ?_ ?_ ?_ af.o ?_ ?_ ?_;rotate_left 3;(intro w5 hS;have r:=ao.rule hS.2;unfold aC at r;go_simp;constructor<;>rfl);(intro w5 hS;(first | (with_reducible refine kp (wR _ _ _) ?_ ?_;rfl;exact fun w6 aj=>⟨⟨hS.1.trans (aj.mono hS.1.size),hS.2.under aj⟩,fun _ h=>h.under aj⟩)))));try simp only[Act.put,zA,zZ,zS])
 refine Ord.ch_turn (v:=undef) 0 af.o rfl (by decide) (Or.inl rfl) (by rfl) ?_ ?_
 ·rintro w5 hS aU;simp only[if_true] at aU;have r:=aU.rule;have f0:=aU.thaw 0 (by simp);have f1:=aU.thaw 1 (by simp);have f2:=aU.thaw 2 (by simp);have f3:=aU.thaw 3 (by simp);have hz:=hS.1.size;go_simp;refine⟨rfl,⟨?_,?_⟩,?_⟩
  ·exact dJ (dJ (dJ (dJ hS.1 hz (by omega) _) (by simp;omega) (by omega) _) (by simp;omega) (by omega) _) (by simp;omega) (by omega) _
  ·exact (((hS.2.off (by omega) _).off (by omega) _).off (by omega) _).off (by omega) _
  ·exact (((aU.set (i:=0) (by simp) _).set (i:=1) (by simp) _).set (i:=2) (by simp) _).set (i:=3) (by simp) _
 try simp only[Act.put,zA,zZ,zS]
 repeat ((first
  | (refine Ord.cv ?_ af.o ?_ ?_;rotate_left;(intro w5 hS;skip;go_simp<;>rfl))
  | (refine Ord.co af.o ?_));try simp only[Act.put,zA,zZ,zS])
 refine Ord.InText.nil fun w5 hS=>?_;clear af;obtain⟨aL,ai⟩:=Ord.chain_end hS;clear hS;have q:=ai.rule;simp only[show ¬ [13].length=0 by decide,if_false] at q
 go_wp2
 exact bodyPost_ret (v:=.agg #[zI 5,zI C,zI n,zI 0]) (by simp[results,results251,go_sem,q]) rfl ⟨rfl,aL.1⟩
theorem D8 (aH:0<=lv/\lv<=1000000) (hb:ao 0 w a (aC c lv key vs nx st x y z W C X wd pf pv)):Calls prog 243 #[zP a] w fun e w'=>e=.returned (.agg #[zI 5,zI C,zI (7+lv),zI 0])/\Below w.heap.size w w':=by
 have bp:=hb.1;have hX:=hb.more (.cells [zI 0,zI 0,zI 0,zI 0].toArray 108);have hZ:=ao.new 0 w [zI 0,zI 0,zI 0,zI 0] 108;have hE:=(Below.refl w.heap.size w).alloc (Nat.le_refl _) (.cells [zI 0,zI 0,zI 0,zI 0].toArray 108);clear hb;have tR:Hid (∀ v,Calls prog 176 #[zI C,zI lv] v fun e w'=>e=.returned (.agg #[zI 5,zI C,zI (7+lv)])/\Below v.heap.size v w'):=zH fun v=>by
  have:=Af C lv v
  rwa [df (7+lv) (by omega)] at this
 clear aH;go_enter func243,ntmps243;go_wp2_with fail;refine Ord.wc [16] (fun w'=>Below w.heap.size w w'/\ao 0 w' a (aC c lv key vs nx st x y z W C X wd pf pv)) (fun j w'=>ao 0 w' w.heap.size (if j=0 then [zI 0,zI 0,zI 0,zI 0] else [zI 5,zI C,zI (7+lv),zI 0])) ⟨hE.drew,hX.drew⟩ hZ.drew fun af=>?_
 repeat ((first
  | (refine Ord.cv ?_ af.o ?_ ?_;rotate_left;(intro w5 hS;have r:=ao.rule hS.2;unfold aC at r;go_simp<;>rfl))
  | (refine Ord.co af.o ?_)
  | (refine Ord.cc ?_ ?_ ?_ af.o ?_ ?_ ?_;rotate_left 3;(intro w5 hS;have r:=ao.rule hS.2;unfold aC at r;go_simp;constructor<;>rfl);(intro w5 hS;(first | (with_reducible refine kp (tR.out _) ?_ ?_;rfl;exact fun w6 aj=>⟨⟨hS.1.trans (aj.mono hS.1.size),hS.2.under aj⟩,fun _ h=>h.under aj⟩)))));try simp only[Act.put,zA,zZ,zS])
 refine Ord.ch_turn (v:=undef) 0 af.o rfl (by decide) (Or.inl rfl) (by rfl) ?_ ?_
 ·rintro w5 hS aU;simp only[if_true] at aU;have r:=aU.rule;have f0:=aU.thaw 0 (by simp);have f1:=aU.thaw 1 (by simp);have f2:=aU.thaw 2 (by simp);have f3:=aU.thaw 3 (by simp);have hz:=hS.1.size;go_simp;refine⟨rfl,⟨?_,?_⟩,?_⟩
  ·exact dJ (dJ (dJ (dJ hS.1 hz (by omega) _) (by simp;omega) (by omega) _) (by simp;omega) (by omega) _) (by simp;omega) (by omega) _
  ·exact (((hS.2.off (by omega) _).off (by omega) _).off (by omega) _).off (by omega) _
  ·exact (((aU.set (i:=0) (by simp) _).set (i:=1) (by simp) _).set (i:=2) (by simp) _).set (i:=3) (by simp) _
 try simp only[Act.put,zA,zZ,zS]
 repeat ((first
  | (refine Ord.cv ?_ af.o ?_ ?_;rotate_left;(intro w5 hS;skip;go_simp<;>rfl))
  | (refine Ord.co af.o ?_));try simp only[Act.put,zA,zZ,zS])
 refine Ord.InText.nil fun w5 hS=>?_;clear af;obtain⟨aL,ai⟩:=Ord.chain_end hS;clear hS;have q:=ai.rule;simp only[show ¬ [16].length=0 by decide,if_false] at q
 go_wp2
 exact bodyPost_ret (v:=.agg #[zI 5,zI C,zI (7+lv),zI 0]) (by simp[results,results243,go_sem,q]) rfl ⟨rfl,aL.1⟩
end
section
variable {w0 w:World} {L:List Item} {a:Nat} {vs:List Value}
theorem tS (m:Nat) (fn:Fn) (fs cs:Array Value) (hv:4 < vs.length) (hE:Env w0 L w) (hm:L[m]?=some (ae a vs)) :
  Calls prog 83 #[.pointer (some ⟨a,4,none⟩),.func fn fs cs] w fun o w'=>o=.returned (zI 0)/\Env w0 (L.set m (ae a (vs.set 4 (.func fn fs cs)))) w':=goOn_r (o:=4) m fn fs cs hv hE hm
theorem rW (m:Nat) (s:Int) (hv:5 < vs.length) (hE:Env w0 L w) (hm:L[m]?=some (ae a vs)) :
  Calls prog 132 #[.pointer (some ⟨a,4,none⟩),zI s] w fun o w'=>o=.returned (zI s)/\∃ nx,Env w0 (L.set m (ae a ((vs.set 5 (zI s)).set 4 nx))) w':=by
 refine (end_r (o:=4) m s hv hE hm).mono ?_;rintro o w1 ⟨rfl,h⟩;refine⟨rfl,vs[4],?_⟩;have h4:(vs.set 5 (zI s)).set 4 vs[4]=vs.set 5 (zI s):=by
  apply List.ext_getElem?;intro i
  by_cases hi:i=4
  ·subst hi;rw[List.getElem?_set_self (by rw[List.length_set];omega),List.getElem?_set_ne (by decide),List.getElem?_eq_getElem]
  ·rw[List.getElem?_set_ne (fun e=>hi e.symm)]
 rw[h4];exact h
theorem xv (fn:Fn) (fs cs:Array Value) (hv:4 < vs.length) (hE:Env w0 (ae a vs::L) w) :
  Calls prog 209 #[zP a,.func fn fs cs] w fun o w'=>o=.returned (zI 0)/\∃ b1 b2,Env w0 (ae a (vs.set 4 (gR b1 b2))::ae b1 [zP a]::ae b2 [.func fn fs cs]::L) w':=by
 have cf:=cg;have ag:=(hE.box w.heap.size rfl [zP a] 224).box (w.heap.size+1) (by simp) [.func fn fs cs] 121;have r0:=ag.rule 1 rfl;go_enter func209,ntmps209;go_wp2_with fail;refine (tS 2 _ _ _ hv ag rfl).mono ?_;rintro o w1 ⟨rfl,az⟩;go_wp2_with fail;go_ret;refine⟨rfl,w.heap.size,w.heap.size+1,?_⟩;exact az.perm (List.reverse_perm [_,_,_] |>.append_right L)
theorem tT (X:Nat) (hx:∀ (ar:Array Value) (v:World),(callFunc X ar).run prog v=.ok (.enter X ar) v) (u:Value) (Q:Ending->World->Prop) (hn:w.cell? ⟨a,4,none⟩=some (mvL X a)) (hs:w.cell? ⟨a,5,none⟩=some (zI 0)) (hc:Calls prog X #[zP a,u] w fun e w'=>∃ s,e=.returned (zI s)/\Q (.returned (zI s)) w') :
  Calls prog 173 #[zP a,u] w Q:=by
 have gi:=zH (stepMv_r (o:=4) X hx (zP a) u (fun o w'=>∃ s,o=.returned (zI s)/\Q (.returned (zI s)) w') hn hs (hc.mono fun e w' ⟨s,he,hq⟩=>⟨s,he,s,rfl,hq⟩));clear hn hs hc;go_enter func173,ntmps173;go_wp2_with fail;refine gi.out.mono ?_;rintro o w1 ⟨s,rfl,hQ⟩;go_wp2_with fail;exact hQ
theorem qA (b1 b2:Nat) (u:Value) (Q:Ending->World->Prop) (hn:w.cell? ⟨a,4,none⟩=some (gR b1 b2)) (hs:w.cell? ⟨a,5,none⟩=some (zI 0)) (hc:Calls prog 228 #[u,zP b1,zP b2] w fun e w'=>∃ s,e=.returned (zI s)/\Q (.returned (zI s)) w') :
  Calls prog 173 #[zP a,u] w Q:=by
 have gi:=zH (stepCv_r (o:=4) 228 b1 b2 (fun _ _=>by kernel_rfl) u (fun o w'=>∃ s,o=.returned (zI s)/\Q (.returned (zI s)) w') hn hs (hc.mono fun e w' ⟨s,he,hq⟩=>⟨s,he,s,rfl,hq⟩));clear hn hs hc;go_enter func173,ntmps173;go_wp2_with fail;refine gi.out.mono ?_;rintro o w1 ⟨s,rfl,hQ⟩;go_wp2_with fail;exact hQ
end
def D9 {α:Type _} (a b c d:α):Nat->α
 | 0=>a
 | 1=>b
 | 2=>c
 | _=>d
section
variable {w0 w:World} {L:List Item} {a c:Nat} {lv key:Int} {vs:Bool} {nx:Value} {st x y z W C X wd:Int} {pf:Bool} {pv:Int}
theorem Kv (v:Int) (hs:aA v=0) (hv:aD v) (hg:bE w0) (hE:Env w0 (ae a (aC c lv key vs nx st x y z W C X wd pf pv)::L) w) :
  Calls prog 229 #[zP a,.agg #[zU v,zI 0,.bool false]] w fun o w'=>o=.returned (zI 1)/\∃ nx,Env w0 (ae a (aC c lv key vs nx 1 x y z v 0 0 wd pf pv)::L) w':=by
 have cf:=cg;have wV:=zD;have ag:=hE.box w.heap.size rfl [zU v,zI 0,.bool false] 110;have dF:=zH fun (u:World) (hu:Below w0.heap.size w0 u)=>kt v 0 false u hv (hg.keep' hu);simp only[hs] at dF;clear hs;clear hE hv hg;go_enter func229,ntmps229;go_wp2_with fail;refine Ord.wc [9,12,15] (fun u=>Below w0.heap.size w0 u/\ao 0 u w.heap.size [zU v,zI 0,.bool false]) (fun k w'=>Env w0 (D9 (ae w.heap.size [zU v,zI 0,.bool false]::ae a (aC c lv key vs nx st x y z W C X wd pf pv)::L) (ae w.heap.size [zU v,zI 0,.bool false]::ae a (aC c lv key vs nx st x y z v C X wd pf pv)::L) (ae w.heap.size [zU v,zI 0,.bool false]::ae a (aC c lv key vs nx st x y z v 0 X wd pf pv)::L) (ae w.heap.size [zU v,zI 0,.bool false]::ae a (aC c lv key vs nx st x y z v 0 0 wd pf pv)::L) k) w') ⟨ag.drew.below,ag.drew.get 0 rfl⟩ ag.drew fun af=>?_
 repeat ((first
  | (refine Ord.cv ?_ af.o ?_ ?_;rotate_left;(intro w5 hS;have r:=ao.rule hS.2;go_simp<;>rfl))
  | (refine Ord.co af.o ?_)
  | (refine Ord.cc ?_ ?_ ?_ af.o ?_ ?_ ?_;rotate_left 3;(intro w5 hS;have r:=ao.rule hS.2;go_simp;constructor<;>rfl);(intro w5 hS;(first | (with_reducible refine kp (dF.out _ hS.1) ?_ ?_;rfl;exact fun w6 aj=>⟨⟨hS.1.trans (aj.mono hS.1.size),hS.2.under aj⟩,fun _ h=>h.over aj⟩)))));try simp only[Act.put,zA,zZ,zS])
 refine Ord.ch_turn (v:=undef) 0 af.o rfl (by decide) (Or.inl rfl) (by rfl) ?_ ?_
 ·rintro w5 aN au;replace au:Env w0 (ae w.heap.size [zU v,zI 0,.bool false]::ae a (aC c lv key vs nx st x y z W C X wd pf pv)::L) w5:=au;have r:=au.rule 1 rfl;unfold aC at r;have g0:=au.thaw 1 rfl 10 (by simp[aC]);have g1:=au.thaw 1 rfl 11 (by simp[aC]);have g2:=au.thaw 1 rfl 12 (by simp[aC]);go_simp;have h9:=(((au.put 1 rfl (j:=10) (by simp[aC]) (zU v)).put 1 rfl (j:=11) (by simp[aC]) (zI 0)).put 1 rfl (j:=12) (by simp[aC]) (.bool false));replace h9:Env w0 (ae w.heap.size [zU v,zI 0,.bool false]::ae a (aC c lv key vs nx st x y z v C X wd pf pv)::L) _:=h9;exact⟨rfl,⟨h9.below,h9.get 0 rfl⟩,h9⟩
 try simp only[Act.put,zA,zZ,zS]
 repeat ((first
  | (refine Ord.cv ?_ af.o ?_ ?_;rotate_left;(intro w5 hS;have r:=ao.rule hS.2;go_simp<;>rfl))
  | (refine Ord.co af.o ?_)
  | (refine Ord.cc ?_ ?_ ?_ af.o ?_ ?_ ?_;rotate_left 3;(intro w5 hS;have r:=ao.rule hS.2;go_simp;constructor<;>rfl);(intro w5 hS;(first | (with_reducible refine kp (dF.out _ hS.1) ?_ ?_;rfl;exact fun w6 aj=>⟨⟨hS.1.trans (aj.mono hS.1.size),hS.2.under aj⟩,fun _ h=>h.over aj⟩)))));try simp only[Act.put,zA,zZ,zS])
 refine Ord.ch_turn (v:=undef) 1 af.o rfl (by decide) (Or.inr ⟨_,rfl,by kernel_rfl⟩) (by rfl) ?_ ?_
 ·rintro w5 aN au;replace au:Env w0 (ae w.heap.size [zU v,zI 0,.bool false]::ae a (aC c lv key vs nx st x y z v C X wd pf pv)::L) w5:=au;have r:=au.rule 1 rfl;unfold aC at r;have g0:=au.thaw 1 rfl 13 (by simp[aC]);have g1:=au.thaw 1 rfl 14 (by simp[aC]);go_simp;have h9:=((au.put 1 rfl (j:=13) (by simp[aC]) (zI 0)).put 1 rfl (j:=14) (by simp[aC]) (zI 0));replace h9:Env w0 (ae w.heap.size [zU v,zI 0,.bool false]::ae a (aC c lv key vs nx st x y z v 0 X wd pf pv)::L) _:=h9;exact⟨rfl,⟨h9.below,h9.get 0 rfl⟩,h9⟩
 try simp only[Act.put,zA,zZ,zS]
 repeat ((first
  | (refine Ord.cv ?_ af.o ?_ ?_;rotate_left;(intro w5 hS;have r:=ao.rule hS.2;go_simp<;>rfl))
  | (refine Ord.co af.o ?_)
  | (refine Ord.cc ?_ ?_ ?_ af.o ?_ ?_ ?_;rotate_left 3;(intro w5 hS;have r:=ao.rule hS.2;go_simp;constructor<;>rfl);(intro w5 hS;(first | (with_reducible refine kp (dF.out _ hS.1) ?_ ?_;rfl;exact fun w6 aj=>⟨⟨hS.1.trans (aj.mono hS.1.size),hS.2.under aj⟩,fun _ h=>h.over aj⟩)))));try simp only[Act.put,zA,zZ,zS])
 refine Ord.ch_turn (v:=undef) 2 af.o rfl (by decide) (Or.inr ⟨_,rfl,by kernel_rfl⟩) (by rfl) ?_ ?_
 ·rintro w5 aN au;replace au:Env w0 (ae w.heap.size [zU v,zI 0,.bool false]::ae a (aC c lv key vs nx st x y z v 0 X wd pf pv)::L) w5:=au;have r:=au.rule 1 rfl;unfold aC at r;have g0:=au.thaw 1 rfl 15 (by simp[aC]);have g1:=au.thaw 1 rfl 16 (by simp[aC]);have g2:=au.thaw 1 rfl 17 (by simp[aC]);go_simp;have h9:=(((au.put 1 rfl (j:=15) (by simp[aC]) (zU 0)).put 1 rfl (j:=16) (by simp[aC]) (zI 0)).put 1 rfl (j:=17) (by simp[aC]) (.bool false));replace h9:Env w0 (ae w.heap.size [zU v,zI 0,.bool false]::ae a (aC c lv key vs nx st x y z v 0 0 wd pf pv)::L) _:=h9;exact⟨rfl,⟨h9.below,h9.get 0 rfl⟩,h9⟩
 try simp only[Act.put,zA,zZ,zS]
 repeat ((first
  | (refine Ord.cv ?_ af.o ?_ ?_;rotate_left;(intro w5 hS;have r:=ao.rule hS.2;go_simp<;>rfl))
  | (refine Ord.co af.o ?_)
  | (refine Ord.cc ?_ ?_ ?_ af.o ?_ ?_ ?_;rotate_left 3;(intro w5 hS;have r:=ao.rule hS.2;go_simp;constructor<;>rfl);(intro w5 hS;(first | (with_reducible refine kp (dF.out _ hS.1) ?_ ?_;rfl;exact fun w6 aj=>⟨⟨hS.1.trans (aj.mono hS.1.size),hS.2.under aj⟩,fun _ h=>h.over aj⟩)))));try simp only[Act.put,zA,zZ,zS])
 refine Ord.InText.nil fun w5 hS=>?_;clear af;obtain⟨aL,ai⟩:=Ord.chain_end hS;clear hS;replace ai:Env w0 (ae w.heap.size [zU v,zI 0,.bool false]::ae a (aC c lv key vs nx st x y z v 0 0 wd pf pv)::L) w5:=ai;clear ag aL dF;have r:=ai.rule 1 rfl;unfold aC at r;have g0:=ai.thaw 1 rfl 13 (by simp[aC]);have g1:=ai.thaw 1 rfl 14 (by simp[aC]);have hP:=(ai.put 1 rfl (j:=13) (by simp[aC]) (zI 0)).put 1 rfl (j:=14) (by simp[aC]) (zI 0);replace hP:Env w0 (ae w.heap.size [zU v,zI 0,.bool false]::ae a (aC c lv key vs nx st x y z v 0 0 wd pf pv)::L) _:=hP;go_wp2_with fail;refine (rW 1 1 (by simp[aC]) hP rfl).mono ?_;rintro o w6 ⟨rfl,nx,aq⟩;go_wp2_with fail;go_ret;exact⟨rfl,nx,aq.sub (.cons _ (List.Sublist.refl _))⟩
theorem Kw (v:Int) (hs:aA v≠0) (hv:aD v) (hg:bE w0) (hE:Env w0 (ae a (aC c lv key vs nx st x y z W C X wd pf pv)::L) w) :
  Calls prog 229 #[zP a,.agg #[zU v,zI 0,.bool false]] w fun o w'=>o=.returned (zI 0)/\Env w0 (ae a (aC c lv key vs (mvL 238 a) st x y z v (aA v) 0 wd pf pv)::L) w':=by
 have cf:=cg;have wV:=zD;have ag:=hE.box w.heap.size rfl [zU v,zI 0,.bool false] 110;have dF:=zH fun (u:World) (hu:Below w0.heap.size w0 u)=>kt v 0 false u hv (hg.keep' hu);obtain⟨s,bf⟩:∃ s,aA v=s:=⟨_,rfl⟩;rw[bf] at hs ⊢;simp only[bf] at dF;have tE:(s==0)=false:=by simpa using hs
 clear bf hs;clear hE hv hg;go_enter func229,ntmps229;go_wp2_with fail;refine Ord.wc [9,12,15] (fun u=>Below w0.heap.size w0 u/\ao 0 u w.heap.size [zU v,zI 0,.bool false]) (fun k w'=>Env w0 (D9 (ae w.heap.size [zU v,zI 0,.bool false]::ae a (aC c lv key vs nx st x y z W C X wd pf pv)::L) (ae w.heap.size [zU v,zI 0,.bool false]::ae a (aC c lv key vs nx st x y z v C X wd pf pv)::L) (ae w.heap.size [zU v,zI 0,.bool false]::ae a (aC c lv key vs nx st x y z v s X wd pf pv)::L) (ae w.heap.size [zU v,zI 0,.bool false]::ae a (aC c lv key vs nx st x y z v s 0 wd pf pv)::L) k) w') ⟨ag.drew.below,ag.drew.get 0 rfl⟩ ag.drew fun af=>?_
 repeat ((first
  | (refine Ord.cv ?_ af.o ?_ ?_;rotate_left;(intro w5 hS;have r:=ao.rule hS.2;go_simp<;>rfl))
  | (refine Ord.co af.o ?_)
  | (refine Ord.cc ?_ ?_ ?_ af.o ?_ ?_ ?_;rotate_left 3;(intro w5 hS;have r:=ao.rule hS.2;go_simp;constructor<;>rfl);(intro w5 hS;(first | (with_reducible refine kp (dF.out _ hS.1) ?_ ?_;rfl;exact fun w6 aj=>⟨⟨hS.1.trans (aj.mono hS.1.size),hS.2.under aj⟩,fun _ h=>h.over aj⟩)))));try simp only[Act.put,zA,zZ,zS])
 refine Ord.ch_turn (v:=undef) 0 af.o rfl (by decide) (Or.inl rfl) (by rfl) ?_ ?_
 ·rintro w5 aN au;replace au:Env w0 (ae w.heap.size [zU v,zI 0,.bool false]::ae a (aC c lv key vs nx st x y z W C X wd pf pv)::L) w5:=au;have r:=au.rule 1 rfl;unfold aC at r;have g0:=au.thaw 1 rfl 10 (by simp[aC]);have g1:=au.thaw 1 rfl 11 (by simp[aC]);have g2:=au.thaw 1 rfl 12 (by simp[aC]);go_simp;have h9:=(((au.put 1 rfl (j:=10) (by simp[aC]) (zU v)).put 1 rfl (j:=11) (by simp[aC]) (zI 0)).put 1 rfl (j:=12) (by simp[aC]) (.bool false));replace h9:Env w0 (ae w.heap.size [zU v,zI 0,.bool false]::ae a (aC c lv key vs nx st x y z v C X wd pf pv)::L) _:=h9;exact⟨rfl,⟨h9.below,h9.get 0 rfl⟩,h9⟩
 try simp only[Act.put,zA,zZ,zS]
 repeat ((first
  | (refine Ord.cv ?_ af.o ?_ ?_;rotate_left;(intro w5 hS;have r:=ao.rule hS.2;go_simp<;>rfl))
  | (refine Ord.co af.o ?_)
  | (refine Ord.cc ?_ ?_ ?_ af.o ?_ ?_ ?_;rotate_left 3;(intro w5 hS;have r:=ao.rule hS.2;go_simp;constructor<;>rfl);(intro w5 hS;(first | (with_reducible refine kp (dF.out _ hS.1) ?_ ?_;rfl;exact fun w6 aj=>⟨⟨hS.1.trans (aj.mono hS.1.size),hS.2.under aj⟩,fun _ h=>h.over aj⟩)))));try simp only[Act.put,zA,zZ,zS])
 refine Ord.ch_turn (v:=undef) 1 af.o rfl (by decide) (Or.inr ⟨_,rfl,by kernel_rfl⟩) (by rfl) ?_ ?_
 ·rintro w5 aN au;replace au:Env w0 (ae w.heap.size [zU v,zI 0,.bool false]::ae a (aC c lv key vs nx st x y z v C X wd pf pv)::L) w5:=au;have r:=au.rule 1 rfl;unfold aC at r;have g0:=au.thaw 1 rfl 13 (by simp[aC]);have g1:=au.thaw 1 rfl 14 (by simp[aC]);go_simp;have h9:=((au.put 1 rfl (j:=13) (by simp[aC]) (zI s)).put 1 rfl (j:=14) (by simp[aC]) (zI 0));replace h9:Env w0 (ae w.heap.size [zU v,zI 0,.bool false]::ae a (aC c lv key vs nx st x y z v s X wd pf pv)::L) _:=h9;exact⟨rfl,⟨h9.below,h9.get 0 rfl⟩,h9⟩
 try simp only[Act.put,zA,zZ,zS]
 repeat ((first
  | (refine Ord.cv ?_ af.o ?_ ?_;rotate_left;(intro w5 hS;have r:=ao.rule hS.2;go_simp<;>rfl))
  | (refine Ord.co af.o ?_)
  | (refine Ord.cc ?_ ?_ ?_ af.o ?_ ?_ ?_;rotate_left 3;(intro w5 hS;have r:=ao.rule hS.2;go_simp;constructor<;>rfl);(intro w5 hS;(first | (with_reducible refine kp (dF.out _ hS.1) ?_ ?_;rfl;exact fun w6 aj=>⟨⟨hS.1.trans (aj.mono hS.1.size),hS.2.under aj⟩,fun _ h=>h.over aj⟩)))));try simp only[Act.put,zA,zZ,zS])
 refine Ord.ch_turn (v:=undef) 2 af.o rfl (by decide) (Or.inr ⟨_,rfl,by kernel_rfl⟩) (by rfl) ?_ ?_
 ·rintro w5 aN au;replace au:Env w0 (ae w.heap.size [zU v,zI 0,.bool false]::ae a (aC c lv key vs nx st x y z v s X wd pf pv)::L) w5:=au;have r:=au.rule 1 rfl;unfold aC at r;have g0:=au.thaw 1 rfl 15 (by simp[aC]);have g1:=au.thaw 1 rfl 16 (by simp[aC]);have g2:=au.thaw 1 rfl 17 (by simp[aC]);go_simp;have h9:=(((au.put 1 rfl (j:=15) (by simp[aC]) (zU 0)).put 1 rfl (j:=16) (by simp[aC]) (zI 0)).put 1 rfl (j:=17) (by simp[aC]) (.bool false));replace h9:Env w0 (ae w.heap.size [zU v,zI 0,.bool false]::ae a (aC c lv key vs nx st x y z v s 0 wd pf pv)::L) _:=h9;exact⟨rfl,⟨h9.below,h9.get 0 rfl⟩,h9⟩
 try simp only[Act.put,zA,zZ,zS]
 repeat ((first
  | (refine Ord.cv ?_ af.o ?_ ?_;rotate_left;(intro w5 hS;have r:=ao.rule hS.2;go_simp<;>rfl))
  | (refine Ord.co af.o ?_)
  | (refine Ord.cc ?_ ?_ ?_ af.o ?_ ?_ ?_;rotate_left 3;(intro w5 hS;have r:=ao.rule hS.2;go_simp;constructor<;>rfl);(intro w5 hS;(first | (with_reducible refine kp (dF.out _ hS.1) ?_ ?_;rfl;exact fun w6 aj=>⟨⟨hS.1.trans (aj.mono hS.1.size),hS.2.under aj⟩,fun _ h=>h.over aj⟩)))));try simp only[Act.put,zA,zZ,zS])
 refine Ord.InText.nil fun w5 hS=>?_;clear af;obtain⟨aL,ai⟩:=Ord.chain_end hS;clear hS;replace ai:Env w0 (ae w.heap.size [zU v,zI 0,.bool false]::ae a (aC c lv key vs nx st x y z v s 0 wd pf pv)::L) w5:=ai;clear ag aL dF;have r:=ai.rule 1 rfl;unfold aC at r;go_wp2_with fail;refine (tS 1 _ _ _ (by simp[aC]) ai rfl).mono ?_;rintro o w6 ⟨rfl,aq⟩;go_wp2_with fail;go_ret;exact⟨rfl,aq.sub (.cons _ (List.Sublist.refl _))⟩
end
section
variable {w0 w:World} {R:List Item} {a:Nat} {S:ST} {lv key:Int} {vs:Bool} {nx:Value} {st x y z W C X wd:Int} {pf:Bool} {pv:Int}
theorem Kx (v:Int) (br:S.f (x,y,z)=v) (aZ:Wf (x,y,z)) (hE:Env w0 (ae a (aC S.c lv key vs nx st x y z W C X wd pf pv)::LT S R) w) :
  Calls prog 192 #[zP a,.iface 28 (zP S.p)] w fun o w'=>o=.returned (zI 0)/\∃ b1 b2,Env w0 (ae a (aC S.c lv key vs (gR b1 b2) st x y z v C X wd pf pv)::ae b1 [zP a]::ae b2 [mvL 210 a]::LT { S with qc:={ S.qc with l:=wrap64 (S.qc.l+1) } } R) w':=by
 have cf:=cg;have eV:=l4;have rI:=qm;have HX:=zH br;have dQ:=zH aZ;clear br aZ;go_enter func192,ntmps192;go_wp2_with fail;refine Ord.wc [9,12] (fun u=>Below w0.heap.size w0 u/\∃ n8,ao 0 u a (aC S.c lv key vs nx st x y z n8 C X wd pf pv)) (fun k w'=>Env w0 (l6 (ae a (aC S.c lv key vs nx st x y z W C X wd pf pv)::LT S R) (ae a (aC S.c lv key vs nx st x y z W C X wd pf pv)::LT { S with qc:={ S.qc with l:=wrap64 (S.qc.l+1) } } R) (ae a (aC S.c lv key vs nx st x y z v C X wd pf pv)::LT { S with qc:={ S.qc with l:=wrap64 (S.qc.l+1) } } R) k) w') ⟨hE.drew.below,W,hE.drew.get 0 rfl⟩ hE.drew fun af=>?_
 repeat ((first
  | (refine Ord.cv ?_ af.o ?_ ?_;rotate_left;(intro w5 hS;obtain⟨eo,n9,dz⟩:=hS;have r:=ao.rule dz;unfold aC at r;go_simp<;>rfl))
  | (refine Ord.co af.o ?_));try simp only[Act.put,zA,zZ,zS])
 refine Ord.ch_turn (v:=.agg #[zU v,zI 0,.bool false]) 0 af.o rfl (by decide) (Or.inl rfl) (by rfl) ?_ ?_
 ·rintro w5 aN au;replace au:Env w0 (ae a (aC S.c lv key vs nx st x y z W C X wd pf pv)::LT S R) w5:=au;go_simp;rw[lB];simp only[Result.andThen_ok];go_simp;simp only[Ord.LandsIn];have hl:=lA x y z 0 dQ.out 3 4 (by decide) au rfl rfl;rw[HX.out] at hl;refine hl.mono ?_;rintro e w6 ⟨rfl,aq⟩;exact⟨rfl,⟨aq.below,_,aq.get 0 rfl⟩,aq⟩
 try simp only[Act.put,zA,zZ,zS]
 repeat ((first
  | (refine Ord.cv ?_ af.o ?_ ?_;rotate_left;(intro w5 hS;skip;go_simp<;>rfl))
  | (refine Ord.co af.o ?_));try simp only[Act.put,zA,zZ,zS])
 refine Ord.ch_turn (v:=undef) 1 af.o rfl (by decide) (Or.inr ⟨_,rfl,by kernel_rfl⟩) (by rfl) ?_ ?_
 ·rintro w5 aN au;replace au:Env w0 (ae a (aC S.c lv key vs nx st x y z W C X wd pf pv)::LT { S with qc:={ S.qc with l:=wrap64 (S.qc.l+1) } } R) w5:=au;have r:=au.rule 0 rfl;unfold aC at r;have g0:=au.thaw 0 rfl 10 (by simp[aC]);have g1:=au.thaw 0 rfl 11 (by simp[aC]);have g2:=au.thaw 0 rfl 12 (by simp[aC]);go_simp;have h9:=(((au.put 0 rfl (j:=10) (by simp[aC]) (zU v)).put 0 rfl (j:=11) (by simp[aC]) (zI 0)).put 0 rfl (j:=12) (by simp[aC]) (.bool false));replace h9:Env w0 (ae a (aC S.c lv key vs nx st x y z v C X wd pf pv)::LT { S with qc:={ S.qc with l:=wrap64 (S.qc.l+1) } } R) _:=h9;exact⟨rfl,⟨h9.below,_,h9.get 0 rfl⟩,h9⟩
 try simp only[Act.put,zA,zZ,zS]
 repeat ((first
  | (refine Ord.cv ?_ af.o ?_ ?_;rotate_left;(intro w5 hS;skip;go_simp<;>rfl))
  | (refine Ord.co af.o ?_));try simp only[Act.put,zA,zZ,zS])
 refine Ord.InText.nil fun w5 hS=>?_;clear af;obtain⟨aL,ai⟩:=Ord.chain_end hS;clear hS;replace ai:Env w0 (ae a (aC S.c lv key vs nx st x y z v C X wd pf pv)::LT { S with qc:={ S.qc with l:=wrap64 (S.qc.l+1) } } R) w5:=ai;clear hE aL;have r:=ai.rule 0 rfl;unfold aC at r;go_wp2_with fail;refine (xv _ _ _ (by simp[aC]) ai).mono ?_;rintro o w6 ⟨rfl,b1,b2,aq⟩;go_wp2_with fail;go_ret;exact⟨rfl,b1,b2,aq⟩
theorem Ky (aH:0<=lv/\lv<=1000000) (v:Int) (br:S.f (5,C,7+lv)=v) (aZ:Wf (5,C,7+lv)) (hE:Env w0 (ae a (aC S.c lv key vs nx st x y z W C X wd pf pv)::LT S R) w) :
  Calls prog 238 #[zP a,.iface 28 (zP S.p)] w fun o w'=>o=.returned (zI 0)/\∃ b1 b2,Env w0 (ae a (aC S.c lv key vs (gR b1 b2) st x y z W C v wd pf pv)::ae b1 [zP a]::ae b2 [mvL 244 a]::LT { S with qc:={ S.qc with l:=wrap64 (S.qc.l+1) } } R) w':=by
 have cf:=cg;have eV:=l4;have rI:=qm;have HX:=zH br;have dQ:=zH aZ;clear br aZ;go_enter func238,ntmps238;go_wp2_with fail;refine Ord.wc [7,10] (fun u=>Below w0.heap.size w0 u/\∃ n8,ao 0 u a (aC S.c lv key vs nx st x y z W C n8 wd pf pv)) (fun k w'=>Env w0 (l6 (ae a (aC S.c lv key vs nx st x y z W C X wd pf pv)::LT S R) (ae a (aC S.c lv key vs nx st x y z W C X wd pf pv)::LT { S with qc:={ S.qc with l:=wrap64 (S.qc.l+1) } } R) (ae a (aC S.c lv key vs nx st x y z W C v wd pf pv)::LT { S with qc:={ S.qc with l:=wrap64 (S.qc.l+1) } } R) k) w') ⟨hE.drew.below,X,hE.drew.get 0 rfl⟩ hE.drew fun af=>?_
 repeat ((first
  | (refine Ord.cv ?_ af.o ?_ ?_;rotate_left;(intro w5 hS;obtain⟨eo,n9,dz⟩:=hS;have r:=ao.rule dz;unfold aC at r;go_simp<;>rfl))
  | (refine Ord.co af.o ?_)
  | (refine Ord.cc ?_ ?_ ?_ af.o ?_ ?_ ?_;rotate_left 3;(intro w5 hS;obtain⟨eo,n9,dz⟩:=hS;have r:=ao.rule dz;unfold aC at r;go_simp;constructor<;>rfl);(intro w5 hS;(first | (obtain⟨eo,n9,dz⟩:=hS;with_reducible refine kp (D8 aH dz) ?_ ?_;rfl;exact fun w6 aj=>⟨⟨eo.trans (aj.mono eo.size),n9,dz.under aj⟩,fun k h=>h.over aj⟩)))));try simp only[Act.put,zA,zZ,zS])
 refine Ord.ch_turn (v:=.agg #[zU v,zI 0,.bool false]) 0 af.o rfl (by decide) (Or.inl rfl) (by rfl) ?_ ?_
 ·rintro w5 aN au;replace au:Env w0 (ae a (aC S.c lv key vs nx st x y z W C X wd pf pv)::LT S R) w5:=au;go_simp;rw[lB];simp only[Result.andThen_ok];go_simp;simp only[Ord.LandsIn];have hl:=lA 5 C (7+lv) 0 dQ.out 3 4 (by decide) au rfl rfl;rw[HX.out] at hl;refine hl.mono ?_;rintro e w6 ⟨rfl,aq⟩;exact⟨rfl,⟨aq.below,_,aq.get 0 rfl⟩,aq⟩
 try simp only[Act.put,zA,zZ,zS]
 repeat ((first
  | (refine Ord.cv ?_ af.o ?_ ?_;rotate_left;(intro w5 hS;skip;go_simp<;>rfl))
  | (refine Ord.co af.o ?_));try simp only[Act.put,zA,zZ,zS])
 refine Ord.ch_turn (v:=undef) 1 af.o rfl (by decide) (Or.inr ⟨_,rfl,by kernel_rfl⟩) (by rfl) ?_ ?_
 ·rintro w5 aN au;replace au:Env w0 (ae a (aC S.c lv key vs nx st x y z W C X wd pf pv)::LT { S with qc:={ S.qc with l:=wrap64 (S.qc.l+1) } } R) w5:=au;have r:=au.rule 0 rfl;unfold aC at r;have g0:=au.thaw 0 rfl 15 (by simp[aC]);have g1:=au.thaw 0 rfl 16 (by simp[aC]);have g2:=au.thaw 0 rfl 17 (by simp[aC]);go_simp;have h9:=(((au.put 0 rfl (j:=15) (by simp[aC]) (zU v)).put 0 rfl (j:=16) (by simp[aC]) (zI 0)).put 0 rfl (j:=17) (by simp[aC]) (.bool false));replace h9:Env w0 (ae a (aC S.c lv key vs nx st x y z W C v wd pf pv)::LT { S with qc:={ S.qc with l:=wrap64 (S.qc.l+1) } } R) _:=h9;exact⟨rfl,⟨h9.below,_,h9.get 0 rfl⟩,h9⟩
 try simp only[Act.put,zA,zZ,zS]
 repeat ((first
  | (refine Ord.cv ?_ af.o ?_ ?_;rotate_left;(intro w5 hS;skip;go_simp<;>rfl))
  | (refine Ord.co af.o ?_));try simp only[Act.put,zA,zZ,zS])
 refine Ord.InText.nil fun w5 hS=>?_;clear af;obtain⟨aL,ai⟩:=Ord.chain_end hS;clear hS;replace ai:Env w0 (ae a (aC S.c lv key vs nx st x y z W C v wd pf pv)::LT { S with qc:={ S.qc with l:=wrap64 (S.qc.l+1) } } R) w5:=ai;clear hE aL;have r:=ai.rule 0 rfl;unfold aC at r;go_wp2_with fail;refine (xv _ _ _ (by simp[aC]) ai).mono ?_;rintro o w6 ⟨rfl,b1,b2,aq⟩;go_wp2_with fail;go_ret;exact⟨rfl,b1,b2,aq⟩
theorem Kz (v:Int) (br:S.f (5,C,3)=v) (aZ:Wf (5,C,3)) (hE:Env w0 (ae a (aC S.c lv key vs nx st x y z W C X wd pf pv)::LT S R) w) :
  Calls prog 248 #[zP a,.iface 28 (zP S.p)] w fun o w'=>o=.returned (zI 0)/\∃ b1 b2,Env w0 (ae a (aC S.c lv key vs (gR b1 b2) st x y z W C X v pf pv)::ae b1 [zP a]::ae b2 [mvL 252 a]::LT { S with qc:={ S.qc with l:=wrap64 (S.qc.l+1) } } R) w':=by
 have cf:=cg;have eV:=l4;have rI:=qm;have HX:=zH br;have dQ:=zH aZ;clear br aZ;go_enter func248,ntmps248;go_wp2_with fail;refine Ord.wc [7,11] (fun u=>Below w0.heap.size w0 u/\∃ n8,ao 0 u a (aC S.c lv key vs nx st x y z W C X n8 pf pv)) (fun k w'=>Env w0 (l6 (ae a (aC S.c lv key vs nx st x y z W C X wd pf pv)::LT S R) (ae a (aC S.c lv key vs nx st x y z W C X wd pf pv)::LT { S with qc:={ S.qc with l:=wrap64 (S.qc.l+1) } } R) (ae a (aC S.c lv key vs nx st x y z W C X v pf pv)::LT { S with qc:={ S.qc with l:=wrap64 (S.qc.l+1) } } R) k) w') ⟨hE.drew.below,wd,hE.drew.get 0 rfl⟩ hE.drew fun af=>?_
 repeat ((first
  | (refine Ord.cv ?_ af.o ?_ ?_;rotate_left;(intro w5 hS;obtain⟨eo,n9,dz⟩:=hS;have r:=ao.rule dz;unfold aC at r;go_simp<;>rfl))
  | (refine Ord.co af.o ?_)
  | (refine Ord.cc ?_ ?_ ?_ af.o ?_ ?_ ?_;rotate_left 3;(intro w5 hS;obtain⟨eo,n9,dz⟩:=hS;have r:=ao.rule dz;unfold aC at r;go_simp;constructor<;>rfl);(intro w5 hS;(first | (obtain⟨eo,n9,dz⟩:=hS;with_reducible refine kp (D7 3 dz) ?_ ?_;rfl;exact fun w6 aj=>⟨⟨eo.trans (aj.mono eo.size),n9,dz.under aj⟩,fun k h=>h.over aj⟩)))));try simp only[Act.put,zA,zZ,zS])
 refine Ord.ch_turn (v:=.agg #[zU v,zI 0,.bool false]) 0 af.o rfl (by decide) (Or.inl rfl) (by rfl) ?_ ?_
 ·rintro w5 aN au;replace au:Env w0 (ae a (aC S.c lv key vs nx st x y z W C X wd pf pv)::LT S R) w5:=au;go_simp;rw[lB];simp only[Result.andThen_ok];go_simp;simp only[Ord.LandsIn];have hl:=lA 5 C 3 0 dQ.out 3 4 (by decide) au rfl rfl;rw[HX.out] at hl;refine hl.mono ?_;rintro e w6 ⟨rfl,aq⟩;exact⟨rfl,⟨aq.below,_,aq.get 0 rfl⟩,aq⟩
 try simp only[Act.put,zA,zZ,zS]
 repeat ((first
  | (refine Ord.cv ?_ af.o ?_ ?_;rotate_left;(intro w5 hS;skip;go_simp<;>rfl))
  | (refine Ord.co af.o ?_));try simp only[Act.put,zA,zZ,zS])
 refine Ord.ch_turn (v:=undef) 1 af.o rfl (by decide) (Or.inr ⟨_,rfl,by kernel_rfl⟩) (by rfl) ?_ ?_
 ·rintro w5 aN au;replace au:Env w0 (ae a (aC S.c lv key vs nx st x y z W C X wd pf pv)::LT { S with qc:={ S.qc with l:=wrap64 (S.qc.l+1) } } R) w5:=au;have r:=au.rule 0 rfl;unfold aC at r;have g0:=au.thaw 0 rfl 18 (by simp[aC]);go_simp;have h9:=(au.put 0 rfl (j:=18) (by simp[aC]) (zU v));replace h9:Env w0 (ae a (aC S.c lv key vs nx st x y z W C X v pf pv)::LT { S with qc:={ S.qc with l:=wrap64 (S.qc.l+1) } } R) _:=h9;exact⟨rfl,⟨h9.below,_,h9.get 0 rfl⟩,h9⟩
 try simp only[Act.put,zA,zZ,zS]
 repeat ((first
  | (refine Ord.cv ?_ af.o ?_ ?_;rotate_left;(intro w5 hS;skip;go_simp<;>rfl))
  | (refine Ord.co af.o ?_));try simp only[Act.put,zA,zZ,zS])
 refine Ord.InText.nil fun w5 hS=>?_;clear af;obtain⟨aL,ai⟩:=Ord.chain_end hS;clear hS;replace ai:Env w0 (ae a (aC S.c lv key vs nx st x y z W C X v pf pv)::LT { S with qc:={ S.qc with l:=wrap64 (S.qc.l+1) } } R) w5:=ai;clear hE aL;have r:=ai.rule 0 rfl;unfold aC at r;go_wp2_with fail;refine (xv _ _ _ (by simp[aC]) ai).mono ?_;rintro o w6 ⟨rfl,b1,b2,aq⟩;go_wp2_with fail;go_ret;exact⟨rfl,b1,b2,aq⟩
theorem KA (v:Int) (br:S.f (5,C,4)=v) (aZ:Wf (5,C,4)) (hE:Env w0 (ae a (aC S.c lv key vs nx st x y z W C X wd pf pv)::LT S R) w) :
  Calls prog 253 #[zP a,.iface 28 (zP S.p)] w fun o w'=>o=.returned (zI 0)/\∃ b1 b2,Env w0 (ae a (aC S.c lv key vs (gR b1 b2) st x y z W C X v pf pv)::ae b1 [zP a]::ae b2 [mvL 254 a]::LT { S with qc:={ S.qc with l:=wrap64 (S.qc.l+1) } } R) w':=by
 have cf:=cg;have eV:=l4;have rI:=qm;have HX:=zH br;have dQ:=zH aZ;clear br aZ;go_enter func253,ntmps253;go_wp2_with fail;refine Ord.wc [7,11] (fun u=>Below w0.heap.size w0 u/\∃ n8,ao 0 u a (aC S.c lv key vs nx st x y z W C X n8 pf pv)) (fun k w'=>Env w0 (l6 (ae a (aC S.c lv key vs nx st x y z W C X wd pf pv)::LT S R) (ae a (aC S.c lv key vs nx st x y z W C X wd pf pv)::LT { S with qc:={ S.qc with l:=wrap64 (S.qc.l+1) } } R) (ae a (aC S.c lv key vs nx st x y z W C X v pf pv)::LT { S with qc:={ S.qc with l:=wrap64 (S.qc.l+1) } } R) k) w') ⟨hE.drew.below,wd,hE.drew.get 0 rfl⟩ hE.drew fun af=>?_
 repeat ((first
  | (refine Ord.cv ?_ af.o ?_ ?_;rotate_left;(intro w5 hS;obtain⟨eo,n9,dz⟩:=hS;have r:=ao.rule dz;unfold aC at r;go_simp<;>rfl))
  | (refine Ord.co af.o ?_)
  | (refine Ord.cc ?_ ?_ ?_ af.o ?_ ?_ ?_;rotate_left 3;(intro w5 hS;obtain⟨eo,n9,dz⟩:=hS;have r:=ao.rule dz;unfold aC at r;go_simp;constructor<;>rfl);(intro w5 hS;(first | (obtain⟨eo,n9,dz⟩:=hS;with_reducible refine kp (D7 4 dz) ?_ ?_;rfl;exact fun w6 aj=>⟨⟨eo.trans (aj.mono eo.size),n9,dz.under aj⟩,fun k h=>h.over aj⟩)))));try simp only[Act.put,zA,zZ,zS])
 refine Ord.ch_turn (v:=.agg #[zU v,zI 0,.bool false]) 0 af.o rfl (by decide) (Or.inl rfl) (by rfl) ?_ ?_
 ·rintro w5 aN au;replace au:Env w0 (ae a (aC S.c lv key vs nx st x y z W C X wd pf pv)::LT S R) w5:=au;go_simp;rw[lB];simp only[Result.andThen_ok];go_simp;simp only[Ord.LandsIn];have hl:=lA 5 C 4 0 dQ.out 3 4 (by decide) au rfl rfl;rw[HX.out] at hl;refine hl.mono ?_;rintro e w6 ⟨rfl,aq⟩;exact⟨rfl,⟨aq.below,_,aq.get 0 rfl⟩,aq⟩
 try simp only[Act.put,zA,zZ,zS]
 repeat ((first
  | (refine Ord.cv ?_ af.o ?_ ?_;rotate_left;(intro w5 hS;skip;go_simp<;>rfl))
  | (refine Ord.co af.o ?_));try simp only[Act.put,zA,zZ,zS])
 refine Ord.ch_turn (v:=undef) 1 af.o rfl (by decide) (Or.inr ⟨_,rfl,by kernel_rfl⟩) (by rfl) ?_ ?_
 ·rintro w5 aN au;replace au:Env w0 (ae a (aC S.c lv key vs nx st x y z W C X wd pf pv)::LT { S with qc:={ S.qc with l:=wrap64 (S.qc.l+1) } } R) w5:=au;have r:=au.rule 0 rfl;unfold aC at r;have g0:=au.thaw 0 rfl 18 (by simp[aC]);go_simp;have h9:=(au.put 0 rfl (j:=18) (by simp[aC]) (zU v));replace h9:Env w0 (ae a (aC S.c lv key vs nx st x y z W C X v pf pv)::LT { S with qc:={ S.qc with l:=wrap64 (S.qc.l+1) } } R) _:=h9;exact⟨rfl,⟨h9.below,_,h9.get 0 rfl⟩,h9⟩
 try simp only[Act.put,zA,zZ,zS]
 repeat ((first
  | (refine Ord.cv ?_ af.o ?_ ?_;rotate_left;(intro w5 hS;skip;go_simp<;>rfl))
  | (refine Ord.co af.o ?_));try simp only[Act.put,zA,zZ,zS])
 refine Ord.InText.nil fun w5 hS=>?_;clear af;obtain⟨aL,ai⟩:=Ord.chain_end hS;clear hS;replace ai:Env w0 (ae a (aC S.c lv key vs nx st x y z W C X v pf pv)::LT { S with qc:={ S.qc with l:=wrap64 (S.qc.l+1) } } R) w5:=ai;clear hE aL;have r:=ai.rule 0 rfl;unfold aC at r;go_wp2_with fail;refine (xv _ _ _ (by simp[aC]) ai).mono ?_;rintro o w6 ⟨rfl,b1,b2,aq⟩;go_wp2_with fail;go_ret;exact⟨rfl,b1,b2,aq⟩
end
end
end Go.Proofs.YtleklonmmlfijaaGreatDoor
