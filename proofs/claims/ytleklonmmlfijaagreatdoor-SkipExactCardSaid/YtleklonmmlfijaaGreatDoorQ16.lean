/- What is proved on the way to the statement, part 16: contracts of the functions, among other things in memory. -/
import Derived.Test.YtleklonmmlfijaaGreatDoorQ15

open _root_.Go.Proofs.Tryz
set_option maxRecDepth 100000
set_option maxHeartbeats 25600000
namespace Go.Proofs.YtleklonmmlfijaaGreatDoor
section
open Go.RowKit Go.Maps
section
variable {w0 w:World} {R sub:List Item} {C:Cf} {X:Tm} {V:Wm} {T:Th} {K:Kt} {d:Dd} {q fb fl a c nn:Nat} {FU:Nat->Prop} {ml aR:List bT} {f:Mem} {s n l y l0 r key:Int} {an on dn:Bool} {pf pa pr:Option Addr} {G:Nat->List Value} {L:Nat->Lm}
theorem Py (h:Nat) (key:Int) (F:Fm) (f:aI->Int):(bm h key F f).1=0\/(bm h key F f).1=1:=by
 unfold bm
 split
 ·by_cases h9:(aF F.lv key false F.e (F.L F.lv) f).1=1/\F.lv=0
  ·exact .inr (if_pos h9)
  ·exact .inl (if_neg h9)
 ·exact .inl rfl
theorem Fw (ax:K.pc=1) (dC:K.ft<=2) (h0:K.ft=0->K.an=false) (hn:K.ft≠0->n=K.n) (aH:K.ft=1->l=(K.lv:Int)) (bB:0<=l/\l<=1000) (hG:∀ i,(G i).length=13) (ek:K.on=true->∀ i,K.fl<=i->i < C.h.toNat->G i=dG (i:Int) d.key false (K.L i)) (hF:gW C C.h.toNat K.on K.fl K.L) (hh:1<=C.h.toNat/\C.h.toNat<=16) (bH:C.h=(C.h.toNat:Int)) (he:0<=K.T.e/\K.T.e<=9223372036854775807) (hu:∀ x,aD (ak ml x)) (bd:K.err=0/\K.dn=false) (aG:d.ok=1\/d.ok=2\/d.ok=3) (hd:d.ok=1->1<=d.lv/\d.lv<=(C.h.toNat:Int)) (bU:K.T.ql.length+1<=1000000) (bZ:0<=K.T.hs) (aQ:ml.length<=999999) (hN:0<=X.N/\X.N<=4000000)
  (hE:Env w0 ([ae q (ay d.ok d.key d.val d.lv ((K.ft:Int)+1) (some ⟨fb,0,none⟩) pa pr n l y an 0 false),ae fb (aY d.key (if K.on then (K.fl:Int) else -1) G)]++LU (aW C X V K FU ml) R) w) :
  Calls prog 64 #[zP fb,zP X.u,zP V.m] w fun o w1=>∃ s,o=.returned (zI s)/\(s=0\/s=1)/\(s=0->bX w0 R C X V d q ml (aJ C d K (ak ml)) 0 w1)/\(s=1->Calls prog 65 #[zP q,zP X.u] w1 fun o2 w2=>∃ s2,o2=.returned (zI s2)/\bX w0 R C X V d q ml (aJ C d K (ak ml)) s2 w2):=by
 have hM:aJ C d K (ak ml)=if (bm C.h.toNat d.key ⟨K.on,K.fl,K.L,K.T.e,K.r⟩ (ak ml)).1=1 then ((bQ C d { K with on:=(bm C.h.toNat d.key ⟨K.on,K.fl,K.L,K.T.e,K.r⟩ (ak ml)).2.1.on,fl:=(bm C.h.toNat d.key ⟨K.on,K.fl,K.L,K.T.e,K.r⟩ (ak ml)).2.1.lv,L:=(bm C.h.toNat d.key ⟨K.on,K.fl,K.L,K.T.e,K.r⟩ (ak ml)).2.1.L,r:=(bm C.h.toNat d.key ⟨K.on,K.fl,K.L,K.T.e,K.r⟩ (ak ml)).2.1.r,T:={ K.T with e:=(bm C.h.toNat d.key ⟨K.on,K.fl,K.L,K.T.e,K.r⟩ (ak ml)).2.1.e } }).1,(bQ C d { K with on:=(bm C.h.toNat d.key ⟨K.on,K.fl,K.L,K.T.e,K.r⟩ (ak ml)).2.1.on,fl:=(bm C.h.toNat d.key ⟨K.on,K.fl,K.L,K.T.e,K.r⟩ (ak ml)).2.1.lv,L:=(bm C.h.toNat d.key ⟨K.on,K.fl,K.L,K.T.e,K.r⟩ (ak ml)).2.1.L,r:=(bm C.h.toNat d.key ⟨K.on,K.fl,K.L,K.T.e,K.r⟩ (ak ml)).2.1.r,T:={ K.T with e:=(bm C.h.toNat d.key ⟨K.on,K.fl,K.L,K.T.e,K.r⟩ (ak ml)).2.1.e } }).2,(bm C.h.toNat d.key ⟨K.on,K.fl,K.L,K.T.e,K.r⟩ (ak ml)).2.2) else (0,{ K with on:=(bm C.h.toNat d.key ⟨K.on,K.fl,K.L,K.T.e,K.r⟩ (ak ml)).2.1.on,fl:=(bm C.h.toNat d.key ⟨K.on,K.fl,K.L,K.T.e,K.r⟩ (ak ml)).2.1.lv,L:=(bm C.h.toNat d.key ⟨K.on,K.fl,K.L,K.T.e,K.r⟩ (ak ml)).2.1.L,r:=(bm C.h.toNat d.key ⟨K.on,K.fl,K.L,K.T.e,K.r⟩ (ak ml)).2.1.r,T:={ K.T with e:=(bm C.h.toNat d.key ⟨K.on,K.fl,K.L,K.T.e,K.r⟩ (ak ml)).2.1.e } },(bm C.h.toNat d.key ⟨K.on,K.fl,K.L,K.T.e,K.r⟩ (ak ml)).2.2):=by
  unfold aJ;rw[if_pos ax]
 rw[hM];have Fx:=Pu (C:=C) (X:=X) (V:=V) (T:=K.T) (r:=K.r) (key:=d.key) (R:=ae q (ay d.ok d.key d.val d.lv ((K.ft:Int)+1) (some ⟨fb,0,none⟩) pa pr n l y an 0 false)::R) (FU:=FU) hh bH hF he hu (show ml.length<=1000000 by omega) hG ek (hE.perm (L':=ae fb (aY d.key (if K.on then (K.fl:Int) else -1) G)::LU (SR C { X with ro:=K.r } V K.T FU ml) (ae q (ay d.ok d.key d.val d.lv ((K.ft:Int)+1) (some ⟨fb,0,none⟩) pa pr n l y an 0 false)::R)) (cm fun z=>by simp only[LU,aW,List.count_append,List.count_cons,List.count_nil];omega));have bY:=Py C.h.toNat d.key ⟨K.on,K.fl,K.L,K.T.e,K.r⟩ (ak ml);have BM:=fun h=>Lu (h:=C.h.toNat) (key:=d.key) (F:=⟨K.on,K.fl,K.L,K.T.e,K.r⟩) (f:=ak ml) h;clear hM hE;generalize bm C.h.toNat d.key ⟨K.on,K.fl,K.L,K.T.e,K.r⟩ (ak ml)=z at *;obtain⟨q1,⟨x7,sr,L',e',r'⟩,f'⟩:=z;dsimp only at bY Fx BM ⊢;refine Fx.mono ?_;rintro o w1 ⟨rfl,ca,aR,G',ox,fG,tB,x5,dh⟩;subst ox;have az:=dh.perm (L':=ae q (ay d.ok d.key d.val d.lv ((K.ft:Int)+1) (some ⟨fb,0,none⟩) pa pr n l y an 0 false)::ae fb (aY d.key (if x7 then (sr:Int) else -1) G')::LU (aW C X V { K with on:=x7,fl:=sr,L:=L',r:=r',T:={ K.T with e:=e' } } ca aR) R) (cm fun z=>by simp only[LU,aW,List.count_cons];omega);refine⟨q1,rfl,bY,fun sJ=>?_,fun h1=>?_⟩
 ·subst sJ;rw[if_neg (by decide)];exact bX.go (K:={ K with on:=x7,fl:=sr,L:=L',r:=r',T:={ K.T with e:=e' } }) (A:=X.A) (c:=X.rc) (N:=X.N) (sub:=[_,_]) rfl fG hN (dY.find (K:={ K with on:=x7,fl:=sr,L:=L',r:=r',T:={ K.T with e:=e' } }) fb G' pa pr n l y an ax dC h0 hn aH bB tB x5) az
 ·subst h1;obtain⟨h3,h4⟩:=BM rfl;subst h3;subst h4;rw[if_pos rfl];exact Pv (K:={ K with on:=true,fl:=0,L:=L',r:=r',T:={ K.T with e:=e' } }) dC h0 hn aH bB tB (fun i hi=>x5 rfl i (Nat.zero_le _) hi) hh bd aG hd bU bZ hN fG az
theorem Pz (ax:K.pc=1) (dC:K.ft<=2) (h0:K.ft=0->K.an=false) (hn:K.ft≠0->n=K.n) (aH:K.ft=1->l=(K.lv:Int)) (bB:0<=l/\l<=1000) (hG:∀ i,(G i).length=13) (ek:K.on=true->∀ i,K.fl<=i->i < C.h.toNat->G i=dG (i:Int) d.key false (K.L i)) (hF:gW C C.h.toNat K.on K.fl K.L) (hh:1<=C.h.toNat/\C.h.toNat<=16) (bH:C.h=(C.h.toNat:Int)) (he:0<=K.T.e/\K.T.e<=9223372036854775807) (hu:∀ x,aD (ak ml x)) (bd:K.err=0/\K.dn=false) (aG:d.ok=1\/d.ok=2\/d.ok=3) (hd:d.ok=1->1<=d.lv/\d.lv<=(C.h.toNat:Int)) (bU:K.T.ql.length+1<=1000000) (bZ:0<=K.T.hs) (aQ:ml.length<=999999) (hN:0<=X.N/\X.N<=4000000)
  (hE:Env w0 ([ae q (ay d.ok d.key d.val d.lv ((K.ft:Int)+1) (some ⟨fb,0,none⟩) pa pr n l y an 0 false),ae fb (aY d.key (if K.on then (K.fl:Int) else -1) G)]++LU (aW C X V K FU ml) R) w) :
  Calls prog 27 #[zP q,zP X.u,zP V.m] w fun e w'=>∃ s,e=.returned (zI s)/\bX w0 R C X V d q ml (aJ C d K (ak ml)) s w' :=
 Od (by omega) _ hE (Fw ax dC h0 hn aH bB hG ek hF hh bH he hu bd aG hd bU bZ aQ hN hE)
theorem PA (ax:K.pc=2) (cY:K.an=false) (hk:tZ C K.T nn) (bd:K.err=0/\K.dn=false) (hv:K.T.apc=6->dr K.T.ah < 1099511627775) (j7:∀ x,aD (ak ml x)) (lL:K.T.apc<=10\/K.T.apc - 10 < (WD C d K.T).length) (bB:0<=l/\l<=1000) (aQ:ml.length<=999999) (hN:0<=X.N/\X.N<=4000000)
  (hE:Env w0 ([ae q (ay d.ok d.key d.val d.lv 4 pf (some ⟨a,0,none⟩) pr n l y an 0 false),ae a (aM (K.T.apc:Int) K.T.ah K.T.an K.T.ar)]++LU (aW C X V K FU ml) R) w) :
  Calls prog 27 #[zP q,zP X.u,zP V.m] w fun e w'=>∃ s,e=.returned (zI s)/\bX w0 R C X V d q ml (aJ C d K (ak ml)) s w':=by
 have hM:aJ C d K (ak ml)=if (aT C d K.T (ak ml)).1=0 then (0,{ K with T:=(aT C d K.T (ak ml)).2.1 },(aT C d K.T (ak ml)).2.2) else if (aT C d K.T (ak ml)).1=3 then (1,{ K with T:={ (aT C d K.T (ak ml)).2.1 with pc:=0 },err:=6 },(aT C d K.T (ak ml)).2.2) else if (aT C d K.T (ak ml)).1=4 then (1,{ K with T:={ (aT C d K.T (ak ml)).2.1 with pc:=0 },err:=7 },(aT C d K.T (ak ml)).2.2) else (0,eu 0 { K with T:={ (aT C d K.T (ak ml)).2.1 with pc:=0 } },(aT C d K.T (ak ml)).2.2):=by
  unfold aJ;rw[if_neg (by omega),if_pos ax]
 rw[hM];have bY:=AX C d K.T (ak ml);have bp:=fun (v:World) (hE:Env w0 ([ae q (ay d.ok d.key d.val d.lv 4 pf (some ⟨a,0,none⟩) pr n l y an 0 false),ae a (aM (K.T.apc:Int) K.T.ah K.T.an K.T.ar)]++LU (aW C X V K FU ml) R) v)=>Mk (C:=C) (X:={ X with ro:=K.r }) (V:=V) (T:=K.T) (d:=d) hk aQ hN hv j7 lL (hE.perm (L':=ae a (aM (K.T.apc:Int) K.T.ah K.T.an K.T.ar)::LU (SR C { X with ro:=K.r } V K.T FU ml) (ae q (ay d.ok d.key d.val d.lv 4 pf (some ⟨a,0,none⟩) pr n l y an 0 false)::R)) (cm fun z=>by simp only[LU,aW,List.count_append,List.count_cons,List.count_nil];omega));generalize aT C d K.T (ak ml)=z at *;obtain⟨q1,T',f'⟩:=z;dsimp only at bY bp ⊢;have l7:∀ (s2:Int) (z2:Int × Kt × Mem),(∀ v,(∃ (A':Option Addr) (ea:Nat) (N':Int) (ca:Nat->Prop) (aR:List bT),ak aR=f'/\aR.length<=ml.length+1/\0<=N'/\N'<=4000000/\((q1=0/\Env w0 (ae a (aM (T'.apc:Int) T'.ah T'.an T'.ar)::LU (SR C { { X with ro:=K.r } with A:=A',rc:=ea,N:=N' } V T' ca aR) (ae q (ay d.ok d.key d.val d.lv 4 pf (some ⟨a,0,none⟩) pr n l y an 0 false)::R)) v)\/(q1≠0/\Env w0 (LU (SR C { { X with ro:=K.r } with A:=A',rc:=ea,N:=N' } V T' ca aR) (ae q (ay d.ok d.key d.val d.lv 4 pf (some ⟨a,0,none⟩) pr n l y an 0 false)::R)) v)))->Calls prog 66 #[zP q,zI q1] v fun o w1=>o=.returned (zI s2)/\bX w0 R C X V d q ml z2 s2 w1/\∃ sC qP e9,ao 0 w1 q (ay d.ok d.key d.val d.lv qP sC (some ⟨a,0,none⟩) pr n l y an e9 false))->Calls prog 27 #[zP q,zP X.u,zP V.m] w fun e w'=>∃ s,e=.returned (zI s)/\bX w0 R C X V d q ml z2 s w':=by
  intro s2 z2 PB;refine (Og q1 s2 _ (fun v=>bX w0 R C X V d q ml z2 s2 v/\∃ sC qP e9,ao 0 v q (ay d.ok d.key d.val d.lv qP sC (some ⟨a,0,none⟩) pr n l y an e9 false)) hE ?_ (fun v h=>h.2) (fun v hv=>bp v hv) PB).mono (fun e w' h=>⟨s2,h.1,h.2.1⟩);rintro v ⟨A',ea,N',ca,aR,-,-,-,-,⟨-,h⟩ | ⟨-,h⟩⟩
  ·exact h.get 4 rfl
  ·exact h.get 3 rfl
 rcases bY with h | h | h | h | h
 ·subst h;rw[if_pos rfl];refine l7 0 _ ?_;rintro v ⟨A',ea,N',ca,aR,hf,hl,jw,gP,⟨-,h⟩ | ⟨h9,-⟩⟩
  ·have h2:=h.perm (L':=ae q (ay d.ok d.key d.val d.lv 4 pf (some ⟨a,0,none⟩) pr n l y an 0 false)::ae a (aM (T'.apc:Int) T'.ah T'.an T'.ar)::LU (SR C { { X with ro:=K.r } with A:=A',rc:=ea,N:=N' } V T' ca aR) R) (cm fun z=>by simp only[LU,List.count_cons];omega);refine (E2 h2).mono ?_;rintro e w2 ⟨rfl,az⟩;exact⟨rfl,bX.go (K:={ K with T:=T' }) (A:=A') (c:=ea) (N:=N') (sub:=[_,_]) hf hl ⟨jw,gP⟩ (dY.take (K:={ K with T:=T' }) a pf pr n l y an ax cY bB) az,pf,4,0,az.get 0 rfl⟩
  ·exact absurd rfl h9
 all_goals
  subst h;rw[if_neg (by decide)]
 ·rw[if_neg (by decide),if_neg (by decide)];refine l7 0 _ ?_;rintro v ⟨A',ea,N',ca,aR,hf,hl,jw,gP,⟨h9,-⟩ | ⟨-,h⟩⟩
  ·exact absurd h9 (by decide)
  have h2:=h.perm (L':=ae q (ay d.ok d.key d.val d.lv 4 pf (some ⟨a,0,none⟩) pr n l y an 0 false)::LU (SR C { { X with ro:=K.r } with A:=A',rc:=ea,N:=N' } V T' ca aR) R) (cm fun z=>by simp only[LU,List.count_cons];omega);refine (E1 1 (.inl rfl) h2).mono ?_;rintro e w2 ⟨rfl,PD,az⟩;exact⟨rfl,bX.seek (K:={ K with T:={ T' with pc:=0 } }) (A:=A') (c:=ea) (N:=N') 0 (by decide) 1 rfl (fun _=>cY) (fun h=>absurd rfl h) (fun h=>absurd h (by decide)) bB hf hl ⟨jw,gP⟩ az,_,1,0,az.get 0 rfl⟩
 ·rw[if_neg (by decide),if_neg (by decide)];refine l7 0 _ ?_;rintro v ⟨A',ea,N',ca,aR,hf,hl,jw,gP,⟨h9,-⟩ | ⟨-,h⟩⟩
  ·exact absurd h9 (by decide)
  have h2:=h.perm (L':=ae q (ay d.ok d.key d.val d.lv 4 pf (some ⟨a,0,none⟩) pr n l y an 0 false)::LU (SR C { { X with ro:=K.r } with A:=A',rc:=ea,N:=N' } V T' ca aR) R) (cm fun z=>by simp only[LU,List.count_cons];omega);refine (E1 2 (.inr rfl) h2).mono ?_;rintro e w2 ⟨rfl,PD,az⟩;exact⟨rfl,bX.seek (K:={ K with T:={ T' with pc:=0 } }) (A:=A') (c:=ea) (N:=N') 0 (by decide) 1 rfl (fun _=>cY) (fun h=>absurd rfl h) (fun h=>absurd h (by decide)) bB hf hl ⟨jw,gP⟩ az,_,1,0,az.get 0 rfl⟩
 ·rw[if_pos rfl];refine l7 1 _ ?_;rintro v ⟨A',ea,N',ca,aR,hf,hl,jw,gP,⟨h9,-⟩ | ⟨-,h⟩⟩
  ·exact absurd h9 (by decide)
  have h2:=h.perm (L':=ae q (ay d.ok d.key d.val d.lv 4 pf (some ⟨a,0,none⟩) pr n l y an 0 false)::LU (SR C { { X with ro:=K.r } with A:=A',rc:=ea,N:=N' } V T' ca aR) R) (cm fun z=>by simp only[LU,List.count_cons];omega);refine (Bl 3 (.inl rfl) h2).mono ?_;rintro e w2 ⟨rfl,az⟩;have bM:Env w0 (ae q (ay d.ok d.key d.val d.lv 4 pf (some ⟨a,0,none⟩) pr n l y an 6 K.dn)::LU (SR C { { X with ro:=K.r } with A:=A',rc:=ea,N:=N' } V T' ca aR) R) w2:=by rw[bd.2];exact az
  exact⟨rfl,bX.fin (K:={ K with T:={ T' with pc:=0 },err:=6 }) (n:=n) (l:=l) (y:=y) (an:=an) (pf:=pf) (pa:=some ⟨a,0,none⟩) (pr:=pr) (pc:=4) (A:=A') (c:=ea) (N:=N') hf hl ⟨jw,gP⟩ (show (1:Int)≠0 by decide) bM,_,4,_,az.get 0 rfl⟩
 ·rw[if_neg (by decide),if_pos rfl];refine l7 1 _ ?_;rintro v ⟨A',ea,N',ca,aR,hf,hl,jw,gP,⟨h9,-⟩ | ⟨-,h⟩⟩
  ·exact absurd h9 (by decide)
  have h2:=h.perm (L':=ae q (ay d.ok d.key d.val d.lv 4 pf (some ⟨a,0,none⟩) pr n l y an 0 false)::LU (SR C { { X with ro:=K.r } with A:=A',rc:=ea,N:=N' } V T' ca aR) R) (cm fun z=>by simp only[LU,List.count_cons];omega);refine (Bl 4 (.inr rfl) h2).mono ?_;rintro e w2 ⟨rfl,az⟩;have bM:Env w0 (ae q (ay d.ok d.key d.val d.lv 4 pf (some ⟨a,0,none⟩) pr n l y an 7 K.dn)::LU (SR C { { X with ro:=K.r } with A:=A',rc:=ea,N:=N' } V T' ca aR) R) w2:=by rw[bd.2];exact az
  exact⟨rfl,bX.fin (K:={ K with T:={ T' with pc:=0 },err:=7 }) (n:=n) (l:=l) (y:=y) (an:=an) (pf:=pf) (pa:=some ⟨a,0,none⟩) (pr:=pr) (pc:=4) (A:=A') (c:=ea) (N:=N') hf hl ⟨jw,gP⟩ (show (1:Int)≠0 by decide) bM,_,4,_,az.get 0 rfl⟩
theorem PE (ax:K.pc=7) (bU:K.T.ql.length+1<=1000000) (xR:aD K.T.re) (PF:K.T.rpc≠0->bg K.T.re=K.T.re) (hr:K.T.rpc=0\/K.T.rpc=1) (bd:K.err=0/\K.dn=false) (aQ:ml.length<=999999) (hN:0<=X.N/\X.N<=4000000)
  (hE:Env w0 ([ae q (ay d.ok d.key d.val d.lv 30 pf pa (some ⟨c,0,none⟩) n l y an 0 dn),ae c (eH K.T.rs (K.T.rpc:Int) K.T.re)]++LU (aW C X V K FU ml) R) w) :
  Calls prog 27 #[zP q,zP X.u,zP V.m] w fun e w'=>∃ s,e=.returned (zI s)/\bX w0 R C X V d q ml (aJ C d K (ak ml)) s w':=by
 have hM:aJ C d K (ak ml)=if (cQ K.T (ak ml)).1=0 then (0,{ K with T:=(cQ K.T (ak ml)).2.1 },(cQ K.T (ak ml)).2.2) else (1,{ K with T:={ (cQ K.T (ak ml)).2.1 with pc:=0 },dn:=true },(cQ K.T (ak ml)).2.2):=by
  unfold aJ;(iterate 13 rw[if_neg (by omega)]);rw[if_neg (by omega)]
 rw[hM];have rF:=fun (v:World) (hE:Env w0 ([ae q (ay d.ok d.key d.val d.lv 30 pf pa (some ⟨c,0,none⟩) n l y an 0 true),ae c (eH K.T.rs (K.T.rpc:Int) K.T.re)]++LU (aW C X V K FU ml) R) v)=>NY (C:=C) (X:={ X with ro:=K.r }) (V:=V) (T:=K.T) bU xR PF hr aQ hN (hE.perm (L':=ae c (eH K.T.rs (K.T.rpc:Int) K.T.re)::LU (SR C { X with ro:=K.r } V K.T FU ml) (ae q (ay d.ok d.key d.val d.lv 30 pf pa (some ⟨c,0,none⟩) n l y an 0 true)::R)) (cm fun z=>by simp only[LU,aW,List.count_append,List.count_cons,List.count_nil];omega));have qT:(cQ K.T (ak ml)).1=0\/(cQ K.T (ak ml)).1=1:=by
  unfold cQ
  split
  ·exact .inl rfl
  ·exact .inr rfl
 generalize cQ K.T (ak ml)=z at *;obtain⟨q1,T',f'⟩:=z;dsimp only at qT rF ⊢;refine Oh _ hE (fun v hv=>(rF v hv).mono ?_)
 rcases qT with h | h
 ·subst h;rw[if_pos rfl];rintro e w1 ⟨rfl,A',ea,N',ca,aR,ox,fG,jw,gP,⟨-,dh⟩ | ⟨h9,-⟩⟩
  ·have hv:=dh.perm (L':=ae q (ay d.ok d.key d.val d.lv 30 pf pa (some ⟨c,0,none⟩) n l y an 0 true)::ae c (eH T'.rs (T'.rpc:Int) T'.re)::LU (SR C { { X with ro:=K.r } with A:=A',rc:=ea,N:=N' } V T' ca aR) R) (cm fun z=>by simp only[LU,List.count_cons];omega);exact⟨0,rfl,bX.go (K:={ K with T:=T' }) (A:=A') (c:=ea) (N:=N') (sub:=[_,_]) ox fG ⟨jw,gP⟩ (dY.retire (K:={ K with T:=T' }) c pf pa n l y an true ax) hv⟩
  ·exact absurd rfl h9
 ·subst h;rw[if_neg (by decide)];rintro e w1 ⟨rfl,A',ea,N',ca,aR,ox,fG,jw,gP,⟨h9,-⟩ | ⟨-,dh⟩⟩
  ·exact absurd h9 (by decide)
  ·have hv:=dh.perm (L':=ae q (ay d.ok d.key d.val d.lv 30 pf pa (some ⟨c,0,none⟩) n l y an 0 true)::LU (SR C { { X with ro:=K.r } with A:=A',rc:=ea,N:=N' } V T' ca aR) R) (cm fun z=>by simp only[LU,List.count_cons];omega);exact⟨1,rfl,bX.fin (K:={ K with T:={ T' with pc:=0 },dn:=true }) (n:=n) (l:=l) (y:=y) (an:=an) (pf:=pf) (pa:=pa) (pr:=some ⟨c,0,none⟩) (pc:=30) (A:=A') (c:=ea) (N:=N') ox fG ⟨jw,gP⟩ (show (1:Int)≠0 by decide) (by rw[bd.1];exact hv)⟩
end
section
variable {w0 w w':World} {R N:List Item} {C:Cf} {X:Tm} {V:Wm} {d:Dd} {o n n':Nat} {K K':Kt} {f f':Mem} {G G':Nat->Prop} {qc bt:bN} {q:Int × Kt × Mem}
theorem PG {fp:Value} {l t y:Int} (ax:K.pc=11) (aZ:Wf (5,K.n,5))  (hh:1<=C.h.toNat/\C.h.toNat<=1000) (hg:bE w0) (hn:n < maxLen) (hE:Env w0 (ae o (aw X.c d.ok d.key d.val d.lv (mvL 131 o) 0 fp K.n l t y K.an 0 false)::LT (aX C X V K f G qc n) R) w) :
  Calls prog 16 #[zP o,.iface 28 (zP V.p)] w fun e w'=>∃ s,e=.returned (zI s)/\bG w0 R C X V d o n qc (aJ C d K f) s w':=by
 refine ot 131 _ (fun _ _=>by kernel_rfl) _ hE ?_;refine (Mp (S:=(aX C X V K f G qc n)) (f (5,K.n,5)) rfl aZ hE).mono ?_;rintro e w1 ⟨rfl,c1,c2,ag⟩;exact⟨0,rfl,bG.on (K':={ K with y:=f (5,K.n,5),pc:=12 }) (f':=f) (G':=G) (ps':=[_,_,_]) (by unfold aJ;(iterate 8 rw[if_neg (by omega)]);rw[if_pos ax]) nq (.inr (.inr (.inr (.inr (.inl ⟨rfl,c1,c2,fp,l,y,rfl⟩))))) ag⟩
theorem PH {fp:Value} {t y:Int} (ax:K.pc=13) (aZ:Wf (5,K.n,7+(K.lv:Int))) (aH:K.lv < C.h.toNat) (hh:1<=C.h.toNat/\C.h.toNat<=1000) (hg:bE w0) (hn:n < maxLen) (hE:Env w0 (ae o (aw X.c d.ok d.key d.val d.lv (mvL 185 o) 0 fp K.n (K.lv:Int) t y K.an 0 false)::LT (aX C X V K f G qc n) R) w) :
  Calls prog 16 #[zP o,.iface 28 (zP V.p)] w fun e w'=>∃ s,e=.returned (zI s)/\bG w0 R C X V d o n qc (aJ C d K f) s w':=by
 refine ot 185 _ (fun _ _=>by kernel_rfl) _ hE ?_;refine (Mq (S:=(aX C X V K f G qc n)) (l8:=K.lv) (f (bW K)) rfl aZ (by omega) hE).mono ?_;rintro e w1 ⟨rfl,c1,c2,ag⟩;exact⟨0,rfl,bG.on (K':={ K with y:=f (bW K),pc:=14 }) (f':=f) (G':=G) (ps':=[_,_,_]) (by unfold aJ;(iterate 10 rw[if_neg (by omega)]);rw[if_pos ax]) nq (.inr (.inr (.inr (.inr (.inr (.inl ⟨rfl,c1,c2,fp,t,rfl⟩)))))) ag⟩
theorem PI {fp:Value} {t y:Int} (ax:K.pc=15) (aZ:Wf (5,K.n,7+(K.lv:Int))) (aH:K.lv < C.h.toNat) (hy:aD K.y) (bA:cO K.y=false) (hh:1<=C.h.toNat/\C.h.toNat<=1000) (hg:bE w0) (hn:n < maxLen) (hE:Env w0 (ae o (aw X.c d.ok d.key d.val d.lv (mvL 222 o) 0 fp K.n (K.lv:Int) t K.y K.an 0 false)::LT (aX C X V K f G qc n) R) w) :
  Calls prog 16 #[zP o,.iface 28 (zP V.p)] w fun e w'=>∃ s,e=.returned (zI s)/\bG w0 R C X V d o n qc (aJ C d K f) s w':=by
 refine ot 222 _ (fun _ _=>by kernel_rfl) _ hE ?_;have ho:aJ C d K f=(0,(if f (bW K)=K.y then (if K.lv=0 then { K with pc:=16 } else { K with lv:=K.lv - 1,pc:=13 }) else { K with pc:=13 }),swf f (bW K) K.y (aP true (aA K.y) K.T.e)):=by unfold aJ;(iterate 12 rw[if_neg (by omega)]);rw[if_pos ax]
 by_cases h1:f (bW K)=K.y
 ·rw[if_pos h1] at ho
  by_cases h0:K.lv=0
  ·rw[if_pos h0] at ho;refine (Mw (S:=(aX C X V K f G qc n)) (l8:=K.lv) h1 h0 aZ hy bA hg hn (by omega) hE).mono ?_;rintro e w1 ⟨rfl,G',ag⟩;exact⟨0,rfl,bG.on (K':={ K with pc:=16 }) (G':=G') (ps':=[_]) ho lP (.inr (.inr (.inr (.inl ⟨.inr (.inr (.inr (.inr rfl))),fp,(K.lv:Int),t,K.y,rfl,fun h=>h.elim (fun h=>absurd (show (16:Nat)=13 from h) (by decide)) (fun h=>absurd (show (16:Nat)=15 from h) (by decide)),fun h=>absurd (show (16:Nat)=15 from h) (by decide)⟩)))) ag⟩
  ·rw[if_neg h0] at ho;refine (Mx (S:=(aX C X V K f G qc n)) (l8:=K.lv) h1 (by omega) aZ hy bA hg hn (by omega) hE).mono ?_;rintro e w1 ⟨rfl,G',ag⟩;exact⟨0,rfl,bG.on (K':={ K with lv:=K.lv - 1,pc:=13 }) (G':=G') (ps':=[_]) ho lP (.inr (.inr (.inr (.inl ⟨.inr (.inr (.inl rfl)),fp,((K.lv - 1:Nat):Int),t,K.y,rfl,fun _=>rfl,fun h=>absurd (show (13:Nat)=15 from h) (by decide)⟩)))) ag⟩
 ·rw[if_neg h1] at ho;refine (Mv (S:=(aX C X V K f G qc n)) (l8:=K.lv) h1 aZ hy bA hg hn (by omega) hE).mono ?_;rintro e w1 ⟨rfl,G',ag⟩;exact⟨0,rfl,bG.on (K':={ K with pc:=13 }) (G':=G') (ps':=[_]) ho lP (.inr (.inr (.inr (.inl ⟨.inr (.inr (.inl rfl)),fp,(K.lv:Int),t,K.y,rfl,fun _=>rfl,fun h=>absurd (show (13:Nat)=15 from h) (by decide)⟩)))) ag⟩
theorem PJ {fp:Value} {l y:Int} {b1 b2:Nat} (ax:K.pc=12) (hy:aD K.y) (hh:1<=C.h.toNat/\C.h.toNat<=1000) (dH:C.k=3) (bH:C.h=(C.h.toNat:Int)) (hg:bE w0) (hn:n < maxLen) (hE:Env w0 (ae o (aw X.c d.ok d.key d.val d.lv (qE b1 b2) 0 fp K.n l K.y y K.an 0 false)::ae b1 [zP o]::ae b2 [mvL 159 o]::LT (aX C X V K f G qc n) R) w) :
  Calls prog 16 #[zP o,.iface 28 (zP V.p)] w fun e w'=>∃ s,e=.returned (zI s)/\bG w0 R C X V d o n qc (aJ C d K f) s w':=by
 refine ES _ (fun s w'=>bG w0 R C X V d o n qc (aJ C d K f) s w') hE ?_
 by_cases aG:okB (f (1,0,0)) K.T.e=true
 ·refine EF (S:=(aX C X V K f G qc n)) 159 b1 b2 (fun _ _=>by kernel_rfl) _ aG hE fun v hv=>?_;refine (MD (h:=C.h.toNat) hh hy 0 (by show _=some (dy _ _ _ _ ((C.h.toNat:Nat):Int) _ _ _ _ _ _);rw[<- bH];rfl) hv).mono ?_;rintro e w1 ⟨rfl,ag⟩;refine⟨0,rfl,bG.on (K':={ K with lv:=if 1<=K.y/\K.y<=C.h then (K.y - 1).toNat else 0,pc:=13 }) (f':=f) (G':=G) (ps':=[_]) (by unfold aJ;(iterate 9 rw[if_neg (by omega)]);rw[if_pos ax,if_pos aG]) nq (.inr (.inr (.inr (.inl ⟨.inr (.inr (.inl rfl)),fp,_,K.y,y,rfl,fun _=>rfl,fun h=>absurd (show (13:Nat)=15 from h) (by decide)⟩)))) ?_⟩;rw[<- bH] at ag;exact ag
 ·have BN:okB (f (1,0,0)) K.T.e=false:=by simpa using aG
  refine (EG (S:=(aX C X V K f G qc n)) (h:=C.h.toNat) 159 b1 b2 BN hh.2 dH bH hE).mono ?_;rintro e w1 ⟨rfl,c1,c2,fb,g,ag⟩;exact⟨0,rfl,bG.find (N:=[]) (K':={ K with r:=wrap64 (K.r+1) }) (f':=f) (G':=G) (a:=0) (by unfold aJ;(iterate 9 rw[if_neg (by omega)]);rw[if_pos ax,if_neg aG];rfl) rfl (fun h=>absurd rfl h) (fun h=>absurd h (by decide)) nq ag⟩
theorem PK {fp:Value} {t:Int} {b1 b2:Nat} (ax:K.pc=14) (hy:aD K.y) (aH:K.lv < C.h.toNat) (hh:1<=C.h.toNat/\C.h.toNat<=1000) (dH:C.k=3) (bH:C.h=(C.h.toNat:Int)) (hg:bE w0) (hn:n < maxLen) (hE:Env w0 (ae o (aw X.c d.ok d.key d.val d.lv (qE b1 b2) 0 fp K.n (K.lv:Int) t K.y K.an 0 false)::ae b1 [zP o]::ae b2 [mvL 204 o]::LT (aX C X V K f G qc n) R) w) :
  Calls prog 16 #[zP o,.iface 28 (zP V.p)] w fun e w'=>∃ s,e=.returned (zI s)/\bG w0 R C X V d o n qc (aJ C d K f) s w':=by
 refine ES _ (fun s w'=>bG w0 R C X V d o n qc (aJ C d K f) s w') hE ?_
 by_cases aG:okB (f (1,0,0)) K.T.e=true
 ·refine EF (S:=(aX C X V K f G qc n)) 204 b1 b2 (fun _ _=>by kernel_rfl) _ aG hE fun v hv=>?_;cases bA:cO K.y
  ·refine (ME hy bA hg hv).mono ?_;rintro e w1 ⟨rfl,ag⟩;exact⟨0,rfl,bG.on (K':={ K with pc:=15 }) (f':=f) (G':=G) (ps':=[_]) (by unfold aJ;(iterate 11 rw[if_neg (by omega)]);rw[if_pos ax,if_pos aG,bA];rfl) nq (.inr (.inr (.inr (.inl ⟨.inr (.inr (.inr (.inl rfl))),fp,(K.lv:Int),t,K.y,rfl,fun _=>rfl,fun _=>rfl⟩)))) ag⟩
  ·by_cases h0:K.lv=0
   ·refine (MF (h:=C.h.toNat) (l8:=K.lv) hy bA h0 hg hh.2 0 (by show _=some (dy _ 3 _ _ ((C.h.toNat:Nat):Int) _ _ _ _ _ _);rw[<- bH,<- dH];rfl) hv).mono ?_;rintro e w1 ⟨rfl,c1,c2,fb,g,ag⟩;exact⟨0,rfl,bG.find (N:=[]) (K':=K) (f':=f) (G':=G) (a:=0) (by unfold aJ;(iterate 11 rw[if_neg (by omega)]);rw[if_pos ax,if_pos aG,bA,if_pos rfl,if_pos h0];rfl) rfl (fun h=>absurd rfl h) (fun h=>absurd h (by decide)) nq ag⟩
   ·refine (MG (l8:=K.lv) hy bA (by omega) (by omega) hg hv).mono ?_;rintro e w1 ⟨rfl,ag⟩;exact⟨0,rfl,bG.on (K':={ K with lv:=K.lv - 1,pc:=13 }) (f':=f) (G':=G) (ps':=[_]) (by unfold aJ;(iterate 11 rw[if_neg (by omega)]);rw[if_pos ax,if_pos aG,bA,if_pos rfl,if_neg h0]) nq (.inr (.inr (.inr (.inl ⟨.inr (.inr (.inl rfl)),fp,((K.lv - 1:Nat):Int),t,K.y,rfl,fun _=>rfl,fun h=>absurd (show (13:Nat)=15 from h) (by decide)⟩)))) ag⟩
 ·have BN:okB (f (1,0,0)) K.T.e=false:=by simpa using aG
  refine (EG (S:=(aX C X V K f G qc n)) (h:=C.h.toNat) 204 b1 b2 BN hh.2 dH bH hE).mono ?_;rintro e w1 ⟨rfl,c1,c2,fb,g,ag⟩;exact⟨0,rfl,bG.find (N:=[]) (K':={ K with r:=wrap64 (K.r+1) }) (f':=f) (G':=G) (a:=0) (by unfold aJ;(iterate 11 rw[if_neg (by omega)]);rw[if_pos ax,if_neg aG];rfl) rfl (fun h=>absurd rfl h) (fun h=>absurd h (by decide)) nq ag⟩
end
section
variable {w0 w w':World} {R N:List Item} {C:Cf} {X:Tm} {V:Wm} {d:Dd} {o n n':Nat} {K K':Kt} {f f':Mem} {G G':Nat->Prop} {qc bt:bN} {q:Int × Kt × Mem}
theorem bG.lift {F9:Nat->Prop} {k9:Nat} {s:Int} (h:bG w0 R C { X with F:=F9,kq:=k9 } V d o n qc q s w'):bG w0 R C X V d o n qc q s w':=h
theorem uw (a b c:Item) (S:ST) (sub R:List Item):(a::b::c::(sub++LT S R)).Perm (sub++LT S (a::b::c::R)):=cm fun z=>by
 simp only[LT,List.count_append,List.count_cons];omega
theorem Fy {a b c e:Item} {S:ST} (hE:Env w0 (a::b::c::e::LT S (N++R)) w):Env w0 (a::b::c::e::LT S R) w :=
 (hE.perm (L':=N++(a::b::c::e::LT S R)) (cm fun z=>by simp only[LT,List.count_append,List.count_cons];omega)).sub (List.sublist_append_right _ _)
theorem PL {T:Th} (h:T.hs=0):{ T with ql:=j1 T.hs T.ql,hs:=0 }=T:=by
 obtain⟨⟩:=T;dsimp only at h ⊢;subst h;rfl
theorem PN {F:Fd} {nx:Value} {kY:bN} {n1:Nat} {n0 l t y:Int} (dC:K.ft=1) (hF:kX F C.h.toNat) (hh:1<=C.h.toNat/\C.h.toNat<=1000) (iH:Nx n kY n1 qc) (u:Int) (hE:Env w0 (ae o (aw X.c d.ok d.key d.val d.lv nx 0 (zP F.fb) K.n (K.lv:Int) t y K.an 0 false)::LT (aX C X V K f G qc n1) (F.its X.c d.key K.L C.h.toNat++R)) w) :
  Calls prog 221 #[zP o,zI u] w fun e2 w2=>∃ s2,e2=.returned (zI s2)/\bG w0 R C X V d o n kY ((bQ C d K).1,(bQ C d K).2,f) s2 w2:=by
 have hI:eK F X.c d.key K.L C.h.toNat (F.its X.c d.key K.L C.h.toNat++R):=pR hF hh;have sK:eK F X.c d.key K.L C.h.toNat (LT (aX C X V K f G qc n1) (F.its X.c d.key K.L C.h.toNat++R)):=hI.more fun a ha=>by unfold LT;simp only[List.mem_cons];exact .inr (.inr (.inr (.inr ha)))
 refine (MC (L:=K.L) (h:=C.h.toNat) u sK hE).mono ?_;rintro e w1 ⟨rfl,ag⟩;have hM:bQ C d K=(0,{ K with an:=true,pc:=if (K.L 0).C=K.n then 6 else 10 }):=by unfold bQ;rw[if_pos dC]
 rw[hM]
 by_cases h1:(K.L 0).C=K.n
 ·rw[if_pos h1] at ag;exact⟨0,rfl,bG.on (K':={ K with an:=true,pc:=6 }) (f':=f) (G':=G) (ps':=_::F.its X.c d.key K.L C.h.toNat) (by rw[if_pos h1]) iH (.inr (.inr (.inl ⟨.inr (.inr (.inr (.inl rfl))),F,t,y,rfl,hF,fun h=>absurd (show (6:Nat)=9 from h) (by decide)⟩))) (ag.perm lQ.symm)⟩
 ·rw[if_neg h1] at ag;exact⟨0,rfl,bG.on (K':={ K with an:=true,pc:=10 }) (f':=f) (G':=G) (ps':=[_]) (by rw[if_neg h1]) iH (.inr (.inr (.inr (.inl ⟨.inl rfl,(zP F.fb),(K.lv:Int),t,y,rfl,fun h=>h.elim (fun h=>absurd (show (10:Nat)=13 from h) (by decide)) (fun h=>absurd (show (10:Nat)=15 from h) (by decide)),fun h=>absurd (show (10:Nat)=15 from h) (by decide)⟩)))) (pQ ag)⟩
theorem PO {F:Fd} {nx:Value} {kY:bN} {n1:Nat} {n0 l t y:Int} (dC:K.ft=2) (hF:kX F C.h.toNat) (hh:1<=C.h.toNat/\C.h.toNat<=1000) (iH:Nx n kY n1 qc) (u:Int) (hE:Env w0 (ae o (aw X.c d.ok d.key d.val d.lv nx 0 (zP F.fb) K.n l t y K.an 0 false)::LT (aX C X V K f G qc n1) (F.its X.c d.key K.L C.h.toNat++R)) w) :
  Calls prog 232 #[zP o,zI u] w fun e2 w2=>∃ s2,e2=.returned (zI s2)/\bG w0 R C X V d o n kY ((bQ C d K).1,(bQ C d K).2,f) s2 w2:=by
 refine (MB u hE).mono ?_;rintro e w1 ⟨rfl,c1,c2,r,ag⟩;have hM:bQ C d K=(0,{ K with pc:=7,T:={ K.T with pc:=3,rs:=K.n,rpc:=0,re:=0 } }):=by unfold bQ;rw[if_neg (by omega),if_pos dC]
 rw[hM];have az:=Fy ag;exact⟨0,rfl,bG.on (K':={ K with pc:=7,T:={ K.T with pc:=3,rs:=K.n,rpc:=0,re:=0 } }) (f':=f) (G':=G) (ps':=[_,_,_,_]) rfl iH (.inr (.inr (.inr (.inr (.inr (.inr ⟨rfl,c1,c2,(zP F.fb),K.n,l,t,y,r,rfl⟩)))))) az⟩
theorem PQ {F:Fd} {nx:Value} {kY:bN} {n1:Nat} {n0 l t y:Int} (dC:K.ft≠1/\K.ft≠2) (bd:K.err=0/\K.dn=false) (h1:d.ok≠1) (h2:d.ok≠2) (hF:kX F C.h.toNat) (hh:1<=C.h.toNat/\C.h.toNat<=1000) (iH:Nx n kY n1 qc) (u:Int) (hE:Env w0 (ae o (aw X.c d.ok d.key d.val d.lv nx 0 (zP F.fb) n0 l t y K.an 0 false)::LT (aX C X V K f G qc n1) (F.its X.c d.key K.L C.h.toNat++R)) w) :
  Calls prog 81 #[zP o,zI u] w fun e2 w2=>∃ s2,e2=.returned (zI s2)/\bG w0 R C X V d o n kY ((bQ C d K).1,(bQ C d K).2,f) s2 w2:=by
 have hI:eK F X.c d.key K.L C.h.toNat (F.its X.c d.key K.L C.h.toNat++R):=pR hF hh;have sK:eK F X.c d.key K.L C.h.toNat (LT (aX C X V K f G qc n1) (F.its X.c d.key K.L C.h.toNat++R)):=hI.more fun a ha=>by unfold LT;simp only[List.mem_cons];exact .inr (.inr (.inr (.inr ha)))
 refine (MX (L:=K.L) (h:=C.h.toNat) u h1 h2 sK hE).mono ?_;rintro e w1 ⟨rfl,ag⟩;have hM:bQ C d K=(1,{ K with dn:=(K.L 0).fd }):=by unfold bQ;rw[if_neg dC.1,if_neg dC.2,if_neg h1,if_neg h2]
 rw[hM];exact⟨1,rfl,bG.fin (K':={ K with dn:=(K.L 0).fd }) (f':=f) (G':=G) rfl (by decide) iH (by dsimp only;rw[bd.1];exact pQ ag)⟩
theorem PR {F:Fd} {nx:Value} {kY:bN} {n1:Nat} {n0 l t y:Int} (dC:K.ft≠1/\K.ft≠2) (bd:K.err=0/\K.dn=false) (h2:d.ok=2) (hF:kX F C.h.toNat) (hh:1<=C.h.toNat/\C.h.toNat<=1000) (iH:Nx n kY n1 qc) (u:Int) (hE:Env w0 (ae o (aw X.c d.ok d.key d.val d.lv nx 0 (zP F.fb) n0 l t y K.an 0 false)::LT (aX C X V K f G qc n1) (F.its X.c d.key K.L C.h.toNat++R)) w) :
  Calls prog 81 #[zP o,zI u] w fun e2 w2=>∃ s2,e2=.returned (zI s2)/\bG w0 R C X V d o n kY ((bQ C d K).1,(bQ C d K).2,f) s2 w2:=by
 have hI:eK F X.c d.key K.L C.h.toNat (F.its X.c d.key K.L C.h.toNat++R):=pR hF hh;have sK:eK F X.c d.key K.L C.h.toNat (LT (aX C X V K f G qc n1) (F.its X.c d.key K.L C.h.toNat++R)):=hI.more fun a ha=>by unfold LT;simp only[List.mem_cons];exact .inr (.inr (.inr (.inr ha)))
 have Ds:ae o (aw X.c d.ok d.key d.val d.lv nx 0 (zP F.fb) n0 l t y K.an 0 false)=ae o (aw X.c 2 d.key d.val d.lv nx 0 (zP F.fb) n0 l t y K.an 0 false):=by rw[h2]
 rw[Ds] at hE;refine MW u _ hE ?_;cases bw:(K.L 0).fd
 ·refine (MN (L:=K.L) (h:=C.h.toNat) sK bw hE).mono ?_;rintro e w1 ⟨rfl,ag⟩;have hM:bQ C d K=(1,K):=by unfold bQ;rw[if_neg dC.1,if_neg dC.2,if_neg (by omega),if_pos h2,bw];rfl
  rw[hM];exact⟨1,rfl,bG.fin (K':=K) (f':=f) (G':=G) rfl (by decide) iH (by rw[bd.1,bd.2,h2];exact pQ ag)⟩
 ·refine (MO (L:=K.L) (h:=C.h.toNat) sK bw hE).mono ?_;rintro e w1 ⟨rfl,ag⟩;have hM:bQ C d K=(0,{ K with pc:=11,n:=(K.L 0).C }):=by unfold bQ;rw[if_neg dC.1,if_neg dC.2,if_neg (by omega),if_pos h2,bw];rfl
  rw[hM];exact⟨0,rfl,bG.on (K':={ K with pc:=11,n:=(K.L 0).C }) (f':=f) (G':=G) (ps':=[_]) rfl iH (.inr (.inr (.inr (.inl ⟨.inr (.inl rfl),(zP F.fb),l,t,y,rfl,fun h=>h.elim (fun h=>absurd (show (11:Nat)=13 from h) (by decide)) (fun h=>absurd (show (11:Nat)=15 from h) (by decide)),fun h=>absurd (show (11:Nat)=15 from h) (by decide)⟩)))) (by rw[h2];exact pQ ag)⟩
theorem PS {F:Fd} {nx:Value} {kY:bN} {n1:Nat} {n0 l t y:Int} (dC:K.ft≠1/\K.ft≠2) (bd:K.err=0/\K.dn=false) (h1:d.ok=1) (aH:1<=d.lv/\d.lv<=((C.h.toNat:Nat):Int)) (hl:K.T.ql.length+1<=1000000) (dH:C.k=3) (bH:C.h=(C.h.toNat:Int)) (hF:kX F C.h.toNat) (hh:1<=C.h.toNat/\C.h.toNat<=1000) (iH:Nx n kY n1 qc) (u:Int) (hE:Env w0 (ae o (aw X.c d.ok d.key d.val d.lv nx 0 (zP F.fb) n0 l t y K.an 0 false)::LT (aX C X V K f G qc n1) (F.its X.c d.key K.L C.h.toNat++R)) w) :
  Calls prog 81 #[zP o,zI u] w fun e2 w2=>∃ s2,e2=.returned (zI s2)/\bG w0 R C X V d o n kY ((bQ C d K).1,(bQ C d K).2,f) s2 w2:=by
 have hI:eK F X.c d.key K.L C.h.toNat (F.its X.c d.key K.L C.h.toNat++R):=pR hF hh;have sK:eK F X.c d.key K.L C.h.toNat (LT (aX C X V K f G qc n1) (F.its X.c d.key K.L C.h.toNat++R)):=hI.more fun a ha=>by unfold LT;simp only[List.mem_cons];exact .inr (.inr (.inr (.inr ha)))
 have PT:ae o (aw X.c d.ok d.key d.val d.lv nx 0 (zP F.fb) n0 l t y K.an 0 false)=ae o (aw X.c 1 d.key d.val d.lv nx 0 (zP F.fb) n0 l t y K.an 0 false):=by rw[h1]
 rw[PT] at hE;refine MV u _ hE ?_;cases bw:(K.L 0).fd
 ·by_cases h0:K.T.hs=0
  ·by_cases j9:bk K.T.ql K.T.e C.l=0
   ·refine (MR (S:=aX C X V K f G qc n1) (L:=K.L) (h:=C.h.toNat) h0 j9 hI bw hE).mono ?_;rintro e w1 ⟨rfl,ag⟩;have hM:bQ C d K=(1,{ K with err:=7 }):=by unfold bQ;rw[if_neg dC.1,if_neg dC.2,if_pos h1,bw,if_neg (by decide),if_pos h0];unfold qz;rw[if_pos j9]
    rw[hM];exact⟨1,rfl,bG.fin (K':={ K with err:=7 }) (f':=f) (G':=G) rfl (by decide) iH (by dsimp only;rw[bd.2,h1];exact pQ ag)⟩
   ·refine (MS (S:=aX C X V K f G qc n1) (L:=K.L) (h:=C.h.toNat) h0 j9 hI bw hE).mono ?_;rintro e w1 ⟨rfl,c1,c2,a,ag⟩;have hM:bQ C d K=(0,{ K with pc:=2,T:={ K.T with pc:=2,apc:=bk K.T.ql K.T.e C.l,ah:=0,an:=0,ar:=0 } }):=by unfold bQ;rw[if_neg dC.1,if_neg dC.2,if_pos h1,bw,if_neg (by decide),if_pos h0];unfold qz;rw[if_neg j9]
    rw[hM];have ji:bk K.T.ql K.T.e C.l<=10:=by rcases mU K.T.ql K.T.e C.l with h9 | h9 | h9 | h9<;>omega
    have az:=Fy ag;exact⟨0,rfl,bG.on (K':={ K with pc:=2,T:={ K.T with pc:=2,apc:=bk K.T.ql K.T.e C.l,ah:=0,an:=0,ar:=0 } }) (f':=f) (G':=G) (ps':=[_,_,_,_]) rfl iH (.inr (.inl ⟨rfl,c1,c2,(zP F.fb),n0,l,t,y,a,.slice none 0 0,0,[],rfl,by unfold iU;rw[if_pos ji]⟩)) (by dsimp only;rw[h1];dsimp only [si,fh];rw[h1];exact az)⟩
  ·cases fN:lK K.L d.lv.toNat
   ·refine (MU (S:=aX C X V K f G qc n1) (L:=K.L) (h:=C.h.toNat) h0 aH fN hI bw hE).mono ?_;rintro e w1 ⟨rfl,ag⟩;have hM:bQ C d K=(0,{ K with pc:=3,n:=K.T.hs,lv:=0 }):=by unfold bQ;rw[if_neg dC.1,if_neg dC.2,if_pos h1,bw,if_neg (by decide),if_neg h0,fN];rfl
    rw[hM];exact⟨0,rfl,bG.on (K':={ K with pc:=3,n:=K.T.hs,lv:=0 }) (f':=f) (G':=G) (ps':=_::F.its X.c d.key K.L C.h.toNat) rfl iH (.inr (.inr (.inl ⟨.inl rfl,F,t,y,rfl,hF,fun h=>absurd (show (3:Nat)=9 from h) (by decide)⟩))) (by rw[h1] at *;exact ag.perm lQ.symm)⟩
   ·refine (MT (S:=aX C X V K f G qc n1) (L:=K.L) (h:=C.h.toNat) h0 dH bH aH fN hI bw hE).mono ?_;rintro e w1 ⟨rfl,c1,c2,fb,g,ag⟩;have hM:bQ C d K=(0,eu 0 K):=by unfold bQ;rw[if_neg dC.1,if_neg dC.2,if_pos h1,bw,if_neg (by decide),if_neg h0,fN];rfl
    rw[hM];exact⟨0,rfl,bG.find (K':=K) (f':=f) (G':=G) (a:=0) rfl rfl (fun h=>absurd rfl h) (fun h=>absurd h (by decide)) iH (by rw[h1];exact ag)⟩
 ·have hM:bQ C d K=(1,{ K with T:={ K.T with ql:=j1 K.T.hs K.T.ql,hs:=0 } }):=by unfold bQ;rw[if_neg dC.1,if_neg dC.2,if_pos h1,bw];rfl
  rw[hM]
  by_cases h0:K.T.hs=0
  ·refine (MP (S:=aX C X V K f G qc n1) (L:=K.L) (h:=C.h.toNat) h0 hI bw hE).mono ?_;rintro e w1 ⟨rfl,ag⟩;rw[PL h0];exact⟨1,rfl,bG.fin (K':=K) (f':=f) (G':=G) rfl (by decide) iH (by rw[bd.1,bd.2,h1];exact pQ ag)⟩
  ·refine (MQ (S:=aX C X V K f G qc n1) (L:=K.L) (h:=C.h.toNat) h0 (by show K.T.ql.length+1<=1048576;omega) hI bw hE).mono ?_;rintro e w1 ⟨rfl,k',F',ag⟩;unfold j1;rw[if_neg h0];exact⟨1,rfl,bG.lift (F9:=F') (k9:=k') (bG.fin (K':={ K with T:={ K.T with ql:=K.T.ql++[(K.T.hs,0,0)],hs:=0 } }) (f':=f) (G':=G) rfl (by decide) iH (by dsimp only;rw[bd.1,bd.2,h1];exact pQ ag))⟩
end
section
variable {w0 w w':World} {R N:List Item} {C:Cf} {X:Tm} {V:Wm} {d:Dd} {o n n':Nat} {K K':Kt} {f f':Mem} {G G':Nat->Prop} {qc bt:bN}
theorem PU (a:Nat) (ar:Array Value) (v:World):(callFunc (kW a) ar).run prog v=.ok (.enter (kW a) ar) v:=by
 unfold kW
 split
 ·kernel_rfl
 ·split
  ·kernel_rfl
  ·kernel_rfl
theorem Fz (h:Nat) (key:Int) (F:Fm) (f:aI->Int):(bm h key F f).1=0\/((bm h key F f).1=1/\(bm h key F f).2.1.lv=0):=by
 unfold bm
 split
 ·dsimp only
  split
  ·rename_i h1;rw[if_neg (by omega),if_neg (by omega)];exact .inr ⟨rfl,h1.2⟩
  ·exact .inl rfl
 ·exact .inl rfl
theorem PV {b1 b2 fb:Nat} {n0 l t y:Int} {sub:List Item} (ax:K.pc=1) (xj:K.ft≠0->n0=K.n) (eI:K.ft=1->l=(K.lv:Int)) (hS:sG X.c fb C.h.toNat d.key K.on K.fl K.L 0 sub) (hF:tQ C.h.toNat ⟨K.on,K.fl,K.L,K.T.e,K.r⟩) (bd:K.err=0/\K.dn=false) (dC:K.ft=0\/K.ft=1\/K.ft=2)
  (aH:d.ok=1->1<=d.lv/\d.lv<=((C.h.toNat:Nat):Int)) (hl:K.T.ql.length+1<=1000000) (hh:1<=C.h.toNat/\C.h.toNat<=1000) (dH:C.k=3) (bH:C.h=(C.h.toNat:Int)) (hg:bE w0) (hn:n < maxLen)
  (hE:Env w0 (ae o (aw X.c d.ok d.key d.val d.lv (cvP b1 b2) 0 (zP fb) n0 l t y K.an 0 false)::ae b1 [mvL 109 fb]::ae b2 [mvL (kW K.ft) o]::(sub++LT (aX C X V K f G qc n) R)) w) :
  Calls prog 16 #[zP o,.iface 28 (zP V.p)] w fun e w'=>∃ s,e=.returned (zI s)/\bG w0 R C X V d o n qc (aJ C d K f) s w':=by
 have hM:aJ C d K f=if (bm C.h.toNat d.key ⟨K.on,K.fl,K.L,K.T.e,K.r⟩ f).1=1 then ((bQ C d { K with on:=(bm C.h.toNat d.key ⟨K.on,K.fl,K.L,K.T.e,K.r⟩ f).2.1.on,fl:=(bm C.h.toNat d.key ⟨K.on,K.fl,K.L,K.T.e,K.r⟩ f).2.1.lv,L:=(bm C.h.toNat d.key ⟨K.on,K.fl,K.L,K.T.e,K.r⟩ f).2.1.L,r:=(bm C.h.toNat d.key ⟨K.on,K.fl,K.L,K.T.e,K.r⟩ f).2.1.r,T:={ K.T with e:=(bm C.h.toNat d.key ⟨K.on,K.fl,K.L,K.T.e,K.r⟩ f).2.1.e } }).1,(bQ C d { K with on:=(bm C.h.toNat d.key ⟨K.on,K.fl,K.L,K.T.e,K.r⟩ f).2.1.on,fl:=(bm C.h.toNat d.key ⟨K.on,K.fl,K.L,K.T.e,K.r⟩ f).2.1.lv,L:=(bm C.h.toNat d.key ⟨K.on,K.fl,K.L,K.T.e,K.r⟩ f).2.1.L,r:=(bm C.h.toNat d.key ⟨K.on,K.fl,K.L,K.T.e,K.r⟩ f).2.1.r,T:={ K.T with e:=(bm C.h.toNat d.key ⟨K.on,K.fl,K.L,K.T.e,K.r⟩ f).2.1.e } }).2,(bm C.h.toNat d.key ⟨K.on,K.fl,K.L,K.T.e,K.r⟩ f).2.2)
   else (0,{ K with on:=(bm C.h.toNat d.key ⟨K.on,K.fl,K.L,K.T.e,K.r⟩ f).2.1.on,fl:=(bm C.h.toNat d.key ⟨K.on,K.fl,K.L,K.T.e,K.r⟩ f).2.1.lv,L:=(bm C.h.toNat d.key ⟨K.on,K.fl,K.L,K.T.e,K.r⟩ f).2.1.L,r:=(bm C.h.toNat d.key ⟨K.on,K.fl,K.L,K.T.e,K.r⟩ f).2.1.r,T:={ K.T with e:=(bm C.h.toNat d.key ⟨K.on,K.fl,K.L,K.T.e,K.r⟩ f).2.1.e } },(bm C.h.toNat d.key ⟨K.on,K.fl,K.L,K.T.e,K.r⟩ f).2.2):=by
  unfold aJ;rw[if_pos ax]
 rw[hM];refine Ba 109 fb (kW K.ft) (zP o) _ (fun _ _=>by kernel_rfl) (PU K.ft) _ hE ?_;have az:Env w0 (sub++LT (SP C { X with cr:=K.r } V K.T f G qc n) (ae o (aw X.c d.ok d.key d.val d.lv (cvP b1 b2) 0 (zP fb) n0 l t y K.an 0 false)::ae b1 [mvL 109 fb]::ae b2 [mvL (kW K.ft) o]::R)) w:=hE.perm (uw _ _ _ _ _ _);refine (OT hh.1 hh.2 hF hg hn hS az).mono ?_;rintro e w1 ⟨rfl,G',bt,n',sH,jo,gF,l7,dh⟩;have bY:=Fz C.h.toNat d.key ⟨K.on,K.fl,K.L,K.T.e,K.r⟩ f;clear hM hE az hS;generalize bm C.h.toNat d.key ⟨K.on,K.fl,K.L,K.T.e,K.r⟩ f=q at *;obtain⟨q1,F',f'⟩:=q;dsimp only at bY gF l7 dh ⊢;refine⟨q1,rfl,fun h0=>?_,fun h0=>?_⟩
 ·subst h0;rw[if_neg (by decide)];exact bG.on (K':={ K with on:=F'.on,fl:=F'.lv,L:=F'.L,r:=F'.r,T:={ K.T with e:=F'.e } }) (f':=f') (G':=G') (ps':=_::_::_::sH) rfl jo (.inl ⟨ax,b1,b2,fb,n0,l,t,y,sH,rfl,xj,eI,gF⟩) (dh.perm (uw _ _ _ _ _ _).symm)
 ·rcases bY with h | ⟨h,BJ⟩
  ·exact absurd h h0
  subst h;rw[if_pos rfl];obtain⟨g,ps,D,gM,fe,bj⟩:=(l7 rfl).fin BJ;have vP:kX ⟨fb,g,ps,D,gM⟩ C.h.toNat:=fe;have bn:Env w0 (ae o (aw X.c d.ok d.key d.val d.lv (cvP b1 b2) 0 (zP fb) n0 l t y K.an 0 false)::ae b1 [mvL 109 fb]::ae b2 [mvL (kW K.ft) o]::LT (aX C X V { K with on:=F'.on,fl:=F'.lv,L:=F'.L,r:=F'.r,T:={ K.T with e:=F'.e } } f' G' bt n') ((⟨fb,g,ps,D,gM⟩:Fd).its X.c d.key F'.L C.h.toNat++R)) w1:=bj.perm (cm fun z=>by
   simp only[LT,aX,SP,Fd.its,List.cons_append,List.count_append,List.count_cons];omega)
  refine⟨bn.rule 2 rfl 0,?_⟩;have aO:=bn.sub (L':=_::LT _ _) (.cons_cons _ (.cons _ (.cons _ (List.Sublist.refl _))));clear bn bj dh l7 gF hF
  rcases dC with hf | hf | hf
  ·have jA:kW K.ft=81:=by rw[hf];rfl
   rw[jA]
   by_cases h1:d.ok=1
   ·exact PS (K:={ K with on:=F'.on,fl:=F'.lv,L:=F'.L,r:=F'.r,T:={ K.T with e:=F'.e } }) ⟨by show K.ft≠1;omega,by show K.ft≠2;omega⟩ bd h1 (aH h1) hl dH bH vP hh jo _ aO
   ·by_cases h2:d.ok=2
    ·exact PR (K:={ K with on:=F'.on,fl:=F'.lv,L:=F'.L,r:=F'.r,T:={ K.T with e:=F'.e } }) ⟨by show K.ft≠1;omega,by show K.ft≠2;omega⟩ bd h2 vP hh jo _ aO
    ·exact PQ (K:={ K with on:=F'.on,fl:=F'.lv,L:=F'.L,r:=F'.r,T:={ K.T with e:=F'.e } }) ⟨by show K.ft≠1;omega,by show K.ft≠2;omega⟩ bd h1 h2 vP hh jo _ aO
  ·have jA:kW K.ft=221:=by rw[hf];rfl
   rw[jA];obtain rfl:=xj (by omega);obtain rfl:=eI hf;exact PN (n0:=0) (l:=0) (K:={ K with on:=F'.on,fl:=F'.lv,L:=F'.L,r:=F'.r,T:={ K.T with e:=F'.e } }) hf vP hh jo _ aO
  ·have jA:kW K.ft=232:=by rw[hf];rfl
   rw[jA];obtain rfl:=xj (by omega);exact PO (n0:=0) (K:={ K with on:=F'.on,fl:=F'.lv,L:=F'.L,r:=F'.r,T:={ K.T with e:=F'.e } }) hf vP hh jo _ aO
theorem FA (x y z a:Item) (S:ST) (gl R:List Item):(x::y::z::((a::gl)++LT S R)).Perm (a::LT S (gl++(x::y::z::R))):=cm fun t=>by
 simp only[LT,List.cons_append,List.count_append,List.count_cons];omega
theorem PW {b1 b2 a:Nat} {fp left:Value} {n0 l t y s9:Int} {gl:List Item} (ax:K.pc=2) (hk:tZ C K.T n) (hd:aD d.key/\aD d.val) (bd:K.err=0/\K.dn=false) (hh:1<=C.h.toNat/\C.h.toNat<=1000) (dH:C.k=3) (bH:C.h=(C.h.toNat:Int)) (hg:bE w0) (fJ:iU C d K.T left s9 gl)
  (hE:Env w0 (ae o (aw X.c d.ok d.key d.val d.lv (cvP b1 b2) 0 fp n0 l t y K.an 0 false)::ae b1 [mvL 151 a]::ae b2 [pC X.c d.ok d.key d.val d.lv o 5 43 112]::((ae a (si X.c a d K.T left s9)::gl)++LT (aX C X V K f G qc n) R)) w) :
  Calls prog 16 #[zP o,.iface 28 (zP V.p)] w fun e w'=>∃ s,e=.returned (zI s)/\bG w0 R C X V d o n qc (aJ C d K f) s w':=by
 have hM:aJ C d K f=if (aT C d K.T f).1=0 then (0,{ K with T:=(aT C d K.T f).2.1 },(aT C d K.T f).2.2) else if (aT C d K.T f).1=3 then (1,{ K with T:={ (aT C d K.T f).2.1 with pc:=0 },err:=6 },(aT C d K.T f).2.2) else if (aT C d K.T f).1=4 then (1,{ K with T:={ (aT C d K.T f).2.1 with pc:=0 },err:=7 },(aT C d K.T f).2.2) else (0,eu 0 { K with T:={ (aT C d K.T f).2.1 with pc:=0 } },(aT C d K.T f).2.2):=by
  unfold aJ;rw[if_neg (by omega),if_pos ax]
 rw[hM];refine Ba 151 a 150 (ng X.c d.ok d.key d.val d.lv o 5 43 112) _ (fun _ _=>by kernel_rfl) (fun _ _=>by kernel_rfl) _ hE ?_;refine (Mc (C:=C) (X:={ X with cr:=K.r }) (V:=V) (T:=K.T) (d:=d) hg hk hd fJ (hE.perm (FA _ _ _ _ _ _ _))).mono ?_;rintro e w1 ⟨rfl,F',k',G',bt,n',jo,sL⟩;have bY:=AX C d K.T f;generalize aT C d K.T f=q at *;obtain⟨q1,T',f'⟩:=q;dsimp only at bY sL ⊢;refine⟨q1,rfl,fun h0=>?_,fun h0=>?_⟩
 ·subst h0;rw[if_pos rfl]
  rcases sL with ⟨-,xM,s',vz,PX,dh⟩ | ⟨h9,-⟩
  ·exact bG.lift (F9:=F') (k9:=k') (bG.on (K':={ K with T:=T' }) (f':=f') (G':=G') (ps':=_::_::_::_::vz) rfl jo (.inr (.inl ⟨ax,b1,b2,fp,n0,l,t,y,a,xM,s',vz,rfl,PX⟩)) (dh.perm (FA _ _ _ _ _ _ _).symm))
  ·exact absurd rfl h9
 ·rw[if_neg h0]
  rcases sL with ⟨h9,-⟩ | ⟨-,dh⟩
  ·exact absurd h9 h0
  have az:=dh.perm (uw (ae o (aw X.c d.ok d.key d.val d.lv (cvP b1 b2) 0 fp n0 l t y K.an 0 false)) (ae b1 [mvL 151 a]) (ae b2 [pC X.c d.ok d.key d.val d.lv o 5 43 112]) _ [] R).symm;refine⟨az.rule 2 rfl 0,?_⟩;have bM:=az.sub (L':=ae o (aw X.c d.ok d.key d.val d.lv (cvP b1 b2) 0 fp n0 l t y K.an 0 false)::LT (SP C { { X with cr:=K.r } with F:=F',kq:=k' } V T' f' G' bt n') R) (.cons_cons _ (.cons _ (.cons _ (List.Sublist.refl _))));have FB:(LT (SP C { { X with cr:=K.r } with F:=F',kq:=k' } V T' f' G' bt n') R)[0]?=some (dy X.c 3 C.s C.b ((C.h.toNat:Nat):Int) C.l T'.e K.r T'.hs 0 X.q):=by
   rw[<- bH,<- dH];rfl
  rcases bY with h | h | h | h | h
  ·exact absurd h h0
  ·subst h;refine EN 1 (.inl rfl) (fun _ _=>by kernel_rfl) _ bM fun v hv=>(sd (h:=C.h.toNat) 0 hh.2 FB hv).mono ?_;rintro e w2 ⟨rfl,c1,c2,fb,g,bD⟩;exact⟨0,rfl,bG.lift (F9:=F') (k9:=k') (bG.find (N:=[]) (K':={ K with T:={ T' with pc:=0 } }) (f':=f') (G':=G') (a:=0) rfl rfl (fun h=>absurd rfl h) (fun h=>absurd h (by decide)) jo bD)⟩
  ·subst h;refine EN 2 (.inr rfl) (fun _ _=>by kernel_rfl) _ bM fun v hv=>(sd (h:=C.h.toNat) 0 hh.2 FB hv).mono ?_;rintro e w2 ⟨rfl,c1,c2,fb,g,bD⟩;exact⟨0,rfl,bG.lift (F9:=F') (k9:=k') (bG.find (N:=[]) (K':={ K with T:={ T' with pc:=0 } }) (f':=f') (G':=G') (a:=0) rfl rfl (fun h=>absurd rfl h) (fun h=>absurd h (by decide)) jo bD)⟩
  ·subst h;refine A0 3 (.inl rfl) (fun _ _=>by kernel_rfl) _ bM fun v hv=>(qF (3+3) false hv).mono ?_;rintro e w2 ⟨rfl,bD⟩;rw[if_pos rfl];exact⟨1,rfl,bG.lift (F9:=F') (k9:=k') (bG.fin (K':={ K with T:={ T' with pc:=0 },err:=6 }) (f':=f') (G':=G') rfl (by decide) jo (by dsimp only;rw[bd.2];exact bD))⟩
  ·subst h;refine A0 4 (.inr rfl) (fun _ _=>by kernel_rfl) _ bM fun v hv=>(qF (4+3) false hv).mono ?_;rintro e w2 ⟨rfl,bD⟩;rw[if_neg (by decide),if_pos rfl];exact⟨1,rfl,bG.lift (F9:=F') (k9:=k') (bG.fin (K':={ K with T:={ T' with pc:=0 },err:=7 }) (f':=f') (G':=G') rfl (by decide) jo (by dsimp only;rw[bd.2];exact bD))⟩
theorem PY {b1 b2 r:Nat} {fp:Value} {n0 l t y:Int} (ax:K.pc=7) (hl:K.T.ql.length+1<=1000000) (he:aD K.T.re) (hs:In64 K.T.rs) (bd:K.err=0/\K.dn=false) (hn:n < maxLen)
  (hE:Env w0 (ae o (aw X.c d.ok d.key d.val d.lv (cvP b1 b2) 0 fp n0 l t y K.an 0 false)::ae b1 [mvL 241 r]::ae b2 [mvL 231 o]::ae r (dS X.c (j6 r K.T.rpc) K.T.rs K.T.re)::LT (aX C X V K f G qc n) R) w) :
  Calls prog 16 #[zP o,.iface 28 (zP V.p)] w fun e w'=>∃ s,e=.returned (zI s)/\bG w0 R C X V d o n qc (aJ C d K f) s w':=by
 have hM:aJ C d K f=if (cQ K.T f).1=0 then (0,{ K with T:=(cQ K.T f).2.1 },(cQ K.T f).2.2) else (1,{ K with T:={ (cQ K.T f).2.1 with pc:=0 },dn:=true },(cQ K.T f).2.2):=by
  unfold aJ;(iterate 13 rw[if_neg (by omega)]);rw[if_neg (by omega)]
 rw[hM];refine Ba 241 r 231 (zP o) _ (fun _ _=>by kernel_rfl) (fun _ _=>by kernel_rfl) _ hE ?_;have az:Env w0 (ae r (dS X.c (j6 r K.T.rpc) K.T.rs K.T.re)::LT (SP C { X with cr:=K.r } V K.T f G qc n) (ae o (aw X.c d.ok d.key d.val d.lv (cvP b1 b2) 0 fp n0 l t y K.an 0 false)::ae b1 [mvL 241 r]::ae b2 [mvL 231 o]::R)) w:=hE.perm (uw _ _ _ _ [_] _);refine (NW (C:=C) (X:={ X with cr:=K.r }) (V:=V) (T:=K.T) hn hl he hs az).mono ?_;rintro e w1 ⟨rfl,F',k',G',bt,n',jo,sL⟩;have qT:(cQ K.T f).1=0\/(cQ K.T f).1=1:=by
  unfold cQ
  split
  ·exact .inl rfl
  ·exact .inr rfl
 generalize cQ K.T f=q at *;obtain⟨q1,T',f'⟩:=q;dsimp only at qT sL ⊢;refine⟨q1,rfl,fun h0=>?_,fun h0=>?_⟩
 ·subst h0;rw[if_pos rfl]
  rcases sL with ⟨-,dh⟩ | ⟨h9,-⟩
  ·exact bG.lift (F9:=F') (k9:=k') (bG.on (K':={ K with T:=T' }) (f':=f') (G':=G') (ps':=[_,_,_,_]) rfl jo (.inr (.inr (.inr (.inr (.inr (.inr ⟨ax,b1,b2,fp,n0,l,t,y,r,rfl⟩)))))) (dh.perm (uw _ _ _ _ [_] _).symm))
  ·exact absurd rfl h9
 ·rcases qT with h | h
  ·exact absurd h h0
  subst h
  rcases sL with ⟨h9,-⟩ | ⟨-,dh⟩
  ·exact absurd h9 (by decide)
  have bM:=dh.perm (uw (ae o (aw X.c d.ok d.key d.val d.lv (cvP b1 b2) 0 fp n0 l t y K.an 0 false)) (ae b1 [mvL 241 r]) (ae b2 [mvL 231 o]) _ [] R).symm;refine⟨bM.rule 2 rfl 0,?_⟩;have bD:=bM.sub (L':=ae o (aw X.c d.ok d.key d.val d.lv (cvP b1 b2) 0 fp n0 l t y K.an 0 false)::LT (SP C { { X with cr:=K.r } with F:=F',kq:=k' } V T' f' G' bt n') R) (.cons_cons _ (.cons _ (.cons _ (List.Sublist.refl _))));refine (Ek 1 bD).mono ?_;rintro e w2 ⟨rfl,aB⟩;rw[if_neg (by decide)];exact⟨1,rfl,bG.lift (F9:=F') (k9:=k') (bG.fin (K':={ K with T:={ T' with pc:=0 },dn:=true }) (f':=f') (G':=G') rfl (by decide) jo (by dsimp only;rw[bd.1];exact aB))⟩
structure ye (C:Cf) (d:Dd) (K:Kt) (f:Mem) (n:Nat):Prop where
 (da:K.err=0/\K.dn=false)
 (dk:aD d.key/\aD d.val)
 (len:K.T.ql.length+1<=1000000)
 (hn:n < maxLen)
 (hh:1<=C.h.toNat/\C.h.toNat<=1000)
 (ck:C.k=3)
 (ch:C.h=(C.h.toNat:Int))
 (lv1:d.ok=1->1<=d.lv/\d.lv<=((C.h.toNat:Nat):Int))
 (ft:K.pc=1->K.ft=0\/K.ft=1\/K.ft=2)
 (fm:K.pc=1->tQ C.h.toNat ⟨K.on,K.fl,K.L,K.T.e,K.r⟩)
 (row:K.pc=2->tZ C K.T n)
 (re:K.pc=7->aD K.T.re/\In64 K.T.rs)
 (hs:K.pc=4->K.T.hs≠0/\K.lv=0)
 (own:3<=K.pc->K.pc≠7->0<=K.n/\K.n<=8388607)
 (lvl:3<=K.pc->K.pc≠7->K.pc≠10->K.pc≠11->K.pc≠12->K.pc≠16->K.lv < C.h.toNat)
 (sp:3<=K.pc->K.pc<=9->K.pc≠7->aD (K.L K.lv).W/\Wf (K.L K.lv).p)
 (y:12<=K.pc->K.pc<=15->K.pc≠13->aD K.y)
 (unm:K.pc=15->cO K.y=false)
 (fw:∀ x,aD (f x))
theorem ux {a b:Int} (h:0<=a/\a<=8388607) (hb:0<=b/\b<=2000):Wf (5,a,b):=by
 unfold Wf In64;simp;omega
theorem BO {ps:List Item} (h:ye C d K f n) (hg:bE w0) (hM:PM C X.c d K o ps) (hE:Env w0 (ps++LT (aX C X V K f G qc n) R) w) :
  Calls prog 16 #[zP o,.iface 28 (zP V.p)] w fun e w'=>∃ s,e=.returned (zI s)/\bG w0 R C X V d o n qc (aJ C d K f) s w':=by
 have hh:=h.hh
 rcases hM with ⟨ax,b1,b2,fb,n0,l,t,y,sub,rfl,h1,h2,hS⟩ | ⟨ax,b1,b2,fp,n0,l,t,y,a,left,s,gl,rfl,fJ⟩ | ⟨ax,F,t,y,rfl,hF,hy⟩ | ⟨ax,fp,l,t,y,rfl,hl,hy⟩ | ⟨ax,b1,b2,fp,l,y,rfl⟩ | ⟨ax,b1,b2,fp,t,rfl⟩ | ⟨ax,b1,b2,fp,n0,l,t,y,r,rfl⟩
 ·exact PV ax h1 h2 hS (h.fm ax) h.da (h.ft ax) h.lv1 h.len hh h.ck h.ch hg h.hn hE
 ·exact PW ax (h.row ax) h.dk h.da hh h.ck h.ch hg fJ hE
 ·have ho:=h.own (by omega) (by omega);have aH:=h.lvl (by omega) (by omega) (by omega) (by omega) (by omega) (by omega);obtain⟨hW,BP⟩:=h.sp (by omega) (by omega) (by omega);have aZ:Wf (5,K.n,7+(K.lv:Int)):=ux ho (by omega)
  rcases ax with ax | ax | ax | ax | ax
  ·rw[ax] at hE;exact OW ax aZ aH hW hF hh hg h.hn hE
  ·rw[ax] at hE;obtain⟨h3,h4⟩:=h.hs ax;exact OX ax (by omega) h3 (by rw[h4] at BP;exact BP) h.ck h.ch hF hh hg h.hn hE
  ·rw[ax] at hE;exact OY ax aH BP h.ck h.ch hF hh hg h.hn hE
  ·rw[ax] at hE;exact OZ ax aZ aH hW (h.fw _) hF hh hg h.hn hE
  ·rw[ax,hy ax] at hE;exact O0 (y:=0) ax aZ aH hW hF hh hg h.hn hE
 ·have ho:=h.own (by omega) (by omega)
  rcases ax with ax | ax | ax | ax | ax
  ·rw[ax] at hE;exact O1 ax (ux ho (by omega)) h.ck h.ch h.da.1 hh hg h.hn hE
  ·rw[ax] at hE;exact PG ax (ux ho (by omega)) hh hg h.hn hE
  ·have aH:=h.lvl (by omega) (by omega) (by omega) (by omega) (by omega) (by omega);rw[ax,hl (.inl ax)] at hE;exact PH ax (ux ho (by omega)) aH hh hg h.hn hE
  ·have aH:=h.lvl (by omega) (by omega) (by omega) (by omega) (by omega) (by omega);rw[ax,hl (.inr ax),hy ax] at hE;exact PI (y:=0) ax (ux ho (by omega)) aH (h.y (by omega) (by omega) (by omega)) (h.unm ax) hh hg h.hn hE
  ·rw[ax] at hE;exact O2 ax (ux ho (by omega)) h.ck h.ch h.da.1 hh hg h.hn hE
 ·exact PJ ax (h.y (by omega) (by omega) (by omega)) hh h.ck h.ch hg h.hn hE
 ·exact PK ax (h.y (by omega) (by omega) (by omega)) (h.lvl (by omega) (by omega) (by omega) (by omega) (by omega) (by omega)) hh h.ck h.ch hg h.hn hE
 ·obtain⟨h3,h4⟩:=h.re ax;exact PY ax h.len h3 h4 h.da h.hn hE
end
section
variable {C:Cf} {ds:List Dd} {B:Nat} {T:Th} {d:Dd} {K K':Kt} {f f':Mem} {q:Int × Kt × Mem}
theorem PZ (hC:fC C) (aH:d.ok=1->1<=d.lv/\d.lv<=((C.h.toNat:Nat):Int)) (hF:db C f) (hS:di C f) (hT:dM C ds B K.T) (h0:K.T.pc=0) (hn:1<=K.T.nd) (ax:K.pc=1) (bd:(K.err=0/\K.dn=false)) (dU:(∀ l,l < C.h.toNat->iX C l (K.L l)))
  (dC:(K.ft=0/\(K.T.hs≠0->d.ok=1))\/(K.ft=1/\K.T.hs=0/\(1<=K.n/\K.n<=C.s)/\((K.lv:Int) < d.lv/\d.ok=1))\/(K.ft=2/\K.T.hs=0/\(1<=K.n/\K.n<=C.s))):de C ds (B+1) d K ((bQ C d K).1,(bQ C d K).2,f):=by
 have hh:=hC.h;have qU:=hT.more
 rcases dC with ⟨hf,hi⟩ | ⟨hf,bZ,cF,iB,aG⟩ | ⟨hf,bZ,cF⟩
 ·by_cases o1:d.ok=1
  ·cases bw:(K.L 0).fd
   ·by_cases hz:K.T.hs=0
    ·by_cases j9:bk K.T.ql K.T.e C.l=0
     ·have hM:bQ C d K=(1,{ K with err:=7 }):=by unfold bQ;rw[if_neg (by omega),if_neg (by omega),if_pos o1,bw,if_neg (by decide),if_pos hz];unfold qz;rw[if_pos j9]
      rw[hM];exact de.fin (K':={ K with err:=7 }) rfl hF hS rfl qU h0 hz
     ·have hM:bQ C d K=(0,{ K with pc:=2,T:={ K.T with pc:=2,apc:=bk K.T.ql K.T.e C.l,ah:=0,an:=0,ar:=0 } }):=by unfold bQ;rw[if_neg (by omega),if_neg (by omega),if_pos o1,bw,if_neg (by decide),if_pos hz];unfold qz;rw[if_neg j9]
      rw[hM];have ji:bk K.T.ql K.T.e C.l<=10:=by rcases mU K.T.ql K.T.e C.l with h9 | h9 | h9 | h9<;>omega
      exact de.on (K':={ K with pc:=2,T:={ K.T with pc:=2,apc:=bk K.T.ql K.T.e C.l,ah:=0,an:=0,ar:=0 } }) rfl hF hS rfl ⟨(hT.alloc hz hn hC.ok j9).more,rfl,⟨bd,o1⟩,fun _=>.inl ji,fun _=>hn⟩
    ·cases fN:lK K.L d.lv.toNat
     ·have hM:bQ C d K=(0,{ K with pc:=3,n:=K.T.hs,lv:=0 }):=by unfold bQ;rw[if_neg (by omega),if_neg (by omega),if_pos o1,bw,if_neg (by decide),if_neg hz,fN];rfl
      rw[hM];have hd:=aH o1;exact de.on (K':={ K with pc:=3,n:=K.T.hs,lv:=0 }) rfl hF hS rfl (bJ.at0 qU h0 hn ⟨by show (3:Nat)≠2;decide,by show (3:Nat)≠7;decide,by show (3:Nat)≠8;decide⟩ ⟨bd,dU,hz,rfl,by show ((0:Nat):Int) < d.lv;omega,o1⟩)
     ·have hM:bQ C d K=(0,eu 0 K):=by unfold bQ;rw[if_neg (by omega),if_neg (by omega),if_pos o1,bw,if_neg (by decide),if_neg hz,fN];rfl
      rw[hM];exact de.on (K':=eu 0 K) rfl hF hS rfl (bJ.at0 qU h0 hn ⟨by show (1:Nat)≠2;decide,by show (1:Nat)≠7;decide,by show (1:Nat)≠8;decide⟩ ⟨bd,gW.start,.inl ⟨rfl,fun _=>o1⟩⟩)
   ·have hM:bQ C d K=(1,{ K with T:={ K.T with ql:=j1 K.T.hs K.T.ql,hs:=0 } }):=by unfold bQ;rw[if_neg (by omega),if_neg (by omega),if_pos o1,bw];rfl
    rw[hM];exact de.fin (K':={ K with T:={ K.T with ql:=j1 K.T.hs K.T.ql,hs:=0 } }) rfl hF hS rfl (hT.drop h0 hC.ok) h0 rfl
  ·have hz:K.T.hs=0:=Decidable.byContradiction fun h9=>o1 (hi h9)
   by_cases o2:d.ok=2
   ·cases bw:(K.L 0).fd
    ·have hM:bQ C d K=(1,K):=by unfold bQ;rw[if_neg (by omega),if_neg (by omega),if_neg o1,if_pos o2,bw];rfl
     rw[hM];exact de.fin (K':=K) rfl hF hS rfl qU h0 hz
    ·have hM:bQ C d K=(0,{ K with pc:=11,n:=(K.L 0).C }):=by unfold bQ;rw[if_neg (by omega),if_neg (by omega),if_neg o1,if_pos o2,bw];rfl
     rw[hM];have jh:=dU 0 (by omega);exact de.on (K':={ K with pc:=11,n:=(K.L 0).C }) rfl hF hS rfl (bJ.at0 qU h0 hn ⟨by show (11:Nat)≠2;decide,by show (11:Nat)≠7;decide,by show (11:Nat)≠8;decide⟩ ⟨bd,hz,(jh.fd bw).1,jh.cs⟩)
   ·have hM:bQ C d K=(1,{ K with dn:=(K.L 0).fd }):=by unfold bQ;rw[if_neg (by omega),if_neg (by omega),if_neg o1,if_neg o2]
    rw[hM];exact de.fin (K':={ K with dn:=(K.L 0).fd }) rfl hF hS rfl qU h0 hz
 ·have hM:bQ C d K=(0,{ K with an:=true,pc:=if (K.L 0).C=K.n then 6 else 10 }):=by unfold bQ;rw[if_pos hf]
  rw[hM]
  by_cases h1:(K.L 0).C=K.n
  ·rw[if_pos h1];exact de.on (K':={ K with an:=true,pc:=6 }) rfl hF hS rfl (bJ.at0 qU h0 hn ⟨by show (6:Nat)≠2;decide,by show (6:Nat)≠7;decide,by show (6:Nat)≠8;decide⟩ ⟨bd,dU,bZ,cF,iB,aG⟩)
  ·rw[if_neg h1];exact de.on (K':={ K with an:=true,pc:=10 }) rfl hF hS rfl (bJ.at0 qU h0 hn ⟨by show (10:Nat)≠2;decide,by show (10:Nat)≠7;decide,by show (10:Nat)≠8;decide⟩ ⟨bd,bZ,cF⟩)
 ·have hM:bQ C d K=(0,{ K with pc:=7,T:={ K.T with pc:=3,rs:=K.n,rpc:=0,re:=0 } }):=by unfold bQ;rw[if_neg (by omega),if_pos hf]
  rw[hM];exact de.on (K':={ K with pc:=7,T:={ K.T with pc:=3,rs:=K.n,rpc:=0,re:=0 } }) rfl hF hS rfl ⟨(hT.retire hn hC.ok cF.1 cF.2).more,rfl,⟨bd,bZ⟩,fun h9=>absurd (show (7:Nat)=2 from h9) (by decide),fun _=>hn⟩
theorem P0 (hF:db C f) (hC:jy C) {h:Nat} {key e r:Int} {on:Bool} {fl:Nat} {L:Nat->Lm} (he:0<=e/\e<=C.l):0<=(bm h key ⟨on,fl,L,e,r⟩ f).2.1.e/\(bm h key ⟨on,fl,L,e,r⟩ f).2.1.e<=C.l:=by
 have hl:=hC.l;have hu:=hF.u (1,0,0);unfold aD at hu;unfold bm
 split
 ·dsimp only
  split
  ·exact he
  ·split
   ·exact he
   ·exact he
 ·exact O5 hu.1 hF.ep (by omega)
theorem P1 (hC:fC C) (aH:d.ok=1->1<=d.lv/\d.lv<=((C.h.toNat:Nat):Int)) (hF:db C f) (hS:di C f) (h:bJ C ds B d K) (hu:∀ x,aD ((aJ C d K f).2.2 x)) (h1:K.pc=1):de C ds (B+1) d K (aJ C d K f):=by
 have h0:=h.t0 (by omega);have hn:=h.nd (by omega);have hh:=hC.h;have hp:=h.p;unfold eL at hp;rw[h1] at hp;obtain⟨bd,nS,dC⟩:=hp;have hk:=Om (key:=d.key) (e:=K.T.e) (r:=K.r) hh.1 hh.2 nS hF.u hS (by have:=hC.ok.s;omega);have hm:=O7 (key:=d.key) (e:=K.T.e) (r:=K.r) nS (by have:=hC.ok.s;omega) hF hS;have he:=P0 (h:=C.h.toNat) (key:=d.key) (r:=K.r) (on:=K.on) (fl:=K.fl) (L:=K.L) hF hC.ok h.t.e;have bY:=Fz C.h.toNat d.key ⟨K.on,K.fl,K.L,K.T.e,K.r⟩ f;unfold aJ at hu ⊢;rw[if_pos h1] at hu ⊢;dsimp only at hu ⊢;generalize bm C.h.toNat d.key ⟨K.on,K.fl,K.L,K.T.e,K.r⟩ f=q at *;obtain⟨q1,F',f'⟩:=q;dsimp only at hk hm he bY hu ⊢
 rcases bY with rfl | ⟨rfl,-⟩
 ·rw[if_neg (by decide)] at hu ⊢;obtain⟨g1,g2⟩:=hm hu;exact de.on (K':={ K with on:=F'.on,fl:=F'.lv,L:=F'.L,r:=F'.r,T:={ K.T with e:=F'.e } }) rfl g1 g2 rfl (bJ.at0 (h.t.epoch h0 he).more h0 hn ⟨by show K.pc≠2;omega,by show K.pc≠7;omega,by show K.pc≠8;omega⟩ (by
   unfold eL;dsimp only;rw[h1];exact⟨bd,hk.1 rfl,dC⟩))
 ·rw[if_pos rfl] at hu ⊢;obtain⟨g1,g2⟩:=hm hu;have hb:=PZ (K:={ K with on:=F'.on,fl:=F'.lv,L:=F'.L,r:=F'.r,T:={ K.T with e:=F'.e } }) hC aH g1 g2 (h.t.epoch h0 he) h0 hn h1 bd (hk.2 rfl) dC;exact⟨hb.f,hb.l,hb.nd,hb.k⟩
theorem P2 (hC:fC C) (aH:d.ok=1->1<=d.lv/\d.lv<=((C.h.toNat:Nat):Int)) (hF:db C f) (hS:di C f) (h:bJ C ds B d K) (hu:∀ x,aD ((aJ C d K f).2.2 x)) (h1:K.pc=2):de C ds (B+1) d K (aJ C d K f):=by
 have h2:K.T.pc=2:=by have:=h.tp;rw[if_pos h1] at this;exact this
 have hn:=h.nd (by omega);have hp:=h.p;unfold eL at hp;rw[h1] at hp;obtain⟨bd,hi⟩:=hp;have pP:=Fs C d K.T f h2;have hA:=OP (d:=d) hC.ok hF h.t h2;have lL:=Pb (f:=f) (h.kk h1);have bZ:=Pc (C:=C) (d:=d) (f:=f) (h.t.low h2);have hl:=O8 (d:=d) (T:=K.T) hS;have kp:=ud C d K.T f;have st:=AX C d K.T f;rw[pP] at hA;unfold aJ at hu ⊢;rw[if_neg (by omega),if_pos h1] at hu ⊢;generalize aT C d K.T f=q at *;dsimp only at hu hA ⊢;have pO:0<=q.2.1.done/\q.2.1.done<=((B+1:Nat):Int):=by
  have:=h.t.done;rw[kp.2.2.2.2.2.2.2.2.2.1];omega
 have aG:(∀ x,aD (q.2.2 x))->dM C ds (B+1) { q.2.1 with pc:=0 }:=fun h9=>(hA h9).2.idle pO
 rcases st with s | s | s | s | s
 ·rw[if_pos s] at hu ⊢;have ha:=hA hu;have hT:dM C ds (B+1) q.2.1:=by
   have h9:=ha.2;rw[s] at h9;exact h9.same (by show 2=q.2.1.pc;rw[kp.2.2.1];exact h2.symm) rfl pO
  refine⟨ha.1,hl,kp.2.1,?_⟩;show bJ C ds (B+1) d { K with T:=q.2.1 };exact⟨hT,(by show q.2.1.pc=if K.pc=2 then 2 else _;rw[if_pos h1,kp.2.2.1];exact h2),(by unfold eL;dsimp only;rw[h1];exact⟨bd,hi⟩),fun _=>lL s,fun _=>by show 1<=q.2.1.nd;rw[kp.2.1];exact hn⟩
 ·rw[if_neg (by omega),if_neg (by omega),if_neg (by omega)] at hu ⊢;exact de.on (K':=eu 0 { K with T:={ q.2.1 with pc:=0 } }) rfl (hA hu).1 hl kp.2.1 (bJ.at0 (aG hu) rfl (by show 1<=q.2.1.nd;rw[kp.2.1];exact hn) ⟨by show (1:Nat)≠2;decide,by show (1:Nat)≠7;decide,by show (1:Nat)≠8;decide⟩ ⟨bd,gW.start,.inl ⟨rfl,fun _=>hi⟩⟩)
 ·rw[if_neg (by omega),if_neg (by omega),if_neg (by omega)] at hu ⊢;exact de.on (K':=eu 0 { K with T:={ q.2.1 with pc:=0 } }) rfl (hA hu).1 hl kp.2.1 (bJ.at0 (aG hu) rfl (by show 1<=q.2.1.nd;rw[kp.2.1];exact hn) ⟨by show (1:Nat)≠2;decide,by show (1:Nat)≠7;decide,by show (1:Nat)≠8;decide⟩ ⟨bd,gW.start,.inl ⟨rfl,fun _=>hi⟩⟩)
 ·rw[if_neg (by omega),if_pos s] at hu ⊢;exact de.fin rfl (hA hu).1 hl kp.2.1 (aG hu) rfl (bZ (.inl s))
 ·rw[if_neg (by omega),if_neg (by omega),if_pos s] at hu ⊢;exact de.fin rfl (hA hu).1 hl kp.2.1 (aG hu) rfl (bZ (.inr (.inl s)))
theorem P3 (hC:fC C) (aH:d.ok=1->1<=d.lv/\d.lv<=((C.h.toNat:Nat):Int)) (hF:db C f) (hS:di C f) (h:bJ C ds B d K) (hu:∀ x,aD ((aJ C d K f).2.2 x)) (h1:K.pc=7):de C ds (B+1) d K (aJ C d K f):=by
 have h3:K.T.pc=3:=by have:=h.tp;rw[if_neg (by omega),if_pos h1] at this;exact this
 have hn:=h.nd (by omega);have hp:=h.p;unfold eL at hp;rw[h1] at hp;obtain⟨bd,hh⟩:=hp;have hA:=OQ (d:=d) hC.ok hF h.t h3;have pP:je C d K.T f=({ (cQ K.T f).2.1 with pc:=if (cQ K.T f).1=0 then 3 else 0,full:=false },(cQ K.T f).2.2):=by
  unfold je;rw[if_neg (by omega),if_neg (by omega),if_pos h3]
 have hl:=O9 (T:=K.T) hS;have kp:=BL (T:=K.T) (f:=f);rw[pP] at hA;unfold aJ at hu ⊢;(iterate 13 rw[if_neg (by omega)] at hu ⊢);rw[if_neg (by omega)] at hu ⊢;generalize cQ K.T f=q at *;dsimp only at hu hA ⊢;have pO:0<=q.2.1.done/\q.2.1.done<=((B+1:Nat):Int):=by
  have:=h.t.done;rw[kp.2.2.1];omega
 rcases kp.2.2.2.2.2 with s | s
 ·rw[if_pos s] at hu ⊢;have ha:=hA hu;have hT:dM C ds (B+1) q.2.1:=by
   have h9:=ha.2;rw[s] at h9;exact h9.same (by show 3=q.2.1.pc;rw[kp.2.2.2.2.1];exact h3.symm) rfl pO
  refine⟨ha.1,hl,kp.2.1,?_⟩;show bJ C ds (B+1) d { K with T:=q.2.1 };exact⟨hT,(by show q.2.1.pc=if K.pc=2 then 2 else if K.pc=7 then 3 else _;rw[if_neg (by omega),if_pos h1,kp.2.2.2.2.1];exact h3),(by unfold eL;dsimp only;rw[h1];exact⟨bd,kp.1.trans hh⟩),fun h9=>absurd (h1.symm.trans h9) (by decide),fun _=>by show 1<=q.2.1.nd;rw[kp.2.1];exact hn⟩
 ·rw[if_neg (by omega)] at hu ⊢;exact de.fin rfl (hA hu).1 hl kp.2.1 ((hA hu).2.idle pO) rfl (kp.1.trans hh)
theorem P4 (hC:fC C) (hF:db C f) (hS:di C f) (h:bJ C ds B d K) (h1:K.pc=8) (hu:∀ x,aD ((fM C d K f).2.2 x)):db C (fM C d K f).2.2/\di C (fM C d K f).2.2/\(fM C d K f).2.1.T.nd=K.T.nd/\bJ C ds (B+1) d (fM C d K f).2.1:=by
 have h4:K.T.pc=4:=by have:=h.tp;rw[if_neg (by omega),if_neg (by omega),if_pos h1] at this;exact this
 have hn:=h.nd (by omega);have hh:K.T.hs=0:=by
  have hp:=h.p;unfold eL at hp;rw[h1] at hp;exact hp
 have hA:=OS (d:=d) hC.ok hF h.t h4;have pP:je C d K.T f=({ (cK C K.T f).2.1 with pc:=if (cK C K.T f).1=0 then 4 else 0,full:=false },(cK C K.T f).2.2):=by
  unfold je;rw[if_neg (by omega),if_neg (by omega),if_neg (by omega)]
 have hl:=Pa (C:=C) (T:=K.T) hS;have kp:=vN (C:=C) (T:=K.T) (f:=f);rw[pP] at hA;unfold fM at hu ⊢;rw[if_pos h1] at hu ⊢;generalize cK C K.T f=q at *;dsimp only at hu hA ⊢;have pO:0<=q.2.1.done/\q.2.1.done<=((B+1:Nat):Int):=by
  have:=h.t.done;rw[kp.2.2.1];omega
 by_cases s:q.1=0
 ·rw[if_pos s] at hu ⊢;have ha:=hA hu;have hT:dM C ds (B+1) q.2.1:=by
   have h9:=ha.2;rw[if_pos s] at h9;exact h9.same (by show 4=q.2.1.pc;rw[kp.2.2.2.2];exact h4.symm) rfl pO
  refine⟨ha.1,hl,kp.2.1,?_⟩;exact⟨hT,(by show q.2.1.pc=if K.pc=2 then 2 else if K.pc=7 then 3 else if K.pc=8 then 4 else 0;rw[if_neg (by omega),if_neg (by omega),if_pos h1,kp.2.2.2.2];exact h4),(by unfold eL;dsimp only;rw[h1];exact kp.1.trans hh),fun h9=>absurd (h1.symm.trans h9) (by decide),fun _=>by show 1<=q.2.1.nd;rw[kp.2.1];exact hn⟩
 ·rw[if_neg s] at hu ⊢;have ha:=hA hu;have hT:=ha.2;rw[if_neg s] at hT;exact⟨ha.1,hl,kp.2.1,⟨hT.idle pO,rfl,kp.1.trans hh,fun h9=>absurd (show (0:Nat)=2 from h9) (by decide),fun h9=>absurd rfl h9⟩⟩
theorem FC (hC:fC C) (aH:d.ok=1->1<=d.lv/\d.lv<=((C.h.toNat:Nat):Int)) (hF:db C f) (hS:di C f) (h:bJ C ds B d K) (hu:∀ x,aD ((aJ C d K f).2.2 x)) (h1:1<=K.pc) (h8:K.pc≠8):de C ds (B+1) d K (aJ C d K f):=by
 have ax:K.pc<=16:=by
  have hp:=h.p;unfold eL at hp
  split at hp<;>first | omega | exact absurd hp (by simp)
 rcases (show K.pc=1\/K.pc=2\/K.pc=3\/K.pc=4\/K.pc=5\/K.pc=6\/K.pc=7\/K.pc=9\/K.pc=10\/K.pc=11\/K.pc=12\/K.pc=13\/K.pc=14\/K.pc=15\/K.pc=16 by omega) with h9 | h9 | h9 | h9 | h9 | h9 | h9 | h9 | h9 | h9 | h9 | h9 | h9 | h9 | h9
 ·exact P1 hC aH hF hS h hu h9
 ·exact P2 hC aH hF hS h hu h9
 ·exact Pe hC aH hF hS h hu h9
 ·exact Pf hC aH hF hS h hu h9
 ·exact Pg hC aH hF hS h hu h9
 ·exact Ph hC aH hF hS h hu h9
 ·exact P3 hC aH hF hS h hu h9
 ·exact Pj hC aH hF hS h hu h9
 ·exact Pm hC aH hF hS h hu h9
 ·exact Po hC aH hF hS h hu h9
 ·exact Pp hC aH hF hS h hu h9
 ·exact Pq hC aH hF hS h hu h9
 ·exact Pr hC aH hF hS h hu h9
 ·exact Pt hC aH hF hS h hu h9
 ·exact Pn hC aH hF hS h hu h9
theorem FD (hC:fC C) (aH:d.ok=1->1<=d.lv/\d.lv<=((C.h.toNat:Nat):Int)) (hF:db C f) (hS:di C f) (h:bJ C ds B d K) (h1:1<=K.pc) (hu:∀ x,aD ((fM C d K f).2.2 x)):db C (fM C d K f).2.2/\di C (fM C d K f).2.2/\(fM C d K f).2.1.T.nd=K.T.nd/\bJ C ds (B+1) d (fM C d K f).2.1:=by
 by_cases h8:K.pc=8
 ·exact P4 hC hF hS h h8 hu
 ·have hA:fM C d K f=((aJ C d K f).1,{ (aJ C d K f).2.1 with pc:=if (aJ C d K f).1=0 then (aJ C d K f).2.1.pc else 0 },(aJ C d K f).2.2):=by unfold fM;rw[if_neg h8]
  rw[hA] at hu ⊢;have hk:=FC hC aH hF hS h hu h1 h8;exact⟨hk.f,hk.l,hk.nd,hk.k⟩
end
section
variable {C:Cf} {ds:List Dd} {B n:Nat} {T:Th} {d:Dd} {K K':Kt} {f f':Mem}
theorem dM.row (hC:jy C) (hT:dM C ds B T) (hB:B+1<=1000000) (hn:n < maxLen) (hp:T.pc=2):tZ C T n:=by
 have hl:=hC.l;have hs:=hC.s;refine⟨by have:=hT.e;constructor<;>omega,hn,by have:=hT.len;omega,by constructor<;>omega,hT.w,hT.apc hp,fun h=>⟨hT.low hp (by omega),?_⟩,by have:=hT.hs;unfold In64;constructor<;>omega⟩
 rcases hq:T.ql with _ | ⟨⟨x,y,z⟩,t⟩
 ·exact absurd hq (hT.born hp h)
 ·have:=hT.ql (x,y,z) (by rw[hq];simp);obtain⟨h1,h2,rfl⟩:=this;exact⟨x,y,t,rfl,h1,h2⟩
theorem bJ.more (h:bJ C ds B d K):bJ C ds (B+1) d K:={ h with t:=h.t.more }
theorem bJ.h00 (h:bJ C ds B d K) (h0:K.pc=0):K.T.hs=0:=by
 have hp:=h.p;unfold eL at hp;rw[h0] at hp;exact hp
theorem bJ.any {d2:Dd} (h:bJ C ds B d K) (h0:K.pc=0):bJ C ds B d2 K :=
 ⟨h.t,h.tp,by unfold eL;rw[h0];exact h.h00 h0,fun h9=>absurd h9 (by omega),h.nd⟩
def eU (ds:List Dd) (K:Kt):Dd:=ds.getD (K.T.nd - 1) ⟨0,0,0,0,0⟩
theorem BQ (hC:fC C) (h:bJ C ds B d K) (h0:K.pc=0) (aE:K.T.nd < ds.length) (d2:Dd):bJ C ds B d2 (eG d2 K)/\1<=(eG d2 K).pc/\(eG d2 K).T.nd=K.T.nd+1:=by
 have hh:=h.h00 h0;have ht:=h.t0 (by omega);unfold eG
 by_cases h8:d2.ok=8
 ·rw[if_pos h8];exact⟨⟨h.t.begin4 aE hC.ok,rfl,hh,fun h9=>absurd (show (8:Nat)=2 from h9) (by decide),fun _=>Nat.le_add_left 1 K.T.nd⟩,by show 1<=8;decide,rfl⟩
 ·rw[if_neg h8];exact⟨bJ.at0 (h.t.begin0 aE) ht (Nat.le_add_left 1 K.T.nd) ⟨by show (1:Nat)≠2;decide,by show (1:Nat)≠7;decide,by show (1:Nat)≠8;decide⟩ ⟨⟨rfl,rfl⟩,gW.start,.inl ⟨rfl,fun h9=>absurd hh h9⟩⟩,Nat.le_refl 1,rfl⟩
theorem P6 (hC:fC C) (hD:(∀ i,(ds.getD i ⟨0,0,0,0,0⟩).ok=1->1<=(ds.getD i ⟨0,0,0,0,0⟩).lv/\(ds.getD i ⟨0,0,0,0,0⟩).lv<=((C.h.toNat:Nat):Int))) (hF:db C f) (hS:di C f) (h:bJ C ds B (eU ds K) K) (hu:∀ x,aD ((iR C ds K f).2.2 x)):db C (iR C ds K f).2.2/\di C (iR C ds K f).2.2/\bJ C ds (B+1) (eU ds (iR C ds K f).2.1) (iR C ds K f).2.1:=by
 unfold iR at hu ⊢
 by_cases h0:K.pc=0
 ·rw[if_pos h0] at hu ⊢
  by_cases aE:K.T.nd < ds.length
  ·rw[if_pos aE] at hu ⊢;have hb:=BQ hC h h0 aE (ds.getD K.T.nd ⟨0,0,0,0,0⟩);have hk:=FD hC (hD _) hF hS hb.1 hb.2.1 hu;refine⟨hk.1,hk.2.1,?_⟩;have hd:eU ds (fM C (ds.getD K.T.nd ⟨0,0,0,0,0⟩) (eG (ds.getD K.T.nd ⟨0,0,0,0,0⟩) K) f).2.1=ds.getD K.T.nd ⟨0,0,0,0,0⟩:=by
    unfold eU;rw[hk.2.2.1,hb.2.2];rfl
   rw[hd];exact hk.2.2.2
  ·rw[if_neg aE] at hu ⊢;exact⟨hF,hS,h.more⟩
 ·rw[if_neg h0] at hu ⊢;have hk:=FD hC (hD _) hF hS h (by omega) hu;refine⟨hk.1,hk.2.1,?_⟩;have hd:eU ds (fM C (ds.getD (K.T.nd - 1) ⟨0,0,0,0,0⟩) K f).2.1=eU ds K:=by
   unfold eU;have:=hk.2.2.1;unfold eU at this;rw[this]
  rw[hd];exact hk.2.2.2
theorem bJ.kc (hC:fC C) (hk:C.k=3) (bH:C.h=(C.h.toNat:Int)) (aH:d.ok=1->1<=d.lv/\d.lv<=((C.h.toNat:Nat):Int)) (hF:db C f) (h:bJ C ds B d K) (h1:1<=K.pc) (h8:K.pc≠8) (hd:aD d.key/\aD d.val) (hB:B+1<=1000000) (hn:n < maxLen):ye C d K f n:=by
 have hh:=hC.h;have mz:=hC.s;have Fu:=h.t.hs;have hlen:K.T.ql.length+1<=1000000:=by have:=h.t.len;omega
 have hp:=h.p;have ax:K.pc<=16:=by
  unfold eL at hp
  split at hp<;>first | omega | exact absurd hp (by simp)
 unfold eL at hp
 rcases (show K.pc=1\/K.pc=2\/K.pc=3\/K.pc=4\/K.pc=5\/K.pc=6\/K.pc=7\/K.pc=9\/K.pc=10\/K.pc=11\/K.pc=12\/K.pc=13\/K.pc=14\/K.pc=15\/K.pc=16 by omega) with e | e | e | e | e | e | e | e | e | e | e | e | e | e | e
 ·rw[e] at hp;obtain⟨bd,nS,dC⟩:=hp;exact { da:=bd,dk:=hd,len:=hlen,hn:=hn,hh:=hh,ck:=hk,ch:=bH,lv1:=aH,ft:=fun _=>dC.elim (fun h9=>.inl h9.1) (fun h9=>h9.elim (fun h9=>.inr (.inl h9.1)) (fun h9=>.inr (.inr h9.1))),fm:=fun _=>nS.fm,row:=fun h9=>absurd h9 (by omega),re:=fun h9=>absurd h9 (by omega),hs:=fun h9=>absurd h9 (by omega),own:=fun h9 _=>absurd h9 (by omega),lvl:=fun h9 _ _ _ _ _=>absurd h9 (by omega),sp:=fun h9 _ _=>absurd h9 (by omega),y:=fun h9 _ _=>absurd h9 (by omega),unm:=fun h9=>absurd h9 (by omega),fw:=hF.u }
 ·rw[e] at hp;obtain⟨bd,hi⟩:=hp;exact { da:=bd,dk:=hd,len:=hlen,hn:=hn,hh:=hh,ck:=hk,ch:=bH,lv1:=aH,ft:=fun h9=>absurd h9 (by omega),fm:=fun h9=>absurd h9 (by omega),row:=fun _=>dM.row hC.ok h.t hB hn (by have:=h.tp;rw[if_pos e] at this;exact this),re:=fun h9=>absurd h9 (by omega),hs:=fun h9=>absurd h9 (by omega),own:=fun h9 _=>absurd h9 (by omega),lvl:=fun h9 _ _ _ _ _=>absurd h9 (by omega),sp:=fun h9 _ _=>absurd h9 (by omega),y:=fun h9 _ _=>absurd h9 (by omega),unm:=fun h9=>absurd h9 (by omega),fw:=hF.u }
 ·rw[e] at hp;obtain⟨bd,dU,bZ,mq,iB,aG⟩:=hp;exact { da:=bd,dk:=hd,len:=hlen,hn:=hn,hh:=hh,ck:=hk,ch:=bH,lv1:=aH,ft:=fun h9=>absurd h9 (by omega),fm:=fun h9=>absurd h9 (by omega),row:=fun h9=>absurd h9 (by omega),re:=fun h9=>absurd h9 (by omega),hs:=fun h9=>absurd h9 (by omega),own:=fun _ _=>by omega,lvl:=fun _ _ _ _ _ _=>by have:=aH aG;omega,sp:=fun _ _ _=>have bf:=dU K.lv (by have:=aH aG;omega);⟨bf.W,bf.wf⟩,y:=fun h9 _ _=>absurd h9 (by omega),unm:=fun h9=>absurd h9 (by omega),fw:=hF.u }
 ·rw[e] at hp;obtain⟨bd,dU,bZ,mq,eI,aG⟩:=hp;exact { da:=bd,dk:=hd,len:=hlen,hn:=hn,hh:=hh,ck:=hk,ch:=bH,lv1:=aH,ft:=fun h9=>absurd h9 (by omega),fm:=fun h9=>absurd h9 (by omega),row:=fun h9=>absurd h9 (by omega),re:=fun h9=>absurd h9 (by omega),hs:=fun _=>⟨bZ,eI⟩,own:=fun _ _=>by omega,lvl:=fun _ _ _ _ _ _=>by omega,sp:=fun _ _ _=>have bf:=dU K.lv (by have:=aH aG;omega);⟨bf.W,bf.wf⟩,y:=fun h9 _ _=>absurd h9 (by omega),unm:=fun h9=>absurd h9 (by omega),fw:=hF.u }
 ·rw[e] at hp;obtain⟨bd,dU,bZ,cF,iB,aG⟩:=hp;exact { da:=bd,dk:=hd,len:=hlen,hn:=hn,hh:=hh,ck:=hk,ch:=bH,lv1:=aH,ft:=fun h9=>absurd h9 (by omega),fm:=fun h9=>absurd h9 (by omega),row:=fun h9=>absurd h9 (by omega),re:=fun h9=>absurd h9 (by omega),hs:=fun h9=>absurd h9 (by omega),own:=fun _ _=>by omega,lvl:=fun _ _ _ _ _ _=>by have:=aH aG;omega,sp:=fun _ _ _=>have bf:=dU K.lv (by have:=aH aG;omega);⟨bf.W,bf.wf⟩,y:=fun h9 _ _=>absurd h9 (by omega),unm:=fun h9=>absurd h9 (by omega),fw:=hF.u }
 ·rw[e] at hp;obtain⟨bd,dU,bZ,cF,iB,aG⟩:=hp;exact { da:=bd,dk:=hd,len:=hlen,hn:=hn,hh:=hh,ck:=hk,ch:=bH,lv1:=aH,ft:=fun h9=>absurd h9 (by omega),fm:=fun h9=>absurd h9 (by omega),row:=fun h9=>absurd h9 (by omega),re:=fun h9=>absurd h9 (by omega),hs:=fun h9=>absurd h9 (by omega),own:=fun _ _=>by omega,lvl:=fun _ _ _ _ _ _=>by have:=aH aG;omega,sp:=fun _ _ _=>have bf:=dU K.lv (by have:=aH aG;omega);⟨bf.W,bf.wf⟩,y:=fun h9 _ _=>absurd h9 (by omega),unm:=fun h9=>absurd h9 (by omega),fw:=hF.u }
 ·rw[e] at hp;obtain⟨bd,bZ⟩:=hp;exact { da:=bd,dk:=hd,len:=hlen,hn:=hn,hh:=hh,ck:=hk,ch:=bH,lv1:=aH,ft:=fun h9=>absurd h9 (by omega),fm:=fun h9=>absurd h9 (by omega),row:=fun h9=>absurd h9 (by omega),re:=fun _=>⟨by have:=h.t.re;have:=hC.ok.l;unfold aD;omega,by have:=h.t.rs;unfold In64;omega⟩,hs:=fun h9=>absurd h9 (by omega),own:=fun _ h9=>absurd e h9,lvl:=fun _ h9 _ _ _ _=>absurd e h9,sp:=fun _ _ h9=>absurd e h9,y:=fun h9 _ _=>absurd h9 (by omega),unm:=fun h9=>absurd h9 (by omega),fw:=hF.u }
 ·rw[e] at hp;obtain⟨bd,dU,bZ,cF,iB,aG⟩:=hp;exact { da:=bd,dk:=hd,len:=hlen,hn:=hn,hh:=hh,ck:=hk,ch:=bH,lv1:=aH,ft:=fun h9=>absurd h9 (by omega),fm:=fun h9=>absurd h9 (by omega),row:=fun h9=>absurd h9 (by omega),re:=fun h9=>absurd h9 (by omega),hs:=fun h9=>absurd h9 (by omega),own:=fun _ _=>by omega,lvl:=fun _ _ _ _ _ _=>by have:=aH aG;omega,sp:=fun _ _ _=>have bf:=dU K.lv (by have:=aH aG;omega);⟨bf.W,bf.wf⟩,y:=fun h9 _ _=>absurd h9 (by omega),unm:=fun h9=>absurd h9 (by omega),fw:=hF.u }
 ·rw[e] at hp;obtain⟨bd,bZ,cF⟩:=hp;exact { da:=bd,dk:=hd,len:=hlen,hn:=hn,hh:=hh,ck:=hk,ch:=bH,lv1:=aH,ft:=fun h9=>absurd h9 (by omega),fm:=fun h9=>absurd h9 (by omega),row:=fun h9=>absurd h9 (by omega),re:=fun h9=>absurd h9 (by omega),hs:=fun h9=>absurd h9 (by omega),own:=fun _ _=>by omega,lvl:=fun _ _ h9=>absurd e h9,sp:=fun _ h9=>absurd h9 (by omega),y:=fun h9 _ _=>absurd h9 (by omega),unm:=fun h9=>absurd h9 (by omega),fw:=hF.u }
 ·rw[e] at hp;obtain⟨bd,bZ,cF⟩:=hp;exact { da:=bd,dk:=hd,len:=hlen,hn:=hn,hh:=hh,ck:=hk,ch:=bH,lv1:=aH,ft:=fun h9=>absurd h9 (by omega),fm:=fun h9=>absurd h9 (by omega),row:=fun h9=>absurd h9 (by omega),re:=fun h9=>absurd h9 (by omega),hs:=fun h9=>absurd h9 (by omega),own:=fun _ _=>by omega,lvl:=fun _ _ _ h9=>absurd e h9,sp:=fun _ h9=>absurd h9 (by omega),y:=fun h9 _ _=>absurd h9 (by omega),unm:=fun h9=>absurd h9 (by omega),fw:=hF.u }
 ·rw[e] at hp;obtain⟨bd,bZ,cF,hy⟩:=hp;exact { da:=bd,dk:=hd,len:=hlen,hn:=hn,hh:=hh,ck:=hk,ch:=bH,lv1:=aH,ft:=fun h9=>absurd h9 (by omega),fm:=fun h9=>absurd h9 (by omega),row:=fun h9=>absurd h9 (by omega),re:=fun h9=>absurd h9 (by omega),hs:=fun h9=>absurd h9 (by omega),own:=fun _ _=>by omega,lvl:=fun _ _ _ _ h9=>absurd e h9,sp:=fun _ h9=>absurd h9 (by omega),y:=fun _ _ _=>hy,unm:=fun h9=>absurd h9 (by omega),fw:=hF.u }
 ·rw[e] at hp;obtain⟨bd,bZ,cF,hl⟩:=hp;exact { da:=bd,dk:=hd,len:=hlen,hn:=hn,hh:=hh,ck:=hk,ch:=bH,lv1:=aH,ft:=fun h9=>absurd h9 (by omega),fm:=fun h9=>absurd h9 (by omega),row:=fun h9=>absurd h9 (by omega),re:=fun h9=>absurd h9 (by omega),hs:=fun h9=>absurd h9 (by omega),own:=fun _ _=>by omega,lvl:=fun _ _ _ _ _ _=>hl,sp:=fun _ h9=>absurd h9 (by omega),y:=fun _ _ h9=>absurd e h9,unm:=fun h9=>absurd h9 (by omega),fw:=hF.u }
 ·rw[e] at hp;obtain⟨bd,bZ,cF,hl,hy,sI⟩:=hp;exact { da:=bd,dk:=hd,len:=hlen,hn:=hn,hh:=hh,ck:=hk,ch:=bH,lv1:=aH,ft:=fun h9=>absurd h9 (by omega),fm:=fun h9=>absurd h9 (by omega),row:=fun h9=>absurd h9 (by omega),re:=fun h9=>absurd h9 (by omega),hs:=fun h9=>absurd h9 (by omega),own:=fun _ _=>by omega,lvl:=fun _ _ _ _ _ _=>hl,sp:=fun _ h9=>absurd h9 (by omega),y:=fun _ _ _=>hy,unm:=fun h9=>absurd h9 (by omega),fw:=hF.u }
 ·rw[e] at hp;obtain⟨bd,bZ,cF,hl,hy,sI,bA⟩:=hp;exact { da:=bd,dk:=hd,len:=hlen,hn:=hn,hh:=hh,ck:=hk,ch:=bH,lv1:=aH,ft:=fun h9=>absurd h9 (by omega),fm:=fun h9=>absurd h9 (by omega),row:=fun h9=>absurd h9 (by omega),re:=fun h9=>absurd h9 (by omega),hs:=fun h9=>absurd h9 (by omega),own:=fun _ _=>by omega,lvl:=fun _ _ _ _ _ _=>hl,sp:=fun _ h9=>absurd h9 (by omega),y:=fun _ _ _=>hy,unm:=fun _=>bA,fw:=hF.u }
 ·rw[e] at hp;obtain⟨bd,bZ,cF⟩:=hp;exact { da:=bd,dk:=hd,len:=hlen,hn:=hn,hh:=hh,ck:=hk,ch:=bH,lv1:=aH,ft:=fun h9=>absurd h9 (by omega),fm:=fun h9=>absurd h9 (by omega),row:=fun h9=>absurd h9 (by omega),re:=fun h9=>absurd h9 (by omega),hs:=fun h9=>absurd h9 (by omega),own:=fun _ _=>by omega,lvl:=fun _ _ _ _ _ h9=>absurd e h9,sp:=fun _ h9=>absurd h9 (by omega),y:=fun _ h9 _=>absurd h9 (by omega),unm:=fun h9=>absurd h9 (by omega),fw:=hF.u }
end
section
variable {w0 w:World} {R rs:List Item} {C:Cf} {X:Tm} {V:Wm} {K:Kt} {ds:List Dd} {B:Nat} {d:Dd} {q nn:Nat} {FU:Nat->Prop} {ml:List bT} {n l y:Int} {an:Bool} {pf pa pr:Option Addr}
theorem P8 (hC:fC C) (h16:C.h.toNat<=16) (bH:C.h=(C.h.toNat:Int)) (aG:d.ok=1\/d.ok=2\/d.ok=3) (hd:d.ok=1->1<=d.lv/\d.lv<=(C.h.toNat:Int)) (hF:db C (ak ml)) (h:bJ C ds B d K) (hB:B+1<=1000000) (yf:nn < maxLen) (aQ:ml.length<=999999) (hN:0<=X.N/\X.N<=4000000) (hM:dY C d K q rs) (hE:Env w0 (rs++LU (aW C X V K FU ml) R) w) :
  Calls prog 27 #[zP q,zP X.u,zP V.m] w fun e w'=>∃ s,e=.returned (zI s)/\bX w0 R C X V d q ml (aJ C d K (ak ml)) s w':=by
 have hl:=hC.ok.l;have hs:=hC.s;have BR:=hC.h;have bU:K.T.ql.length+1<=1000000:=by have:=h.t.len;omega
 have he:0<=K.T.e/\K.T.e<=9223372036854775807:=by have:=h.t.e;constructor<;>omega
 have hp:=h.p;unfold eL at hp;cases hM with
 | find fb G pa pr n l y an ax dC h0 hn aH bB hG ek =>
  rw[ax] at hp;exact Pz ax dC h0 hn aH bB hG ek hp.2.1 ⟨BR.1,h16⟩ bH he hF.u hp.1 aG hd bU h.t.hs.1 aQ hN hE
 | take a pf pr n l y an ax cY bB =>
  rw[ax] at hp;have h2:K.T.pc=2:=by have:=h.tp;rw[if_pos ax] at this;exact this
  refine PA ax cY (dM.row hC.ok h.t hB yf h2) hp.1 (fun h6=>?_) hF.u (h.kk ax) bB aQ hN hE;have:=(h.t.pool h2 (by omega) (by omega)).2.2;omega
 | ins pc fb G pa pr l y l0 ax bB hG ek =>
  rcases ax with ⟨ax,rfl,cY,rfl⟩ | ⟨ax,rfl,cY⟩ | ⟨ax,rfl,rfl⟩ | ⟨ax,rfl,rfl⟩ | ⟨ax,rfl,rfl,rfl⟩
  ·rw[ax] at hp;obtain⟨bd,hS,bZ,mq,aH,hk⟩:=hp;exact On ax cY aH (hd hk).2 h16 hS hG ek aQ hN hE
  ·rw[ax] at hp;obtain⟨bd,hS,bZ,mq,aH,hk⟩:=hp;exact Oo ax cY mq (hd hk) bB h16 hS hG ek aQ hN hE
  ·rw[ax] at hp;obtain⟨bd,hS,bZ,mq,aH,hk⟩:=hp;exact Oq ax aH (hd hk).2 h16 hS hG ek aQ hN hE
  ·rw[ax] at hp;obtain⟨bd,hS,bZ,mq,aH,hk⟩:=hp;exact Ot ax hF.u aH (hd hk).2 h16 hS hG ek aQ hN hE
  ·rw[ax] at hp;obtain⟨bd,hS,bZ,mq,aH,hk⟩:=hp;exact Ou ax aH (hd hk).2 h16 hS hG ek aQ hN hE
 | rise pf pa pr l y an ax bB =>
  rw[ax] at hp;exact Ov ax hp.1.1 bB aQ hN hE
 | del pc pf pa pr l y an ax cY bB =>
  rcases ax with ⟨ax,rfl⟩ | ⟨ax,rfl,rfl⟩ | ⟨ax,rfl,rfl⟩ | ⟨ax,rfl,rfl,rfl⟩ | ⟨ax,rfl,rfl,rfl⟩ | ⟨ax,rfl⟩
  ·exact Ox ax cY bB aQ hN hE
  ·exact Oy ax cY (by omega) hF.u he bB aQ hN hE
  ·exact Oz ax cY (by omega) aQ hN hE
  ·rw[ax] at hp;obtain⟨bd,bZ,cF,aH,hy,sI⟩:=hp;exact OA ax cY hy (by omega) hF.u he aQ hN hE
  ·rw[ax] at hp;obtain⟨bd,bZ,cF,aH,hy,sI,bA⟩:=hp;exact OB ax cY hy bA (by omega) aQ hN hE
  ·rw[ax] at hp;exact OC ax hp.1.1 bB aQ hN hE
 | retire c pf pa n l y an dn ax =>
  rw[ax] at hp;have h3:K.T.pc=3:=by have:=h.tp;rw[if_neg (by omega),if_pos ax] at this;exact this
  have xR:=h.t.re;refine PE ax bU (by unfold aD;omega) (fun _=>?_) (h.t.rpc h3) hp.1 aQ hN hE;unfold bg;rw[if_pos (by omega)]
theorem Qa (hC:fC C) (h16:C.h.toNat<=16) (bH:C.h=(C.h.toNat:Int)) (aG:d.ok=1\/d.ok=2\/d.ok=3) (hd:d.ok=1->1<=d.lv/\d.lv<=(C.h.toNat:Int)) (hF:db C (ak ml)) (h:bJ C ds B d K) (hB:B+1<=1000000) (ax:K.pc=1) (dC:K.ft=0) (eT:K.on=false) (cY:K.an=false) (bB:0<=l/\l<=1000) (aQ:ml.length<=999999) (hN:0<=X.N/\X.N<=4000000) (hE:Env w0 (ae q (ay d.ok d.key d.val d.lv 0 pf pa pr n l y an 0 false)::LU (aW C X V K FU ml) R) w) :
  Calls prog 27 #[zP q,zP X.u,zP V.m] w fun e w'=>∃ s,e=.returned (zI s)/\bX w0 R C X V d q ml (aJ C d K (ak ml)) s w':=by
 have hl:=hC.ok.l;have BR:=hC.h;have bU:K.T.ql.length+1<=1000000:=by have:=h.t.len;omega
 have he:0<=K.T.e/\K.T.e<=9223372036854775807:=by have:=h.t.e;constructor<;>omega
 have hp:=h.p;unfold eL at hp;rw[ax] at hp;have h1:((K.ft:Int)+1)=1:=by rw[dC];rfl
 refine Oe _ hE (fun fb v hv=>Fw (FU:=FU) (G:=V0) (an:=an) (n:=n) (l:=l) (y:=y) (pa:=pa) (pr:=pr) ax (by omega) (fun _=>cY) (fun h=>absurd dC h) (fun h=>by omega) bB (fun i=>rfl) (fun h=>absurd h (by rw[eT];decide)) hp.2.1 ⟨BR.1,h16⟩ bH he hF.u hp.1 aG hd bU h.t.hs.1 aQ hN ?_);rw[h1,eT];exact hv
end
structure yg (C:Cf) (d:Dd) (K:Kt) (ml:List bT) (N:Int):Prop where
 (ex:∃ (ds:List Dd) (B nn:Nat),bJ C ds B d K/\B+1<=1000000/\nn < maxLen)
 (c:fC C)
 (h16:C.h.toNat<=16)
 (ch:C.h=(C.h.toNat:Int))
 (ok:d.ok=1\/d.ok=2\/d.ok=3)
 (lv:d.ok=1->1<=d.lv/\d.lv<=(C.h.toNat:Int))
 (f:db C (ak ml))
 (mlr:ml.length<=999999)
 (Nr:0<=N/\N<=4000000)
section
variable {w0 w:World} {R ps rs:List Item} {C:Cf} {X:Tm} {V:Wm} {K:Kt} {d:Dd} {G FU:Nat->Prop} {qc:bN} {ml:List bT} {n o q:Nat} {nd st:Int} {ph:Value}
theorem Qb (hr:yg C d K ml X.N) (hM:dY C d K q rs) (hE:Env w0 (rs++LU (aW C X V K FU ml) R) w) :
  Calls prog 27 #[zP q,zP X.u,zP V.m] w fun e w'=>∃ s,e=.returned (zI s)/\bX w0 R C X V d q ml (aJ C d K (ak ml)) s w':=by
 obtain⟨ds,B,nn,h,hB,yf⟩:=hr.ex;exact P8 hr.c hr.h16 hr.ch hr.ok hr.lv hr.f h hB yf hr.mlr hr.Nr hM hE
def uy (w0:World) (R:List Item) (C:Cf) (X:Tm) (V:Wm) (d:Dd) (o q n:Nat) (qc:bN) (ml:List bT) (nd:Int) (ph:Value) (r:Int × Kt × Mem) (w':World):Prop :=
 ∃ (X':Tm) (G' ca:Nat->Prop) (bt:bN) (n':Nat) (aR:List bT) (jj:List Item),Same X X'/\ak aR=r.2.2/\aR.length<=ml.length+1/\Nx n qc n' bt/\0<=X'.N/\X'.N<=4000000/\(r.1=0->∃ ps rs,jj=ps++rs/\PM C X'.c d r.2.1 o ps/\dY C d r.2.1 q rs)/\(r.1≠0->∃ nx sp n1 l1 t1 y1 gw,jj=[ae o (aw X.c d.ok d.key d.val d.lv nx r.1 sp n1 l1 t1 y1 gw r.2.1.err r.2.1.dn)])/\Env w0 (LT (aX C X' V r.2.1 (ak aR) G' bt n') (LU (aW C X' V r.2.1 ca aR) (ae X.thr (bK X.c X.u X.dA X.dn X.dc nd (decide (r.1=0)) (zP o) (zP q) (.pointer none) ph r.1)::(jj++R)))) w'
theorem Qc (hg:bE w0) (h:ye C d K (ak ml) n) (hr:yg C d K ml X.N) (hP:PM C X.c d K o ps) (hR:dY C d K q rs)
  (hE:Env w0 (LT (aX C X V K (ak ml) G qc n) (LU (aW C X V K FU ml) (ae X.thr (bK X.c X.u X.dA X.dn X.dc nd true (zP o) (zP q) (.pointer none) ph st)::(ps++rs++R)))) w) :
  Calls prog 8 #[zP X.thr,zP V.p,zP V.m] w fun e w'=>e=.returned (.bool true)/\uy w0 R C X V d o q n qc ml nd ph (aJ C d K (ak ml)) w':=by
 obtain⟨z,hz⟩:∃ z,aJ C d K (ak ml)=z:=⟨_,rfl⟩;obtain⟨s,K',f'⟩:=z;have hp:=fun (v:World) (L:List Item) hv=>BO (w:=v) (R:=L) (V:=V) (G:=G) (qc:=qc) h hg hP hv;have hq:=fun (v:World) (L:List Item) hv=>Qb (w:=v) (w0:=w0) (R:=L) (V:=V) (FU:=FU) hr hR hv;rw[hz] at hp hq ⊢;refine (Oa (w0:=w0) (s:=s) (p:=V.p) (m:=V.m) (o9:=o) (q9:=q) (thr:=X.thr) (c:=X.c) (u:=X.u) (dA:=X.dA) (dn:=X.dn) (dc:=X.dc) (nd:=nd) (st:=st) (ph:=ph) (L:=ps++LT (aX C X V K (ak ml) G qc n) (rs++LU (aW C X V K FU ml) R))
  (Q1:=fun L1=>∃ F' k' G' bt n' ps',Nx n qc n' bt/\(s=0->PM C X.c d K' o ps')/\(s≠0->∃ nx sp n1 l1 t1 y1 gw,ps'=[ae o (aw X.c d.ok d.key d.val d.lv nx s sp n1 l1 t1 y1 gw K'.err K'.dn)])/\L1=ps'++LT (aX C { X with F:=F',kq:=k' } V K' f' G' bt n') (rs++LU (aW C X V K FU ml) R))
  (Q2:=fun L2=>∃ F' k' G' bt n' ps' A' c' N' ca aR fB,Nx n qc n' bt/\(s=0->PM C X.c d K' o ps')/\(s≠0->∃ nx sp n1 l1 t1 y1 gw,ps'=[ae o (aw X.c d.ok d.key d.val d.lv nx s sp n1 l1 t1 y1 gw K'.err K'.dn)])/\ak aR=f'/\aR.length<=ml.length+1/\0<=N'/\N'<=4000000/\(s=0->dY C d K' q fB)/\(s≠0->∃ pc pf pa pr n2 l2 y2 lN,fB=[ae q (ay d.ok d.key d.val d.lv pc pf pa pr n2 l2 y2 lN K'.err K'.dn)])/\L2=fB++LU (aW C { X with A:=A',rc:=c',N:=N' } V K' ca aR) (ps'++LT (aX C { X with F:=F',kq:=k' } V K' f' G' bt n') R))
  ?_ ?_ ?_ ?_).mono ?_
 ·exact hE.perm (cm fun z=>by simp only[LT,LU,List.count_append,List.count_cons];omega)
 ·intro v hv;refine (hp v (ae X.thr (bK X.c X.u X.dA X.dn X.dc nd true (zP o) (zP q) (.pointer none) ph 0)::(rs++LU (aW C X V K FU ml) R)) (hv.perm (cm fun z=>by simp only[LT,LU,List.count_append,List.count_cons];omega))).mono ?_;rintro e v' ⟨s',he,nr,F',k',G',bt,n',ps',h1,h2,h3,h4⟩;dsimp only at nr h2 h3 h4;subst nr;refine⟨he,ps'++LT (aX C { X with F:=F',kq:=k' } V K' f' G' bt n') (rs++LU (aW C X V K FU ml) R),⟨F',k',G',bt,n',ps',h1,h2,h3,rfl⟩,?_⟩;exact h4.perm (cm fun z=>by simp only[LT,LU,List.count_append,List.count_cons];omega)
 ·rintro L1 v ⟨F',k',G',bt,n',ps',h1,h2,h3,rfl⟩ hv;refine (hq v (ae X.thr (bK X.c X.u X.dA X.dn X.dc nd true (zP o) (zP q) (.pointer none) ph s)::(ps'++LT (aX C { X with F:=F',kq:=k' } V K' f' G' bt n') R)) (hv.perm (cm fun z=>by simp only[LT,LU,List.count_append,List.count_cons];omega))).mono ?_;rintro e v' ⟨s',he,nr,A',c',N',ca,aR,fB,g1,g2,g3,g4,g5,g6,g7⟩;dsimp only at nr g1 g5 g6 g7;subst nr;refine⟨he,fB++LU (aW C { X with A:=A',rc:=c',N:=N' } V K' ca aR) (ps'++LT (aX C { X with F:=F',kq:=k' } V K' f' G' bt n') R),⟨F',k',G',bt,n',ps',A',c',N',ca,aR,fB,h1,h2,h3,g1,g2,g3,g4,g5,g6,rfl⟩,?_⟩;exact g7.perm (cm fun z=>by simp only[LT,LU,List.count_append,List.count_cons];omega)
 ·rintro L2 ⟨F',k',G',bt,n',ps',A',c',N',ca,aR,fB,h1,h2,h3,g1,g2,g3,g4,g5,g6,rfl⟩ hs;obtain⟨nx,sp,n1,l1,t1,y1,gw,rfl⟩:=h3 hs;obtain⟨pc,pf,pa,pr,n2,l2,y2,lN,rfl⟩:=g6 hs;exact⟨4,0,_,_,_,_,nx,s,sp,n1,l1,t1,y1,gw,pc,pf,pa,pr,n2,l2,y2,lN,_,_,rfl,rfl⟩
 ·rintro e w' ⟨rfl,L2,⟨F',k',G',bt,n',ps',A',c',N',ca,aR,fB,h1,h2,h3,g1,g2,g3,g4,g5,g6,rfl⟩,hF⟩;refine⟨rfl,{ X with F:=F',kq:=k',A:=A',rc:=c',N:=N' },G',ca,bt,n',aR,if s=0 then ps'++fB else ps',⟨rfl,rfl,rfl,rfl,rfl,rfl,rfl⟩,g1,g2,h1,g3,g4,fun h0=>⟨ps',fB,by show (if s=0 then _ else _)=_;rw[if_pos h0],h2 h0,g5 h0⟩,fun h0=>by obtain⟨nx,sp,n1,l1,t1,y1,gw,h9⟩:=h3 h0;exact⟨nx,sp,n1,l1,t1,y1,gw,(if_neg h0).trans h9⟩,?_⟩;have eE:=hF.perm (show List.Perm _ (ps'++fB++(LT (aX C { X with F:=F',kq:=k',A:=A',rc:=c',N:=N' } V K' (ak aR) G' bt n') (LU (aW C { X with F:=F',kq:=k',A:=A',rc:=c',N:=N' } V K' ca aR) (ae X.thr (bK X.c X.u X.dA X.dn X.dc nd (decide (s=0)) (zP o) (zP q) (.pointer none) ph s)::R)))) from cm fun z=>by
   rw[g1];simp only[LT,LU,aX,aW,SP,SR,List.count_append,List.count_cons];omega)
  by_cases h0:s=0
  ·rw[if_pos h0];exact eE.perm (cm fun z=>by simp only[LT,LU,List.count_append,List.count_cons];omega)
  ·rw[if_neg h0];have uz:=eE.perm (show List.Perm _ (fB++(LT (aX C { X with F:=F',kq:=k',A:=A',rc:=c',N:=N' } V K' (ak aR) G' bt n') (LU (aW C { X with F:=F',kq:=k',A:=A',rc:=c',N:=N' } V K' ca aR) (ae X.thr (bK X.c X.u X.dA X.dn X.dc nd (decide (s=0)) (zP o) (zP q) (.pointer none) ph s)::(ps'++R))))) from cm fun z=>by
    simp only[LT,LU,List.count_append,List.count_cons];omega)
   exact uz.sub (List.sublist_append_right _ _)
end
section
variable {w0 w:World} {L:List Item} {thr c u p m dn dc:Nat} {nd:Int} {dA:Option Addr} {st s:Int} {ph:Value}
theorem Qd {nd0:Int} {po pq pg:Value} {Q0 Q1 Q2:Nat->Nat->List Item->Prop} (hE:Env w0 (ae thr (bK c u dA dn dc nd0 false po pq pg ph st)::L) w)
  (hB:∀ v,Env w0 (ae thr (bK c u dA dn dc nd0 false po pq pg ph 0)::L) v->Calls prog 24 #[zP thr] v fun e v'=>e=.returned (.bool true)/\∃ o9 q9 L0,Q0 o9 q9 L0/\Env w0 (ae thr (bK c u dA dn dc nd true (zP o9) (zP q9) (.pointer none) ph 0)::L0) v')
  (hO:∀ o9 q9 L0 v,Q0 o9 q9 L0->Env w0 (ae thr (bK c u dA dn dc nd true (zP o9) (zP q9) (.pointer none) ph 0)::L0) v->Calls prog 16 #[zP o9,.iface 28 (zP p)] v fun e v'=>e=.returned (zI s)/\∃ L1,Q1 o9 q9 L1/\Env w0 (ae thr (bK c u dA dn dc nd true (zP o9) (zP q9) (.pointer none) ph 0)::L1) v')
  (hQ:∀ o9 q9 L1 v,Q1 o9 q9 L1->Env w0 (ae thr (bK c u dA dn dc nd true (zP o9) (zP q9) (.pointer none) ph s)::L1) v->Calls prog 27 #[zP q9,zP u,zP m] v fun e v'=>e=.returned (zI s)/\∃ L2,Q2 o9 q9 L2/\Env w0 (ae thr (bK c u dA dn dc nd true (zP o9) (zP q9) (.pointer none) ph s)::L2) v')
  (hA:∀ o9 q9 L2,Q2 o9 q9 L2->s≠0->E6 L2 c o9 q9) :
  Calls prog 8 #[zP thr,zP p,zP m] w fun o w'=>o=.returned (.bool true)/\∃ o9 q9 L2,Q2 o9 q9 L2/\Env w0 (ae thr (bK c u dA dn dc nd (decide (s=0)) (zP o9) (zP q9) (.pointer none) ph s)::L2) w':=by
 have HB:=zH hB;have HO:=zH hO;have HQ:=zH hQ;have HA:=zH hA;clear hB hO hQ hA;unfold bK at *;have r0:=hE.rule 0 rfl;have f9:=hE.thaw 0 rfl 9 (by simp);have ag:=hE.put 0 rfl (j:=9) (by simp) (zI 0);have r1:=ag.rule 0 rfl;clear hE;refine ub fun PP fz=>?_;go_enter func8,ntmps8;go_wp2_with fail;refine (HB.out _ ag).mono ?_;rintro e v0 ⟨rfl,o9,q9,L0,iP,aO⟩;clear r0 f9 r1 ag HB;have r0:=aO.rule 0 rfl;have vR:=zH (HO.out o9 q9 L0 _ iP aO);clear aO HO iP;go_wp2_with fail;refine vR.out.mono ?_;rintro e v ⟨rfl,L1,fT,az⟩;clear r0 vR;have r0:=az.rule 0 rfl;have f9:=az.thaw 0 rfl 9 (by simp);have bM:=az.put 0 rfl (j:=9) (by simp) (zI s);have nh:=zH fT;clear az fT
 go_upto_region 9 with fail
 clear r0 f9;generalize World.setCell _ _ _=v1 at *;replace bM:Env w0 (ae thr [zP c,zP u,.slice dA dn dc,zI nd,.bool true,zP o9,zP q9,.pointer none,ph,zI s]::L1) v1:=bM;refine Ord.wc [9] (fun v=>ao 0 v thr [zP c,zP u,.slice dA dn dc,zI nd,.bool true,zP o9,zP q9,.pointer none,ph,zI s]) (fun k v=>if k=0 then Env w0 (ae thr [zP c,zP u,.slice dA dn dc,zI nd,.bool true,zP o9,zP q9,.pointer none,ph,zI s]::L1) v else ∃ L2,Q2 o9 q9 L2/\Env w0 (ae thr [zP c,zP u,.slice dA dn dc,zI nd,.bool true,zP o9,zP q9,.pointer none,ph,zI s]::L2) v) (bM.drew.get 0 rfl) (by rw[if_pos rfl];exact bM.drew) fun af=>?_
 repeat ((first
  | (refine Ord.cv ?_ af.o ?_ ?_;rotate_left;(intro w5 hS;have r:=ao.rule hS;go_simp<;>rfl))
  | (refine Ord.co af.o ?_));try simp only[Act.put,zA,zZ,zS])
 refine Ord.ch_turn (v:=zI s) 0 af.o rfl (by decide) (Or.inl rfl) (by rfl) ?_ ?_
 ·rintro w5 aN au;rw[if_pos rfl] at au;go_simp;simp only[Ord.LandsIn];refine (HQ.out o9 q9 L1 w5 nh.out au).mono ?_;rintro e w6 ⟨rfl,L2,h2,h5⟩;exact⟨rfl,h5.get 0 rfl,L2,h2,h5⟩
 try simp only[Act.put,zA,zZ,zS]
 repeat ((first
  | (refine Ord.cv ?_ af.o ?_ ?_;rotate_left;(intro w5 hS;skip;go_simp<;>rfl))
  | (refine Ord.co af.o ?_));try simp only[Act.put,zA,zZ,zS])
 refine Ord.InText.nil fun w5 hS=>?_;clear af;obtain⟨aL,ai⟩:=Ord.chain_end hS;clear hS;rw[if_neg (by decide)] at ai;obtain⟨L2,gB,bD⟩:=ai;clear aL bM;have ku:=zH gB;have qg:=zH fun h=>HA.out o9 q9 L2 gB h;clear gB HQ HA nh;have r0:=bD.rule 0 rfl;have b9:(s != s)=false:=by simp
 by_cases hs:s=0
 ·subst hs;have HE:=zH bD;clear bD;go_wp2_with fail
  (try go_ret)
  exact fz.out _ _ ⟨rfl,o9,q9,L2,ku.out,HE.out⟩
 ·have b8:(s==0)=false:=by simpa using hs
  obtain⟨i,j,kd,key,val,lv,nx,s9,sp,n1,l1,t1,y1,gw,pc,pf,pa,pr,n2,l2,y2,lN,er,mn,h1,h2⟩:=qg.out hs;have hd:decide (s=0)=false:=by simpa using hs
  rw[hd] at fz;have f4:=bD.thaw 0 rfl 4 (by simp);have aB:=bD.put 0 rfl (j:=4) (by simp) (.bool false);clear bD hs hd qg;have H1:=zH h1;have H2:=zH h2;clear h1 h2
  go_upto_region 15 with fail
  clear r0 f4;generalize World.setCell _ _ _=v2 at *;replace aB:Env w0 (ae thr [zP c,zP u,.slice dA dn dc,zI nd,.bool false,zP o9,zP q9,.pointer none,ph,zI s]::L2) v2:=aB;have Bp:=zH fun (v:World) (hv:Env w0 (ae thr [zP c,zP u,.slice dA dn dc,zI nd,.bool false,zP o9,zP q9,.pointer none,ph,zI s]::L2) v)=>Bb (hv.get (i+1) H1.out);have vH:=zH fun (v:World) (hv:Env w0 (ae thr [zP c,zP u,.slice dA dn dc,zI nd,.bool false,zP o9,zP q9,.pointer none,ph,zI s]::L2) v)=>(show ∀ k,v.cell? ⟨q9,k,none⟩=[zI kd,zU key,zU val,zI lv,zI pc,.pointer pf,.pointer pa,.pointer pr,zI n2,zI l2,zU y2,.bool lN,zI er,.bool mn][k]? from hv.rule (j+1) H2.out);clear H1 H2;refine cG (S:=(Env w0 (ae thr [zP c,zP u,.slice dA dn dc,zI nd,.bool false,zP o9,zP q9,.pointer none,ph,zI s]::L2))) (by kernel_rfl) (by kernel_rfl) aB.drew (fun hT=>?_);have af:=zH hT;clear hT
  repeat ((first
   | (refine cH (v:=?_) af.o (by rfl) ?_ ?_;rotate_left;(intro w5 hS;have r:=hS.rule 0 rfl;have rq:=vH.out _ hS;go_simp<;>rfl))
   | (refine cI af.o (by rfl) ?_)
   | (refine cJ (v:=?_) (f:=?_) (args:=?_) af.o (by rfl) ?_ ?_ ?_;rotate_left 3;(intro w5 hS;have r:=hS.rule 0 rfl;have rq:=vH.out _ hS;go_simp;constructor<;>rfl);(intro w5 hS;(first | (with_reducible refine kp (Bp.out _ hS) ?_ ?_;rfl;exact fun w6 dm=>hS.over dm)))));try simp only[Act.put,zA,zZ,zS])
  refine InText.nil fun w5 aK=>?_;clear af;clear aB;go_wp2_with fail
  (try go_ret)
  exact fz.out _ _ ⟨rfl,o9,q9,L2,ku.out,aK⟩
end
end
end Go.Proofs.YtleklonmmlfijaaGreatDoor
