/- What is proved on the way to the statement, part 16: contracts of the functions, among other things in memory. -/
import Derived.Test.YtdknbegcflldjaaGreatDoorM15
import Derived.LoopIn
import Derived.Shelf.SlMaps.Clone
import Derived.Ground.SlmcProg
import Derived.Test.YtdknbegcflldjaaGreatDoorProg
import Derived.Maps.RangeWalk
import Derived.LoopTactic
import Derived.OwnWalkIn
import Derived.TacticsInMore
import Derived.LoopNIn
import Derived.Maps.AppendAt
import Derived.Shelf.SlSortCmp.NoneTotal
import Derived.Shelf.SlMaps.Equal
import Derived.Shelf.SlicesG.Cmp
import Derived.Shelf.SlGeneric
import Derived.Ground.SlsfProg
import Derived.Ground.SlmeProg
import Derived.Ground.SlgcProg
import Derived.Shelf.Lay
import Derived.Shelf.LaySoft
import Derived.LoopN
import Derived.RangeFuncNested
import Derived.RangeFuncBound
import Derived.RangeFuncCalls
import Derived.RangeFuncLeaves
import Derived.Sort.MapsRangeIn
import Derived.Laws.IdiomRangeMap

open _root_.Go.Proofs.Tryz
set_option maxRecDepth 100000
set_option maxHeartbeats 25600000
namespace Go.Proofs.YtdknbegcflldjaaGreatDoor
section
open Go.RowKit Go.Maps
structure Pk where
 (X:Tm)
 (K:Kt)
 (po pq pg ph:Value)
 (st:Int)
 (ms:List Item)
def Pk.box (p:Pk):Item:=boxI p.X.thr (thk p.X.c p.X.u p.X.dA p.X.dn p.X.dc p.K.T.nd (decide (p.K.pc≠0)) p.po p.pq p.pg p.ph p.st)
def Pk.its (C:Cf) (p:Pk):List Item :=
 coreI p.X.c C.k C.s C.b C.h C.l p.K.T.e p.K.r p.K.T.hs 0 p.X.q::queueI p.X.q p.X.F p.K.T.ql p.X.kq::boxI p.X.u (urv C.k C.s C.b C.h C.l p.K.T.e p.X.A p.K.T.ql.length p.X.rc p.X.N p.K.T.hs p.K.r)::rrI p.X.A p.X.rc p.K.T.ql::p.box::p.ms
def New0 (p:Pk) (r:Rw):Prop:=p.X.dA=r.A/\p.X.dn=r.ds.length/\p.K=K0/\p.ms=[]/\p.st=0/\0<=p.X.N/\p.X.N<=4000000/\p.X.dc=r.cap
structure GS where
 (ps:List Pk)
 (G FU:Nat->Prop)
 (qc:Cnt)
 (n:Nat)
 (ml:List OneR)
def EL (C:Cf) (sl:Value) (p cc m:Nat) (S:GS) (L:List Item):List Item :=
 tpsI sl (S.ps.map fun q=>q.X.thr)::wbox p cc::cellI cc S.G (getL S.ml) S.qc S.n::refI m S.FU S.ml::(S.ps.flatMap (Pk.its C)++L)
def RL (C:Cf) (sl:Value) (S:GS) (i:Nat) (L:List Item):List Item:=tpsI sl (S.ps.map fun q=>q.X.thr)::((S.ps.eraseIdx i).flatMap (Pk.its C)++L)
def TL (C:Cf) (p cc m:Nat) (S:GS) (q:Pk) (R:List Item):List Item :=
 LT (SPK C q.X (vm p cc m) q.K (getL S.ml) S.G S.qc S.n) (LU (SRK C q.X (vm p cc m) q.K S.FU S.ml) (q.box::(q.ms++R)))
theorem idx_perm {α:Type} {q:α}:∀ {l:List α} {i:Nat},l[i]?=some q->l.Perm (q::l.eraseIdx i)
 | [],_,h=>by simp at h
 | a::l,0,h=>by
  simp at h;subst h;exact List.Perm.refl _
 | a::l,i+1,h=>by
  have h':l[i]?=some q:=by simpa using h
  exact ((idx_perm h').cons a).trans (List.Perm.swap _ _ _)
theorem EL_perm {C:Cf} {sl:Value} {p cc m:Nat} {S:GS} {L:List Item} {i:Nat} {q:Pk} (hi:S.ps[i]?=some q):(EL C sl p cc m S L).Perm (TL C p cc m S q (RL C sl S i L)):=by
 have h:=(idx_perm hi).flatMap_right (Pk.its C);refine perm_of fun z=>?_;have hc:=h.count_eq z;simp only [EL,TL,RL,LT,LU,SPK,SRK,SP,SR,vm,Pk.its,List.flatMap_cons,List.count_cons,List.count_append] at hc ⊢;omega
structure OkP (C:Cf) (B:Nat) (q:Pk) (r:Rw):Prop where
 (t:KOk C r.ds B (lastD r.ds q.K) q.K)
 (m:MchK C (lastD r.ds q.K) q.X.c q.K q.po q.pq q.pg q.ph q.st q.ms)
 (dA:q.X.dA=r.A)
 (dn:q.X.dn=r.ds.length)
 (N:0<=q.X.N/\q.X.N<=4000000)
structure OkD (w0:World) (L:List Item) (C:Cf) (r:Rw):Prop where
 (row:OsAt w0 L r.A r.ds)
 (len:r.ds.length<=1000)
 (ins:∀ i,i < r.ds.length->InU (r.ds.getD i default).key/\InU (r.ds.getD i default).val)
 (op:∀ i,i < r.ds.length->(r.ds.getD i default).ok=8\/opI 2 C.s C.b C.h C.l (r.ds.getD i default).ok (r.ds.getD i default).key (r.ds.getD i default).val (r.ds.getD i default).lv=0)
structure GOk (C:Cf) (rs:List Rw) (B:Nat) (S:GS):Prop where
 (f:OkF C (getL S.ml))
 (k:LnkF C (getL S.ml))
 (n:S.n<=B)
 (ml:S.ml.length<=B)
 (len:S.ps.length=rs.length)
 (ps:∀ i,i < rs.length->∃ q,S.ps[i]?=some q/\OkP C B q (rs.getD i default))
theorem OkP.more {C:Cf} {B:Nat} {q:Pk} {r:Rw} (h:OkP C B q r):OkP C (B+1) q r:={ h with t:=h.t.more }
theorem OsAt.sub {w0:World} {L R:List Item} {A:Option Addr} {ds:List Dd} (hd:OsAt w0 L A ds) (hR:∀ a∈L,a∈R):OsAt w0 R A ds:=by
 rcases hd with h | ⟨g,off,hA,hc⟩
 ·exact .inl h
 ·exact .inr ⟨g,off,hA,fun i hi v hv=>hc i hi v (hv.sub hR)⟩
theorem OsAt.of_row {w0:World} {R:List Item} {A:Option Addr} {ds:List Dd} (hd:RowX encOp 4 w0 A ds):OsAt w0 R A ds:=by
 rcases hd with h | ⟨b,off,hA,hl,hc⟩
 ·exact .inl h
 ·exact .inr ⟨b,off,hA,fun i hi v hv=>(hc i hi).below hv.1 hl⟩
section
variable {w0 w:World} {C:Cf} {sl:Value} {p cc m:Nat} {S:GS} {L:List Item} {rs:List Rw} {B:Nat}
theorem Env.toT {i:Nat} {q:Pk} (h:Env w0 (EL C sl p cc m S L) w) (hi:S.ps[i]?=some q):Env w0 (TL C p cc m S q (RL C sl S i L)) w:=h.perm (EL_perm hi)
theorem Env.toE {i:Nat} {q:Pk} (h:Env w0 (TL C p cc m S q (RL C sl S i L)) w) (hi:S.ps[i]?=some q):Env w0 (EL C sl p cc m S L) w:=h.perm (EL_perm hi).symm
structure Stp (C:Cf) (ds:List Dd) (S S':GS) (i:Nat) (q q':Pk):Prop where
 (ps:S'.ps=S.ps.set i q')
 (thr:q'.X.thr=q.X.thr)
 (dc:q'.X.dc=q.X.dc)
 (c:q'.X.c=q.X.c)
 (K:q'.K=(stepK C ds q.K (getL S.ml)).2.1)
 (st:q'.st=(stepK C ds q.K (getL S.ml)).1)
 (ml:getL S'.ml=(stepK C ds q.K (getL S.ml)).2.2)
 (qc:(idleK ds q.K=false->One S.qc S'.qc)/\(idleK ds q.K=true->S'.qc=S.qc))
theorem EL_cons {a:Item}:(a::EL C sl p cc m S L).Perm (EL C sl p cc m S (a::L)):=by
 refine perm_of fun z=>?_;simp only [EL,List.count_cons,List.count_append];omega
theorem Env.inE {a:Item} (h:Env w0 (a::EL C sl p cc m S L) w):Env w0 (EL C sl p cc m S (a::L)) w:=h.perm EL_cons
theorem Env.outE {a:Item} (h:Env w0 (EL C sl p cc m S (a::L)) w):Env w0 (a::EL C sl p cc m S L) w:=h.perm EL_cons.symm
theorem Env.dropE {a:Item} (h:Env w0 (EL C sl p cc m S (a::L)) w):Env w0 (EL C sl p cc m S L) w:=h.outE.sub (.cons _ (List.Sublist.refl _))
theorem Env.thrE {i:Nat} {q:Pk} (h:Env w0 (EL C sl p cc m S L) w) (hq:S.ps[i]?=some q):∀ j,w.cell? ⟨q.X.thr,j,none⟩=(thk q.X.c q.X.u q.X.dA q.X.dn q.X.dc q.K.T.nd (decide (q.K.pc≠0)) q.po q.pq q.pg q.ph q.st)[j]?:=(h.toT hq).rule 7 rfl
theorem mem_getD {α:Type} [Inhabited α] {l:List α} {i:Nat} (h:i < l.length):l.getD i default∈l:=by
 rw [List.getD_eq_getElem?_getD,List.getElem?_eq_getElem h];exact List.getElem_mem h
def QB (B:Nat) (q:Cnt):Prop:=(0<=q.l/\q.l<=B)/\(0<=q.s/\q.s<=B)/\(0<=q.w/\q.w<=B)/\(0<=q.a/\q.a<=B)
theorem QB.one {q q':Cnt} {B:Nat} (h:QB B q) (ho:One q q') (hB:B<=1000000):QB (B+1) q'/\q'.l+q'.s+q'.w+q'.a=q.l+q.s+q.w+q.a+1:=by
 obtain ⟨⟨a1,a2⟩,⟨b1,b2⟩,⟨c1,c2⟩,d1,d2⟩:=h;have hw:∀ x:Int,0<=x->x<=1000000->wrap64 (x+1)=x+1:=fun x h1 h2=>w64 _ (by omega);unfold QB
 rcases ho with ⟨h1,h2,h3,h4⟩ | ⟨h1,h2,h3,h4⟩ | ⟨h1,h2,h3,h4⟩ | ⟨h1,h2,h3,h4⟩
 ·rw [hw _ a1 (by omega)] at h1; omega
 ·rw [hw _ b1 (by omega)] at h2; omega
 ·rw [hw _ c1 (by omega)] at h3; omega
 ·rw [hw _ d1 (by omega)] at h4; omega
theorem step_pk (hg:Glo w0) (hC:COk C) (hk1:C.k=2) (hcb:chkI 2 C.s C.b C.h C.l=0) (hR9:∀ d,In64 (rtM C d)) {i:Nat} (hr:OkD w0 L C (rs.getD i default)) (hS:GOk C rs B S) (hB:B+1<=900000) (hi:i < rs.length) {q:Pk} (hq:S.ps[i]?=some q) (hE:Env w0 (EL C sl p cc m S L) w) :
  Calls prog 28 #[.pointer (some ⟨q.X.thr,0,none⟩),.pointer (some ⟨p,0,none⟩),.pointer (some ⟨m,0,none⟩)] w fun o w'=>o=.returned (.bool true)/\∃ (S':GS) (q':Pk),Stp C (rs.getD i default).ds S S' i q q'/\GOk C rs (B+1) S'/\Env w0 (EL C sl p cc m S' L) w':=by
 obtain ⟨q0,hq0,hP⟩:=hS.ps i hi;obtain rfl:q0=q:=by rw [hq] at hq0; exact (Option.some.inj hq0).symm
 have hE1:=hE.toT hq;refine (step_K (X:=q0.X) (V:=vm p cc m) (K:=q0.K) (G:=S.G) (FU:=S.FU) (qc:=S.qc) (n:=S.n) (ml:=S.ml) (R:=RL C sl S i L) (ds:=(rs.getD i default).ds) (B:=B) (ms:=q0.ms) hg hC hS.f hS.k hP.t (by omega) (by rw [hP.dA]; exact hr.row.sub (fun a ha=>by simp [RL,ha])) hP.dn hr.len hr.ins hk1 hcb hR9 hr.op (by have:=hS.n; unfold maxLen; omega) (by have:=hS.ml; omega) hP.N hP.m hE1).mono ?_;rintro o w' ⟨ho,X',G',FU',qc',n',ml',ms',po',pq',pg',ph',hsame,hml',hl',⟨hn',hqc'⟩,hN0,hN1,hM',hE'⟩;obtain ⟨hx1,hx2,hx3,hx4,hx5,hx6,hx7⟩:=hsame;obtain ⟨K',hK'⟩:∃ K',K'=(stepK C (rs.getD i default).ds q0.K (getL S.ml)).2.1:=⟨_,rfl⟩;obtain ⟨st',hst'⟩:∃ s,s=(stepK C (rs.getD i default).ds q0.K (getL S.ml)).1:=⟨_,rfl⟩;rw [<- hK',<- hst'] at hM' hE';obtain ⟨q',hqq⟩:∃ q',q'=(⟨X',K',po',pq',pg',ph',st',ms'⟩:Pk):=⟨_,rfl⟩;have hil:i < S.ps.length:=by rw [hS.len]; exact hi
 have hq':(S.ps.set i q')[i]?=some q':=by simp [hil]
 have hmap:(S.ps.set i q').map (fun q=>q.X.thr)=S.ps.map fun q=>q.X.thr:=by
  apply List.ext_getElem?;intro k;simp only [List.getElem?_map]
  by_cases hk:k=i
  ·subst hk;rw [hq',hq];simp only [Option.map_some];rw [hqq];show some X'.thr=_;rw [hx1]
  ·rw [List.getElem?_set_ne (fun e=>hk e.symm)]
 have hE2:Env w0 (EL C sl p cc m ⟨S.ps.set i q',G',FU',qc',n',ml'⟩ L) w':=by
  refine Env.toE (i:=i) (q:=q') ?_ hq';show Env w0 (LT _ (LU _ (_::(q'.ms++(tpsI sl ((S.ps.set i q').map fun q=>q.X.thr)::(((S.ps.set i q').eraseIdx i).flatMap (Pk.its C)++L)))))) w';rw [hmap,List.eraseIdx_set_eq];unfold Pk.box;rw [hqq];dsimp only;rw [hx1,hx2,hx4,hx5,hx6,hx7];exact hE'
 have hu:∀ x,InU ((stepK C (rs.getD i default).ds q0.K (getL S.ml)).2.2 x):=fun x=>by
  rw [<- hml'];exact (hE'.cell 3 rfl).words.1 x
 have hok:=step_keep hC hR9 hS.f hS.k hP.t hu;refine ⟨ho,⟨S.ps.set i q',G',FU',qc',n',ml'⟩,q',⟨rfl,by rw [hqq]; exact hx1,by rw [hqq]; exact hx7,by rw [hqq]; exact hx2,by rw [hqq]; exact hK',by rw [hqq]; exact hst',hml',hqc'⟩,⟨?_,?_,?_,?_,?_,?_⟩,hE2⟩
 ·show OkF C (getL ml');rw [hml'];exact hok.1
 ·show LnkF C (getL ml');rw [hml'];exact hok.2.1
 ·have:=hS.n;show n'<=B+1;omega
 ·have:=hS.ml;show ml'.length<=B+1;omega
 ·show (S.ps.set i q').length=rs.length;rw [List.length_set];exact hS.len
 ·intro k hk
  by_cases he:k=i
  ·subst he;refine ⟨_,hq',?_⟩;rw [hqq];have h3:=hok.2.2;rw [<- hK'] at h3;exact ⟨h3,by show MchK C _ X'.c K' _ _ _ _ _ ms'; rw [hx2]; exact hM',by show X'.dA=_; rw [hx5]; exact hP.dA,by show X'.dn=_; rw [hx6]; exact hP.dn,⟨hN0,hN1⟩⟩
  ·obtain ⟨q9,h1,h2⟩:=hS.ps k hk;exact ⟨q9,by show (S.ps.set i _)[k]?=_; rw [List.getElem?_set_ne (fun e=>he e.symm)]; exact h1,h2.more⟩
theorem same_pk (hS:GOk C rs B S) (hB:B<=900000) {i:Nat} (hi:i < rs.length) {q:Pk} (hq:S.ps[i]?=some q) (hE:Env w0 (EL C sl p cc m S L) w) :
  Calls prog 29 #[.pointer (some ⟨q.X.thr,0,none⟩)] w fun o w'=>o=.returned (.bool true)/\Env w0 (EL C sl p cc m S L) w':=by
 obtain ⟨q0,hq0,hP⟩:=hS.ps i hi;obtain rfl:q0=q:=by rw [hq] at hq0; exact (Option.some.inj hq0).symm
 refine (same_k (X:=q0.X) (V:=vm p cc m) (K:=q0.K) (f:=getL S.ml) (G:=S.G) (FU:=S.FU) (qc:=S.qc) (n:=S.n) (ml:=S.ml) (R:=q0.ms++RL C sl S i L) (by have:=hP.t.t.len; omega) (hE.toT hq)).mono ?_;rintro o w' ⟨ho,hE'⟩;exact ⟨ho,Env.toE hE' hq⟩
def ml0:List OneR:=setL [] (1,0,0) 1
theorem ml0_at (x:Plc):getL ml0 x=if x=(1,0,0) then 1 else 0:=by
 show getL [((1,0,0),1)] x=_;simp only [getL]
 by_cases hx:x=(1,0,0)
 ·rw [if_pos hx.symm,if_pos hx]
 ·rw [if_neg (fun e=>hx e.symm),if_neg hx]
theorem ml0_ok (hC:COk C):OkF C (getL ml0)/\LnkF C (getL ml0):=by
 have hs:=hC.s;have hl:=hC.l;have hz:slotI 0=0:=by decide
 refine ⟨⟨fun x=>?_,?_,fun i=>?_,?_⟩,⟨fun r=>?_,fun i=>?_⟩⟩
 ·rw [ml0_at]
  split<;>(unfold InU; omega)
 ·rw [ml0_at,if_neg (by decide)]; omega
 ·rw [ml0_at,if_neg (by simp)]; omega
 ·rw [ml0_at,if_pos rfl]; omega
 ·rw [ml0_at,if_neg (by simp)]; omega
 ·rw [ml0_at,if_neg (by simp)]; omega
theorem start_ok (hC:COk C) (hR:∀ i,i < rs.length->(rs.getD i default).ds.length<=30) (hlen:S.ps.length=rs.length) (hps:∀ i,i < rs.length->∃ q,S.ps[i]?=some q/\New0 q (rs.getD i default)) (hml:S.ml=ml0) (hn:S.n<=1):GOk C rs 40 S:=by
 refine ⟨by rw [hml]; exact (ml0_ok hC).1,by rw [hml]; exact (ml0_ok hC).2,by omega,by rw [hml]; decide,hlen,fun i hi=>?_⟩;obtain ⟨q,h1,h2,h3,h4,h5,h6,h7,h8,-⟩:=hps i hi;refine ⟨q,h1,?_,?_,h2,h3,⟨h7,h8⟩⟩
 ·rw [h4];exact K0_ok hC (by have:=hR i hi; omega)
 ·rw [h4,h5,h6];exact .inl ⟨rfl,fun _=>rfl,fun h=>absurd rfl h⟩
end
theorem Env.appendB {w0 w:World} {L:List Item} (h:Env w0 L w) (i k:Nat) {v:Value} {cs:List Nat} {n c:Nat} (hi:L[i]?=some (tpsI v cs)) (hk:L[k]?=some (boxI n [.pointer (some ⟨c,0,none⟩)])) (hz:cs.length<=1000000) :
  ∃ g cap w',(Builtin.append_ #[65,65] 65 #[v,.slice (some ⟨n,0,none⟩) 1 1]).run prog w=.ok (.slice (some ⟨g,0,none⟩) (cs.length+1) cap) w' /\
   Env w0 (L.set i (tpsI (.slice (some ⟨g,0,none⟩) (cs.length+1) cap) (cs++[c]))) w':=by
 obtain ⟨i0,hi0,hz0,hz1,hz2⟩:=info_parts infoTp;have hown:=h.tpRow i hi;have hr:=h.rule k hk;have hn9:∀ j u,[Value.pointer (some ⟨c,0,none⟩)][j]?=some u->w.cell? ((⟨n,0,none⟩:Addr).add j)=some u:=fun j u hj=>by
  have e:(⟨n,0,none⟩:Addr).add j=⟨n,j,none⟩:=by unfold Addr.add; split<;>simp_all
  rw [e,hr j];exact hj
 obtain ⟨g,cap,w',hrun,ho,hgr,hg,hgl⟩:=run_append_lies (P:=prog) w 65 65 0 68 i0 (.pointer none) 1 8 Tryz.underlying65 hi0 hz0 hz1 hz2 rfl (by decide) v cs.length (tps cs) hown
  ⟨n,0,none⟩ 1 1 [.pointer (some ⟨c,0,none⟩)] rfl hn9 (by simp [Value.oneCell']) (by omega) (by simp [maxLen]; omega) (by omega) (by simp) _ rfl
 have hst:Step (fun k=>v.ownBlock=some k) (fun k=>k=g) w w':=⟨(Turn.refl _ w).grown hgr fun k _ e=>e,fun k hk=>by
  subst hk
  rcases hg with e | e
  ·exact .inl e
  ·right; rw [e]; simp⟩
 refine ⟨g,cap,w',hrun,?_⟩;refine h.step i (tpsI (.slice (some ⟨g,0,none⟩) (cs.length+1) cap) (cs++[c])) hi ⟨hst.turn,fun k hk=>hst.from' k (by cases hk; rfl)⟩ ?_ fun k hk=>by cases hk; exact hgl
 have e1:(cs++[c]).length=cs.length+1:=by simp
 show w'.ownsRow 0 68 1 _ (cs++[c]).length (tps (cs++[c]));rw [e1,tps_append];exact ho
def ruN (k s b h l:Int):List Value:=[.int .i64 k,.int .i64 s,.int .i64 b,.int .i64 h,.int .i64 l,.int .i64 0,.slice none 0 0,.int .i64 0,.int .i64 0,.int .i64 0]
def ThA (w0:World) (k1 k2 k3 k4 k5:Int) (r:Rw) (v:Value) (cs:List Nat) (M:List Item) (κs:List Value) (fo:Option Value) (w:World):Prop :=
 (κs=[]/\((fo=none/\Env w0 (tpsI v cs::M) w)\/∃ n,fo=some (.pointer (some ⟨n,0,none⟩))/\Env w0 (boxI n (ruN k1 k2 k3 k4 k5)::tpsI v cs::M) w)) \/
 (∃ c q F,κs=[.pointer (some ⟨c,0,none⟩)]/\((fo=none/\Env w0 (coreI c k1 k2 k3 k4 k5 0 0 0 0 q::queueI q F [] 2::tpsI v cs::M) w)\/∃ n,fo=some (.pointer (some ⟨n,0,none⟩))/\Env w0 (boxI n (ruN k1 k2 k3 k4 k5)::coreI c k1 k2 k3 k4 k5 0 0 0 0 q::queueI q F [] 2::tpsI v cs::M) w)) \/
 (∃ c q F n,κs=[.pointer (some ⟨c,0,none⟩),Value.agg #[.pointer (some ⟨c,0,none⟩),.pointer (some ⟨n,0,none⟩),.slice r.A r.ds.length r.cap,.int .i64 0,.bool false,.pointer none,.pointer none,.pointer none,.pointer none,.int .i64 0]]/\fo=some (.pointer (some ⟨n,0,none⟩))/\Env w0 (boxI n (ruN k1 k2 k3 k4 k5)::coreI c k1 k2 k3 k4 k5 0 0 0 0 q::queueI q F [] 2::tpsI v cs::M) w) \/
 (∃ c q F n t,κs=[.pointer (some ⟨c,0,none⟩),Value.agg #[.pointer (some ⟨c,0,none⟩),.pointer (some ⟨n,0,none⟩),.slice r.A r.ds.length r.cap,.int .i64 0,.bool false,.pointer none,.pointer none,.pointer none,.pointer none,.int .i64 0],.pointer (some ⟨t,0,none⟩)]/\fo=some (.pointer (some ⟨n,0,none⟩))/\Env w0 (boxI t [.pointer (some ⟨c,0,none⟩),.pointer (some ⟨n,0,none⟩),.slice r.A r.ds.length r.cap,.int .i64 0,.bool false,.pointer none,.pointer none,.pointer none,.pointer none,.int .i64 0]::boxI n (ruN k1 k2 k3 k4 k5)::coreI c k1 k2 k3 k4 k5 0 0 0 0 q::queueI q F [] 2::tpsI v cs::M) w) \/
 (∃ c q F n t z,κs=[.pointer (some ⟨c,0,none⟩),Value.agg #[.pointer (some ⟨c,0,none⟩),.pointer (some ⟨n,0,none⟩),.slice r.A r.ds.length r.cap,.int .i64 0,.bool false,.pointer none,.pointer none,.pointer none,.pointer none,.int .i64 0],.pointer (some ⟨t,0,none⟩),.slice (some ⟨z,0,none⟩) 1 1]/\fo=some (.pointer (some ⟨n,0,none⟩))/\Env w0 (boxI z [.pointer (some ⟨t,0,none⟩)]::boxI t [.pointer (some ⟨c,0,none⟩),.pointer (some ⟨n,0,none⟩),.slice r.A r.ds.length r.cap,.int .i64 0,.bool false,.pointer none,.pointer none,.pointer none,.pointer none,.int .i64 0]::boxI n (ruN k1 k2 k3 k4 k5)::coreI c k1 k2 k3 k4 k5 0 0 0 0 q::queueI q F [] 2::tpsI v cs::M) w) \/
 (∃ c q F n t z g cp,κs=[.pointer (some ⟨c,0,none⟩),Value.agg #[.pointer (some ⟨c,0,none⟩),.pointer (some ⟨n,0,none⟩),.slice r.A r.ds.length r.cap,.int .i64 0,.bool false,.pointer none,.pointer none,.pointer none,.pointer none,.int .i64 0],.pointer (some ⟨t,0,none⟩),.slice (some ⟨z,0,none⟩) 1 1,.slice (some ⟨g,0,none⟩) (cs.length+1) cp]/\fo=some (.pointer (some ⟨n,0,none⟩))/\Env w0 (boxI z [.pointer (some ⟨t,0,none⟩)]::boxI t [.pointer (some ⟨c,0,none⟩),.pointer (some ⟨n,0,none⟩),.slice r.A r.ds.length r.cap,.int .i64 0,.bool false,.pointer none,.pointer none,.pointer none,.pointer none,.int .i64 0]::boxI n (ruN k1 k2 k3 k4 k5)::coreI c k1 k2 k3 k4 k5 0 0 0 0 q::queueI q F [] 2::tpsI (.slice (some ⟨g,0,none⟩) (cs.length+1) cp) (cs++[t])::M) w) \/
 (∃ c q F n t z g cp,κs=[.pointer (some ⟨c,0,none⟩),Value.agg #[.pointer (some ⟨c,0,none⟩),.pointer (some ⟨n,0,none⟩),.slice r.A r.ds.length r.cap,.int .i64 0,.bool false,.pointer none,.pointer none,.pointer none,.pointer none,.int .i64 0],.pointer (some ⟨t,0,none⟩),.slice (some ⟨z,0,none⟩) 1 1,.slice (some ⟨g,0,none⟩) (cs.length+1) cp,.slice (some ⟨g,0,none⟩) (cs.length+1) cp]/\fo=some (.pointer (some ⟨n,0,none⟩))/\Env w0 (boxI z [.pointer (some ⟨t,0,none⟩)]::boxI t [.pointer (some ⟨c,0,none⟩),.pointer (some ⟨n,0,none⟩),.slice r.A r.ds.length r.cap,.int .i64 0,.bool false,.pointer none,.pointer none,.pointer none,.pointer none,.int .i64 0]::boxI n (ruN k1 k2 k3 k4 k5)::coreI c k1 k2 k3 k4 k5 0 0 0 0 q::queueI q F [] 2::tpsI (.slice (some ⟨g,0,none⟩) (cs.length+1) cp) (cs++[t])::M) w)
section
variable {w0 w:World} {L:List Item}
theorem begun_k (k1 k2 k3 k4 k5:Int) (A:Option Addr) (cap:Nat) (rs:List Rw) (hrs:rs.length<=4) (hrow:RowX encRw 1 w0 A rs) (hc:chkI k1 k2 k3 k4 k5=0) (hE:Env w0 L w) :
  Calls prog 26 #[.agg #[.int .i64 k1,.int .i64 k2,.int .i64 k3,.int .i64 k4,.int .i64 k5],.slice A rs.length cap] w fun o w'=>∃ (p cc m g cp:Nat) (S:GS),o=.returned (.tuple #[.pointer (some ⟨p,0,none⟩),.pointer (some ⟨m,0,none⟩),.slice (some ⟨g,0,none⟩) rs.length cp])/\S.ps.length=rs.length/\(∀ i,i < rs.length->∃ q,S.ps[i]?=some q/\New0 q (rs.getD i default))/\S.ml=ml0/\S.n<=1/\QB 2 S.qc/\Env w0 (EL ⟨k1,k2,k3,k4,k5⟩ (.slice (some ⟨g,0,none⟩) rs.length cp) p cc m S L) w':=by
 have HROW:=zH hrow;have HC:=zH hc;have HRS:=zH hrs;replace hE:=hE.box w.heap.size rfl [.int .i64 k1,.int .i64 k2,.int .i64 k3,.int .i64 k4,.int .i64 k5] 58;clear hrow hc;go_enter func26,ntmps26;go_wp2_with fail;generalize w.alloc _=w2 at *;generalize w.heap.size=Y at *;refine (new_w hE).mono ?_;rintro o w3 ⟨p,cc,rfl,hE3,hb⟩;clear hb hE;go_wp2_with fail;refine (start_w 0 1 (by decide) (by unfold maxLen; omega) hE3 rfl rfl).mono ?_;rintro o w4 ⟨rfl,F4,hE4⟩;simp only [zS,zZ] at hE4;clear hE3;generalize hq4:({ l:=_,s:=_,w:=_,f:=_,a:=_ }:Cnt)=q4 at hE4;have hqb:QB 2 q4:=by
  rw [<- hq4];have h1:=w64 (0+1) (by omega);unfold QB;dsimp only;rw [h1];omega
 have HQB:=zH hqb;clear hq4 hqb;replace hE4:=hE4.newU w4.heap.size rfl 102;go_wp2_with fail;refine (epoch13_any _).mono ?_;rintro o w5 ⟨rfl,hb⟩;replace hE4:=hE4.over hb;clear hb;generalize w4.heap.size=m at *;go_wp2_with fail;refine (refSet_any 1 0 0 1 (by simp) (hE4.ref 0 rfl)).mono ?_;rintro o w6 ⟨rfl,F6,hU,hs⟩;replace hE4:=hE4.turnU 0 rfl hU hs;simp only [zZ] at hE4;clear hU hs;have hE5:=hE4.tpEmpty w6.heap.size rfl;clear hE4;obtain ⟨g0,hg0⟩:∃ g0,w6.heap.size=g0:=⟨_,rfl⟩;obtain ⟨M0,hM0⟩:∃ M0,M0=refI m F6 (setL [] (1,0,0) 1)::wbox p cc::cellI cc F4 (upd (fun _=>0) (1,0,0) 1) q4 (0+1)::L:=⟨_,rfl⟩;replace hE5:=hE5.perm (L':=tpsI (.slice (some ⟨w6.heap.size,0,none⟩) 0 0) []::boxI Y [.int .i64 k1,.int .i64 k2,.int .i64 k3,.int .i64 k4,.int .i64 k5]::refI m F6 (setL [] (1,0,0) 1)::wbox p cc::cellI cc F4 (upd (fun _=>0) (1,0,0) 1) q4 (0+1)::L) (perm_of fun z=>by simp only [List.count_cons]; omega);have HM0:=zH hM0;rw [<- hM0] at hE5;clear hM0;go_wp2_with fail;rw [hg0] at hE5;clear hg0
 go_loopw [9,10] (fun ov iv wr=>∃ (j g cp:Nat) (ps:List Pk),j<=rs.length/\iv=.int .i64 j/\ps.length=j/\ov=.slice (some ⟨g,0,none⟩) j cp/\Hid (∀ i,i < j->∃ p,ps[i]?=some p/\New0 p (rs.getD i default))/\Env w0 (tpsI ov (ps.map fun p=>p.X.thr)::boxI Y [.int .i64 k1,.int .i64 k2,.int .i64 k3,.int .i64 k4,.int .i64 k5]::(ps.flatMap (Pk.its ⟨k1,k2,k3,k4,k5⟩)++M0)) wr) (fun _ iv _=>rs.length - (intOf iv).toNat)
 case atStart=>exact ⟨0,_,0,[],Nat.zero_le _,rfl,rfl,rfl,zH (fun i hi=>absurd hi (Nat.not_lt_zero _)),hE5⟩
 case round =>
  clear hE5;obtain ⟨j,g,cp,ps,hj,rfl,hpl,rfl,hall,hE⟩:=hrel;have HPL:=zH hpl;clear hpl
  by_cases hlt:j < rs.length
  ·have hb1:decide ((j:Int) < (rs.length:Int))=true:=by simp; omega
   have hlt1:(j:Int) < (rs.length:Int):=by omega
   obtain ⟨g9,off,hA,hc⟩:=rowRw HROW.out (Below.refl _ _) j hlt;have HA9:=zH hA;subst hA;have HCC:=zH hc;obtain ⟨r,hr⟩:∃ r,rs.getD j default=r:=⟨_,rfl⟩;rw [hr] at HCC;have HR:=zH hr;clear hc hr;obtain ⟨M,hM⟩:∃ M,M=(boxI Y [.int .i64 k1,.int .i64 k2,.int .i64 k3,.int .i64 k4,.int .i64 k5]::(ps.flatMap (Pk.its ⟨k1,k2,k3,k4,k5⟩)++M0)):=⟨_,rfl⟩;have hym:boxI Y [.int .i64 k1,.int .i64 k2,.int .i64 k3,.int .i64 k4,.int .i64 k5]∈M:=by rw [hM]; simp
   have HYM:=zH hym;clear hym;rw [<- hM] at hE;obtain ⟨v,hv⟩:∃ v,v=Value.slice (some ⟨g,0,none⟩) j cp:=⟨_,rfl⟩;obtain ⟨cs,hcs⟩:∃ cs,cs=ps.map fun p=>p.X.thr:=⟨_,rfl⟩;rw [<- hv,<- hcs] at hE;have hcl:cs.length=j:=by rw [hcs,List.length_map]; exact HPL.out
   have HM:=zH hM;have HCS:=zH hcs;have HCL:=zH hcl;have HLT:=zH hlt;clear hM hcs hcl hlt
   go_upto_region 9 with fail
   subst hv;refine OrdF.wp_float [?_,?_,?_,?_,?_,OrdF.Ptr,?_,?_,?_,?_,?_,?_,?_,?_,?_] [2,10,11,12,13,14] 5 (fun v=>Below w0.heap.size w0 v/\Blk 0 v Y [.int .i64 k1,.int .i64 k2,.int .i64 k3,.int .i64 k4,.int .i64 k5]) (ThA w0 k1 k2 k3 k4 k5 r (.slice (some ⟨g,0,none⟩) j cp) cs M) (by kernel_rfl) (by kernel_rfl) (by kernel_rfl) ⟨hE.drew.below,(hE.drew.2.2 (boxI Y [.int .i64 k1,.int .i64 k2,.int .i64 k3,.int .i64 k4,.int .i64 k5]) (by simp [HYM.out])).1⟩ (.inl ⟨rfl,.inl ⟨rfl,hE.drew⟩⟩) (fun hT=>?_);rotate_left 14;have hT9:=zH hT;clear hT
   repeat ((first
    | (focus (refine OrdF.in_value (v:=?_) hT9.o (by decide) (by decide) ?_ (by rfl) ?_ ?_; rotate_left 2; (intro w5 hS; have c0:=HCC.out _ hS.1; have r9:=Blk.rule hS.2; go_simp<;>rfl); rotate_right; (focus rfl)))
    | (focus (refine OrdF.in_off hT9.o (by decide) (by decide) ?_ (by rfl) ?_; (focus rfl))));try simp only [Act.put,zA,zZ,zS])
   refine OrdF.in_turn OrdF.Ptr rfl (fun u=>∃ z,u=.pointer (some ⟨z,0,none⟩)) _ ⟨0,rfl⟩ hT9.o rfl (by decide) (by decide) (by rfl) ?_ (Or.inl rfl) (by rfl) ?_ ?_
   ·rfl
   ·rintro fo5 w5 - hC5 hA5
    rcases hA5 with ⟨h,hA5⟩ | ⟨c,q,F,h,hA5⟩ | ⟨c,q,F,n,h,hf,hA5⟩ | ⟨c,q,F,n,t,h,hf,hA5⟩ | ⟨c,q,F,n,t,z,h,hf,hA5⟩ | ⟨c,q,F,n,t,z,g9,cp9,h,hf,hA5⟩ | ⟨c,q,F,n,t,z,g9,cp9,h,hf,hA5⟩<;>cases h
    go_simp;simp only [Ord3.Lands]
    rcases hA5 with ⟨rfl,hE5⟩ | ⟨n5,rfl,hE5⟩
    ·refine (newYes_c k1 k2 k3 k4 k5 HC.out hE5).mono ?_;rintro o w6 ⟨c,q,F,rfl,hE6⟩;exact ⟨_,rfl,⟨_,rfl⟩,⟨hE6.below,(hE6.2.2 (boxI Y [.int .i64 k1,.int .i64 k2,.int .i64 k3,.int .i64 k4,.int .i64 k5]) (by simp [HYM.out])).1⟩,.inr (.inl ⟨c,q,F,rfl,.inl ⟨rfl,hE6⟩⟩)⟩
    ·refine (newYes_c k1 k2 k3 k4 k5 HC.out hE5).mono ?_;rintro o w6 ⟨c,q,F,rfl,hE6⟩;exact ⟨_,rfl,⟨_,rfl⟩,⟨hE6.below,(hE6.2.2 (boxI Y [.int .i64 k1,.int .i64 k2,.int .i64 k3,.int .i64 k4,.int .i64 k5]) (by simp [HYM.out])).1⟩,.inr (.inl ⟨c,q,F,rfl,.inr ⟨n5,rfl,hE6.perm (List.perm_middle (l₁:=[_,_]))⟩⟩)⟩
   rintro _ ⟨z1,rfl⟩
   try simp only [Act.put,zA,zZ,zS]
   repeat ((first
    | (focus (refine OrdF.in_value (v:=?_) hT9.o (by decide) (by decide) ?_ (by rfl) ?_ ?_; rotate_left 2; (intro w5 hS; have c0:=HCC.out _ hS.1; have r9:=Blk.rule hS.2; go_simp<;>rfl); rotate_right; (focus rfl)))
    | (focus (refine OrdF.in_off hT9.o (by decide) (by decide) ?_ (by rfl) ?_; (focus rfl))));try simp only [Act.put,zA,zZ,zS])
   refine OrdF.in_float OrdF.Ptr (.pointer (some ⟨0,0,none⟩)) ⟨0,rfl⟩ hT9.o rfl (by decide) ?_ (by rfl) ?_ ?_
   ·rfl
   ·intro w5 κs5 hC5 hA5
    rcases hA5 with ⟨h,hA5⟩ | ⟨c,q,F,h,hA5⟩ | ⟨c,q,F,n,h,hf,hA5⟩ | ⟨c,q,F,n,t,h,hf,hA5⟩ | ⟨c,q,F,n,t,z,h,hf,hA5⟩ | ⟨c,q,F,n,t,z,g9,cp9,h,hf,hA5⟩ | ⟨c,q,F,n,t,z,g9,cp9,h,hf,hA5⟩
    ·rcases hA5 with ⟨-,hE5⟩ | ⟨n5,h5,-⟩
     ·subst h;go_simp;simp only [Ord3.Lands];have hE6:=hE5.box w5.heap.size rfl (ruN k1 k2 k3 k4 k5) 111;exact ⟨⟨_,rfl⟩,⟨hE6.below,(hE6.2.2 (boxI Y [.int .i64 k1,.int .i64 k2,.int .i64 k3,.int .i64 k4,.int .i64 k5]) (by simp [HYM.out])).1⟩,.inl ⟨rfl,.inr ⟨_,rfl,hE6⟩⟩⟩
     ·cases h5
    ·rcases hA5 with ⟨-,hE5⟩ | ⟨n5,h5,-⟩
     ·subst h;go_simp;simp only [Ord3.Lands];have hE6:=hE5.box w5.heap.size rfl (ruN k1 k2 k3 k4 k5) 111;exact ⟨⟨_,rfl⟩,⟨hE6.below,(hE6.2.2 (boxI Y [.int .i64 k1,.int .i64 k2,.int .i64 k3,.int .i64 k4,.int .i64 k5]) (by simp [HYM.out])).1⟩,.inr (.inl ⟨c,q,F,rfl,.inr ⟨_,rfl,hE6⟩⟩)⟩
     ·cases h5
    all_goals cases hf
   rintro _ ⟨n1,rfl⟩
   try simp only [Act.put,zA,zZ,zS]
   repeat ((first
    | (focus (refine OrdF.in_value (v:=?_) hT9.o (by decide) (by decide) ?_ (by rfl) ?_ ?_; rotate_left 2; (intro w5 hS; have c0:=HCC.out _ hS.1; have r9:=Blk.rule hS.2; go_simp<;>rfl); rotate_right; (focus rfl)))
    | (focus (refine OrdF.in_off hT9.o (by decide) (by decide) ?_ (by rfl) ?_; (focus rfl))));try simp only [Act.put,zA,zZ,zS])
   refine OrdF.in_turn_late (by kernel_rfl) (by decide) (by decide) (fun u=>∃ c n,u=Value.agg #[.pointer (some ⟨c,0,none⟩),.pointer (some ⟨n,0,none⟩),.slice r.A r.ds.length r.cap,.int .i64 0,.bool false,.pointer none,.pointer none,.pointer none,.pointer none,.int .i64 0]) _ ⟨0,0,rfl⟩ hT9.o rfl (by decide) (by rfl) ?_ (Or.inr ⟨_,2,[],rfl,by kernel_rfl,by kernel_rfl,rfl⟩) (by rfl) ?_ ?_
   ·rfl
   ·rintro w5 hC5 hA5
    rcases hA5 with ⟨h,hA5⟩ | ⟨c,q,F,h,hA5⟩ | ⟨c,q,F,n,h,hf,hA5⟩ | ⟨c,q,F,n,t,h,hf,hA5⟩ | ⟨c,q,F,n,t,z,h,hf,hA5⟩ | ⟨c,q,F,n,t,z,g9,cp9,h,hf,hA5⟩ | ⟨c,q,F,n,t,z,g9,cp9,h,hf,hA5⟩<;>cases h
    rcases hA5 with ⟨hn,-⟩ | ⟨n5,hn,hE5⟩
    ·cases hn
    cases hn;go_simp;simp only [Ord3.Lands];exact ⟨⟨_,_,rfl⟩,hC5,.inr (.inr (.inl ⟨_,q,F,_,rfl,rfl,hE5⟩))⟩
   rintro _ ⟨c2,n2,rfl⟩
   try simp only [Act.put,zA,zZ,zS]
   refine OrdF.in_turn OrdF.Ptr rfl (fun u=>∃ z,u=.pointer (some ⟨z,0,none⟩)) _ ⟨0,rfl⟩ hT9.o rfl (by decide) (by decide) (by rfl) ?_ (Or.inr ⟨_,10,[],rfl,by kernel_rfl,by kernel_rfl,rfl⟩) (by rfl) ?_ ?_
   ·rfl
   ·rintro fo5 w5 - hC5 hA5
    rcases hA5 with ⟨h,hA5⟩ | ⟨c,q,F,h,hA5⟩ | ⟨c,q,F,n,h,hf,hA5⟩ | ⟨c,q,F,n,t,h,hf,hA5⟩ | ⟨c,q,F,n,t,z,h,hf,hA5⟩ | ⟨c,q,F,n,t,z,g9,cp9,h,hf,hA5⟩ | ⟨c,q,F,n,t,z,g9,cp9,h,hf,hA5⟩<;>cases h
    subst hf;go_simp;simp only [Ord3.Lands];have hE6:=hA5.box w5.heap.size rfl [.pointer (some ⟨z1,0,none⟩),.pointer (some ⟨n2,0,none⟩),.slice r.A r.ds.length r.cap,.int .i64 0,.bool false,.pointer none,.pointer none,.pointer none,.pointer none,.int .i64 0] 75;exact ⟨⟨_,rfl⟩,⟨hE6.below,(hE6.2.2 (boxI Y [.int .i64 k1,.int .i64 k2,.int .i64 k3,.int .i64 k4,.int .i64 k5]) (by simp [HYM.out])).1⟩,.inr (.inr (.inr (.inl ⟨_,q,F,_,_,rfl,rfl,hE6⟩)))⟩
   rintro _ ⟨t3,rfl⟩
   try simp only [Act.put,zA,zZ,zS]
   refine OrdF.in_turn OrdF.Ptr rfl (fun u=>∃ z,u=.slice (some ⟨z,0,none⟩) 1 1) _ ⟨0,rfl⟩ hT9.o rfl (by decide) (by decide) (by rfl) ?_ (Or.inr ⟨_,11,[],rfl,by kernel_rfl,by kernel_rfl,rfl⟩) (by rfl) ?_ ?_
   ·rfl
   ·rintro fo5 w5 - hC5 hA5
    rcases hA5 with ⟨h,hA5⟩ | ⟨c,q,F,h,hA5⟩ | ⟨c,q,F,n,h,hf,hA5⟩ | ⟨c,q,F,n,t,h,hf,hA5⟩ | ⟨c,q,F,n,t,z,h,hf,hA5⟩ | ⟨c,q,F,n,t,z,g9,cp9,h,hf,hA5⟩ | ⟨c,q,F,n,t,z,g9,cp9,h,hf,hA5⟩<;>cases h
    subst hf;go_simp;simp only [Ord3.Lands];have hE6:=hA5.box w5.heap.size rfl [.pointer (some ⟨t3,0,none⟩)] 68;exact ⟨⟨_,rfl⟩,⟨hE6.below,(hE6.2.2 (boxI Y [.int .i64 k1,.int .i64 k2,.int .i64 k3,.int .i64 k4,.int .i64 k5]) (by simp [HYM.out])).1⟩,.inr (.inr (.inr (.inr (.inl ⟨_,q,F,_,_,_,rfl,rfl,hE6⟩))))⟩
   rintro _ ⟨z4,rfl⟩
   try simp only [Act.put,zA,zZ,zS]
   refine OrdF.in_turn OrdF.Ptr rfl (fun u=>∃ g9 cp9,u=.slice (some ⟨g9,0,none⟩) (cs.length+1) cp9) _ ⟨0,0,rfl⟩ hT9.o rfl (by decide) (by decide) (by rfl) ?_ (Or.inr ⟨_,12,[],rfl,by kernel_rfl,by kernel_rfl,rfl⟩) (by rfl) ?_ ?_
   ·rfl
   ·rintro fo5 w5 - hC5 hA5
    rcases hA5 with ⟨h,hA5⟩ | ⟨c,q,F,h,hA5⟩ | ⟨c,q,F,n,h,hf,hA5⟩ | ⟨c,q,F,n,t,h,hf,hA5⟩ | ⟨c,q,F,n,t,z,h,hf,hA5⟩ | ⟨c,q,F,n,t,z,g9,cp9,h,hf,hA5⟩ | ⟨c,q,F,n,t,z,g9,cp9,h,hf,hA5⟩<;>cases h
    obtain ⟨g9,cp9,w6,hrun,hE6⟩:=hA5.appendB 5 0 rfl rfl (by have:=HCL.out; have:=HRS.out; omega);subst hf;rw [run_call_append (.tmp 27) (.tmp 39) 65 rfl (by rfl) (by rfl) hrun];simp only [Ord3.Lands];exact ⟨⟨_,_,rfl⟩,⟨hE6.below,(hE6.2.2 (boxI Y [.int .i64 k1,.int .i64 k2,.int .i64 k3,.int .i64 k4,.int .i64 k5]) (by simp [HYM.out])).1⟩,.inr (.inr (.inr (.inr (.inr (.inl ⟨_,q,F,_,_,_,g9,cp9,rfl,rfl,hE6⟩)))))⟩
   rintro _ ⟨g5,cp5,rfl⟩
   try simp only [Act.put,zA,zZ,zS]
   refine OrdF.in_turn OrdF.Ptr rfl (fun u=>∃ g9 cp9,u=.slice (some ⟨g9,0,none⟩) (cs.length+1) cp9) _ ⟨0,0,rfl⟩ hT9.o rfl (by decide) (by decide) (by rfl) ?_ (Or.inr ⟨_,13,[],rfl,by kernel_rfl,by kernel_rfl,rfl⟩) (by rfl) ?_ ?_
   ·rfl
   ·rintro fo5 w5 - hC5 hA5
    rcases hA5 with ⟨h,hA5⟩ | ⟨c,q,F,h,hA5⟩ | ⟨c,q,F,n,h,hf,hA5⟩ | ⟨c,q,F,n,t,h,hf,hA5⟩ | ⟨c,q,F,n,t,z,h,hf,hA5⟩ | ⟨c,q,F,n,t,z,g9,cp9,h,hf,hA5⟩ | ⟨c,q,F,n,t,z,g9,cp9,h,hf,hA5⟩<;>cases h
    subst hf;go_simp;simp only [Ord3.Lands];exact ⟨⟨_,_,rfl⟩,hC5,.inr (.inr (.inr (.inr (.inr (.inr ⟨_,q,F,_,_,_,_,_,rfl,rfl,hA5⟩)))))⟩
   rintro _ ⟨g6,cp6,rfl⟩
   try simp only [Act.put,zA,zZ,zS]
   refine OrdF.in_nil rfl (by decide) (by decide) ?_;rintro w5 hC5 hA5
   rcases hA5 with ⟨h,hA5⟩ | ⟨c,q,F,h,hA5⟩ | ⟨c,q,F,n,h,hf,hA5⟩ | ⟨c,q,F,n,t,h,hf,hA5⟩ | ⟨c,q,F,n,t,z,h,hf,hA5⟩ | ⟨c,q,F,n,t,z,g9,cp9,h,hf,hA5⟩ | ⟨c,q,F,n,t,z,g9,cp9,h,hf,hA5⟩<;>cases h
   clear hT9 hC5 hf hb1 hlt1 HCC;obtain ⟨p9,hp9⟩:∃ p9:Pk,p9=⟨{ thr:=t3,c:=z1,q:=q,u:=n2,F:=F,kq:=2,A:=none,rc:=0,N:=0,cr:=0,ro:=0,dA:=r.A,dn:=r.ds.length,dc:=r.cap,pa:=.pointer none,pb:=.pointer none,pr:=.pointer none,pq:=.pointer none,pg:=.pointer none,ph:=.pointer none },K0,.pointer none,.pointer none,.pointer none,.pointer none,0,[]⟩:=⟨_,rfl⟩;have hits:Pk.its ⟨k1,k2,k3,k4,k5⟩ p9=[coreI z1 k1 k2 k3 k4 k5 0 0 0 0 q,queueI q F [] 2,boxI n2 (ruN k1 k2 k3 k4 k5),rrI none 0 [],boxI t3 [.pointer (some ⟨z1,0,none⟩),.pointer (some ⟨n2,0,none⟩),.slice r.A r.ds.length r.cap,.int .i64 0,.bool false,.pointer none,.pointer none,.pointer none,.pointer none,.int .i64 0]]:=by
    rw [hp9];rfl
   have hn9:New0 p9 r/\p9.X.thr=t3:=by
    rw [hp9];exact ⟨⟨rfl,rfl,rfl,rfl,rfl,Int.le_refl _,(by show (0:Int)<=4000000; decide),rfl⟩,rfl⟩
   have hE7:=(hA5.sub (.cons _ (List.Sublist.refl _))).addNone3 159;have hE8:Env w0 (tpsI (.slice (some ⟨g5,0,none⟩) (j+1) cp5) ((ps++[p9]).map fun p=>p.X.thr)::boxI Y [.int .i64 k1,.int .i64 k2,.int .i64 k3,.int .i64 k4,.int .i64 k5]::((ps++[p9]).flatMap (Pk.its ⟨k1,k2,k3,k4,k5⟩)++M0)) w5:=by
    have e1:(ps++[p9]).map (fun p=>p.X.thr)=cs++[t3]:=by rw [List.map_append,HCS.out]; simp [hn9.2]
    rw [e1,<- HCL.out];refine hE7.perm (perm_of fun z=>?_);rw [HM.out];simp only [List.flatMap_append,List.flatMap_cons,List.flatMap_nil,hits,rrI,List.length_nil,List.count_append,List.count_cons,List.count_nil];omega
   have HE8:=zH hE8;have HN9:=zH hn9;clear hE8 hE7 hA5 hn9 hits hp9;go_wp2_with fail;have hlt:=HLT.out;have hpl:=HPL.out;refine ⟨⟨j+1,g5,cp5,ps++[p9],by omega,by simp,by simp [hpl],by simp [HCL.out],zH ?_,?_⟩,?_⟩
   ·intro i hi
    by_cases he:i < j
    ·obtain ⟨p,h1,h2⟩:=hall.out i he;exact ⟨p,by rw [List.getElem?_append_left (by omega)]; exact h1,h2⟩
    ·have he:i=j:=by omega
     subst he;refine ⟨p9,?_,by rw [HR.out]; exact HN9.out.1⟩;rw [List.getElem?_append_right (by omega)];simp [hpl]
   ·have:=HE8.out;rw [HCL.out];exact this
   ·simp only [intOf];omega
  ·have hb1:decide ((j:Int) < (rs.length:Int))=false:=by simp; omega
   have HLT:=zH hlt;clear hlt;go_wp2_with fail;have hlt:=HLT.out;have hjr:j=rs.length:=by omega
   subst hjr;have hf0:upd (fun _=>0) (1,0,0) 1=getL ml0:=by
    funext x
    rw [ml0_at];unfold upd
    by_cases hx:x=(1,0,0)
    ·simp [hx]
    ·simp [hx]
   refine bodyPost_ret (v:=.tuple #[.pointer (some ⟨p,0,none⟩),.pointer (some ⟨m,0,none⟩),.slice (some ⟨g,0,none⟩) rs.length cp]) (by simp [results,results26,go_sem]) rfl ⟨p,cc,m,g,cp,⟨ps,F4,F6,q4,0+1,ml0⟩,rfl,HPL.out,hall.out,rfl,Nat.le_refl 1,HQB.out,(hE.sub (.cons_cons _ (.cons _ (List.Sublist.refl _)))).perm (perm_of fun z=>?_)⟩;rw [HM0.out,hf0];simp only [EL,ml0,List.count_append,List.count_cons];omega
end
end
section
open Go.RowKit Go.WideShapes Go.ChangeShapes Go.ChangeAt Go.Deep
def plainT (P:Program):Nat->TypeId->Bool
 | 0,_=>false
 | d+1,t =>
  match P.underlying t with
  | some .bool=>true
  | some (.int _)=>true
  | some (.struct fs)=>fs.toList.all fun f=>plainT P d f.type
  | some (.slice e)=>plainT P d e && decide (0 < P.cellsOf e)
  | _=>false
def Good (P:Program) (w:World):Nat->TypeId->List Value->Prop
 | 0,_,_=>False
 | d+1,t,cs =>
  match P.underlying t with
  | some .bool=>∃ b,cs=[.bool b]
  | some (.int k)=>∃ n,cs=[.int k n]/\(Lit.int k n).wf=true
  | some (.struct fs)=>cs.length=P.cellsOf t/\∀ f∈fs.toList,Good P w d f.type ((cs.drop f.offset).take (P.cellsOf f.type))
  | some (.slice e)=>∃ A len cap,cs=[.slice A len cap]/\len<=maxLen/\len<=cap/\(len=0\/∃ b off,A=some ⟨b,off,none⟩/\b < w.heap.size/\∀ i,i < len->∃ us:List Value,us.length=P.cellsOf e/\CellsAt w b (off+i * P.cellsOf e) us/\Good P w d e us)
  | _=>False
section
variable {H:Type} {enc:TypeId × Value->H} {P:Program} {w:World} {held:Bool}
theorem good_of_trod:∀ (d:Nat) {t:TypeId} {fuel:Nat} {cs:List Value} {x:DataW H × List MemPlace},plainT P d t=true->DataW.trod enc P w 0 (fun _=>true) held fuel t cs=some x->(∀ p∈x.2,p.block < w.heap.size)->Good P w d t cs
 | 0,_,_,_,_,h,_,_=>by simp [plainT] at h
 | d+1,t,fuel,cs,x,h,hx,hlt=>by
  unfold plainT at h;unfold Good
  split at h
  ·rename_i hu;obtain ⟨b,rfl,_⟩:=DataW.trod_bool hu hx
   try rw [hu]
   exact ⟨b,rfl⟩
  ·rename_i k hu;obtain ⟨n,rfl,_,hw⟩:=DataW.trod_int hu hx
   try rw [hu]
   exact ⟨n,rfl,hw⟩
  ·rename_i fs hu;obtain ⟨xs,n,_,rfl,hl,hlen,hall⟩:=DataW.trod_struct hu hx
   try rw [hu]
   refine ⟨hl,fun f hf=>?_⟩;obtain ⟨i,hi,he⟩:=List.getElem_of_mem hf;have hi':i < fs.size:=by simpa using hi
   have h1:=hall i f (by simp [hi']; simpa using he);have hix:i < xs.length:=by omega
   rw [List.getElem?_eq_getElem hix] at h1;exact good_of_trod d (List.all_eq_true.1 h f hf) h1 fun p hp=>hlt p (List.mem_flatMap.2 ⟨xs[i],List.getElem_mem hix,hp⟩)
  ·rename_i e hu;rw [Bool.and_eq_true,decide_eq_true_iff] at h;obtain ⟨h1,h0⟩:=h
   try rw [hu]
   rcases open_slice hu hx with ⟨rfl,_⟩ | ⟨a,len,cap,m,n,D,Pl,rfl,_,hl,hm,hmm,rfl,hall⟩
   ·exact ⟨none,0,0,rfl,Nat.zero_le _,Nat.le_refl _,.inl rfl⟩
   ·simp only [if_true] at hmm;subst hmm;refine ⟨some a,len,m,rfl,by omega,by omega,?_⟩
    by_cases hz:len=0
    ·exact .inl hz
    ·right
     have each:∀ i,i < m->∃ us:List Value,us.length=P.cellsOf e/\(∀ j v,us[j]?=some v->w.cell? (a.add (i * P.cellsOf e+j))=some v)/\Good P w d e us:=fun i hi=>by
      obtain ⟨cs',h2,h3⟩:=hall i hi;obtain ⟨_,hlen,hcell⟩:=World.cells?_some h2;refine ⟨cs',hlen,fun j v hj=>?_,good_of_trod d h1 h3 fun p hp=>hlt p (List.mem_append_right _ (List.mem_flatMap.2 ⟨i,by simpa using hi,hp⟩))⟩;have hjl:j < P.cellsOf e:=by have:=(List.getElem?_eq_some_iff.1 hj).1; omega
      have:=hcell j hjl;rw [add_add,hj] at this;exact this
     obtain ⟨b,off,spot⟩:=a;have hspot:spot=none:=by
      obtain ⟨us,hl',hc,_⟩:=each 0 (by omega);have:=hc 0 (us[0]'(by omega)) (by simp)
      simpa [Addr.add] using World.cell?_spot this
     subst hspot;refine ⟨b,off,rfl,hlt (.cell b off) (List.mem_append_left _ (MemPlace.mem_row.2 ⟨0,Nat.mul_pos (by omega) h0,by simp⟩)),fun i hi=>?_⟩;obtain ⟨us,h4,h5,h6⟩:=each i (by omega);refine ⟨us,h4,fun j v hj=>?_,h6⟩;have:=h5 j v hj;rw [add_plain] at this;rw [Nat.add_assoc]; exact this
  ·cases h
end
theorem Good.rowC {α:Type} [Inhabited α] {enc:α->List Value} {Ok:α->Prop} {P:Program} {w:World} {t e:TypeId} {d:Nat} {cs:List Value} (ht:P.underlying t=some (.slice e)) (h:Good P w (d+1) t cs)
  (hdec:∀ us,us.length=P.cellsOf e->Good P w d e us->∃ r:α,enc r=us/\Ok r) :
  ∃ A cap,∃ xs:List α,cs=[.slice A xs.length cap]/\xs.length<=maxLen/\xs.length<=cap/\(∀ r∈xs,Ok r)/\RowX enc (P.cellsOf e) w A xs:=by
 unfold Good at h;rw [ht] at h;obtain ⟨A,len,cap,rfl,hm,hcap,hz | ⟨b,off,rfl,hb,hall⟩⟩:=h
 ·subst hz;exact ⟨A,cap,[],rfl,hm,Nat.zero_le _,by simp,.inl rfl⟩
 ·have each:∀ i,i < len->∃ r:α,CellsAt w b (off+i * P.cellsOf e) (enc r)/\Ok r:=fun i hi=>by
   obtain ⟨us,h1,h2,h3⟩:=hall i hi;obtain ⟨r,rfl,hr⟩:=hdec us h1 h3;exact ⟨r,h2,hr⟩
  obtain ⟨f,hf⟩:=choose_lt each;refine ⟨some ⟨b,off,none⟩,cap,(List.range len).map f,by simp,by simpa using hm,by simpa using hcap,fun r hr=>?_,?_⟩
  ·obtain ⟨i,hi,rfl⟩:=List.mem_map.1 hr;exact (hf i (by simpa using hi)).2
  ·refine .inr ⟨b,off,rfl,hb,fun i hi=>?_⟩;have hi':i < len:=by simpa using hi
   have e:((List.range len).map f).getD i default=f i:=by simp [hi']
   rw [e];exact (hf i hi').1
theorem Good.row {α:Type} [Inhabited α] {enc:α->List Value} {Ok:α->Prop} {P:Program} {w:World} {t e:TypeId} {d:Nat} {cs:List Value} (ht:P.underlying t=some (.slice e)) (h:Good P w (d+1) t cs)
  (hdec:∀ us,us.length=P.cellsOf e->Good P w d e us->∃ r:α,enc r=us/\Ok r) :
  ∃ A cap,∃ xs:List α,cs=[.slice A xs.length cap]/\xs.length<=maxLen/\(∀ r∈xs,Ok r)/\RowX enc (P.cellsOf e) w A xs:=by
 obtain ⟨A,cap,xs,h1,h2,-,h3,h4⟩:=h.rowC ht hdec;exact ⟨A,cap,xs,h1,h2,h3,h4⟩
theorem open_rowG {α:Type} [Inhabited α] {enc:α->List Value} {Ok:α->Prop} {P:Program} {H:Type} {en:TypeId × Value->H} {W:World} {t e:TypeId} {d:Nat} {A:Option Addr} {len cap:Nat} {dt:DataW H} {p:List MemPlace}
  (ht:P.underlying t=some (.slice e)) (hpl:plainT P (d+1) t=true)
  (hdec:∀ us,us.length=P.cellsOf e->Good P W d e us->∃ r:α,enc r=us/\Ok r)
  (h:DataW.Trod en P W 0 (fun _=>true) true t (.slice A len cap) dt p) (hlt:∀ x∈p,x.block < W.heap.size) :
  ∃ xs:List α,xs.length=len/\len<=maxLen/\(∀ r∈xs,Ok r)/\RowX enc (P.cellsOf e) W A xs:=by
 obtain ⟨fuel,hf⟩:=h;have hg:=good_of_trod (d+1) hpl hf hlt;obtain ⟨A',cap',xs,he,h1,h2,h3⟩:=hg.row ht hdec;simp only [Value.cells,List.cons.injEq,Value.slice.injEq,and_true] at he;obtain ⟨rfl,rfl,rfl⟩:=he;exact ⟨xs,rfl,h1,h2,h3⟩
theorem Good.int {P:Program} {w:World} {t:TypeId} {k:IntKind} {d:Nat} {cs:List Value} (ht:P.underlying t=some (.int k)) (h:Good P w (d+1) t cs):∃ n,cs=[.int k n]/\(Lit.int k n).wf=true:=by
 unfold Good at h; rw [ht] at h; exact h
theorem Good.struct {P:Program} {w:World} {t:TypeId} {fs:Array Field} {d:Nat} {cs:List Value} (ht:P.underlying t=some (.struct fs)) (h:Good P w (d+1) t cs):cs.length=P.cellsOf t/\∀ f∈fs.toList,Good P w d f.type ((cs.drop f.offset).take (P.cellsOf f.type)):=by
 unfold Good at h; rw [ht] at h; exact h
end
section
open Go.RowKit Go.Maps Go.Deep
def OkRw (W:World) (r:Rw):Prop:=r.ds.length<=maxLen/\(∀ d∈r.ds,InU d.key/\InU d.val)/\RowX encOp 4 W r.A r.ds
theorem cellsIntA:prog.cellsOf 3=1:=by kernel_rfl
theorem cellsU64A:prog.cellsOf 48=1:=by kernel_rfl
theorem cellsOpA:prog.cellsOf 50=4:=by kernel_rfl
theorem cellsRwA:prog.cellsOf 39=1:=by kernel_rfl
theorem dec_Dd (W:World) (us:List Value) (hl:us.length=prog.cellsOf 50) (h:Good prog W 5 50 us):∃ r:Dd,encOp r=us/\(InU r.key/\InU r.val):=by
 rw [cellsOpA] at hl
 match us,hl with
 | [u1,u2,u3,u4],_ =>
  obtain ⟨_,hg⟩:=Good.struct Tryz.underlying50 h;have g0:=hg _ (List.Mem.head _);have g1:=hg _ (List.Mem.tail _ (List.Mem.head _));have g2:=hg _ (List.Mem.tail _ (List.Mem.tail _ (List.Mem.head _)));have g3:=hg _ (List.Mem.tail _ (List.Mem.tail _ (List.Mem.tail _ (List.Mem.head _))));simp only [cellsIntA,cellsU64A,List.drop_zero,List.drop_succ_cons,List.take_succ_cons,List.take_zero] at g0 g1 g2 g3;obtain ⟨n1,e1,_⟩:=Good.int Tryz.underlying3 g0;obtain ⟨n2,e2,w2⟩:=Good.int Tryz.underlying48 g1;obtain ⟨n3,e3,w3⟩:=Good.int Tryz.underlying48 g2;obtain ⟨n4,e4,_⟩:=Good.int Tryz.underlying3 g3;simp only [List.cons.injEq,and_true] at e1 e2 e3 e4;exact ⟨⟨0,n1,n2,n3,n4⟩,by rw [e1,e2,e3,e4]; rfl,u64_in w2,u64_in w3⟩
theorem dec_Rw (W:World) (us:List Value) (_:us.length=prog.cellsOf 39) (h:Good prog W 6 39 us):∃ r:Rw,encRw r=us/\OkRw W r:=by
 obtain ⟨A,cap,xs,e,h1,h2,h3⟩:=Good.row Tryz.underlying39 h (dec_Dd W);rw [cellsOpA] at h3;exact ⟨⟨A,cap,xs⟩,e.symm,h1,h2,h3⟩
theorem plainRws:plainT prog 7 22=true:=by kernel_rfl
theorem open_Rws {H:Type} {en:TypeId × Value->H} {W:World} {A:Option Addr} {len cap:Nat} {d:DataW H} {p:List MemPlace}
  (h:DataW.Trod en prog W 0 (fun _=>true) true 22 (.slice A len cap) d p) (hlt:∀ x∈p,x.block < W.heap.size) :
  ∃ xs:List Rw,xs.length=len/\len<=maxLen/\(∀ r∈xs,OkRw W r)/\RowX encRw 1 W A xs:=by
 obtain ⟨xs,h1,h2,h3,h4⟩:=open_rowG (d:=6) Tryz.underlying22 plainRws (dec_Rw W) h hlt;rw [cellsRwA] at h4;exact ⟨xs,h1,h2,h3,h4⟩
end
section
open Go.RowKit Go.Maps
section
variable {w0:World}
def OpsOk (k1 k2 k3 k4 k5:Int) (r:Rw):Prop:=r.ds.length<=30/\∀ i,i < r.ds.length->opI k1 k2 k3 k4 k5 (r.ds.getD i default).ok (r.ds.getD i default).key (r.ds.getD i default).val (r.ds.getD i default).lv=0
theorem great_k (k1 k2 k3 k4 k5:Int) (A Ap:Option Addr) (cap capp np:Nat) (rs:List Rw) (hrs:rs.length<=9223372036854775807) (hnp:np<=9223372036854775807) (hrow:RowX encRw 1 w0 A rs) (hlen:∀ r∈rs,r.ds.length<=9223372036854775807) (hok:∀ r∈rs,RowX encOp 4 w0 r.A r.ds) (w:World) (hw:Below w0.heap.size w0 w) :
  Calls prog 25 #[.agg #[.int .i64 k1,.int .i64 k2,.int .i64 k3,.int .i64 k4,.int .i64 k5],.slice A rs.length cap,.slice Ap np capp] w fun o w'=>Below w.heap.size w w'/\(o=.returned (.bool true)\/(o=.returned (.bool false)/\(chkI k1 k2 k3 k4 k5=0/\k1=2/\k2<=40/\1<=rs.length/\rs.length<=4/\np<=1000)/\∀ i,i < rs.length->OpsOk k1 k2 k3 k4 k5 (rs.getD i default))):=by
 have hE:=(Env.start w).box w.heap.size rfl [.int .i64 k1,.int .i64 k2,.int .i64 k3,.int .i64 k4,.int .i64 k5] 58;have r0:=hE.rule 0 rfl;have HROW:=zH hrow;have HLEN:=zH hlen;have HOK:=zH hok;have HW:=zH hw;clear hrow hlen hw hok
 by_cases h0:¬ chkI k1 k2 k3 k4 k5=0
 ·have b0:(chkI k1 k2 k3 k4 k5 != 0)=true:=by simpa using h0
  have H0:=zH h0;clear h0;go_enter func25,ntmps25;go_wp2_with fail;generalize w.alloc _=w2 at *;refine (check_any k1 k2 k3 k4 k5 _).mono ?_;rintro o w3 ⟨rfl,hb⟩;replace hE:=hE.over hb;clear hb r0;have r0:=hE.rule 0 rfl;go_wp2_with fail;go_ret;exact ⟨hE.below,.inl rfl⟩
 by_cases h1:¬ k1=2
 ·have b0:(chkI k1 k2 k3 k4 k5 != 0)=false:=by simpa using h0
  have b1:(k1 != 2)=true:=by simpa using h1
  have H0:=zH h0;have H1:=zH h1;clear h0 h1;go_enter func25,ntmps25;go_wp2_with fail;generalize w.alloc _=w2 at *;refine (check_any k1 k2 k3 k4 k5 _).mono ?_;rintro o w3 ⟨rfl,hb⟩;replace hE:=hE.over hb;clear hb r0;have r0:=hE.rule 0 rfl;go_wp2_with fail;go_ret;exact ⟨hE.below,.inl rfl⟩
 by_cases h2:40 < k2
 ·have b0:(chkI k1 k2 k3 k4 k5 != 0)=false:=by simpa using h0
  have b1:(k1 != 2)=false:=by simpa using h1
  have b2:decide (k2 > 40)=true:=by simp; omega
  have d2:decide (40 < k2)=true:=by simp; omega
  have H0:=zH h0;have H1:=zH h1;have H2:=zH h2;clear h0 h1 h2;go_enter func25,ntmps25;go_wp2_with fail;generalize w.alloc _=w2 at *;refine (check_any k1 k2 k3 k4 k5 _).mono ?_;rintro o w3 ⟨rfl,hb⟩;replace hE:=hE.over hb;clear hb r0;have r0:=hE.rule 0 rfl;go_wp2_with fail;go_ret;exact ⟨hE.below,.inl rfl⟩
 by_cases h3:rs.length < 1
 ·have b0:(chkI k1 k2 k3 k4 k5 != 0)=false:=by simpa using h0
  have b1:(k1 != 2)=false:=by simpa using h1
  have b2:decide (k2 > 40)=false:=by simp; omega
  have d2:decide (40 < k2)=false:=by simp; omega
  have b3:decide ((rs.length:Int) < 1)=true:=by simp; omega
  have d3:decide ((rs.length:Int) < 1)=true:=by simp; omega
  have H0:=zH h0;have H1:=zH h1;have H2:=zH h2;have H3:=zH h3;clear h0 h1 h2 h3;go_enter func25,ntmps25;go_wp2_with fail;generalize w.alloc _=w2 at *;refine (check_any k1 k2 k3 k4 k5 _).mono ?_;rintro o w3 ⟨rfl,hb⟩;replace hE:=hE.over hb;clear hb r0;have r0:=hE.rule 0 rfl;go_wp2_with fail;go_ret;exact ⟨hE.below,.inl rfl⟩
 by_cases h4:4 < rs.length
 ·have b0:(chkI k1 k2 k3 k4 k5 != 0)=false:=by simpa using h0
  have b1:(k1 != 2)=false:=by simpa using h1
  have b2:decide (k2 > 40)=false:=by simp; omega
  have d2:decide (40 < k2)=false:=by simp; omega
  have b3:decide ((rs.length:Int) < 1)=false:=by simp; omega
  have d3:decide ((rs.length:Int) < 1)=false:=by simp; omega
  have b4:decide ((rs.length:Int) > 4)=true:=by simp; omega
  have d4:decide (4 < (rs.length:Int))=true:=by simp; omega
  have H0:=zH h0;have H1:=zH h1;have H2:=zH h2;have H3:=zH h3;have H4:=zH h4;clear h0 h1 h2 h3 h4;go_enter func25,ntmps25;go_wp2_with fail;generalize w.alloc _=w2 at *;refine (check_any k1 k2 k3 k4 k5 _).mono ?_;rintro o w3 ⟨rfl,hb⟩;replace hE:=hE.over hb;clear hb r0;have r0:=hE.rule 0 rfl;go_wp2_with fail;go_ret;exact ⟨hE.below,.inl rfl⟩
 by_cases h5:1000 < np
 ·have b0:(chkI k1 k2 k3 k4 k5 != 0)=false:=by simpa using h0
  have b1:(k1 != 2)=false:=by simpa using h1
  have b2:decide (k2 > 40)=false:=by simp; omega
  have d2:decide (40 < k2)=false:=by simp; omega
  have b3:decide ((rs.length:Int) < 1)=false:=by simp; omega
  have d3:decide ((rs.length:Int) < 1)=false:=by simp; omega
  have b4:decide ((rs.length:Int) > 4)=false:=by simp; omega
  have d4:decide (4 < (rs.length:Int))=false:=by simp; omega
  have b5:decide ((np:Int) > 1000)=true:=by simp; omega
  have d5:decide (1000 < (np:Int))=true:=by simp; omega
  have H0:=zH h0;have H1:=zH h1;have H2:=zH h2;have H3:=zH h3;have H4:=zH h4;have H5:=zH h5;clear h0 h1 h2 h3 h4 h5;go_enter func25,ntmps25;go_wp2_with fail;generalize w.alloc _=w2 at *;refine (check_any k1 k2 k3 k4 k5 _).mono ?_;rintro o w3 ⟨rfl,hb⟩;replace hE:=hE.over hb;clear hb r0;have r0:=hE.rule 0 rfl;go_wp2_with fail;go_ret;exact ⟨hE.below,.inl rfl⟩
 have b0:(chkI k1 k2 k3 k4 k5 != 0)=false:=by simpa using h0
 have b1:(k1 != 2)=false:=by simpa using h1
 have b2:decide (k2 > 40)=false:=by simp; omega
 have d2:decide (40 < k2)=false:=by simp; omega
 have b3:decide ((rs.length:Int) < 1)=false:=by simp; omega
 have d3:decide ((rs.length:Int) < 1)=false:=by simp; omega
 have b4:decide ((rs.length:Int) > 4)=false:=by simp; omega
 have d4:decide (4 < (rs.length:Int))=false:=by simp; omega
 have b5:decide ((np:Int) > 1000)=false:=by simp; omega
 have d5:decide (1000 < (np:Int))=false:=by simp; omega
 have HG:Hid (chkI k1 k2 k3 k4 k5=0/\k1=2/\k2<=40/\1<=rs.length/\rs.length<=4/\np<=1000):=zH ⟨Classical.byContradiction h0,Classical.byContradiction h1,by omega,by omega,by omega,by omega⟩;clear h0 h1 h2 h3 h4 h5;go_enter func25,ntmps25;go_wp2_with fail;generalize w.alloc _=w2 at *;refine (check_any k1 k2 k3 k4 k5 _).mono ?_;rintro o w3 ⟨rfl,hb⟩;replace hE:=hE.over hb;clear hb r0;have r0:=hE.rule 0 rfl;clear r0;generalize hY:w.heap.size=Y at *;have HY:=zH hY;clear hY;have r0:=hE.rule 0 rfl;go_wp2_with fail;clear b0 b1 b2 b3 b4 b5 d2 d3 d4 d5 r0
 go_loopw [7] (fun iv wr=>∃ (j:Nat),j<=rs.length/\iv=.int .i64 j/\Hid (∀ i,i < j->OpsOk k1 k2 k3 k4 k5 (rs.getD i default))/\Env w [boxI Y [.int .i64 k1,.int .i64 k2,.int .i64 k3,.int .i64 k4,.int .i64 k5]] wr) (fun iv _=>rs.length - (intOf iv).toNat)
 case atStart=>exact ⟨0,Nat.zero_le _,rfl,zH (fun i hi=>absurd hi (Nat.not_lt_zero _)),hE⟩
 case round =>
  clear hE;obtain ⟨j,hj,rfl,hall,hbe⟩:=hrel
  by_cases hlt:j < rs.length
  ·have hb1:decide ((j:Int) < (rs.length:Int))=true:=by simp; omega
   have hb9:(j:Int) < (rs.length:Int):=by omega
   obtain ⟨g,off,hA,hc⟩:=rowRw HROW.out HW.out j hlt;have hA9:=zH hA;subst hA;have hbw:Below w0.heap.size w0 wr:=HW.out.trans (hbe.below.mono HW.out.size);have c0:=hc wr hbw;have hmem:rs.getD j default∈rs:=by rw [show rs.getD j default=rs[j] by simp [hlt]]; exact List.getElem_mem _
   have hl9:=HLEN.out _ hmem;have hro:=HOK.out _ hmem;obtain ⟨r,hr⟩:∃ r,rs.getD j default=r:=⟨_,rfl⟩;rw [hr] at c0 hl9 hro hc;have HR:=zH hr;have HHL:=zH hlt;have HC:=zH hc;have HRO:=zH hro;clear hA9 hr hmem hlt hc hro hbw
   by_cases h40:30 < r.ds.length
   ·have b5:decide (30 < (r.ds.length:Int))=true:=by simp; omega
    clear h40;go_wp2_with fail;go_ret;exact ⟨hbe.below,.inl rfl⟩
   ·have b5:decide (30 < (r.ds.length:Int))=false:=by simp; omega
    have H40:=zH h40;clear h40;go_wp2_with fail;clear b5 c0
    go_loopw [8] (fun kv wr=>∃ (k:Nat),k<=r.ds.length/\kv=.int .i64 k/\Hid (∀ i,i < k->opI k1 k2 k3 k4 k5 (r.ds.getD i default).ok (r.ds.getD i default).key (r.ds.getD i default).val (r.ds.getD i default).lv=0)/\Env w [boxI Y [.int .i64 k1,.int .i64 k2,.int .i64 k3,.int .i64 k4,.int .i64 k5]] wr) (fun kv _=>r.ds.length - (intOf kv).toNat)
    case atStart=>exact ⟨0,Nat.zero_le _,rfl,zH (fun i hi=>absurd hi (Nat.not_lt_zero _)),hbe⟩
    case round =>
     clear hbe;obtain ⟨k,hk,rfl,hall2,hbe⟩:=hrel;have hbw:Below w0.heap.size w0 wr:=HW.out.trans (hbe.below.mono HW.out.size);have c0:=HC.out wr hbw
     by_cases hlt:k < r.ds.length
     ·have hb2:decide ((k:Int) < (r.ds.length:Int))=true:=by simp; omega
      have hb3:(k:Int) < (r.ds.length:Int):=by omega
      rcases HRO.out with h0 | ⟨gb,off2,hA2,hl2,hc2⟩
      ·rw [h0] at hlt; simp at hlt
      have hcc:Hid (∀ v,Below w0.heap.size w0 v->CellsAt v gb (off2+k * 4) (encOp (r.ds.getD k default))):=zH fun v hv=>(hc2 k hlt).below hv hl2;rw [hA2] at c0;have HC2:Hid (∀ v,Below w0.heap.size w0 v->v.cell? ⟨g,off+j,none⟩=some (.slice (some ⟨gb,off2,none⟩) r.ds.length r.cap)):=zH fun v hv=>by rw [<- hA2]; exact HC.out v hv
      obtain ⟨⟨kk,kd,key,val,lv⟩,hd⟩:∃ d,r.ds.getD k default=d:=⟨_,rfl⟩;rw [hd] at hcc;have HD:=zH hd;have HHL2:=zH hlt;have HIO:=zH fun v=>isOp_any k1 k2 k3 k4 k5 kd key val lv v;clear hd hlt hc2 hl2 hA2;obtain ⟨io,hio⟩:∃ io,opI k1 k2 k3 k4 k5 kd key val lv=io:=⟨_,rfl⟩;rw [hio] at HIO;have HI:=zH hio;clear hio;go_wp2_with fail;refine wp_text (S:=(fun v=>Below w0.heap.size w0 v/\Env w [boxI Y [.int .i64 k1,.int .i64 k2,.int .i64 k3,.int .i64 k4,.int .i64 k5]] v)) (by kernel_rfl) (by kernel_rfl) ⟨hbw.drew,hbe.drew⟩ (fun hT=>?_);have hT9:=zH hT;clear hT
      repeat ((first
       | (refine text_value (v:=?_) hT9.o (by rfl) ?_ ?_; rotate_left; (intro w5 hS; (have c0:=HC2.out _ hS.1; have rc9:=hcc.out _ hS.1; have d0:=rc9 0 _ rfl; have d1:=rc9 1 _ rfl; have d2:=rc9 2 _ rfl; have d3:=rc9 3 _ rfl; clear rc9; simp only [Nat.add_zero] at d0; have r0:=hS.2.rule 0 rfl); go_simp<;>rfl))
       | (refine text_off hT9.o (by rfl) ?_)
       | (refine text_call (v:=?_) (f:=?_) (args:=?_) hT9.o (by rfl) ?_ ?_ ?_; rotate_left 3; (intro w5 hS; (have c0:=HC2.out _ hS.1; have rc9:=hcc.out _ hS.1; have d0:=rc9 0 _ rfl; have d1:=rc9 1 _ rfl; have d2:=rc9 2 _ rfl; have d3:=rc9 3 _ rfl; clear rc9; simp only [Nat.add_zero] at d0; have r0:=hS.2.rule 0 rfl); go_simp; constructor<;>rfl); (intro w5 hS; (first | (with_reducible refine kp (HIO.out _) ?_ ?_; rfl; exact fun w6 hb6=>⟨hS.1.trans (hb6.mono hS.1.size),hS.2.over hb6⟩)))));try simp only [Act.put,zA,zZ,zS])
      refine InText.nil fun w5 hS5=>?_;clear hT9;clear hbw hbe c0
      by_cases hio0:io=0
      ·have b6:(io != 0)=false:=by simp [hio0]
       have H6:=zH hio0;clear hio0;go_wp2_with fail;refine ⟨⟨k+1,by have:=HHL2.out; omega,by simp,zH fun i hi=>?_,hS5.2⟩,by have:=HHL2.out; simp only [intOf]; omega⟩
       by_cases he:i=k
       ·subst he;rw [HD.out];show opI k1 k2 k3 k4 k5 kd key val lv=0;rw [HI.out,H6.out]
       ·exact hall2.out i (by omega)
      ·have b6:(io != 0)=true:=by simp [hio0]
       clear hio0;go_wp2_with fail;go_ret;exact ⟨hS5.2.below,.inl rfl⟩
     ·have hb2:decide ((k:Int) < (r.ds.length:Int))=false:=by simp; omega
      have HHL2:=zH hlt;clear hlt;go_wp2_with fail;have hlt:=HHL.out;refine ⟨⟨j+1,by omega,by simp,zH fun i hi=>?_,hbe⟩,by simp only [intOf]; omega⟩
      by_cases he:i=j
      ·subst he;rw [HR.out];exact ⟨by have:=H40.out; omega,fun i hi=>hall2.out i (by have:=HHL2.out; omega)⟩
      ·exact hall.out i (by omega)
  ·have hb1:decide ((j:Int) < (rs.length:Int))=false:=by simp; omega
   have HHL:=zH hlt;clear hlt;go_wp2_with fail;go_ret;exact ⟨hbe.below,.inr ⟨rfl,HG.out,fun i hi=>hall.out i (by have:=HHL.out; omega)⟩⟩
end
end
section
theorem pv_inj {x y:Plc} (h:pv x=pv y):x=y:=by
 obtain ⟨a,b,c⟩:=x;obtain ⟨a',b',c'⟩:=y;simp [pv] at h;simp [h]
def OpsF (f:Plc->Int) (ss:List Plc):Prop:=ss.Nodup/\∀ x,x∈ss ↔ f x≠0
end
end Go.Proofs.YtdknbegcflldjaaGreatDoor
namespace Go.Proofs
section
open Go.Shelf
def Tryz.cloneWords_ren:Go.Shelf.Ren:=⟨fun | 5=>159 | 7=>197 | n=>n,fun | 23=>214 | 25=>105 | 3=>48 | 4=>4 | 20=>20 | n=>n,fun | n=>n⟩
theorem Tryz.cloneWords:Go.Proofs.SlLaysW.n5 prog Tryz.cloneWords_ren:={
 mixed:=by kernel_rfl
 f5:=⟨Tryz.f159.name,by decide,func159.trans (congrArg some (by kernel_rfl))⟩
 f7:=func197.trans (congrArg some (by kernel_rfl))
 t4:=Tryz.underlying4
 a4:=Tryz.isAgg4
 z4:=Tryz.sizeOf4
 v4:=Tryz.zeroValue4
 t20:=Tryz.underlying20
 a20:=Tryz.isAgg20
 z20:=Tryz.sizeOf20
 v20:=Tryz.zeroValue20
 t23:=Tryz.underlying214
 a23:=Tryz.isAgg214
 z23:=Tryz.sizeOf214
 v23:=Tryz.zeroValue214 }
end
end Go.Proofs
namespace Go.Proofs.YtdknbegcflldjaaGreatDoor
section
open Go.RowKit Go.Maps Go.Shelf
theorem clone_any {mp:Option Nat} {f:Plc->Int} {n:Nat} {w:World} (hM:MapIs w mp f n) :
  Calls prog 159 #[.map mp] w fun e w'=>∃ mp',e=.returned (.map mp')/\MapIs w' mp' f n/\(∀ b,mp'=some b->w.heap.size<=b)/\Below w.heap.size w w':=by
 rcases hM with ⟨rfl,rfl⟩ | ⟨b,D,rfl,ho,hr⟩
 ·refine Calls.mono (show Calls prog 159 #[.map none] w _ from AnyW.maps_Clone_nil Tryz.cloneWords w) ?_;rintro e w' ⟨rfl,rfl⟩;exact ⟨none,rfl,.inl ⟨rfl,rfl⟩,fun b e=>by (cases e),Below.refl _ _⟩
 ·refine Calls.mono (show Calls prog 159 #[.map (some b)] w _ from AnyW.maps_Clone_owns Tryz.cloneWords _ _ b n D w ho) ?_;rintro e w' ⟨rfl,h1,_,h3⟩;exact ⟨_,rfl,.inr ⟨_,D,rfl,h1,hr⟩,fun b e=>by (cases e; exact Nat.le_refl _),h3⟩
theorem copy_any {c n:Nat} {F:Nat->Prop} {f:Plc->Int} {q:Cnt} {w:World} (hC:IsC w c F f q n) :
  Calls prog 124 #[.pointer (some ⟨c,0,none⟩)] w fun e w'=>∃ c' F',e=.returned (.pointer (some ⟨c',0,none⟩))/\IsC w' c' F' f ⟨0,0,0,0,0⟩ n/\(∀ k,F' k->w.heap.size<=k)/\Below w.heap.size w w':=by
 obtain ⟨mp,hb,hm,hF⟩:=hC;have r:=hb.rule;unfold cv at r;have hc:=clone_any hm;clear hm;go_enter func124,ntmps124;go_wp2_with fail;refine hc.mono ?_;rintro e w1 ⟨mp',rfl,hM,hnew,hB⟩;clear hc r
 go_wp2
 go_ret;have hs:=hB.size;refine ⟨w1.heap.size,fun k=>k=w1.heap.size\/mp'=some k,rfl,⟨mp',Blk.new 0 w1 (cv mp' ⟨0,0,0,0,0⟩) 216,hM.more _,fun k=>Iff.rfl⟩,fun k hk=>?_,hB.alloc hs _⟩
 rcases hk with rfl | e
 ·exact hs
 ·exact hnew k e
end
section
open Go.RowKit Go.Maps
theorem cells_w {w0 w:World} {L:List Item} {p c n:Nat} {F:Nat->Prop} {f:Plc->Int} {q:Cnt} (i j:Nat) (hE:Env w0 L w) (hi:L[i]?=some (wbox p c)) (hj:L[j]?=some (cellI c F f q n)) :
  Calls prog 77 #[.pointer (some ⟨p,0,none⟩)] w fun e w'=>∃ c' F',e=.returned (.pointer (some ⟨c',0,none⟩))/\Env w0 (cellI c' F' f ⟨0,0,0,0,0⟩ n::L) w':=by
 go_enter func77,ntmps77;go_wp2_with fail;refine (kept_any (hE.wblk i hi)).mono ?_;rintro e w1 ⟨rfl,rfl⟩;go_wp2_with fail;refine (copy_any (hE.cell j hj)).mono ?_;rintro e w2 ⟨c',F',rfl,hC,hF,hb⟩
 go_wp2
 go_ret;exact ⟨c',F',rfl,hE.made2 hC hF hb⟩
end
section
open Go.RowKit Go.Maps Go.Sort
theorem exch {α:Type} (y0 y1 y2 x0 x1 x2:α) (D:List α):∀ P:List α,((((((P++y0::y1::y2::x0::x1::x2::D).set (P.length+3) y0).set (P.length+4) y1).set (P.length+5) y2).set P.length x0).set (P.length+1) x1).set (P.length+2) x2=P++x0::x1::x2::y0::y1::y2::D
 | []=>rfl
 | p::P=>by
  have ih:=exch y0 y1 y2 x0 x1 x2 D P;simp only [List.cons_append,List.length_cons,show P.length+1+3=P.length+3+1 by omega,show P.length+1+4=P.length+4+1 by omega,show P.length+1+5=P.length+5+1 by omega,show P.length+1+2=P.length+2+1 by omega,zS];rw [ih]
def insAt (m:List Plc) (j:Nat) (x:Plc):List Plc:=m.take j++x::m.drop j
theorem flatP_append (l m:List Plc):flatP (l++m)=flatP l++flatP m:=by simp [flatP]
theorem insAt_exch (m:List Plc) (j:Nat) (hj:j < m.length) (x:Plc):((((((flatP (insAt m (j+1) x)).set (j * 3+3) (.int .i64 (m.getD j z3).1)).set (j * 3+4) (.int .i64 (m.getD j z3).2.1)).set (j * 3+5) (.int .i64 (m.getD j z3).2.2)).set (j * 3) (.int .i64 x.1)).set (j * 3+1) (.int .i64 x.2.1)).set (j * 3+2) (.int .i64 x.2.2)=flatP (insAt m j x):=by
 have hlen:(flatP (m.take j)).length=j * 3:=by rw [flatP_length]; simp; omega
 have e1:flatP (insAt m (j+1) x)=flatP (m.take j)++.int .i64 (m.getD j z3).1::.int .i64 (m.getD j z3).2.1::.int .i64 (m.getD j z3).2.2::.int .i64 x.1::.int .i64 x.2.1::.int .i64 x.2.2::flatP (m.drop (j+1)):=by
  unfold insAt;rw [flatP_append,List.take_succ_eq_append_getElem hj,flatP_append];simp [flatP,encP,hj]
 have e2:flatP (insAt m j x)=flatP (m.take j)++.int .i64 x.1::.int .i64 x.2.1::.int .i64 x.2.2::.int .i64 (m.getD j z3).1::.int .i64 (m.getD j z3).2.1::.int .i64 (m.getD j z3).2.2::flatP (m.drop (j+1)):=by
  unfold insAt;have h0:m.drop j=m[j]::m.drop (j+1):=List.drop_eq_getElem_cons hj;have h1:m.getD j z3=m[j]:=by simp [hj]
  rw [flatP_append,h0,h1];simp [flatP,encP,-List.getElem_cons_drop]
 rw [e1,e2,<- hlen];exact exch _ _ _ _ _ _ _ _
theorem insAt_get_self (m:List Plc) (j:Nat) (hj:j<=m.length) (x:Plc):(insAt m j x).getD j z3=x:=by
 unfold insAt;rw [List.getD_eq_getElem?_getD,List.getElem?_append_right (by simp; omega)];simp [Nat.min_eq_left hj]
theorem insAt_get_prev (m:List Plc) (j:Nat) (hj:j < m.length) (x:Plc):(insAt m (j+1) x).getD j z3=m.getD j z3:=by
 unfold insAt;rw [List.getD_eq_getElem?_getD,List.getElem?_append_left (by simp; omega)];simp [List.getElem?_take]
theorem insAt_length (m:List Plc) (j:Nat) (hj:j<=m.length) (x:Plc):(insAt m j x).length=m.length+1:=by unfold insAt; simp; omega
theorem rising_insAt {m:List Plc} {j:Nat} {x:Plc} (hm:Rising m) (hj:j<=m.length) (hx:x ∉ m) (hd:∀ y∈m.drop j,ltOf cmpP x y=true) (hs:j=0\/ltOf cmpP x (m.getD (j - 1) z3)=false):Rising (insAt m j x):=by
 have h1:Rising (m.take j):=List.Pairwise.sublist (List.take_sublist _ _) hm;have h2:Rising (m.drop j):=List.Pairwise.sublist (List.drop_sublist _ _) hm;have h3:∀ y∈m.take j,ltOf cmpP y x=true:=by
  intro y hy;obtain ⟨i,hi,rfl⟩:=List.getElem_of_mem hy;have hi':i < j:=by simp at hi; omega
  rcases hs with rfl | hs
  ·omega
  ·have hjm:j - 1 < m.length:=by omega
   have e:m.getD (j - 1) z3=m[j - 1]:=by simp [hjm]
   rw [e] at hs;have hlt:ltOf cmpP m[j - 1] x=true:=by
    rcases h:ltOf cmpP m[j - 1] x with _ | _
    ·exact absurd (totP _ _ hs h) (fun e=>hx (e ▸ List.getElem_mem hjm))
    ·rfl
   rw [List.getElem_take]
   rcases Nat.lt_or_ge i (j - 1) with hlt2 | hge
   ·exact swoP.trans _ _ _ (List.pairwise_iff_getElem.1 hm i (j - 1) (by omega) hjm hlt2) hlt
   ·have:i=j - 1:=by omega
    subst this;exact hlt
 unfold insAt Rising;refine List.pairwise_append.2 ⟨h1,List.pairwise_cons.2 ⟨hd,h2⟩,fun a ha b hb=>?_⟩
 rcases List.mem_cons.1 hb with rfl | hb
 ·exact h3 a ha
 ·exact swoP.trans _ _ _ (h3 a ha) (hd b hb)
theorem mem_insAt {m:List Plc} {j:Nat} {x y:Plc}:y∈insAt m j x ↔ y=x\/y∈m:=by
 unfold insAt
 conv=>rhs; rw [<- List.take_append_drop j m]
 simp only [List.mem_append,List.mem_cons];constructor
 ·rintro (h | h | h)
  ·exact .inr (.inl h)
  ·exact .inl h
  ·exact .inr (.inr h)
 ·rintro (h | h | h)
  ·exact .inr (.inl h)
  ·exact .inl h
  ·exact .inr (.inr h)
theorem getL_ne {l:List OneR} (h:(l.map (·.1)).Nodup) (x:Plc):getL l x≠0 ↔ ∃ v,(x,v)∈l/\v≠0:=by
 induction l with
 | nil=>simp [getL]
 | cons e l ih =>
  rw [List.map_cons,List.nodup_cons] at h;have ih:=ih h.2
  by_cases he:e.1=x
  ·subst he;simp only [getL,if_true];constructor
   ·intro hv; exact ⟨e.2,by simp,hv⟩
   ·rintro ⟨v,hv,hne⟩
    rcases List.mem_cons.1 hv with e' | e'
    ·rw [<- e']; exact hne
    ·exact absurd (List.mem_map.2 ⟨_,e',rfl⟩) h.1
  ·simp only [getL,if_neg he];rw [ih];constructor
   ·rintro ⟨v,hv,hne⟩; exact ⟨v,List.mem_cons_of_mem _ hv,hne⟩
   ·rintro ⟨v,hv,hne⟩
    rcases List.mem_cons.1 hv with e' | e'
    ·exact absurd (by rw [<- e']) he
    ·exact ⟨v,e',hne⟩
theorem ownsRow_rowP {w:World} {b:Nat} {v:Value} {m:List Plc} (h:w.ownsRow b 105 3 v m.length (flatP m)):RowP w v m:=by
 rcases h.2 with ⟨hv,h0⟩ | ⟨g,cap,cur,hv,_,hg,hn,hc,hcs,htk⟩
 ·exact .inl ⟨List.eq_nil_of_length_eq_zero h0,hv⟩
 ·refine .inr ⟨g,cap,hv,(Array.getElem?_eq_some_iff.1 hg).1,fun j hj=>?_⟩;have each:∀ c,c < 3->w.cell? ⟨g,j * 3+c,none⟩=(encP (m.getD j z3))[c]?:=fun c hc4=>by
   rw [<- flatP_get m j c hj hc4,<- htk,List.getElem?_take_of_lt (by omega)];simp [World.cell?,hg]
  exact ⟨each 0 (by omega),each 1 (by omega),each 2 (by omega)⟩
def okM (l:List OneR) (k:Nat) (m:List Plc):Prop:=Rising m/\m.length<=k/\∀ x,x∈m ↔ ∃ v,(x,v)∈l.take k/\v≠0
theorem okM.skip {l:List OneR} {k:Nat} {m:List Plc} (h:okM l k m) (hk:k < l.length) (h0:(l.getD k dO).2=0):okM l (k+1) m:=by
 refine ⟨h.1,by have:=h.2.1; omega,fun x=>?_⟩;rw [h.2.2 x,List.take_succ_eq_append_getElem hk];have e:l[k].2=0:=by simpa [hk] using h0
 constructor
 ·rintro ⟨v,hv,hne⟩; exact ⟨v,List.mem_append.2 (.inl hv),hne⟩
 ·rintro ⟨v,hv,hne⟩
  rcases List.mem_append.1 hv with hv | hv
  ·exact ⟨v,hv,hne⟩
  ·rw [<- List.mem_singleton.1 hv] at e; exact absurd e hne
theorem okM.new {l:List OneR} {k:Nat} {m:List Plc} (h:okM l k m) (hnd:(l.map (·.1)).Nodup) (hk:k < l.length):(l.getD k dO).1 ∉ m:=by
 intro hx;obtain ⟨v,hv,_⟩:=(h.2.2 _).1 hx;obtain ⟨i,hi,he⟩:=List.getElem_of_mem hv;have hi':i < k:=by simp at hi; omega
 have e1:l[i].1=l[k].1:=by
  have:(l.take k)[i]=l[i]:=List.getElem_take;rw [this] at he;have e2:l.getD k dO=l[k]:=by simp [hk]
  rw [he,<- e2]
 have:=(List.pairwise_iff_getElem.1 hnd) i k (by simp; omega) (by simpa using hk) hi';simp at this;exact this e1
theorem okM.put {l:List OneR} {k j:Nat} {m:List Plc} (h:okM l k m) (hk:k < l.length) (h0:(l.getD k dO).2≠0) (hj:j<=m.length) (hr:Rising (insAt m j (l.getD k dO).1)):okM l (k+1) (insAt m j (l.getD k dO).1):=by
 refine ⟨hr,by have:=h.2.1; rw [insAt_length m j hj]; omega,fun x=>?_⟩;have e2:l.getD k dO=l[k]:=by simp [hk]
 rw [mem_insAt,h.2.2 x,List.take_succ_eq_append_getElem hk,e2];rw [e2] at h0;constructor
 ·rintro (rfl | ⟨v,hv,hne⟩)
  ·exact ⟨l[k].2,List.mem_append.2 (.inr (List.mem_singleton.2 rfl)),h0⟩
  ·exact ⟨v,List.mem_append.2 (.inl hv),hne⟩
 ·rintro ⟨v,hv,hne⟩
  rcases List.mem_append.1 hv with hv | hv
  ·exact .inr ⟨v,hv,hne⟩
  ·exact .inl (by rw [<- List.mem_singleton.1 hv])
set_option maxRecDepth 100000 in
theorem refPlaces_any {u:Nat} {F:Nat->Prop} {l:List OneR} {w:World} (hl:l.length<=1000000) (hnd:(l.map (·.1)).Nodup) (hU:IsU w u F l) :
  Calls prog 79 #[.pointer (some ⟨u,0,none⟩)] w fun e w'=>∃ m v,e=.returned v/\PlacesOf (getL l) m/\m.length<=l.length/\w'.ownsRow w.heap.size 105 3 v m.length (flatP m)/\Below w.heap.size w w':=by
 obtain ⟨A,cap,hblk,hown,hsep,hF⟩:=hU.full;have hrow:=ownsRow_words hown;have hul:=hblk.1;obtain ⟨i0,hi,hz0,hz1,hz2⟩:=info_parts infoPlace;have HROW:=zH hrow;have HB:Hid (∀ w',Below w.heap.size w w'->∀ i,w'.cell? ⟨u,i,none⟩=[Value.slice A l.length cap][i]?):=zH fun w' hb i=>by rw [hb.cell (p:=⟨u,i,none⟩) hul]; exact hblk.rule i
 clear hrow hblk hown hsep hF;have hown0:(w.alloc (.cells #[] 105)).ownsRow w.heap.size 105 3 (.slice (some ⟨w.heap.size,0,none⟩) 0 0) 0 []:=⟨rfl,.inr ⟨w.heap.size,0,#[],rfl,Nat.le_refl _,heap_alloc_new w _,Nat.le_refl _,Nat.zero_le _,rfl,rfl⟩⟩;have hB0:Below w.heap.size w (w.alloc (.cells #[] 105)):=(Below.refl _ w).alloc (Nat.le_refl _) _;go_enter func79,ntmps79;go_wp2_with fail
 go_loopw [3,4] (fun v i wr=>∃ (k:Nat) (m:List Plc),k<=l.length/\i=.int .i64 k/\okM l k m/\wr.ownsRow w.heap.size 105 3 v m.length (flatP m)/\Below w.heap.size w wr) (fun _ i _=>l.length - (intOf i).toNat)
 case atStart=>exact ⟨0,[],by omega,rfl,⟨List.Pairwise.nil,by simp,by simp⟩,hown0,hB0⟩
 case round =>
  obtain ⟨k,m,hk,rfl,hm,hrw,hBr⟩:=hrel;have ru:=HB.out _ hBr;clear hown0 hB0
  by_cases hlt:k < l.length
  ·rcases HROW.out with h0 | ⟨g,rfl,hgl,hc⟩
   ·rw [h0] at hlt; simp at hlt
   obtain ⟨c0,c1,c2,c3⟩:=hc k hlt;clear hc;generalize ho:l.getD k dO=o at c0 c1 c2 c3;obtain ⟨⟨x,y,z⟩,v0⟩:=o;simp only at c0 c1 c2 c3;have HC:Hid (∀ w',Below w.heap.size w w'->(w'.cell? ⟨g,k * 4,none⟩=some (.int .i64 x)/\w'.cell? ⟨g,k * 4+1,none⟩=some (.int .i64 y)/\w'.cell? ⟨g,k * 4+2,none⟩=some (.int .i64 z)/\w'.cell? ⟨g,k * 4+3,none⟩=some (.int .u64 v0))):=zH fun w' hb=>by
    refine ⟨?_,?_,?_,?_⟩
    ·rw [hb.cell (p:=⟨g,k * 4,none⟩) hgl]; exact c0
    ·rw [hb.cell (p:=⟨g,k * 4+1,none⟩) hgl]; exact c1
    ·rw [hb.cell (p:=⟨g,k * 4+2,none⟩) hgl]; exact c2
    ·rw [hb.cell (p:=⟨g,k * 4+3,none⟩) hgl]; exact c3
   have HO:=zH ho;clear c0 c1 c2 c3 ho;obtain ⟨c0,c1,c2,c3⟩:=HC.out _ hBr
   by_cases hv0:v0=0
   ·subst hv0;go_wp2_with fail;exact ⟨⟨k+1,m,by omega,rfl,hm.skip hlt (by rw [HO.out]),hrw,hBr⟩,by simp [intOf]; omega⟩
   ·have hml:m.length<=k:=hm.2.1;obtain ⟨A3,cap3,rfl⟩:=ownsRow_slice hrw;obtain ⟨v',w2,hrun,hown2,hgrow,hv'⟩:=run_append_rows (P:=prog) 160 160 w.heap.size 105 i0 (.agg #[.int .i64 0,.int .i64 0,.int .i64 0]) 3 24 Tryz.underlying160 hi hz0 hz1 hz2 rfl (by decide) _ _ _ _ (hrw.alloc (.cells #[.int .i64 x,.int .i64 y,.int .i64 z] 105)) (some ⟨wr.heap.size,0,none⟩) 1 1 [.int .i64 x,.int .i64 y,.int .i64 z] rfl
     (.inr ⟨_,rfl,cells_new _ _ _⟩) (by simp [Value.oneCell']) (by simp [maxLen]; omega) (by omega) (by have:=hBr.size; simp; omega)
    obtain ⟨b,cap',rfl,hwb,hbl⟩:=hown2.form (by omega);have hB2:Below w.heap.size w w2:=by
     have h1:=hBr.alloc hBr.size (.cells #[.int .i64 x,.int .i64 y,.int .i64 z] 105);exact Turn.below h1 (T:=fun k=>(Value.slice A3 m.length cap3).ownBlock=some k) ⟨hgrow.os,hgrow.tape,hgrow.output,hgrow.size,fun k hk hn=>hgrow.block k hk (fun e=>hn e.symm)⟩ h1.size fun k hk=>(hrw.lt k hk).1
    go_wp2_with (first | (at_builtin; refine wpList_append_run rfl _ _ 160 rfl hrun rfl rfl ?_));have hown3:w2.ownsRow w.heap.size 105 3 (.slice (some ⟨b,0,none⟩) (m.length+1) cap') (m.length+1) (flatP (insAt m m.length (x,y,z))):=by
     have e:flatP (insAt m m.length (x,y,z))=flatP m++[.int .i64 x,.int .i64 y,.int .i64 z]:=by unfold insAt; simp [flatP,encP]
     rw [e]; exact hown2
    clear hrun hown2 hgrow hv' hrw c0 c1 c2 c3 ru;have HM:=zH hm;clear hm
    go_loopw [5] (fun kk wq=>∃ j:Nat,j<=m.length/\kk=.int .i64 j/\(∀ t∈m.drop j,ltOf cmpP (x,y,z) t=true)/\wq.ownsRow w.heap.size 105 3 (.slice (some ⟨b,0,none⟩) (m.length+1) cap') (m.length+1) (flatP (insAt m j (x,y,z)))/\Below w.heap.size w wq) (fun kk _=>(intOf kk).toNat)
    case atStart=>exact ⟨m.length,Nat.le_refl _,by simp,by simp,hown3,hB2⟩
    case round =>
     obtain ⟨j,hj,rfl,hd,ho3,hBq⟩:=hrel;clear hown3 hB2;have HC8:Hid (∀ w6 w7:World,(w6.ownsRow w.heap.size 105 3 (.slice (some ⟨b,0,none⟩) (m.length+1) cap') (m.length+1) (flatP (insAt m j (x,y,z)))/\Below w.heap.size w w6)->Below w6.heap.size w6 w7->(w7.ownsRow w.heap.size 105 3 (.slice (some ⟨b,0,none⟩) (m.length+1) cap') (m.length+1) (flatP (insAt m j (x,y,z)))/\Below w.heap.size w w7)):=zH fun w6 w7 h hb=>⟨ownsRow_kept h.1 fun k e=>hb.block k (h.1.lt k e).2,h.2.trans (hb.mono h.2.size)⟩
     rcases j with _ | j
     ·go_wp2_with fail;refine Ord.wc [] (fun w'=>w'.ownsRow w.heap.size 105 3 (.slice (some ⟨b,0,none⟩) (m.length+1) cap') (m.length+1) (flatP (insAt m 0 (x,y,z)))/\Below w.heap.size w w') (fun _ _=>True) (And.intro ho3.drew hBq.drew) trivial fun hT9=>?_
      repeat ((first
       | (refine Ord.cv ?_ hT9.o ?_ ?_; rotate_left; (intro w5 hS; skip; go_simp<;>rfl))
       | (refine Ord.co hT9.o ?_)
       | (refine Ord.cc ?_ ?_ ?_ hT9.o ?_ ?_ ?_; rotate_left 3; (intro w5 hS; skip; go_simp; constructor<;>rfl); (intro w5 hS; (first | fail))));try simp only [Act.put,zA,zZ,zS])
      refine Ord.InText.nil fun w5 hS=>?_;clear hT9;obtain ⟨hC,hA⟩:=Ord.chain_end hS;clear hS;clear hA;go_wp2_with fail;have hins:=HM.out.put hlt (by rw [HO.out]; exact hv0) hj (by rw [HO.out]; exact rising_insAt HM.out.1 hj (by have:=HM.out.new hnd hlt; rwa [HO.out] at this) hd (.inl rfl));rw [HO.out] at hins;exact ⟨⟨k+1,_,by omega,by simp,hins,by rw [insAt_length m _ hj]; exact hC.1,hC.2⟩,by simp [intOf]; omega⟩
     ·have HCELL:Hid (∀ w':World,w'.ownsRow w.heap.size 105 3 (.slice (some ⟨b,0,none⟩) (m.length+1) cap') (m.length+1) (flatP (insAt m (j+1) (x,y,z))) ->
        (w'.cell? ⟨b,(j+1) * 3,none⟩=some (.int .i64 x)/\w'.cell? ⟨b,(j+1) * 3+1,none⟩=some (.int .i64 y)/\w'.cell? ⟨b,(j+1) * 3+2,none⟩=some (.int .i64 z) /\
         w'.cell? ⟨b,j * 3,none⟩=some (.int .i64 (m.getD j z3).1)/\w'.cell? ⟨b,j * 3+1,none⟩=some (.int .i64 (m.getD j z3).2.1)/\w'.cell? ⟨b,j * 3+2,none⟩=some (.int .i64 (m.getD j z3).2.2))):=zH fun w' h=>by
       have hlen:=insAt_length m (j+1) hj (x,y,z);have e1:∀ c,c < 3->w'.cell? ⟨b,(j+1) * 3+c,none⟩=(encP (x,y,z))[c]?:=fun c hc=>by
        rw [h.cellAt ((j+1) * 3+c) (by omega),flatP_get _ _ _ (by omega) hc,insAt_get_self m (j+1) hj]
       have e2:∀ c,c < 3->w'.cell? ⟨b,j * 3+c,none⟩=(encP (m.getD j z3))[c]?:=fun c hc=>by
        rw [h.cellAt (j * 3+c) (by omega),flatP_get _ _ _ (by omega) hc,insAt_get_prev m j (by omega)]
       exact ⟨e1 0 (by omega),e1 1 (by omega),e1 2 (by omega),e2 0 (by omega),e2 1 (by omega),e2 2 (by omega)⟩
      obtain ⟨t,ht⟩:∃ t,m.getD j z3=t:=⟨_,rfl⟩;rw [ht] at HCELL;obtain ⟨p,q,s⟩:=t;simp only at HCELL;have HT:=zH ht;clear ht;have q1:j < m.length:=by omega
      have q2:(0:Int)<=(j:Int)+1:=by omega
      have q3:j < m.length+1:=by omega
      have q4:j<=m.length:=by omega
      have q7:IntKind.i64.wrap (j:Int)=(j:Int):=by rw [IntKind.wrap_i64]; omega
      have q5:(j:Int)<=(m.length:Int):=by omega
      have q6:(j:Int) < (m.length:Int)+1:=by omega
      go_wp2_with fail;refine Ord.wc [] (fun w'=>w'.ownsRow w.heap.size 105 3 (.slice (some ⟨b,0,none⟩) (m.length+1) cap') (m.length+1) (flatP (insAt m (j+1) (x,y,z)))/\Below w.heap.size w w') (fun _ _=>True) (And.intro ho3.drew hBq.drew) trivial fun hT9=>?_
      repeat ((first
       | (refine Ord.cv ?_ hT9.o ?_ ?_; rotate_left; (intro w5 hS; obtain ⟨c0,c1,c2,c3,c4,c5⟩:=HCELL.out _ hS.1; go_simp<;>rfl))
       | (refine Ord.co hT9.o ?_)
       | (refine Ord.cc ?_ ?_ ?_ hT9.o ?_ ?_ ?_; rotate_left 3; (intro w5 hS; obtain ⟨c0,c1,c2,c3,c4,c5⟩:=HCELL.out _ hS.1; go_simp; constructor<;>rfl); (intro w5 hS; (first | (with_reducible refine kp (less_any _ _ _ _ _ _ _) ?_ ?_; rfl; exact fun w6 hb5=>⟨HC8.out _ _ hS hb5,fun _ h=>h⟩)))));try simp only [Act.put,zA,zZ,zS])
      refine Ord.InText.nil fun w5 hS=>?_;clear hT9;obtain ⟨hC,hA⟩:=Ord.chain_end hS;clear hS;clear hA;obtain ⟨c0,c1,c2,c3,c4,c5⟩:=HCELL.out _ hC.1
      by_cases hL:ltOf cmpP (x,y,z) (p,q,s)=true
      ·rw [hL];have hb5:b < w5.heap.size:=(hC.1.lt b rfl).2;have hnb:¬ w5.heap.size=b:=by omega
       have hnb':¬ b=w5.heap.size:=by omega
       have rA:∀ ob i,(w5.alloc ob).cell? ⟨b,i,none⟩=w5.cell? ⟨b,i,none⟩:=fun ob i=>World.cell?_of_block (Below.heap_alloc _ _ _ hb5);have zA:∀ ob i,(w5.alloc ob).frozen? ⟨b,i,none⟩=false:=fun ob i=>(World.frozen?_of_block (Below.heap_alloc _ _ _ hb5)).trans (hC.1.frozenAt i);have zW:∀ i,w5.frozen? ⟨b,i,none⟩=false:=fun i=>hC.1.frozenAt i;go_wp2_with fail;have hx:=insAt_exch m j q1 (x,y,z);rw [HT.out] at hx;simp only at hx;have hp3:(j+1) * 3=j * 3+3:=by omega
       refine ⟨⟨j,by omega,rfl,fun t ht=>?_,?_,?_⟩,by simp [intOf]⟩
       ·rw [List.drop_eq_getElem_cons q1] at ht
        rcases List.mem_cons.1 ht with rfl | ht
        ·have:m[j]=(p,q,s):=by rw [<- HT.out]; simp [q1]
         rw [this]; exact hL
        ·exact hd t ht
       ·rw [<- hx,hp3];exact ((((((((hC.1.stored _ _).1).stored _ _).1).stored _ _).1.stored _ _).1.stored _ _).1.stored _ _).1.alloc _
       ·exact Turn.below hC.2 (((((((Turn.refl (fun k=>k=b) w5).setCell (p:=⟨b,_,none⟩) (fun _=>rfl) _).setCell (p:=⟨b,_,none⟩) (fun _=>rfl) _).setCell (p:=⟨b,_,none⟩) (fun _=>rfl) _).setCell (p:=⟨b,_,none⟩) (fun _=>rfl) _).setCell (p:=⟨b,_,none⟩) (fun _=>rfl) _).setCell (p:=⟨b,_,none⟩) (fun _=>rfl) _ |>.alloc _) hC.2.size fun k hk=>by subst hk; exact hwb
      ·have hL':ltOf cmpP (x,y,z) (p,q,s)=false:=by simpa using hL
       rw [hL'];go_wp2_with fail;have hins:=HM.out.put hlt (by rw [HO.out]; exact hv0) hj (by rw [HO.out]; exact rising_insAt HM.out.1 hj (by have:=HM.out.new hnd hlt; rwa [HO.out] at this) hd (.inr (by rw [Nat.add_sub_cancel,HT.out]; exact hL')));rw [HO.out] at hins;exact ⟨⟨k+1,_,by omega,by simp,hins,by rw [insAt_length m _ hj]; exact hC.1,hC.2⟩,by simp [intOf]; omega⟩
  ·go_wp2_with fail;have:k=l.length:=by omega
   subst this;go_ret;exact ⟨m,_,rfl,⟨hm.1,fun x=>by rw [hm.2.2 x,getL_ne hnd x]; simp⟩,hm.2.1,hrw,hBr⟩
end
end Go.Proofs.YtdknbegcflldjaaGreatDoor
namespace Go.Proofs
section
open Go.Shelf
shelf_try shelf_lay_g SlLaysF0.n6 Slsf 6 at Tryz 161 as Tryz.sortPlaces
shelf_try shelf_lay_g SlLaysC2.n5 Slgc 5 at Tryz 164 as Tryz.compareInt
shelf_tried
end
end Go.Proofs
namespace Go.Proofs.YtdknbegcflldjaaGreatDoor
section
open Go.RowKit Go.Maps Go.Shelf Go.Sort
theorem compareInt_any (x y:Int) (w:World):Calls prog 164 #[.int .i64 x,.int .i64 y] w fun e w'=>e=.returned (.int .i64 (Lib.compareInt x y))/\w'=w:=AnyG.cmp_Compare_int Tryz.compareInt x y w
theorem or_any (a b c:Int) (N:Nat) (w:World) (h:∀ i,w.cell? ⟨N,i,none⟩=[Value.int .i64 a,.int .i64 b,.int .i64 c][i]?) :
  Calls prog 163 #[.slice (some ⟨N,0,none⟩) 3 3] w fun e w'=>e=.returned (.int .i64 (orI a b c))/\w'=w:=by
 have e1:(a != 0)=true\/((a != 0)=false/\(b != 0)=true)\/((a != 0)=false/\(b != 0)=false/\(c != 0)=true)\/((a != 0)=false/\(b != 0)=false/\(c != 0)=false):=by
  cases (a != 0)<;>cases (b != 0)<;>cases (c != 0)<;>simp
 rcases e1 with h1 | ⟨h1,h2⟩ | ⟨h1,h2,h3⟩ | ⟨h1,h2,h3⟩
 ·go_enter func163,ntmps163
  go_wp2
  refine wp_loop_rounds 1 ?_;rw [rounds_succ]
  go_wp2
  go_ret;exact ⟨ret_int (by simp at h1; simp [orI,h1]),rfl⟩
 ·go_enter func163,ntmps163
  go_wp2
  refine wp_loop_rounds 2 ?_;rw [rounds_succ]
  go_wp2
  rw [rounds_succ]
  go_wp2
  go_ret;exact ⟨ret_int (by simp at h1 h2; simp [orI,h1,h2]),rfl⟩
 ·go_enter func163,ntmps163
  go_wp2
  refine wp_loop_rounds 3 ?_;rw [rounds_succ]
  go_wp2
  rw [rounds_succ]
  go_wp2
  rw [rounds_succ]
  go_wp2
  go_ret;exact ⟨ret_int (by simp at h1 h2 h3; simp [orI,h1,h2]),rfl⟩
 ·go_enter func163,ntmps163
  go_wp2
  refine wp_loop_rounds 4 ?_;rw [rounds_succ]
  go_wp2
  rw [rounds_succ]
  go_wp2
  rw [rounds_succ]
  go_wp2
  rw [rounds_succ]
  go_wp2
  go_ret;exact ⟨ret_int (by simp at h1 h2 h3; simp [orI,h1,h2,h3]),rfl⟩
theorem compare_any (a b c a' b' c':Int) (w:World) :
  Calls prog 127 #[.agg #[.int .i64 a,.int .i64 b,.int .i64 c],.agg #[.int .i64 a',.int .i64 b',.int .i64 c']] w fun e w'=>e=.returned (.int .i64 (cmpP (a,b,c) (a',b',c')))/\∃ q os',w'=grow (w.drewN q) os':=by
 have k1:Hid (∀ w',Calls prog 164 #[.int .i64 a,.int .i64 a'] w' fun e w''=>e=.returned (.int .i64 (Lib.compareInt a a'))/\w''=w'):=zH fun w'=>compareInt_any a a' w';have k2:Hid (∀ w',Calls prog 164 #[.int .i64 b,.int .i64 b'] w' fun e w''=>e=.returned (.int .i64 (Lib.compareInt b b'))/\w''=w'):=zH fun w'=>compareInt_any b b' w';have k3:Hid (∀ w',Calls prog 164 #[.int .i64 c,.int .i64 c'] w' fun e w''=>e=.returned (.int .i64 (Lib.compareInt c c'))/\w''=w'):=zH fun w'=>compareInt_any c c' w';unfold cmpP;simp only;generalize Lib.compareInt a a'=x at *;generalize Lib.compareInt b b'=y at *;generalize Lib.compareInt c c'=z at *;go_enter func127,ntmps127;go_wp2_with fail;have hw2:∃ w2,w2=(w.alloc (.cells #[.int .i64 a,.int .i64 b,.int .i64 c] 105)).alloc (.cells #[.int .i64 a',.int .i64 b',.int .i64 c'] 105):=⟨_,rfl⟩;obtain ⟨w2,hw2⟩:=hw2;have h1:Blk 0 w2 w.heap.size [.int .i64 a,.int .i64 b,.int .i64 c]:=by rw [hw2]; exact (Blk.new 0 w _ _).more _
 have h2:Blk 0 w2 (w.heap.size+1) [.int .i64 a',.int .i64 b',.int .i64 c']:=by rw [hw2]; exact (Blk.new 0 (w.alloc _) _ _).at (by simp)
 rw [<- hw2];have HW:=zH hw2;clear hw2;generalize w.heap.size=B at *;refine Ord.wc [15,16] (fun w'=>Blk 0 w' B [.int .i64 a,.int .i64 b,.int .i64 c]/\Blk 0 w' (B+1) [.int .i64 a',.int .i64 b',.int .i64 c']) (fun j w'=>∃ q,w'=(if j=0 then w2 else w2.alloc (.cells #[.int .i64 x,.int .i64 y,.int .i64 z] 3)).drewN q) ⟨h1.drew,h2.drew⟩ ⟨1,rfl⟩ fun hT9=>?_
 repeat (first
  | (refine Ord.cv ?_ hT9.o ?_ ?_; rotate_left; (intro w5 hS; have r:=hS.1.rule; have r2:=hS.2.rule; go_simp<;>rfl); (try simp only [Act.put,zA,zZ,zS]))
  | (refine Ord.cc ?_ ?_ ?_ hT9.o ?_ ?_ ?_; rotate_left 3; (intro w5 hS; have r:=hS.1.rule; have r2:=hS.2.rule; go_simp; constructor<;>rfl); (intro w5 hS; (first
      | (with_reducible refine (k1.out _).mono ?_; rintro e w6 ⟨rfl,rfl⟩; constructor; rfl; exact ⟨hS,fun _ h=>h⟩)
      | (with_reducible refine (k2.out _).mono ?_; rintro e w6 ⟨rfl,rfl⟩; constructor; rfl; exact ⟨hS,fun _ h=>h⟩)
      | (with_reducible refine (k3.out _).mono ?_; rintro e w6 ⟨rfl,rfl⟩; constructor; rfl; exact ⟨hS,fun _ h=>h⟩))); (try simp only [Act.put,zA,zZ,zS])))
 refine Ord.ch_turn (v:=.slice (some ⟨w2.heap.size,0,none⟩) 3 3) 0 hT9.o rfl (by decide) (Or.inl rfl) (by rfl) ?_ ?_
 ·rintro w5 hC5 ⟨q,hq⟩;rw [if_pos rfl] at hq;subst hq;go_simp;exact ⟨by first | rfl | simp,⟨hC5.1.more _,hC5.2.more _⟩,q,rfl⟩
 try simp only [Act.put,zA,zZ,zS]
 refine Ord.ch_turn (v:=.int .i64 (orI x y z)) 1 hT9.o rfl (by decide) (Or.inr ⟨15,rfl,by kernel_rfl⟩) (by rfl) ?_ ?_
 ·rintro w5 hC5 ⟨q,hq⟩;rw [if_neg (by omega)] at hq;have hcell:∀ i,w5.cell? ⟨w2.heap.size,i,none⟩=[Value.int .i64 x,.int .i64 y,.int .i64 z][i]?:=fun i=>by rw [hq]; exact (Blk.new 0 w2 [Value.int .i64 x,.int .i64 y,.int .i64 z] _).rule i
  have HQ:=zH hq;clear hq;go_simp;simp only [Ord.LandsIn];refine (or_any x y z _ w5 hcell).mono ?_;rintro e w6 ⟨rfl,rfl⟩;exact ⟨rfl,hC5,q,HQ.out⟩
 try simp only [Act.put,zA,zZ,zS]
 repeat ((first
  | (refine Ord.cv ?_ hT9.o ?_ ?_; rotate_left; (intro w5 hS; skip; go_simp<;>rfl))
  | (refine Ord.co hT9.o ?_));try simp only [Act.put,zA,zZ,zS])
 refine Ord.InText.nil fun w5 hS=>?_;clear hT9;obtain ⟨hC9,hA9⟩:=Ord.chain_end hS;clear hS;obtain ⟨q,hq⟩:=hA9
 go_wp2
 go_ret;refine ⟨rfl,q,#[.cells #[.int .i64 a,.int .i64 b,.int .i64 c] 105,.cells #[.int .i64 a',.int .i64 b',.int .i64 c'] 105,.cells #[.int .i64 x,.int .i64 y,.int .i64 z] 3],?_⟩;rw [hq,HW.out];simp only [List.length_cons,List.length_nil,alloc_eq_grow,grow_grow];rfl
theorem cmpLays (blk off size:Nat) (w:World):CmpLays prog 127 #[] encP 3 cmpP blk off size w:=fun _ _ _ _ x y=>compare_any x.1 x.2.1 x.2.2 y.1 y.2.1 y.2.2 _
theorem aggPlace (w:World):(isAgg 105).run prog w=.ok true w:=by kernel_rfl
theorem sizePlace (w:World):(Go.sizeOf 105).run prog w=.ok 3 w:=by kernel_rfl
def sortL (l:List Plc):List Plc:=l.mergeSort fun x y=>!(ltOf cmpP) y x
theorem sort_any (blk off cap:Nat) (d:Array Plc) (w:World) (hH:HoldsK encP 3 w blk off d) (hblk:blk < w.heap.size) (hsz:d.size < 4611686018427387904) :
  Calls prog 161 #[.slice (some ⟨blk,off,none⟩) d.size cap,.func (.func 127) #[] #[]] w fun e w'=>e=.returned (.tuple #[])/\∃ n os,w'=sortWorldK encP 3 w blk off n (sortL d.toList).toArray os :=
 AnyQ.slices_SortFunc_total Tryz.sortPlaces 3 aggPlace sizePlace encP (fun _=>rfl) (fun x v hv=>by simp [encP] at hv; rcases hv with rfl | rfl | rfl<;>rfl) cmpP swoP 127 #[] blk off cap d w
  (enters_of func127 (by kernel_rfl) rfl) (cmpLays blk off d.size w) hH hblk hsz totP
theorem sort_none (p:Option Addr) (cap:Nat) (fv:Value) (w:World):Calls prog 161 #[.slice p 0 cap,fv] w fun e w'=>e=.returned (.tuple #[])/\w'=w :=
 AnyF.slices_SortFunc_none { Tryz.sortPlaces with } p cap fv w
attribute [local go_sem] Oper.semAt_some
structure CollP (D:DataW Unit) (left:Lit->Bool) (ss:List Plc):Prop where
 once:ss.Nodup
 wf:∀ x∈ss,Wf x
 mem:∀ x,Wf x->(x∈ss ↔ Maps.has D (kl x)=true/\left (kl x)=false)
theorem CollP.start (D:DataW Unit):CollP D (Maps.has D) []:=⟨List.nodup_nil,by simp,fun x _=>by simp⟩
theorem CollP.step {D:DataW Unit} {left:Lit->Bool} {ss:List Plc} (h:CollP D left ss) {x:Plc} (hx:Wf x) (hl:left (kl x)=true) {yd:DataW Unit} (hat:∀ zd,D.atKey (kl x) zd=yd):CollP D (fun z=>left z && !z.sameKey (kl x)) (ss++[x]):=by
 have hnot:x ∉ ss:=fun e=>by have:=((h.mem x hx).1 e).2; rw [hl] at this; cases this
 refine ⟨List.nodup_append.2 ⟨h.once,by simp,fun a ha b hb e=>?_⟩,fun y hy=>?_,fun y hy=>?_⟩
 ·simp at hb; subst hb; subst e; exact hnot ha
 ·rcases List.mem_append.1 hy with h1 | h1
  ·exact h.wf y h1
  ·simp at h1; subst h1; exact hx
 ·by_cases e:y=x
  ·subst e;simp [has_true_of_atKey hat,WideAt.sameKey_self (kl_key y)]
  ·have hne:kl y≠kl x:=fun e'=>e (kl_inj hy hx e');simp [e,h.mem y hy,sameKey_ne hne]
set_option maxRecDepth 100000 in
theorem keys1_any (F:Fence) (n:Nat) (hf:F.fn 162) (hro:F.round=none) (hn:1<=n) (l Bm b nn:Nat) (D0:DataW Unit) (J Jx:List Plc->World->Prop)
  (hY:∀ pre x W,J pre W->pre.length < Maps.size D0->YieldAt F (n - 1) prog l #[pv x] W fun e W'=>(e=.returned (.bool true)/\J (pre++[x]) W'/\KeepsWalks W W')\/(e=.returned (.bool false)/\Jx (pre++[x]) W'))
  (W:World) (hJ:AbidesFrom W.heap.size J) (hm:W.cell? ⟨Bm,0,none⟩=some (.map (some b))) (hown:W.ownsMap prog 105 (plainElem (H:=Unit) prog 48) b nn D0) (h0:J [] W) :
  CallsIn F n prog 162 #[.func (.yield l) #[] #[],.pointer (some ⟨Bm,0,none⟩)] W fun e W'=>(∃ v,e=.returned v) /\
   ((∃ ss,(CollP D0 (fun _=>false) ss/\ss.length<=Maps.size D0)/\J ss W')\/(∃ pre,True/\Jx pre W')):=by
 refine callsIn_of_wp func162 rfl hf ?_ hro;simp only [ntmps162,List.size_toArray,List.length_cons,List.length_nil,Nat.reduceAdd,Nat.reduceSub,Array.replicate_succ,Array.replicate_zero,List.push_toArray,List.append_toArray,List.nil_append,List.cons_append]
 gi_wp2_with (first
  | (gi_at_range; refine wpListIn_range_own _ rfl _ 214 rfl 105 48 keyPlace Tryz.underlying214 _ b nn _ rfl hown ?_; intro w0 hrg0 hg0 hs0)
  | gi_in)
 go_frame
 gi_loopw [3] (fun _ wr=>∃ (left:Lit->Bool) (cnt:Nat) (ss:List Plc),wr.ranges prog 105 (plainElem (H:=Unit) prog 48) b W.heap.size nn D0 left cnt/\ss.length+cnt<=Maps.size D0/\CollP D0 left ss/\J ss wr)
  (fun _ wr=>wr.rangeLeft b W.heap.size)
 case atStart =>
  exact ⟨_,_,[],hrg0,by simp,CollP.start D0,hJ [] W w0 none h0 hg0 (fun r e=>by cases e)⟩
 case round =>
  obtain ⟨left,cnt,ss,hrg,hcs,hC,hJs⟩:=hrel
  gi_wp2_with (first
   | (gi_at_next; refine wpListIn_next_ranges _ rfl _ rfl 105 keyPlace (plainElem (H:=Unit) prog 48) (fun x:Plc=>Value.agg #[.int .i64 x.1,.int .i64 x.2.1,.int .i64 x.2.2]) id (fun key kl hk=>by obtain ⟨x,_,hx,_⟩:=key_inv hk; exact ⟨x,hx⟩) (fun v _ _=>⟨v,rfl⟩) b W.heap.size nn _ _ _ rfl hrg ?_ ?_)
   | gi_in)
  ·intro hc0 hl0
   gi_wp2
   go_end0
   exact ⟨⟨_,rfl⟩,.inl ⟨ss,⟨⟨hC.once,hC.wf,fun x hx=>by rw [hC.mem x hx,hl0]⟩,by omega⟩,hJs⟩⟩
  ·intro xa xb xc c kx yd yp w2 cnt2 hkey hlk hv hat hrg2 hlt hg2 hs2 hen;obtain ⟨x,hx',ex,rfl⟩:=key_inv hkey;obtain ⟨ya,yb,yc⟩:=x;have ex':=pv_inj (x:=(xa,xb,xc)) ex;obtain ⟨rfl,rfl,rfl⟩:xa=ya/\xb=yb/\xc=yc:=by simpa using ex'
   clear ex ex';have hJ2:J ss w2:=hJ ss wr w2 (some W.heap.size) hJs hg2 (fun r e=>by cases e; exact ⟨Nat.le_refl _,hrg.iter_walk⟩);have hJ3:J ss (w2.alloc (.cells #[.int .i64 xa,.int .i64 xb,.int .i64 xc] 105)):=hJ ss w2 _ none hJ2 (World.grownBy_alloc w2 _ none) (fun r e=>by cases e);obtain ⟨fn,tmps,assign,body,hy,hR⟩:=hY ss (xa,xb,xc) _ hJ3 (by omega);have hrg2':=hrg2.alloc (.cells #[.int .i64 xa,.int .i64 xb,.int .i64 xc] 105);have hC2:=hC.step hx' hlk hat;simp only [pv] at hy;clear hs2
   gi_wp2
   refine hR.mono ?_;rintro e W3 (⟨rfl,hJ4,hk3⟩ | ⟨rfl,hJx4⟩)
   ·gi_wp2
    have hrg3:=hrg2'.of_walks hk3
    go_roundw
    case rel=>exact ⟨_,cnt2,ss++[(xa,xb,xc)],hrg3,by simp; omega,hC2,hJ4⟩
    case measure=>rw [hrg3.left_eq,hrg.left_eq]; exact hlt
   ·gi_wp2
    refine bodyPost_ret (results_none rfl _ _ _) rfl ?_;exact ⟨⟨_,rfl⟩,  .inr ⟨ss++[(xa,xb,xc)],trivial,hJx4⟩⟩
def OpsN (f:Plc->Int) (n:Nat) (ss:List Plc):Prop:=OpsF f ss/\ss.length<=n
set_option maxRecDepth 100000 in
theorem keys1_none (F:Fence) (n:Nat) (hf:F.fn 162) (hro:F.round=none) (l Bm:Nat) (J:List Plc->World->Prop) (W:World) (hJ:AbidesFrom W.heap.size J)
  (hm:W.cell? ⟨Bm,0,none⟩=some (.map none)) (h0:J [] W) :
  CallsIn F n prog 162 #[.func (.yield l) #[] #[],.pointer (some ⟨Bm,0,none⟩)] W fun e W'=>(∃ v,e=.returned v)/\J [] W':=by
 have hrg:=run_range_nilMap (P:=prog) W 214 _ _ Tryz.underlying214;have hnx:∀ ty,(Instr.next (.pointer (some ⟨W.heap.size,0,none⟩)) false ty).run prog (W.alloc (.mapIter none 0 #[] 0))=_:=fun ty=>run_next_nilMap _ ty 0 0 #[];refine callsIn_of_wp func162 rfl hf ?_ hro;simp only [ntmps162,List.size_toArray,List.length_cons,List.length_nil,Nat.reduceAdd,Nat.reduceSub,Array.replicate_succ,Array.replicate_zero,List.push_toArray,List.append_toArray,List.nil_append,List.cons_append]
 gi_wp2
 refine wpIn_loop_rounds 1 ?_;rw [roundsIn_succ]
 gi_wp2
 go_end0
 exact ⟨⟨_,rfl⟩,hJ [] W _ none h0 (World.grownBy_alloc W _ none) (fun r e=>by cases e)⟩
theorem keys_stops (F:Fence) (n:Nat) (hf:F.fn 162) (hro:F.round=none) (hn:1<=n) {Bm nn:Nat} {mp:Option Nat} {f:Plc->Int} {w:World} (hBm:Bm < w.heap.size)
  (hm:w.cell? ⟨Bm,0,none⟩=some (.map mp)) (hM:MapIs w mp f nn) :
  SeqStopsK F n prog 162 #[.pointer (some ⟨Bm,0,none⟩)] (fun x:Plc=>#[Value.agg #[.int .i64 x.1,.int .i64 x.2.1,.int .i64 x.2.2]]) KeepsWalks (OpsN f nn) (fun _=>True) nn w:=fun l J Jx W hW hJ _ hY h0=>by
 rcases hM with ⟨rfl,rfl⟩ | ⟨b,D,rfl,ho,hr⟩
 ·exact (keys1_none F n hf hro l Bm J W hJ ((hW.cell (p:=⟨Bm,0,none⟩) hBm).trans hm) h0).mono fun _ _ ⟨he,hj⟩=>⟨he,.inl ⟨[],⟨⟨List.nodup_nil,by simp⟩,Nat.zero_le _⟩,hj⟩⟩
 ·have hlt:=ho.lt;have hsz:=ho.size_le;have ho':W.ownsMap prog 105 (plainElem (H:=Unit) prog 48) b nn D:=by
   obtain ⟨es,clock,hb,r⟩:=ho;exact ⟨es,clock,(hW.block b hlt).trans hb,r⟩
  refine (keys1_any F n hf hro hn l Bm b nn D J Jx (fun pre x W1 h1 h2=>hY pre x W1 h1 (by omega)) W hJ ((hW.cell (p:=⟨Bm,0,none⟩) hBm).trans hm) ho' h0).mono ?_;rintro e W' ⟨he,⟨ss,⟨hC,hlen⟩,hj⟩ | hx⟩
  ·refine ⟨he,.inl ⟨ss,⟨⟨hC.once,fun x=>?_⟩,Nat.le_trans hlen hsz⟩,hj⟩⟩
   by_cases hw:Wf x
   ·rw [hC.mem x hw,hr.has' x hw]; simp
   ·constructor
    ·intro e; exact absurd (hC.wf x e) hw
    ·intro e; exact absurd (hr.words.out x hw) e
  ·exact ⟨he,.inr hx⟩
theorem keys_in (F:Fence) (n:Nat) (hf:F.fn 126) (hro:F.round=none) (mp:Option Nat) (w:World) :
  CallsIn F n prog 126 #[.map mp] w fun e w'=>e=.returned (.func (.func 162) #[] #[.pointer (some ⟨w.heap.size,0,none⟩)])/\w'=w.alloc (.cells #[.map mp] 214):=by
 refine callsIn_of_wp func126 rfl hf ?_ hro;simp only [ntmps126,List.size_toArray,List.length_cons,List.length_nil,Nat.reduceAdd,Nat.reduceSub,Array.replicate_succ,Array.replicate_zero,List.push_toArray,List.append_toArray,List.nil_append,List.cons_append]
 gi_wp2
 go_ret;exact ⟨rfl,rfl⟩
def Box3 (W:World) (B:Nat) (x:Plc):Prop:=W.heap[B]?=some (.cells #[.int .i64 x.1,.int .i64 x.2.1,.int .i64 x.2.2] 105 (0,0))
theorem Box3.rule {W:World} {B:Nat} {x:Plc} (h:Box3 W B x):∀ i,W.cell? ⟨B,i,none⟩=[Value.int .i64 x.1,.int .i64 x.2.1,.int .i64 x.2.2][i]?:=fun i=>by
 unfold Box3 at h;simp [World.cell?,h]
set_option maxRecDepth 100000 in
theorem append_in (F:Fence) (n:Nat) (hf:F.fn 198) (hk:F.fn 162) (hro:F.round=none) (hn:3<=n) {Bm nn:Nat} {mp:Option Nat} {f:Plc->Int} {w:World} (hBm:Bm < w.heap.size)
  (hm:w.cell? ⟨Bm,0,none⟩=some (.map mp)) (hM:MapIs w mp f nn) (hN:nn<=maxLen) (hNb:nn * 24<=140737488355328) :
  CallsIn F n prog 198 #[.slice none 0 0,.func (.func 162) #[] #[.pointer (some ⟨Bm,0,none⟩)]] w fun e w'=>∃ v ss,e=.returned v/\OpsN f nn ss/\w'.ownsRow w.heap.size 105 3 v ss.length (flatP ss)/\(v=.slice none 0 0 ↔ ss=[])/\Below w.heap.size w w':=by
 have h1:1<=n:=by omega
 obtain ⟨i0,hi,hz0,hz1,hz2⟩:=info_parts infoPlace;refine callsIn_of_wp_marks func198 rfl hf ?_ hro;simp only [ntmps198,List.size_toArray,List.length_cons,List.length_nil,Nat.reduceAdd,Nat.reduceSub,Array.replicate_succ,Array.replicate_zero,List.push_toArray,List.append_toArray,List.nil_append,List.cons_append]
 gi_wp2
 have bO:=Boxed.new w 160 (.slice none 0 0);have hB0:Below w.heap.size w (w.alloc (.cells #[.slice none 0 0] 160)):=(Below.refl _ w).alloc (Nat.le_refl _) _;refine wpIn_rangeFunc_ownH hro h1 (gf:=162) (lb:=#[.pointer (some ⟨Bm,0,none⟩)]) rfl hk (enters_of func162 (by kernel_rfl) rfl)
  (keys_stops F (n - 1) hk hro (by omega) (w:=w.alloc (.cells #[.slice none 0 0] 160)) (by simp; omega) ((hB0.cell (p:=⟨Bm,0,none⟩) hBm).trans hm) (hM.more _)) walksK_t walksK_b (Below.refl _ _) (fun _=>rfl)
  (fun pre W=>(∃ v,Boxed W w.heap.size 160 v/\W.ownsRow w.heap.size 105 3 v pre.length (flatP pre)/\(v=.slice none 0 0 ↔ pre=[]))/\Below w.heap.size w W)
  (fun _ _ _=>False)
  (OwnFrom.and (Own.from (holdsRow_own w.heap.size w.heap.size 160 105 3 (fun pre:List Plc=>pre.length) flatP (fun pre v=>v=.slice none 0 0 ↔ pre=[])) _) (ownFrom_below (Nat.le_refl _) (by simp)))
  (fun _ _ _ _ _ hs _ _=>hs)
  ⟨⟨_,bO,World.ownsRow_nil _ _ _ _,by simp⟩,hB0⟩
  (fun x a' W=>∃ Bx,Box3 W Bx x/\a'={ tmps:=#[.slice none 0 0,.func (.func 162) #[] #[.pointer (some ⟨Bm,0,none⟩)],.pointer (some ⟨w.heap.size,0,none⟩),undef,.slice none 0 0,.pointer (some ⟨Bx,0,none⟩),.func (.func 162) #[] #[.pointer (some ⟨Bm,0,none⟩)],.agg #[.int .i64 x.1,.int .i64 x.2.1,.int .i64 x.2.2],undef,undef,undef,undef,undef],defers:=[] })
  (fun x a' _ X Y row hs hg hr=>by
    obtain ⟨Bx,h2,h3⟩:=hs;refine ⟨Bx,(hg.block Bx (Array.getElem?_eq_some_iff.1 h2).1 (fun e=>?_)).trans h2,h3⟩;obtain ⟨_,o,ho,hc⟩:=hr Bx e.symm;rw [show X.heap[Bx]?=_ from h2] at ho;cases ho;cases hc) ?assign ?body ?done ?stop
 case assign =>
  rintro l pre x W K ⟨⟨v,bV,hrow,hnil⟩,hB1⟩ hK
  gi_wp2
  exact hK _ _ ((KeepsOthers.alloc _ _).from _) (KeepsWalks.alloc _ _) ⟨⟨v,bV.alloc _,hrow.alloc _,hnil⟩,hB1.alloc hB1.size _⟩ ⟨W.heap.size,World.alloc_heap_new W _,rfl⟩
 case body =>
  rintro l pre x a' W hl ⟨r,hr⟩ ⟨⟨v,hv,hrow,hnil⟩,hB⟩ ⟨Bx,hBx,rfl⟩ hlt;have hc:=hv.cell;have hx:=hBx.rule
  gi_wp2_with (gi_at_builtin; refine wpListIn_append_own _ rfl _ _ 160 rfl w.heap.size 105 i0 (.agg #[.int .i64 0,.int .i64 0,.int .i64 0]) 3 24 Tryz.underlying160 hi hz0 hz1 hz2 rfl (by decide) _ _ _ rfl (hrow.alloc _) ⟨W.heap.size,0,none⟩ 1 1 [.int .i64 x.1,.int .i64 x.2.1,.int .i64 x.2.2] rfl rfl (cells_new _ _ _) (by simp [Value.oneCell']) (by omega) (by omega) (by have:=hB.size; simp; omega) ?_; intro v' w1 hown' hgrow _; obtain ⟨g',cap',rfl⟩:=ownsRow_succ hown'; obtain ⟨hv1,hv2,hr2,hk2,hb2⟩:=hv.appended (by decide) hrow hB.size (Nat.le_refl _) hown' hgrow; have hc1:=hv1.cell; have hf1:=hv1.frozen)
  exact ⟨hk2.from _,hk2.walks,⟨_,hv2,by rw [flatP_snoc]; simpa [encP] using hr2,by simp⟩,hB.trans hb2⟩
 case done =>
  rintro D ys W hD hS ⟨⟨v,hv,hrow,hnil⟩,hB⟩ hK;have hc:=hv.cell
  gi_wp2
  refine ⟨by simp,.inl ⟨_,_,rfl,run_takeDeferred hK,?_⟩⟩;exact ⟨_,results_tmp rfl _ _ _,v,ys,rfl,hS,ownsRow_putObj hrow _ hK rfl,hnil,hB.trans (belowK_b (w:=w) (Nat.le_refl _) W D _ _ (by simp at hD; omega) hK rfl rfl)⟩
 case stop =>
  rintro D c pre W _ _ h _;exact h.elim
end
end Go.Proofs.YtdknbegcflldjaaGreatDoor
