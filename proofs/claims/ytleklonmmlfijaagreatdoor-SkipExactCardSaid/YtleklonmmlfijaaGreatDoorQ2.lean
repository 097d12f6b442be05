/- What is proved on the way to the statement, part 2: contracts of the functions, among other things in memory. -/
import Derived.Test.YtleklonmmlfijaaGreatDoorQ1
import Derived.Test.YtleklonmmlfijaaGreatDoorChecked
import Derived.DeepKeys4
import Derived.Maps.Range
import Derived.Deep.Light
import Derived.Shelf.SlMaps.Clone
import Derived.LoopIn
import Derived.OwnWalk
import Derived.WalkKit
import Derived.ProofKit
import Derived.OpenShut
import Derived.Defers
import Derived.Recover
import Derived.Test.YtleklonmmlfijaaGreatDoorRows
import Derived.WalkSpells
import Derived.Lib.Hide
import Derived.Deep.RegionHeld3

open _root_.Go.Proofs.Tryz
set_option maxRecDepth 100000
set_option maxHeartbeats 25600000
namespace Go.Proofs.YtleklonmmlfijaaGreatDoor
section
open Go.RowKit Go.Maps
abbrev aI:=Int × Int × Int
def Wf (x:aI):Prop:=In64 x.1/\In64 x.2.1/\In64 x.2.2
def pv (x:aI):Value:=.agg #[.int .i64 x.1,.int .i64 x.2.1,.int .i64 x.2.2]
def kl (x:aI):Lit:=.string (keyBytes [.int .i64 x.1,.int .i64 x.2.1,.int .i64 x.2.2])
theorem Hy:laidOutB prog=true:=by kernel_rfl
theorem CR:(72:TypeId) < prog.types.size:=of_decide_eq_true (by kernel_rfl)
theorem Hz:(match prog.underlying 72 with | some (.array _ _) | some (.struct _)=>true | _=>false)=true:=by rw[Tryz.underlying72]
theorem qb:Keyed prog 72:=Keyed.of_law (deep_law_laid Hy (m:=2) (by omega) CR (by kernel_rfl) Hz)
theorem CS:prog.keyType 72=true:=by kernel_rfl
theorem yS:prog.cellsOf 72=3:=by kernel_rfl
theorem H7:prog.cellsOf 3=1:=by kernel_rfl
theorem H8:0 < prog.types.size:=Nat.lt_of_le_of_lt (Nat.zero_le _) CR
section
variable {P:Program} {k e:TypeId} {f0 f1 f2:Field}
theorem H9 (hk:P.underlying k=some (.struct #[f0,f1,f2])) (t0:f0.type=e) (t1:f1.type=e) (t2:f2.type=e) (he:P.underlying e=some (.int .i64)) (ck:P.cellsOf k=3) (ce:P.cellsOf e=1)
  (o0:f0.offset=0) (o1:f1.offset=1) (o2:f2.offset=2) (hn:(#[f0,f1,f2]:Array Field).all (·.name != "_")=true) (d:Nat) (u v w:Value) :
  P.keyLits (d+2) k [u,v,w]=(P.keyLits (d+1) e [u]).bind fun a=>(P.keyLits (d+1) e [v]).bind fun b=>(P.keyLits (d+1) e [w]).map fun c=>a++(b++c):=by
 generalize hR:(P.keyLits (d+1) e [u]).bind _=R;unfold Program.keyLits;rw[hk];dsimp only;rw[if_pos ⟨by rw[ck];rfl,hn⟩,<- hR];simp only[List.mapM_cons,List.mapM_nil,t0,t1,t2,o0,o1,o2,ce,List.drop_zero,List.drop_succ_cons,List.take_succ_cons,List.take_zero];cases P.keyLits (d+1) e [u] with
 | none=>rfl
 | some a =>
  cases P.keyLits (d+1) e [v] with
  | none=>rfl
  | some b =>
   cases P.keyLits (d+1) e [w] with
   | none=>rfl
   | some c=>simp[pure]
theorem s6 (he:P.underlying e=some (.int .i64)) (d:Nat) (u:Value) {l:List Lit}:P.keyLits (d+1) e [u]=some l ↔ ∃ n,u=.int .i64 n/\In64 n/\l=[.int .i64 n]:=by
 constructor
 ·intro h;unfold Program.keyLits at h;rw[he] at h;cases u<;>simp at h;obtain⟨⟨rfl,hw⟩,rfl⟩:=h;exact⟨_,rfl,CP.1 hw,rfl⟩
 ·rintro⟨n,rfl,hn,rfl⟩;unfold Program.keyLits;rw[he];simp[CP.2 hn]
end
theorem CT (d:Nat) (u v w:Value):prog.keyLits (d+2) 72 [u,v,w]=(prog.keyLits (d+1) 3 [u]).bind fun a=>(prog.keyLits (d+1) 3 [v]).bind fun b=>(prog.keyLits (d+1) 3 [w]).map fun c=>a++(b++c) :=
 H9 Tryz.underlying72 rfl rfl rfl Tryz.underlying3 yS H7 rfl rfl rfl (by kernel_rfl) d u v w
theorem CU:∃ d,prog.types.size+1=d+2:=⟨prog.types.size - 1,by have:=H8;omega⟩
theorem ry (x:aI) (h:Wf x):keyOf prog 72 (pv x)=some (kl x):=by
 obtain⟨a,b,c⟩:=x;obtain⟨h1,h2,h3⟩:=h;unfold keyOf;rw[Tryz.underlying72,CS];have hf:(pv (a,b,c)).formed prog 72=true:=by simp[pv,Value.formed,Tryz.underlying72,yS]
 rw[hf];obtain⟨d,hd⟩:=CU;rw[hd];show (if (true && true)=true then (prog.keyLits (d+2) 72 [.int .i64 a,.int .i64 b,.int .i64 c]).map fun ls=>Lit.string (keyBytes ls) else none)=_;rw[CT,(s6 Tryz.underlying3 d _).2 ⟨a,rfl,h1,rfl⟩,(s6 Tryz.underlying3 d _).2 ⟨b,rfl,h2,rfl⟩,(s6 Tryz.underlying3 d _).2 ⟨c,rfl,h3,rfl⟩];rfl
theorem CV {v:Value} {l:Lit} (h:keyOf prog 72 v=some l):∃ x,Wf x/\v=pv x/\l=kl x:=by
 unfold keyOf at h;rw[Tryz.underlying72,CS] at h;simp only[Bool.true_and] at h
 split at h
 ·rename_i hf;have hv:∃ a b c,v=.agg #[a,b,c]:=by
   cases v<;>simp[Value.formed,Tryz.underlying72,yS] at hf;rename_i cs;obtain⟨l⟩:=cs
   match l,hf with
   | [a,b,c],_=>exact⟨a,b,c,rfl⟩
  obtain⟨a,b,c,rfl⟩:=hv;obtain⟨d,hd⟩:=CU;rw[hd] at h;change (prog.keyLits (d+2) 72 [a,b,c]).map (fun ls=>Lit.string (keyBytes ls))=some l at h;rw[CT] at h;cases ha:prog.keyLits (d+1) 3 [a] with
  | none=>rw[ha] at h;cases h
  | some la =>
   cases hb:prog.keyLits (d+1) 3 [b] with
   | none=>rw[ha,hb] at h;cases h
   | some lb =>
    cases hc:prog.keyLits (d+1) 3 [c] with
    | none=>rw[ha,hb,hc] at h;cases h
    | some lc =>
     rw[ha,hb,hc] at h;obtain⟨na,rfl,ia,rfl⟩:=(s6 Tryz.underlying3 d _).1 ha;obtain⟨nb,rfl,ib,rfl⟩:=(s6 Tryz.underlying3 d _).1 hb;obtain⟨nc,rfl,ic,rfl⟩:=(s6 Tryz.underlying3 d _).1 hc;exact⟨(na,nb,nc),⟨ia,ib,ic⟩,rfl,(Option.some.inj h).symm⟩
 ·cases h
theorem uO {x y:aI} (hx:Wf x) (hy:Wf y) (h:kl x=kl y):x=y:=by
 have:=qb.inj (ry x hx) (h ▸ ry y hy);obtain⟨a,b,c⟩:=x;obtain⟨a',b',c'⟩:=y;simp[pv] at this;simp[this]
theorem yT (x:aI):WideAt.IsKeyLit (kl x):=trivial
def wd (v:Int):DataW Unit:=.lit (.int .u64 v)
def upd (f:aI->Int) (x:aI) (v:Int):aI->Int:=fun y=>if y=x then v else f y
theorem rC (f:aI->Int) (x:aI) (v:Int):upd f x v x=v:=by simp[upd]
theorem kn (f:aI->Int) {x y:aI} (v:Int) (h:y≠x):upd f x v y=f y:=by simp[upd,h]
structure Words (f:aI->Int):Prop where
 u:∀ x,aD (f x)
 out:∀ x,¬ Wf x->f x=0
theorem Words.zero:Words fun _=>0:=⟨fun _=>⟨by omega,by omega⟩,fun _ _=>rfl⟩
theorem Words.set {f:aI->Int} (h:Words f) {x:aI} (hx:Wf x) {v:Int} (hv:aD v):Words (upd f x v):=by
 refine⟨fun y=>?_,fun y hy=>?_⟩
 ·unfold upd;split
  ·exact hv
  ·exact h.u y
 ·rw[kn _ _ (fun e=>hy (by rw[e];exact hx))];exact h.out y hy
structure nI (D:DataW Unit) (f:aI->Int):Prop where
 words:Words f
 at':∀ x,Wf x->D.atKey (kl x) (wd 0)=wd (f x)
 has':∀ x,Wf x->Maps.has D (kl x)=decide (f x≠0)
theorem nI.empty:nI (.map []) fun _=>0:=⟨Words.zero,fun _ _=>rfl,fun _ _=>by simp[Maps.has]⟩
theorem nI.put {D:DataW Unit} {f:aI->Int} (h:nI D f) (hD:IsMap D) {x:aI} (hx:Wf x) {v:Int} (hv:aD v) (h0:v≠0):nI (D.put (kl x) (wd v)) (upd f x v):=by
 refine⟨h.words.set hx hv,fun y hy=>?_,fun y hy=>?_⟩
 ·by_cases e:y=x
  ·subst e;rw[rC];exact atKey_put_same hD (yT _) _ _
  ·rw[kn _ _ e,atKey_put_other (fun e'=>e (uO hy hx e')),h.at' y hy]
 ·by_cases e:y=x
  ·subst e;rw[rC,has_put_same hD (yT _)];simp[h0]
  ·rw[kn _ _ e,has_put_other (fun e'=>e (uO hy hx e')),h.has' y hy]
theorem nI.del {D:DataW Unit} {f:aI->Int} (h:nI D f) {x:aI} (hx:Wf x):nI (D.del (kl x)) (upd f x 0):=by
 refine⟨h.words.set hx ⟨by omega,by omega⟩,fun y hy=>?_,fun y hy=>?_⟩
 ·by_cases e:y=x
  ·subst e;rw[rC];exact atKey_del_same _
  ·rw[kn _ _ e,atKey_del_other (fun e'=>e (uO hy hx e')),h.at' y hy]
 ·by_cases e:y=x
  ·subst e;rw[rC,has_del_same];simp
  ·rw[kn _ _ e,has_del_other (fun e'=>e (uO hy hx e')),h.has' y hy]
theorem CW (w:World):(zeroValue 53).run prog w=.ok (.int .u64 0) w:=by kernel_rfl
def dP (w:World) (mp:Option Nat) (f:aI->Int) (n:Nat):Prop :=
 (mp=none/\f=fun _=>0)\/∃ b D,mp=some b/\w.ownsMap prog 72 (plainElem (H:=Unit) prog 53) b n D/\nI D f
theorem dP.words {w:World} {mp:Option Nat} {f:aI->Int} {n:Nat} (h:dP w mp f n):Words f:=by
 rcases h with ⟨_,rfl⟩ | ⟨b,D,_,_,h⟩
 ·exact Words.zero
 ·exact h.words
theorem dP.mono {w:World} {mp:Option Nat} {f:aI->Int} {n m:Nat} (h:dP w mp f n) (hm:n<=m):dP w mp f m:=by
 rcases h with h | ⟨b,D,e,ho,hr⟩
 ·exact .inl h
 ·exact .inr ⟨b,D,e,ho.mono hm,hr⟩
theorem dP.lt {w:World} {mp:Option Nat} {f:aI->Int} {n:Nat} (h:dP w mp f n):∀ b,mp=some b->b < w.heap.size:=by
 rcases h with ⟨rfl,_⟩ | ⟨b,D,rfl,ho,hr⟩
 ·intro b e;cases e
 ·intro b' e;cases e;exact ho.lt
theorem dP.kept {w w':World} {mp:Option Nat} {f:aI->Int} {n:Nat} (h:dP w mp f n) (hk:∀ b,mp=some b->w'.heap[b]?=w.heap[b]?):dP w' mp f n:=by
 rcases h with h | ⟨b,D,e,⟨es,clock,hb,r⟩,hr⟩
 ·exact .inl h
 ·exact .inr ⟨b,D,e,⟨es,clock,(hk b e).trans hb,r⟩,hr⟩
theorem dP.more {w:World} {mp:Option Nat} {f:aI->Int} {n:Nat} (h:dP w mp f n) (o:Obj):dP (w.alloc o) mp f n:=h.kept fun b e=>Below.heap_alloc _ _ _ (h.lt b e)
theorem dP.drew {w:World} {mp:Option Nat} {f:aI->Int} {n:Nat} (h:dP w mp f n):dP w.drew mp f n:=h.kept fun _ _=>rfl
theorem dP.look {w:World} {mp:Option Nat} {f:aI->Int} {n:Nat} (h:dP w mp f n) {x:aI} (hx:Wf x):(Instr.lookup 129 (.map mp) (pv x) false).run prog w=.ok (.int .u64 (f x)) w:=by
 rcases h with ⟨rfl,rfl⟩ | ⟨b,D,rfl,ho,hr⟩
 ·have:=Maps.look_nil (w:=w) false qb Tryz.underlying129 (CW w) (ry x hx)
  simpa using this
 ·obtain⟨c,cZ,fQ,_⟩:=ho.lookup_int qb Tryz.underlying129 Tryz.underlying53 (CW w) (ry x hx);have h1:=hr.at' x hx;unfold wd at h1;rw[h1] at fQ;simp at fQ;rw[cZ,fQ]
theorem dP.drop {w:World} {mp:Option Nat} {f:aI->Int} {n:Nat} (h:dP w mp f n) {x:aI} (hx:Wf x) (ty:TypeId) :
  ∃ w',(Builtin.delete_ #[129,72] ty #[.map mp,pv x]).run prog w=.ok (.tuple #[]) w'/\dP w' mp (upd f x 0) n/\cj (fun k=>mp=some k) w w':=by
 rcases h with ⟨rfl,rfl⟩ | ⟨b,D,rfl,ho,hr⟩
 ·refine⟨w,Maps.drop_nil qb Tryz.underlying129 (ry x hx) ty,.inl ⟨rfl,?_⟩,cj.refl _ _⟩
  funext y;simp[upd]
 ·obtain⟨w',cZ,lS,ht⟩:=ho.drop qb Tryz.underlying129 (ry x hx) ty;exact⟨w',cZ,.inr ⟨b,_,rfl,lS,hr.del hx⟩,(cj.refl _ _).turned ht fun _=>rfl⟩
theorem dP.store {w:World} {b:Nat} {f:aI->Int} {n:Nat} (h:dP w (some b) f n) (hn:n < maxLen) {x:aI} (hx:Wf x) {v:Int} (hv:aD v) (h0:v≠0) :
  ∃ w',(Instr.mapUpdate 129 (.map (some b)) (pv x) (.int .u64 v)).run prog w=.ok () w'/\dP w' (some b) (upd f x v) (n+1)/\cj (fun k=>k=b) w w':=by
 rcases h with ⟨e,_⟩ | ⟨b',D,e,ho,hr⟩
 ·cases e
 ·cases e;obtain⟨w',cZ,lS,ht⟩:=ho.store qb Tryz.underlying129 hn (ry x hx) (plainElem_int Tryz.underlying53 (Hr.2 hv));exact⟨w',cZ,.inr ⟨b,_,rfl,lS,hr.put ho.isMap hx hv h0⟩,(cj.refl _ _).turned ht fun _=>rfl⟩
theorem dP.made (w:World):dP (w.alloc (.map #[] 0)) (some w.heap.size) (fun _=>0) 0:=.inr ⟨_,_,rfl,World.ownsMap_made w _ _ _,nI.empty⟩
structure bN where
 l:Int
 s:Int
 w:Int
 f:Int
 a:Int
def cv (mp:Option Nat) (q:bN):List Value:=[.map mp,.int .i64 q.l,.int .i64 q.s,.int .i64 q.w,.int .i64 q.f,.int .i64 q.a]
def ed (w:World) (c:Nat) (F:Nat->Prop) (f:aI->Int) (q:bN) (n:Nat):Prop :=
 ∃ mp,ao 0 w c (cv mp q)/\dP w mp f n/\∀ k,F k ↔ (k=c\/mp=some k)
theorem s7 {w:World} {mp:Option Nat} {f:aI->Int} {n c:Nat} {v:Value} {vs:List Value} (h:dP w mp f n) (hb:ao 0 w c (v::vs)):mp≠some c:=by
 rintro rfl
 rcases h with ⟨e,_⟩ | ⟨b,D,e,⟨es,clock,hm,_⟩,_⟩
 ·cases e
 ·cases e;have:=hb.rule 0;simp[World.cell?,hm] at this
theorem ed.lt {w:World} {c:Nat} {F:Nat->Prop} {f:aI->Int} {q:bN} {n:Nat} (h:ed w c F f q n):∀ k,F k->k < w.heap.size:=by
 obtain⟨mp,hb,hm,hF⟩:=h;intro k hk
 rcases (hF k).1 hk with rfl | e
 ·exact hb.1
 ·exact hm.lt k e
theorem ed.mono {w:World} {c:Nat} {F:Nat->Prop} {f:aI->Int} {q:bN} {n m:Nat} (h:ed w c F f q n) (hm:n<=m):ed w c F f q m:=by
 obtain⟨mp,hb,hp,hF⟩:=h;exact⟨mp,hb,hp.mono hm,hF⟩
theorem ed.words {w:World} {c:Nat} {F:Nat->Prop} {f:aI->Int} {q:bN} {n:Nat} (h:ed w c F f q n):Words f:=by
 obtain⟨mp,hb,hp,hF⟩:=h;exact hp.words
def At (F:Nat->Prop) (c:Nat) (w0:World) (B:Nat) (bv:List Value) (mp:Option Nat) (q:bN) (w:World):Prop:=cj F w0 w/\ao 0 w c (cv mp q)/\ao 0 w B bv
theorem At.drew {F:Nat->Prop} {c B:Nat} {w0 w:World} {bv:List Value} {mp:Option Nat} {q:bN} (h:At F c w0 B bv mp q w):At F c w0 B bv mp q w.drew:=⟨h.1.drew,h.2.1,h.2.2⟩
theorem At.map {F T:Nat->Prop} {c B:Nat} {w0 w w':World} {bv:List Value} {mp:Option Nat} {q:bN} (h:At F c w0 B bv mp q w) (ht:cj T w w') (hF:∀ k,k < w0.heap.size->T k->F k) (hc:¬ T c) (hB:¬ T B):At F c w0 B bv mp q w' :=
 ⟨h.1.then ht hF,h.2.1.kept ht.size (ht.block _ h.2.1.1 hc),h.2.2.kept ht.size (ht.block _ h.2.2.1 hB)⟩
theorem Ia {c n:Nat} {F:Nat->Prop} {f:aI->Int} {q:bN} {w:World} (a b d:Int) (hx:Wf (a,b,d)) (hC:ed w c F f q n) :
  Calls prog 279 #[.pointer (some ⟨c,0,none⟩),.agg #[.int .i64 a,.int .i64 b,.int .i64 d],.int .u64 0] w fun e w'=>e=.returned (.tuple #[])/\∃ F',ed w' c F' (upd f (a,b,d) 0) q n/\Step F F' w w':=by
 obtain⟨mp,hb,hm,hF⟩:=hC;have gJ:=hb.1;have hA:At F c w w.heap.size [.int .i64 a,.int .i64 b,.int .i64 d] mp q (w.alloc (.cells #[.int .i64 a,.int .i64 b,.int .i64 d] 72)):=⟨(cj.refl _ _).alloc _,hb.kept (by simp) (Below.heap_alloc _ _ _ gJ),ao.new _ _ _ _⟩;have hM:dP (w.alloc (.cells #[.int .i64 a,.int .i64 b,.int .i64 d] 72)) mp f n:=hm.kept fun k e=>Below.heap_alloc _ _ _ (hm.lt k e);go_enter func279,ntmps279;go_wp2_with fail;refine Ord.wc [5] (At F c w w.heap.size [.int .i64 a,.int .i64 b,.int .i64 d] mp q) (fun j w'=>dP w' mp (if j=0 then f else upd f (a,b,d) 0) n) hA.drew hM.drew fun af=>?_
 repeat ((first
  | (refine Ord.cv ?_ af.o ?_ ?_;rotate_left;(intro w5 hS;have r:=hS.2.1.rule;unfold cv at r;have r2:=hS.2.2.rule;go_simp<;>rfl))
  | (refine Ord.co af.o ?_));try simp only[Act.put,zA,zZ,zS])
 refine Ord.ch_turn (v:=.tuple #[]) 0 af.o rfl (by decide) (Or.inl rfl) (by rfl) ?_ ?_
 ·intro w5 au cR;obtain⟨w6,cZ,yU,ht⟩:=dP.drop cR hx 0;simp only[pv] at cZ;simp[execOp,resolve,invoke,builtin,Act.eval,cZ,Result.andThen];refine⟨rfl,au.map ht (fun k hk e=>(hF k).2 (.inr e)) (fun e=>s7 cR au.2.1 e) (fun e=>s7 cR au.2.2 e),yU⟩
 refine Ord.InText.nil fun w5 hS=>?_;clear af;obtain⟨ai,nJ⟩:=Ord.chain_end hS;clear hS
 go_wp2
 refine bodyPost_ret (results_none rfl _ _ _) rfl ?_;exact⟨rfl,F,⟨mp,ai.2.1,nJ,hF⟩,⟨ai.1,fun k h=>.inl h⟩⟩
def MapOf (F:Nat->Prop) (w:World) (c m:Nat):Prop:=(∀ k,k < w.heap.size->k=m->F k)/\∀ k,(k=c\/some m=some k)->F k\/w.heap.size<=k
theorem MapOf.mk {F:Nat->Prop} {w:World} {c m:Nat} (hc:F c) (hm:F m\/w.heap.size<=m):MapOf F w c m:=by
 refine⟨fun k hk e=>?_,fun k e=>?_⟩
 ·subst e
  rcases hm with h | h
  ·exact h
  ·omega
 ·rcases e with rfl | e
  ·exact .inl hc
  ·cases e;exact hm
theorem Ib {c n:Nat} {F:Nat->Prop} {f:aI->Int} {q:bN} {w:World} (a b d v:Int) (hx:Wf (a,b,d)) (hv:aD v) (h0:v≠0) (hn:n < maxLen) (hC:ed w c F f q n) :
  Calls prog 279 #[.pointer (some ⟨c,0,none⟩),.agg #[.int .i64 a,.int .i64 b,.int .i64 d],.int .u64 v] w fun e w'=>e=.returned (.tuple #[])/\∃ F',ed w' c F' (upd f (a,b,d) v) q (n+1)/\Step F F' w w':=by
 obtain⟨mp,hb,hm,hF⟩:=hC;have gJ:=hb.1;have iL:(v==0)=false:=by simpa using h0
 have hq:=fun w=>run_eql_map_nil_sl (P:=prog) w 129 _ _ mp Tryz.underlying129;have yV:=@run_makeMap prog;have r0:∀ (o1:Obj) i,(w.alloc o1).cell? ⟨c,i,none⟩=(cv mp q)[i]?:=fun o1 i=>(hb.more o1).rule i;have z0:w.frozen? ⟨c,0,none⟩=false:=hb.thaw 0 (by simp[cv]);simp only[cv] at r0;have hE:Hid (∃ m n' W1,At F c w w.heap.size [.int .i64 a,.int .i64 b,.int .i64 d] (some m) q W1/\dP W1 (some m) f n'/\n'<=n/\MapOf F w c m /\
   (W1=w.alloc (.cells #[.int .i64 a,.int .i64 b,.int .i64 d] 72)/\mp=some m\/mp=none/\W1=((w.setCell ⟨c,0,none⟩ (.map (some (w.heap.size+1)))).alloc (.cells #[.int .i64 a,.int .i64 b,.int .i64 d] 72)).alloc (.map #[] 0))):=by
  cases mp with
  | none =>
   rcases hm with ⟨_,rfl⟩ | ⟨b',D,e,_⟩
   ·refine⟨w.heap.size+1,0,_,⟨(((cj.refl _ _).setCell (fun _=>(hF c).2 (.inl rfl)) _).alloc _).alloc _,(((hb.set (i:=0) (by simp[cv]) (.map (some (w.heap.size+1)))).more _).more _),(ao.new 0 (w.setCell ⟨c,0,none⟩ (.map (some (w.heap.size+1)))) [.int .i64 a,.int .i64 b,.int .i64 d] 72).at (by simp) |>.more _⟩,?_,Nat.zero_le _,MapOf.mk ((hF c).2 (.inl rfl)) (.inr (by omega)),.inr ⟨rfl,rfl⟩⟩;have:=dP.made ((w.setCell ⟨c,0,none⟩ (.map (some (w.heap.size+1)))).alloc (.cells #[.int .i64 a,.int .i64 b,.int .i64 d] 72))
    simpa using this
   ·cases e
  | some m=>exact⟨m,n,_,⟨(cj.refl _ _).alloc _,hb.more _,ao.new _ _ _ _⟩,hm.more _,Nat.le_refl _,MapOf.mk ((hF c).2 (.inl rfl)) (.inl ((hF m).2 (.inr rfl))),.inl ⟨rfl,rfl⟩⟩
 clear hF hm;obtain⟨m,n',W1,hA,hM,jo,CX,hW⟩:=hE.out;clear hE
 rcases hW with ⟨rfl,rfl⟩ | ⟨rfl,rfl⟩
 all_goals
  simp only[Option.isNone_none,Option.isNone_some] at hq;go_enter func279,ntmps279;go_wp2_with fail;clear r0 z0 hq hb;refine Ord.wc [6] (At F c w w.heap.size [.int .i64 a,.int .i64 b,.int .i64 d] (some m) q) (fun j w'=>dP w' (some m) (if j=0 then f else upd f (a,b,d) v) (n'+j)) hA.drew hM.drew fun af=>?_
  repeat ((first
   | (refine Ord.cv ?_ af.o ?_ ?_;rotate_left;(intro w5 hS;have r:=hS.2.1.rule;unfold cv at r;have r2:=hS.2.2.rule;go_simp<;>rfl))
   | (refine Ord.co af.o ?_));try simp only[Act.put,zA,zZ,zS])
  refine Ord.ch_turn (v:=undef) 0 af.o rfl (by decide) (Or.inl rfl) (by rfl) ?_ ?_
  ·intro w5 au cR;obtain⟨w6,cZ,yU,ht⟩:=dP.store cR (by omega) hx hv h0;simp only[pv] at cZ;simp[execOp,Act.eval,cZ,Result.andThen];refine⟨rfl,au.map ht CX.1 (fun e=>s7 cR au.2.1 (by rw[e])) (fun e=>s7 cR au.2.2 (by rw[e])),yU⟩
  refine Ord.InText.nil fun w5 hS=>?_;clear af;obtain⟨ai,nJ⟩:=Ord.chain_end hS;clear hS
  go_wp2
  go_end0
  refine⟨rfl,fun k=>k=c\/some m=some k,⟨some m,ai.2.1,nJ.mono (by simp;omega),fun k=>Iff.rfl⟩,⟨ai.1,CX.2⟩⟩
section
variable {w w':World} {c n:Nat} {F:Nat->Prop} {f:aI->Int} {q:bN}
theorem ed.at (h:ed w c F f q n):F c:=by
 obtain⟨mp,hb,hm,hF⟩:=h;exact (hF c).2 (.inl rfl)
theorem ed.tick (h:ed w c F f q n) {i:Nat} {v:Value} {q':bN} (hi:0 < i/\i < 6) (hq:∀ mp,(cv mp q).set i v=cv mp q'):ed (w.setCell ⟨c,i,none⟩ v) c F f q' n:=by
 obtain⟨mp,hb,hm,hF⟩:=h;refine⟨mp,hq mp ▸ hb.set (by simp[cv];omega) v,hm.kept fun b e=>Below.heap_setCell _ _ _ _ fun e'=>s7 hm hb (by rw[e];exact congrArg some e'),hF⟩
theorem nK {vs:List Value} (hc:c < w.heap.size) (h:∀ i,w.cell? ⟨c,i,none⟩=vs[i]?) (o:Obj):∀ i,(w.alloc o).cell? ⟨c,i,none⟩=vs[i]?:=fun i=>by rw[World.cell?_of_block (w:=w) (Below.heap_alloc w o c hc)];exact h i
end
theorem yW {c n:Nat} {F:Nat->Prop} {f:aI->Int} {q:bN} {w:World} (a b d v:Int) (hx:Wf (a,b,d)) (hv:aD v) (hn:n < maxLen) (hC:ed w c F f q n) :
  Calls prog 279 #[.pointer (some ⟨c,0,none⟩),.agg #[.int .i64 a,.int .i64 b,.int .i64 d],.int .u64 v] w fun e w'=>e=.returned (.tuple #[])/\∃ F',ed w' c F' (upd f (a,b,d) v) q (n+1)/\Step F F' w w':=by
 by_cases h0:v=0
 ·subst h0;exact (Ia a b d hx hC).mono fun e w' ⟨h1,F',h2,h3⟩=>⟨h1,F',h2.mono (Nat.le_succ _),h3⟩
 ·exact Ib a b d v hx hv h0 hn hC
theorem Ic (w:World):Calls prog 38 #[] w fun e w'=>e=.returned (.pointer (some ⟨w.heap.size,0,none⟩))/\ed w' w.heap.size (fun k=>k=w.heap.size) (fun _=>0) ⟨0,0,0,0,0⟩ 0/\Below w.heap.size w w':=by
 go_enter func38,ntmps38
 go_wp2
 go_ret;exact⟨rfl,⟨none,ao.new 0 w (cv none ⟨0,0,0,0,0⟩) 131,.inl ⟨rfl,rfl⟩,fun k=>by simp⟩,(Below.refl _ _).alloc (Nat.le_refl _) _⟩
theorem wG {w:World} {c n:Nat} {F:Nat->Prop} {f:aI->Int} {q q1:bN} {mp:Option Nat} (hb:ao 0 w c (cv mp q)) (hm:dP w mp f n) (hF:F c) {i:Nat} {v:Value} (hi:i < 6) (hq:(cv mp q).set i v=cv mp q1) (vs:List Value) (t:TypeId) :
  At F c w w.heap.size vs mp q1 ((w.setCell ⟨c,i,none⟩ v).alloc (.cells vs.toArray t))/\dP ((w.setCell ⟨c,i,none⟩ v).alloc (.cells vs.toArray t)) mp f n :=
 ⟨⟨((cj.refl _ _).setCell (fun _=>hF) _).alloc _,hq ▸ (hb.set hi v).more _,(ao.new 0 (w.setCell ⟨c,i,none⟩ v) vs t).at (by simp)⟩,
   (hm.kept fun b e=>Below.heap_setCell _ _ _ _ fun e'=>s7 hm hb (by rw[e];exact congrArg some e')).more _⟩
theorem ed.of {w w0:World} {c n B:Nat} {F:Nat->Prop} {f:aI->Int} {q:bN} {mp:Option Nat} {bv:List Value} (h:At F c w0 B bv mp q w) (hm:dP w mp f n) (hF:∀ k,F k ↔ (k=c\/mp=some k)):ed w c F f q n:=⟨mp,h.2.1,hm,hF⟩
theorem Ie {c n:Nat} {F:Nat->Prop} {f:aI->Int} {q:bN} {w:World} (a b d:Int) (hx:Wf (a,b,d)) (hC:ed w c F f q n) :
  Calls prog 276 #[.pointer (some ⟨c,0,none⟩),.agg #[.int .i64 a,.int .i64 b,.int .i64 d]] w fun e w'=>e=.returned (.int .u64 (f (a,b,d)))/\ed w' c F f { q with l:=wrap64 (q.l+1) } n/\Step F F w w':=by
 have qd:=hC.at
 obtain⟨mp,hb,hm,hF⟩:=hC;have r0:=hb.rule;have gJ:=hb.1;have r1:=nK gJ r0;have z1:=hb.thaw 1 (by simp[cv]);have eo:=wG hb hm qd (i:=1) (v:=.int .i64 (wrap64 (q.l+1))) (q1:={ q with l:=wrap64 (q.l+1) }) (by omega) rfl [.int .i64 a,.int .i64 b,.int .i64 d] 72;unfold cv at r0 r1;go_enter func276,ntmps276;go_wp2_with fail;generalize (w.setCell ⟨c,1,none⟩ (.int .i64 (wrap64 (q.l+1)))).alloc _=w1 at *;clear r0 r1 z1;refine Ord.wc [] (fun w'=>At F c w w.heap.size [.int .i64 a,.int .i64 b,.int .i64 d] mp { q with l:=wrap64 (q.l+1) } w'/\dP w' mp f n) (fun _ _=>True) ⟨eo.1.drew,eo.2.drew⟩ trivial fun af=>?_
 repeat ((first
  | (refine Ord.cv ?_ af.o ?_ ?_;rotate_left;(intro w5 hS;have r:=hS.1.2.1.rule;unfold cv at r;have r2:=hS.1.2.2.rule;have hl:=hS.2.look hx;simp only[pv] at hl;go_simp<;>rfl))
  | (refine Ord.co af.o ?_));try simp only[Act.put,zA,zZ,zS])
 refine Ord.InText.nil fun w5 hS=>?_;clear af;obtain⟨ai,nJ⟩:=Ord.chain_end hS;clear hS
 go_wp2
 go_ret;exact⟨rfl,.of ai.1 ai.2 hF,⟨ai.1.1,fun k h=>.inl h⟩⟩
theorem Ig {c n:Nat} {F:Nat->Prop} {f:aI->Int} {q:bN} {w:World} (a b d v:Int) (hx:Wf (a,b,d)) (hv:aD v) (hn:n < maxLen) (hC:ed w c F f q n) :
  Calls prog 277 #[.pointer (some ⟨c,0,none⟩),.agg #[.int .i64 a,.int .i64 b,.int .i64 d],.int .u64 v] w fun e w'=>e=.returned (.tuple #[])/\∃ F',ed w' c F' (upd f (a,b,d) v) { q with s:=wrap64 (q.s+1) } (n+1)/\Step F F' w w':=by
 have qd:=hC.at
 obtain⟨mp,hb,hm,hF⟩:=hC;have r0:=hb.rule;have gJ:=hb.1;have r1:=nK gJ r0;have z1:=hb.thaw 2 (by simp[cv]);have eo:=wG hb hm qd (i:=2) (v:=.int .i64 (wrap64 (q.s+1))) (q1:={ q with s:=wrap64 (q.s+1) }) (by omega) rfl [.int .i64 a,.int .i64 b,.int .i64 d] 72;unfold cv at r0 r1;go_enter func277,ntmps277;go_wp2_with fail;generalize (w.setCell ⟨c,2,none⟩ (.int .i64 (wrap64 (q.s+1)))).alloc _=w1 at *;clear r0 r1 z1;refine (yW a b d v hx hv hn (.of eo.1 eo.2 hF)).mono ?_;rintro e w2 ⟨rfl,F',rD,ko⟩
 go_wp2
 go_end0
 exact⟨rfl,F',rD,(Step.mk eo.1.1 fun k h=>.inl h).trans ko⟩
theorem Ih {c n:Nat} {F:Nat->Prop} {f:aI->Int} {q:bN} {w:World} (a b d v:Int) (hx:Wf (a,b,d)) (hn:n < maxLen) (hC:ed w c F f q n) :
  Calls prog 275 #[.pointer (some ⟨c,0,none⟩),.agg #[.int .i64 a,.int .i64 b,.int .i64 d],.int .u64 v] w fun e w'=>e=.returned (.int .u64 (f (a,b,d)))/\∃ F',ed w' c F' (upd f (a,b,d) (IntKind.u64.wrap (f (a,b,d)+v))) { q with a:=wrap64 (q.a+1) } (n+1)/\Step F F' w w':=by
 have qd:=hC.at
 obtain⟨mp,hb,hm,hF⟩:=hC;have r0:=hb.rule;have gJ:=hb.1;have r1:=nK gJ r0;have z1:=hb.thaw 5 (by simp[cv]);have eo:=wG hb hm qd (i:=5) (v:=.int .i64 (wrap64 (q.a+1))) (q1:={ q with a:=wrap64 (q.a+1) }) (by omega) rfl [.int .i64 a,.int .i64 b,.int .i64 d] 72;unfold cv at r0 r1;go_enter func275,ntmps275;go_wp2_with fail;generalize (w.setCell ⟨c,5,none⟩ (.int .i64 (wrap64 (q.a+1)))).alloc _=w1 at *;clear r0 r1 z1;refine Ord.wc [] (fun w'=>At F c w w.heap.size [.int .i64 a,.int .i64 b,.int .i64 d] mp { q with a:=wrap64 (q.a+1) } w'/\dP w' mp f n) (fun _ _=>True) ⟨eo.1.drew,eo.2.drew⟩ trivial fun af=>?_
 repeat ((first
  | (refine Ord.cv ?_ af.o ?_ ?_;rotate_left;(intro w5 hS;have r:=hS.1.2.1.rule;unfold cv at r;have r2:=hS.1.2.2.rule;have hl:=hS.2.look hx;simp only[pv] at hl;go_simp<;>rfl))
  | (refine Ord.co af.o ?_));try simp only[Act.put,zA,zZ,zS])
 refine Ord.InText.nil fun w5 hS=>?_;clear af;obtain⟨ai,nJ⟩:=Ord.chain_end hS;clear hS;have r2:=ai.1.2.2.rule;have HX:=zH hx;have hu:aD (IntKind.u64.wrap (f (a,b,d)+v)):=by rw[IntKind.wrap_u64];unfold aD;omega
 clear hx;go_wp2_with fail;refine (yW a b d (IntKind.u64.wrap (f (a,b,d)+v)) HX.out hu hn (.of ai.1 ai.2 hF)).mono ?_;rintro e w2 ⟨rfl,F',rD,ko⟩;clear r2
 go_wp2
 go_ret;exact⟨rfl,F',rD,(Step.mk ai.1.1 fun k h=>.inl h).trans ko⟩
end
section
def Ring (r:List bF) (N g:Nat) (l:List bF):Prop:=r.length=N/\l.length<=N/\∀ i,i < l.length->r.getD ((g+i) % N) t0=l.getD i t0
theorem Ii {N a i j:Nat} (h:i < j) (hj:j < N):(a+i) % N≠(a+j) % N:=fun e=>by
 have h1:((a+i)+(j - i)) % N=(a+i) % N:=by rw[show a+i+(j - i)=a+j by omega,e]
 have h2:((a+i) % N+(j - i)) % N=(a+i) % N:=by rw[Nat.mod_add_mod];exact h1
 have h3:=Nat.mod_lt (a+i) (show 0 < N by omega)
 by_cases h4:(a+i) % N+(j - i) < N
 ·rw[Nat.mod_eq_of_lt h4] at h2;omega
 ·rw[Nat.mod_eq_sub_mod (by omega),Nat.mod_eq_of_lt (by omega)] at h2;omega
theorem Ring.start (N g:Nat):Ring (List.replicate N t0) N g []:=⟨by simp,by simp,fun i h=>by simp at h⟩
theorem Ring.push {r l:List bF} {N g:Nat} (h:Ring r N g l) (hl:l.length < N) (x:bF):Ring (r.set ((g+l.length) % N) x) N g (l++[x]):=by
 obtain⟨h1,h2,h3⟩:=h;have hp:(g+l.length) % N < N:=Nat.mod_lt _ (by omega);refine⟨by simpa using h1,by simp;omega,fun i hi=>?_⟩;simp at hi;have SG:(g+i) % N < N:=Nat.mod_lt _ (by omega)
 by_cases e:i=l.length
 ·subst e;simp[h1,hp]
 ·have bu:(g+l.length) % N≠(g+i) % N:=fun e'=>Ii (N:=N) (a:=g) (show i < l.length by omega) hl e'.symm;have:=h3 i (by omega);simp only[List.getD_eq_getElem?_getD,List.getElem?_set,if_neg bu] at this ⊢;rw[this,List.getElem?_append_left (by omega)]
theorem Ring.pop {r l:List bF} {N g:Nat} {x:bF} (h:Ring r N g (x::l)):r.getD (g % N) t0=x/\Ring r N (g+1) l:=by
 obtain⟨h1,h2,h3⟩:=h;refine⟨by simpa using h3 0 (by simp),h1,by simp at h2;omega,fun i hi=>?_⟩;have:=h3 (i+1) (by simp;omega);rw[show g+1+i=g+(i+1) by omega,this];simp
theorem Ring.at {r l:List bF} {N g:Nat} (h:Ring r N g l) (i:Nat) (hi:i < l.length):r.getD ((g+i) % N) t0=l.getD i t0:=h.2.2 i hi
def Rm (k n k':Nat):Prop:=k<=k'/\n<=2 ^ k'/\(k'=k\/2 ^ k' < 2 * n)
theorem yX {a b:Nat} (h:a < b):2 * 2 ^ a<=2 ^ b:=by
 have:=Nat.pow_le_pow_right (n:=2) (by omega) (show a+1<=b by omega);rw[Nat.pow_succ] at this;omega
theorem Rm.unique {k n a b:Nat} (h:Rm k n a) (h':Rm k n b):a=b:=by
 obtain⟨h1,h2,h3⟩:=h;obtain⟨g1,g2,g3⟩:=h'
 rcases Nat.lt_trichotomy a b with h | h | h
 ·have:=yX h;omega
 ·exact h
 ·have:=yX h;omega
theorem Rm.same {k n:Nat} (h:n<=2 ^ k):Rm k n k:=⟨Nat.le_refl _,h,.inl rfl⟩
theorem Rm.le {k n k':Nat} (h:Rm k n k') (hk:k<=20) (hn:n<=1048576):k'<=20:=by
 obtain⟨h1,h2,h3⟩:=h
 rcases h3 with rfl | h3
 ·exact hk
 ·apply Classical.byContradiction;intro hc;have:=Nat.pow_le_pow_right (n:=2) (by omega) (show 21<=k' by omega);simp at this;omega
theorem uP {k:Nat} (h:k<=20):2 ^ k<=1048576:=Nat.pow_le_pow_right (n:=2) (by omega) h
theorem uQ {k:Nat} (h:2<=k):4<=2 ^ k:=Nat.pow_le_pow_right (n:=2) (by omega) h
theorem Ij {k:Nat} (hk:k<=64) (a:Nat):a % 18446744073709551616 % 2 ^ k=a % 2 ^ k :=
 Nat.mod_mod_of_dvd a (by have:=Nat.pow_dvd_pow 2 hk;simpa using this)
theorem Ik {k:Nat} (hk:k<=20) (c:Nat) (hc:c < 18446744073709551616):bits .and .u64 (c:Int) (((2 ^ k:Nat):Int) - 1)=((c % 2 ^ k:Nat):Int):=by
 have h1:=Nat.one_le_two_pow (n:=k);have h2:=uP hk;rw[show ((2 ^ k:Nat):Int) - 1=((2 ^ k - 1:Nat):Int) by omega,u64_and_nat _ _ hc (by omega),Nat.and_two_pow_sub_one_eq_mod]
end
section
open Go.RowKit Go.Maps
def dV (c:Nat):Int:=((c % 18446744073709551616:Nat):Int)
def qv (R N g n:Nat):List Value:=[.slice (some ⟨R,0,none⟩) N N,zU (dV g),zU (dV (g+n))]
def eP (w:World) (q:Nat) (F:Nat->Prop) (l:List bF) (k:Nat):Prop :=
 ∃ R g r,ao 0 w q (qv R (2 ^ k) g l.length)/\ao 0 w R (flat3 r)/\Ring r (2 ^ k) g l/\2<=k/\k<=20/\q≠R/\∀ j,F j ↔ (j=q\/j=R)
theorem eP.lt {w:World} {q k:Nat} {F:Nat->Prop} {l:List bF} (h:eP w q F l k):∀ j,F j->j < w.heap.size:=by
 obtain⟨R,g,r,h1,h2,_,_,_,_,hF⟩:=h;intro j hj
 rcases (hF j).1 hj with rfl | rfl
 ·exact h1.1
 ·exact h2.1
theorem eP.kept {w w':World} {q k:Nat} {F:Nat->Prop} {l:List bF} (h:eP w q F l k) (hk:∀ j,F j->w'.heap[j]?=w.heap[j]?) (hs:w.heap.size<=w'.heap.size):eP w' q F l k:=by
 obtain⟨R,g,r,h1,h2,h3,h4,h5,h6,hF⟩:=h;exact⟨R,g,r,h1.kept hs (hk q ((hF q).2 (.inl rfl))),h2.kept hs (hk R ((hF R).2 (.inr rfl))),h3,h4,h5,h6,hF⟩
theorem eP.below {w w':World} {q k:Nat} {F:Nat->Prop} {l:List bF} (h:eP w q F l k) (hb:Below w.heap.size w w'):eP w' q F l k :=
 h.kept (fun j hj=>hb.block j (h.lt j hj)) hb.size
theorem eP.len {w:World} {q k:Nat} {F:Nat->Prop} {l:List bF} (h:eP w q F l k):l.length<=2 ^ k/\l.length<=1048576/\2<=k/\k<=20:=by
 obtain⟨R,g,r,h1,h2,h3,h4,h5,h6,hF⟩:=h;have:=uP h5;exact⟨h3.2.1,by have:=h3.2.1;omega,h4,h5⟩
theorem uR (R k c:Nat) (w:World) (hk:k<=20) :
  Calls prog 72 #[.slice (some ⟨R,0,none⟩) (2 ^ k) (2 ^ k),zU (dV c)] w fun e w'=>e=.returned (.pointer (some ⟨R,(c % 2 ^ k) * 3,none⟩))/\w=w':=by
 have hm:=Ik hk (c % 18446744073709551616) (Nat.mod_lt _ (by omega));rw[Ij (by omega)] at hm;unfold dV;have h1:=Nat.one_le_two_pow (n:=k);have h2:=uP hk;have aE:c % 2 ^ k < 2 ^ k:=Nat.mod_lt _ (by omega);generalize 2 ^ k=N at *;have ij:wrap64 ((N:Int) - 1)=(N:Int) - 1:=df _ (by omega);have gd:IntKind.u64.wrap ((N:Int) - 1)=(N:Int) - 1:=by rw[IntKind.wrap_u64];omega
 generalize c % N=p at *;generalize ((c % 18446744073709551616:Nat):Int)=c' at *;go_enter func72,ntmps72;go_wp2_with fail;go_ret;exact⟨rfl,rfl⟩
theorem Il (g n:Nat) (hn:n<=1048576):wrap64 (IntKind.u64.wrap ((dV (g+n)) - (dV g)))=n:=by
 unfold dV;rw[IntKind.wrap_u64];unfold wrap64;omega
theorem s8 {w:World} {q k:Nat} {F:Nat->Prop} {l:List bF} (hQ:eP w q F l k) :
  Calls prog 71 #[zP q] w fun e w'=>e=.returned (zI l.length)/\Below w.heap.size w w':=by
 obtain⟨qe,bB,e8,hk⟩:=hQ.len;obtain⟨R,g,r,hq,hr,fR,_,_,bu,hF⟩:=hQ;have hn:=Il g l.length bB;clear hr fR hF;unfold qv at hq;generalize (dV g)=G at *;generalize (dV (g+l.length))=C at *;generalize 2 ^ k=N at *;have hE:Below w.heap.size w w:=Below.refl _ _;go_enter func71,ntmps71;go_wp2_with fail;refine Ord.wc [] (fun w'=>ao 0 w' q [.slice (some ⟨R,0,none⟩) N N,zU G,zU C]) (fun _ w'=>Below w.heap.size w w') hq.drew hE.drew fun af=>?_
 repeat ((first
  | (refine Ord.cv ?_ af.o ?_ ?_;rotate_left;(intro w5 hS;have r:=ao.rule hS;go_simp<;>rfl))
  | (refine Ord.co af.o ?_));try simp only[Act.put,zA,zZ,zS])
 refine Ord.InText.nil fun w5 hS=>?_;clear af;obtain⟨oL,aB⟩:=Ord.chain_end hS;clear hS
 go_wp2
 go_ret;exact⟨iA ((lU _).trans hn),aB⟩
theorem dJ {n B i:Nat} {a b:World} (h:Below n a b) (hs:n<=b.heap.size) (hB:n<=B) (u:Value):Below n a (b.setCell ⟨B,i,none⟩ u) :=
 cj.below h ((cj.refl (fun k=>k=B) b).setCell (p:=⟨B,i,none⟩) (fun _=>rfl) u) hs (fun k e=>by subst e;exact hB)
theorem ao.off {m n B i:Nat} {vs:List Value} {w:World} (h:ao m w n vs) (bu:n≠B) (u:Value):ao m (w.setCell ⟨B,i,none⟩ u) n vs:=h.kept (by simp) (Below.heap_setCell _ _ _ _ (by simpa using bu))
theorem ao.put3 {m B:Nat} {a b c:Value} {w:World} (h:ao m w B [a,b,c]) (u v t:Value):ao m (((w.setCell ⟨B,0,none⟩ u).setCell ⟨B,1,none⟩ v).setCell ⟨B,2,none⟩ t) B [u,v,t]:=((h.set (i:=0) (by simp) u).set (i:=1) (by simp) v).set (i:=2) (by simp) t
theorem uS (g j:Nat):IntKind.u64.wrap ((dV g)+(j:Int))=(dV (g+j)):=by
 unfold dV;rw[IntKind.wrap_u64];omega
theorem Im (j:Nat) (h:j<=1048576):IntKind.u64.wrap (j:Int)=j:=by rw[IntKind.wrap_u64];omega
theorem yY {n B i:Nat} {a b:World} {F:Nat->Prop} (h:cj F a b) (hB:n=a.heap.size) (hk:n<=B) (u:Value):cj F a (b.setCell ⟨B,i,none⟩ u) :=
 h.setCell (p:=⟨B,i,none⟩) (fun e=>by subst hB;exact absurd e (Nat.not_lt.2 hk)) u
def lz (l:List bF) (j:Nat):List bF:=l.take j++List.replicate (l.length - j) t0
theorem Io (l:List bF):lz l 0=List.replicate l.length t0:=by simp[lz]
theorem Ip (l:List bF):lz l l.length=l:=by simp[lz]
theorem Iq (l:List bF) {j:Nat} (h:j<=l.length):(lz l j).length=l.length:=by simp[lz];omega
theorem Ir (l:List bF) {j:Nat} (h:j < l.length):(lz l j).set j (l.getD j t0)=lz l (j+1):=by
 have e:(l.take j).length=j:=by simp;omega
 unfold lz;rw[List.set_append_right _ _ (by omega),e,Nat.sub_self,show l.length - j=(l.length - (j+1))+1 by omega,List.replicate_succ,zZ,List.take_succ_eq_append_getElem h,List.append_assoc,show l.getD j t0=l[j] by simp[h]];rfl
theorem yZ:(prog.info? 97).map (fun i=>(i.zero,i.size,i.bytes))=some (some (tv t0),3,24):=by kernel_rfl
theorem Is (g a b:Nat) (h:a<=1048576) (h':b<=1048576):((dV (g+a)) != (dV (g+b)))=decide (a≠b):=by
 unfold dV
 by_cases e:a=b
 ·subst e;simp
 ·have:(g+a) % 18446744073709551616≠(g+b) % 18446744073709551616:=by omega
  have h2:(((g+a) % 18446744073709551616:Nat):Int)≠(((g+b) % 18446744073709551616:Nat):Int):=by omega
  simp only[bne_iff_ne,ne_eq,h2,not_false_iff,e,decide_true]
theorem CY (g a b:Nat) (h:a<=b) (h':b<=1048576):((dV (g+b) - dV (g+a)) % 18446744073709551616).toNat=b - a:=by unfold dV;omega
theorem Iu {w:World} {q k n:Nat} {F:Nat->Prop} {l:List bF} (hn:n<=1048576) (nL:l.length<=n) (hQ:eP w q F l k) :
  Calls prog 106 #[zP q,zI n] w fun e w'=>e=.returned (.tuple #[])/\∃ k' F',Rm k n k'/\eP w' q F' l k'/\Step F F' w w':=by
 obtain⟨qe,bB,e8,hk⟩:=hQ.len;have mF:=zH hQ;obtain⟨R,g,r,hq,hr,fR,_,_,bu,hF⟩:=hQ;have pZ:=fR.1;have h4:=uQ e8;have hs:=uP hk;have r0:=hq.rule;unfold qv at r0;have iM:=zH (And.intro hq (And.intro hr (And.intro fR hF)));have SH:=hq.1;have SI:=hr.1;clear hq hr fR hF;generalize hN:2 ^ k=N at *;have HN:Hid (N=2 ^ k):=zH hN.symm;clear hN;have rE:=zH r0;go_enter func106,ntmps106;go_wp2_with fail
 all_goals (try omega)
 go_loopw [4] (fun i wr=>∃ j M:Nat,Hid (M=2 ^ j)/\k<=j/\j<=20/\(j=k\/M < 2 * n)/\i=.int .i64 M/\w=wr) (fun i _=>4194304 - (intOf i).toNat)
 case atStart=>exact⟨k,N,HN,Nat.le_refl _,hk,.inl rfl,rfl,rfl⟩
 case round =>
  obtain⟨j,M,HM,Iv,y5,CZ,rfl,rfl⟩:=hrel;have SJ:4<=M:=by rw[HM.out];exact uQ (by omega)
  have SK:M<=1048576:=by rw[HM.out];exact uP y5
  by_cases aE:M < n
  ·go_wp2_with fail;have C1:M * 2=2 ^ (j+1):=by rw[HM.out,Nat.pow_succ]
   have hj:j+1<=20:=by
    apply Classical.byContradiction;intro hc;have:=Nat.pow_le_pow_right (n:=2) (by omega) (show 21<=j+1 by omega);simp only[<- C1] at this;simp at this;omega
   exact⟨⟨j+1,M * 2,zH C1,by omega,hj,.inr (by omega),by simp⟩,by simp[intOf];omega⟩
  ·by_cases jz:j=k
   ·have C2:M=N:=by rw[HM.out,HN.out,jz]
    subst C2;go_wp2_with fail;refine bodyPost_ret (results_none rfl _ _ _) rfl ?_;exact⟨rfl,k,F,⟨Nat.le_refl _,by rw[<- HN.out];omega,.inl rfl⟩,mF.out,Step.refl _ _⟩
   ·have SL:2 * N<=M:=by rw[HM.out,HN.out];exact yX (by omega)
    have C2:M≠N:=by omega
    have SM:((M:Int)==(N:Int))=false:=by rw[beq_eq_false_iff_ne];omega
    clear mF;go_wp2_with (refine yR _ rfl _ _ 87 rfl 97 Tryz.underlying87 yZ .i64 .i64 _ _ M rfl rfl rfl rfl (by omega) ?_);have lV:=ao.new 0 w (flat3 (List.replicate M t0)) 97;have dv:=(Below.refl w.heap.size w).alloc (Nat.le_refl _) (.cells (flat3 (List.replicate M t0)).toArray 97);have HJ:=zH CZ;clear rE CZ;generalize cV:w.heap.size=b at *;have qf:=zH cV;clear cV;generalize w.alloc (.cells (flat3 (List.replicate M t0)).toArray 97)=w2 at *
    go_loopw [6] (fun c v=>∃ m:Nat,m<=l.length/\c=.int .u64 (dV (g+m))/\Below b w v/\∃ r',Ring r' M g (l.take m)/\ao 0 v b (flat3 r')) (fun c _=>((dV (g+l.length) - intOf c) % 18446744073709551616).toNat)
    case atStart=>exact⟨0,Nat.zero_le _,rfl,dv,_,Ring.start M g,lV⟩
    case round =>
     obtain⟨m,aQ,rfl,hB,r',fR,dm⟩:=hrel;clear lV dv;have ik:q < b/\R < b:=by rw[<- qf.out];exact⟨iM.out.1.1,iM.out.2.1.1⟩
     have y7:b<=wr.heap.size:=by rw[<- qf.out];exact hB.size
     have oL:ao 0 wr q _:=iM.out.1.kept (by rw[qf.out];exact y7) (hB.block _ ik.1);have ta:ao 0 wr R _:=iM.out.2.1.kept (by rw[qf.out];exact y7) (hB.block _ ik.2);have rq:=oL.rule;unfold qv at rq;have pX:=Is g m l.length (by omega) (by omega)
     by_cases nM:m < l.length
     ·rw[decide_eq_true (by omega)] at pX;have hlen:(l.take m).length=m:=by simp;omega
      have oM:=fR.push (by rw[hlen];omega) (l.getD m t0);rw[hlen] at oM;have jm:l.take m++[l.getD m t0]=l.take (m+1):=by
       rw[List.take_succ_eq_append_getElem nM,show l.getD m t0=l[m] by simp[nM]]
      rw[jm] at oM;have SN:=fR.1;have nN:(g+m) % M < M:=Nat.mod_lt _ (by omega);have ec:(g+m) % N < N:=Nat.mod_lt _ (by omega);have wH:=zH fun w'=>uR b j (g+m) w' y5;have qg:=zH fun w'=>uR R k (g+m) w' hk;rw[<- HM.out] at wH;rw[<- HN.out] at qg;have fQ:=iM.out.2.2.1.at m nM;have ie:∀ w',ao 0 w' R (flat3 r)->w'.cell? ⟨R,(g+m) % N * 3,none⟩=some (zI (l.getD m t0).1)/\w'.cell? ⟨R,(g+m) % N * 3+1,none⟩=some (zI (l.getD m t0).2.1)/\w'.cell? ⟨R,(g+m) % N * 3+2,none⟩=some (zI (l.getD m t0).2.2):=fun w' h=>by
       have e:=fun c hc=>(h.rule ((g+m) % N * 3+c)).trans (mE r ((g+m) % N) c (by omega) hc);rw[fQ] at e;exact⟨e 0 (by omega),e 1 (by omega),e 2 (by omega)⟩
      clear fQ hlen jm fR;generalize l.getD m t0=xx at *;obtain⟨x,y,z⟩:=xx;simp only at ie;have HC:=zH ie;have HP:=zH oM;have HL:=zH (CY g m l.length (by omega) bB);have nO:=zH (CY g (m+1) l.length (by omega) bB);have iB:=uS g m;have y8:=uS (g+m) 1;simp only[Int.natCast_one] at y8;clear ie oM;generalize (g+m) % M=p1 at *;generalize (g+m) % N=p2 at *;unfold qv at oL;generalize dV g=G at *;generalize CJ:dV (g+m)=CM at *;generalize gJ:dV (g+l.length)=CL at *;generalize C3:dV (g+m+1)=Iw at *;have Ix:=zH C3;clear CJ gJ C3 iB;go_wp2_with fail;refine Ord.wc [12] (fun w'=>ao 0 w' q [.slice (some ⟨R,0,none⟩) N N,zU G,zU CL]/\ao 0 w' R (flat3 r)) (fun i w'=>b<=w'.heap.size/\Below b w w'/\ao 0 w' b (flat3 (if i=0 then r' else r'.set p1 (x,y,z)))) ⟨oL.drew,ta.drew⟩ ⟨y7,hB.drew,dm.drew⟩ fun af=>?_
      repeat ((first
       | (refine Ord.cv ?_ af.o ?_ ?_;rotate_left;(intro w5 hS;have r:=ao.rule hS.1;obtain⟨c0,c1,c2⟩:=HC.out _ hS.2;go_simp<;>rfl))
       | (refine Ord.co af.o ?_)
       | (refine Ord.cc ?_ ?_ ?_ af.o ?_ ?_ ?_;rotate_left 3;(intro w5 hS;have r:=ao.rule hS.1;obtain⟨c0,c1,c2⟩:=HC.out _ hS.2;go_simp;constructor<;>rfl);(intro w5 hS;(first | (with_reducible refine (wH.out w5).mono ?_;rintro e w6 ⟨rfl,rfl⟩;constructor;rfl;exact⟨hS,fun _ h=>h⟩) | (with_reducible refine (qg.out w5).mono ?_;rintro e w6 ⟨rfl,rfl⟩;constructor;rfl;exact⟨hS,fun _ h=>h⟩)))));try simp only[Act.put,zA,zZ,zS])
      refine Ord.ch_turn (v:=undef) 0 af.o rfl (by decide) (Or.inl rfl) (by rfl) ?_ ?_
      ·rintro w5 hS ⟨iz,gK,aU⟩;simp only[if_true] at aU;have kK:=fun c hc=>(aU.rule (p1 * 3+c)).trans (mE _ p1 c (by omega) hc);have r0:=kK 0 (by omega);have r1:=kK 1 (by omega);have r2:=kK 2 (by omega);simp only[Nat.add_zero,fF,List.getElem?_cons_zero,List.getElem?_cons_succ] at r0 r1 r2;have lW:=s4 r';have f0:=aU.thaw (p1 * 3) (by omega);have f1:=aU.thaw (p1 * 3+1) (by omega);have f2:=aU.thaw (p1 * 3+2) (by omega);clear kK;go_simp;refine⟨rfl,⟨((hS.1.off (by omega) _).off (by omega) _).off (by omega) _,((hS.2.off (by omega) _).off (by omega) _).off (by omega) _⟩,by simpa using iz,?_,?_⟩
       ·exact dJ (dJ (dJ gK iz (Nat.le_refl _) _) (by simp;omega) (Nat.le_refl _) _) (by simp;omega) (Nat.le_refl _) _
       ·exact ao.set3 aU (by omega) (x,y,z)
      try simp only[Act.put,zA,zZ,zS]
      repeat ((first
       | (refine Ord.cv ?_ af.o ?_ ?_;rotate_left;(intro w5 hS;skip;go_simp<;>rfl))
       | (refine Ord.co af.o ?_));try simp only[Act.put,zA,zZ,zS])
      refine Ord.InText.nil fun w5 hS=>?_;clear af;obtain⟨aL,ai⟩:=Ord.chain_end hS;clear hS;obtain⟨iz,gK,aU⟩:=ai;rw[if_neg (by decide)] at aU;go_wp2_with fail;refine⟨⟨m+1,by omega,by rw[<- Ix.out];rfl,gK,_,HP.out,aU⟩,?_⟩;show ((CL - Iw) % 18446744073709551616).toNat < ((CL - CM) % 18446744073709551616).toNat;rw[HL.out,nO.out];omega
     ·have tc:m=l.length:=by omega
      subst tc;rw[decide_eq_false (by omega)] at pX;rw[List.take_length] at fR;have f0:=oL.thaw 0 (by simp[qv]);go_wp2_with fail
      go_end0
      have nP:(qv R N g l.length).set 0 (.slice (some ⟨b,0,none⟩) M M)=qv b M g l.length:=rfl;have tf:=oL.set (i:=0) (by simp[qv]) (.slice (some ⟨b,0,none⟩) M M);rw[nP] at tf;have qh:=dm.off (B:=q) (i:=0) (by omega) (.slice (some ⟨b,0,none⟩) M M);refine⟨rfl,j,fun x=>x=q\/x=b,⟨Iv,by rw[<- HM.out];omega,.inr (by rw[<- HM.out];rcases HJ.out with h | h;exact absurd h jz;exact h)⟩,⟨b,g,r',by rw[<- HM.out];exact tf,qh,by rw[<- HM.out];exact fR,by omega,y5,by omega,fun x=>Iff.rfl⟩,?_,?_⟩
      ·have Iy:Below w.heap.size w wr:=by rw[qf.out];exact hB
       exact (cj.of_below Iy:cj F w wr).setCell (p:=⟨q,0,none⟩) (fun _=>(iM.out.2.2.2 q).2 (.inl rfl)) _
      ·rintro x (rfl | rfl)
       ·exact .inl ((iM.out.2.2.2 x).2 (.inl rfl))
       ·exact .inr (by rw[qf.out];exact Nat.le_refl _)
theorem wI {w:World} {q k cap:Nat} {F:Nat->Prop} {l xs:List bF} {A:Option Addr} (hn:l.length+xs.length<=1048576) (hA:gI w A xs) (kL:xs≠[]->∀ b,yQ A b->¬ F b) (hQ:eP w q F l k) :
  Calls prog 79 #[zP q,.slice A xs.length cap] w fun e w'=>e=.returned (zI 0)/\∃ k' F',Rm k (l.length+xs.length) k'/\eP w' q F' (l++xs) k'/\Step F F' w w':=by
 have qi:wrap64 ((l.length:Int)+(xs.length:Int))=((l.length+xs.length:Nat):Int):=by rw[df _ (by omega)];omega
 go_enter func79,ntmps79;go_wp2_with fail;refine (s8 hQ).mono ?_;rintro e w1 ⟨rfl,hb⟩;have oN:=hQ.lt;have tj:=hQ.below hb;have Iz:=hQ.len.2.2.2;have HA:=zH (And.intro hA (And.intro kL (And.intro hb oN)));have C4:=zH qi;clear hQ hA kL hb oN qi;go_wp2_with fail;have za:Hid (IntKind.i64.wrap ((l.length:Int)+(xs.length:Int))=((l.length+xs.length:Nat):Int)):=zH (by rw[lU];exact C4.out)
 try rw[za.out]
 try rw[C4.out]
 refine (Iu hn (by omega) tj).mono ?_;rintro e w2 ⟨rfl,k',F1,tm,lX,ko⟩;clear tj;have C5:=tm.le Iz hn;have hN:=tm.2.1;have IA:=zH tm;clear tm;have bY:Step F F1 w w2:=(Step.of_below F HA.out.2.2.1).trans ko;clear ko;go_wp2_with fail
 go_loopw [6,18] (fun _ i v=>∃ j:Nat,j<=xs.length/\i=.int .i64 j/\eP v q F1 (l++xs.take j) k'/\Step F F1 w v) (fun _ i _=>xs.length - (intOf i).toNat)
 case atStart=>exact⟨0,Nat.zero_le _,rfl,by simpa using lX,bY⟩
 case round =>
  clear lX bY;obtain⟨j,hj,rfl,zb,wJ⟩:=hrel
  by_cases aE:j < xs.length
  ·have fS:gI wr A xs:=HA.out.1.kept (fun b hb=>wJ.turn.block b (by
    rcases HA.out.1 with h0 | ⟨b',off,he,fG,hc⟩
    ·rw[h0] at aE;simp at aE
    ·obtain⟨o,ho⟩:=hb;rw[he] at ho;cases ho;exact fG) (HA.out.2.1 (by rintro rfl;simp at aE) b hb)) wJ.turn.size
   rcases fS with h0 | ⟨b,off,rfl,jl,hc⟩
   ·rw[h0] at aE;simp at aE
   have hc:=hc j aE;have hlen:(l++xs.take j).length=l.length+j:=by simp;omega
   obtain⟨R,g,r,hq,hr,fR,e8,_,bu,hF⟩:=zb;have oM:=fR.push (by rw[hlen];omega) (xs.getD j t0);rw[hlen] at hq oM;have jm:l++xs.take j++[xs.getD j t0]=l++xs.take (j+1):=by
    rw[List.take_succ_eq_append_getElem aE,show xs.getD j t0=xs[j] by simp[aE],List.append_assoc]
   rw[jm] at oM;have pZ:=fR.1;have nN:(g+(l.length+j)) % 2 ^ k' < 2 ^ k':=Nat.mod_lt _ (by have:=uQ e8;omega);have wH:=zH fun w'=>uR R k' (g+(l.length+j)) w' C5;have y8:=uS (g+(l.length+j)) 1;simp only[Int.natCast_one] at y8;have HF:=zH (And.intro hF (And.intro e8 bu));have IB:F1 q:=(hF q).2 (.inl rfl);have zc:F1 R:=(hF R).2 (.inr rfl);clear fR jm hlen hF e8;rw[wF] at hc;generalize xs.getD j t0=xx at *;obtain⟨x,y,z⟩:=xx;obtain⟨c0,c1,c2⟩:=qa hc;clear hc;have nP:(qv R (2 ^ k') g (l.length+j)).set 2 (zU (dV (g+(l.length+j)+1)))=qv R (2 ^ k') g (l.length+(j+1)):=rfl;have C6:=zH nP;have HP:=zH oM;clear nP oM;have bU:=hq.1;have SQ:=hr.1;generalize (g+(l.length+j)) % 2 ^ k'=p at *;have HQ:=zH hq;have rq:=hq.rule;unfold qv at hq rq;have fT:=hq.more (.cells [zI x,zI y,zI z].toArray 97);have jS:=hr.more (.cells [zI x,zI y,zI z].toArray 97);have jq:=ao.new 0 wr [zI x,zI y,zI z] 97;have uT:cj F1 wr (wr.alloc (.cells [zI x,zI y,zI z].toArray 97)):=(cj.refl F1 wr).alloc _;clear hq hr;generalize hg:dV g=G at *;have HG:=zH hg;clear hg;generalize dV (g+(l.length+j))=CN at *;generalize C7:dV (g+(l.length+j)+1)=C8 at *;have IC:=zH C7;clear C7;generalize gL:2 ^ k'=N at *;have nQ:=zH gL;clear gL;go_wp2_with fail;refine Ord.wc [11] (fun w'=>ao 0 w' q [.slice (some ⟨R,0,none⟩) N N,zU G,zU CN]/\ao 0 w' wr.heap.size [zI x,zI y,zI z]) (fun i w'=>cj F1 wr w'/\ao 0 w' R (flat3 (if i=0 then r else r.set p (x,y,z)))) ⟨fT.drew,jq.drew⟩ ⟨uT.drew,jS.drew⟩ fun af=>?_
   repeat ((first
    | (refine Ord.cv ?_ af.o ?_ ?_;rotate_left;(intro w5 hS;have rr:=ao.rule hS.1;have r3:=ao.rule hS.2;go_simp<;>rfl))
    | (refine Ord.co af.o ?_)
    | (refine Ord.cc ?_ ?_ ?_ af.o ?_ ?_ ?_;rotate_left 3;(intro w5 hS;have rr:=ao.rule hS.1;have r3:=ao.rule hS.2;go_simp;constructor<;>rfl);(intro w5 hS;(first | (with_reducible refine (wH.out w5).mono ?_;rintro e w6 ⟨rfl,rfl⟩;constructor;rfl;exact⟨hS,fun _ h=>h⟩)))));try simp only[Act.put,zA,zZ,zS])
   refine Ord.ch_turn (v:=undef) 0 af.o rfl (by decide) (Or.inl rfl) (by rfl) ?_ ?_
   ·rintro w5 hS ⟨gK,aU⟩;simp only[if_true] at aU;have kK:=fun c hc=>(aU.rule (p * 3+c)).trans (mE _ p c (by omega) hc);have r0:=kK 0 (by omega);have r1:=kK 1 (by omega);have r2:=kK 2 (by omega);simp only[Nat.add_zero,fF,List.getElem?_cons_zero,List.getElem?_cons_succ] at r0 r1 r2;have lW:=s4 r;have f0:=aU.thaw (p * 3) (by omega);have f1:=aU.thaw (p * 3+1) (by omega);have f2:=aU.thaw (p * 3+2) (by omega);clear kK rq;go_simp;refine⟨rfl,⟨((hS.1.off bu _).off bu _).off bu _,((hS.2.off (by omega) _).off (by omega) _).off (by omega) _⟩,?_,?_⟩
    ·exact ((gK.setCell (p:=⟨R,p * 3,none⟩) (fun _=>zc) _).setCell (p:=⟨R,p * 3+1,none⟩) (fun _=>zc) _).setCell (p:=⟨R,p * 3+2,none⟩) (fun _=>zc) _
    ·exact ao.set3 aU (by omega) (x,y,z)
   try simp only[Act.put,zA,zZ,zS]
   repeat ((first
    | (refine Ord.cv ?_ af.o ?_ ?_;rotate_left;(intro w5 hS;skip;go_simp<;>rfl))
    | (refine Ord.co af.o ?_));try simp only[Act.put,zA,zZ,zS])
   refine Ord.InText.nil fun w5 hS=>?_;clear af;obtain⟨aL,ai⟩:=Ord.chain_end hS;clear hS;obtain⟨gK,aU⟩:=ai;rw[if_neg (by decide)] at aU;have tf:=aL.1;have r9:=tf.rule;have f9:=tf.thaw 2 (by simp);clear aL rq;go_wp2_with fail;have nR:=tf.set (i:=2) (by simp) (zU C8);have rF:=aU.off (B:=q) (i:=2) (fun e=>bu e.symm) (zU C8);refine⟨⟨j+1,by omega,by simp,⟨R,g,r.set p (x,y,z),?_,rF,by rw[nQ.out];exact HP.out,HF.out.2.1,C5,bu,HF.out.1⟩,wJ.trans ⟨gK.setCell (p:=⟨q,2,none⟩) (fun _=>IB) _,fun x hx=>.inl hx⟩⟩,by simp[intOf];omega⟩;have jT:(l++xs.take (j+1)).length=l.length+(j+1):=by simp;omega
   rw[jT,nQ.out];show ao 0 _ q [.slice (some ⟨R,0,none⟩) N N,zU (dV g),zU (dV (g+(l.length+j)+1))];rw[HG.out,IC.out];exact nR
  ·go_wp2_with fail;have:j=xs.length:=by omega
   subst this;rw[List.take_length] at zb;go_ret;exact⟨rfl,k',F1,IA.out,zb,wJ⟩
theorem ID {w:World} {cap:Nat} {xs:List bF} {A:Option Addr} (hn:xs.length<=1048576) (hA:gI w A xs) :
  Calls prog 41 #[.slice A xs.length cap] w fun e w'=>∃ q F k,e=.returned (zP q)/\Rm 2 xs.length k/\eP w' q F xs k/\Below w.heap.size w w'/\(∀ j,F j->w.heap.size<=j):=by
 have hr:=ao.new 0 w (flat3 [t0,t0,t0,t0]) 97;have cV:=(Below.refl w.heap.size w).alloc (Nat.le_refl _) (.cells (flat3 [t0,t0,t0,t0]).toArray 97);have jD:(w.alloc (.cells (flat3 [t0,t0,t0,t0]).toArray 97)).heap.size=w.heap.size+1:=by simp
 have hq:=ao.new 0 (w.alloc (.cells (flat3 [t0,t0,t0,t0]).toArray 97)) (qv w.heap.size 4 0 0) 155;have qj:=hr.more (.cells (qv w.heap.size 4 0 0).toArray 155);have eg:=cV.alloc (by rw[jD];omega) (.cells (qv w.heap.size 4 0 0).toArray 155);rw[jD] at hq;have hQ:eP _ (w.heap.size+1) (fun j=>j=w.heap.size+1\/j=w.heap.size) [] 2:=⟨w.heap.size,0,[t0,t0,t0,t0],hq,qj,⟨rfl,by simp,fun i h=>by simp at h⟩,by omega,by omega,by omega,fun j=>Iff.rfl⟩;have aU:=jQ.below hA eg;have kL:xs≠[]->∀ b,yQ A b->¬ (b=w.heap.size+1\/b=w.heap.size):=fun bu b hb=>by
  rcases hA with h0 | ⟨b',off,he,fG,hc⟩
  ·exact absurd h0 bu
  ·obtain⟨o,ho⟩:=hb;rw[he] at ho;cases ho;omega
 have iZ:=eg.size;have mG:=zH (And.intro hQ (And.intro aU (And.intro kL eg)));clear hr cV jD hq qj eg hQ aU kL hA iZ;go_enter func41,ntmps41;go_wp2_with (refine yR _ rfl _ _ 87 rfl 97 Tryz.underlying87 yZ .i64 .i64 _ _ 4 rfl rfl rfl rfl (by omega) ?_);obtain⟨hQ,aU,kL,eg⟩:=mG.out;refine (wI (by simpa using hn) aU kL hQ).mono ?_;rintro e w1 ⟨rfl,k',F',tm,uU,bY⟩;go_wp2_with fail;go_ret;have iZ:=eg.size;refine⟨_,F',k',rfl,by simpa using tm,by simpa using uU,?_,bY.base iZ ?_⟩
 ·exact cj.below eg bY.turn iZ (fun j hj=>by omega)
 ·intro j hj;omega
def fU (q:Nat) (F:Nat->Prop) (l:List bF) (k:Nat):Item where
 F:=F
 says:=fun w=>eP w q F l k
 loc:=fun _ _ h hk hs=>h.kept hk hs
section
variable {w0 w w':World} {L:List Item} {q k k':Nat} {F F':Nat->Prop} {l l':List bF}
theorem Env.queue (h:Env w0 L w) (i:Nat) (hi:L[i]?=some (fU q F l k)):eP w q F l k:=h.get i hi
theorem Env.turnQ (h:Env w0 L w) (i:Nat) (hi:L[i]?=some (fU q F l k)) (hQ:eP w' q F' l' k') (hs:Step F F' w w'):Env w0 (L.set i (fU q F' l' k')) w' :=
 h.step i (fU q F' l' k') hi hs hQ hQ.lt
theorem Env.madeQ (h:Env w0 L w) (hQ:eP w' q F l k) (hF:∀ j,F j->w.heap.size<=j) (hb:Below w.heap.size w w'):Env w0 (fU q F l k::L) w' :=
 h.add (fU q F l k) hb hQ fun j hj=>⟨hF j hj,hQ.lt j hj⟩
end
end
section
open Go.RowKit
def kM (n lo hi:Int):Bool:=decide (lo<=n/\n<=hi)
def uV (k:Int):Bool:=decide (k=1\/k=2\/k=3)
def uW (k b:Int):Bool:=if k=2 then kM b 1 64 else decide (b=0)
def uX (k h:Int):Bool:=if k=3 then kM h 1 16 else decide (h=1)
def iN (k s b h l:Int):Int:=if uV k then (if kM s 1 8388607 && kM l 2 1099511627775 && uW k b && uX k h then 0 else 3) else 8
theorem IE (k:Int):uV k=true ↔ 1<=k/\k<=3:=by simp[uV];omega
theorem wK (n lo hi:Int):kM n lo hi=true ↔ lo<=n/\n<=hi:=by simp[kM]
theorem Da (k b:Int):uW k b=true ↔ (k=2/\1<=b/\b<=64)\/(k≠2/\b=0):=by
 unfold uW
 split
 ·next e=>rw[wK];omega
 ·next e=>rw[decide_eq_true_iff];omega
theorem Db (k h:Int):uX k h=true ↔ (k=3/\1<=h/\h<=16)\/(k≠3/\h=1):=by
 unfold uX
 split
 ·next e=>rw[wK];omega
 ·next e=>rw[decide_eq_true_iff];omega
def Dc (s k b h l:Int):Prop:=(1<=s/\s<=8388607)/\(2<=l/\l<=1099511627775)/\((k=2/\1<=b/\b<=64)\/(k≠2/\b=0))/\((k=3/\1<=h/\h<=16)\/(k≠3/\h=1))
theorem IG (k s b h l:Int):(kM s 1 8388607 && kM l 2 1099511627775 && uW k b && uX k h)=true ↔ Dc s k b h l:=by
 rw[Bool.and_eq_true,Bool.and_eq_true,Bool.and_eq_true,wK,wK,Da,Db];unfold Dc;omega
theorem IH {k s b h l:Int} (e:iN k s b h l=0):(1<=k/\k<=3)/\(1<=s/\s<=8388607)/\(2<=l/\l<=1099511627775)/\((k=2/\1<=b/\b<=64)\/(k≠2/\b=0))/\((k=3/\1<=h/\h<=16)\/(k≠3/\h=1)):=by
 unfold iN at e
 split at e
 ·next hk =>
  split at e
  ·next hc=>exact⟨(IE k).1 hk,(IG k s b h l).1 hc⟩
  ·cases e
 ·cases e
def uY (k o:Int):Bool:=if o=1\/o=2\/o=3 then decide (k=1\/k=3) else if o=4\/o=5\/o=6\/o=7 then decide (k=2) else decide (o=8)
def uZ (k h o y:Int):Bool:=if k=3/\o=1 then kM y 1 h else decide (y=0)
def ze (o:Int):Bool:=decide (o=4\/o=5)
def zf (o x v:Int):Bool:=decide ((v≠0/\o≠4/\o≠5)\/(x≠0/\o=8))
def jE (k s b h l o x v y:Int):Int:=if iN k s b h l=0 then (if uY k o then (if uZ k h o y then (if zf o x v then 1 else 0) else 3) else 8) else iN k s b h l
end
section
open Go.RowKit Go.WideShapes Go.ChangeShapes Go.ChangeAt
section
variable {H:Type} {enc:TypeId × Value->H} {P:Program}
theorem II (hl:laidOutB P=true) {W W':World} (hb:Below W.heap.size W W'):∀ (ts:List TypeId) (_:(ts.all fun t=>P.readableRec t && decide (t < P.types.size))=true) (vs:List Value) (ds:List (DataW H)) (ps:List MemPlace),
  DataW.TrodAll enc P W 0 (fun _=>true) true ts vs ds ps->(∀ x∈ps,x.block < W.heap.size)->DataW.TrodAll enc P W' 0 (fun b=>decide (b < W.heap.size)) true ts vs ds ps:=by
 intro ts
 induction ts with
 | nil =>
  intro _ vs ds ps h _;obtain⟨rfl,rfl,rfl⟩:=trodAll_nil h;exact trodAll_mk0
 | cons t ts ih =>
  intro tn vs ds ps h aE;rw[List.all_cons,Bool.and_eq_true,Bool.and_eq_true] at tn;obtain⟨v,SS,d,SV,p,q,rfl,rfl,rfl,h0,r0⟩:=trodAll_cons h;exact trodAll_cons_mk (Below.trod hl tn.1.1 (of_decide_eq_true tn.1.2) h0 hb fun x hx=>aE x (List.mem_append_left _ hx))
   (ih tn.2 _ _ _ r0 fun x hx=>aE x (List.mem_append_right _ hx))
theorem IJ {f:Func} {s:ChangeSpec} {W W':World} {args:Array Value} {ds:List (DataW H)} {before:List MemPlace} {tb:TypeId}
  (hl:laidOutB P=true) (tn:(f.params.toList.all fun t=>P.readableRec t && decide (t < P.types.size))=true) (hres:f.resultTypes=#[tb]) (IK:P.underlying tb=some .bool)
  (hv:s.vars=[]) (nS:s.fn H (ds++[])={ results:=[.lit (.bool true)],args:=ds })
  (hW:DataW.Whole enc P f.params.toList s.vars false W args.toList ds [] before) (hb:Below W.heap.size W W') :
  s.post enc P f false true false false W args (.bool true) W':=by
 have aE:∀ p∈before,p.block < W.heap.size:=fun p hp=>hW.lt p hp;have IL:=hW;obtain⟨p,q,hA,hV,rfl,hz,hn⟩:=IL;have hq:q=[]:=by rw[hv] at hV;exact (trodVars_none hV).2
 subst hq;refine⟨ds,[],_,[],p,[],hW,?_,?_,?_,World.keptBut_mono (fun x hx=>⟨hx,Or.inr (Or.inl (by simpa using hx))⟩) (hb.frame (·∈p++[])),fun h=>by cases h⟩
 ·rw[nS,hres];exact trodAll_mk1 (shut_bool IK _)
 ·rw[nS];exact II hl hb _ tn _ _ _ hA fun x hx=>aE x (by simpa using hx)
 ·rw[nS,hv];exact rfl
end
theorem u64_in {n:Int} (h:(Lit.int .u64 n).wf=true):0<=n/\n<=18446744073709551615:=by
 simpa [Lit.wf,IntKind.min,IntKind.max,IntKind.signed,IntKind.bits] using h
theorem i64_in {n:Int} (h:(Lit.int .i64 n).wf=true):-9223372036854775808<=n/\n<=9223372036854775807:=by
 simpa [Lit.wf,IntKind.min,IntKind.max,IntKind.signed,IntKind.bits] using h
end
section
open Go.RowKit Go.Maps
theorem ao.under {m n:Nat} {vs:List Value} {w w':World} (h:ao m w n vs) (hb:Below w.heap.size w w'):ao m w' n vs:=h.kept hb.size (hb.block _ h.1)
def cT (k s b h l e r hs hi:Int) (q:Nat):List Value:=[zI k,zI s,zI b,zI h,zI l,zI e,zI r,zI hs,zI hi,zP q]
def dy (c:Nat) (k s b h l e r hs hi:Int) (q:Nat):Item:=ae c (cT k s b h l e r hs hi q)
def bg (x:Int):Int:=if x<=9223372036854775807 then x else 0
def mH (x:Int):Bool:=decide (x<=9223372036854775807)
theorem De (x:Int) (hx:aD x) (w:World):Calls prog 162 #[zU x] w fun o w'=>o=.returned (.tuple #[zI (bg x),.bool (mH x)])/\w'=w:=by
 unfold aD at hx
 by_cases h:x<=9223372036854775807
 ·have h1:bg x=x:=by simp[bg,h]
  have h2:mH x=true:=by simp[mH,h]
  have h3:decide (9223372036854775807 < x)=false:=by simp;omega
  have hw:wrap64 x=x:=df _ (by omega);rw[h1,h2];go_enter func162,ntmps162
  go_wp2
  go_ret2
  exact⟨rfl,rfl⟩
 ·have h1:bg x=0:=by simp[bg,h]
  have h2:mH x=false:=by simp[mH,h]
  have h3:decide (9223372036854775807 < x)=true:=by simp;omega
  rw[h1,h2];go_enter func162,ntmps162
  go_wp2
  go_ret2
  exact⟨rfl,rfl⟩
section
variable {w:World} {c q:Nat} {k s b h l e r hs hi:Int}
theorem rG (hb:ao 0 w c (cT k s b h l e r hs hi q)):Calls prog 31 #[zP c] w fun o w'=>o=.returned (zI e)/\w'=w:=by
 have r1:=hb.rule;unfold cT at r1;go_enter func31,ntmps31
 go_wp2
 go_ret;exact⟨rfl,rfl⟩
end
section
variable {w:World} {c q:Nat} {k s b h l e r hs hi:Int}
theorem nT (hb:ao 0 w c (cT k s b h l e r hs hi q)):Calls prog 42 #[zP c] w fun o w'=>o=.returned (.agg #[zI k,zI s,zI b,zI h,zI l])/\Below w.heap.size w w':=by
 have r1:=nK hb.1 hb.rule;unfold cT at r1;go_enter func42,ntmps42
 go_wp2
 refine bodyPost_ret (v:=.agg #[zI k,zI s,zI b,zI h,zI l]) (by simp[results,results42,go_sem]) rfl ⟨rfl,?_⟩;exact (Below.refl _ _).alloc (Nat.le_refl _) _
end
section
variable {w:World} {c q:Nat} {k s b h l e r hs hi:Int}
theorem qk (hb:ao 0 w c (cT k s b h l e r hs hi q)):Calls prog 28 #[zP c] w fun o w'=>o=.returned (zP q)/\w'=w:=by
 have r1:=hb.rule;unfold cT at r1;go_enter func28,ntmps28
 go_wp2
 go_ret;exact⟨rfl,rfl⟩
end
def dg (c:Nat) (F:Nat->Prop) (f:aI->Int) (q:bN) (n:Nat):Item where
 F:=F
 says:=fun w=>ed w c F f q n
 loc:=fun w1 w2 h hk hs=>by
  obtain⟨mp,hb,hm,hF⟩:=h
  exact⟨mp,hb.kept hs (hk c ((hF c).2 (.inl rfl))),hm.kept fun b e=>hk b ((hF b).2 (.inr e)),hF⟩
section
variable {w0 w w':World} {L:List Item} {c n:Nat} {F F':Nat->Prop} {f f':aI->Int} {q q':bN} {m:Nat}
theorem Env.made (h:Env w0 L w) (hC:ed w' c (fun k=>k=c) f q n) (hc:w.heap.size<=c) (hb:Below w.heap.size w w'):Env w0 (dg c (fun k=>k=c) f q n::L) w' :=
 h.add (dg c (fun k=>k=c) f q n) hb hC fun k hk=>⟨by have hk:k=c:=hk;omega,hC.lt k hk⟩
theorem Env.cell (h:Env w0 L w) (i:Nat) (hi:L[i]?=some (dg c F f q n)):ed w c F f q n:=h.get i hi
theorem Env.turn (h:Env w0 L w) (i:Nat) (hi:L[i]?=some (dg c F f q n)) (hC:ed w' c F' f' q' m) (hs:Step F F' w w'):Env w0 (L.set i (dg c F' f' q' m)) w' :=
 h.step i (dg c F' f' q' m) hi hs hC hC.lt
end
theorem Env.made2 {w0 w w':World} {L:List Item} {c n:Nat} {F:Nat->Prop} {f:aI->Int} {q:bN} (h:Env w0 L w) (hC:ed w' c F f q n) (hF:∀ k,F k->w.heap.size<=k) (hb:Below w.heap.size w w'):Env w0 (dg c F f q n::L) w' :=
 h.add (dg c F f q n) hb hC fun k hk=>⟨hF k hk,hC.lt k hk⟩
theorem lY {L:List Item} {i j:Nat} {a b:Item} (gG:j≠i) (h:L[i]?=some a):(L.set j b)[i]?=some a:=by rw[List.getElem?_set_ne gG,h]
theorem Env.put3 {w0 w:World} {L:List Item} (h:Env w0 L w) (i:Nat) {B:Nat} {a b c:Value} (hi:L[i]?=some (ae B [a,b,c])) (u v t:Value) :
  Env w0 (L.set i (ae B [u,v,t])) (((w.setCell ⟨B,0,none⟩ u).setCell ⟨B,1,none⟩ v).setCell ⟨B,2,none⟩ t):=by
 have hl:i < L.length:=(List.getElem?_eq_some_iff.1 hi).1;have h1:=h.put i hi (j:=0) (by simp) u;have h2:=h1.put i (by rw[List.getElem?_set_self hl]) (j:=1) (by simp) v;have h3:=h2.put i (by rw[List.getElem?_set_self (by simpa using hl)]) (j:=2) (by simp) t
 simpa using h3
theorem Env.put5 {w0 w:World} {L:List Item} (h:Env w0 L w) (i:Nat) {B:Nat} {a b c d e:Value} (hi:L[i]?=some (ae B [a,b,c,d,e])) (u v t x y:Value) :
  Env w0 (L.set i (ae B [u,v,t,x,y])) (((((w.setCell ⟨B,0,none⟩ u).setCell ⟨B,1,none⟩ v).setCell ⟨B,2,none⟩ t).setCell ⟨B,3,none⟩ x).setCell ⟨B,4,none⟩ y):=by
 have hl:i < L.length:=(List.getElem?_eq_some_iff.1 hi).1;have h1:=h.put i hi (j:=0) (by simp) u;have h2:=h1.put i (by rw[List.getElem?_set_self hl]) (j:=1) (by simp) v;have h3:=h2.put i (by rw[List.getElem?_set_self (by simpa using hl)]) (j:=2) (by simp) t;have h4:=h3.put i (by rw[List.getElem?_set_self (by simpa using hl)]) (j:=3) (by simp) x;have h5:=h4.put i (by rw[List.getElem?_set_self (by simpa using hl)]) (j:=4) (by simp) y
 simpa using h5
def fk (p c:Nat):Item:=ae p [.pointer (some ⟨c,0,none⟩)]
theorem Env.wblk {w0 w:World} {L:List Item} {p c:Nat} (h:Env w0 L w) (i:Nat) (hi:L[i]?=some (fk p c)):ao 0 w p [.pointer (some ⟨c,0,none⟩)]:=h.get i hi
theorem rH {w:World} {p c:Nat} (hb:ao 0 w p [.pointer (some ⟨c,0,none⟩)]) :
  Calls prog 22 #[.pointer (some ⟨p,0,none⟩)] w fun e w'=>e=.returned (.pointer (some ⟨c,0,none⟩))/\w'=w:=by
 have r:=hb.rule;go_enter func22,ntmps22
 go_wp2
 go_ret;exact⟨rfl,rfl⟩
section
variable {w0 w:World} {L:List Item} {p c n:Nat} {F:Nat->Prop} {f:aI->Int} {q:bN}
theorem lA (x y z d:Int) (hx:Wf (x,y,z)) (i j:Nat) (gG:j≠i) (hE:Env w0 L w) (hi:L[i]?=some (fk p c)) (hj:L[j]?=some (dg c F f q n)) :
  Calls prog 272 #[.pointer (some ⟨p,0,none⟩),.agg #[.int .i64 x,.int .i64 y,.int .i64 z,.int .i64 d]] w fun e w'=>e=.returned (.agg #[.int .u64 (f (x,y,z)),.int .i64 0,.bool false])/\Env w0 (L.set j (dg c F f { q with l:=wrap64 (q.l+1) } n)) w':=by
 replace hE:=(hE.box w.heap.size rfl [.int .i64 x,.int .i64 y,.int .i64 z,.int .i64 d] 108).box (w.heap.size+1) (by simp) [.int .u64 0,.int .i64 0,.bool false] 110;have fE:(ae (w.heap.size+1) [.int .u64 0,.int .i64 0,.bool false]::ae w.heap.size [.int .i64 x,.int .i64 y,.int .i64 z,.int .i64 d]::L)[i+2]?=some (fk p c):=hi;have jk:(ae (w.heap.size+1) [.int .u64 0,.int .i64 0,.bool false]::ae w.heap.size [.int .i64 x,.int .i64 y,.int .i64 z,.int .i64 d]::L)[j+2]?=some (dg c F f q n):=hj;have HX:=zH hx;clear hx;go_enter func272,ntmps272;go_wp2_with fail;generalize w.heap.size+1=Y at *;generalize w.heap.size=X at *;refine Ord.wc [4,6] (fun w'=>ao 0 w' X [.int .i64 x,.int .i64 y,.int .i64 z,.int .i64 d]/\ao 0 w' p [.pointer (some ⟨c,0,none⟩)]) (Stage [Env w0 (ae Y [.int .u64 0,.int .i64 0,.bool false]::ae X [.int .i64 x,.int .i64 y,.int .i64 z,.int .i64 d]::L),Env w0 (ae Y [.int .u64 0,.int .i64 0,.bool false]::ae X [.int .i64 x,.int .i64 y,.int .i64 z,.int .i64 d]::L.set j (dg c F f { q with l:=wrap64 (q.l+1) } n)),Env w0 (ae Y [.int .u64 (f (x,y,z)),.int .i64 0,.bool false]::ae X [.int .i64 x,.int .i64 y,.int .i64 z,.int .i64 d]::L.set j (dg c F f { q with l:=wrap64 (q.l+1) } n))]) ⟨hE.drew.get 1 rfl,hE.drew.get (i+2) fE⟩ ⟨_,rfl,hE.drew⟩ fun af=>?_
 repeat ((first
  | (refine Ord.cv ?_ af.o ?_ ?_;rotate_left;(intro w5 hS;have r:=hS.1.rule;go_simp<;>rfl))
  | (refine Ord.co af.o ?_)
  | (refine Ord.cc ?_ ?_ ?_ af.o ?_ ?_ ?_;rotate_left 3;(intro w5 hS;have r:=hS.1.rule;go_simp;constructor<;>rfl);(intro w5 hS;(first | (with_reducible refine (rH hS.2).mono ?_;rintro e w6 ⟨rfl,rfl⟩;constructor;rfl;exact⟨hS,fun _ h=>h⟩)))));try simp only[Act.put,zA,zZ,zS])
 refine Ord.ch_turn (v:=.int .u64 (f (x,y,z))) 0 af.o rfl (by decide) (Or.inl rfl) (by rfl) ?_ ?_
 ·rintro w5 aN ⟨P5,cd,au⟩;cases cd;go_simp;simp only[Ord.LandsIn];refine (Ie x y z HX.out (au.cell (j+2) jk)).mono ?_;rintro e w6 ⟨rfl,hC,hs⟩;have aq:=au.turn (j+2) jk hC hs;exact⟨rfl,⟨aq.get 1 rfl,aq.get (i+2) (lY (j:=j+2) (by omega) fE)⟩,_,rfl,aq⟩
 try simp only[Act.put,zA,zZ,zS]
 repeat ((first
  | (refine Ord.cv ?_ af.o ?_ ?_;rotate_left;(intro w5 hS;skip;go_simp<;>rfl))
  | (refine Ord.co af.o ?_));try simp only[Act.put,zA,zZ,zS])
 refine Ord.ch_turn (v:=undef) 1 af.o rfl (by decide) (Or.inr ⟨_,rfl,by kernel_rfl⟩) (by rfl) ?_ ?_
 ·rintro w5 aN ⟨P5,cd,au⟩;cases cd;have r:=au.rule 0 rfl;have f:=au.thaw 0 rfl;have f0:=f 0 (by simp);have f1:=f 1 (by simp);have f2:=f 2 (by simp);clear f;go_simp;have aq:=au.put3 0 rfl (.int .u64 (f (x,y,z))) (.int .i64 0) (.bool false);exact⟨rfl,⟨aq.get 1 rfl,aq.get (i+2) (lY (j:=j+2) (by omega) fE)⟩,_,rfl,aq⟩
 try simp only[Act.put,zA,zZ,zS]
 repeat ((first
  | (refine Ord.cv ?_ af.o ?_ ?_;rotate_left;(intro w5 hS;skip;go_simp<;>rfl))
  | (refine Ord.co af.o ?_));try simp only[Act.put,zA,zZ,zS])
 refine Ord.InText.nil fun w5 hS=>?_;clear af;obtain⟨aL,ai⟩:=Ord.chain_end hS;clear hS;obtain⟨P9,dW,ai⟩:=ai;cases dW;have q9:=ai.rule 0 rfl
 go_wp2
 exact bodyPost_ret (v:=.agg #[.int .u64 (f (x,y,z)),.int .i64 0,.bool false]) (by simp[results,results272,go_sem,q9]) rfl ⟨rfl,ai.sub (.cons _ (.cons _ (List.Sublist.refl _)))⟩
theorem tq (x y z d v e:Int) (b:Bool) (hx:Wf (x,y,z)) (hv:aD v) (hn:n < maxLen) (i j:Nat) (gG:j≠i) (hE:Env w0 L w) (hi:L[i]?=some (fk p c)) (hj:L[j]?=some (dg c F f q n)) :
  Calls prog 273 #[.pointer (some ⟨p,0,none⟩),.agg #[.int .i64 x,.int .i64 y,.int .i64 z,.int .i64 d],.agg #[.int .u64 v,.int .i64 e,.bool b]] w fun e w'=>e=.returned (.tuple #[])/\∃ F',Env w0 (L.set j (dg c F' (upd f (x,y,z) v) { q with s:=wrap64 (q.s+1) } (n+1))) w':=by
 replace hE:=((hE.box w.heap.size rfl [.int .i64 x,.int .i64 y,.int .i64 z,.int .i64 d] 108).box (w.heap.size+1) (by simp) [.int .u64 v,.int .i64 e,.bool b] 110);have fE:(ae (w.heap.size+1) [.int .u64 v,.int .i64 e,.bool b]::ae (w.heap.size) [.int .i64 x,.int .i64 y,.int .i64 z,.int .i64 d]::L)[i+2]?=some (fk p c):=hi;have jk:(ae (w.heap.size+1) [.int .u64 v,.int .i64 e,.bool b]::ae (w.heap.size) [.int .i64 x,.int .i64 y,.int .i64 z,.int .i64 d]::L)[j+2]?=some (dg c F f q n):=hj;have HX:=zH hx;clear hx;go_enter func273,ntmps273;go_wp2_with fail;generalize w.heap.size+1=Y at *;generalize w.heap.size=X at *;refine Ord.wc [6] (fun w'=>ao 0 w' X [.int .i64 x,.int .i64 y,.int .i64 z,.int .i64 d]/\ao 0 w' Y [.int .u64 v,.int .i64 e,.bool b]/\ao 0 w' p [.pointer (some ⟨c,0,none⟩)]) (Stage [Env w0 (ae Y [.int .u64 v,.int .i64 e,.bool b]::ae X [.int .i64 x,.int .i64 y,.int .i64 z,.int .i64 d]::L),fun w'=>∃ F',Env w0 (ae Y [.int .u64 v,.int .i64 e,.bool b]::ae X [.int .i64 x,.int .i64 y,.int .i64 z,.int .i64 d]::L.set j (dg c F' (upd f (x,y,z) v) { q with s:=wrap64 (q.s+1) } (n+1))) w']) ⟨hE.drew.get 1 rfl,hE.drew.get 0 rfl,hE.drew.get (i+2) fE⟩ ⟨_,rfl,hE.drew⟩ fun af=>?_
 repeat ((first
  | (refine Ord.cv ?_ af.o ?_ ?_;rotate_left;(intro w5 hS;have r0:=hS.1.rule;have r1:=hS.2.1.rule;go_simp<;>rfl))
  | (refine Ord.co af.o ?_)
  | (refine Ord.cc ?_ ?_ ?_ af.o ?_ ?_ ?_;rotate_left 3;(intro w5 hS;have r0:=hS.1.rule;have r1:=hS.2.1.rule;go_simp;constructor<;>rfl);(intro w5 hS;(first | (with_reducible refine (rH hS.2.2).mono ?_;rintro e w6 ⟨rfl,rfl⟩;constructor;rfl;exact⟨hS,fun _ h=>h⟩)))));try simp only[Act.put,zA,zZ,zS])
 refine Ord.ch_turn (v:=.tuple #[]) 0 af.o rfl (by decide) (Or.inl rfl) (by rfl) ?_ ?_
 ·rintro w5 aN ⟨P5,cd,au⟩;cases cd;go_simp;simp only[Ord.LandsIn];refine (Ig x y z v HX.out hv hn (au.cell (j+2) jk)).mono ?_;rintro e w6 ⟨rfl,F6,hC,hs⟩;have aq:=au.turn (j+2) jk hC hs;exact⟨rfl,⟨aq.get 1 rfl,aq.get 0 rfl,aq.get (i+2) (lY (j:=j+2) (by omega) fE)⟩,_,rfl,F6,aq⟩
 try simp only[Act.put,zA,zZ,zS]
 repeat ((first
  | (refine Ord.cv ?_ af.o ?_ ?_;rotate_left;(intro w5 hS;skip;go_simp<;>rfl))
  | (refine Ord.co af.o ?_));try simp only[Act.put,zA,zZ,zS])
 refine Ord.InText.nil fun w5 hS=>?_;clear af;obtain⟨aL,ai⟩:=Ord.chain_end hS;clear hS;obtain⟨P9,dW,ai⟩:=ai;cases dW;obtain⟨F9,ai⟩:=ai;clear aL
 go_wp2
 go_end0
 exact⟨rfl,F9,ai.sub (.cons _ (.cons _ (List.Sublist.refl _)))⟩
theorem Df (hE:Env w0 L w):Calls prog 11 #[] w fun e w'=>∃ p c,e=.returned (.pointer (some ⟨p,0,none⟩))/\Env w0 (fk p c::dg c (fun k=>k=c) (fun _=>0) ⟨0,0,0,0,0⟩ 0::L) w'/\Below w.heap.size w w':=by
 go_enter func11,ntmps11;go_wp2_with fail;refine (Ic w).mono ?_;rintro e w1 ⟨rfl,hC,hb⟩;replace hE:=(hE.made hC (Nat.le_refl _) hb).box w1.heap.size rfl [.pointer (some ⟨w.heap.size,0,none⟩)] 103
 go_wp2
 go_ret;exact⟨_,_,rfl,hE,hb.alloc hb.size _⟩
end
end
section
open Go.RowKit
theorem wL (w:World):Calls prog 40 #[] w fun e w'=>e=.returned (.agg #[.int .i64 1,.int .i64 0,.int .i64 0])/\Below w.heap.size w w':=by
 go_enter func40,ntmps40
 go_wp2
 exact bodyPost_ret (v:=.agg #[.int .i64 1,.int .i64 0,.int .i64 0]) (by simp[results,results40,go_sem]) rfl ⟨rfl,(Below.refl _ _).alloc (Nat.le_refl _) _⟩
end
section
open Go.RowKit Go.Maps
theorem IM (w:World):CallsD prog 39 #[] .returning w fun e u' w'=>u'=.returning/\e=.returned (.tuple #[])/\w'=w:=by
 refine callsD_of_wpS func39 rfl fun c₀ cs hu=>?_;apply wpS_region;cases c₀;simp_all [wpOpsS,go_sem,recoverD,ntmps39,Exit.thenS,bodyPostS,results,results39]
theorem tr (k p:Nat) (w:World):(method (k+1) 28 (.pointer (some ⟨p,0,none⟩)) "Store").run prog w=.ok (273,.pointer (some ⟨p,0,none⟩)) w:=by kernel_rfl
section
variable {w0 w:World} {L:List Item} {p c n:Nat} {F:Nat->Prop} {f:aI->Int} {q:bN}
theorem Dg (i j:Nat) (gG:j≠i) (hn:n < maxLen) (hE:Env w0 L w) (hi:L[i]?=some (fk p c)) (hj:L[j]?=some (dg c F f q n)) :
  Calls prog 12 #[.iface 28 (.pointer (some ⟨p,0,none⟩))] w fun e w'=>e=.returned (.tuple #[])/\∃ F',Env w0 (L.set j (dg c F' (upd f (1,0,0) 1) { q with s:=wrap64 (q.s+1) } (n+1))) w':=by
 have cf:∀ (fn:Fn) (first cap:Array Value) (w:World),(Instr.makeFunc fn first cap).run prog w=.ok (.func fn first cap) w:=fun _ _ _ _=>rfl
 go_enter_defers func12,ntmps12
 go_wp2_with fail;refine Ord.wc [6] (fun _=>True) (fun k w'=>∃ F',Env w0 (if k=0 then L else L.set j (dg c F' (upd f (1,0,0) 1) { q with s:=wrap64 (q.s+1) } (n+1))) w') trivial ⟨F,hE.drew⟩ fun af=>?_
 repeat ((first
  | (refine Ord.cv ?_ af.o ?_ ?_;rotate_left;(intro w5 hS;skip;go_simp<;>rfl))
  | (refine Ord.co af.o ?_)
  | (refine Ord.cc ?_ ?_ ?_ af.o ?_ ?_ ?_;rotate_left 3;(intro w5 hS;skip;go_simp;constructor<;>rfl);(intro w5 hS;(first | (with_reducible refine kp (wL _) ?_ ?_;rfl;exact fun w6 aj=>⟨trivial,fun k h=>h.elim fun F' h=>⟨F',h.over aj⟩⟩)))));try simp only[Act.put,zA,zZ,zS])
 refine Ord.ch_turn (v:=.tuple #[]) 0 af.o rfl (by decide) (Or.inl rfl) (by rfl) ?_ ?_
 ·rintro w5 aN ⟨F5,au⟩;simp only[if_true] at au;go_simp;rw[tr];simp only[Result.andThen_ok];go_simp;simp only[Ord.LandsIn];refine (tq 1 0 0 0 1 0 false (by unfold Wf In64;simp) (by unfold aD;simp) hn i j gG au hi hj).mono ?_;rintro e w6 ⟨rfl,F6,aq⟩;exact⟨rfl,F6,aq⟩
 try simp only[Act.put,zA,zZ,zS]
 repeat ((first
  | (refine Ord.cv ?_ af.o ?_ ?_;rotate_left;(intro w5 hS;skip;go_simp<;>rfl))
  | (refine Ord.co af.o ?_));try simp only[Act.put,zA,zZ,zS])
 refine Ord.InText.nil fun w5 hS=>?_;clear af;obtain⟨aL,ai⟩:=Ord.chain_end hS;clear hS;obtain⟨F9,ai⟩:=ai;simp only[List.length_cons,List.length_nil,Nat.zero_add,Nat.one_ne_zero,if_false] at ai
 go_wp2
 refine leaves_cons (f:=39) (args:=#[]) (by simp) (by simp[go_sem]) ?_;refine (IM _).mono ?_;rintro e u' iK ⟨rfl,rfl,rfl⟩;exact⟨_,results_none rfl _ _ _,rfl,F9,ai⟩
end
theorem Dh {α:Type _} {L:List α} {m:Nat} {a:α} (h:L[m]?=some a):L.set m a=L:=by
 obtain⟨hl,rfl⟩:=List.getElem?_eq_some_iff.1 h;exact List.set_getElem_self hl
theorem IP (w:World):CallsD prog 161 #[] .returning w fun e u' w'=>u'=.returning/\e=.returned (.tuple #[])/\w'=w:=by
 refine callsD_of_wpS func161 rfl fun c₀ cs hu=>?_;apply wpS_region;cases c₀;simp_all [wpOpsS,go_sem,recoverD,ntmps161,Exit.thenS,bodyPostS,results,results161]
theorem lB (k p:Nat) (w:World):(method (k+1) 28 (zP p) "Load").run prog w=.ok (272,zP p) w:=by kernel_rfl
theorem qm (v:World) (a b:Int) (d:Bool):(Instr.field 110 (.agg #[zU a,zI b,.bool d]) 0).run prog v=.ok (zU a) v:=by kernel_rfl
section
variable {w0 w:World} {L:List Item} {p c n:Nat} {F:Nat->Prop} {f:aI->Int} {q:bN}
theorem Di (x:Int) (br:f (1,0,0)=x) (i j:Nat) (gG:j≠i) (hE:Env w0 L w) (hi:L[i]?=some (fk p c)) (hj:L[j]?=some (dg c F f q n)) :
  Calls prog 134 #[.iface 28 (zP p)] w fun o w'=>o=.returned (.tuple #[zI (bg x),.bool (mH x)])/\Env w0 (L.set j (dg c F f { q with l:=wrap64 (q.l+1) } n)) w':=by
 have eA:aD x:=by rw[<- br];exact (hE.cell j hj).words.1 _
 have cf:∀ (fn:Fn) (first cap:Array Value) (w:World),(Instr.makeFunc fn first cap).run prog w=.ok (.func fn first cap) w:=fun _ _ _ _=>rfl
 go_enter_defers func134,ntmps134
 go_wp2_with fail;refine Ord.wc [5] (fun _=>True) (fun k w'=>Env w0 (if k=0 then L else L.set j (dg c F f { q with l:=wrap64 (q.l+1) } n)) w') trivial hE.drew fun af=>?_
 repeat ((first
  | (refine Ord.cv ?_ af.o ?_ ?_;rotate_left;(intro w5 hS;skip;go_simp<;>rfl))
  | (refine Ord.co af.o ?_)
  | (refine Ord.cc ?_ ?_ ?_ af.o ?_ ?_ ?_;rotate_left 3;(intro w5 hS;skip;go_simp;constructor<;>rfl);(intro w5 hS;(first | (with_reducible refine kp (wL _) ?_ ?_;rfl;exact fun w6 aj=>⟨trivial,fun k h=>h.over aj⟩)))));try simp only[Act.put,zA,zZ,zS])
 refine Ord.ch_turn (v:=.agg #[zU x,zI 0,.bool false]) 0 af.o rfl (by decide) (Or.inl rfl) (by rfl) ?_ ?_
 ·rintro w5 aN au;simp only[if_true] at au;go_simp;rw[lB];simp only[Result.andThen_ok];go_simp;simp only[Ord.LandsIn];have hl:=lA 1 0 0 0 (by unfold Wf In64;simp) i j gG au hi hj;rw[br] at hl;refine hl.mono ?_;rintro e w6 ⟨rfl,aq⟩;exact⟨rfl,aq⟩
 try simp only[Act.put,zA,zZ,zS]
 have rI:=qm
 repeat ((first
  | (refine Ord.cv ?_ af.o ?_ ?_;rotate_left;(intro w5 hS;skip;go_simp<;>rfl))
  | (refine Ord.co af.o ?_)
  | (refine Ord.cc ?_ ?_ ?_ af.o ?_ ?_ ?_;rotate_left 3;(intro w5 hS;skip;go_simp;constructor<;>rfl);(intro w5 hS;(first | (with_reducible refine (De x eA _).mono ?_;rintro e w6 ⟨rfl,rfl⟩;constructor;rfl;exact⟨hS,fun _ h=>h⟩)))));try simp only[Act.put,zA,zZ,zS])
 refine Ord.InText.nil fun w5 hS=>?_;clear af;obtain⟨aL,ai⟩:=Ord.chain_end hS;clear hS;simp only[List.length_cons,List.length_nil,Nat.zero_add,Nat.one_ne_zero,if_false] at ai
 go_wp2
 refine leaves_cons (f:=161) (args:=#[]) (by simp) (by simp[go_sem]) ?_;refine (IP _).mono ?_;rintro e u' iK ⟨rfl,rfl,rfl⟩;exact⟨.tuple #[zI (bg x),.bool (mH x)],by simp[results,results134,go_sem],rfl,ai⟩
variable {cc qq:Nat} {k s b h l e r hs hh:Int}
theorem Dj (x:Int) (br:f (1,0,0)=x) (m i j:Nat) (gG:j≠i) (lu:j≠m) (hE:Env w0 L w) (hm:L[m]?=some (dy cc k s b h l e r hs hh qq)) (hi:L[i]?=some (fk p c)) (hj:L[j]?=some (dg c F f q n)) :
  Calls prog 114 #[zP cc,.iface 28 (zP p)] w fun o w'=>o=.returned (.tuple #[])/\Env w0 ((L.set j (dg c F f { q with l:=wrap64 (q.l+1) } n)).set m (dy cc k s b h l (bg x) r hs hh qq)) w':=by
 go_enter func114,ntmps114;go_wp2_with fail;refine (Di x br i j gG hE hi hj).mono ?_;rintro o w1 ⟨rfl,ag⟩;have iC:=lY (b:=dg c F f { q with l:=wrap64 (q.l+1) } n) lu hm;have r1:=ag.rule m iC;unfold cT at r1;have f1:=ag.thaw m iC 5 (by simp[cT]);go_wp2_with fail
 go_end0
 exact⟨rfl,ag.put m iC (j:=5) (by simp[cT]) (zI (bg x))⟩
end
section
variable {w:World} {c q:Nat} {k s b h l e r hs hi:Int}
theorem oO (hb:ao 0 w c (cT k s b h l e r hs hi q)):Calls prog 30 #[zP c] w fun o w'=>o=.returned (.tuple #[.agg #[zI hs,zI hi],.bool (hs != 0)])/\Below w.heap.size w w':=by
 have gJ:=hb.1;have cV:=hb.more (.cells #[zI 0,zI 0] 92);have hB:=ao.new 0 w [zI 0,zI 0] 92;have hE:=(Below.refl w.heap.size w).alloc (Nat.le_refl _) (.cells [zI 0,zI 0].toArray 92);have jD:w.heap.size+1<=(w.alloc (.cells [zI 0,zI 0].toArray 92)).heap.size:=by simp
 unfold cT at cV;clear hb;go_enter func30,ntmps30;go_wp2_with fail;refine Ord.wc [10] (fun w'=>ao 0 w' c [zI k,zI s,zI b,zI h,zI l,zI e,zI r,zI hs,zI hi,zP q]) (fun j w'=>w.heap.size+1<=w'.heap.size/\Below w.heap.size w w'/\ao 0 w' w.heap.size (if j=0 then [zI 0,zI 0] else [zI hs,zI hi])) cV.drew ⟨jD,hE.drew,hB.drew⟩ fun af=>?_
 repeat ((first
  | (refine Ord.cv ?_ af.o ?_ ?_;rotate_left;(intro w5 hS;have r:=ao.rule hS;go_simp<;>rfl))
  | (refine Ord.co af.o ?_));try simp only[Act.put,zA,zZ,zS])
 refine Ord.ch_turn (v:=undef) 0 af.o rfl (by decide) (Or.inl rfl) (by rfl) ?_ ?_
 ·rintro w5 hS ⟨iz,gK,aU⟩;simp only[if_true] at aU;have r:=aU.rule;have f0:=aU.thaw 0 (by simp);have f1:=aU.thaw 1 (by simp);go_simp;refine⟨rfl,(ao.off hS (by omega) _).off (by omega) _,by simpa using iz,?_,?_⟩
  ·exact dJ (dJ gK (by omega) (Nat.le_refl _) _) (by simp;omega) (Nat.le_refl _) _
  ·exact (aU.set (i:=0) (by simp) _).set (i:=1) (by simp) _
 try simp only[Act.put,zA,zZ,zS]
 repeat ((first
  | (refine Ord.cv ?_ af.o ?_ ?_;rotate_left;(intro w5 hS;skip;go_simp<;>rfl))
  | (refine Ord.co af.o ?_));try simp only[Act.put,zA,zZ,zS])
 refine Ord.InText.nil fun w5 hS=>?_;clear af;obtain⟨aL,ai⟩:=Ord.chain_end hS;clear hS;obtain⟨iz,gK,aU⟩:=ai;have q:=aU.rule;simp only[show ¬ [10].length=0 by decide,if_false] at q
 go_wp2
 exact bodyPost_ret (v:=.tuple #[.agg #[zI hs,zI hi],.bool (hs != 0)]) (by simp[results,results30,go_sem,q]) rfl ⟨rfl,gK⟩
end
end
section
open Go.RowKit
theorem wM (n lo hi:Int) (w:World):Calls prog 46 #[.int .i64 n,.int .i64 lo,.int .i64 hi] w fun e w'=>e=.returned (.bool (kM n lo hi))/\w=w':=by
 go_enter func46,ntmps46
 go_wp2
 all_goals
  go_ret;exact⟨ig (by simp[kM];try omega),rfl⟩
theorem IQ (k:Int) (w:World):Calls prog 45 #[.int .i64 k] w fun e w'=>e=.returned (.bool (uV k))/\w=w':=by
 go_enter func45,ntmps45
 go_wp2
 all_goals
  go_ret;exact⟨ig (by rw[Bool.eq_iff_iff];simp[uV];try omega),rfl⟩
theorem IU (k s b h l:Int) (w:World):Calls prog 47 #[.agg #[.int .i64 k,.int .i64 s,.int .i64 b,.int .i64 h,.int .i64 l]] w fun e w'=>e=.returned (.bool (uW k b))/\Below w.heap.size w w':=by
 have hF:=(Fr.start w).push w.heap.size rfl [.int .i64 k,.int .i64 s,.int .i64 b,.int .i64 h,.int .i64 l] 23;go_enter func47,ntmps47;go_wp2_with
  (with_reducible refine (wM _ _ _ _).mono ?_;rintro e w1 ⟨rfl,rfl⟩)
 all_goals
  go_ret
  (try go_light)
  (try simp only[bne_iff_ne,ne_eq,bne_eq_false_iff_eq,beq_iff_eq,beq_eq_false_iff_ne,Bool.or_eq_true,Bool.and_eq_true,decide_eq_true_eq,decide_eq_false_iff_not,Bool.or_eq_false_iff,Bool.not_eq_true',Bool.not_eq_false'] at *)
  refine⟨ig ?_,hF.below⟩;rw[Bool.eq_iff_iff,Da]
  (try simp[kM])
  (try omega)
theorem IV (k s b h l:Int) (w:World):Calls prog 48 #[.agg #[.int .i64 k,.int .i64 s,.int .i64 b,.int .i64 h,.int .i64 l]] w fun e w'=>e=.returned (.bool (uX k h))/\Below w.heap.size w w':=by
 have hF:=(Fr.start w).push w.heap.size rfl [.int .i64 k,.int .i64 s,.int .i64 b,.int .i64 h,.int .i64 l] 23;go_enter func48,ntmps48;go_wp2_with
  (with_reducible refine (wM _ _ _ _).mono ?_;rintro e w1 ⟨rfl,rfl⟩)
 all_goals
  go_ret
  (try go_light)
  (try simp only[bne_iff_ne,ne_eq,bne_eq_false_iff_eq,beq_iff_eq,beq_eq_false_iff_ne,Bool.or_eq_true,Bool.and_eq_true,decide_eq_true_eq,decide_eq_false_iff_not,Bool.or_eq_false_iff,Bool.not_eq_true',Bool.not_eq_false'] at *)
  refine⟨ig ?_,hF.below⟩;rw[Bool.eq_iff_iff,Db]
  (try simp[kM])
  (try omega)
theorem oP (k s b h l:Int) (w:World):Calls prog 18 #[.agg #[.int .i64 k,.int .i64 s,.int .i64 b,.int .i64 h,.int .i64 l]] w fun e w'=>e=.returned (.int .i64 (iN k s b h l))/\Below w.heap.size w w':=by
 have hF:=(Fr.start w).push w.heap.size rfl [.int .i64 k,.int .i64 s,.int .i64 b,.int .i64 h,.int .i64 l] 23;have r:=hF.rule 0 rfl;go_enter func18,ntmps18;go_wp2_with (first
  |
   (with_reducible refine (wM _ _ _ _).mono ?_;rintro e w1 ⟨rfl,rfl⟩)
  |
   (with_reducible refine (IQ _ _).mono ?_;rintro e w1 ⟨rfl,rfl⟩)
  |
   (with_reducible refine (IU _ _ _ _ _ _).mono ?_;rintro e w1 ⟨rfl,hb⟩;replace hF:=hF.over hb;clear hb r;have r:=hF.rule 0 rfl)
  |
   (with_reducible refine (IV _ _ _ _ _ _).mono ?_;rintro e w1 ⟨rfl,hb⟩;replace hF:=hF.over hb;clear hb r;have r:=hF.rule 0 rfl)
  )
 all_goals
  go_ret
  (try go_light)
  (try simp only[bne_iff_ne,ne_eq,bne_eq_false_iff_eq,beq_iff_eq,beq_eq_false_iff_ne,Bool.or_eq_true,Bool.and_eq_true,decide_eq_true_eq,decide_eq_false_iff_not,Bool.or_eq_false_iff,Bool.not_eq_true',Bool.not_eq_false'] at *)
  refine⟨iA ?_,hF.below⟩;simp[iN, *]
def gA (a b:Int):Bool:=decide (0<=a/\1<=b/\b<=64 - a)
theorem zg {a b:Int} (h:gA a b=true):0<=a/\1<=b/\b<=64 - a:=by simpa [gA] using h
def lC (a b:Int):Int:=if gA a b then 2 ^ b.toNat - 1 else 0
theorem Dk {a b:Int} (h:gA a b=true):lC a b=2 ^ b.toNat - 1:=by simp[lC,h]
theorem zh {a b:Int} (h:gA a b=false):lC a b=0:=by simp[lC,h]
theorem IW (k:Nat) (h1:k<=64):(18446744073709551615:Int) / 2 ^ (64 - k)=2 ^ k - 1:=by
 have h:∀ k ≤ 64,(18446744073709551615:Int) / 2 ^ (64 - k)=2 ^ k - 1:=by decide
 exact h k h1
theorem zi {a b:Int} (h:gA a b=true):∃ A B:Nat,a=A/\b=B/\1<=B/\A+B<=64:=by
 obtain⟨h1,h2,h3⟩:=zg h;exact⟨a.toNat,b.toNat,by omega,by omega,by omega,by omega⟩
theorem wN {k:Nat} (h:k<=64):2 ^ k<=18446744073709551616:=by
 have:=Nat.pow_le_pow_right (n:=2) (by omega) h
 simpa using this
theorem zj {A B:Nat} (h1:1<=B) (h2:A+B<=64):lC A B=((2 ^ B - 1:Nat):Int):=by
 rw[Dk (by simp[gA];omega),Int.toNat_natCast,Int.natCast_sub (Nat.one_le_two_pow)];simp
theorem zk {a:Int} (h0:0<=a) (h1:a < 256):IntKind.u8.wrap a=a:=by rw[IntKind.wrap_u8];omega
def u0 (A B X:Nat):Nat:=X / 2 ^ A % 2 ^ B
def lZ (a b x:Int):Int:=if gA a b then (u0 a.toNat b.toNat x.toNat:Nat) else 0
theorem get_eq (a b x:Int) (h0:0<=x) (h1:x<=18446744073709551615) :
  bits .and .u64 (x / 2 ^ min (IntKind.u8.wrap a).toNat 64) (lC a b)=lZ a b x:=by
 obtain⟨X,rfl⟩:=Int.eq_ofNat_of_zero_le h0;have e:∀ k:Nat,(X:Int) / 2 ^ k=((X / 2 ^ k:Nat):Int):=fun k=>by simp
 have aE:∀ k:Nat,X / 2 ^ k < 18446744073709551616:=fun k=>Nat.lt_of_le_of_lt (Nat.div_le_self _ _) (by omega);cases h:gA a b
 ·rw[zh h,e,show (0:Int)=((0:Nat):Int) from rfl,u64_and_nat _ _ (aE _) (by decide)];simp[lZ,h]
 ·obtain⟨A,B,rfl,rfl,hB,nU⟩:=zi h;rw[zk (by omega) (by omega),zj hB nU,e,u64_and_nat _ _ (aE _) (by have:=wN (k:=B) (by omega);omega)];simp only[lZ,h,if_true,Int.toNat_natCast,u0];rw[Nat.and_two_pow_sub_one_eq_mod,show min A 64=A by omega]
def oQ (A B:Nat):Nat:=(2 ^ B - 1) * 2 ^ A
def tt (a b:Int):Int:=if gA a b then (oQ a.toNat b.toNat:Nat) else 0
theorem zl {A B:Nat} (h:A+B<=64):oQ A B < 18446744073709551616:=by
 unfold oQ;have h1:(2 ^ B - 1) * 2 ^ A < 2 ^ B * 2 ^ A:=Nat.mul_lt_mul_of_pos_right (by have:=Nat.one_le_two_pow (n:=B);omega) (Nat.two_pow_pos A);rw[<- Nat.pow_add] at h1;have:=wN (k:=B+A) (by omega);omega
theorem IX (a b:Int):IntKind.u64.wrap (lC a b * 2 ^ min (IntKind.u8.wrap a).toNat 64)=tt a b:=by
 cases h:gA a b
 ·simp[zh h,tt,h,IntKind.wrap_u64]
 ·obtain⟨A,B,rfl,rfl,hB,nU⟩:=zi h;rw[zk (by omega) (by omega),zj hB nU];simp only[tt,h,if_true,Int.toNat_natCast];rw[show min A 64=A by omega,show (((2 ^ B - 1:Nat):Int) * 2 ^ A)=((oQ A B:Nat):Int) by simp[oQ],IntKind.wrap_u64];have:=zl nU;omega
theorem IY (A B k:Nat):(oQ A B).testBit k=(decide (A<=k) && decide (k < A+B)):=by
 unfold oQ;rw[Nat.testBit_mul_two_pow,Nat.testBit_two_pow_sub_one]
 by_cases h:A<=k
 ·simp[h];omega
 ·simp[h]
def wO (A B W X:Nat):Nat:=(W &&& (18446744073709551615 - oQ A B)) ||| X * 2 ^ A
def oR (a b w x:Int):Int:=(wO a.toNat b.toNat w.toNat x.toNat:Nat)
theorem SX {A B W X:Nat} (nU:A+B<=64) (hW:W < 18446744073709551616) (hX:X < 2 ^ B):wO A B W X < 18446744073709551616:=by
 have h1:X * 2 ^ A < 2 ^ 64:=by
  have h1:X * 2 ^ A < 2 ^ B * 2 ^ A:=Nat.mul_lt_mul_of_pos_right hX (Nat.two_pow_pos A);rw[<- Nat.pow_add] at h1;have:=wN (k:=B+A) (by omega);simp only[Nat.reducePow];omega
 exact Nat.or_lt_two_pow (n:=64) (Nat.lt_of_le_of_lt Nat.and_le_left (by simpa using hW)) h1
theorem put_eq (a b w x:Int) (h:gA a b=true) (IZ:0<=w) (ij:w<=18446744073709551615) (zm:0<=x) (hx:x<=lC a b) :
  bits .or .u64 (bits .andNot .u64 w (tt a b)) (IntKind.u64.wrap (x * 2 ^ min (IntKind.u8.wrap a).toNat 64))=oR a b w x:=by
 obtain⟨A,B,rfl,rfl,hB,nU⟩:=zi h;obtain⟨W,rfl⟩:=Int.eq_ofNat_of_zero_le IZ;obtain⟨X,rfl⟩:=Int.eq_ofNat_of_zero_le zm;rw[zj hB nU] at hx;have hX:X < 2 ^ B:=by have:=Nat.one_le_two_pow (n:=B);omega
 have h1:X * 2 ^ A < 18446744073709551616:=by
  have h1:X * 2 ^ A < 2 ^ B * 2 ^ A:=Nat.mul_lt_mul_of_pos_right hX (Nat.two_pow_pos A);rw[<- Nat.pow_add] at h1;have:=wN (k:=B+A) (by omega);omega
 have e1:IntKind.u64.wrap ((X:Int) * 2 ^ min A 64)=((X * 2 ^ A:Nat):Int):=by
  rw[show min A 64=A by omega,show ((X:Int) * 2 ^ A)=((X * 2 ^ A:Nat):Int) by simp,IntKind.wrap_u64];omega
 rw[zk (by omega) (by omega)];simp only[tt,h,if_true,Int.toNat_natCast,oR];rw[e1,u64_andNot_nat _ _ (by omega) (zl nU),u64_or_nat _ _ (Nat.lt_of_le_of_lt Nat.and_le_left (by omega)) h1];rfl
theorem I0 {m k:Nat} (h:m < 18446744073709551616):(18446744073709551615 - m).testBit k=(decide (k < 64) && !m.testBit k):=by
 have:=Nat.testBit_two_pow_sub_succ (n:=64) (x:=m) (by simpa using h) k;rw[<- this]
 congr 1
 omega
theorem zn (a b:Int) (w:World) (ha:a<=9223372036854775807) (_hb:-9223372036854775808<=b) :
  Calls prog 235 #[.agg #[.int .i64 a,.int .i64 b]] w fun e w'=>e=.returned (.bool (gA a b))/\Below w.heap.size w w':=by
 by_cases h1:0<=a
 ·by_cases h2:1<=b
  ·go_enter func235,ntmps235
   go_wp2
   go_ret;exact⟨ig (by simp[gA,h1,h2]),(Below.refl _ _).alloc (Nat.le_refl _) _⟩
  ·go_enter func235,ntmps235
   go_wp2
   go_ret;exact⟨ig (by simp[gA];omega),(Below.refl _ _).alloc (Nat.le_refl _) _⟩
 ·go_enter func235,ntmps235
  go_wp2
  go_ret;exact⟨ig (by simp[gA];omega),(Below.refl _ _).alloc (Nat.le_refl _) _⟩
theorem I1 {k:IntKind} {x y:Int} {c:Bool} (h:x=y):Ending.returned (.tuple #[.int k x,.bool c])=.returned (.tuple #[.int k y,.bool c]):=by rw[h]
theorem Dl {B:Nat} {v v':World} (h:Below B v v') (n k:Nat) (hn:n < B):v'.cell? ⟨n,k,none⟩=v.cell? ⟨n,k,none⟩:=Below.cell h (p:=⟨n,k,none⟩) hn
theorem Dm {B:Nat} {v v':World} (h:Below B v v') (n k:Nat) (hn:n < B):v'.frozen? ⟨n,k,none⟩=v.frozen? ⟨n,k,none⟩:=Below.frozen h (p:=⟨n,k,none⟩) hn
theorem zo {n:Nat} {w w1 w2:World} {x y:Value} (c0:w1.cell? ⟨n,0,none⟩=some x) (c1:w1.cell? ⟨n,1,none⟩=some y) (hB:Below n w w1) (hs:n < w1.heap.size) (hb:Below w1.heap.size w1 w2) :
  w2.cell? ⟨n,0,none⟩=some x/\w2.cell? ⟨n,1,none⟩=some y/\Below n w w2/\n < w2.heap.size :=
 ⟨by rw[hb.cell (p:=⟨n,0,none⟩) hs];exact c0,by rw[hb.cell (p:=⟨n,1,none⟩) hs];exact c1,hB.trans (hb.mono (by omega)),by have:=hb.size;omega⟩
theorem zp (a b:Int) (w:World) (ha:a<=9223372036854775807) (hb:-9223372036854775808<=b) :
  Calls prog 224 #[.agg #[.int .i64 a,.int .i64 b]] w fun e w'=>e=.returned (.int .u64 (lC a b))/\Below w.heap.size w w':=by
 cases h:gA a b
 ·have H:=zH h;clear h;go_enter func224,ntmps224;go_wp2_with fail;refine (zn a b _ ha hb).mono ?_;rintro e w1 ⟨rfl,hb⟩;rw[H.out]
  go_wp2
  go_ret;exact⟨iA (zh H.out).symm,((Below.refl _ _).alloc (Nat.le_refl _) _).trans (hb.mono (by simp))⟩
 ·have hp:=zg h;have H:=zH h;clear h;go_enter func224,ntmps224;go_wp2_with fail;refine (zn a b _ ha hb).mono ?_;rintro e w1 ⟨rfl,hb⟩;rw[H.out];have hc:=Dl hb;have hf:=Dm hb
  go_wp2
  go_ret;refine⟨iA ?_,((Below.refl _ _).alloc (Nat.le_refl _) _).trans (hb.mono (by simp))⟩;rw[Dk H.out,show (64 - b).toNat=64 - b.toNat by omega];exact IW _ (by omega)
theorem zq (a b x:Int) (w:World) (ha:a<=9223372036854775807) (hb:-9223372036854775808<=b) (h0:0<=x) (h1:x<=18446744073709551615) :
  Calls prog 205 #[.agg #[.int .i64 a,.int .i64 b],.int .u64 x] w fun e w'=>e=.returned (.int .u64 (lZ a b x))/\Below w.heap.size w w':=by
 go_enter func205,ntmps205;go_wp2_with fail
 go_region_held3 (fun w'=>w'.cell? ⟨w.heap.size,0,none⟩=some (.int .i64 a)/\w'.cell? ⟨w.heap.size,1,none⟩=some (.int .i64 b)/\Below w.heap.size w w'/\w.heap.size < w'.heap.size)
  (first | (go_split_ands;exact zo (by assumption) (by assumption) (by assumption) (by assumption) (by assumption)) | (refine⟨?_,?_,?_,?_⟩<;>first | exact ((Below.refl _ _).alloc (Nat.le_refl _) _).drew | go_keep | simp))
  (first | (go_at_call 224;refine (zp a b _ ha hb).mono ?_;rintro e w1 ⟨rfl,cV⟩))
 all_goals
  go_wp2
  go_ret
  go_split_ands
  exact⟨iA (get_eq a b x h0 h1),by assumption⟩
theorem I2 (a b:Int) (w:World) (ha:a<=9223372036854775807) (hb:-9223372036854775808<=b) :
  Calls prog 237 #[.agg #[.int .i64 a,.int .i64 b]] w fun e w'=>e=.returned (.int .u64 (tt a b))/\Below w.heap.size w w':=by
 go_enter func237,ntmps237;go_wp2_with fail
 go_region_held3 (fun w'=>w'.cell? ⟨w.heap.size,0,none⟩=some (.int .i64 a)/\w'.cell? ⟨w.heap.size,1,none⟩=some (.int .i64 b)/\Below w.heap.size w w'/\w.heap.size < w'.heap.size)
  (first | (go_split_ands;exact zo (by assumption) (by assumption) (by assumption) (by assumption) (by assumption)) | (refine⟨?_,?_,?_,?_⟩<;>first | exact ((Below.refl _ _).alloc (Nat.le_refl _) _).drew | go_keep | simp))
  (first | (go_at_call 224;refine (zp a b _ ha hb).mono ?_;rintro e w1 ⟨rfl,cV⟩))
 all_goals
  go_wp2
  go_ret
  go_split_ands
  exact⟨iA (IX a b),by assumption⟩
theorem zr (a b x y:Int) (w:World) (ha:a<=9223372036854775807) (hb:-9223372036854775808<=b) (h:gA a b=true) (zm:0<=x) (qn:x<=18446744073709551615) (I3:0<=y) (hy:y<=lC a b) :
  Calls prog 226 #[.agg #[.int .i64 a,.int .i64 b],.int .u64 x,.int .u64 y] w fun e w'=>e=.returned (.tuple #[.int .u64 (oR a b x y),.bool true])/\Below w.heap.size w w':=by
 have hp:=zg h;have H:=zH h;clear h;go_enter func226,ntmps226;go_wp2_with fail;refine (zn a b _ ha hb).mono ?_;rintro e w1 ⟨rfl,cV⟩;rw[H.out];have hc:=Dl cV;have hf:=Dm cV;go_wp2_with fail;refine (zp a b _ ha hb).mono ?_;rintro e w2 ⟨rfl,eg⟩;have jD:=cV.size;have ko:=eg.size;simp at jD;have c0:w2.cell? ⟨w.heap.size,0,none⟩=some (.int .i64 a):=by rw[eg.cell (p:=⟨w.heap.size,0,none⟩) (by simp;omega),hc _ _ (by simp)];simp
 have c1:w2.cell? ⟨w.heap.size,1,none⟩=some (.int .i64 b):=by rw[eg.cell (p:=⟨w.heap.size,1,none⟩) (by simp;omega),hc _ _ (by simp)];simp
 have hB:Below w.heap.size w w2:=(((Below.refl _ _).alloc (Nat.le_refl _) _).trans (cV.mono (by simp))).trans (eg.mono (by omega));have aE:w.heap.size < w2.heap.size:=by omega
 clear hc hf cV eg jD ko;go_wp2_with fail
 go_region_held3 (fun w'=>w'.cell? ⟨w.heap.size,0,none⟩=some (.int .i64 a)/\w'.cell? ⟨w.heap.size,1,none⟩=some (.int .i64 b)/\Below w.heap.size w w'/\w.heap.size < w'.heap.size)
  (first | (go_split_ands;exact zo (by assumption) (by assumption) (by assumption) (by assumption) (by assumption)) | exact⟨c0,c1,hB.drew,aE⟩)
  (first | (go_at_call 237;refine (I2 a b _ ha hb).mono ?_;rintro e w1 ⟨rfl,cV⟩))
 all_goals
  go_wp2
  go_ret2
  go_split_ands
  exact⟨I1 (put_eq a b x y H.out zm qn I3 hy),by assumption⟩
end
end Go.Proofs.YtleklonmmlfijaaGreatDoor
