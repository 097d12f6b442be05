/- What is proved on the way to the statement, part 5: contracts of the functions, among other things in memory. -/
import Derived.Test.YtleklonmmlfijaaGreatDoorQ4
import Derived.Deep.AppendLies
import Derived.OneCell
import Derived.LoopIn

open _root_.Go.Proofs.Tryz
set_option maxRecDepth 100000
set_option maxHeartbeats 25600000
namespace Go.Proofs.YtleklonmmlfijaaGreatDoor
section
open Go.RowKit Go.Maps
abbrev bT:=aI × Int
def od (e:bT):List Value:=[.int .i64 e.1.1,.int .i64 e.1.2.1,.int .i64 e.1.2.2,.int .u64 e.2]
def gj (l:List bT):List Value:=l.flatMap od
def ak:List bT->aI->Int
 | [],_=>0
 | e::l,x=>if e.1=x then e.2 else ak l x
def cM:List bT->aI->Int->List bT
 | [],x,v=>[(x,v)]
 | e::l,x,v=>if e.1=x then (e.1,v)::l else e::cM l x v
theorem lI (x:aI) (v:Int):∀ l:List bT,ak (cM l x v)=upd (ak l) x v
 | []=>by funext y;simp only[cM,ak,upd];split<;>split<;>simp_all
 | e::l=>by
  funext y
  by_cases h:e.1=x
  ·simp only[cM,if_pos h,ak,upd]
   by_cases hy:y=x
   ·simp[hy,h]
   ·have:¬ e.1=y:=fun e'=>hy (by rw[<- e',h]);simp[hy,this]
  ·simp only[cM,if_neg h,ak,lI x v l]
   by_cases hy:e.1=y
   ·have:¬ y=x:=fun e'=>h (by rw[hy,e']);simp[hy,upd,this]
   ·simp[hy,upd]
theorem zO (x:aI) (v:Int):∀ l:List bT,(cM l x v).map (·.1)=if x∈l.map (·.1) then l.map (·.1) else l.map (·.1)++[x]
 | []=>by simp[cM]
 | e::l=>by
  by_cases h:e.1=x
  ·simp[cM,h]
  ·have ih:=zO x v l;have h':¬ x=e.1:=fun e'=>h e'.symm;simp only[cM,if_neg h,List.map_cons,ih,List.mem_cons,h',false_or]
   split<;>simp
theorem JW {x:aI} {v:Int} {l:List bT} (h:(l.map (·.1)).Nodup):((cM l x v).map (·.1)).Nodup:=by
 rw[zO]
 split
 ·exact h
 ·rename_i hx;exact List.nodup_append.2 ⟨h,by simp,fun a ha b hb e=>hx (by simp at hb;rw[<- hb,<- e];exact ha)⟩
theorem mb (x:aI) (v:Int) (l:List bT):(cM l x v).length<=l.length+1:=by
 have:=congrArg List.length (zO x v l);simp only[List.length_map] at this;rw[this]
 split<;>simp
theorem JX (l:List bT):(gj l).length=l.length * 4:=by
 induction l with
 | nil=>rfl
 | cons x l ih=>simp[gj,od] at *;omega
def dO:bT:=((0,0,0),0)
theorem JY (l:List bT):∀ (j c:Nat),j < l.length->c < 4->(gj l)[j * 4+c]?=(od (l.getD j dO))[c]?:=by
 induction l with
 | nil=>intro j c h;simp at h
 | cons x l ih =>
  intro j c hj hc;have e:gj (x::l)=od x++gj l:=by simp[gj]
  cases j with
  | zero=>rw[e,List.getElem?_append_left (by simp[od];omega)];simp
  | succ j =>
   rw[e,List.getElem?_append_right (by simp[od];omega)];have:=ih j c (by simpa using hj) hc;have e2:(j+1) * 4+c - (od x).length=j * 4+c:=by simp[od];omega
   rw[e2,this];simp
def jt (w:World) (u:Nat) (F:Nat->Prop) (l:List bT):Prop :=
 (l.map (·.1)).Nodup/\∃ v,ao 0 w u [v]/\w.ownsRow 0 128 4 v l.length (gj l)/\v.ownBlock≠some u/\∀ k,F k ↔ (k=u\/v.ownBlock=some k)
theorem jt.nodup {w:World} {u:Nat} {F:Nat->Prop} {l:List bT} (h:jt w u F l):(l.map (·.1)).Nodup:=h.1
theorem jt.lt {w:World} {u:Nat} {F:Nat->Prop} {l:List bT} (h:jt w u F l):∀ k,F k->k < w.heap.size:=by
 obtain⟨-,v,hb,ho,bu,hF⟩:=h;intro k hk
 rcases (hF k).1 hk with rfl | e
 ·exact hb.1
 ·exact yI ho k e
def bP (u:Nat) (F:Nat->Prop) (l:List bT):Item where
 F:=F
 says:=fun w=>jt w u F l
 loc:=fun w1 w2 h hk hs=>by
  obtain⟨ef,v,hb,ho,bu,hF⟩:=h
  exact⟨ef,v,hb.kept hs (hk u ((hF u).2 (.inl rfl))),sX ho fun k e=>hk k ((hF k).2 (.inr e)),bu,hF⟩
theorem jt.full {w:World} {u:Nat} {F:Nat->Prop} {l:List bT} (h:jt w u F l):∃ A cap,ao 0 w u [Value.slice A l.length cap]/\w.ownsRow 0 128 4 (Value.slice A l.length cap) l.length (gj l)/\(Value.slice A l.length cap).ownBlock≠some u/\∀ k,F k ↔ (k=u\/(Value.slice A l.length cap).ownBlock=some k):=by
 obtain⟨-,v,hb,ho,bu,hF⟩:=h
 rcases ho.2 with ⟨hv,h0⟩ | ⟨g,cap,cur,hv,rest⟩
 ·have eI:l=[]:=List.eq_nil_of_length_eq_zero h0;subst eI;subst hv;exact⟨none,0,hb,ho,bu,hF⟩
 ·subst hv;exact⟨some ⟨g,0,none⟩,cap,hb,ho,bu,hF⟩
theorem zQ {w:World} {l:List bT} {A:Option Addr} {cap:Nat} (ho:w.ownsRow 0 128 4 (Value.slice A l.length cap) l.length (gj l)) :
  l=[]\/∃ g,A=some ⟨g,0,none⟩/\g < w.heap.size/\∀ j,j < l.length->w.cell? ⟨g,j * 4,none⟩=some (.int .i64 (l.getD j dO).1.1)/\w.cell? ⟨g,j * 4+1,none⟩=some (.int .i64 (l.getD j dO).1.2.1) /\
   w.cell? ⟨g,j * 4+2,none⟩=some (.int .i64 (l.getD j dO).1.2.2)/\w.cell? ⟨g,j * 4+3,none⟩=some (.int .u64 (l.getD j dO).2):=by
 rcases ho.2 with ⟨hv,h0⟩ | ⟨g,ga,cur,hv,_,hg,hn,hc,eO,jm⟩
 ·exact .inl (List.eq_nil_of_length_eq_zero h0)
 ·simp only[Value.slice.injEq] at hv;obtain⟨rfl,-,rfl⟩:=hv;refine .inr ⟨g,rfl,(Array.getElem?_eq_some_iff.1 hg).1,fun j hj=>?_⟩;have each:∀ c,c < 4->w.cell? ⟨g,j * 4+c,none⟩=(od (l.getD j dO))[c]?:=fun c zR=>by
   rw[<- JY l j c hj zR,<- jm,List.getElem?_take_of_lt (by omega)];simp[World.cell?,hg]
  exact⟨each 0 (by omega),each 1 (by omega),each 2 (by omega),each 3 (by omega)⟩
theorem JZ {u o:Nat} {vs:List Value} {A:Option Addr} {cap:Nat} {l:List bT} {w:World} (a b d:Int) (hl:l.length<=1000000) (hb:ao 0 w u vs) (fW:vs[o]?=some (.slice A l.length cap)) (cF:w.ownsRow 0 128 4 (.slice A l.length cap) l.length (gj l)) :
  Calls prog 37 #[.pointer (some ⟨u,o,none⟩),.agg #[.int .i64 a,.int .i64 b,.int .i64 d]] w fun e w'=>e=.returned (.int .u64 (ak l (a,b,d)))/\Below w.heap.size w w':=by
 have fS:=zQ cF;have r0:w.cell? ⟨u,o,none⟩=some (.slice A l.length cap):=by rw[hb.rule o,fW]
 have oY:=hb.1;have hE:=(Fr.start w).push w.heap.size rfl [.int .i64 a,.int .i64 b,.int .i64 d] 72;have kR:=zH fS;have rE:=zH r0;clear fS r0 hb fW cF;go_enter func37,ntmps37;go_wp2_with fail
 go_loopw [5] (fun i wr=>∃ k:Nat,k<=l.length/\i=.int .i64 k/\ak l (a,b,d)=ak (l.drop k) (a,b,d)/\Fr w [(w.heap.size,[.int .i64 a,.int .i64 b,.int .i64 d])] wr) (fun i _=>l.length - (intOf i).toNat)
 case atStart=>exact⟨0,by omega,rfl,rfl,hE⟩
 case round =>
  obtain⟨k,hk,rfl,hg,eR⟩:=hrel;clear hE;have hB:∀ w',Below w.heap.size w w'->w'.cell? ⟨u,o,none⟩=some (.slice A l.length cap):=fun w' hb=>by rw[hb.cell (p:=⟨u,o,none⟩) oY];exact rE.out
  have ru:=hB _ eR.below
  by_cases aE:k < l.length
  ·rcases kR.out with h0 | ⟨g,rfl,eB,hc⟩
   ·rw[h0] at aE;simp at aE
   obtain⟨c0,c1,c2,c3⟩:=hc k aE;have DT:l.drop k=l.getD k dO::l.drop (k+1):=by
    rw[List.drop_eq_getElem_cons aE];simp[aE]
   rw[DT] at hg;clear DT hc;generalize l.getD k dO=o at *;obtain⟨⟨x,y,z⟩,v⟩:=o;simp only at c0 c1 c2 c3;have HC:Hid (∀ w',Below w.heap.size w w'->(w'.cell? ⟨g,k * 4,none⟩=some (.int .i64 x)/\w'.cell? ⟨g,k * 4+1,none⟩=some (.int .i64 y)/\w'.cell? ⟨g,k * 4+2,none⟩=some (.int .i64 z)/\w'.cell? ⟨g,k * 4+3,none⟩=some (.int .u64 v))):=zH fun w' hb=>by
    refine⟨?_,?_,?_,?_⟩
    ·rw[hb.cell (p:=⟨g,k * 4,none⟩) eB];exact c0
    ·rw[hb.cell (p:=⟨g,k * 4+1,none⟩) eB];exact c1
    ·rw[hb.cell (p:=⟨g,k * 4+2,none⟩) eB];exact c2
    ·rw[hb.cell (p:=⟨g,k * 4+3,none⟩) eB];exact c3
   clear c0 c1 c2 c3;have HG:=zH hg;have HB:=zH hB;clear hg hB;go_wp2_with fail;refine Ord.wc [] (fun w'=>Fr w [(w.heap.size,[.int .i64 a,.int .i64 b,.int .i64 d])] w') (fun _ _=>True) eR.drew trivial fun af=>?_
   repeat ((first
    | (refine Ord.cv ?_ af.o ?_ ?_;rotate_left;(intro w5 hS;have r:=hS.rule 0 rfl;have r1:=HB.out _ hS.below;obtain⟨c0,c1,c2,c3⟩:=HC.out _ hS.below;go_simp<;>rfl))
    | (refine Ord.co af.o ?_));try simp only[Act.put,zA,zZ,zS])
   refine Ord.ch_value (v:=.bool (decide ((x,y,z)=(a,b,d)))) af.o (by decide) (by rfl) ?_ ?_
   ·intro w5 hS;clear hS HC HB HG kR rE
    by_cases e1:x=a<;>by_cases e2:y=b<;>by_cases e3:z=d<;>simp[e1,e2,e3]<;>go_simp
   try simp only[Act.put,zA,zZ,zS]
   refine Ord.InText.nil fun w5 hS=>?_;clear af;obtain⟨eR,hC⟩:=Ord.chain_end hS;clear hS;clear hC;have r:=eR.rule 0 rfl;have r1:=HB.out _ eR.below;obtain⟨c0,c1,c2,c3⟩:=HC.out _ eR.below
   by_cases hp:(x,y,z)=(a,b,d)
   ·rw[decide_eq_true hp];go_wp2_with fail;go_ret;exact⟨by rw[HG.out];simp[ak,hp],eR.below⟩
   ·rw[decide_eq_false hp];go_wp2_with fail;exact⟨⟨k+1,by omega,rfl,by rw[HG.out];simp[ak,hp],eR⟩,by simp[intOf];omega⟩
  ·go_wp2_with fail;have:k=l.length:=by omega
   subst this;go_ret;exact⟨by rw[hg];simp[ak],eR.below⟩
theorem ju {u:Nat} {F:Nat->Prop} {l:List bT} {w:World} (a b d:Int) (hl:l.length<=1000000) (hU:jt w u F l) :
  Calls prog 37 #[.pointer (some ⟨u,0,none⟩),.agg #[.int .i64 a,.int .i64 b,.int .i64 d]] w fun e w'=>e=.returned (.int .u64 (ak l (a,b,d)))/\Below w.heap.size w w':=by
 obtain⟨A,cap,hb,ho,_,_⟩:=hU.full;exact JZ a b d hl hb rfl ho
theorem J0:(prog.info? 128).map (fun i=>(i.zero,i.size,i.bytes))=some (some (.agg #[.int .i64 0,.int .i64 0,.int .i64 0,.int .u64 0]),4,32):=by kernel_rfl
theorem zT (l m:List bT):gj (l++m)=gj l++gj m:=by simp[gj]
theorem J1 (l:List bT) (k:Nat) (hk:k < l.length) (p:aI) (v0 v:Int) (h:l.getD k dO=(p,v0)):gj (l.take k++(p,v)::l.drop (k+1))=(gj l).set (k * 4+3) (.int .u64 v):=by
 have e:l=l.take k++(p,v0)::l.drop (k+1):=by
  conv=>lhs;rw[<- List.take_append_drop k l,List.drop_eq_getElem_cons hk]
  rw[show l[k]=(p,v0) by simpa [hk] using h]
 conv=>rhs;rw[e]
 have hlen:(gj (l.take k)).length=k * 4:=by rw[JX];simp;omega
 rw[zT,zT,List.set_append_right _ _ (by omega),hlen]
 congr 1
 rw[show k * 4+3 - k * 4=3 by omega];simp[gj,od]
theorem J2 {x:aI} {v:Int} {l:List bT} {k:Nat} (hk:k < l.length) {p:aI} {v0:Int} (h:l.getD k dO=(p,v0)) (hp:¬ p=x) (hs:cM l x v=l.take k++cM (l.drop k) x v):cM l x v=l.take (k+1)++cM (l.drop (k+1)) x v:=by
 have e:l[k]=(p,v0):=by simpa [hk] using h
 rw[hs,List.drop_eq_getElem_cons hk,e,cM,if_neg hp,List.take_succ_eq_append_getElem hk,e];simp
theorem DU {x:aI} {v:Int} {l:List bT} {k:Nat} (hk:k < l.length) {v0:Int} (h:l.getD k dO=(x,v0)) (hs:cM l x v=l.take k++cM (l.drop k) x v):cM l x v=l.take k++(x,v)::l.drop (k+1):=by
 have e:l[k]=(x,v0):=by simpa [hk] using h
 rw[hs,List.drop_eq_getElem_cons hk,e,cM,if_pos rfl]
theorem J3 {w w':World} {l:List bT} {g cap k:Nat} {x:aI} {v0 v:Int} (ho:w.ownsRow 0 128 4 (Value.slice (some ⟨g,0,none⟩) l.length cap) l.length (gj l))
  (hk:k < l.length) (h:l.getD k dO=(x,v0)) (hB:Below w.heap.size w w') :
  (w'.setCell ⟨g,k * 4+3,none⟩ (.int .u64 v)).ownsRow 0 128 4 (Value.slice (some ⟨g,0,none⟩) (l.take k++(x,v)::l.drop (k+1)).length cap) (l.take k++(x,v)::l.drop (k+1)).length (gj (l.take k++(x,v)::l.drop (k+1)))/\cj (fun j=>j=g) w (w'.setCell ⟨g,k * 4+3,none⟩ (.int .u64 v)):=by
 have eB:=(ho.lt g rfl).2;have lS:w'.ownsRow 0 128 4 (Value.slice (some ⟨g,0,none⟩) l.length cap) l.length (gj l):=sX ho fun k e=>hB.block k (by cases e;exact eB);have hlen:(l.take k++(x,v)::l.drop (k+1)).length=l.length:=by simp;omega
 refine⟨?_,(cj.of_below hB:cj (fun j=>j=g) w w').setCell (p:=⟨g,k * 4+3,none⟩) (fun _=>rfl) _⟩;rw[hlen,J1 l k hk x v0 v h];exact (lS.stored _ _).1
theorem J4 {u o:Nat} {vs:List Value} {A:Option Addr} {cap:Nat} {l:List bT} {w:World} (a b d v:Int) (hl:l.length<=1000000) (hblk:ao 0 w u vs) (fW:vs[o]?=some (.slice A l.length cap)) (cF:w.ownsRow 0 128 4 (Value.slice A l.length cap) l.length (gj l)) (mL:(Value.slice A l.length cap).ownBlock≠some u) :
  Calls prog 20 #[.pointer (some ⟨u,o,none⟩),.agg #[.int .i64 a,.int .i64 b,.int .i64 d],.int .u64 v] w fun e w'=>e=.returned (.tuple #[])/\∃ A' ga,ao 0 w' u (vs.set o (.slice A' (cM l (a,b,d) v).length ga))/\w'.ownsRow 0 128 4 (.slice A' (cM l (a,b,d) v).length ga) (cM l (a,b,d) v).length (gj (cM l (a,b,d) v)) /\
   cj (fun k=>k=u\/(Value.slice A l.length cap).ownBlock=some k) w w'/\∀ k,(Value.slice A' (cM l (a,b,d) v).length ga).ownBlock=some k->(Value.slice A l.length cap).ownBlock=some k\/w.heap.size<=k:=by
 have fS:=zQ cF;have lH:o < vs.length:=(List.getElem?_eq_some_iff.1 fW).1;have r0:w.cell? ⟨u,o,none⟩=some (.slice A l.length cap):=by rw[hblk.rule o,fW]
 have oY:=hblk.1;have hE:=(Fr.start w).push w.heap.size rfl [.int .i64 a,.int .i64 b,.int .i64 d] 72;have kR:=zH fS;have rE:=zH r0;have mG:=zH (And.intro hblk (And.intro cF (And.intro mL fW)));clear fS r0 hblk cF mL fW;obtain⟨i0,hi,jR,oZ,rP⟩:=info_parts J0;go_enter func20,ntmps20;go_wp2_with fail
 go_loopw [6] (fun i wr=>∃ k:Nat,k<=l.length/\i=.int .i64 k/\cM l (a,b,d) v=l.take k++cM (l.drop k) (a,b,d) v/\Fr w [(w.heap.size,[.int .i64 a,.int .i64 b,.int .i64 d])] wr) (fun i _=>l.length - (intOf i).toNat)
 case atStart=>exact⟨0,by omega,rfl,rfl,hE⟩
 case round =>
  obtain⟨k,hk,rfl,hg,eR⟩:=hrel;clear hE;have hB:∀ w',Below w.heap.size w w'->w'.cell? ⟨u,o,none⟩=some (.slice A l.length cap):=fun w' hb=>by rw[hb.cell (p:=⟨u,o,none⟩) oY];exact rE.out
  have ru:=hB _ eR.below;have HG:=zH hg;have HB:=zH hB;clear hg hB
  by_cases aE:k < l.length
  ·rcases kR.out with h0 | ⟨g,rfl,eB,hc⟩
   ·rw[h0] at aE;simp at aE
   obtain⟨c0,c1,c2,c3⟩:=hc k aE;clear hc;have J5:=zH (rfl:l.getD k dO=l.getD k dO);generalize ho:l.getD k dO=o at c0 c1 c2 c3;obtain⟨⟨x,y,z⟩,v0⟩:=o;simp only at c0 c1 c2 c3;have HC:Hid (∀ w',Below w.heap.size w w'->(w'.cell? ⟨g,k * 4,none⟩=some (.int .i64 x)/\w'.cell? ⟨g,k * 4+1,none⟩=some (.int .i64 y)/\w'.cell? ⟨g,k * 4+2,none⟩=some (.int .i64 z)/\w'.cell? ⟨g,k * 4+3,none⟩=some (.int .u64 v0))):=zH fun w' hb=>by
    refine⟨?_,?_,?_,?_⟩
    ·rw[hb.cell (p:=⟨g,k * 4,none⟩) eB];exact c0
    ·rw[hb.cell (p:=⟨g,k * 4+1,none⟩) eB];exact c1
    ·rw[hb.cell (p:=⟨g,k * 4+2,none⟩) eB];exact c2
    ·rw[hb.cell (p:=⟨g,k * 4+3,none⟩) eB];exact c3
   have HO:=zH ho;clear c0 c1 c2 c3 ho J5;go_wp2_with fail;refine Ord.wc [] (fun w'=>Fr w [(w.heap.size,[.int .i64 a,.int .i64 b,.int .i64 d])] w') (fun _ _=>True) eR.drew trivial fun af=>?_
   repeat ((first
    | (refine Ord.cv ?_ af.o ?_ ?_;rotate_left;(intro w5 hS;have r:=hS.rule 0 rfl;have r1:=HB.out _ hS.below;obtain⟨c0,c1,c2,c3⟩:=HC.out _ hS.below;go_simp<;>rfl))
    | (refine Ord.co af.o ?_));try simp only[Act.put,zA,zZ,zS])
   refine Ord.ch_value (v:=.bool (decide ((x,y,z)=(a,b,d)))) af.o (by decide) (by rfl) ?_ ?_
   ·intro w5 hS;clear hS HC HB HG kR rE mG HO
    by_cases e1:x=a<;>by_cases e2:y=b<;>by_cases e3:z=d<;>simp[e1,e2,e3]<;>go_simp
   try simp only[Act.put,zA,zZ,zS]
   refine Ord.InText.nil fun w5 hS=>?_;clear af;obtain⟨eR,hC⟩:=Ord.chain_end hS;clear hS;clear hC;have r:=eR.rule 0 rfl;have r1:=HB.out _ eR.below;obtain⟨c0,c1,c2,c3⟩:=HC.out _ eR.below
   by_cases hp:(x,y,z)=(a,b,d)
   ·rw[decide_eq_true hp];have S5:g < w5.heap.size:=Nat.lt_of_lt_of_le eB eR.below.size;have hz:w5.frozen? ⟨g,k * 4+3,none⟩=false:=(sX mG.out.2.1 fun k e=>eR.below.block k ((mG.out.2.1.lt k e).2)).frozenAt _;go_wp2_with fail;refine bodyPost_ret (results_none rfl _ _ _) rfl ?_;have jn:=HO.out;rw[hp] at jn;obtain⟨h1,h2⟩:=J3 (v:=v) mG.out.2.1 aE jn eR.below;have tJ:u≠g:=fun e=>mG.out.2.2.1 (by simp[Value.ownBlock,e]);have hlen:(cM l (a,b,d) v).length=l.length:=by rw[DU aE jn HG.out];simp;omega
    have cV:ao 0 w5 u vs:=mG.out.1.kept eR.below.size (eR.below.block u mG.out.1.1);refine⟨rfl,some ⟨g,0,none⟩,cap,?_,by rw[DU aE jn HG.out];exact h1,h2.mono fun k _ e=>.inr (by simp[Value.ownBlock,e]),fun k e=>.inl (by simpa [Value.ownBlock] using e)⟩;have J6:vs.set o (.slice (some ⟨g,0,none⟩) (cM l (a,b,d) v).length cap)=vs:=by
     apply List.ext_getElem?;intro j;rw[List.getElem?_set]
     split
     ·rename_i e;subst e;rw[mG.out.2.2.2,hlen]
     ·rfl
    rw[J6];exact cV.kept (by simp) (Below.heap_setCell _ _ _ _ tJ)
   ·rw[decide_eq_false hp];go_wp2_with fail;exact⟨⟨k+1,by omega,rfl,J2 aE HO.out hp HG.out,eR⟩,by simp[intOf];omega⟩
  ·go_wp2_with fail;have:k=l.length:=by omega
   subst this;obtain⟨hblk,cF,mL,fW⟩:=mG.out;have iZ:=eR.below.size;have xe:ao 0 wr u vs:=hblk.kept iZ (eR.below.block u oY);have DV:wr.ownsRow 0 128 4 (Value.slice A l.length cap) l.length (gj l):=sX cF fun k e=>eR.below.block k ((cF.lt k e).2);have J7:=run_append_lies (P:=prog) (wr.drew.alloc (.cells #[.int .i64 a,.int .i64 b,.int .i64 d,.int .u64 v] 128)) 67 67 0 128 i0 (.agg #[.int .i64 0,.int .i64 0,.int .i64 0,.int .u64 0]) 4 32 Tryz.underlying67 hi jR oZ rP rfl (by decide)
    (Value.slice A l.length cap) l.length (gj l) (DV.drew.alloc _) ⟨wr.heap.size,0,none⟩ 1 1 [.int .i64 a,.int .i64 b,.int .i64 d,.int .u64 v] rfl (oJ _ _ _) (by simp[Value.oneCell']) (by omega) (by simp[maxLen];omega) (by omega) (by simp) _ rfl
   obtain⟨g,ga,W2,cZ,qt,jW,lF,zV⟩:=J7;have xf:=Below.alloc (Below.refl wr.heap.size wr.drew) (show wr.heap.size<=wr.drew.heap.size from Nat.le_refl _) (.cells #[.int .i64 a,.int .i64 b,.int .i64 d,.int .u64 v] 128);have qu:∀ k,k < w.heap.size+1->some k≠(Value.slice A l.length cap).ownBlock->W2.heap[k]?=wr.heap[k]?:=fun k hk hn=>by
    have h1:=eR.lt 0 rfl;have h2:=jW.block k (by simp;omega) hn;exact h2.trans (xf.block k (by omega))
   have rQ:ao 0 W2 u vs:=xe.kept (by have:=jW.size;simp at this;omega) (qu u (by omega) (fun e=>mL e.symm));have tJ:g≠u:=fun e=>by
    rcases lF with h | h
    ·exact mL (by rw[h,e])
    ·rw[e] at h;simp at h;omega
   have J8:Fr w [(w.heap.size,[.int .i64 a,.int .i64 b,.int .i64 d])] wr.drew:=eR.drew;have xg:=eR.2 _ (List.mem_singleton.2 rfl);have jq:ao w.heap.size (wr.drew.alloc (.cells #[.int .i64 a,.int .i64 b,.int .i64 d,.int .u64 v] 128)) w.heap.size [.int .i64 a,.int .i64 b,.int .i64 d]:=xg.drew.more _;have oS:ao w.heap.size W2 w.heap.size [.int .i64 a,.int .i64 b,.int .i64 d]:=xg.kept (by have:=jW.size;simp at this;omega) (qu _ (by omega) fun e=>by
    have:=(cF.lt _ e.symm).2;omega)
   have qo:ao w.heap.size (W2.setCell ⟨u,o,none⟩ (.slice (some ⟨g,0,none⟩) (l.length+1) ga)) w.heap.size [.int .i64 a,.int .i64 b,.int .i64 d]:=oS.kept (by simp) (Below.heap_setCell _ _ _ _ (by simp;omega));have HW:Hid ((∀ i,wr.drew.cell? ⟨w.heap.size,i,none⟩=[Value.int .i64 a,.int .i64 b,.int .i64 d][i]?)/\(wr.drew.cell? ⟨u,o,none⟩=some (.slice A l.length cap))/\((wr.drew.alloc (.cells #[.int .i64 a,.int .i64 b,.int .i64 d,.int .u64 v] 128)).cell? ⟨u,o,none⟩=some (.slice A l.length cap))):=zH ⟨xg.rule,by rw[xe.drew.rule o,fW],by rw[(xe.drew.more _).rule o,fW]⟩;have qf:=zH jq.rule;have DW:Hid ((∀ i,W2.cell? ⟨w.heap.size,i,none⟩=[Value.int .i64 a,.int .i64 b,.int .i64 d][i]?)/\W2.cell? ⟨u,o,none⟩=some (.slice A l.length cap)/\W2.frozen? ⟨u,o,none⟩=false/\u < W2.heap.size):=zH ⟨oS.rule,by rw[rQ.rule o,fW],rQ.thaw o lH,rQ.1⟩;have J9:=zH qo.rule;have iF:=zH cZ;have xd:=zH (And.intro qt (And.intro jW (And.intro lF (And.intro zV (And.intro rQ (And.intro tJ (And.intro iZ (And.intro eR.below (And.intro fW xf)))))))));clear jq oS qo cZ qt jW lF zV rQ tJ iZ xe DV xg J8 qu hblk cF mL fW xf ru;go_wp2_with fail;refine Ord.wp_chain2 [8,9,12] (fun w'=>∀ i,w'.cell? ⟨w.heap.size,i,none⟩=[Value.int .i64 a,.int .i64 b,.int .i64 d][i]?) (fun j w'=>[wr.drew,wr.drew.alloc (.cells #[.int .i64 a,.int .i64 b,.int .i64 d,.int .u64 v] 128),W2,W2.setCell ⟨u,o,none⟩ (.slice (some ⟨g,0,none⟩) (l.length+1) ga)][j]?=some w') (by kernel_rfl) (by kernel_rfl) (by kernel_rfl) HW.out.1 rfl (fun hT=>?_);have af:=zH hT;clear hT
   repeat (refine Ord.ch2_value (v:=?_) af.o (by decide) (by rfl) ?_ ?_;rotate_left;(intro w5 hS;skip;go_simp<;>rfl);(try simp only[Act.put,zA,zZ,zS]))
   refine Ord.ch2_early 1 af.o (by decide) (by rfl) (by kernel_rfl) (by decide) (by rfl) (v:=.slice A l.length cap) ?_ ?_
   ·intro w5 j hj hS hA;have r1:w5.cell? ⟨u,o,none⟩=some (.slice A l.length cap):=by
     rcases j with _ | _ | j
     ·cases hA;exact HW.out.2.1
     ·cases hA;exact HW.out.2.2
     ·omega
    go_simp<;>rfl
   try simp only[Act.put,zA,zZ,zS]
   repeat (refine Ord.ch2_value (v:=?_) af.o (by decide) (by rfl) ?_ ?_;rotate_left;(intro w5 hS;skip;go_simp<;>rfl);(try simp only[Act.put,zA,zZ,zS]))
   refine Ord.ch2_turn 0 af.o (by rfl) (by decide) (Or.inl rfl) (by rfl) (v:=.slice (some ⟨wr.heap.size,0,none⟩) 1 1) ?_ ?_
   ·intro w5 hS hA;cases hA;go_simp;simp only[Ord.LandsIn];exact⟨trivial,qf.out,trivial⟩
   try simp only[Act.put,zA,zZ,zS]
   refine Ord.ch2_turn 1 af.o (by rfl) (by decide) (Or.inr ⟨_,rfl,by kernel_rfl⟩) (by rfl) (v:=.slice (some ⟨g,0,none⟩) (l.length+1) ga) ?_ ?_
   ·intro w5 hS hA;cases hA;refine Hh rfl iF.out (by rfl) (by rfl) ⟨DW.out.1,rfl⟩
   try simp only[Act.put,zA,zZ,zS]
   repeat (refine Ord.ch2_value (v:=?_) af.o (by decide) (by rfl) ?_ ?_;rotate_left;(intro w5 hS;skip;go_simp<;>rfl);(try simp only[Act.put,zA,zZ,zS]))
   refine Ord.ch2_turn 2 af.o (by rfl) (by decide) (Or.inr ⟨_,rfl,by kernel_rfl⟩) (by rfl) (v:=undef) ?_ ?_
   ·intro w5 hS hA;cases hA;obtain⟨-,r1,z1,gJ⟩:=DW.out;go_simp;exact⟨rfl,J9.out,rfl⟩
   try simp only[Act.put,zA,zZ,zS]
   refine Ord.InText.nil fun w5 hS=>?_;clear af;obtain⟨hC,hA⟩:=Ord.chain2_end hS;clear hS;cases hA;go_wp2_with fail
   go_end0
   obtain⟨qt,jW,lF,zV,rQ,tJ,iZ,Ka,fW,xf⟩:=xd.out;have e2:cM l (a,b,d) v=l++[((a,b,d),v)]:=by simpa [cM] using HG.out
   rw[e2,zT,List.length_append];refine⟨rfl,some ⟨g,0,none⟩,ga,rQ.set lH _,ownsRow_setCell_other qt (by simp[Value.ownBlock,tJ]) _,?_,fun k e=>?_⟩
   ·exact (((((cj.of_below Ka:cj (fun k=>k=u\/(Value.slice A l.length cap).ownBlock=some k) w wr).drew).alloc _).grown jW (fun k hk e=>.inr e)).setCell (p:=⟨u,o,none⟩) (fun _=>.inl rfl) _)
   ·rcases lF with h | h
    ·exact .inl (by rw[h];simpa [Value.ownBlock] using e)
    ·right
     have:k=g:=by simpa [Value.ownBlock,eq_comm] using e
     rw[this,h];simp;omega
theorem mM {u:Nat} {F:Nat->Prop} {l:List bT} {w:World} (a b d v:Int) (hl:l.length<=1000000) (hU:jt w u F l) :
  Calls prog 20 #[.pointer (some ⟨u,0,none⟩),.agg #[.int .i64 a,.int .i64 b,.int .i64 d],.int .u64 v] w fun e w'=>e=.returned (.tuple #[])/\∃ F',jt w' u F' (cM l (a,b,d) v)/\Step F F' w w':=by
 obtain⟨A,cap,hblk,cF,mL,hF⟩:=hU.full;refine (J4 a b d v hl hblk rfl cF mL).mono ?_;rintro e w' ⟨he,A',ga,h1,h2,h3,h4⟩;have hu:u < w.heap.size:=hblk.1;refine⟨he,fun k=>k=u\/(Value.slice A' (cM l (a,b,d) v).length ga).ownBlock=some k,⟨JW hU.nodup,_,h1,h2,fun e=>?_,fun k=>Iff.rfl⟩,h3.mono fun k _ e=>(hF k).2 e,fun k hk=>?_⟩
 ·rcases h4 u e with h | h
  ·exact mL h
  ·omega
 ·rcases hk with rfl | hk
  ·exact .inl ((hF _).2 (.inl rfl))
  ·rcases h4 k hk with h | h
   ·exact .inl ((hF _).2 (.inr h))
   ·exact .inr h
theorem jt.over {w w':World} {u:Nat} {F:Nat->Prop} {l:List bT} (h:jt w u F l) (hb:Below w.heap.size w w'):jt w' u F l:=(bP u F l).loc w w' h (fun k hk=>hb.block k (h.lt k hk)) hb.size
section
variable {w0 w w':World} {L:List Item} {u:Nat} {F F':Nat->Prop} {l l':List bT}
theorem Env.ref (h:Env w0 L w) (i:Nat) (hi:L[i]?=some (bP u F l)):jt w u F l:=h.get i hi
theorem Env.turnU (h:Env w0 L w) (i:Nat) (hi:L[i]?=some (bP u F l)) (hU:jt w' u F' l') (hs:Step F F' w w'):Env w0 (L.set i (bP u F' l')) w':=h.step i (bP u F' l') hi hs hU hU.lt
end
section
variable {w0 w w':World} {L L':List Item}
theorem Env.newU (h:Env w0 L w) (n:Nat) (hn:w.heap.size=n) (t:TypeId):Env w0 (bP n (fun k=>k=n) []::L) (w.alloc (.cells #[.slice none 0 0] t)):=by
 subst hn;refine h.add (bP w.heap.size (fun k=>k=w.heap.size) []) ((Below.refl _ _).alloc (Nat.le_refl _) _) ⟨List.nodup_nil,.slice none 0 0,ao.new 0 w _ t,⟨rfl,.inl ⟨rfl,rfl⟩⟩,by simp[Value.ownBlock],fun k=>by simp[Value.ownBlock]⟩ fun k hk=>?_;have hk:k=w.heap.size:=hk;subst hk;simp
end
end
section
open Go.RowKit
theorem DX (m:Bool) (s v:Int) (w:World) :
  Calls prog 86 #[.agg #[.bool m,.int .i64 s,.int .i64 v]] w fun e w'=>e=.returned (.bool (il s v))/\Below w.heap.size w w':=by
 by_cases h1:0<=s
 ·by_cases h2:s < 8388608
  ·by_cases h3:0<=v
   ·go_enter func86,ntmps86
    go_wp2
    go_ret;exact⟨ig (by rw[Bool.eq_iff_iff];simp[il];omega),(Below.refl _ _).alloc (Nat.le_refl _) _⟩
   ·have hd:decide (0<=v)=false:=by simpa using h3
    go_enter func86,ntmps86
    go_wp2
    go_ret;exact⟨ig (by simp[il];omega),(Below.refl _ _).alloc (Nat.le_refl _) _⟩
  ·have hd:decide (s < 8388608)=false:=by simpa using h2
   go_enter func86,ntmps86
   go_wp2
   go_ret;exact⟨ig (by simp[il];omega),(Below.refl _ _).alloc (Nat.le_refl _) _⟩
 ·have hd:decide (0<=s)=false:=by simpa using h1
  go_enter func86,ntmps86
  go_wp2
  go_ret;exact⟨ig (by simp[il];omega),(Below.refl _ _).alloc (Nat.le_refl _) _⟩
theorem xh (m:Bool) (s v:Int) (w:World) :
  Calls prog 58 #[.agg #[.bool m,.int .i64 s,.int .i64 v]] w fun e w'=>e=.returned (.int .u64 (aP m s v))/\Below w.heap.size w w':=by
 cases h:il s v
 ·have H:=zH h;clear h;go_enter func58,ntmps58;go_wp2_with fail;refine (DX m s v _).mono ?_;rintro e w1 ⟨rfl,hb⟩;rw[H.out];go_wp2_with fail;go_ret;exact⟨iA (zu H.out).symm,((Below.refl _ _).alloc (Nat.le_refl _) _).trans (hb.mono (by simp))⟩
 ·have hp:=u5 h;have H:=zH h;clear h;obtain⟨k0,k1,k2,k3⟩:=hp;go_enter func58,ntmps58;go_wp2_with fail;refine (DX m s v _).mono ?_;rintro e w1 ⟨rfl,hb⟩;obtain⟨d0,d1,d2,hB,hs⟩:=wP (n:=w.heap.size) (w:=w) (x:=.bool m) (y:=.int .i64 s) (z:=.int .i64 v) (by simp) (by simp) (by simp) ((Below.refl _ _).alloc (Nat.le_refl _) _) (by simp) hb;clear hb;rw[H.out];cases m
  ·have HW:=zH (tw (m:=false) H.out);go_wp2_with fail;go_ret;exact⟨iA (by rw[HW.out];simp[mI];omega),hB⟩
  ·have HW:=zH (tw (m:=true) H.out);go_wp2_with fail;go_ret;exact⟨iA (by rw[HW.out];simp[mI];omega),hB⟩
theorem zX (x:Int) (w:World) (h0:0<=x) (h1:x<=18446744073709551615) :
  Calls prog 85 #[.int .u64 x] w fun e w'=>e=.returned (.agg #[.bool (cO x),.int .i64 (aA x),.int .i64 (dr x)])/\Below w.heap.size w w':=by
 obtain⟨s0,s1⟩:=nV x;obtain⟨v0,v1⟩:=tu x;go_enter func85,ntmps85;go_wp2_with fail;exact bodyPost_ret (v:=.agg #[.bool (cO x),.int .i64 (aA x),.int .i64 (dr x)]) (by simp[results,results85,go_sem,cO,aA,dr]) rfl ⟨rfl,(Below.refl _ _).alloc (Nat.le_refl _) _⟩
end
section
open Go.RowKit Go.Maps
def bx (k s b h l e:Int) (A:Option Addr) (n c:Nat) (N hs r:Int):List Value:=[zI k,zI s,zI b,zI h,zI l,zI e,.slice A n c,zI N,zI hs,zI r]
theorem vi (w:World):Calls prog 21 #[] w fun e w'=>e=.returned (.agg #[zI 1,zI 0,zI 0])/\Below w.heap.size w w':=by
 go_enter func21,ntmps21
 go_wp2
 exact bodyPost_ret (v:=.agg #[zI 1,zI 0,zI 0]) (by simp[results,results21,go_sem]) rfl ⟨rfl,(Below.refl _ _).alloc (Nat.le_refl _) _⟩
section
variable {w0 w:World} {L:List Item} {u m n c:Nat} {F:Nat->Prop} {ml:List bT} {A:Option Addr} {k s b h l e N hs r:Int}
theorem DY (x:Int) (xi:ak ml (1,0,0)=x) (hx:aD x) (aQ:ml.length<=1000000) (i j:Nat) (hE:Env w0 L w) (hi:L[i]?=some (ae u (bx k s b h l e A n c N hs r))) (hj:L[j]?=some (bP m F ml)) :
  Calls prog 53 #[zP u,zP m] w fun o w'=>o=.returned (.tuple #[])/\Env w0 (L.set i (ae u (bx k s b h l (bg x) A n c N hs r))) w':=by
 have nG:i < L.length:=(List.getElem?_eq_some_iff.1 hi).1;unfold aD at hx;have hq:(x<=9223372036854775807/\bg x=x/\decide (x < 9223372036854775808)=true)\/(9223372036854775807 < x/\bg x=0/\decide (x < 9223372036854775808)=false):=by
  unfold bg
  by_cases h:x<=9223372036854775807
  ·left;refine⟨h,by rw[if_pos h],by simp;omega⟩
  ·right;refine⟨by omega,by rw[if_neg h],by simp;omega⟩
 generalize bg x=y at *;have HQ:=zH hq;have HX:=zH hx;clear hq hx;go_enter func53,ntmps53;go_wp2_with fail;refine (vi _).mono ?_;rintro o w1 ⟨rfl,hb⟩;replace hE:=hE.over hb;clear hb;go_wp2_with fail;refine (ju 1 0 0 aQ (hE.ref j hj)).mono ?_;rintro o w2 ⟨rfl,hb⟩;rw[xi];replace hE:=hE.over hb;clear hb;have rc:=hE.rule i hi;have ff:=hE.thaw i hi;have f5:=ff 5 (by simp[bx]);clear ff;unfold bx at rc
 rcases HQ.out with ⟨q0,q1,q2⟩ | ⟨q0,q1,q2⟩
 ·have hw:wrap64 x=x:=df _ (by have:=HX.out;omega);subst q1;clear HQ HX;go_wp2_with fail
  go_end0
  have ag:=hE.put i hi (j:=5) (by simp[bx]) (zI 0);have az:=ag.put i (by rw[List.getElem?_set_self nG]) (j:=5) (by simp[bx]) (zI y);rw[List.set_set] at az;exact⟨rfl,az⟩
 ·subst q1;clear HQ HX;go_wp2_with fail
  go_end0
  exact⟨rfl,hE.put i hi (j:=5) (by simp[bx]) (zI 0)⟩
end
section
variable {w:World} {u n c:Nat} {A:Option Addr} {k s b h l e N hs r:Int}
theorem Kb (hh:hs<=0) (hb:ao 0 w u (bx k s b h l e A n c N hs r)) :
  Calls prog 90 #[zP u] w fun o w'=>o=.returned (.tuple #[])/\w'=w:=by
 have r1:=hb.rule;unfold bx at r1;have hd:decide (0 < hs)=false:=by simpa using hh
 clear hb hh;go_enter func90,ntmps90
 go_wp2
 go_end0
 exact⟨rfl,rfl⟩
end
section
variable {w0 w:World} {L:List Item} {u c:Nat} {A:Option Addr} {lr:List bF} {k s b h l e N hs r:Int}
theorem Kc (hh:0 < hs) (i:Nat) (hl:lr.length<=1000000) (hN:0<=N/\N<=1099511627776) (hE:Env w0 L w) (hi:L[i]?=some (ae u (bx k s b h l e A lr.length c N hs r))) (hr:L[i+1]?=some (fx A c lr)) :
  Calls prog 90 #[zP u] w fun o w'=>o=.returned (.tuple #[])/\∃ A' c',Env w0 ((L.set i (ae u (bx k s b h l e A' (lr.length+1) c' (gN (gO N) (lr.length+1)) 0 r))).set (i+1) (fx A' c' (lr++[(hs,0,0)]))) w':=by
 have nG:i < L.length:=(List.getElem?_eq_some_iff.1 hi).1;have hd:decide (0 < hs)=true:=by simpa using hh
 have l3:Hid (∀ v,Env w0 L v->∀ z,v.cell? ⟨u,z,none⟩=(bx k s b h l e A lr.length c N hs r)[z]?):=zH fun v hv=>hv.rule i hi;unfold bx at l3;have Kd:Hid (∀ v,Env w0 L v->Calls prog 93 #[.pointer (some ⟨u,6,none⟩),.agg #[zI hs,zI 0,zI 0]] v fun o w'=>o=.returned (.tuple #[])/\∃ A' c',Env w0 ((L.set i (ae u (bx k s b h l e A' (lr.length+1) c' (gN (gO N) (lr.length+1)) hs r))).set (i+1) (fx A' c' (lr++[(hs,0,0)]))) w'):=zH fun v hv =>
  tH (vs:=bx k s b h l e A lr.length c N hs r) hs 0 0 6 i hv hi rfl rfl hr hl hN
 clear hh;generalize gN (gO N) (lr.length+1)=N1 at *;go_enter func90,ntmps90;have r0:=l3.out _ hE
 go_upto_region 1 with fail
 clear r0;refine Ord.wc [8] (fun w'=>w'.cell? ⟨u,8,none⟩=some (zI hs)) (Stage [Env w0 L,fun w'=>∃ A' c',Env w0 ((L.set i (ae u (bx k s b h l e A' (lr.length+1) c' N1 hs r))).set (i+1) (fx A' c' (lr++[(hs,0,0)]))) w']) (l3.out _ hE.drew 8) ⟨_,rfl,hE.drew⟩ fun af=>?_
 repeat ((first
  | (refine Ord.cv ?_ af.o ?_ ?_;rotate_left;(intro w5 hS;skip;go_simp<;>rfl))
  | (refine Ord.co af.o ?_));try simp only[Act.put,zA,zZ,zS])
 refine Ord.ch_turn (v:=.tuple #[]) 0 af.o rfl (by decide) (Or.inl rfl) (by rfl) ?_ ?_
 ·rintro w5 aN ⟨P5,cd,au⟩;cases cd;go_simp;simp only[Ord.LandsIn];refine (Kd.out _ au).mono ?_;rintro o w6 ⟨rfl,A6,c6,aq⟩;have zY:=aq.rule i (lY (b:=fx A6 c6 (lr++[(hs,0,0)])) (by omega) (by rw[List.getElem?_set_self nG])) 8;exact⟨rfl,zY,_,rfl,A6,c6,aq⟩
 try simp only[Act.put,zA,zZ,zS]
 refine Ord.InText.nil fun w5 hS=>?_;clear af;obtain⟨aL,ai⟩:=Ord.chain_end hS;clear hS;obtain⟨P9,dW,ai⟩:=ai;cases dW;obtain⟨A9,c9,bj⟩:=ai;have z6:((L.set i (ae u (bx k s b h l e A9 (lr.length+1) c9 N1 hs r))).set (i+1) (fx A9 c9 (lr++[(hs,0,0)])))[i]?=some (ae u (bx k s b h l e A9 (lr.length+1) c9 N1 hs r)):=lY (by omega) (by rw[List.getElem?_set_self nG]);have rc:=bj.rule i z6;unfold bx at rc;have ff:=bj.thaw i z6;have f8:=ff 8 (by simp[bx]);clear ff hE aL;go_wp2_with fail
 go_end0
 have iE:=bj.put i z6 (j:=8) (by simp[bx]) (zI 0);rw[List.set_comm _ _ (by omega),List.set_set] at iE;exact⟨rfl,A9,c9,iE⟩
end
theorem gI.tail {w:World} {b off:Nat} {x:bF} {t:List bF} (h:gI w (some ⟨b,off,none⟩) (x::t)):gI w (some ⟨b,off+3,none⟩) t:=by
 rcases h with h | ⟨b',rR,he,hl,hc⟩
 ·cases h
 ·cases he;refine .inr ⟨b,off+3,rfl,hl,fun i hi=>?_⟩;have:=hc (i+1) (by simp;omega);rw[show off+(i+1) * 3=off+3+i * 3 by omega] at this
  simpa using this
theorem DZ {w0 w:World} {L:List Item} {u c:Nat} {A:Option Addr} {t:List bF} {vs:List Value} (x y z:Int) (o i:Nat) (hE:Env w0 L w) (hu:L[i]?=some (ae u vs)) (fW:vs[o]?=some (.slice A (t.length+1) c)) (hr:L[i+1]?=some (fx A c ((x,y,z)::t))) (hl:t.length<=1000000) :
  Calls prog 62 #[.pointer (some ⟨u,o,none⟩)] w fun e w'=>e=.returned (.tuple #[tv (x,y,z),.bool true])/\∃ A' c',Env w0 ((L.set i (ae u (vs.set o (.slice A' t.length c')))).set (i+1) (fx A' c' t)) w':=by
 have nG:i < L.length:=(List.getElem?_eq_some_iff.1 hu).1;have lH:o < vs.length:=(List.getElem?_eq_some_iff.1 fW).1;have z7:t.length+1<=c:=by
  rcases (hE.row3 (i+1) hr).2 with ⟨_,h0⟩ | ⟨g,ga,cur,hv,_,hg,hn,hc,eO,jm⟩
  ·simp at h0
  ·simp only[Value.slice.injEq,List.length_cons] at hv;obtain⟨_,_,rfl⟩:=hv
   simpa using hn
 obtain⟨b,off,rfl⟩:∃ b off,A=some ⟨b,off,none⟩:=by
  rcases hE.cells3 (i+1) rfl hr with h | ⟨b,off,h,_⟩
  ·cases h
  ·exact⟨b,off,h⟩
 have ie:∀ w' M j,Env w0 M w'->M[j]?=some (fx (some ⟨b,off,none⟩) c ((x,y,z)::t))->w'.cell? ⟨b,off,none⟩=some (zI x)/\w'.cell? ⟨b,off+1,none⟩=some (zI y)/\w'.cell? ⟨b,off+2,none⟩=some (zI z):=fun w' M j h hj=>by
  rcases h.cells3 j rfl hj with h0 | ⟨b',rR,he,_,hc⟩
  ·cases h0
  ·cases he;have:=qa (hc 0 (by simp))
   simpa using this
 have ag:=hE.box w.heap.size rfl [zI 0,zI 0,zI 0] 98;have r:=(ag.rule (i+1) hu o).trans fW;obtain⟨c0,c1,c2⟩:=ie _ _ (i+2) ag hr;have xj:((t.length:Int)+1==0)=false:=by rw[beq_eq_false_iff_ne];omega
 clear hE;go_enter func62,ntmps62
 go_upto_region 4 with fail
 clear c0 c1 c2 r;have az:=ag.box (w.heap.size+1) (by simp) [zI x,zI y,zI z] 98;have bM:=az.addEmpty3 (w.heap.size+2) (by simp) 98;have r2:=(az.rule (i+2) hu o).trans fW;have r3:=(bM.rule (i+3) hu o).trans fW;have Aa:=(bM.cells3 (i+1+3) rfl hr).tail
 by_cases nZ:c=1
 ·subst nZ;obtain rfl:t=[]:=List.eq_nil_of_length_eq_zero (by omega);obtain⟨A9,c9,w9,cZ,bj⟩:=bM.append3' (A:=some ⟨b,off,none⟩) (xs:=[]) 0 rfl 74 74 Tryz.underlying74 vg 0 rfl (.inl rfl) (by simp);have iF:=zH cZ;have gk:Env w0 (fK (.slice A9 ([]:List bF).length c9) 98 []::ae (w.heap.size+1) [zI x,zI y,zI z]::ae w.heap.size [zI 0,zI 0,zI 0]::L) w9:=bj;clear ag az bM cZ bj ie Aa;have r9:=(gk.rule (i+3) hu o).trans fW;have f9:=gk.thaw (i+3) hu o lH;have q1:=gk.rule 1 rfl;have q2:=gk.rule 2 rfl;have g0:=gk.thaw 2 rfl 0 (by simp);have g1:=gk.thaw 2 rfl 1 (by simp);have g2:=gk.thaw 2 rfl 2 (by simp);have oN:=gk.boxLt 1 rfl;have nM:=gk.boxLt 2 rfl;have Ke:u≠w.heap.size+1:=fun e=>(gk.off (i:=i+3) (j:=1) hu rfl (by omega)) u rfl e;have qu:u≠w.heap.size:=fun e=>(gk.off (i:=i+3) (j:=2) hu rfl (by omega)) u rfl e;have Kf:w.heap.size≠u:=fun e=>qu e.symm;go_wp2_with (first | (at_builtin;refine oI rfl _ _ 74 rfl iF.out rfl rfl ?_));have iE:=gk.put (i+3) hu (j:=o) lH (.slice A9 0 c9);simp only[zS,zZ] at iE;have oX:=((iE.put 2 rfl (j:=0) (by simp) (zI x)).put 2 rfl (j:=1) (by simp) (zI y)).put 2 rfl (j:=2) (by simp) (zI z);have q9:=oX.rule 2 rfl;refine bodyPost_ret (v:=.tuple #[tv (x,y,z),.bool true]) (by simp[results,results62,go_sem,q9,tv]) rfl ⟨rfl,A9,c9,?_⟩;have oW:=oX.sub (L':=fK (.slice A9 ([]:List bF).length c9) 98 []::L.set i (ae u (vs.set o (.slice A9 ([]:List bF).length c9)))) (.cons_cons _ (.cons _ (.cons _ (List.Sublist.refl _))));exact oW.into (i+1)
 ·have o3:(c - 1=0)=False:=by simp;omega
  obtain⟨A9,c9,w9,cZ,bj⟩:=bM.append3' 0 rfl 74 74 Tryz.underlying74 vg (c - 1) rfl Aa (by simp;omega);have iF:=zH cZ;have gk:Env w0 (fK (.slice A9 (t:List bF).length c9) 98 t::ae (w.heap.size+1) [zI x,zI y,zI z]::ae w.heap.size [zI 0,zI 0,zI 0]::L) w9:=bj;clear ag az bM cZ bj ie Aa;have r9:=(gk.rule (i+3) hu o).trans fW;have f9:=gk.thaw (i+3) hu o lH;have q1:=gk.rule 1 rfl;have q2:=gk.rule 2 rfl;have g0:=gk.thaw 2 rfl 0 (by simp);have g1:=gk.thaw 2 rfl 1 (by simp);have g2:=gk.thaw 2 rfl 2 (by simp);have oN:=gk.boxLt 1 rfl;have nM:=gk.boxLt 2 rfl;have Ke:u≠w.heap.size+1:=fun e=>(gk.off (i:=i+3) (j:=1) hu rfl (by omega)) u rfl e;have qu:u≠w.heap.size:=fun e=>(gk.off (i:=i+3) (j:=2) hu rfl (by omega)) u rfl e;have Kf:w.heap.size≠u:=fun e=>qu e.symm;go_wp2_with (first | (at_builtin;refine oI rfl _ _ 74 rfl iF.out rfl rfl ?_));have iE:=gk.put (i+3) hu (j:=o) lH (.slice A9 t.length c9);simp only[zS,zZ] at iE;have oX:=((iE.put 2 rfl (j:=0) (by simp) (zI x)).put 2 rfl (j:=1) (by simp) (zI y)).put 2 rfl (j:=2) (by simp) (zI z);have q9:=oX.rule 2 rfl;refine bodyPost_ret (v:=.tuple #[tv (x,y,z),.bool true]) (by simp[results,results62,go_sem,q9,tv]) rfl ⟨rfl,A9,c9,?_⟩;have oW:=oX.sub (L':=fK (.slice A9 (t:List bF).length c9) 98 t::L.set i (ae u (vs.set o (.slice A9 (t:List bF).length c9)))) (.cons_cons _ (.cons _ (.cons _ (List.Sublist.refl _))));exact oW.into (i+1)
theorem jH (y z:Int) (w:World):Calls prog 57 #[.int .i64 y,.int .i64 z] w fun e w'=>e=.returned (.agg #[.int .i64 5,.int .i64 y,.int .i64 z])/\Below w.heap.size w w':=by
 go_enter func57,ntmps57
 go_wp2
 exact bodyPost_ret (v:=.agg #[.int .i64 5,.int .i64 y,.int .i64 z]) (by simp[results,results57,go_sem]) rfl ⟨rfl,(Below.refl _ _).alloc (Nat.le_refl _) _⟩
theorem Kg (v:World) (m:Bool) (s b:Int):(Instr.field 145 (.agg #[.bool m,.int .i64 s,.int .i64 b]) 1).run prog v=.ok (.int .i64 s) v:=by kernel_rfl
theorem iG (x:Int) (hx:aD x) (w:World):Calls prog 59 #[.int .u64 x] w fun e w'=>e=.returned (.int .i64 (aA x))/\Below w.heap.size w w':=by
 have h:=Kg;have hr:=zX x w hx.1 hx.2;obtain⟨s,hs⟩:∃ s,aA x=s:=⟨_,rfl⟩;rw[hs] at hr ⊢;have HR:=zH hr;clear hx hr hs;go_enter func59,ntmps59;go_wp2_with fail;refine HR.out.mono ?_;rintro e w1 ⟨rfl,hb⟩;go_wp2_with fail;go_ret;exact⟨rfl,hb⟩
theorem tK (w:World):Calls prog 55 #[] w fun e w'=>e=.returned (.agg #[zI 2,zI 0,zI 0])/\Below w.heap.size w w':=by
 go_enter func55,ntmps55
 go_wp2
 exact bodyPost_ret (v:=.agg #[zI 2,zI 0,zI 0]) (by simp[results,results55,go_sem]) rfl ⟨rfl,(Below.refl _ _).alloc (Nat.le_refl _) _⟩
theorem xk (w:World):Calls prog 92 #[] w fun e w'=>e=.returned (.agg #[zI 3,zI 0,zI 0])/\Below w.heap.size w w':=by
 go_enter func92,ntmps92
 go_wp2
 exact bodyPost_ret (v:=.agg #[zI 3,zI 0,zI 0]) (by simp[results,results92,go_sem]) rfl ⟨rfl,(Below.refl _ _).alloc (Nat.le_refl _) _⟩
theorem Kh (v:World) (m:Bool) (s b:Int):(Instr.field 145 (.agg #[.bool m,zI s,zI b]) 2).run prog v=.ok (zI b) v:=by kernel_rfl
theorem xl (x:Int) (hx:aD x) (w:World):Calls prog 56 #[zU x] w fun e w'=>e=.returned (zI (dr x))/\Below w.heap.size w w':=by
 have h:=Kh;have hr:=zX x w hx.1 hx.2;obtain⟨s,hs⟩:∃ s,dr x=s:=⟨_,rfl⟩;rw[hs] at hr ⊢;have HR:=zH hr;clear hx hr hs;go_enter func56,ntmps56;go_wp2_with fail;refine HR.out.mono ?_;rintro e w1 ⟨rfl,hb⟩;go_wp2_with fail;go_ret;exact⟨rfl,hb⟩
theorem xm (x s:Int) (hx:aD x) (w:World):Calls prog 61 #[zU x,zI s] w fun e w'=>e=.returned (zU (aP false s (dr x+1)))/\Below w.heap.size w w':=by
 have hv:=tu x;have hw:wrap64 (dr x+1)=dr x+1:=df _ (by omega);have HR:=zH (fun (v:World)=>xl x hx v);have jX:=fun (v:World)=>xh false s (dr x+1) v;have hr:=fun (v:World)=>xl x hx v;clear HR hv hx;obtain⟨y,hy⟩:∃ y,dr x=y:=⟨_,rfl⟩;simp only[hy] at hr jX hw ⊢;obtain⟨z,hz⟩:∃ z,aP false s (y+1)=z:=⟨_,rfl⟩;simp only[hz] at jX ⊢;have HR:=zH hr;have vj:=zH jX;clear hr jX hy hz;go_enter func61,ntmps61;go_wp2_with fail;refine (HR.out _).mono ?_;rintro e w1 ⟨rfl,hb⟩;go_wp2_with fail;refine (vj.out _).mono ?_;rintro e w2 ⟨rfl,eg⟩;go_wp2_with fail;go_ret;exact⟨rfl,hb.trans (eg.mono hb.size)⟩
structure SU where
 (u m:Nat)
 (ck cs cb ch cl ce hs ro N:Int)
 (A:Option Addr)
 (c:Nat)
 (ql:List bF)
 (F:Nat->Prop)
 (ml:List bT)
def LU (U:SU) (R:List Item):List Item:=ae U.u (bx U.ck U.cs U.cb U.ch U.cl U.ce U.A U.ql.length U.c U.N U.hs U.ro)::fx U.A U.c U.ql::bP U.m U.F U.ml::R
def aM (pc h n r:Int):List Value:=[zI pc,zU h,zU n,zU r]
section
variable {w0 w:World} {R:List Item} {b:Nat} {U:SU} {pc h n r:Int}
theorem xn {L:List Item} {A:Option Addr} {c:Nat} {x y z:Int} {t:List bF} (i:Nat) (hi:L[i]?=some (fx A c ((x,y,z)::t))) (hE:Env w0 L w):∃ g off,A=some ⟨g,off,none⟩/\∀ v,Env w0 L v->v.cell? ⟨g,off,none⟩=some (zI x)/\v.cell? ⟨g,off+1,none⟩=some (zI y)/\v.cell? ⟨g,off+2,none⟩=some (zI z):=by
 obtain⟨g,off,rfl⟩:∃ b off,A=some ⟨b,off,none⟩:=by
  rcases hE.cells3 i rfl hi with h | ⟨b,off,h,_⟩
  ·cases h
  ·exact⟨b,off,h⟩
 refine⟨g,off,rfl,fun v hv=>?_⟩
 rcases hv.cells3 i rfl hi with h0 | ⟨b',rR,he,_,hc⟩
 ·cases h0
 ·cases he;have:=qa (hc 0 (by simp))
  simpa using this
theorem vk (hE:Env w0 (ae b (aM pc h n r)::LU U R) w) :
  Calls prog 91 #[zP b,zP U.u] w fun o w'=>o=.returned (zI (dI U.ql U.ce U.cl))/\∃ eS:Int,(bk U.ql U.ce U.cl≠0->eS=((bk U.ql U.ce U.cl:Nat):Int))/\Env w0 (ae b (aM eS h n r)::LU U R) w':=by
 have rb:=hE.rule 0 rfl;have ru:=hE.rule 1 rfl;have f0:=hE.thaw 0 rfl 0 (by simp[aM]);unfold aM at rb;unfold bx at ru;have hP:=fun v=>hE.put 0 rfl (j:=0) (by simp[aM]) v
 rcases hq:U.ql with _ | ⟨⟨x,y,z⟩,t⟩
 ·simp only[hq,List.length_nil] at ru;have HQ:=zH hq;clear hq;go_enter func91,ntmps91;go_wp2_with fail;go_ret;exact⟨rfl,2,fun _=>rfl,hP _⟩
 ·have hr:(ae b (aM pc h n r)::LU U R)[2]?=some (fx U.A U.c ((x,y,z)::t)):=by rw[<- hq];rfl
  obtain⟨g,off,hA,hc⟩:=xn 2 hr hE;simp only[hq,hA] at ru;have tL:∀ v,Env w0 (ae b (aM pc h n r)::LU U R) v->∀ j,v.cell? ⟨U.u,j,none⟩=[zI U.ck,zI U.cs,zI U.cb,zI U.ch,zI U.cl,zI U.ce,.slice (some ⟨g,off,none⟩) ((x,y,z)::t).length U.c,zI U.N,zI U.hs,zI U.ro][j]?:=fun v hv j=>by
   have:=hv.rule 1 rfl j;unfold bx at this;simp only[hq,hA] at this;exact this
  have aE:decide ((0:Int) < ((((x,y,z)::t).length:Nat):Int))=true:=by simp
  have nL:0 < ((x,y,z)::t).length:=by simp
  have bu:(((x,y,z)::t).length=0)=False:=by simp
  have hle:((((x,y,z)::t).length:Int)==0)=false:=by simp;omega
  generalize ((x,y,z)::t).length=N at *;have HC:=zH hc;have og:=zH tL;have HQ:=zH hq;clear hc tL hq hr hA
  by_cases hy:y < U.ce
  ·have fz:Hid (bk ((x,y,z)::t) U.ce U.cl=10):=zH (by simp[bk,hy]);have zF:decide (y < U.ce)=true:=by simpa using hy
   clear hy;go_enter func91,ntmps91;go_wp2_with fail;refine cG (S:=(Env w0 (ae b (aM pc h n r)::LU U R))) (by kernel_rfl) (by kernel_rfl) hE.drew (fun hT=>?_);have af:=zH hT;clear hT
   repeat ((first
    | (refine cH (v:=?_) af.o (by rfl) ?_ ?_;rotate_left;(intro w5 hS;have ru:=og.out _ hS;obtain⟨c0,c1,c2⟩:=HC.out _ hS;go_simp<;>rfl))
    | (refine cI af.o (by rfl) ?_)
    | (refine cJ (v:=?_) (f:=?_) (args:=?_) af.o (by rfl) ?_ ?_ ?_;rotate_left 3;(intro w5 hS;have ru:=og.out _ hS;obtain⟨c0,c1,c2⟩:=HC.out _ hS;go_simp;constructor<;>rfl);(intro w5 hS;(first | fail))));try simp only[Act.put,zA,zZ,zS])
   refine InText.nil fun w5 aK=>?_;clear af;clear ru hE hP f0 rb;have rb:=aK.rule 0 rfl;unfold aM at rb;have f0:=aK.thaw 0 rfl 0 (by simp[aM]);have hP:=fun v=>aK.put 0 rfl (j:=0) (by simp[aM]) v;go_wp2_with fail;go_ret;unfold dI;rw[fz.out];exact⟨rfl,10,fun _=>rfl,hP _⟩
  ·have zF:decide (y < U.ce)=false:=by simpa using hy
   by_cases hl:U.cl<=U.ce
   ·have fz:Hid (bk ((x,y,z)::t) U.ce U.cl=0):=zH (by simp only[bk];rw[if_neg hy,if_pos hl]);have oV:decide (U.cl<=U.ce)=true:=by simpa using hl
    clear hy hl;go_enter func91,ntmps91;go_wp2_with fail;refine cG (S:=(Env w0 (ae b (aM pc h n r)::LU U R))) (by kernel_rfl) (by kernel_rfl) hE.drew (fun hT=>?_);have af:=zH hT;clear hT
    repeat ((first
     | (refine cH (v:=?_) af.o (by rfl) ?_ ?_;rotate_left;(intro w5 hS;have ru:=og.out _ hS;obtain⟨c0,c1,c2⟩:=HC.out _ hS;go_simp<;>rfl))
     | (refine cI af.o (by rfl) ?_)
     | (refine cJ (v:=?_) (f:=?_) (args:=?_) af.o (by rfl) ?_ ?_ ?_;rotate_left 3;(intro w5 hS;have ru:=og.out _ hS;obtain⟨c0,c1,c2⟩:=HC.out _ hS;go_simp;constructor<;>rfl);(intro w5 hS;(first | fail))));try simp only[Act.put,zA,zZ,zS])
    refine InText.nil fun w5 aK=>?_;clear af;clear ru hE hP f0 rb;go_wp2_with fail;refine cG (S:=(Env w0 (ae b (aM pc h n r)::LU U R))) (by kernel_rfl) (by kernel_rfl) aK.drew (fun hT=>?_);have af:=zH hT;clear hT
    repeat ((first
     | (refine cH (v:=?_) af.o (by rfl) ?_ ?_;rotate_left;(intro w5 hS;have ru:=og.out _ hS;go_simp<;>rfl))
     | (refine cI af.o (by rfl) ?_)
     | (refine cJ (v:=?_) (f:=?_) (args:=?_) af.o (by rfl) ?_ ?_ ?_;rotate_left 3;(intro w5 hS;have ru:=og.out _ hS;go_simp;constructor<;>rfl);(intro w5 hS;(first | fail))));try simp only[Act.put,zA,zZ,zS])
    refine InText.nil fun w5 aK=>?_;clear af;go_wp2_with fail;go_ret;unfold dI;rw[fz.out];exact⟨rfl,pc,fun h=>absurd rfl h,(by assumption)⟩
   ·have fz:Hid (bk ((x,y,z)::t) U.ce U.cl=1):=zH (by simp only[bk];rw[if_neg hy,if_neg hl]);have oV:decide (U.cl<=U.ce)=false:=by simpa using hl
    clear hy hl;go_enter func91,ntmps91;go_wp2_with fail;refine cG (S:=(Env w0 (ae b (aM pc h n r)::LU U R))) (by kernel_rfl) (by kernel_rfl) hE.drew (fun hT=>?_);have af:=zH hT;clear hT
    repeat ((first
     | (refine cH (v:=?_) af.o (by rfl) ?_ ?_;rotate_left;(intro w5 hS;have ru:=og.out _ hS;obtain⟨c0,c1,c2⟩:=HC.out _ hS;go_simp<;>rfl))
     | (refine cI af.o (by rfl) ?_)
     | (refine cJ (v:=?_) (f:=?_) (args:=?_) af.o (by rfl) ?_ ?_ ?_;rotate_left 3;(intro w5 hS;have ru:=og.out _ hS;obtain⟨c0,c1,c2⟩:=HC.out _ hS;go_simp;constructor<;>rfl);(intro w5 hS;(first | fail))));try simp only[Act.put,zA,zZ,zS])
    refine InText.nil fun w5 aK=>?_;clear af;clear ru hE hP f0 rb;go_wp2_with fail;have D1:=aK;clear aK;refine cG (S:=(Env w0 (ae b (aM pc h n r)::LU U R))) (by kernel_rfl) (by kernel_rfl) D1.drew (fun hT=>?_);have af:=zH hT;clear hT
    repeat ((first
     | (refine cH (v:=?_) af.o (by rfl) ?_ ?_;rotate_left;(intro w5 hS;have ru:=og.out _ hS;go_simp<;>rfl))
     | (refine cI af.o (by rfl) ?_)
     | (refine cJ (v:=?_) (f:=?_) (args:=?_) af.o (by rfl) ?_ ?_ ?_;rotate_left 3;(intro w5 hS;have ru:=og.out _ hS;go_simp;constructor<;>rfl);(intro w5 hS;(first | fail))));try simp only[Act.put,zA,zZ,zS])
    refine InText.nil fun w5 aK=>?_;clear af;clear D1;have rb:=aK.rule 0 rfl;unfold aM at rb;have f0:=aK.thaw 0 rfl 0 (by simp[aM]);have hP:=fun v=>aK.put 0 rfl (j:=0) (by simp[aM]) v;go_wp2_with fail;go_ret;unfold dI;rw[fz.out];exact⟨rfl,1,fun _=>rfl,hP _⟩
end
def dw (l:List bT) (x:aI) (o v:Int):List bT:=if ak l x=o then cM l x v else l
theorem kz {u:Nat} {F:Nat->Prop} {l:List bT} {w:World} (a b d o v:Int) (hl:l.length<=1000000) (hU:jt w u F l) :
  Calls prog 60 #[.pointer (some ⟨u,0,none⟩),.agg #[.int .i64 a,.int .i64 b,.int .i64 d],.int .u64 o,.int .u64 v] w fun e w'=>e=.returned (.bool (decide (ak l (a,b,d)=o)))/\∃ F',jt w' u F' (dw l (a,b,d) o v)/\Step F F' w w':=by
 have hE:=(Fr.start w).push w.heap.size rfl [.int .i64 a,.int .i64 b,.int .i64 d] 72;have r:=hE.rule 0 rfl;have HU:=zH hU;go_enter func60,ntmps60;go_wp2_with fail;refine (ju a b d hl (HU.out.over hE.below)).mono ?_;rintro e w1 ⟨rfl,hb⟩;replace hE:=hE.over hb;have jb:=hE.below;clear hb r
 by_cases hg:ak l (a,b,d)=o
 ·have r:=hE.rule 0 rfl;have vl:decide (ak l (a,b,d)=o)=true:=by simp[hg]
  go_wp2_with fail;refine (mM a b d v hl (HU.out.over jb)).mono ?_;rintro e w2 ⟨rfl,F',Ki,hs⟩
  go_wp2
  go_ret;exact⟨by rw[vl];rfl,F',by rw[dw,if_pos hg];exact Ki,(Step.of_below F jb).trans hs⟩
 ·have r:=hE.rule 0 rfl;have vl:decide (ak l (a,b,d)=o)=false:=by simp[hg]
  go_wp2_with fail;go_ret;exact⟨by rw[vl];rfl,F,by rw[dw,if_neg hg];exact HU.out.over jb,Step.of_below F jb⟩
section
variable {w0 w:World} {R:List Item} {b:Nat} {U:SU} {pc h n r ok key val lv:Int}
theorem Kj (he:0<=U.ce/\U.ce<=9223372036854775807) (aQ:U.ml.length<=1000000) (hh:aD h) (hE:Env w0 (ae b (aM 1 h n r)::LU U R) w) :
  Calls prog 67 #[zP b,zP U.u,zP U.m,.agg #[zI ok,zU key,zU val,zI lv]] w fun o w'=>o=.returned (zI 2)/\∃ F5,Env w0 (ae b (aM 1 h n r)::LU { U with F:=F5,ml:=dw U.ml (1,0,0) U.ce (U.ce+1) } R) w':=by
 have ij:IntKind.u64.wrap U.ce=U.ce:=mK _ (by omega) (by omega);have gd:IntKind.u64.wrap (U.ce+1)=U.ce+1:=mK _ (by omega) (by omega);clear he;have ag:=(hE.box w.heap.size rfl [zI ok,zU key,zU val,zI lv] 55).perm (L':=ae b (aM 1 h n r)::LU U (ae w.heap.size [zI ok,zU key,zU val,zI lv]::R)) (List.perm_middle (l₁:=[ae b (aM 1 h n r),_,_,_])).symm;have rb:=ag.rule 0 rfl;unfold aM at rb;have jc:=zH (fun (v:World)=>iG h hh v);clear hE;go_enter func67,ntmps67;go_wp2_with fail;generalize w.alloc _=w1 at *;generalize w.heap.size=O at *;refine (jc.out _).mono ?_;rintro o w2 ⟨rfl,hb⟩;replace ag:=ag.over hb;clear hb rb;have rb:=ag.rule 0 rfl;unfold aM at rb;go_wp2_with fail;refine Ord.wc [13] (fun v=>ao 0 v U.u (bx U.ck U.cs U.cb U.ch U.cl U.ce U.A U.ql.length U.c U.N U.hs U.ro)) (fun k w'=>∃ F5,Env w0 (ae b (aM 1 h n r)::LU (if k=0 then U else { U with F:=F5,ml:=dw U.ml (1,0,0) U.ce (U.ce+1) }) (ae O [zI ok,zU key,zU val,zI lv]::R)) w') (ag.drew.get 1 rfl) ⟨U.F,ag.drew⟩ fun af=>?_
 repeat ((first
  | (refine Ord.cv ?_ af.o ?_ ?_;rotate_left;(intro w5 hS;have r9:=hS.rule;unfold bx at r9;go_simp<;>rfl))
  | (refine Ord.co af.o ?_)
  | (refine Ord.cc ?_ ?_ ?_ af.o ?_ ?_ ?_;rotate_left 3;(intro w5 hS;have r9:=hS.rule;unfold bx at r9;go_simp;constructor<;>rfl);(intro w5 hS;(first | (with_reducible refine kp (vi _) ?_ ?_;rfl;exact fun w6 aj=>⟨hS.under aj,fun k h=>h.elim fun F5 h=>⟨F5,h.over aj⟩⟩)))));try simp only[Act.put,zA,zZ,zS])
 refine Ord.ch_turn (v:=.bool (decide (ak U.ml (1,0,0)=U.ce))) 0 af.o rfl (by decide) (Or.inl rfl) (by rfl) ?_ ?_
 ·rintro w5 aN ⟨F5,au⟩;simp only[if_true] at au;go_simp;simp only[Ord.LandsIn];refine (kz 1 0 0 U.ce (U.ce+1) aQ (au.ref 3 rfl)).mono ?_;rintro e w6 ⟨rfl,F6,hU,hs⟩;have aq:=au.turnU 3 rfl hU hs;exact⟨rfl,aq.get 1 rfl,F6,aq⟩
 try simp only[Act.put,zA,zZ,zS]
 repeat ((first
  | (refine Ord.cv ?_ af.o ?_ ?_;rotate_left;(intro w5 hS;skip;go_simp<;>rfl))
  | (refine Ord.co af.o ?_));try simp only[Act.put,zA,zZ,zS])
 refine Ord.InText.nil fun w5 hS=>?_;clear af;obtain⟨aL,ai⟩:=Ord.chain_end hS;clear hS;obtain⟨F9,ai⟩:=ai;simp only[List.length_cons,List.length_nil,Nat.zero_add,Nat.one_ne_zero,if_false] at ai;go_wp2_with fail;go_ret;exact⟨rfl,F9,ai.sub (.cons_cons _ (.cons_cons _ (.cons_cons _ (.cons_cons _ (.cons _ (List.Sublist.refl _))))))⟩
theorem Kk (x:Int) (br:ak U.ml (3,0,0)=x) (aQ:U.ml.length<=999999) (h0:0<=x) (hx:U.cs<=x) (eO:0<=U.cs/\U.cs<=9223372036854775806) (hh:aD h) (hE:Env w0 (ae b (aM 2 h n r)::LU U R) w) :
  Calls prog 67 #[zP b,zP U.u,zP U.m,.agg #[zI ok,zU key,zU val,zI lv]] w fun o w'=>o=.returned (zI 0)/\∃ F5,Env w0 (ae b (aM 3 h n r)::LU { U with F:=F5,ml:=cM U.ml (3,0,0) (IntKind.u64.wrap (x+1)) } R) w':=by
 have ij:IntKind.u64.wrap U.cs=U.cs:=mK _ (by omega) (by omega);have hd:decide (U.cs<=x)=true:=by simpa using hx
 have HX:=zH br;clear h0 hx eO br;have ag:=(hE.box w.heap.size rfl [zI ok,zU key,zU val,zI lv] 55).perm (L':=ae b (aM 2 h n r)::LU U (ae w.heap.size [zI ok,zU key,zU val,zI lv]::R)) (List.perm_middle (l₁:=[ae b (aM 2 h n r),_,_,_])).symm;have rb:=ag.rule 0 rfl;unfold aM at rb;have jc:=zH (fun (v:World)=>iG h hh v);clear hE;go_enter func67,ntmps67;go_wp2_with fail;generalize w.alloc _=w1 at *;generalize w.heap.size=O at *;refine (jc.out _).mono ?_;rintro o w2 ⟨rfl,hb⟩;replace ag:=ag.over hb;clear hb rb;have rb:=ag.rule 0 rfl;unfold aM at rb;go_wp2_with fail;refine (xk _).mono ?_;rintro o w3 ⟨rfl,hb⟩;replace ag:=ag.over hb;clear hb rb;have rb:=ag.rule 0 rfl;unfold aM at rb;go_wp2_with fail;refine (ju 3 0 0 (Nat.le_trans aQ (by decide)) (ag.ref 3 rfl)).mono ?_;rintro o w4 ⟨rfl,hb⟩;rw[HX.out];replace ag:=ag.over hb;clear hb rb;have rb:=ag.rule 0 rfl;unfold aM at rb;go_wp2_with fail;refine (xk _).mono ?_;rintro o w5 ⟨rfl,hb⟩;replace ag:=ag.over hb;clear hb rb;have rb:=ag.rule 0 rfl;unfold aM at rb;go_wp2_with fail;refine (mM 3 0 0 _ (Nat.le_trans aQ (by decide)) (ag.ref 3 rfl)).mono ?_;rintro o w6 ⟨rfl,F6,hU,hs⟩;have az:Env w0 (ae b (aM 2 h n r)::LU { U with F:=F6,ml:=cM U.ml (3,0,0) (IntKind.u64.wrap (x+1)) } (ae O [zI ok,zU key,zU val,zI lv]::R)) w6:=ag.turnU 3 rfl hU hs;clear ag hU hs rb;have rb:=az.rule 0 rfl;unfold aM at rb;have ru:=az.rule 1 rfl;unfold bx at ru;have f0:=az.thaw 0 rfl 0 (by simp[aM]);have hP:=az.put 0 rfl (j:=0) (by simp[aM]) (zI 3);go_wp2_with fail;go_ret;exact⟨rfl,F6,hP.sub (.cons_cons _ (.cons_cons _ (.cons_cons _ (.cons_cons _ (.cons _ (List.Sublist.refl _))))))⟩
theorem Kl (x:Int) (br:ak U.ml (3,0,0)=x) (aQ:U.ml.length<=999999) (h0:0<=x) (hx:x < U.cs) (eO:U.cs<=9223372036854775806) (hl:U.ql.length<=1000000) (hN:0<=U.N/\U.N<=1099511627776) (hh:aD h) (hE:Env w0 (ae b (aM 2 h n r)::LU U R) w) :
  Calls prog 67 #[zP b,zP U.u,zP U.m,.agg #[zI ok,zU key,zU val,zI lv]] w fun o w'=>o=.returned (zI (dI (U.ql++[(x+1,0,0)]) U.ce U.cl))/\∃ eS:Int,∃ F5 A' c',(bk (U.ql++[(x+1,0,0)]) U.ce U.cl≠0->eS=((bk (U.ql++[(x+1,0,0)]) U.ce U.cl:Nat):Int))/\Env w0 (ae b (aM eS h n r)::LU { U with F:=F5,ml:=cM U.ml (3,0,0) (IntKind.u64.wrap (x+1)),A:=A',c:=c',N:=gN (gO U.N) (U.ql.length+1),ql:=U.ql++[(x+1,0,0)] } R) w':=by
 have ij:IntKind.u64.wrap U.cs=U.cs:=mK _ (by omega) (by omega);have hd:decide (U.cs<=x)=false:=by simp;omega
 have gd:wrap64 x=x:=df _ (by omega);have tD:wrap64 (x+1)=x+1:=df _ (by omega);have HX:=zH br;clear h0 hx eO br;have ag:=(hE.box w.heap.size rfl [zI ok,zU key,zU val,zI lv] 55).perm (L':=ae b (aM 2 h n r)::LU U (ae w.heap.size [zI ok,zU key,zU val,zI lv]::R)) (List.perm_middle (l₁:=[ae b (aM 2 h n r),_,_,_])).symm;have rb:=ag.rule 0 rfl;unfold aM at rb;have jc:=zH (fun (v:World)=>iG h hh v);clear hE;go_enter func67,ntmps67;go_wp2_with fail;generalize w.alloc _=w1 at *;generalize w.heap.size=O at *;refine (jc.out _).mono ?_;rintro o w2 ⟨rfl,hb⟩;replace ag:=ag.over hb;clear hb rb;have rb:=ag.rule 0 rfl;unfold aM at rb;go_wp2_with fail;refine (xk _).mono ?_;rintro o w3 ⟨rfl,hb⟩;replace ag:=ag.over hb;clear hb rb;have rb:=ag.rule 0 rfl;unfold aM at rb;go_wp2_with fail;refine (ju 3 0 0 (Nat.le_trans aQ (by decide)) (ag.ref 3 rfl)).mono ?_;rintro o w4 ⟨rfl,hb⟩;rw[HX.out];replace ag:=ag.over hb;clear hb rb;have rb:=ag.rule 0 rfl;unfold aM at rb;go_wp2_with fail;refine (xk _).mono ?_;rintro o w5 ⟨rfl,hb⟩;replace ag:=ag.over hb;clear hb rb;have rb:=ag.rule 0 rfl;unfold aM at rb;go_wp2_with fail;refine (mM 3 0 0 _ (Nat.le_trans aQ (by decide)) (ag.ref 3 rfl)).mono ?_;rintro o w6 ⟨rfl,F6,hU,hs⟩;have az:Env w0 (ae b (aM 2 h n r)::LU { U with F:=F6,ml:=cM U.ml (3,0,0) (IntKind.u64.wrap (x+1)) } (ae O [zI ok,zU key,zU val,zI lv]::R)) w6:=ag.turnU 3 rfl hU hs;clear ag hU hs rb;have rb:=az.rule 0 rfl;unfold aM at rb;have ru:=az.rule 1 rfl;unfold bx at ru;have f0:=az.thaw 0 rfl 0 (by simp[aM]);go_wp2_with fail;refine (tH (x+1) 0 0 6 1 az rfl rfl rfl rfl hl hN).mono ?_;rintro o w7 ⟨rfl,A7,c7,aO⟩;have bn:Env w0 (ae b (aM 2 h n r)::LU { U with F:=F6,ml:=cM U.ml (3,0,0) (IntKind.u64.wrap (x+1)),A:=A7,c:=c7,N:=gN (gO U.N) (U.ql.length+1),ql:=U.ql++[(x+1,0,0)] } (ae O [zI ok,zU key,zU val,zI lv]::R)) w7:=by
  have hq:(U.ql++[(x+1,(0:Int),(0:Int))]).length=U.ql.length+1:=by simp
  unfold LU;rw[hq];exact aO
 clear az aO rb ru f0;go_wp2_with fail;refine (vk bn).mono ?_;rintro o w8 ⟨rfl,vn,ax,bj⟩;go_wp2_with fail;go_ret;exact⟨rfl,vn,F6,A7,c7,ax,bj.sub (.cons_cons _ (.cons_cons _ (.cons_cons _ (.cons_cons _ (.cons _ (List.Sublist.refl _))))))⟩
theorem Km (x:Int) (br:ak U.ml (2,0,0)=x) (eA:aD x) (aQ:U.ml.length<=1000000) (hh:aD h) (hE:Env w0 (ae b (aM 3 h n r)::LU U R) w) :
  Calls prog 67 #[zP b,zP U.u,zP U.m,.agg #[zI ok,zU key,zU val,zI lv]] w fun o w'=>o=.returned (zI (gC x U.cl))/\∃ eS,(gC x U.cl=0->eS=4)/\Env w0 (ae b (aM eS x n r)::LU U R) w':=by
 have HX:=zH br;have Kn:=zH (fun (v:World)=>iG x eA v);have xo:=zH (fun (v:World)=>xl x eA v);clear br eA;have ag:=(hE.box w.heap.size rfl [zI ok,zU key,zU val,zI lv] 55).perm (L':=ae b (aM 3 h n r)::LU U (ae w.heap.size [zI ok,zU key,zU val,zI lv]::R)) (List.perm_middle (l₁:=[ae b (aM 3 h n r),_,_,_])).symm;have rb:=ag.rule 0 rfl;unfold aM at rb;have jc:=zH (fun (v:World)=>iG h hh v);clear hE;go_enter func67,ntmps67;go_wp2_with fail;generalize w.alloc _=w1 at *;generalize w.heap.size=O at *;refine (jc.out _).mono ?_;rintro o w2 ⟨rfl,hb⟩;replace ag:=ag.over hb;clear hb rb;have rb:=ag.rule 0 rfl;unfold aM at rb;go_wp2_with fail;refine (tK _).mono ?_;rintro o w3 ⟨rfl,hb⟩;replace ag:=ag.over hb;clear hb rb;have rb:=ag.rule 0 rfl;unfold aM at rb;go_wp2_with fail;refine (ju 2 0 0 aQ (ag.ref 3 rfl)).mono ?_;rintro o w4 ⟨rfl,hb⟩;rw[HX.out];replace ag:=ag.over hb;clear hb rb;have rb:=ag.rule 0 rfl;unfold aM at rb;have f1:=ag.thaw 0 rfl 1 (by simp[aM]);have az:Env w0 (ae b (aM 3 x n r)::LU U (ae O [zI ok,zU key,zU val,zI lv]::R)) (w4.setCell ⟨b,1,none⟩ (zU x)):=ag.put 0 rfl (j:=1) (by simp[aM]) (zU x);go_wp2_with fail;clear rb f1 ag;generalize w4.setCell _ _=w9 at *;refine (Kn.out _).mono ?_;rintro o w5 ⟨rfl,hb⟩;replace az:=az.over hb;clear hb
 by_cases hs:aA x=0
 ·have HP:=zH (show gC x U.cl=3 from if_pos hs);have tE:(aA x==0)=true:=by simpa using hs
  clear hs;go_wp2_with fail;go_ret;rw[HP.out];exact⟨rfl,3,fun h=>absurd h (by decide),az.sub (.cons_cons _ (.cons_cons _ (.cons_cons _ (.cons_cons _ (.cons _ (List.Sublist.refl _))))))⟩
 ·have tE:(aA x==0)=false:=by simpa using hs
  have HS:=zH hs;obtain⟨y,hy⟩:∃ y,dr x=y:=⟨_,rfl⟩;have rS:=xo.out;simp only[hy] at rS;have D2:=zH rS;have HY:=zH hy;clear hs rS hy xo
  by_cases hv:U.cl<=y
  ·have HP:=zH (show gC x U.cl=4 by unfold gC;rw[if_neg HS.out,HY.out,if_pos hv]);have Ab:decide (U.cl<=y)=true:=by simpa using hv
   clear hv;go_wp2_with fail;refine cG (S:=(Env w0 (ae b (aM 3 x n r)::LU U (ae O [zI ok,zU key,zU val,zI lv]::R)))) (by kernel_rfl) (by kernel_rfl) az.drew (fun hT=>?_);have af:=zH hT;clear hT
   repeat ((first
    | (refine cH (v:=?_) af.o (by rfl) ?_ ?_;rotate_left;(intro w5 hS;have rb:=hS.rule 0 rfl;unfold aM at rb;have ru:=hS.rule 1 rfl;unfold bx at ru;go_simp<;>rfl))
    | (refine cI af.o (by rfl) ?_)
    | (refine cJ (v:=?_) (f:=?_) (args:=?_) af.o (by rfl) ?_ ?_ ?_;rotate_left 3;(intro w5 hS;have rb:=hS.rule 0 rfl;unfold aM at rb;have ru:=hS.rule 1 rfl;unfold bx at ru;go_simp;constructor<;>rfl);(intro w5 hS;(first | (with_reducible refine kp (D2.out _) ?_ ?_;rfl;exact fun w6 aj=>hS.over aj)))));try simp only[Act.put,zA,zZ,zS])
   refine InText.nil fun w5 aK=>?_;clear af;clear az;have rb:=aK.rule 0 rfl;unfold aM at rb;have f0:=aK.thaw 0 rfl 0 (by simp[aM]);have hP:=aK.put 0 rfl (j:=0) (by simp[aM]) (zI 4);go_wp2_with fail;go_ret;rw[HP.out];exact⟨rfl,3,fun h=>absurd h (by decide),aK.sub (.cons_cons _ (.cons_cons _ (.cons_cons _ (.cons_cons _ (.cons _ (List.Sublist.refl _))))))⟩
  ·have HP:=zH (show gC x U.cl=0 by unfold gC;rw[if_neg HS.out,HY.out,if_neg hv]);have Ab:decide (U.cl<=y)=false:=by simpa using hv
   clear hv;go_wp2_with fail;refine cG (S:=(Env w0 (ae b (aM 3 x n r)::LU U (ae O [zI ok,zU key,zU val,zI lv]::R)))) (by kernel_rfl) (by kernel_rfl) az.drew (fun hT=>?_);have af:=zH hT;clear hT
   repeat ((first
    | (refine cH (v:=?_) af.o (by rfl) ?_ ?_;rotate_left;(intro w5 hS;have rb:=hS.rule 0 rfl;unfold aM at rb;have ru:=hS.rule 1 rfl;unfold bx at ru;go_simp<;>rfl))
    | (refine cI af.o (by rfl) ?_)
    | (refine cJ (v:=?_) (f:=?_) (args:=?_) af.o (by rfl) ?_ ?_ ?_;rotate_left 3;(intro w5 hS;have rb:=hS.rule 0 rfl;unfold aM at rb;have ru:=hS.rule 1 rfl;unfold bx at ru;go_simp;constructor<;>rfl);(intro w5 hS;(first | (with_reducible refine kp (D2.out _) ?_ ?_;rfl;exact fun w6 aj=>hS.over aj)))));try simp only[Act.put,zA,zZ,zS])
   refine InText.nil fun w5 aK=>?_;clear af;clear az;have rb:=aK.rule 0 rfl;unfold aM at rb;have f0:=aK.thaw 0 rfl 0 (by simp[aM]);have hP:=aK.put 0 rfl (j:=0) (by simp[aM]) (zI 4);go_wp2_with fail;go_ret;rw[HP.out];exact⟨rfl,4,fun _=>rfl,hP.sub (.cons_cons _ (.cons_cons _ (.cons_cons _ (.cons_cons _ (.cons _ (List.Sublist.refl _))))))⟩
theorem Ko (x:Int) (br:ak U.ml (5,aA h,2)=x) (aQ:U.ml.length<=1000000) (hh:aD h) (hE:Env w0 (ae b (aM 4 h n r)::LU U R) w) :
  Calls prog 67 #[zP b,zP U.u,zP U.m,.agg #[zI ok,zU key,zU val,zI lv]] w fun o w'=>o=.returned (zI 0)/\Env w0 (ae b (aM 5 h x r)::LU U R) w':=by
 have HX:=zH br;clear br;have ag:=(hE.box w.heap.size rfl [zI ok,zU key,zU val,zI lv] 55).perm (L':=ae b (aM 4 h n r)::LU U (ae w.heap.size [zI ok,zU key,zU val,zI lv]::R)) (List.perm_middle (l₁:=[ae b (aM 4 h n r),_,_,_])).symm;have rb:=ag.rule 0 rfl;unfold aM at rb;obtain⟨sl,ei⟩:∃ sl,aA h=sl:=⟨_,rfl⟩;have jd:=fun (v:World)=>iG h hh v;rw[ei] at HX;simp only[ei] at jd;have jc:=zH jd;clear jd ei;clear hE;go_enter func67,ntmps67;go_wp2_with fail;generalize w.alloc _=w1 at *;generalize w.heap.size=O at *;refine (jc.out _).mono ?_;rintro o w2 ⟨rfl,hb⟩;replace ag:=ag.over hb;clear hb rb;have rb:=ag.rule 0 rfl;unfold aM at rb;go_wp2_with fail;refine (jH _ _ _).mono ?_;rintro o w3 ⟨rfl,hb⟩;replace ag:=ag.over hb;clear hb rb;have rb:=ag.rule 0 rfl;unfold aM at rb;go_wp2_with fail;refine (ju 5 sl 2 aQ (ag.ref 3 rfl)).mono ?_;rintro o w4 ⟨rfl,hb⟩;rw[HX.out];replace ag:=ag.over hb;clear hb rb;have rb:=ag.rule 0 rfl;unfold aM at rb;have f1:=ag.thaw 0 rfl 2 (by simp[aM]);have f0:=ag.thaw 0 rfl 0 (by simp[aM]);have hP:=(ag.put 0 rfl (j:=2) (by simp[aM]) (zU x)).put 0 rfl (j:=0) (by simp[aM]) (zI 5);go_wp2_with fail;go_ret;exact⟨rfl,hP.sub (.cons_cons _ (.cons_cons _ (.cons_cons _ (.cons_cons _ (.cons _ (List.Sublist.refl _))))))⟩
theorem Kp (x:Int) (br:ak U.ml (5,aA h,1)=x) (aQ:U.ml.length<=1000000) (hh:aD h) (hE:Env w0 (ae b (aM 5 h n r)::LU U R) w) :
  Calls prog 67 #[zP b,zP U.u,zP U.m,.agg #[zI ok,zU key,zU val,zI lv]] w fun o w'=>o=.returned (zI 0)/\Env w0 (ae b (aM 6 h n x)::LU U R) w':=by
 have HX:=zH br;clear br;have ag:=(hE.box w.heap.size rfl [zI ok,zU key,zU val,zI lv] 55).perm (L':=ae b (aM 5 h n r)::LU U (ae w.heap.size [zI ok,zU key,zU val,zI lv]::R)) (List.perm_middle (l₁:=[ae b (aM 5 h n r),_,_,_])).symm;have rb:=ag.rule 0 rfl;unfold aM at rb;obtain⟨sl,ei⟩:∃ sl,aA h=sl:=⟨_,rfl⟩;have jd:=fun (v:World)=>iG h hh v;rw[ei] at HX;simp only[ei] at jd;have jc:=zH jd;clear jd ei;clear hE;go_enter func67,ntmps67;go_wp2_with fail;generalize w.alloc _=w1 at *;generalize w.heap.size=O at *;refine (jc.out _).mono ?_;rintro o w2 ⟨rfl,hb⟩;replace ag:=ag.over hb;clear hb rb;have rb:=ag.rule 0 rfl;unfold aM at rb;go_wp2_with fail;refine (jH _ _ _).mono ?_;rintro o w3 ⟨rfl,hb⟩;replace ag:=ag.over hb;clear hb rb;have rb:=ag.rule 0 rfl;unfold aM at rb;go_wp2_with fail;refine (ju 5 sl 1 aQ (ag.ref 3 rfl)).mono ?_;rintro o w4 ⟨rfl,hb⟩;rw[HX.out];replace ag:=ag.over hb;clear hb rb;have rb:=ag.rule 0 rfl;unfold aM at rb;have f1:=ag.thaw 0 rfl 3 (by simp[aM]);have f0:=ag.thaw 0 rfl 0 (by simp[aM]);have hP:=(ag.put 0 rfl (j:=3) (by simp[aM]) (zU x)).put 0 rfl (j:=0) (by simp[aM]) (zI 6);go_wp2_with fail;go_ret;exact⟨rfl,hP.sub (.cons_cons _ (.cons_cons _ (.cons_cons _ (.cons_cons _ (.cons _ (List.Sublist.refl _))))))⟩
theorem Kq (hn:aD n) (aQ:U.ml.length<=1000000) (br:ak U.ml (2,0,0)≠h) (hh:aD h) (hE:Env w0 (ae b (aM 6 h n r)::LU U R) w) :
  Calls prog 67 #[zP b,zP U.u,zP U.m,.agg #[zI ok,zU key,zU val,zI lv]] w fun o w'=>o=.returned (zI 0)/\∃ F5,Env w0 (ae b (aM 3 h n r)::LU { U with F:=F5,ml:=dw U.ml (2,0,0) h (aP false (aA n) (dr h+1)) } R) w':=by
 have HD:Hid (decide (ak U.ml (2,0,0)=h)=false):=zH (by simpa using br);clear br;have eQ:=fun (v:World)=>xm h (aA n) hh v;have fL:=fun (v:World)=>iG n hn v;obtain⟨y9,hy⟩:∃ y,aP false (aA n) (dr h+1)=y:=⟨_,rfl⟩;rw[hy];simp only[hy] at eQ;obtain⟨sn,vo⟩:∃ s,aA n=s:=⟨_,rfl⟩;simp only[vo] at eQ fL;have jF:=zH eQ;have kA:=zH fL;clear hy eQ fL vo hn;have ag:=(hE.box w.heap.size rfl [zI ok,zU key,zU val,zI lv] 55).perm (L':=ae b (aM 6 h n r)::LU U (ae w.heap.size [zI ok,zU key,zU val,zI lv]::R)) (List.perm_middle (l₁:=[ae b (aM 6 h n r),_,_,_])).symm;have rb:=ag.rule 0 rfl;unfold aM at rb;obtain⟨sl,ei⟩:∃ sl,aA h=sl:=⟨_,rfl⟩;have jd:=fun (v:World)=>iG h hh v;simp only[ei] at jd;have jc:=zH jd;clear jd ei;clear hE;go_enter func67,ntmps67;go_wp2_with fail;generalize w.alloc _=w1 at *;generalize w.heap.size=O at *;refine (jc.out _).mono ?_;rintro o w2 ⟨rfl,hb⟩;replace ag:=ag.over hb;clear hb rb;have rb:=ag.rule 0 rfl;unfold aM at rb;go_wp2_with fail;refine Ord.wc [16] (fun v=>ao 0 v b (aM 6 h n r)) (fun k w'=>∃ F5,Env w0 (ae b (aM 6 h n r)::LU (if k=0 then U else { U with F:=F5,ml:=dw U.ml (2,0,0) h y9 }) (ae O [zI ok,zU key,zU val,zI lv]::R)) w') (ag.drew.get 0 rfl) ⟨U.F,ag.drew⟩ fun af=>?_
 repeat ((first
  | (refine Ord.cv ?_ af.o ?_ ?_;rotate_left;(intro w5 hS;have r9:=hS.rule;unfold aM at r9;go_simp<;>rfl))
  | (refine Ord.co af.o ?_)
  | (refine Ord.cc ?_ ?_ ?_ af.o ?_ ?_ ?_;rotate_left 3;(intro w5 hS;have r9:=hS.rule;unfold aM at r9;go_simp;constructor<;>rfl);(intro w5 hS;(first | (with_reducible refine kp (tK _) ?_ ?_;rfl;exact fun w6 aj=>⟨hS.under aj,fun k h=>h.elim fun F5 h=>⟨F5,h.over aj⟩⟩) | (with_reducible refine kp (kA.out _) ?_ ?_;rfl;exact fun w6 aj=>⟨hS.under aj,fun k h=>h.elim fun F5 h=>⟨F5,h.over aj⟩⟩) | (with_reducible refine kp (jF.out _) ?_ ?_;rfl;exact fun w6 aj=>⟨hS.under aj,fun k h=>h.elim fun F5 h=>⟨F5,h.over aj⟩⟩)))));try simp only[Act.put,zA,zZ,zS])
 refine Ord.ch_turn (v:=.bool false) 0 af.o rfl (by decide) (Or.inl rfl) (by rfl) ?_ ?_
 ·rintro w5 aN ⟨F5,au⟩;simp only[if_true] at au;go_simp;simp only[Ord.LandsIn];have bS:=kz 2 0 0 h y9 aQ (au.ref 3 rfl);rw[HD.out] at bS;refine bS.mono ?_;rintro e w6 ⟨rfl,F6,hU,hs⟩;have aq:=au.turnU 3 rfl hU hs;exact⟨rfl,aq.get 0 rfl,F6,aq⟩
 try simp only[Act.put,zA,zZ,zS]
 repeat ((first
  | (refine Ord.cv ?_ af.o ?_ ?_;rotate_left;(intro w5 hS;skip;go_simp<;>rfl))
  | (refine Ord.co af.o ?_));try simp only[Act.put,zA,zZ,zS])
 refine Ord.InText.nil fun w5 hS=>?_;clear af;obtain⟨aL,ai⟩:=Ord.chain_end hS;clear hS;obtain⟨F9,ai⟩:=ai;simp only[List.length_cons,List.length_nil,Nat.zero_add,Nat.one_ne_zero,if_false] at ai;clear rb ag aL;have rb:=ai.rule 0 rfl;unfold aM at rb;have f0:=ai.thaw 0 rfl 0 (by simp[aM]);have hP:=ai.put 0 rfl (j:=0) (by simp[aM]) (zI 3);go_wp2_with fail;go_ret;exact⟨rfl,F9,hP.sub (.cons_cons _ (.cons_cons _ (.cons_cons _ (.cons_cons _ (.cons _ (List.Sublist.refl _))))))⟩
theorem Kr (hn:aD n) (aQ:U.ml.length<=1000000) (br:ak U.ml (2,0,0)=h) (hr:aD r) (hl:U.ql.length<=1000000) (hN:0<=U.N/\U.N<=1099511627776) (hh:aD h) (hE:Env w0 (ae b (aM 6 h n r)::LU U R) w) :
  Calls prog 67 #[zP b,zP U.u,zP U.m,.agg #[zI ok,zU key,zU val,zI lv]] w fun o w'=>o=.returned (zI (dI (U.ql++[(aA h,bg r,0)]) U.ce U.cl))/\∃ eS:Int,∃ F5 A' c',(bk (U.ql++[(aA h,bg r,0)]) U.ce U.cl≠0->eS=((bk (U.ql++[(aA h,bg r,0)]) U.ce U.cl:Nat):Int))/\Env w0 (ae b (aM eS h n r)::LU { U with F:=F5,ml:=dw U.ml (2,0,0) h (aP false (aA n) (dr h+1)),A:=A',c:=c',N:=gN (gO U.N) (U.ql.length+1),ql:=U.ql++[(aA h,bg r,0)] } R) w':=by
 have HD:Hid (decide (ak U.ml (2,0,0)=h)=true):=zH (by rw[br];simp);clear br;have eQ:=fun (v:World)=>xm h (aA n) hh v;have fL:=fun (v:World)=>iG n hn v;obtain⟨y9,hy⟩:∃ y,aP false (aA n) (dr h+1)=y:=⟨_,rfl⟩;rw[hy];simp only[hy] at eQ;obtain⟨sn,vo⟩:∃ s,aA n=s:=⟨_,rfl⟩;simp only[vo] at eQ fL;have jF:=zH eQ;have kA:=zH fL;clear hy eQ fL vo hn;have ag:=(hE.box w.heap.size rfl [zI ok,zU key,zU val,zI lv] 55).perm (L':=ae b (aM 6 h n r)::LU U (ae w.heap.size [zI ok,zU key,zU val,zI lv]::R)) (List.perm_middle (l₁:=[ae b (aM 6 h n r),_,_,_])).symm;have rb:=ag.rule 0 rfl;unfold aM at rb;obtain⟨sl,ei⟩:∃ sl,aA h=sl:=⟨_,rfl⟩;have jd:=fun (v:World)=>iG h hh v;rw[ei];simp only[ei] at jd;have jc:=zH jd;clear jd ei;clear hE;go_enter func67,ntmps67;go_wp2_with fail;generalize w.alloc _=w1 at *;generalize w.heap.size=O at *;refine (jc.out _).mono ?_;rintro o w2 ⟨rfl,hb⟩;replace ag:=ag.over hb;clear hb rb;have rb:=ag.rule 0 rfl;unfold aM at rb;go_wp2_with fail;refine Ord.wc [16] (fun v=>ao 0 v b (aM 6 h n r)) (fun k w'=>∃ F5,Env w0 (ae b (aM 6 h n r)::LU (if k=0 then U else { U with F:=F5,ml:=dw U.ml (2,0,0) h y9 }) (ae O [zI ok,zU key,zU val,zI lv]::R)) w') (ag.drew.get 0 rfl) ⟨U.F,ag.drew⟩ fun af=>?_
 repeat ((first
  | (refine Ord.cv ?_ af.o ?_ ?_;rotate_left;(intro w5 hS;have r9:=hS.rule;unfold aM at r9;go_simp<;>rfl))
  | (refine Ord.co af.o ?_)
  | (refine Ord.cc ?_ ?_ ?_ af.o ?_ ?_ ?_;rotate_left 3;(intro w5 hS;have r9:=hS.rule;unfold aM at r9;go_simp;constructor<;>rfl);(intro w5 hS;(first | (with_reducible refine kp (tK _) ?_ ?_;rfl;exact fun w6 aj=>⟨hS.under aj,fun k h=>h.elim fun F5 h=>⟨F5,h.over aj⟩⟩) | (with_reducible refine kp (kA.out _) ?_ ?_;rfl;exact fun w6 aj=>⟨hS.under aj,fun k h=>h.elim fun F5 h=>⟨F5,h.over aj⟩⟩) | (with_reducible refine kp (jF.out _) ?_ ?_;rfl;exact fun w6 aj=>⟨hS.under aj,fun k h=>h.elim fun F5 h=>⟨F5,h.over aj⟩⟩)))));try simp only[Act.put,zA,zZ,zS])
 refine Ord.ch_turn (v:=.bool true) 0 af.o rfl (by decide) (Or.inl rfl) (by rfl) ?_ ?_
 ·rintro w5 aN ⟨F5,au⟩;simp only[if_true] at au;go_simp;simp only[Ord.LandsIn];have bS:=kz 2 0 0 h y9 aQ (au.ref 3 rfl);rw[HD.out] at bS;refine bS.mono ?_;rintro e w6 ⟨rfl,F6,hU,hs⟩;have aq:=au.turnU 3 rfl hU hs;exact⟨rfl,aq.get 0 rfl,F6,aq⟩
 try simp only[Act.put,zA,zZ,zS]
 repeat ((first
  | (refine Ord.cv ?_ af.o ?_ ?_;rotate_left;(intro w5 hS;skip;go_simp<;>rfl))
  | (refine Ord.co af.o ?_));try simp only[Act.put,zA,zZ,zS])
 refine Ord.InText.nil fun w5 hS=>?_;clear af;obtain⟨aL,ai⟩:=Ord.chain_end hS;clear hS;obtain⟨F9,ai⟩:=ai;simp only[List.length_cons,List.length_nil,Nat.zero_add,Nat.one_ne_zero,if_false] at ai;clear rb ag aL;have rb:=ai.rule 0 rfl;unfold aM at rb;have mc:Hid (bg r=if r < 9223372036854775808 then r else 0):=zH (by unfold bg;split<;>split<;>omega);have tL:=hr;unfold aD at tL;clear hr;obtain⟨e9,tM⟩:∃ e,bg r=e:=⟨_,rfl⟩;rw[tM] at mc;have xp:=zH tM;clear tM
 by_cases aE:r < 9223372036854775808
 ·have Ac:decide (r < 9223372036854775808)=true:=by simpa using aE
  have mN:e9=r:=by rw[mc.out,if_pos aE]
  have S6:wrap64 r=r:=df _ (by omega);have rT:=zH (xp.out.trans mN);clear aE tL mc mN xp;go_wp2_with fail;refine (tH sl r 0 6 1 ai rfl rfl rfl rfl hl hN).mono ?_;rintro o w7 ⟨rfl,A7,c7,aO⟩;have bn:Env w0 (ae b (aM 6 h n r)::LU { U with F:=F9,ml:=dw U.ml (2,0,0) h y9,A:=A7,c:=c7,N:=gN (gO U.N) (U.ql.length+1),ql:=U.ql++[(sl,r,0)] } (ae O [zI ok,zU key,zU val,zI lv]::R)) w7:=by
   have hq:(U.ql++[(sl,r,(0:Int))]).length=U.ql.length+1:=by simp
   unfold LU;rw[hq];exact aO
  clear ai aO rb;go_wp2_with fail;refine (vk bn).mono ?_;rintro o w8 ⟨rfl,vn,ax,bj⟩;go_wp2_with fail;go_ret;rw[rT.out];exact⟨rfl,vn,F9,A7,c7,ax,bj.sub (.cons_cons _ (.cons_cons _ (.cons_cons _ (.cons_cons _ (.cons _ (List.Sublist.refl _))))))⟩
 ·have Ac:decide (r < 9223372036854775808)=false:=by simpa using aE
  have mN:e9=0:=by rw[mc.out,if_neg aE]
  have rT:=zH (xp.out.trans mN);clear aE tL mc mN xp;go_wp2_with fail;refine (tH sl 0 0 6 1 ai rfl rfl rfl rfl hl hN).mono ?_;rintro o w7 ⟨rfl,A7,c7,aO⟩;have bn:Env w0 (ae b (aM 6 h n r)::LU { U with F:=F9,ml:=dw U.ml (2,0,0) h y9,A:=A7,c:=c7,N:=gN (gO U.N) (U.ql.length+1),ql:=U.ql++[(sl,0,0)] } (ae O [zI ok,zU key,zU val,zI lv]::R)) w7:=by
   have hq:(U.ql++[(sl,0,(0:Int))]).length=U.ql.length+1:=by simp
   unfold LU;rw[hq];exact aO
  clear ai aO rb;go_wp2_with fail;refine (vk bn).mono ?_;rintro o w8 ⟨rfl,vn,ax,bj⟩;go_wp2_with fail;go_ret;rw[rT.out];exact⟨rfl,vn,F9,A7,c7,ax,bj.sub (.cons_cons _ (.cons_cons _ (.cons_cons _ (.cons_cons _ (.cons _ (List.Sublist.refl _))))))⟩
end
end
end Go.Proofs.YtleklonmmlfijaaGreatDoor
