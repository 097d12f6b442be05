/- What is proved on the way to the statement, part 13: contracts of the functions, among other things in memory. -/
import Derived.Test.YtdknbegcflldjaaGreatDoorM12

open _root_.Go.Proofs.Tryz
set_option maxRecDepth 100000
set_option maxHeartbeats 25600000
namespace Go.Proofs.YtdknbegcflldjaaGreatDoor
section
open Go.RowKit Go.Maps
theorem part_ne7 (ck e key val lv:Int) (k:Nat):((wordsA ck e key val lv).getD k (0,0)).1≠7:=by
 rw [List.getD_eq_getElem?_getD]
 rcases h:(wordsA ck e key val lv)[k]? with _ | ⟨a,b⟩
 ·simp
 ·have hm:(a,b)∈wordsA ck e key val lv:=List.mem_of_getElem? h;simp only [Option.getD_some];unfold wordsA at hm
  split at hm
  ·simp at hm
   rcases hm with ⟨rfl,rfl⟩ | ⟨rfl,rfl⟩ | ⟨rfl,rfl⟩ | ⟨rfl,rfl⟩<;>decide
  ·split at hm
   ·simp at hm
    rcases hm with ⟨rfl,rfl⟩ | ⟨rfl,rfl⟩ | ⟨rfl,rfl⟩ | ⟨rfl,rfl⟩ | ⟨rfl,rfl⟩<;>decide
   ·simp at hm
    rcases hm with ⟨rfl,rfl⟩ | ⟨rfl,rfl⟩ | ⟨rfl,rfl⟩<;>decide
section
variable {C:Cf} {ds:List Dd} {B:Nat} {T:Th} {d:Dd} {K:Kt} {f:Mem}
theorem LnkF.swfo {p:Plc} {o v:Int} (h:LnkF C f) (h1:∀ r,p≠(4,0,r)) (h2:∀ i,p≠(5,i,7)):LnkF C (Go.Proofs.YtdknbegcflldjaaGreatDoor.swf f p o v):=by
 unfold Go.Proofs.YtdknbegcflldjaaGreatDoor.swf
 split
 ·exact h.updo h1 h2
 ·exact h
theorem allocM_lnk (h:LnkF C f):LnkF C (allocM C d T f).2.2:=by
 unfold allocM;dsimp only
 repeat' split
 all_goals first
  | exact h
  | exact h.updo (by simp) (fun i h9=>part_ne7 _ _ _ _ _ _ (congrArg (fun p:Plc=>p.2.2) h9))
  | exact h.updo (by simp) (by simp)
  | exact h.swfo (by simp) (by simp)
theorem retireM_lnk (h:LnkF C f):LnkF C (retireM T f).2.2:=by
 unfold retireM
 split
 ·exact h
 ·exact h.updo (by simp) (by simp)
theorem giveM_lnk (h:LnkF C f):LnkF C (giveM C T f).2.2:=by
 unfold giveM
 repeat' split
 all_goals first
  | exact h
  | exact h.updo (by simp) (by simp)
  | exact h.swfo (by simp) (by simp)
theorem allocM_kk (h:T.apc<=10\/T.apc - 10 < (WD C d T).length) (h0:(allocM C d T f).1=0):(allocM C d T f).2.1.apc<=10\/(allocM C d T f).2.1.apc - 10 < (WD C d (allocM C d T f).2.1).length:=by
 have hl:=WD_len C d T;have hd:=fun q=>decP_in q T.e C.l;have he:WD C d (allocM C d T f).2.1=WD C d T:=by unfold WD; rw [(allocM_keep C d T f).1]
 rw [he]
 revert h0
 unfold allocM;dsimp only
 repeat' split
 all_goals intro h0
 all_goals dsimp only at h0 ⊢
 all_goals first
  | omega
  | (left; rcases hd (T.ql++[(f (3,0,0)+1,0,0)]) with h9 | h9 | h9 | h9<;>omega)
  | (left; rcases hd (T.ql++[(slotI T.ah,epI T.ar,0)]) with h9 | h9 | h9 | h9<;>omega)
  | (right; have h8:(WD C d T).length=(wordsA C.k T.e d.key d.val (IntKind.u64.wrap d.lv)).length:=rfl; unfold lastS at h0; split at h0<;>omega)
theorem allocM_hs (h:T.apc<=10->T.hs=0) (h0:(allocM C d T f).1=3\/(allocM C d T f).1=4\/(allocM C d T f).1=2):(allocM C d T f).2.1.hs=0:=by
 revert h0
 unfold allocM;dsimp only
 repeat' split
 all_goals intro h0
 all_goals dsimp only at h0 ⊢
 all_goals first
  | exact h (by omega)
  | (exfalso; unfold lastS at h0; split at h0<;>omega)
theorem retireM_keep:(retireM T f).2.1.hs=T.hs/\(retireM T f).2.1.nd=T.nd/\(retireM T f).2.1.done=T.done/\(retireM T f).2.1.full=T.full/\(retireM T f).2.1.pc=T.pc/\((retireM T f).1=0\/(retireM T f).1=1):=by
 unfold retireM
 split<;>simp
theorem giveM_keep:(giveM C T f).2.1.hs=T.hs/\(giveM C T f).2.1.nd=T.nd/\(giveM C T f).2.1.done=T.done/\(giveM C T f).2.1.full=T.full/\(giveM C T f).2.1.pc=T.pc:=by
 unfold giveM
 repeat' split
 all_goals simp
theorem OkT.noH (h:OkT C ds B T) (h0:T.pc=0) (hC:COk C):OkT C ds B { T with hs:=0 } :=
 { h with hs:=(by have:=hC.s; show (0:Int)<=0/\(0:Int)<=C.s; omega),p1:=fun _=>rfl,low:=fun _ _=>rfl }
theorem OkT.drop (h:OkT C ds B T) (h0:T.pc=0) (hC:COk C):OkT C ds (B+1) { T with ql:=dropQ T.hs T.ql,hs:=0 }:=by
 have hm:=h.more;have h64:=h.hs;refine { hm with hs:=(by have:=hC.s; show (0:Int)<=0/\(0:Int)<=C.s; omega),p1:=fun _=>rfl,low:=fun _ _=>rfl,ql:=?_,len:=?_,born:=fun h9=>no (h0.symm.trans h9) rfl,give:=fun h9=>no (h0.symm.trans h9) rfl }
 ·show ∀ x∈dropQ T.hs T.ql,_;unfold dropQ
  split
  ·exact h.ql
  ·exact ql_add h.ql (by omega) h64.2
 ·have:=h.len;show (dropQ T.hs T.ql).length+(ds.length - T.nd)<=B+1;unfold dropQ
  split
  ·omega
  ·simp; omega
theorem OkT.alloc (h:OkT C ds B T) (hh:T.hs=0) (hn:1<=T.nd) (hC:COk C) (hD:decP T.ql T.e C.l≠0):OkT C ds B { T with pc:=2,apc:=decP T.ql T.e C.l,ah:=0,an:=0,ar:=0 }:=by
 have hz:slotI 0=0:=by decide
 have hu0:InU 0:=by unfold InU; omega
 have hs:=hC.s;refine { h with w:=⟨hu0,hu0,hu0⟩,an:=(by show slotI 0<=C.s; omega),pc:=.inr (.inr (.inl rfl)),nd1:=fun _=>hn,p1:=fun h=>no h rfl,rpc:=fun h=>no h rfl,rsp:=fun h=>no h rfl,give:=fun h=>no h rfl,gv:=fun h=>no h rfl,apc:=fun _=>?_,low:=fun _ _=>hh,adv:=fun _ h=>decP_adv h,born:=fun _ h=>decP_born h,pool:=fun _ ha hb=>?_ }
 ·show decP T.ql T.e C.l=1\/decP T.ql T.e C.l=2\/decP T.ql T.e C.l=3\/decP T.ql T.e C.l=4\/decP T.ql T.e C.l=5\/decP T.ql T.e C.l=6\/10<=decP T.ql T.e C.l
  rcases decP_in T.ql T.e C.l with h | h | h | h<;>omega
 ·have ha':4<=decP T.ql T.e C.l:=ha;have hb':decP T.ql T.e C.l<=6:=hb
  rcases decP_in T.ql T.e C.l with h | h | h | h<;>omega
theorem OkT.retire (h:OkT C ds B T) (hn:1<=T.nd) (hC:COk C) {c:Int} (h1:1<=c) (h2:c<=C.s):OkT C ds B { T with pc:=3,rs:=c,rpc:=0,re:=0 } :=
 { h with rs:=⟨Int.le_trans (by decide) h1,h2⟩,re:=(by have:=hC.l; show (0:Int)<=0/\(0:Int)<=C.l; omega),pc:=.inr (.inr (.inr (.inl rfl))),nd1:=fun _=>hn,p1:=fun h=>no h rfl,apc:=fun h=>no h rfl,low:=fun h=>no h rfl,adv:=fun h=>no h rfl,born:=fun h=>no h rfl,pool:=fun h=>no h rfl,rpc:=fun _=>.inl rfl,rsp:=fun _=>h1,give:=fun h=>no h rfl,gv:=fun h=>no h rfl }
theorem OkT.begin4 (h:OkT C ds B T) (hlt:T.nd < ds.length) (hC:COk C):OkT C ds B { T with pc:=4,nd:=T.nd+1,gpc:=0,gh:=0,gg:=0 }:=by
 have hl:=h.len;have hs:=hC.s;exact { h with nd:=hlt,len:=(by show T.ql.length+(ds.length - (T.nd+1))<=B; omega),pc:=.inr (.inr (.inr (.inr rfl))),nd1:=fun _=>Nat.le_add_left 1 T.nd,p1:=fun h=>no h rfl,apc:=fun h=>no h rfl,low:=fun h=>no h rfl,adv:=fun h=>no h rfl,born:=fun h=>no h rfl,pool:=fun h=>no h rfl,rpc:=fun h=>no h rfl,rsp:=fun h=>no h rfl,gpc:=Nat.zero_le 3,ghu:=(by show InU 0; unfold InU; omega),gh:=(by show slotI 0<=C.s; rw [show slotI 0=0 from by decide]; omega),give:=fun _ h=>(Nat.not_succ_le_zero _ h).elim,gv:=fun _ h=>(Nat.not_succ_le_zero _ h).elim }
theorem OkT.begin0 (h:OkT C ds B T) (hlt:T.nd < ds.length):OkT C ds B { T with nd:=T.nd+1 }:=by
 have hl:=h.len;exact { h with nd:=hlt,len:=(by show T.ql.length+(ds.length - (T.nd+1))<=B; omega),nd1:=fun _=>Nat.le_add_left 1 T.nd }
theorem KOk.fin {on laid on2 dn:Bool} {L L2:Lm} {err r to vl:Int} (h:OkT C ds B T) (h0:T.pc=0) (hh:T.hs=0):KOk C ds B d ⟨T,0,on,L,laid,on2,L2,err,dn,r,to,vl⟩ where
 t:=h
 tp:=h0
 pc:=Nat.zero_le 9
 da:=fun h9=>absurd h9 (by show ¬ 1<=0; decide)
 s1:=fun h9=>no h9 rfl
 s2:=fun h9=>no h9 rfl
 sp:=fun h9=>absurd h9 (by show ¬ 3<=0; decide)
 un:=fun h9=>absurd h9 (by show ¬ 4<=0; decide)
 to:=fun h9=>absurd h9 (by show ¬ 4<=0; decide)
 ins:=fun h9=>by rcases h9 with h9 | h9<;>exact no h9 rfl
 pu:=fun h9=>no h9 rfl
 lk:=fun h9=>by rcases h9 with h9 | h9<;>exact no h9 rfl
 ho:=fun h9=>absurd hh h9
 kk:=fun h9=>no h9 rfl
 nd:=fun h9=>absurd rfl h9
theorem KOk.find {laid on2:Bool} {L2:Lm} {r to:Int} (h:OkT C ds B T) (h0:T.pc=0) (hh:T.hs≠0->d.ok=4\/d.ok=5) (hn:1<=T.nd) (on:Bool) (L:Lm) (hL:on=true->LaneOk C L):KOk C ds B d ⟨T,1,on,L,laid,on2,L2,0,false,r,to,0⟩ where
 t:=h
 tp:=h0
 pc:=by show 1<=9; decide
 da:=fun _ _=>⟨rfl,rfl,rfl⟩
 s1:=fun _ h=>hL h
 s2:=fun h9=>no h9 rfl
 sp:=fun h9=>absurd h9 (by show ¬ 3<=1; decide)
 un:=fun h9=>absurd h9 (by show ¬ 4<=1; decide)
 to:=fun h9=>absurd h9 (by show ¬ 4<=1; decide)
 ins:=fun h9=>by rcases h9 with h9 | h9<;>exact no h9 rfl
 pu:=fun h9=>no h9 rfl
 lk:=fun h9=>by rcases h9 with h9 | h9<;>exact no h9 rfl
 ho:=fun h9=>⟨.inl rfl,hh h9⟩
 kk:=fun h9=>no h9 rfl
 nd:=fun _=>hn
end
structure KOut (C:Cf) (ds:List Dd) (B:Nat) (d:Dd) (K:Kt) (r:Int × Kt × Mem):Prop where
 (f:OkF C r.2.2)
 (l:LnkF C r.2.2)
 (nd:r.2.1.T.nd=K.T.nd)
 (k:KOk C ds B d { r.2.1 with pc:=if r.1=0 then r.2.1.pc else 0 })
section
variable {C:Cf} {ds:List Dd} {B:Nat} {T:Th} {d:Dd} {K:Kt} {f:Mem}
theorem search_memok (hF:OkF C f) (hS:LnkF C f) (hC:COk C) (k key:Int) (vs:Bool) {on:Bool} {L:Lm} {e r:Int} (h:on=true->LaneOk C L) (hu:∀ x,InU ((searchM k key vs ⟨on,L,e,r⟩ f).2.2 x)):OkF C (searchM k key vs ⟨on,L,e,r⟩ f).2.2/\LnkF C (searchM k key vs ⟨on,L,e,r⟩ f).2.2:=by
 have hs0:0<=C.s:=by have:=hC.s; omega
 by_cases ho:on=true
 ·rcases search_mem k key vs (on:=on) (L:=L) (e:=e) (r:=r) (fun h9=>(h h9).at9) f with h9 | ⟨p,v,hp,h9,hv⟩
  ·rw [h9]; exact ⟨hF,hS⟩
  ·rw [h9] at hu ⊢;exact ⟨hF.updL hp hu,hS.upd (by rw [hv]; exact slot_word_le hs0 (h ho).sx)⟩
 ·have h9:(searchM k key vs ⟨on,L,e,r⟩ f).2.2=f:=by unfold searchM; rw [if_neg ho]
  rw [h9]; exact ⟨hF,hS⟩
theorem search_e (hF:OkF C f) (hC:COk C) (k key:Int) (vs:Bool) {on:Bool} {L:Lm} {e r:Int} (he:0<=e/\e<=C.l):0<=(searchM k key vs ⟨on,L,e,r⟩ f).2.1.e/\(searchM k key vs ⟨on,L,e,r⟩ f).2.1.e<=C.l:=by
 have h9:=epI_of (hF.u (1,0,0)) hF.ep hC.l.2;unfold searchM
 split
 ·exact he
 ·show 0<=epI (f (1,0,0))/\epI (f (1,0,0))<=C.l;rw [h9.1];exact ⟨h9.2,hF.ep⟩
theorem KOk.t0 (h:KOk C ds B d K) (hp:K.pc≠2/\K.pc≠7/\K.pc≠8):K.T.pc=0:=by
 have h9:=h.tp;rw [if_neg hp.1,if_neg hp.2.1,if_neg hp.2.2] at h9;exact h9
theorem KOk.hs0 (h:KOk C ds B d K) (hp:(5<=K.pc/\K.pc<=8)\/K.pc=0):K.T.hs=0:=by
 by_cases h9:K.T.hs=0
 ·exact h9
 ·have:=(h.ho h9).1;omega
theorem KOk.again {B2:Nat} (h:KOk C ds B d K) (hT:OkT C ds B2 T) (h0:T.pc=0) (hh:T.hs≠0->d.ok=4\/d.ok=5) (hn:1<=T.nd) (h1:1<=K.pc) (h8:K.pc≠8):KOk C ds B2 d (findM C d { K with T:=T }):=by
 have hda:=h.da h1 h8;have hx:findM C d { K with T:=T }=⟨T,1,false,L0 (4,0,rtM C d),K.laid,K.on2,K.L2,0,false,K.r,K.to,0⟩:=by
  obtain ⟨t1,t2,t3,t4,t5,t6,t7,t8,t9,u1,u2,u3⟩:=K;obtain ⟨h4,h5,h6⟩:=hda;dsimp only at h4 h5 h6;subst h4 h5 h6;rfl
 rw [hx];exact KOk.find hT h0 hh hn false _ (fun h=>absurd h (by decide))
theorem KOk.more (h:KOk C ds B d K):KOk C ds (B+1) d K:={ h with t:=h.t.more }
theorem take_keep (hC:COk C) (h:KOk C ds B d { K with on:=false }) (h1:K.pc=1) (hi:d.ok=4\/d.ok=5) (hh:K.T.hs=0):(takeM C K).2.T.nd=K.T.nd/\KOk C ds (B+1) d { (takeM C K).2 with pc:=if (takeM C K).1=0 then (takeM C K).2.pc else 0 }:=by
 have h0:K.T.pc=0:=h.t0 ⟨by show K.pc≠2; omega,by show K.pc≠7; omega,by show K.pc≠8; omega⟩;have hn:1<=K.T.nd:=h.nd (by show K.pc≠0; omega);have hda:K.err=0/\K.dn=false/\K.vl=0:=h.da (by show 1<=K.pc; omega) (by show K.pc≠8; omega);unfold takeM
 by_cases hD:decP K.T.ql K.T.e C.l=0
 ·rw [if_pos hD];exact ⟨rfl,KOk.fin h.t.more h0 hh⟩
 ·rw [if_neg hD];exact ⟨rfl,{ t:=(h.t.alloc hh hn hC hD).more,tp:=rfl,pc:=(by show 2<=9; decide),da:=fun _ _=>hda,s1:=fun h9=>no h9 rfl,s2:=fun h9=>no h9 rfl,sp:=fun h9=>absurd h9 (by show ¬ 3<=2; decide),un:=fun h9=>absurd h9 (by show ¬ 4<=2; decide),to:=fun h9=>absurd h9 (by show ¬ 4<=2; decide),ins:=fun _=>hi,pu:=fun h9=>no h9 rfl,lk:=fun h9=>by rcases h9 with h9 | h9<;>exact no h9 rfl,ho:=fun h9=>absurd hh h9,kk:=fun _=>.inl (by show decP K.T.ql K.T.e C.l<=10; rcases decP_in K.T.ql K.T.e C.l with h | h | h | h<;>omega),nd:=fun _=>hn }⟩
theorem found_keep (hC:COk C) (h:KOk C ds B d { K with on:=false }) (h1:K.pc=1) (hL:SpotOk C K.L):(foundM C d K).2.T.nd=K.T.nd/\KOk C ds (B+1) d { (foundM C d K).2 with pc:=if (foundM C d K).1=0 then (foundM C d K).2.pc else 0 }:=by
 have h0:K.T.pc=0:=h.t0 ⟨by show K.pc≠2; omega,by show K.pc≠7; omega,by show K.pc≠8; omega⟩;have hn:1<=K.T.nd:=h.nd (by show K.pc≠0; omega);have hda:K.err=0/\K.dn=false/\K.vl=0:=h.da (by show 1<=K.pc; omega) (by show K.pc≠8; omega);have hhs:¬ (d.ok=4\/d.ok=5)->K.T.hs=0:=fun hn=>by
  by_cases h9:K.T.hs=0
  ·exact h9
  ·exact absurd (h.ho h9).2 hn
 unfold foundM
 by_cases hf:K.L.fd=true
 ·rw [if_pos hf];have hfd:=hL.fd hf
  by_cases h4:d.ok=4
  ·rw [if_pos h4]
   by_cases hh:K.T.hs=0
   ·rw [if_pos hh];exact take_keep hC h h1 (.inl h4) hh
   ·rw [if_neg hh];exact ⟨rfl,{ t:=h.t.more,tp:=h0,pc:=Nat.le_refl 9,da:=fun _ _=>hda,s1:=fun h9=>no h9 rfl,s2:=fun h9=>no h9 rfl,sp:=fun _ _=>hL,un:=fun _ _=>⟨hfd.2,hfd.1⟩,to:=fun _ h9=>absurd h9 (by show ¬ 9<=7; decide),ins:=fun h9=>by rcases h9 with h9 | h9<;>exact no h9 rfl,pu:=fun _=>h4,lk:=fun _=>hh,ho:=fun _=>⟨.inr (.inr (.inr (.inl rfl))),.inl h4⟩,kk:=fun h9=>no h9 rfl,nd:=fun _=>hn }⟩
  ·rw [if_neg h4]
   by_cases h6:d.ok=6
   ·rw [if_pos h6];have hh:=hhs (by omega);exact ⟨rfl,{ t:=h.t.more,tp:=h0,pc:=(by show 4<=9; decide),da:=fun _ _=>hda,s1:=fun h9=>no h9 rfl,s2:=fun h9=>no h9 rfl,sp:=fun _ _=>hL,un:=fun _ _=>⟨hfd.2,hfd.1⟩,to:=fun _ _=>hL.sx,ins:=fun h9=>by rcases h9 with h9 | h9<;>exact no h9 rfl,pu:=fun h9=>no h9 rfl,lk:=fun h9=>by rcases h9 with h9 | h9<;>exact no h9 rfl,ho:=fun h9=>absurd hh h9,kk:=fun h9=>no h9 rfl,nd:=fun _=>hn }⟩
   ·rw [if_neg h6]
    by_cases h5:d.ok=5
    ·rw [if_pos h5];exact ⟨rfl,KOk.fin (h.t.drop h0 hC) h0 rfl⟩
    ·rw [if_neg h5];exact ⟨rfl,KOk.fin h.t.more h0 (hhs (by omega))⟩
 ·rw [if_neg hf]
  by_cases h45:d.ok=4\/d.ok=5
  ·rw [if_pos h45]
   by_cases hh:K.T.hs=0
   ·rw [if_pos hh];exact take_keep hC h h1 h45 hh
   ·rw [if_neg hh];exact ⟨rfl,{ t:=h.t.more,tp:=h0,pc:=(by show 3<=9; decide),da:=fun _ _=>hda,s1:=fun h9=>no h9 rfl,s2:=fun h9=>no h9 rfl,sp:=fun _ _=>hL,un:=fun h9=>absurd h9 (by show ¬ 4<=3; decide),to:=fun h9=>absurd h9 (by show ¬ 4<=3; decide),ins:=fun _=>h45,pu:=fun h9=>no h9 rfl,lk:=fun _=>hh,ho:=fun _=>⟨.inr (.inr (.inl rfl)),h45⟩,kk:=fun h9=>no h9 rfl,nd:=fun _=>hn }⟩
  ·rw [if_neg h45];exact ⟨rfl,KOk.fin h.t.more h0 (hhs h45)⟩
theorem op1_keep (hC:COk C) (hR:In64 (rtM C d)) (hF:OkF C f) (hS:LnkF C f) (h:KOk C ds B d K) (h1:K.pc=1) (hu:∀ x,InU ((opM C d K f).2.2 x)):KOut C ds (B+1) d K (opM C d K f):=by
 have h0:=h.t0 (by omega);have hn:=h.nd (by omega);have hda:=h.da (by omega) (by omega);have hho:K.T.hs≠0->d.ok=4\/d.ok=5:=fun h9=>(h.ho h9).2;have hk:=search_keep (k:=rtM C d) (vs:=true) (key:=d.key) (e:=K.T.e) (r:=K.r) hR (h.s1 h1) hF.u hS (by have:=hC.s; omega);have he:=search_e hF hC (rtM C d) d.key true (on:=K.on) (L:=K.L) (r:=K.r) h.t.e;have hm:=search_memok hF hS hC (rtM C d) d.key true (e:=K.T.e) (r:=K.r) (h.s1 h1);unfold opM at hu ⊢;rw [if_pos h1] at hu ⊢;generalize hq:searchM (rtM C d) d.key true ⟨K.on,K.L,K.T.e,K.r⟩ f=q at *;dsimp only at hu ⊢;have hT:=h.t.epoch h0 he
 by_cases hq1:q.1=1
 ·rw [if_pos hq1] at hu ⊢;have hK:KOk C ds B d ⟨{ K.T with e:=q.2.1.e },K.pc,false,q.2.1.L,K.laid,K.on2,K.L2,K.err,K.dn,q.2.1.r,K.to,K.vl⟩:=by
   rw [h1,hda.1,hda.2.1,hda.2.2];exact KOk.find hT h0 hho hn false _ (fun h=>absurd h (by decide))
  have hf:=found_keep (K:={ K with on:=q.2.1.on,L:=q.2.1.L,r:=q.2.1.r,T:={ K.T with e:=q.2.1.e } }) hC hK h1 (hk.2 hq1);exact ⟨(hm hu).1,(hm hu).2,hf.1,hf.2⟩
 ·rw [if_neg hq1] at hu ⊢;have hq0:q.1=0:=by
   have:=search_state (rtM C d) d.key true ⟨K.on,K.L,K.T.e,K.r⟩ f;rw [hq] at this;omega
  refine ⟨(hm hu).1,(hm hu).2,rfl,?_⟩;show KOk C ds (B+1) d ⟨{ K.T with e:=q.2.1.e },K.pc,q.2.1.on,q.2.1.L,K.laid,K.on2,K.L2,K.err,K.dn,q.2.1.r,K.to,K.vl⟩;rw [h1,hda.1,hda.2.1,hda.2.2];exact KOk.find hT.more h0 hho hn _ _ (fun h=>hk.1 hq0 h)
theorem op2_keep (hC:COk C) (hF:OkF C f) (hS:LnkF C f) (h:KOk C ds B d K) (h1:K.pc=2) (hu:∀ x,InU ((opM C d K f).2.2 x)):KOut C ds (B+1) d K (opM C d K f):=by
 have h2:K.T.pc=2:=by have:=h.tp; rw [if_pos h1] at this; exact this
 have hn:=h.nd (by omega);have hda:=h.da (by omega) (by omega);have hi:=h.ins (.inl h1);have hact:=al_cases C d K.T f h2;have hA:=act2_ok (d:=d) hC hF h.t h2;have hkk:=allocM_kk (f:=f) (h.kk h1);have hhs:=allocM_hs (C:=C) (d:=d) (f:=f) (h.t.low h2);have hl:=allocM_lnk (d:=d) (T:=K.T) hS;have kp:=allocM_keep C d K.T f;have st:=allocM_state C d K.T f;rw [hact] at hA;unfold opM at hu ⊢;rw [if_neg (by omega),if_pos h1] at hu ⊢;generalize allocM C d K.T f=q at *;dsimp only at hu hA ⊢;have hdone:0<=q.2.1.done/\q.2.1.done<=((B+1:Nat):Int):=by
  have:=h.t.done;rw [kp.2.2.2.2.2.2.2.2.2.1];omega
 have hok:(∀ x,InU (q.2.2 x))->OkT C ds (B+1) { q.2.1 with pc:=0 }:=fun h9=>(hA h9).2.idle hdone
 rcases st with s | s | s | s | s
 ·rw [if_pos s] at hu ⊢;have ha:=hA hu;have hT:OkT C ds (B+1) q.2.1:=by
   have h9:=ha.2;rw [s] at h9;exact h9.same (by show 2=q.2.1.pc; rw [kp.2.2.1]; exact h2.symm) rfl hdone
  refine ⟨ha.1,hl,kp.2.1,?_⟩;show KOk C ds (B+1) d { K with T:=q.2.1 };exact { t:=hT,tp:=(by show q.2.1.pc=if K.pc=2 then 2 else _; rw [if_pos h1,kp.2.2.1]; exact h2),pc:=h.pc,da:=fun _ _=>hda,s1:=fun h9=>absurd (h1.symm.trans h9) (by decide),s2:=fun h9=>absurd (h1.symm.trans h9) (by decide),sp:=fun h9=>absurd (show 3<=K.pc from h9) (by omega),un:=fun h9=>absurd (show 4<=K.pc from h9) (by omega),to:=fun h9=>absurd (show 4<=K.pc from h9) (by omega),ins:=fun _=>hi,pu:=fun h9=>absurd (h1.symm.trans h9) (by decide),lk:=fun h9=>by rcases h9 with h9 | h9<;>exact absurd (h1.symm.trans h9) (by decide),ho:=fun _=>⟨.inr (.inl h1),hi⟩,kk:=fun _=>hkk s,nd:=fun _=>(by show 1<=q.2.1.nd; rw [kp.2.1]; exact hn) }
 ·rw [if_neg (by omega),if_neg (by omega),if_neg (by omega)] at hu ⊢;exact ⟨(hA hu).1,hl,kp.2.1,h.again (hok hu) rfl (fun _=>hi) (by show 1<=q.2.1.nd; rw [kp.2.1]; exact hn) (by omega) (by omega)⟩
 ·rw [if_neg (by omega),if_neg (by omega),if_neg (by omega)] at hu ⊢;exact ⟨(hA hu).1,hl,kp.2.1,h.again (hok hu) rfl (fun _=>hi) (by show 1<=q.2.1.nd; rw [kp.2.1]; exact hn) (by omega) (by omega)⟩
 ·rw [if_neg (by omega),if_pos s] at hu ⊢;exact ⟨(hA hu).1,hl,kp.2.1,KOk.fin (hok hu) rfl (hhs (.inl s))⟩
 ·rw [if_neg (by omega),if_neg (by omega),if_pos s] at hu ⊢;exact ⟨(hA hu).1,hl,kp.2.1,KOk.fin (hok hu) rfl (hhs (.inr (.inl s)))⟩
end
section
variable {C:Cf} {ds:List Dd} {B:Nat} {T:Th} {d:Dd} {K:Kt} {f:Mem}
theorem op3_keep (hC:COk C) (hF:OkF C f) (hS:LnkF C f) (h:KOk C ds B d K) (h1:K.pc=3) (hu:∀ x,InU ((opM C d K f).2.2 x)):KOut C ds (B+1) d K (opM C d K f):=by
 have h0:=h.t0 (by omega);have hn:=h.nd (by omega);have hda:=h.da (by omega) (by omega);have hsp:=h.sp (by omega) (by omega);have hi:=h.ins (.inr h1);have hs0:0<=C.s:=by have:=hC.s; omega
 have hsl:=slot_word_le (m:=false) (e:=K.T.e) hs0 h.t.hs.2;unfold opM at hu ⊢;rw [if_neg (by omega),if_neg (by omega),if_pos h1] at hu ⊢
 by_cases hl:K.laid=true
 ·rw [if_pos hl] at hu ⊢
  by_cases hx:f K.L.p=K.L.W
  ·rw [if_pos hx] at hu ⊢;exact ⟨hF.swfL hsp.at9 hu,hS.swf hsl,rfl,KOk.fin (h.t.noH h0 hC).more h0 rfl⟩
  ·rw [if_neg hx] at hu ⊢;exact ⟨hF.swfL hsp.at9 hu,hS.swf hsl,rfl,h.again h.t.more h0 (fun _=>hi) hn (by omega) (by omega)⟩
 ·rw [if_neg hl] at hu ⊢;refine ⟨hF.updL (.inr ⟨_,rfl⟩) hu,hS.upd (slot_word_le hs0 hsp.sw),rfl,?_⟩;show KOk C ds (B+1) d { K with laid:=true };have hm:=h.more;exact { t:=hm.t,tp:=hm.tp,pc:=hm.pc,da:=hm.da,s1:=hm.s1,s2:=hm.s2,sp:=hm.sp,un:=hm.un,ins:=hm.ins,pu:=hm.pu,to:=hm.to,lk:=hm.lk,ho:=hm.ho,kk:=hm.kk,nd:=hm.nd }
theorem op9_keep (hC:COk C) (hF:OkF C f) (hS:LnkF C f) (h:KOk C ds B d K) (h1:K.pc=9) (hu:∀ x,InU ((opM C d K f).2.2 x)):KOut C ds (B+1) d K (opM C d K f):=by
 have h0:=h.t0 (by omega);have hn:=h.nd (by omega);have hda:=h.da (by omega) (by omega);have hsp:=h.sp (by omega) (by omega);have hun:=h.un (by omega) (by omega);have hpu:=h.pu h1;have hs0:0<=C.s:=by have:=hC.s; omega
 unfold opM at hu ⊢;rw [if_neg (by omega),if_neg (by omega),if_neg (by omega),if_pos h1] at hu ⊢;exact ⟨hF.updL (.inr ⟨_,rfl⟩) hu,hS.upd (slot_word_le hs0 hsp.sx),rfl,{ t:=h.t.more,tp:=h0,pc:=(by show 4<=9; decide),da:=fun _ _=>hda,s1:=fun h9=>no h9 rfl,s2:=fun h9=>no h9 rfl,sp:=fun _ _=>hsp,un:=fun _ _=>hun,to:=fun _ _=>h.t.hs.2,ins:=fun h9=>by rcases h9 with h9 | h9<;>exact no h9 rfl,pu:=fun h9=>no h9 rfl,lk:=fun h9=>by rcases h9 with h9 | h9<;>exact no h9 rfl,ho:=fun _=>⟨.inr (.inr (.inr (.inr ⟨rfl,rfl⟩))),.inl hpu⟩,kk:=fun h9=>no h9 rfl,nd:=fun _=>hn }⟩
theorem op4_keep (hC:COk C) (hF:OkF C f) (hS:LnkF C f) (h:KOk C ds B d K) (h1:K.pc=4) (hu:∀ x,InU ((opM C d K f).2.2 x)):KOut C ds (B+1) d K (opM C d K f):=by
 have h0:=h.t0 (by omega);have hn:=h.nd (by omega);have hda:=h.da (by omega) (by omega);have hsp:=h.sp (by omega) (by omega);have hun:=h.un (by omega) (by omega);have hto:=h.to (by omega) (by omega);have hs0:0<=C.s:=by have:=hC.s; omega
 have hsl:slotI (markM K.to K.T.e)<=C.s:=slot_word_le hs0 hto;unfold opM at hu ⊢;rw [if_neg (by omega),if_neg (by omega),if_neg (by omega),if_neg (by omega),if_pos h1] at hu ⊢
 by_cases hx:f (5,K.L.C,7)=K.L.X
 ·rw [if_pos hx] at hu ⊢;exact ⟨hF.swfL (.inr ⟨_,rfl⟩) hu,hS.swf hsl,rfl,{ t:=(h.t.noH h0 hC).more,tp:=h0,pc:=(by show 5<=9; decide),da:=fun _ _=>hda,s1:=fun h9=>no h9 rfl,s2:=fun h9=>no h9 rfl,sp:=fun _ _=>hsp,un:=fun _ _=>hun,to:=fun _ _=>hto,ins:=fun h9=>by rcases h9 with h9 | h9<;>exact no h9 rfl,pu:=fun h9=>no h9 rfl,lk:=fun h9=>by rcases h9 with h9 | h9<;>exact no h9 rfl,ho:=fun h9=>absurd rfl h9,kk:=fun h9=>no h9 rfl,nd:=fun _=>hn }⟩
 ·rw [if_neg hx] at hu ⊢;exact ⟨hF.swfL (.inr ⟨_,rfl⟩) hu,hS.swf hsl,rfl,h.again h.t.more h0 (fun h9=>(h.ho h9).2) hn (by omega) (by omega)⟩
theorem KOk.seven (h:KOk C ds B d K) (hC:COk C) (h4:4<=K.pc) (h7:K.pc<=7) (hT:OkT C ds B T) (hh:T.hs=0) (hn:1<=T.nd) {on2:Bool} {L2:Lm} {r:Int}:KOk C ds (B+1) d ⟨{ T with pc:=3,rs:=K.L.C,rpc:=0,re:=0 },7,K.on,K.L,K.laid,on2,L2,K.err,K.dn,r,K.to,K.vl⟩:=by
 have hto:=h.to h4 h7;have hda:=h.da (by omega) (by omega);have hsp:=h.sp (by omega) (by omega);have hun:=h.un h4 (by omega);exact { t:=(hT.retire hn hC hun.2 hsp.cs).more,tp:=rfl,pc:=(by show 7<=9; decide),da:=fun _ _=>hda,s1:=fun h9=>no h9 rfl,s2:=fun h9=>no h9 rfl,sp:=fun _ _=>hsp,un:=fun _ _=>hun,to:=fun _ _=>hto,ins:=fun h9=>by rcases h9 with h9 | h9<;>exact no h9 rfl,pu:=fun h9=>no h9 rfl,lk:=fun h9=>by rcases h9 with h9 | h9<;>exact no h9 rfl,ho:=fun h9=>absurd hh h9,kk:=fun h9=>no h9 rfl,nd:=fun _=>hn }
theorem KOk.six (h:KOk C ds B d K) (h4:4<=K.pc) (h7:K.pc<=7) (hT:OkT C ds B T) (h0:T.pc=0) (hh:T.hs=0) (hn:1<=T.nd) {on2:Bool} {L2:Lm} {r:Int} (hL:on2=true->LaneOk C L2):KOk C ds (B+1) d ⟨T,6,K.on,K.L,K.laid,on2,L2,K.err,K.dn,r,K.to,K.vl⟩:=by
 have hto:=h.to h4 h7;have hda:=h.da (by omega) (by omega);have hsp:=h.sp (by omega) (by omega);have hun:=h.un h4 (by omega);exact { t:=hT.more,tp:=h0,pc:=(by show 6<=9; decide),da:=fun _ _=>hda,s1:=fun h9=>no h9 rfl,s2:=fun _ h9=>hL h9,sp:=fun _ _=>hsp,un:=fun _ _=>hun,to:=fun _ _=>hto,ins:=fun h9=>by rcases h9 with h9 | h9<;>exact no h9 rfl,pu:=fun h9=>no h9 rfl,lk:=fun h9=>by rcases h9 with h9 | h9<;>exact no h9 rfl,ho:=fun h9=>absurd hh h9,kk:=fun h9=>no h9 rfl,nd:=fun _=>hn }
theorem op5_keep (hC:COk C) (hF:OkF C f) (hS:LnkF C f) (h:KOk C ds B d K) (h1:K.pc=5) (hu:∀ x,InU ((opM C d K f).2.2 x)):KOut C ds (B+1) d K (opM C d K f):=by
 have h0:=h.t0 (by omega);have hn:=h.nd (by omega);have hsp:=h.sp (by omega) (by omega);have hh:=h.hs0 (.inl ⟨by omega,by omega⟩);have hs0:0<=C.s:=by have:=hC.s; omega
 have hsl:=slot_word_le (m:=false) (e:=K.T.e) hs0 (h.to (by omega) (by omega));unfold opM at hu ⊢;rw [if_neg (by omega),if_neg (by omega),if_neg (by omega),if_neg (by omega),if_neg (by omega),if_pos h1] at hu ⊢
 by_cases hx:f K.L.p=K.L.W
 ·rw [if_pos hx] at hu ⊢;exact ⟨hF.swfL hsp.at9 hu,hS.swf hsl,rfl,h.seven hC (by omega) (by omega) h.t hh hn⟩
 ·rw [if_neg hx] at hu ⊢;exact ⟨hF.swfL hsp.at9 hu,hS.swf hsl,rfl,h.six (by omega) (by omega) h.t h0 hh hn (fun h=>absurd (show false=true from h) (by decide))⟩
theorem op6_keep (hC:COk C) (hR:In64 (rtM C d)) (hF:OkF C f) (hS:LnkF C f) (h:KOk C ds B d K) (h1:K.pc=6) (hu:∀ x,InU ((opM C d K f).2.2 x)):KOut C ds (B+1) d K (opM C d K f):=by
 have h0:=h.t0 (by omega);have hn:=h.nd (by omega);have hh:=h.hs0 (.inl ⟨by omega,by omega⟩);have hk:=search_keep (k:=rtM C d) (vs:=false) (key:=d.key) (e:=K.T.e) (r:=K.r) hR (h.s2 h1) hF.u hS (by have:=hC.s; omega);have he:=search_e hF hC (rtM C d) d.key false (on:=K.on2) (L:=K.L2) (r:=K.r) h.t.e;have hm:=search_memok hF hS hC (rtM C d) d.key false (e:=K.T.e) (r:=K.r) (h.s2 h1);unfold opM at hu ⊢;rw [if_neg (by omega),if_neg (by omega),if_neg (by omega),if_neg (by omega),if_neg (by omega),if_neg (by omega),if_pos h1] at hu ⊢;generalize hq:searchM (rtM C d) d.key false ⟨K.on2,K.L2,K.T.e,K.r⟩ f=q at *;dsimp only at hu ⊢;have hT:=h.t.epoch h0 he
 by_cases hq1:q.1=1
 ·rw [if_pos hq1] at hu ⊢;exact ⟨(hm hu).1,(hm hu).2,rfl,h.seven hC (by omega) (by omega) hT hh hn⟩
 ·rw [if_neg hq1] at hu ⊢;have hq0:q.1=0:=by
   have:=search_state (rtM C d) d.key false ⟨K.on2,K.L2,K.T.e,K.r⟩ f;rw [hq] at this;omega
  refine ⟨(hm hu).1,(hm hu).2,rfl,?_⟩;show KOk C ds (B+1) d ⟨{ K.T with e:=q.2.1.e },K.pc,K.on,K.L,K.laid,q.2.1.on,q.2.1.L,K.err,K.dn,q.2.1.r,K.to,K.vl⟩;rw [h1];exact h.six (by omega) (by omega) hT h0 hh hn (fun h=>hk.1 hq0 h)
theorem op7_keep (hC:COk C) (hF:OkF C f) (hS:LnkF C f) (h:KOk C ds B d K) (h1:K.pc=7) (hu:∀ x,InU ((opM C d K f).2.2 x)):KOut C ds (B+1) d K (opM C d K f):=by
 have h3:K.T.pc=3:=by have:=h.tp; rw [if_neg (by omega),if_pos h1] at this; exact this
 have hn:=h.nd (by omega);have hh:=h.hs0 (.inl ⟨by omega,by omega⟩);have hda:=h.da (by omega) (by omega);have hsp:=h.sp (by omega) (by omega);have hun:=h.un (by omega) (by omega);have hA:=act3_ok (d:=d) hC hF h.t h3;have hact:actM C d K.T f=({ (retireM K.T f).2.1 with pc:=if (retireM K.T f).1=0 then 3 else 0,full:=false },(retireM K.T f).2.2):=by
  unfold actM;rw [if_neg (by omega),if_neg (by omega),if_pos h3]
 have hl:=retireM_lnk (T:=K.T) hS;have kp:=retireM_keep (T:=K.T) (f:=f);rw [hact] at hA;unfold opM at hu ⊢;rw [if_neg (by omega),if_neg (by omega),if_neg (by omega),if_neg (by omega),if_neg (by omega),if_neg (by omega),if_neg (by omega)] at hu ⊢;generalize retireM K.T f=q at *;dsimp only at hu hA ⊢;have hdone:0<=q.2.1.done/\q.2.1.done<=((B+1:Nat):Int):=by
  have:=h.t.done;rw [kp.2.2.1];omega
 rcases kp.2.2.2.2.2 with s | s
 ·rw [if_pos s] at hu ⊢;have ha:=hA hu;have hT:OkT C ds (B+1) q.2.1:=by
   have h9:=ha.2;rw [s] at h9;exact h9.same (by show 3=q.2.1.pc; rw [kp.2.2.2.2.1]; exact h3.symm) rfl hdone
  refine ⟨ha.1,hl,kp.2.1,?_⟩;show KOk C ds (B+1) d { K with T:=q.2.1 };exact { t:=hT,tp:=(by show q.2.1.pc=if K.pc=2 then 2 else if K.pc=7 then 3 else _; rw [if_neg (by omega),if_pos h1,kp.2.2.2.2.1]; exact h3),pc:=h.pc,da:=fun _ _=>hda,s1:=fun h9=>absurd (h1.symm.trans h9) (by decide),s2:=fun h9=>absurd (h1.symm.trans h9) (by decide),sp:=fun _ _=>hsp,un:=fun _ _=>hun,to:=h.to,pu:=h.pu,ins:=h.ins,lk:=fun h9=>by rcases h9 with h9 | h9<;>exact absurd (h1.symm.trans h9) (by decide),ho:=fun h9=>absurd (kp.1.trans hh) h9,kk:=fun h9=>absurd (h1.symm.trans h9) (by decide),nd:=fun _=>(by show 1<=q.2.1.nd; rw [kp.2.1]; exact hn) }
 ·rw [if_neg (by omega)] at hu ⊢;exact ⟨(hA hu).1,hl,kp.2.1,KOk.fin ((hA hu).2.idle hdone) rfl (kp.1.trans hh)⟩
theorem op8_keep (hC:COk C) (hF:OkF C f) (hS:LnkF C f) (h:KOk C ds B d K) (h1:K.pc=8) (hu:∀ x,InU ((actK C d K f).2.2 x)):OkF C (actK C d K f).2.2/\LnkF C (actK C d K f).2.2/\(actK C d K f).2.1.T.nd=K.T.nd/\KOk C ds (B+1) d (actK C d K f).2.1:=by
 have h4:K.T.pc=4:=by have:=h.tp; rw [if_neg (by omega),if_neg (by omega),if_pos h1] at this; exact this
 have hn:=h.nd (by omega);have hh:=h.hs0 (.inl ⟨by omega,by omega⟩);have hA:=act4_ok (d:=d) hC hF h.t h4;have hact:actM C d K.T f=({ (giveM C K.T f).2.1 with pc:=if (giveM C K.T f).1=0 then 4 else 0,full:=false },(giveM C K.T f).2.2):=by
  unfold actM;rw [if_neg (by omega),if_neg (by omega),if_neg (by omega)]
 have hl:=giveM_lnk (C:=C) (T:=K.T) hS;have kp:=giveM_keep (C:=C) (T:=K.T) (f:=f);rw [hact] at hA;unfold actK at hu ⊢;rw [if_pos h1] at hu ⊢;generalize giveM C K.T f=q at *;dsimp only at hu hA ⊢;have hdone:0<=q.2.1.done/\q.2.1.done<=((B+1:Nat):Int):=by
  have:=h.t.done;rw [kp.2.2.1];omega
 by_cases s:q.1=0
 ·rw [if_pos s] at hu ⊢;have ha:=hA hu;have hT:OkT C ds (B+1) q.2.1:=by
   have h9:=ha.2;rw [if_pos s] at h9;exact h9.same (by show 4=q.2.1.pc; rw [kp.2.2.2.2]; exact h4.symm) rfl hdone
  refine ⟨ha.1,hl,kp.2.1,?_⟩;exact { t:=hT,tp:=(by show q.2.1.pc=if K.pc=2 then 2 else if K.pc=7 then 3 else if K.pc=8 then 4 else 0; rw [if_neg (by omega),if_neg (by omega),if_pos h1,kp.2.2.2.2]; exact h4),pc:=h.pc,da:=h.da,s1:=fun h9=>absurd (h1.symm.trans h9) (by decide),s2:=fun h9=>absurd (h1.symm.trans h9) (by decide),sp:=h.sp,un:=h.un,to:=h.to,pu:=h.pu,ins:=h.ins,lk:=fun h9=>by rcases h9 with h9 | h9<;>exact absurd (h1.symm.trans h9) (by decide),ho:=fun h9=>absurd (kp.1.trans hh) h9,kk:=fun h9=>absurd (h1.symm.trans h9) (by decide),nd:=fun _=>(by show 1<=q.2.1.nd; rw [kp.2.1]; exact hn) }
 ·rw [if_neg s] at hu ⊢;have ha:=hA hu;have hT:=ha.2;rw [if_neg s] at hT;exact ⟨ha.1,hl,kp.2.1,KOk.fin (hT.idle hdone) rfl (kp.1.trans hh)⟩
theorem op_keep (hC:COk C) (hR:In64 (rtM C d)) (hF:OkF C f) (hS:LnkF C f) (h:KOk C ds B d K) (h1:1<=K.pc) (h8:K.pc≠8) (hu:∀ x,InU ((opM C d K f).2.2 x)):KOut C ds (B+1) d K (opM C d K f):=by
 have hpc:=h.pc
 rcases (show K.pc=1\/K.pc=2\/K.pc=3\/K.pc=4\/K.pc=5\/K.pc=6\/K.pc=7\/K.pc=9 by omega) with h9 | h9 | h9 | h9 | h9 | h9 | h9 | h9
 ·exact op1_keep hC hR hF hS h h9 hu
 ·exact op2_keep hC hF hS h h9 hu
 ·exact op3_keep hC hF hS h h9 hu
 ·exact op4_keep hC hF hS h h9 hu
 ·exact op5_keep hC hF hS h h9 hu
 ·exact op6_keep hC hR hF hS h h9 hu
 ·exact op7_keep hC hF hS h h9 hu
 ·exact op9_keep hC hF hS h h9 hu
theorem act_keep (hC:COk C) (hR:In64 (rtM C d)) (hF:OkF C f) (hS:LnkF C f) (h:KOk C ds B d K) (h1:1<=K.pc) (hu:∀ x,InU ((actK C d K f).2.2 x)):OkF C (actK C d K f).2.2/\LnkF C (actK C d K f).2.2/\(actK C d K f).2.1.T.nd=K.T.nd/\KOk C ds (B+1) d (actK C d K f).2.1:=by
 by_cases h8:K.pc=8
 ·exact op8_keep hC hF hS h h8 hu
 ·have hA:actK C d K f=((opM C d K f).1,{ (opM C d K f).2.1 with pc:=if (opM C d K f).1=0 then (opM C d K f).2.1.pc else 0 },(opM C d K f).2.2):=by unfold actK; rw [if_neg h8]
  rw [hA] at hu ⊢;have hk:=op_keep hC hR hF hS h h1 h8 hu;exact ⟨hk.f,hk.l,hk.nd,hk.k⟩
theorem KOk.any {d2:Dd} (h:KOk C ds B d K) (h0:K.pc=0):KOk C ds B d2 K:=by
 have hh:=h.hs0 (.inr h0);exact { t:=h.t,tp:=h.tp,pc:=h.pc,da:=h.da,s1:=h.s1,s2:=h.s2,sp:=h.sp,un:=fun h9=>absurd h9 (by omega),to:=fun h9=>absurd h9 (by omega),pu:=fun h9=>absurd h9 (by omega),ins:=fun h9=>by omega,lk:=h.lk,ho:=fun h9=>absurd hh h9,kk:=fun h9=>absurd h9 (by omega),nd:=h.nd }
def lastD (ds:List Dd) (K:Kt):Dd:=ds.getD (K.T.nd - 1) ⟨0,0,0,0,0⟩
theorem begin_keep (hC:COk C) (h:KOk C ds B d K) (h0:K.pc=0) (hlt:K.T.nd < ds.length) (d2:Dd):KOk C ds B d2 (beginK C d2 K)/\1<=(beginK C d2 K).pc/\(beginK C d2 K).T.nd=K.T.nd+1:=by
 have hh:=h.hs0 (.inr h0);have ht:=h.t0 (by omega);unfold beginK
 by_cases h8:d2.ok=8
 ·rw [if_pos h8];refine ⟨?_,by show 1<=8; decide,rfl⟩;exact { t:=h.t.begin4 hlt hC,tp:=rfl,pc:=(by show 8<=9; decide),da:=fun _ h9=>absurd rfl h9,s1:=fun h9=>no h9 rfl,s2:=fun h9=>no h9 rfl,sp:=fun _ h9=>absurd rfl h9,un:=fun _ h9=>absurd rfl h9,to:=fun _ h9=>absurd h9 (by show ¬ 8<=7; decide),pu:=fun h9=>no h9 rfl,ins:=fun h9=>by rcases h9 with h9 | h9<;>exact no h9 rfl,lk:=fun h9=>by rcases h9 with h9 | h9<;>exact no h9 rfl,ho:=fun h9=>absurd hh h9,kk:=fun h9=>no h9 rfl,nd:=fun _=>Nat.le_add_left 1 K.T.nd }
 ·rw [if_neg h8];exact ⟨KOk.find (h.t.begin0 hlt) ht (fun h9=>absurd hh h9) (Nat.le_add_left 1 K.T.nd) false _ (fun h=>absurd h (by decide)),Nat.le_refl 1,rfl⟩
theorem step_keep (hC:COk C) (hR:∀ d,In64 (rtM C d)) (hF:OkF C f) (hS:LnkF C f) (h:KOk C ds B (lastD ds K) K) (hu:∀ x,InU ((stepK C ds K f).2.2 x)):OkF C (stepK C ds K f).2.2/\LnkF C (stepK C ds K f).2.2/\KOk C ds (B+1) (lastD ds (stepK C ds K f).2.1) (stepK C ds K f).2.1:=by
 unfold stepK at hu ⊢
 by_cases h0:K.pc=0
 ·rw [if_pos h0] at hu ⊢
  by_cases hlt:K.T.nd < ds.length
  ·rw [if_pos hlt] at hu ⊢;have hb:=begin_keep hC h h0 hlt (ds.getD K.T.nd ⟨0,0,0,0,0⟩);have hk:=act_keep hC (hR _) hF hS hb.1 hb.2.1 hu;refine ⟨hk.1,hk.2.1,?_⟩;have hd:lastD ds (actK C (ds.getD K.T.nd ⟨0,0,0,0,0⟩) (beginK C (ds.getD K.T.nd ⟨0,0,0,0,0⟩) K) f).2.1=ds.getD K.T.nd ⟨0,0,0,0,0⟩:=by
    unfold lastD;rw [hk.2.2.1,hb.2.2];rfl
   rw [hd];exact hk.2.2.2
  ·rw [if_neg hlt] at hu ⊢;exact ⟨hF,hS,h.more⟩
 ·rw [if_neg h0] at hu ⊢;have hk:=act_keep hC (hR _) hF hS h (by omega) hu;refine ⟨hk.1,hk.2.1,?_⟩;have hd:lastD ds (actK C (ds.getD (K.T.nd - 1) ⟨0,0,0,0,0⟩) K f).2.1=lastD ds K:=by
   unfold lastD;have:=hk.2.2.1;unfold lastD at this;rw [this]
  rw [hd];exact hk.2.2.2
end
section
variable {w0 w:World} {R gl:List Item} {C:Cf} {X:Tm} {V:Wm} {K:Kt} {d:Dd} {f:Mem} {G:Nat->Prop} {qc:Cnt} {n o a l b1 b2:Nat} {left:Value} {s9:Int} {sp:Value}
theorem al_perm (x y z a:Item) (S:ST) (gl R:List Item):(x::y::z::((a::gl)++LT S R)).Perm (a::LT S (gl++(x::y::z::R))):=perm_of fun t=>by
 simp only [LT,List.count_append,List.count_cons];omega
theorem OutP.find {w':World} {K0:Kt} {n' c1 c2 sb:Nat} {F:Nat->Prop} {k:Nat} {G':Nat->Prop} {qc':Cnt} {f':Mem} (hda:K0.err=0/\K0.dn=false/\K0.vl=0) (hn:Nx n qc n' qc') (hE:Env w0 (boxI o (opT X.c d.ok d.key d.val d.lv (rtM C d) (cvP c1 c2) 0 (.pointer (some ⟨sb,0,none⟩)) 0 false 0)::boxI c1 [mvL 132 sb]::boxI c2 [mvL 133 o]::boxI sb (srC X.c (rtM C d) d.key true (.pointer none))::LT (SPK C { X with F:=F,kq:=k } V K0 f' G' qc' n') R) w'):OutP w0 R C X V d o n qc (0,findM C d K0,f') 0 w' :=
 OutP.go (F:=F) (k:=k) (sub:=[_]) hn (.inl ⟨rfl,sb,rfl,rfl,rfl,.inl ⟨rfl,rfl,.inl rfl⟩⟩) hE
theorem op2_p (hpc:K.pc=2) (hk:RowOk C K.T n) (hd:InU d.key/\InU d.val) (hda:K.err=0/\K.dn=false/\K.vl=0) (hg:Glo w0) (hlf:LeftIs C d K.T left s9 gl)
  (hE:Env w0 (boxI o (opT X.c d.ok d.key d.val d.lv (rtM C d) (cvP b1 b2) 0 sp 0 false 0)::boxI b1 [mvL 251 a]::boxI b2 [cmV X.c d.ok d.key d.val d.lv o 6 84 208]::((boxI a (avD X.c a d K.T left s9)::gl)++LT (SPK C X V K f G qc n) R)) w) :
  Calls prog 33 #[.pointer (some ⟨o,0,none⟩),.iface 26 (.pointer (some ⟨V.p,0,none⟩))] w fun e w'=>∃ s,e=.returned (.int .i64 s)/\OutP w0 R C X V d o n qc (opM C d K f) s w':=by
 have hM:opM C d K f=if (allocM C d K.T f).1=0 then (0,{ K with T:=(allocM C d K.T f).2.1 },(allocM C d K.T f).2.2) else if (allocM C d K.T f).1=3 then (1,{ K with T:={ (allocM C d K.T f).2.1 with pc:=0 },err:=6 },(allocM C d K.T f).2.2) else if (allocM C d K.T f).1=4 then (1,{ K with T:={ (allocM C d K.T f).2.1 with pc:=0 },err:=7 },(allocM C d K.T f).2.2) else (0,findM C d { K with T:={ (allocM C d K.T f).2.1 with pc:=0 } },(allocM C d K.T f).2.2):=by
  unfold opM;rw [if_neg (by omega),if_pos hpc]
 rw [hM];refine step_tV 251 a 250 (ndV X.c d.ok d.key d.val d.lv o 6 84 208) _ (fun _ _=>by kernel_rfl) (fun _ _=>by kernel_rfl) _ hE ?_;refine (alPx (C:=C) (X:={ X with cr:=K.r }) (V:=V) (T:=K.T) (d:=d) hg hk hd hlf (hE.perm (al_perm _ _ _ _ _ _ _))).mono ?_;rintro e w1 ⟨rfl,F',k',G',qc',n',hn',hcase⟩;have hst:=allocM_state C d K.T f;generalize allocM C d K.T f=q at *;obtain ⟨q1,T',f'⟩:=q;dsimp only at hst hcase ⊢;refine ⟨q1,rfl,fun h0=>?_,fun h0=>?_⟩
 ·subst h0;rw [if_pos rfl]
  rcases hcase with ⟨-,left',s',gl',hlf',hE'⟩ | ⟨h9,-⟩
  ·exact OutP.go (F:=F') (k:=k') (sub:=_::gl') hn' (.inr (.inl ⟨hpc,a,left',s',gl',rfl,rfl,hlf',rfl⟩)) (hE'.perm (al_perm _ _ _ _ _ _ _).symm)
  ·exact absurd rfl h9
 ·rw [if_neg h0]
  rcases hcase with ⟨h9,-⟩ | ⟨-,hE'⟩
  ·exact absurd h9 h0
  have hE2:=hE'.perm (rest_perm (boxI o (opT X.c d.ok d.key d.val d.lv (rtM C d) (cvP b1 b2) 0 sp 0 false 0)) (boxI b1 [mvL 251 a]) (boxI b2 [cmV X.c d.ok d.key d.val d.lv o 6 84 208]) _ [] R).symm;refine ⟨hE2.rule 2 rfl 0,?_⟩;have hE3:=hE2.sub (L':=boxI o (opT X.c d.ok d.key d.val d.lv (rtM C d) (cvP b1 b2) 0 sp 0 false 0)::LT (SP C { { X with cr:=K.r } with F:=F',kq:=k' } V T' f' G' qc' n') R) (.cons_cons _ (.cons _ (.cons _ (List.Sublist.refl _))))
  rcases hst with h | h | h | h | h
  ·exact absurd h h0
  ·subst h;refine cameFind_n 1 (.inl rfl) (fun _ _=>by kernel_rfl) _ hE3 fun v hv=>(find_t hv).mono ?_;rintro e w2 ⟨rfl,c1,c2,sb,hE4⟩;exact ⟨0,rfl,OutP.find (K0:={ K with T:={ T' with pc:=0 } }) (F:=F') (k:=k') hda hn' hE4⟩
  ·subst h;refine cameFind_n 2 (.inr rfl) (fun _ _=>by kernel_rfl) _ hE3 fun v hv=>(find_t hv).mono ?_;rintro e w2 ⟨rfl,c1,c2,sb,hE4⟩;exact ⟨0,rfl,OutP.find (K0:={ K with T:={ T' with pc:=0 } }) (F:=F') (k:=k') hda hn' hE4⟩
  ·subst h;refine cameOver_n 3 (.inl rfl) (fun _ _=>by kernel_rfl) _ hE3 fun v hv=>(over_t (3+3) false 0 hv).mono ?_;rintro e w2 ⟨rfl,hE4⟩;rw [if_pos rfl];have h5:opT X.c d.ok d.key d.val d.lv (rtM C d) (cvP b1 b2) 1 sp (3+3) false 0=opT X.c d.ok d.key d.val d.lv (rtM C d) (cvP b1 b2) 1 sp 6 K.dn K.vl:=by rw [hda.2.1,hda.2.2]; rfl
   rw [h5] at hE4;exact ⟨1,rfl,OutP.fin (K:={ K with T:={ T' with pc:=0 },err:=6 }) (F:=F') (k:=k') (show (1:Int)≠0 by decide) hn' hE4⟩
  ·subst h;refine cameOver_n 4 (.inr rfl) (fun _ _=>by kernel_rfl) _ hE3 fun v hv=>(over_t (4+3) false 0 hv).mono ?_;rintro e w2 ⟨rfl,hE4⟩;rw [if_neg (by decide),if_pos rfl];have h5:opT X.c d.ok d.key d.val d.lv (rtM C d) (cvP b1 b2) 1 sp (4+3) false 0=opT X.c d.ok d.key d.val d.lv (rtM C d) (cvP b1 b2) 1 sp 7 K.dn K.vl:=by rw [hda.2.1,hda.2.2]; rfl
   rw [h5] at hE4;exact ⟨1,rfl,OutP.fin (K:={ K with T:={ T' with pc:=0 },err:=7 }) (F:=F') (k:=k') (show (1:Int)≠0 by decide) hn' hE4⟩
theorem op3_p (hpc:K.pc=3) (hh:K.T.hs≠0) (hhs:In64 K.T.hs) (hW:InU K.L.W) (hwf:Wf K.L.p) (hda:K.err=0/\K.dn=false/\K.vl=0) (hg:Glo w0) (hn:n < maxLen)
  (hE:Env w0 (boxI o (opT X.c d.ok d.key d.val d.lv (rtM C d) (cvP b1 b2) 0 sp 0 false 0)::boxI b1 [mvL 213 l]::boxI b2 [mvL 214 o]::([boxI l (lkC X.c K.L.p.1 K.L.p.2.1 K.L.p.2.2 K.L.W K.L.C K.L.X (mvL (if K.laid then 277 else 247) l) 0)]++LT (SPK C X V K f G qc n) R)) w) :
  Calls prog 33 #[.pointer (some ⟨o,0,none⟩),.iface 26 (.pointer (some ⟨V.p,0,none⟩))] w fun e w'=>∃ s,e=.returned (.int .i64 s)/\OutP w0 R C X V d o n qc (opM C d K f) s w':=by
 refine step_tV 213 l 214 (.pointer (some ⟨o,0,none⟩)) _ (fun _ _=>by kernel_rfl) (fun _ _=>by kernel_rfl) _ hE ?_;have hE1:=hE.perm (rest_perm _ _ _ _ _ _);cases hl:K.laid
 ·rw [hl,if_neg (by decide)] at hE1;have hM:opM C d K f=(0,{ K with laid:=true },upd f (5,K.T.hs,7) (wordI false (slotI K.L.W) K.T.e)):=by
   unfold opM;rw [if_neg (by omega),if_neg (by omega),if_pos hpc,hl,if_neg (by decide)]
  rw [hM];refine stepMv_k 247 _ (fun _ _=>by kernel_rfl) _ hE1 ?_;refine (store_k (S:=SPK C X V K f G qc n) hh hhs hW hg hn hE1).mono ?_;rintro e w1 ⟨rfl,G',hE2⟩;refine ⟨0,rfl,0,rfl,fun _=>?_,fun h=>absurd rfl h⟩;refine OutP.go (K:={ K with laid:=true }) (F:=X.F) (k:=X.kq) (sub:=[_]) ⟨Nat.le_refl _,(by first | exact Or.inl ⟨rfl,rfl,rfl,rfl⟩ | exact Or.inr (Or.inl ⟨rfl,rfl,rfl,rfl⟩) | exact Or.inr (Or.inr (Or.inl ⟨rfl,rfl,rfl,rfl⟩)) | exact Or.inr (Or.inr (Or.inr ⟨rfl,rfl,rfl,rfl⟩)))⟩ (.inr (.inr (.inl ⟨hpc,l,rfl,rfl,rfl⟩))) (hE2.perm (rest_perm _ _ _ _ [_] _).symm)
 ·rw [hl,if_pos rfl] at hE1;refine stepMv_k 277 _ (fun _ _=>by kernel_rfl) _ hE1 ?_;refine (put_k (S:=SPK C X V K f G qc n) hh hwf hg hn hE1).mono ?_;rintro e w1 ⟨rfl,G',hE2⟩;refine ⟨_,rfl,_,rfl,fun h0=>?_,fun _=>?_⟩
  ·exfalso
   split at h0<;>exact absurd h0 (by decide)
  have hE3:=hE2.perm (rest_perm (boxI o (opT X.c d.ok d.key d.val d.lv (rtM C d) (cvP b1 b2) 0 sp 0 false 0)) (boxI b1 [mvL 213 l]) (boxI b2 [mvL 214 o]) _ [] R).symm;refine ⟨hE3.rule 2 rfl 0,?_⟩
  by_cases heq:f K.L.p=K.L.W
  ·have heq':(SPK C X V K f G qc n).f (K.L.p.1,K.L.p.2.1,K.L.p.2.2)=K.L.W:=heq;have hM:opM C d K f=(1,{ K with T:={ K.T with hs:=0 },dn:=decide (d.ok=5) },swf f K.L.p K.L.W (wordI false K.T.hs K.T.e)):=by
    unfold opM;rw [if_neg (by omega),if_neg (by omega),if_pos hpc,hl,if_pos rfl,if_pos heq]
   rw [hM,if_pos heq'];have hE4:=hE3.sub (L':=boxI o (opT X.c d.ok d.key d.val d.lv (rtM C d) (cvP b1 b2) 0 sp 0 false 0)::LT _ R) (.cons_cons _ (.cons _ (.cons _ (List.Sublist.refl _))));refine (linkedDone_t hE4).mono ?_;rintro e w2 ⟨rfl,hE5⟩;rw [if_pos heq'] at hE5;have h5:opT X.c d.ok d.key d.val d.lv (rtM C d) (cvP b1 b2) 1 sp 0 (decide (d.ok=5)) 0=opT X.c d.ok d.key d.val d.lv (rtM C d) (cvP b1 b2) 1 sp K.err (decide (d.ok=5)) K.vl:=by rw [hda.1,hda.2.2]
   rw [h5] at hE5;exact ⟨1,rfl,OutP.fin (K:={ K with T:={ K.T with hs:=0 },dn:=decide (d.ok=5) }) (F:=X.F) (k:=X.kq) (show (1:Int)≠0 by decide) ⟨Nat.le_refl _,(by first | exact Or.inl ⟨rfl,rfl,rfl,rfl⟩ | exact Or.inr (Or.inl ⟨rfl,rfl,rfl,rfl⟩) | exact Or.inr (Or.inr (Or.inl ⟨rfl,rfl,rfl,rfl⟩)) | exact Or.inr (Or.inr (Or.inr ⟨rfl,rfl,rfl,rfl⟩)))⟩ hE5⟩
  ·have heq':¬ (SPK C X V K f G qc n).f (K.L.p.1,K.L.p.2.1,K.L.p.2.2)=K.L.W:=heq;have hM:opM C d K f=(0,findM C d K,swf f K.L.p K.L.W (wordI false K.T.hs K.T.e)):=by
    unfold opM;rw [if_neg (by omega),if_neg (by omega),if_pos hpc,hl,if_pos rfl,if_neg heq]
   rw [hM,if_neg heq'];have hE4:=hE3.sub (L':=boxI o (opT X.c d.ok d.key d.val d.lv (rtM C d) (cvP b1 b2) 0 sp 0 false 0)::LT _ R) (.cons_cons _ (.cons _ (.cons _ (List.Sublist.refl _))));refine (linkedFind_t hE4).mono ?_;rintro e w2 ⟨rfl,c1,c2,sb,hE5⟩;rw [if_neg heq'] at hE5;exact ⟨0,rfl,OutP.find (K0:=K) (F:=X.F) (k:=X.kq) hda ⟨Nat.le_refl _,(by first | exact Or.inl ⟨rfl,rfl,rfl,rfl⟩ | exact Or.inr (Or.inl ⟨rfl,rfl,rfl,rfl⟩) | exact Or.inr (Or.inr (Or.inl ⟨rfl,rfl,rfl,rfl⟩)) | exact Or.inr (Or.inr (Or.inr ⟨rfl,rfl,rfl,rfl⟩)))⟩ hE5⟩
theorem op9_p {sb:Nat} {lnx:Value} {wd:Int} (hpc:K.pc=9) (hd4:d.ok=4) (hh:K.T.hs≠0) (hhs:In64 K.T.hs) (hX:InU K.L.X) (hg:Glo w0) (hn:n < maxLen)
  (hE:Env w0 (boxI o (opT X.c d.ok d.key d.val d.lv (rtM C d) (mvL 243 o) 0 (.pointer (some ⟨sb,0,none⟩)) 0 false 0)::srT X.c sb a (rtM C d) d.key::lnT X.c a d.key lnx wd K.L::LT (SPK C X V K f G qc n) R) w) :
  Calls prog 33 #[.pointer (some ⟨o,0,none⟩),.iface 26 (.pointer (some ⟨V.p,0,none⟩))] w fun e w'=>∃ s,e=.returned (.int .i64 s)/\OutP w0 R C X V d o n qc (opM C d K f) s w':=by
 have hM:opM C d K f=(0,{ K with pc:=4,to:=K.T.hs },upd f (5,K.T.hs,7) (wordI false (slotI K.L.X) K.T.e)):=by
  unfold opM;rw [if_neg (by omega),if_neg (by omega),if_neg (by omega),if_pos hpc]
 rw [hM];refine stepMv_t 243 _ (fun _ _=>by kernel_rfl) _ hE ?_;rw [hd4] at hE;refine (store_t (S:=SPK C X V K f G qc n) hh hhs hX hg hn hE).mono ?_;rintro e w1 ⟨rfl,G',c1,c2,u,hE2⟩;refine ⟨0,rfl,?_⟩;rw [<- hd4] at hE2;exact OutP.go (K:={ K with pc:=4,to:=K.T.hs }) (F:=X.F) (k:=X.kq) (sub:=[_,_,_]) ⟨Nat.le_refl _,(by first | exact Or.inl ⟨rfl,rfl,rfl,rfl⟩ | exact Or.inr (Or.inl ⟨rfl,rfl,rfl,rfl⟩) | exact Or.inr (Or.inr (Or.inl ⟨rfl,rfl,rfl,rfl⟩)) | exact Or.inr (Or.inr (Or.inr ⟨rfl,rfl,rfl,rfl⟩)))⟩ (.inr (.inr (.inr (.inl ⟨.inl rfl,u,sb,a,lnx,wd,rfl,rfl,rfl,rfl⟩)))) hE2
end
theorem uk_perm (a b c x s t:Item) (ys:List Item) (S:ST) (R:List Item):(a::b::c::((x::s::t::ys)++LT S R)).Perm (x::(ys++LT S (s::t::a::b::c::R))):=perm_of fun z=>by
 simp only [LT,List.count_append,List.count_cons];omega
section
variable {w0 w:World} {R L9 sub2:List Item} {C:Cf} {X:Tm} {V:Wm} {K:Kt} {d:Dd} {f:Mem} {G:Nat->Prop} {qc:Cnt} {n o l r s2 sb a b1 b2 b3 b4:Nat} {sp nx lnx:Value} {wd x y z W k key:Int}
theorem markBoth_t (hX:InU K.L.X) (hmk:markB K.L.X=false) (hs0:K.T.hs=0\/K.to=K.T.hs) (hC:In64 K.L.C) (hg:Glo w0) (hn:n < maxLen) (hE:Env w0 (boxI l (ukC X.c x y z W K.L.C K.L.X k key K.to nx 0)::LT (SPK C X V K f G qc n) L9) w) :
  Calls prog 260 #[.pointer (some ⟨l,0,none⟩),.iface 26 (.pointer (some ⟨V.p,0,none⟩))] w fun e w'=>e=.returned (.int .i64 (if f (5,K.L.C,7)=K.L.X then 0 else 2))/\∃ G' nx',(f (5,K.L.C,7)=K.L.X->nx'=mvL 287 l)/\Env w0 (boxI l (ukC X.c x y z W K.L.C K.L.X k key K.to nx' (if f (5,K.L.C,7)=K.L.X then 0 else 2))::LT (SPK C X V { K with T:={ K.T with hs:=if f (5,K.L.C,7)=K.L.X then 0 else K.T.hs } } (swf f (5,K.L.C,7) K.L.X (markM K.to K.T.e)) G' (swq qc (decide (f (5,K.L.C,7)=K.L.X))) (n+1)) L9) w':=by
 by_cases hh:K.T.hs=0
 ·refine (mark_k (S:=SPK C X V K f G qc n) hX hmk hh hC hg hn hE).mono ?_;rintro e w1 ⟨rfl,G',nx',h1,hE2⟩;refine ⟨rfl,G',nx',h1,?_⟩;rw [show (if f (5,K.L.C,7)=K.L.X then (0:Int) else K.T.hs)=K.T.hs by split<;>simp [hh]];exact hE2
 ·have ht:K.to=K.T.hs:=hs0.elim (fun h=>absurd h hh) id;rw [ht] at hE ⊢;refine (markHeld_k (S:=SPK C X V K f G qc n) hX hmk hh hC hg hn hE).mono ?_;rintro e w1 ⟨rfl,G',nx',h1,hE2⟩;exact ⟨rfl,G',nx',h1,hE2⟩
theorem op4_p (hpc:K.pc=4) (hX:InU K.L.X) (hmk:markB K.L.X=false) (hs0:K.T.hs=0\/K.to=K.T.hs) (hC:In64 K.L.C) (hda:K.err=0/\K.dn=false/\K.vl=0) (hg:Glo w0) (hn:n < maxLen)
  (hE:Env w0 (boxI o (opT X.c d.ok d.key d.val d.lv (rtM C d) (cvP b1 b2) 0 (.pointer (some ⟨sb,0,none⟩)) 0 false 0)::boxI b1 [mvL 224 l]::boxI b2 [mvL 244 o]::([boxI l (ukC X.c K.L.p.1 K.L.p.2.1 K.L.p.2.2 K.L.W K.L.C K.L.X (rtM C d) d.key K.to (mvL 260 l) 0),srT X.c sb a (rtM C d) d.key,lnT X.c a d.key lnx wd K.L]++LT (SPK C X V K f G qc n) R)) w) :
  Calls prog 33 #[.pointer (some ⟨o,0,none⟩),.iface 26 (.pointer (some ⟨V.p,0,none⟩))] w fun e w'=>∃ s,e=.returned (.int .i64 s)/\OutP w0 R C X V d o n qc (opM C d K f) s w':=by
 refine step_tV 224 l 244 (.pointer (some ⟨o,0,none⟩)) _ (fun _ _=>by kernel_rfl) (fun _ _=>by kernel_rfl) _ hE ?_;have hE1:=hE.perm (uk_perm _ _ _ _ _ _ [] _ _);refine stepMv_u 260 _ (fun _ _=>by kernel_rfl) _ hE1 ?_;refine (markBoth_t hX hmk hs0 hC hg hn hE1).mono ?_;rintro e w1 ⟨rfl,G',nx',hnx,hE2⟩
 by_cases heq:f (5,K.L.C,7)=K.L.X
 ·have hM:opM C d K f=(0,{ K with pc:=5,T:={ K.T with hs:=0 } },swf f (5,K.L.C,7) K.L.X (markM K.to K.T.e)):=by
   unfold opM;rw [if_neg (by omega),if_neg (by omega),if_neg (by omega),if_neg (by omega),if_pos hpc,if_pos heq]
  rw [hM];rw [if_pos heq,if_pos heq] at hE2;rw [if_pos heq];refine ⟨0,rfl,0,rfl,fun _=>?_,fun h=>absurd rfl h⟩;have hnx:=hnx heq;subst hnx;exact OutP.go (K:={ K with pc:=5,T:={ K.T with hs:=0 } }) (F:=X.F) (k:=X.kq) (sub:=[_,_,_]) ⟨Nat.le_refl _,(by first | exact Or.inl ⟨rfl,rfl,rfl,rfl⟩ | exact Or.inr (Or.inl ⟨rfl,rfl,rfl,rfl⟩) | exact Or.inr (Or.inr (Or.inl ⟨rfl,rfl,rfl,rfl⟩)) | exact Or.inr (Or.inr (Or.inr ⟨rfl,rfl,rfl,rfl⟩)))⟩ (.inr (.inr (.inr (.inl ⟨.inr rfl,l,sb,a,lnx,wd,rfl,rfl,rfl,rfl⟩)))) (hE2.perm (uk_perm _ _ _ _ _ _ [] _ _).symm)
 ·have hM:opM C d K f=(0,findM C d K,swf f (5,K.L.C,7) K.L.X (markM K.to K.T.e)):=by
   unfold opM;rw [if_neg (by omega),if_neg (by omega),if_neg (by omega),if_neg (by omega),if_pos hpc,if_neg heq]
  rw [hM];rw [if_neg heq,if_neg heq] at hE2;rw [if_neg heq];refine ⟨2,rfl,2,rfl,fun h=>absurd h (by decide),fun _=>?_⟩;have hE3:=hE2.perm (uk_perm (boxI o (opT X.c d.ok d.key d.val d.lv (rtM C d) (cvP b1 b2) 0 (.pointer (some ⟨sb,0,none⟩)) 0 false 0)) (boxI b1 [mvL 224 l]) (boxI b2 [mvL 244 o]) _ _ _ [] _ R).symm;refine ⟨hE3.rule 2 rfl 0,?_⟩;have hE4:=hE3.sub (L':=boxI o (opT X.c d.ok d.key d.val d.lv (rtM C d) (cvP b1 b2) 0 (.pointer (some ⟨sb,0,none⟩)) 0 false 0)::LT _ R) (.cons_cons _ (.cons _ (.cons _ (.cons _ (.cons _ (.cons _ (List.Sublist.refl _)))))));refine (unlinkedFind_t (S:=SPK C X V K (swf f (5,K.L.C,7) K.L.X (markM K.to K.T.e)) G' (swq qc (decide (f (5,K.L.C,7)=K.L.X))) (n+1)) hE4).mono ?_;rintro e w2 ⟨rfl,c1,c2,sb2,hE5⟩;exact ⟨0,rfl,OutP.find (K0:=K) (F:=X.F) (k:=X.kq) hda ⟨Nat.le_refl _,(by first | exact Or.inl ⟨rfl,rfl,rfl,rfl⟩ | exact Or.inr (Or.inl ⟨rfl,rfl,rfl,rfl⟩) | exact Or.inr (Or.inr (Or.inl ⟨rfl,rfl,rfl,rfl⟩)) | exact Or.inr (Or.inr (Or.inr ⟨rfl,rfl,rfl,rfl⟩)))⟩ hE5⟩
theorem op5_p (hpc:K.pc=5) (hwf:Wf K.L.p) (hg:Glo w0) (hn:n < maxLen)
  (hE:Env w0 (boxI o (opT X.c d.ok d.key d.val d.lv (rtM C d) (cvP b1 b2) 0 (.pointer (some ⟨sb,0,none⟩)) 0 false 0)::boxI b1 [mvL 224 l]::boxI b2 [mvL 244 o]::([boxI l (ukC X.c K.L.p.1 K.L.p.2.1 K.L.p.2.2 K.L.W K.L.C K.L.X (rtM C d) d.key K.to (mvL 287 l) 0),srT X.c sb a (rtM C d) d.key,lnT X.c a d.key lnx wd K.L]++LT (SPK C X V K f G qc n) R)) w) :
  Calls prog 33 #[.pointer (some ⟨o,0,none⟩),.iface 26 (.pointer (some ⟨V.p,0,none⟩))] w fun e w'=>∃ s,e=.returned (.int .i64 s)/\OutP w0 R C X V d o n qc (opM C d K f) s w':=by
 refine step_tV 224 l 244 (.pointer (some ⟨o,0,none⟩)) _ (fun _ _=>by kernel_rfl) (fun _ _=>by kernel_rfl) _ hE ?_;have hE1:=hE.perm (uk_perm _ _ _ _ _ _ [] _ _);refine stepMv_u 287 _ (fun _ _=>by kernel_rfl) _ hE1 ?_;refine (cut_k (S:=SPK C X V K f G qc n) hwf hg hn hE1).mono ?_;rintro e w1 ⟨rfl,G',b3,b4,hc⟩;refine ⟨0,rfl,0,rfl,fun _=>?_,fun h=>absurd rfl h⟩
 rcases hc with ⟨heq,r,hE2⟩ | ⟨heq,s9,hE2⟩
 ·have heq':f K.L.p=K.L.W:=heq;have hM:opM C d K f=(0,{ K with pc:=7,T:={ K.T with pc:=3,rs:=K.L.C,rpc:=0,re:=0 } },swf f K.L.p K.L.W (wordI false K.to K.T.e)):=by
   unfold opM;rw [if_neg (by omega),if_neg (by omega),if_neg (by omega),if_neg (by omega),if_neg (by omega),if_pos hpc,if_pos heq']
  rw [hM];exact OutP.go (K:={ K with pc:=7,T:={ K.T with pc:=3,rs:=K.L.C,rpc:=0,re:=0 } }) (F:=X.F) (k:=X.kq) (sub:=[_,_,_,_,_,_]) ⟨Nat.le_refl _,(by first | exact Or.inl ⟨rfl,rfl,rfl,rfl⟩ | exact Or.inr (Or.inl ⟨rfl,rfl,rfl,rfl⟩) | exact Or.inr (Or.inr (Or.inl ⟨rfl,rfl,rfl,rfl⟩)) | exact Or.inr (Or.inr (Or.inr ⟨rfl,rfl,rfl,rfl⟩)))⟩ (.inr (.inr (.inr (.inr (.inr ⟨rfl,l,sb,a,lnx,wd,b3,b4,r,rfl,rfl,rfl,rfl⟩))))) (hE2.perm (uk_perm _ _ _ _ _ _ [_,_,_] _ _).symm)
 ·have heq':¬ f K.L.p=K.L.W:=heq;have hM:opM C d K f=(0,{ K with pc:=6,on2:=false,L2:=L0 (4,0,rtM C d) },swf f K.L.p K.L.W (wordI false K.to K.T.e)):=by
   unfold opM;rw [if_neg (by omega),if_neg (by omega),if_neg (by omega),if_neg (by omega),if_neg (by omega),if_pos hpc,if_neg heq']
  rw [hM];exact OutP.go (K:={ K with pc:=6,on2:=false,L2:=L0 (4,0,rtM C d) }) (F:=X.F) (k:=X.kq) (sub:=[_,_,_,_,_,_]) ⟨Nat.le_refl _,(by first | exact Or.inl ⟨rfl,rfl,rfl,rfl⟩ | exact Or.inr (Or.inl ⟨rfl,rfl,rfl,rfl⟩) | exact Or.inr (Or.inr (Or.inl ⟨rfl,rfl,rfl,rfl⟩)) | exact Or.inr (Or.inr (Or.inr ⟨rfl,rfl,rfl,rfl⟩)))⟩ (.inr (.inr (.inr (.inr (.inl ⟨rfl,l,sb,a,lnx,wd,b3,b4,s9,[_],rfl,rfl,rfl,.inl ⟨rfl,rfl,.inl rfl⟩,rfl⟩))))) (hE2.perm (uk_perm _ _ _ _ _ _ [_,_,_] _ _).symm)
theorem op6_p (hpc:K.pc=6) (hon:K.on2=true->LaneOk C K.L2) (hg:Glo w0) (hn:n < maxLen) (hS:SIt X.c s2 (rtM C d) d.key false K.on2 K.L2 0 sub2)
  (hE:Env w0 (boxI o (opT X.c d.ok d.key d.val d.lv (rtM C d) (cvP b1 b2) 0 (.pointer (some ⟨sb,0,none⟩)) 0 false 0)::boxI b1 [mvL 224 l]::boxI b2 [mvL 244 o]::((boxI l (ukC X.c K.L.p.1 K.L.p.2.1 K.L.p.2.2 K.L.W K.L.C K.L.X (rtM C d) d.key K.to (cvP b3 b4) 0)::srT X.c sb a (rtM C d) d.key::lnT X.c a d.key lnx wd K.L::boxI b3 [mvL 132 s2]::boxI b4 [mvL 305 l]::sub2)++LT (SPK C X V K f G qc n) R)) w) :
  Calls prog 33 #[.pointer (some ⟨o,0,none⟩),.iface 26 (.pointer (some ⟨V.p,0,none⟩))] w fun e w'=>∃ s,e=.returned (.int .i64 s)/\OutP w0 R C X V d o n qc (opM C d K f) s w':=by
 have hM:opM C d K f=if (searchM (rtM C d) d.key false ⟨K.on2,K.L2,K.T.e,K.r⟩ f).1=1 then (0,{ K with on2:=(searchM (rtM C d) d.key false ⟨K.on2,K.L2,K.T.e,K.r⟩ f).2.1.on,L2:=(searchM (rtM C d) d.key false ⟨K.on2,K.L2,K.T.e,K.r⟩ f).2.1.L,r:=(searchM (rtM C d) d.key false ⟨K.on2,K.L2,K.T.e,K.r⟩ f).2.1.r,pc:=7,T:={ K.T with e:=(searchM (rtM C d) d.key false ⟨K.on2,K.L2,K.T.e,K.r⟩ f).2.1.e,pc:=3,rs:=K.L.C,rpc:=0,re:=0 } },(searchM (rtM C d) d.key false ⟨K.on2,K.L2,K.T.e,K.r⟩ f).2.2) else (0,{ K with on2:=(searchM (rtM C d) d.key false ⟨K.on2,K.L2,K.T.e,K.r⟩ f).2.1.on,L2:=(searchM (rtM C d) d.key false ⟨K.on2,K.L2,K.T.e,K.r⟩ f).2.1.L,r:=(searchM (rtM C d) d.key false ⟨K.on2,K.L2,K.T.e,K.r⟩ f).2.1.r,T:={ K.T with e:=(searchM (rtM C d) d.key false ⟨K.on2,K.L2,K.T.e,K.r⟩ f).2.1.e } },(searchM (rtM C d) d.key false ⟨K.on2,K.L2,K.T.e,K.r⟩ f).2.2):=by
  unfold opM;rw [if_neg (by omega),if_neg (by omega),if_neg (by omega),if_neg (by omega),if_neg (by omega),if_neg (by omega),if_pos hpc]
 rw [hM];refine step_tV 224 l 244 (.pointer (some ⟨o,0,none⟩)) _ (fun _ _=>by kernel_rfl) (fun _ _=>by kernel_rfl) _ hE ?_;have hE1:Env w0 (boxI l (ukC X.c K.L.p.1 K.L.p.2.1 K.L.p.2.2 K.L.W K.L.C K.L.X (rtM C d) d.key K.to (cvP b3 b4) 0)::boxI b3 [mvL 132 s2]::boxI b4 [mvL 305 l]::(sub2++LT (SPK C X V K f G qc n) (srT X.c sb a (rtM C d) d.key::lnT X.c a d.key lnx wd K.L::boxI o (opT X.c d.ok d.key d.val d.lv (rtM C d) (cvP b1 b2) 0 (.pointer (some ⟨sb,0,none⟩)) 0 false 0)::boxI b1 [mvL 224 l]::boxI b2 [mvL 244 o]::R))) w:=hE.perm (uk_perm _ _ _ _ _ _ (_::_::sub2) _ _);refine (step_u 132 s2 _ (.pointer (some ⟨l,0,none⟩)) 305 (fun _ _=>by kernel_rfl) (fun _ _=>by kernel_rfl) (fun s w'=>s=0/\OutP w0 R C X V d o n qc _ 0 w') hE1 ?_).mono (fun e w' ⟨s,he,hs,hq⟩=>⟨s,he,fun _=>hq,fun h=>absurd hs h⟩);refine (search_I (C:=C) (X:=X) (V:=V) (T:=K.T) (r:=K.r) hon hg hn hS (hE1.perm (rest_perm _ _ _ _ _ _))).mono ?_;rintro e w1 ⟨rfl,G',qc',n',sub',hn',hS',hE'⟩;have hst:=search_state (rtM C d) d.key false ⟨K.on2,K.L2,K.T.e,K.r⟩ f;generalize searchM (rtM C d) d.key false ⟨K.on2,K.L2,K.T.e,K.r⟩ f=q at *;obtain ⟨q1,⟨on',L',e',r'⟩,f'⟩:=q;dsimp only at hst hS' hE' ⊢;have hE2:=hE'.perm (rest_perm _ _ _ _ _ _).symm;refine ⟨q1,rfl,fun h0=>⟨rfl,?_⟩,fun h0=>?_⟩
 ·subst h0;rw [if_neg (by decide)];exact OutP.go (K:={ K with on2:=on',L2:=L',r:=r',T:={ K.T with e:=e' } }) (F:=X.F) (k:=X.kq) (sub:=_::_::_::_::_::sub') hn' (.inr (.inr (.inr (.inr (.inl ⟨hpc,l,sb,a,lnx,wd,b3,b4,s2,sub',rfl,rfl,rfl,hS',rfl⟩))))) (hE2.perm (uk_perm _ _ _ _ _ _ (_::_::sub') _ _).symm)
 ·rcases hst with h9 | ⟨h9,h8⟩
  ·exact absurd h9 h0
  ·subst h9;rw [if_pos rfl];refine ⟨hE2.rule 2 rfl 0,?_⟩;have hE3:=hE2.sub (L':=boxI l (ukC X.c K.L.p.1 K.L.p.2.1 K.L.p.2.2 K.L.W K.L.C K.L.X (rtM C d) d.key K.to (cvP b3 b4) 0)::LT (SP C { X with cr:=r' } V { K.T with e:=e' } f' G' qc' n') (srT X.c sb a (rtM C d) d.key::lnT X.c a d.key lnx wd K.L::boxI o (opT X.c d.ok d.key d.val d.lv (rtM C d) (cvP b1 b2) 0 (.pointer (some ⟨sb,0,none⟩)) 0 false 0)::boxI b1 [mvL 224 l]::boxI b2 [mvL 244 o]::R)) (.cons_cons _ (.cons _ (.cons _ (List.sublist_append_right sub' _))));refine (retire_k (S:=SP C { X with cr:=r' } V { K.T with e:=e' } f' G' qc' n') 1 hE3).mono ?_;rintro e2 w2 ⟨rfl,c3,c4,r9,hE4⟩;refine ⟨0,rfl,rfl,?_⟩;exact OutP.go (K:={ K with on2:=on',L2:=L',r:=r',pc:=7,T:={ K.T with e:=e',pc:=3,rs:=K.L.C,rpc:=0,re:=0 } }) (F:=X.F) (k:=X.kq) (sub:=[_,_,_,_,_,_]) hn' (.inr (.inr (.inr (.inr (.inr ⟨rfl,l,sb,a,lnx,wd,c3,c4,r9,rfl,rfl,rfl,rfl⟩))))) (hE4.perm (uk_perm _ _ _ _ _ _ [_,_,_] _ _).symm)
theorem op7_p (hpc:K.pc=7) (hl:K.T.ql.length+1<=1000000) (he:InU K.T.re) (hs:In64 K.T.rs) (hr:K.T.rpc=0\/K.T.rpc=1) (hda:K.err=0/\K.dn=false/\K.vl=0) (hn:n < maxLen)
  (hE:Env w0 (boxI o (opT X.c d.ok d.key d.val d.lv (rtM C d) (cvP b1 b2) 0 (.pointer (some ⟨sb,0,none⟩)) 0 false 0)::boxI b1 [mvL 224 l]::boxI b2 [mvL 244 o]::([boxI l (ukC X.c K.L.p.1 K.L.p.2.1 K.L.p.2.2 K.L.W K.L.C K.L.X (rtM C d) d.key K.to (cvP b3 b4) 0),srT X.c sb a (rtM C d) d.key,lnT X.c a d.key lnx wd K.L,boxI b3 [mvL 322 r],boxI b4 [mvE l 17],boxI r (rtv X.c (nxR r K.T.rpc) K.T.rs K.T.re)]++LT (SPK C X V K f G qc n) R)) w) :
  Calls prog 33 #[.pointer (some ⟨o,0,none⟩),.iface 26 (.pointer (some ⟨V.p,0,none⟩))] w fun e w'=>∃ s,e=.returned (.int .i64 s)/\OutP w0 R C X V d o n qc (opM C d K f) s w':=by
 have hM:opM C d K f=if (retireM K.T f).1=0 then (0,{ K with T:=(retireM K.T f).2.1 },(retireM K.T f).2.2) else (1,{ K with T:={ (retireM K.T f).2.1 with pc:=0 },dn:=true,vl:=K.L.V },(retireM K.T f).2.2):=by
  unfold opM;rw [if_neg (by omega),if_neg (by omega),if_neg (by omega),if_neg (by omega),if_neg (by omega),if_neg (by omega),if_neg (by omega)]
 rw [hM];refine step_tV 224 l 244 (.pointer (some ⟨o,0,none⟩)) _ (fun _ _=>by kernel_rfl) (fun _ _=>by kernel_rfl) _ hE ?_;have hE1:=hE.perm (uk_perm _ _ _ _ _ _ [_,_,_] _ _);refine (step_u 322 r _ (.pointer (some ⟨l,17,none⟩)) 194 (fun _ _=>by kernel_rfl) (fun _ _=>by kernel_rfl) (fun s w'=>(s=0->OutP w0 R C X V d o n qc _ 0 w')/\(s≠0->w'.cell? ⟨b2,0,none⟩=some (mvL 244 o)/\Calls prog 244 #[.pointer (some ⟨o,0,none⟩),.int .i64 s] w' fun e2 w2=>∃ s2,e2=.returned (.int .i64 s2)/\OutP w0 R C X V d o n qc _ s2 w2)) hE1 ?_).mono (fun e w' ⟨s,he,hq⟩=>⟨s,he,hq.1,hq.2⟩);have hE2:Env w0 (boxI r (rtv X.c (nxR r K.T.rpc) K.T.rs K.T.re)::LT (SP C { X with cr:=K.r } V K.T f G qc n) (boxI l (ukC X.c K.L.p.1 K.L.p.2.1 K.L.p.2.2 K.L.W K.L.C K.L.X (rtM C d) d.key K.to (cvP b3 b4) 0)::boxI b3 [mvL 322 r]::boxI b4 [mvE l 17]::srT X.c sb a (rtM C d) d.key::lnT X.c a d.key lnx wd K.L::boxI o (opT X.c d.ok d.key d.val d.lv (rtM C d) (cvP b1 b2) 0 (.pointer (some ⟨sb,0,none⟩)) 0 false 0)::boxI b1 [mvL 224 l]::boxI b2 [mvL 244 o]::R)) w:=hE1.perm (rest_perm _ _ _ _ [_] _);refine (rePx (C:=C) (X:={ X with cr:=K.r }) (V:=V) (T:=K.T) hn hl he hs hE2).mono ?_;rintro e w1 ⟨rfl,F',k',G',qc',n',hn',hcase⟩;have hrs:(retireM K.T f).1=0\/(retireM K.T f).1=1:=by
  unfold retireM
  split
  ·exact .inl rfl
  ·exact .inr rfl
 have hkeep:(retireM K.T f).2.1.rs=K.T.rs:=by
  unfold retireM
  split<;>rfl
 generalize retireM K.T f=q at *;obtain ⟨q1,T',f'⟩:=q;dsimp only at hrs hcase hkeep ⊢;refine ⟨q1,rfl,fun h0=>⟨fun _=>?_,fun h=>absurd rfl h⟩,fun h0=>?_⟩
 ·subst h0;rw [if_pos rfl]
  rcases hcase with ⟨-,hE'⟩ | ⟨h9,-⟩
  ·exact OutP.go (K:={ K with T:=T' }) (F:=F') (k:=k') (sub:=[_,_,_,_,_,_]) hn' (.inr (.inr (.inr (.inr (.inr ⟨hpc,l,sb,a,lnx,wd,b3,b4,r,rfl,rfl,rfl,rfl⟩))))) ((hE'.perm (rest_perm _ _ _ _ [_] _).symm).perm (uk_perm _ _ _ _ _ _ [_,_,_] _ _).symm)
  ·exact absurd rfl h9
 ·rcases hrs with h | h
  ·exact absurd h h0
  subst h
  rcases hcase with ⟨h9,-⟩ | ⟨-,hE'⟩
  ·exact absurd h9 (by decide)
  have hE3:=hE'.perm (L':=boxI l (ukC X.c K.L.p.1 K.L.p.2.1 K.L.p.2.2 K.L.W K.L.C K.L.X (rtM C d) d.key K.to (cvP b3 b4) 0)::boxI b3 [mvL 322 r]::boxI b4 [mvE l 17]::boxI o (opT X.c d.ok d.key d.val d.lv (rtM C d) (cvP b1 b2) 0 (.pointer (some ⟨sb,0,none⟩)) 0 false 0)::boxI b1 [mvL 224 l]::boxI b2 [mvL 244 o]::srT X.c sb a (rtM C d) d.key::lnT X.c a d.key lnx wd K.L::LT (SP C { { X with cr:=K.r } with F:=F',kq:=k' } V T' f' G' qc' n') R) (perm_of fun z=>by simp only [LT,List.count_cons]; omega);refine ⟨hE3.rule 2 rfl 0,?_⟩;refine (end_r (o:=17) 0 1 (by simp [ukC]) hE3 rfl).mono ?_;rintro e2 w2 ⟨rfl,hE4⟩;refine ⟨1,rfl,fun h=>absurd h (by decide),fun _=>⟨hE4.rule 5 rfl 0,?_⟩⟩;have hE5:=hE4.sub (L':=boxI o (opT X.c d.ok d.key d.val d.lv (rtM C d) (cvP b1 b2) 0 (.pointer (some ⟨sb,0,none⟩)) 0 false 0)::srT X.c sb a (rtM C d) d.key::lnT X.c a d.key lnx wd K.L::LT (SP C { { X with cr:=K.r } with F:=F',kq:=k' } V T' f' G' qc' n') R) (.cons _ (.cons _ (.cons _ (.cons_cons _ (.cons _ (.cons _ (List.Sublist.refl _)))))));refine (unlinkedDone_t (S:=SP C { { X with cr:=K.r } with F:=F',kq:=k' } V T' f' G' qc' n') hE5).mono ?_;rintro e3 w3 ⟨rfl,hE6⟩;rw [if_neg (by decide)];have h5:opT X.c d.ok d.key d.val d.lv (rtM C d) (cvP b1 b2) 1 (.pointer (some ⟨sb,0,none⟩)) 0 true K.L.V=opT X.c d.ok d.key d.val d.lv (rtM C d) (cvP b1 b2) 1 (.pointer (some ⟨sb,0,none⟩)) K.err true K.L.V:=by rw [hda.1]
  have hE7:Env w0 (boxI o (opT X.c d.ok d.key d.val d.lv (rtM C d) (cvP b1 b2) 1 (.pointer (some ⟨sb,0,none⟩)) 0 true K.L.V)::LT (SP C { { X with cr:=K.r } with F:=F',kq:=k' } V T' f' G' qc' n') R) w3:=hE6;rw [h5] at hE7;exact ⟨1,rfl,OutP.fin (K:={ K with T:={ T' with pc:=0 },dn:=true,vl:=K.L.V }) (F:=F') (k:=k') (show (1:Int)≠0 by decide) hn' hE7⟩
structure KcOk (C:Cf) (d:Dd) (K:Kt) (f:Mem) (n:Nat):Prop where
 (pc:(1<=K.pc/\K.pc<=7)\/K.pc=9)
 (da:K.err=0/\K.dn=false/\K.vl=0)
 (dk:InU d.key/\InU d.val)
 (len:K.T.ql.length+1<=1000000)
 (hn:n < maxLen)
 (s1:K.pc=1->K.on=true->LaneOk C K.L)
 (sx:K.pc=1->(searchM (rtM C d) d.key true ⟨K.on,K.L,K.T.e,K.r⟩ f).1=1->InU (searchM (rtM C d) d.key true ⟨K.on,K.L,K.T.e,K.r⟩ f).2.1.L.X)
 (row:K.pc=2->RowOk C K.T n)
 (hs:In64 K.T.hs)
 (link:K.pc=3\/K.pc=9->K.T.hs≠0)
 (sp:3<=K.pc->SpotOk C K.L)
 (un:K.pc=4->markB K.L.X=false/\(K.T.hs=0\/K.to=K.T.hs))
 (s2:K.pc=6->K.on2=true->LaneOk C K.L2)
 (re:K.pc=7->InU K.T.re/\In64 K.T.rs/\(K.T.rpc=0\/K.T.rpc=1))
theorem op_p {ps:List Item} (h:KcOk C d K f n) (hg:Glo w0) (hM:PM C X.c d K o ps) (hE:Env w0 (ps++LT (SPK C X V K f G qc n) R) w) :
  Calls prog 33 #[.pointer (some ⟨o,0,none⟩),.iface 26 (.pointer (some ⟨V.p,0,none⟩))] w fun e w'=>∃ s,e=.returned (.int .i64 s)/\OutP w0 R C X V d o n qc (opM C d K f) s w':=by
 rcases hM with ⟨b1,b2,F,Y,sp,sub,rfl,hp⟩ | ⟨hpc,hd4,sb,a,lnx,wd,rfl⟩
 ·rcases hp with ⟨hpc,sb,rfl,rfl,rfl,hS⟩ | ⟨hpc,a,left,s,gl,rfl,rfl,hlf,rfl⟩ | ⟨hpc,l,rfl,rfl,rfl⟩ | ⟨hpc,l,sb,a,lnx,wd,rfl,rfl,rfl,rfl⟩ | ⟨hpc,l,sb,a,lnx,wd,b3,b4,s2,sub2,rfl,rfl,rfl,hS,rfl⟩ | ⟨hpc,l,sb,a,lnx,wd,b3,b4,r,rfl,rfl,rfl,rfl⟩
  ·exact op1_p hpc (h.s1 hpc) (h.sx hpc) h.da h.len hg h.hn hS hE
  ·exact op2_p hpc (h.row hpc) h.dk h.da hg hlf hE
  ·exact op3_p hpc (h.link (.inl hpc)) h.hs (h.sp (by omega)).W (h.sp (by omega)).wf h.da hg h.hn hE
  ·have hC:=(h.sp (by omega)).Cr
   rcases hpc with hpc | hpc
   ·rw [if_pos hpc] at hE;exact op4_p hpc (h.sp (by omega)).X (h.un hpc).1 (h.un hpc).2 (by unfold In64; omega) h.da hg h.hn hE
   ·rw [if_neg (by omega)] at hE;exact op5_p hpc (h.sp (by omega)).wf hg h.hn hE
  ·exact op6_p hpc (h.s2 hpc) hg h.hn hS hE
  ·obtain ⟨h1,h2,h3⟩:=h.re hpc;exact op7_p hpc h.len h1 h2 h3 h.da h.hn hE
 ·exact op9_p hpc hd4 (h.link (.inr hpc)) h.hs (h.sp (by omega)).X hg h.hn hE
end
section
variable {C:Cf} {ds:List Dd} {B:Nat} {T:Th} {d:Dd} {K:Kt} {f:Mem} {n:Nat}
theorem OkT.row (hC:COk C) (hT:OkT C ds B T) (hB:B+1<=1000000) (hn:n < maxLen) (hp:T.pc=2):RowOk C T n:=by
 have hl:=hC.l;have hs:=hC.s;refine ⟨by have:=hT.e; constructor<;>omega,hn,by have:=hT.len; omega,by constructor<;>omega,hT.w,hT.apc hp,fun h=>⟨hT.low hp (by omega),?_⟩,by have:=hT.hs; unfold In64; constructor<;>omega⟩
 rcases hq:T.ql with _ | ⟨⟨x,y,z⟩,t⟩
 ·exact absurd hq (hT.born hp h)
 ·have:=hT.ql (x,y,z) (by rw [hq]; simp);obtain ⟨h1,h2,rfl⟩:=this;exact ⟨x,y,t,rfl,h1,h2⟩
theorem KOk.kc (hC:COk C) (hR:In64 (rtM C d)) (hF:OkF C f) (hS:LnkF C f) (h:KOk C ds B d K) (h1:1<=K.pc) (h8:K.pc≠8) (hd:InU d.key/\InU d.val) (hB:B+1<=1000000) (hn:n < maxLen):KcOk C d K f n:=by
 have hl:=hC.l;have hs:=hC.s;have hlen:=h.t.len;have hpc:=h.pc;refine ⟨by omega,h.da h1 h8,hd,by omega,hn,h.s1,fun hp h9=>?_,fun hp=>h.t.row hC hB hn (by have:=h.tp; rw [if_pos hp] at this; exact this),by have:=h.t.hs; unfold In64; constructor<;>omega,h.lk,fun hp=>h.sp hp h8,fun hp=>⟨(h.un (by omega) h8).1,?_⟩,h.s2,fun hp=>?_⟩
 ·exact ((search_keep (k:=rtM C d) (vs:=true) (key:=d.key) (e:=K.T.e) (r:=K.r) hR (h.s1 hp) hF.u hS (by omega)).2 h9).X
 ·by_cases h0:K.T.hs=0
  ·exact .inl h0
  ·have:=(h.ho h0).1;omega
 ·have h3:K.T.pc=3:=by have:=h.tp; rw [if_neg (by omega),if_pos hp] at this; exact this
  have hre:=h.t.re;have hrs:=h.t.rs;exact ⟨by unfold InU; constructor<;>omega,by unfold In64; constructor<;>omega,h.t.rpc h3⟩
end
section
variable {w0 w:World} {R L:List Item} {q b sb:Nat} {U:SU} {kd key val lv pc er vl k:Int} {vs:Bool} {ps pa pl pu:Option Addr} {dn:Bool} {x y z lpc W X K V Cc:Int} {fd:Bool}
theorem rroot (hk:InU key) (hb:1<=U.cb/\U.cb<=64) (hq:Blk 0 w q (rtC kd key val lv pc ps pa pl pu er dn vl)) (hu:Blk 0 w U.u (ruv U)) :
  Calls prog 119 #[.pointer (some ⟨q,0,none⟩),.pointer (some ⟨U.u,0,none⟩)] w fun e w'=>e=.returned (.int .i64 (buI U.cb key))/\Below w.heap.size w w':=by
 have HB:=zH (fun v=>refBucket_any (n:=U.cb) hk hb v);clear hk hb;go_enter func119,ntmps119;go_wp2_with fail;refine wp_text (S:=(fun v=>Below w.heap.size w v/\Blk 0 v q (rtC kd key val lv pc ps pa pl pu er dn vl)/\Blk 0 v U.u (ruv U))) (by kernel_rfl) (by kernel_rfl) ⟨(Below.refl _ _).drew,hq.drew,hu.drew⟩ (fun hT=>?_);have hT9:=zH hT;clear hT
 repeat ((first
  | (refine text_value (v:=?_) hT9.o (by rfl) ?_ ?_; rotate_left; (intro w5 hS; have r:=Blk.rule hS.2.1; have ru:=Blk.rule hS.2.2; unfold rtC at r; unfold ruv urv at ru; go_simp<;>rfl))
  | (refine text_off hT9.o (by rfl) ?_)
  | (refine text_call (v:=?_) (f:=?_) (args:=?_) hT9.o (by rfl) ?_ ?_ ?_; rotate_left 3; (intro w5 hS; have r:=Blk.rule hS.2.1; have ru:=Blk.rule hS.2.2; unfold rtC at r; unfold ruv urv at ru; go_simp; constructor<;>rfl); (intro w5 hS; (first | (with_reducible refine (HB.out _).mono ?_; rintro e9 w6 ⟨rfl,rfl⟩; constructor; rfl; exact hS)))));try simp only [Act.put,zA,zZ,zS])
 refine InText.nil fun w5 hS5=>?_;clear hT9;go_wp2_with fail;go_ret;exact ⟨rfl,hS5.1⟩
theorem rtMiss (h4:kd≠4) (h5:kd≠5) (hE:Env w0 (boxI q (rtC kd key val lv pc (some ⟨sb,0,none⟩) pa pl pu er dn vl)::boxI sb (rsC k key vs true (some ⟨b,0,none⟩))::boxI b (rlC 0 key vs x y z lpc W X K V Cc false)::L) w) {u:Nat} :
  Calls prog 120 #[.pointer (some ⟨q,0,none⟩),.pointer (some ⟨u,0,none⟩)] w fun o w'=>o=.returned (.int .i64 1)/\Env w0 (boxI q (rtC kd key val lv pc (some ⟨sb,0,none⟩) pa pl pu er dn vl)::boxI sb (rsC k key vs true (some ⟨b,0,none⟩))::boxI b (rlC 0 key vs x y z lpc W X K V Cc false)::L) w':=by
 have r:=hE.rule 0 rfl;have rs:=hE.rule 1 rfl;have rb:=hE.rule 2 rfl;unfold rtC at r;unfold rsC at rs;unfold rlC at rb;have b4:(kd==4)=false:=by simpa using h4
 have b5:(kd==5)=false:=by simpa using h5
 clear h4 h5;go_enter func120,ntmps120;go_wp2_with fail;go_ret;exact ⟨rfl,hE⟩
theorem rtInsN4 {u:Nat} {rt:Int} (hroot:∀ v,Env w0 (boxI q (rtC 4 key val lv pc (some ⟨sb,0,none⟩) pa pl pu er dn vl)::boxI sb (rsC k key vs true (some ⟨b,0,none⟩))::boxI b (rlC 0 key vs x y z lpc W X K V Cc false)::L) v->Calls prog 119 #[.pointer (some ⟨q,0,none⟩),.pointer (some ⟨u,0,none⟩)] v fun e v'=>e=.returned (.int .i64 rt)/\Below v.heap.size v v') (s:Int) (Y:World->Prop) (hE:Env w0 (boxI q (rtC 4 key val lv pc (some ⟨sb,0,none⟩) pa pl pu er dn vl)::boxI sb (rsC k key vs true (some ⟨b,0,none⟩))::boxI b (rlC 0 key vs x y z lpc W X K V Cc false)::L) w)
  (hc:∀ v,Env w0 (boxI q (rtC 4 key val lv pc (some ⟨sb,0,none⟩) pa pl pu er dn vl)::boxI sb (rsC k key vs true (some ⟨b,0,none⟩))::boxI b (rlC 0 key vs x y z lpc W X K V Cc false)::L) v->Calls prog 149 #[.pointer (some ⟨q,0,none⟩),.pointer (some ⟨u,0,none⟩),.int .i64 rt,.bool true] v fun o w'=>o=.returned (.int .i64 s)/\Y w') :
  Calls prog 120 #[.pointer (some ⟨q,0,none⟩),.pointer (some ⟨u,0,none⟩)] w fun o w'=>o=.returned (.int .i64 s)/\Y w':=by
 have r:=hE.rule 0 rfl;have rs:=hE.rule 1 rfl;have rb:=hE.rule 2 rfl;unfold rtC at r;unfold rsC at rs;unfold rlC at rb;have HR:=zH hroot;have HC:=zH hc;clear hroot hc;go_enter func120,ntmps120;go_wp2_with fail;clear r rs rb;refine Ord3.wp_chain [?_,?_,?_,?_,?_,?_,?_,?_,?_] [6,7] (fun _=>True) (Ord3.Stage fun κs=>[Env w0 (boxI q (rtC 4 key val lv pc (some ⟨sb,0,none⟩) pa pl pu er dn vl)::boxI sb (rsC k key vs true (some ⟨b,0,none⟩))::boxI b (rlC 0 key vs x y z lpc W X K V Cc false)::L),Env w0 (boxI q (rtC 4 key val lv pc (some ⟨sb,0,none⟩) pa pl pu er dn vl)::boxI sb (rsC k key vs true (some ⟨b,0,none⟩))::boxI b (rlC 0 key vs x y z lpc W X K V Cc false)::L),Y]) (by kernel_rfl) (by kernel_rfl) (by kernel_rfl) trivial ⟨_,rfl,hE.drew⟩ (fun hT=>?_);rotate_left 9;have hT9:=zH hT;clear hT
 repeat ((first
  | (focus (refine Ord3.in_value (v:=?_) hT9.o (by decide) ?_ (by rfl) ?_ ?_; rotate_left 2; (intro w5 hS; skip; go_simp<;>rfl); rotate_right; (focus rfl)))
  | (focus (refine Ord3.in_off hT9.o (by decide) ?_ (by rfl) ?_; (focus rfl))));try simp only [Act.put,zA,zZ,zS])
 refine Ord3.in_turn (fun x=>x=.int .i64 rt) _ rfl hT9.o rfl (by decide) (by rfl) ?_ (Or.inl rfl) (by rfl) ?_ ?_
 ·rfl
 ·rintro w7 hC7 ⟨P7,hP7,hA7⟩;cases hP7;go_simp;simp only [Ord3.Lands];refine (HR.out _ hA7).mono ?_;rintro o w8 ⟨rfl,hb8⟩;exact ⟨_,rfl,rfl,_,rfl,hA7.over hb8⟩
 rintro _ rfl
 try simp only [Act.put,zA,zZ,zS]
 repeat ((first
  | (focus (refine Ord3.in_value (v:=?_) hT9.o (by decide) ?_ (by rfl) ?_ ?_; rotate_left 2; (intro w5 hS; skip; go_simp<;>rfl); rotate_right; (focus rfl)))
  | (focus (refine Ord3.in_off hT9.o (by decide) ?_ (by rfl) ?_; (focus rfl))));try simp only [Act.put,zA,zZ,zS])
 refine Ord3.in_turn (fun x=>x=.int .i64 s) _ rfl hT9.o rfl (by decide) (by rfl) ?_ (Or.inr ⟨_,6,[],rfl,by kernel_rfl,by kernel_rfl,rfl⟩) (by rfl) ?_ ?_
 ·rfl
 ·rintro w7 hC7 ⟨P7,hP7,hA7⟩;cases hP7;go_simp;simp only [Ord3.Lands];refine (HC.out _ hA7).mono ?_;rintro o w8 ⟨rfl,hA8⟩;exact ⟨_,rfl,rfl,_,rfl,hA8⟩
 rintro _ rfl
 try simp only [Act.put,zA,zZ,zS]
 repeat ((first
  | (focus (refine Ord3.in_value (v:=?_) hT9.o (by decide) ?_ (by rfl) ?_ ?_; rotate_left 2; (intro w5 hS; skip; go_simp<;>rfl); rotate_right; (focus rfl)))
  | (focus (refine Ord3.in_off hT9.o (by decide) ?_ (by rfl) ?_; (focus rfl))));try simp only [Act.put,zA,zZ,zS])
 refine Ord3.in_nil rfl ?_;rintro w9 hC9 ⟨P9,hP9,hA9⟩;cases hP9;clear hT9 hC9;have HA:=zH hA9;clear hA9 hE;go_wp2_with fail;go_ret;exact ⟨rfl,HA.out⟩
theorem rtInsN5 {u:Nat} {rt:Int} (hroot:∀ v,Env w0 (boxI q (rtC 5 key val lv pc (some ⟨sb,0,none⟩) pa pl pu er dn vl)::boxI sb (rsC k key vs true (some ⟨b,0,none⟩))::boxI b (rlC 0 key vs x y z lpc W X K V Cc false)::L) v->Calls prog 119 #[.pointer (some ⟨q,0,none⟩),.pointer (some ⟨u,0,none⟩)] v fun e v'=>e=.returned (.int .i64 rt)/\Below v.heap.size v v') (s:Int) (Y:World->Prop) (hE:Env w0 (boxI q (rtC 5 key val lv pc (some ⟨sb,0,none⟩) pa pl pu er dn vl)::boxI sb (rsC k key vs true (some ⟨b,0,none⟩))::boxI b (rlC 0 key vs x y z lpc W X K V Cc false)::L) w)
  (hc:∀ v,Env w0 (boxI q (rtC 5 key val lv pc (some ⟨sb,0,none⟩) pa pl pu er dn vl)::boxI sb (rsC k key vs true (some ⟨b,0,none⟩))::boxI b (rlC 0 key vs x y z lpc W X K V Cc false)::L) v->Calls prog 149 #[.pointer (some ⟨q,0,none⟩),.pointer (some ⟨u,0,none⟩),.int .i64 rt,.bool true] v fun o w'=>o=.returned (.int .i64 s)/\Y w') :
  Calls prog 120 #[.pointer (some ⟨q,0,none⟩),.pointer (some ⟨u,0,none⟩)] w fun o w'=>o=.returned (.int .i64 s)/\Y w':=by
 have r:=hE.rule 0 rfl;have rs:=hE.rule 1 rfl;have rb:=hE.rule 2 rfl;unfold rtC at r;unfold rsC at rs;unfold rlC at rb;have HR:=zH hroot;have HC:=zH hc;clear hroot hc;go_enter func120,ntmps120;go_wp2_with fail;clear r rs rb;refine Ord3.wp_chain [?_,?_,?_,?_,?_,?_,?_,?_,?_] [6,7] (fun _=>True) (Ord3.Stage fun κs=>[Env w0 (boxI q (rtC 5 key val lv pc (some ⟨sb,0,none⟩) pa pl pu er dn vl)::boxI sb (rsC k key vs true (some ⟨b,0,none⟩))::boxI b (rlC 0 key vs x y z lpc W X K V Cc false)::L),Env w0 (boxI q (rtC 5 key val lv pc (some ⟨sb,0,none⟩) pa pl pu er dn vl)::boxI sb (rsC k key vs true (some ⟨b,0,none⟩))::boxI b (rlC 0 key vs x y z lpc W X K V Cc false)::L),Y]) (by kernel_rfl) (by kernel_rfl) (by kernel_rfl) trivial ⟨_,rfl,hE.drew⟩ (fun hT=>?_);rotate_left 9;have hT9:=zH hT;clear hT
 repeat ((first
  | (focus (refine Ord3.in_value (v:=?_) hT9.o (by decide) ?_ (by rfl) ?_ ?_; rotate_left 2; (intro w5 hS; skip; go_simp<;>rfl); rotate_right; (focus rfl)))
  | (focus (refine Ord3.in_off hT9.o (by decide) ?_ (by rfl) ?_; (focus rfl))));try simp only [Act.put,zA,zZ,zS])
 refine Ord3.in_turn (fun x=>x=.int .i64 rt) _ rfl hT9.o rfl (by decide) (by rfl) ?_ (Or.inl rfl) (by rfl) ?_ ?_
 ·rfl
 ·rintro w7 hC7 ⟨P7,hP7,hA7⟩;cases hP7;go_simp;simp only [Ord3.Lands];refine (HR.out _ hA7).mono ?_;rintro o w8 ⟨rfl,hb8⟩;exact ⟨_,rfl,rfl,_,rfl,hA7.over hb8⟩
 rintro _ rfl
 try simp only [Act.put,zA,zZ,zS]
 repeat ((first
  | (focus (refine Ord3.in_value (v:=?_) hT9.o (by decide) ?_ (by rfl) ?_ ?_; rotate_left 2; (intro w5 hS; skip; go_simp<;>rfl); rotate_right; (focus rfl)))
  | (focus (refine Ord3.in_off hT9.o (by decide) ?_ (by rfl) ?_; (focus rfl))));try simp only [Act.put,zA,zZ,zS])
 refine Ord3.in_turn (fun x=>x=.int .i64 s) _ rfl hT9.o rfl (by decide) (by rfl) ?_ (Or.inr ⟨_,6,[],rfl,by kernel_rfl,by kernel_rfl,rfl⟩) (by rfl) ?_ ?_
 ·rfl
 ·rintro w7 hC7 ⟨P7,hP7,hA7⟩;cases hP7;go_simp;simp only [Ord3.Lands];refine (HC.out _ hA7).mono ?_;rintro o w8 ⟨rfl,hA8⟩;exact ⟨_,rfl,rfl,_,rfl,hA8⟩
 rintro _ rfl
 try simp only [Act.put,zA,zZ,zS]
 repeat ((first
  | (focus (refine Ord3.in_value (v:=?_) hT9.o (by decide) ?_ (by rfl) ?_ ?_; rotate_left 2; (intro w5 hS; skip; go_simp<;>rfl); rotate_right; (focus rfl)))
  | (focus (refine Ord3.in_off hT9.o (by decide) ?_ (by rfl) ?_; (focus rfl))));try simp only [Act.put,zA,zZ,zS])
 refine Ord3.in_nil rfl ?_;rintro w9 hC9 ⟨P9,hP9,hA9⟩;cases hP9;clear hT9 hC9;have HA:=zH hA9;clear hA9 hE;go_wp2_with fail;go_ret;exact ⟨rfl,HA.out⟩
theorem rtInsN {u:Nat} (h45:kd=4\/kd=5) {rt:Int} (hroot:∀ v,Env w0 (boxI q (rtC kd key val lv pc (some ⟨sb,0,none⟩) pa pl pu er dn vl)::boxI sb (rsC k key vs true (some ⟨b,0,none⟩))::boxI b (rlC 0 key vs x y z lpc W X K V Cc false)::L) v->Calls prog 119 #[.pointer (some ⟨q,0,none⟩),.pointer (some ⟨u,0,none⟩)] v fun e v'=>e=.returned (.int .i64 rt)/\Below v.heap.size v v') (s:Int) (Y:World->Prop) (hE:Env w0 (boxI q (rtC kd key val lv pc (some ⟨sb,0,none⟩) pa pl pu er dn vl)::boxI sb (rsC k key vs true (some ⟨b,0,none⟩))::boxI b (rlC 0 key vs x y z lpc W X K V Cc false)::L) w)
  (hc:∀ v,Env w0 (boxI q (rtC kd key val lv pc (some ⟨sb,0,none⟩) pa pl pu er dn vl)::boxI sb (rsC k key vs true (some ⟨b,0,none⟩))::boxI b (rlC 0 key vs x y z lpc W X K V Cc false)::L) v->Calls prog 149 #[.pointer (some ⟨q,0,none⟩),.pointer (some ⟨u,0,none⟩),.int .i64 rt,.bool true] v fun o w'=>o=.returned (.int .i64 s)/\Y w') :
  Calls prog 120 #[.pointer (some ⟨q,0,none⟩),.pointer (some ⟨u,0,none⟩)] w fun o w'=>o=.returned (.int .i64 s)/\Y w':=by
 rcases h45 with rfl | rfl
 ·exact rtInsN4 hroot s Y hE hc
 ·exact rtInsN5 hroot s Y hE hc
theorem rtInsF (hh:U.hs=0) {rt:Int} (hroot:∀ v,Env w0 (boxI q (rtC 4 key val lv pc (some ⟨sb,0,none⟩) pa pl pu er dn vl)::boxI sb (rsC k key vs true (some ⟨b,0,none⟩))::boxI b (rlC 0 key vs x y z lpc W X K V Cc true)::LU U R) v->Calls prog 119 #[.pointer (some ⟨q,0,none⟩),.pointer (some ⟨U.u,0,none⟩)] v fun e v'=>e=.returned (.int .i64 rt)/\Below v.heap.size v v') (s:Int) (Y:World->Prop) (hE:Env w0 (boxI q (rtC 4 key val lv pc (some ⟨sb,0,none⟩) pa pl pu er dn vl)::boxI sb (rsC k key vs true (some ⟨b,0,none⟩))::boxI b (rlC 0 key vs x y z lpc W X K V Cc true)::LU U R) w)
  (hc:∀ v,Env w0 (boxI q (rtC 4 key val lv pc (some ⟨sb,0,none⟩) pa pl pu er dn vl)::boxI sb (rsC k key vs true (some ⟨b,0,none⟩))::boxI b (rlC 0 key vs x y z lpc W X K V Cc true)::LU U R) v->Calls prog 149 #[.pointer (some ⟨q,0,none⟩),.pointer (some ⟨U.u,0,none⟩),.int .i64 rt,.bool true] v fun o w'=>o=.returned (.int .i64 s)/\Y w') :
  Calls prog 120 #[.pointer (some ⟨q,0,none⟩),.pointer (some ⟨U.u,0,none⟩)] w fun o w'=>o=.returned (.int .i64 s)/\Y w':=by
 have r:=hE.rule 0 rfl;have rs:=hE.rule 1 rfl;have rb:=hE.rule 2 rfl;unfold rtC at r;unfold rsC at rs;unfold rlC at rb;have HR:=zH hroot;have HC:=zH hc;clear hroot hc;have ru:=hE.rule 3 rfl;unfold urv at ru;have HH:=zH hh;simp only [hh] at ru;clear hh;go_enter func120,ntmps120;go_wp2_with fail;clear r rs rb ru;refine Ord3.wp_chain [?_,?_,?_,?_,?_,?_,?_,?_,?_] [6,7] (fun _=>True) (Ord3.Stage fun κs=>[Env w0 (boxI q (rtC 4 key val lv pc (some ⟨sb,0,none⟩) pa pl pu er dn vl)::boxI sb (rsC k key vs true (some ⟨b,0,none⟩))::boxI b (rlC 0 key vs x y z lpc W X K V Cc true)::LU U R),Env w0 (boxI q (rtC 4 key val lv pc (some ⟨sb,0,none⟩) pa pl pu er dn vl)::boxI sb (rsC k key vs true (some ⟨b,0,none⟩))::boxI b (rlC 0 key vs x y z lpc W X K V Cc true)::LU U R),Y]) (by kernel_rfl) (by kernel_rfl) (by kernel_rfl) trivial ⟨_,rfl,hE.drew⟩ (fun hT=>?_);rotate_left 9;have hT9:=zH hT;clear hT
 repeat ((first
  | (focus (refine Ord3.in_value (v:=?_) hT9.o (by decide) ?_ (by rfl) ?_ ?_; rotate_left 2; (intro w5 hS; skip; go_simp<;>rfl); rotate_right; (focus rfl)))
  | (focus (refine Ord3.in_off hT9.o (by decide) ?_ (by rfl) ?_; (focus rfl))));try simp only [Act.put,zA,zZ,zS])
 refine Ord3.in_turn (fun x=>x=.int .i64 rt) _ rfl hT9.o rfl (by decide) (by rfl) ?_ (Or.inl rfl) (by rfl) ?_ ?_
 ·rfl
 ·rintro w7 hC7 ⟨P7,hP7,hA7⟩;cases hP7;go_simp;simp only [Ord3.Lands];refine (HR.out _ hA7).mono ?_;rintro o w8 ⟨rfl,hb8⟩;exact ⟨_,rfl,rfl,_,rfl,hA7.over hb8⟩
 rintro _ rfl
 try simp only [Act.put,zA,zZ,zS]
 repeat ((first
  | (focus (refine Ord3.in_value (v:=?_) hT9.o (by decide) ?_ (by rfl) ?_ ?_; rotate_left 2; (intro w5 hS; skip; go_simp<;>rfl); rotate_right; (focus rfl)))
  | (focus (refine Ord3.in_off hT9.o (by decide) ?_ (by rfl) ?_; (focus rfl))));try simp only [Act.put,zA,zZ,zS])
 refine Ord3.in_turn (fun x=>x=.int .i64 s) _ rfl hT9.o rfl (by decide) (by rfl) ?_ (Or.inr ⟨_,6,[],rfl,by kernel_rfl,by kernel_rfl,rfl⟩) (by rfl) ?_ ?_
 ·rfl
 ·rintro w7 hC7 ⟨P7,hP7,hA7⟩;cases hP7;go_simp;simp only [Ord3.Lands];refine (HC.out _ hA7).mono ?_;rintro o w8 ⟨rfl,hA8⟩;exact ⟨_,rfl,rfl,_,rfl,hA8⟩
 rintro _ rfl
 try simp only [Act.put,zA,zZ,zS]
 repeat ((first
  | (focus (refine Ord3.in_value (v:=?_) hT9.o (by decide) ?_ (by rfl) ?_ ?_; rotate_left 2; (intro w5 hS; skip; go_simp<;>rfl); rotate_right; (focus rfl)))
  | (focus (refine Ord3.in_off hT9.o (by decide) ?_ (by rfl) ?_; (focus rfl))));try simp only [Act.put,zA,zZ,zS])
 refine Ord3.in_nil rfl ?_;rintro w9 hC9 ⟨P9,hP9,hA9⟩;cases hP9;clear hT9 hC9;have HA:=zH hA9;clear hA9 hE;go_wp2_with fail;go_ret;exact ⟨rfl,HA.out⟩
theorem rtPut (hh:U.hs≠0) (hE:Env w0 (boxI q (rtC 4 key val lv pc (some ⟨sb,0,none⟩) pa pl pu er dn vl)::boxI sb (rsC k key vs true (some ⟨b,0,none⟩))::boxI b (rlC 0 key vs x y z lpc W X K V Cc true)::LU U R) w) :
  Calls prog 120 #[.pointer (some ⟨q,0,none⟩),.pointer (some ⟨U.u,0,none⟩)] w fun o w'=>o=.returned (.int .i64 0)/\Env w0 (boxI q (rtC 4 key val lv 5 (some ⟨sb,0,none⟩) pa pl pu er dn vl)::boxI sb (rsC k key vs true (some ⟨b,0,none⟩))::boxI b (rlC 0 key vs x y z lpc W X K V Cc true)::LU U R) w':=by
 have r:=hE.rule 0 rfl;have rs:=hE.rule 1 rfl;have rb:=hE.rule 2 rfl;have ru:=hE.rule 3 rfl;unfold rtC at r;unfold rsC at rs;unfold rlC at rb;unfold urv at ru;have b0:(U.hs==0)=false:=by simpa using hh
 have f4:=hE.thaw 0 rfl 4 (by simp [rtC]);have hQ:=hE.put 0 rfl (j:=4) (by simp [rtC]) (.int .i64 5);clear hE hh;go_enter func120,ntmps120;go_wp2_with fail;go_ret;exact ⟨rfl,hQ⟩
theorem rtGet {u:Nat} (hE:Env w0 (boxI q (rtC 7 key val lv pc (some ⟨sb,0,none⟩) pa pl pu er dn vl)::boxI sb (rsC k key vs true (some ⟨b,0,none⟩))::boxI b (rlC 0 key vs x y z lpc W X K V Cc true)::L) w) :
  Calls prog 120 #[.pointer (some ⟨q,0,none⟩),.pointer (some ⟨u,0,none⟩)] w fun o w'=>o=.returned (.int .i64 1)/\Env w0 (boxI q (rtC 7 key val lv pc (some ⟨sb,0,none⟩) pa pl pu er true V)::boxI sb (rsC k key vs true (some ⟨b,0,none⟩))::boxI b (rlC 0 key vs x y z lpc W X K V Cc true)::L) w':=by
 have r:=hE.rule 0 rfl;have rs:=hE.rule 1 rfl;have rb:=hE.rule 2 rfl;unfold rtC at r;unfold rsC at rs;unfold rlC at rb;have f4:=hE.thaw 0 rfl 10 (by simp [rtC]);have hP:=hE.put 0 rfl (j:=10) (by simp [rtC]) (.bool true);have f5:=hP.thaw 0 rfl 11 (by simp [rtC]);have r2:=hP.rule 0 rfl;have rb2:=hP.rule 2 rfl;unfold rtC at r2;unfold rlC at rb2;have hQ:=hP.put 0 rfl (j:=11) (by simp [rtC]) (.int .u64 V);clear hE hP;go_enter func120,ntmps120;go_wp2_with fail;go_ret;exact ⟨rfl,hQ⟩
theorem rtAdd (h0:0<=U.hs) (hl:U.ql.length<=1000000) (hN:0<=U.N/\U.N<=1099511627776) (hE:Env w0 (boxI q (rtC 5 key val lv pc (some ⟨sb,0,none⟩) pa pl pu er dn vl)::boxI sb (rsC k key vs true (some ⟨b,0,none⟩))::boxI b (rlC 0 key vs x y z lpc W X K V Cc true)::LU U R) w) :
  Calls prog 120 #[.pointer (some ⟨q,0,none⟩),.pointer (some ⟨U.u,0,none⟩)] w fun o w'=>o=.returned (.int .i64 1)/\∃ A' c' N',(N'=U.N\/N'=roomN (room0 U.N) (U.ql.length+1))/\Env w0 (boxI q (rtC 5 key val lv pc (some ⟨sb,0,none⟩) pa pl pu er dn V)::LU { U with A:=A',c:=c',N:=N',ql:=dropQ U.hs U.ql,hs:=0 } R) w':=by
 have r:=hE.rule 0 rfl;have rs:=hE.rule 1 rfl;have rb:=hE.rule 2 rfl;unfold rtC at r;unfold rsC at rs;unfold rlC at rb
 by_cases hh:U.hs<=0
 ·have hz:U.hs=0:=by omega
  have HZ:=zH hz;have HD:=zH (rdropNo_c hh (hE.get 3 rfl));have f5:=hE.thaw 0 rfl 11 (by simp [rtC]);have hQ:=hE.put 0 rfl (j:=11) (by simp [rtC]) (.int .u64 V);clear hh h0 hz hE;go_enter func120,ntmps120;go_wp2_with fail;refine HD.out.mono ?_;rintro e w1 ⟨rfl,rfl⟩;go_wp2_with fail;go_ret;have hz:=HZ.out;rw [show dropQ U.hs U.ql=U.ql from if_pos hz];have h9:=hQ.sub (L':=boxI q (rtC 5 key val lv pc (some ⟨sb,0,none⟩) pa pl pu er dn V)::LU U R) (.cons_cons _ (.cons _ (.cons _ (List.Sublist.refl _))));have hl9:LU { U with hs:=0 } R=LU U R:=by simp only [LU,hz]
  rw [<- hl9] at h9;exact ⟨rfl,U.A,U.c,U.N,.inl rfl,h9⟩
 ·have hz:0 < U.hs:=by omega
  have HZ:=zH hz;have HD:=zH (rdropYes_c (lr:=U.ql) hz 3 hl hN hE rfl rfl);clear hh h0 hz hl hN hE;go_enter func120,ntmps120;go_wp2_with fail;refine HD.out.mono ?_;rintro e w1 ⟨rfl,A',c',hE1⟩;clear r rs rb HD;have rb:=hE1.rule 2 rfl;unfold rlC at rb;have r:=hE1.rule 0 rfl;unfold rtC at r;have f5:=hE1.thaw 0 rfl 11 (by simp [rtC]);have hQ:=hE1.put 0 rfl (j:=11) (by simp [rtC]) (.int .u64 V);clear hE1;go_wp2_with fail;go_ret;have hz:=HZ.out;rw [show dropQ U.hs U.ql=U.ql++[(U.hs,0,0)] from if_neg (by omega)];have hlen:(U.ql++[(U.hs,(0:Int),(0:Int))]).length=U.ql.length+1:=by simp
  refine ⟨rfl,A',c',roomN (room0 U.N) (U.ql.length+1),.inr rfl,?_⟩;simp only [LU,hlen];exact hQ.sub (.cons_cons _ (.cons _ (.cons _ (List.Sublist.refl _))))
theorem rtRem {rt:Int} (hky:InU key) (hcb:1<=U.cb/\U.cb<=64) (hrt:buI U.cb key=rt) (hX:InU X) (hE:Env w0 (boxI q (rtC 6 key val lv pc (some ⟨sb,0,none⟩) pa pl pu er dn vl)::boxI sb (rsC k key vs true (some ⟨b,0,none⟩))::boxI b (rlC 0 key vs x y z lpc W X K V Cc true)::LU U R) w) :
  Calls prog 120 #[.pointer (some ⟨q,0,none⟩),.pointer (some ⟨U.u,0,none⟩)] w fun o w'=>o=.returned (.int .i64 0)/\∃ l,Env w0 (boxI q (rtC 6 key val lv 4 (some ⟨sb,0,none⟩) pa pl (some ⟨l,0,none⟩) er dn vl)::boxI sb (rsC k key vs true (some ⟨b,0,none⟩))::boxI l (rnC (some ⟨b,0,none⟩) rt key (slotI X) 0 none none)::boxI b (rlC 0 key vs x y z lpc W X K V Cc true)::LU U R) w':=by
 have r:=hE.rule 0 rfl;have rs:=hE.rule 1 rfl;have rb:=hE.rule 2 rfl;unfold rtC at r;unfold rsC at rs;unfold rlC at rb;have hsn:=fun (v:World)=>slot13_any X hX v;obtain ⟨s,hs⟩:∃ s,slotI X=s:=⟨_,rfl⟩;rw [hs];simp only [hs] at hsn;have HSN:=zH hsn;have hrt9:=fun (v:World) (h1:∃ p9,Blk 0 v q (rtC 6 key val lv pc (some ⟨sb,0,none⟩) pa pl p9 er dn vl)) (h2:Blk 0 v U.u (ruv U))=>h1.elim fun p9 h1=>rroot hky hcb h1 h2;rw [hrt] at hrt9;have HRT:=zH hrt9;clear hs hsn hX hky hcb hrt hrt9;go_enter func120,ntmps120;go_wp2_with fail;clear r rs rb;refine Ord3.wp_chain [?_,?_,?_,?_,?_,?_,?_,?_,?_,?_,?_,?_,?_,?_,?_,?_,?_,?_,?_,?_,?_,?_] [17,21] (fun w'=>(∃ p9,Blk 0 w' q (rtC 6 key val lv pc (some ⟨sb,0,none⟩) pa pl p9 er dn vl))/\Blk 0 w' b (rlC 0 key vs x y z lpc W X K V Cc true)/\Blk 0 w' U.u (ruv U)) (Ord3.Stage fun κs=>[Env w0 (boxI q (rtC 6 key val lv pc (some ⟨sb,0,none⟩) pa pl pu er dn vl)::boxI sb (rsC k key vs true (some ⟨b,0,none⟩))::boxI b (rlC 0 key vs x y z lpc W X K V Cc true)::LU U R),fun w'=>∃ l,κs.getD 0 undef=.pointer (some ⟨l,0,none⟩)/\Env w0 (boxI l (rnC (some ⟨b,0,none⟩) rt key s 0 none none)::boxI q (rtC 6 key val lv pc (some ⟨sb,0,none⟩) pa pl pu er dn vl)::boxI sb (rsC k key vs true (some ⟨b,0,none⟩))::boxI b (rlC 0 key vs x y z lpc W X K V Cc true)::LU U R) w',fun w'=>∃ l,Env w0 (boxI l (rnC (some ⟨b,0,none⟩) rt key s 0 none none)::boxI q (rtC 6 key val lv pc (some ⟨sb,0,none⟩) pa pl (some ⟨l,0,none⟩) er dn vl)::boxI sb (rsC k key vs true (some ⟨b,0,none⟩))::boxI b (rlC 0 key vs x y z lpc W X K V Cc true)::LU U R) w']) (by kernel_rfl) (by kernel_rfl) (by kernel_rfl) ⟨⟨pu,hE.drew.get 0 rfl⟩,hE.drew.get 2 rfl,hE.drew.get 3 rfl⟩ ⟨_,rfl,hE.drew⟩ (fun hT=>?_);rotate_left 22;have hT9:=zH hT;clear hT
 repeat ((first
  | (focus (refine Ord3.in_value (v:=?_) hT9.o (by decide) ?_ (by rfl) ?_ ?_; rotate_left 2; (intro w5 hS; obtain ⟨⟨p9,hS8⟩,hS9,hS7⟩:=hS; have r1:=Blk.rule hS8; have r2:=Blk.rule hS9; have r3:=Blk.rule hS7; unfold rtC at r1; unfold rlC at r2; unfold ruv urv at r3; go_simp<;>rfl); rotate_right; (focus rfl)))
  | (focus (refine Ord3.in_off hT9.o (by decide) ?_ (by rfl) ?_; (focus rfl)))
  | (focus (refine Ord3.in_call (v:=?_) (f:=?_) (args:=?_) hT9.o (by decide) ?_ (by rfl) ?_ ?_ ?_; rotate_left 4; (intro w5 hS; obtain ⟨⟨p9,hS8⟩,hS9,hS7⟩:=hS; have r1:=Blk.rule hS8; have r2:=Blk.rule hS9; have r3:=Blk.rule hS7; unfold rtC at r1; unfold rlC at r2; unfold ruv urv at r3; go_simp; constructor<;>rfl); (intro w5 hS; (first | (with_reducible refine kp (HSN.out _) ?_ ?_; rfl; exact fun w6 hb6=>⟨⟨hS.1.elim fun p h=>⟨p,h.under hb6⟩,hS.2.1.under hb6,hS.2.2.under hb6⟩,fun us h=>Ord3.Stage.three h (fun h=>h.over hb6) (fun h=>h.elim fun a h=>⟨a,h.1,h.2.over hb6⟩) (fun h=>h.elim fun a h=>⟨a,h.over hb6⟩)⟩) | (with_reducible refine kp (HRT.out _ hS.1 hS.2.2) ?_ ?_; rfl; exact fun w6 hb6=>⟨⟨hS.1.elim fun p h=>⟨p,h.under hb6⟩,hS.2.1.under hb6,hS.2.2.under hb6⟩,fun us h=>Ord3.Stage.three h (fun h=>h.over hb6) (fun h=>h.elim fun a h=>⟨a,h.1,h.2.over hb6⟩) (fun h=>h.elim fun a h=>⟨a,h.over hb6⟩)⟩))); rotate_right; (focus rfl))));try simp only [Act.put,zA,zZ,zS])
 refine Ord3.in_turn (fun u=>∃ q,u=.pointer (some ⟨q,0,none⟩)) _ ⟨0,rfl⟩ hT9.o rfl (by decide) (by rfl) ?_ (Or.inl rfl) (by rfl) ?_ ?_
 ·rfl
 ·rintro w7 hC7 ⟨P7,hP7,hA7⟩;cases hP7;go_simp;simp only [Ord3.Lands];have hE8:=hA7.box w7.heap.size rfl (rnC (some ⟨b,0,none⟩) rt key s 0 none none) 224;exact ⟨⟨_,rfl⟩,⟨⟨pu,hE8.get 1 rfl⟩,hE8.get 3 rfl,hE8.get 4 rfl⟩,_,rfl,w7.heap.size,rfl,hE8⟩
 rintro _ ⟨l9,rfl⟩
 try simp only [Act.put,zA,zZ,zS]
 repeat ((first
  | (focus (refine Ord3.in_value (v:=?_) hT9.o (by decide) ?_ (by rfl) ?_ ?_; rotate_left 2; (intro w5 hS; skip; go_simp<;>rfl); rotate_right; (focus rfl)))
  | (focus (refine Ord3.in_off hT9.o (by decide) ?_ (by rfl) ?_; (focus rfl))));try simp only [Act.put,zA,zZ,zS])
 refine Ord3.in_turn (fun u=>u=undef) _ rfl hT9.o rfl (by decide) (by rfl) ?_ (Or.inr ⟨_,17,[],rfl,by kernel_rfl,by kernel_rfl,rfl⟩) (by rfl) ?_ ?_
 ·rfl
 ·rintro w7 hC7 ⟨P7,hP7,hA7⟩;cases hP7;obtain ⟨s8,he,hA7⟩:=hA7;cases he;have r:=hA7.rule 1 rfl;unfold rtC at r;have g:=hA7.thaw 1 rfl 8 (by simp [rtC]);go_simp;simp only [Ord3.Lands];have h9:=hA7.put 1 rfl (j:=8) (by simp [rtC]) (.pointer (some ⟨l9,0,none⟩));exact ⟨trivial,⟨⟨_,h9.get 1 rfl⟩,h9.get 3 rfl,h9.get 4 rfl⟩,_,rfl,l9,h9⟩
 rintro _ rfl
 try simp only [Act.put,zA,zZ,zS]
 refine Ord3.in_nil rfl ?_;rintro w9 hC9 ⟨P9,hP9,hA9⟩;cases hP9;obtain ⟨l,hA9⟩:=hA9;clear hT9 hC9 hE;have f4:=hA9.thaw 1 rfl 4 (by simp [rtC]);have r:=hA9.rule 1 rfl;unfold rtC at r;have hQ:=hA9.put 1 rfl (j:=4) (by simp [rtC]) (.int .i64 4);replace hQ:Env w0 (boxI l (rnC (some ⟨b,0,none⟩) rt key s 0 none none)::boxI q (rtC 6 key val lv 4 (some ⟨sb,0,none⟩) pa pl (some ⟨l,0,none⟩) er dn vl)::boxI sb (rsC k key vs true (some ⟨b,0,none⟩))::boxI b (rlC 0 key vs x y z lpc W X K V Cc true)::LU U R) _:=hQ;go_wp2_with fail;go_ret;exact ⟨rfl,l,hQ.perm (L':=boxI q (rtC 6 key val lv 4 (some ⟨sb,0,none⟩) pa pl (some ⟨l,0,none⟩) er dn vl)::boxI sb (rsC k key vs true (some ⟨b,0,none⟩))::boxI l (rnC (some ⟨b,0,none⟩) rt key s 0 none none)::boxI b (rlC 0 key vs x y z lpc W X K V Cc true)::LU U R) (perm_of fun z=>by simp only [List.count_cons]; omega)⟩
end
section
variable {w0 w:World} {R:List Item} {q b:Nat} {U:SU} {lv key:Int} {vs fd:Bool} {x y z pc W X K V Cc k ky to:Int} {sp rp:Option Addr}
theorem rmarkT (hX:InU X) (hmk:markB X=false) (hhs:U.hs=0\/to=U.hs) (hml:U.ml.length<=1000000) (hE:Env w0 (boxI q (rnC (some ⟨b,0,none⟩) k ky to 0 sp rp)::boxI b (rlC lv key vs x y z pc W X K V Cc fd)::LU U R) w) :
  Calls prog 110 #[.pointer (some ⟨q,0,none⟩),.pointer (some ⟨U.u,0,none⟩),.pointer (some ⟨U.m,0,none⟩)] w fun o w'=>o=.returned (.int .i64 (if getL U.ml (5,Cc,7)=X then 0 else 2))/\∃ F5,Env w0 (boxI q (rnC (some ⟨b,0,none⟩) k ky to (if getL U.ml (5,Cc,7)=X then 1 else 0) sp rp)::boxI b (rlC lv key vs x y z pc W X K V Cc fd)::LU { U with F:=F5,ml:=swL U.ml (5,Cc,7) X (wordI true to U.ce),hs:=if getL U.ml (5,Cc,7)=X then 0 else U.hs } R) w':=by
 have hmw:markedW X to U.ce=wordI true to U.ce:=by simp [markedW,hmk]
 have hto:=fun (v:World) (hv:Blk 0 v U.u (ruv U))=>rmark_c X to hX hv;simp only [hmw] at hto;clear hmw hmk hX;obtain ⟨y9,hy⟩:∃ y,wordI true to U.ce=y:=⟨_,rfl⟩;rw [hy];simp only [hy] at hto;have HTO:=zH hto;clear hy hto;obtain ⟨dd,hdd⟩:∃ dd,decide (getL U.ml (5,Cc,7)=X)=dd:=⟨_,rfl⟩;have hds:(if getL U.ml (5,Cc,7)=X then (0:Int) else 2)=if dd then 0 else 2:=by rw [<- hdd]; by_cases h:getL U.ml (5,Cc,7)=X<;>simp [h]
 have hdh:(if getL U.ml (5,Cc,7)=X then (1:Int) else 0)=if dd then 1 else 0:=by rw [<- hdd]; by_cases h:getL U.ml (5,Cc,7)=X<;>simp [h]
 have hd0:(if getL U.ml (5,Cc,7)=X then (0:Int) else U.hs)=if dd then 0 else U.hs:=by rw [<- hdd]; by_cases h:getL U.ml (5,Cc,7)=X<;>simp [h]
 rw [hds];simp only [hdh,hd0];clear hds hdh hd0;have HDD:=zH hdd;clear hdd;have HHS:=zH hhs;clear hhs;have r:=hE.rule 0 rfl;unfold rnC at r;go_enter func110,ntmps110;go_wp2_with fail;clear r;refine Ord.wc [20] (fun v=>Blk 0 v U.u (ruv U)/\Blk 0 v q (rnC (some ⟨b,0,none⟩) k ky to 0 sp rp)/\Blk 0 v b (rlC lv key vs x y z pc W X K V Cc fd)) (fun k9 w'=>∃ F5,Env w0 (boxI q (rnC (some ⟨b,0,none⟩) k ky to 0 sp rp)::boxI b (rlC lv key vs x y z pc W X K V Cc fd)::LU (if k9=0 then U else { U with F:=F5,ml:=swL U.ml (5,Cc,7) X y9 }) R) w') ⟨hE.drew.get 2 rfl,hE.drew.get 0 rfl,hE.drew.get 1 rfl⟩ ⟨U.F,hE.drew⟩ fun hT9=>?_
 repeat ((first
  | (refine Ord.cv ?_ hT9.o ?_ ?_; rotate_left; (intro w5 hS; have ru:=hS.1.rule; have rb:=hS.2.1.rule; have rc:=hS.2.2.rule; unfold ruv urv at ru; unfold rnC at rb; unfold rlC at rc; go_simp<;>rfl))
  | (refine Ord.co hT9.o ?_)
  | (refine Ord.cc ?_ ?_ ?_ hT9.o ?_ ?_ ?_; rotate_left 3; (intro w5 hS; have ru:=hS.1.rule; have rb:=hS.2.1.rule; have rc:=hS.2.2.rule; unfold ruv urv at ru; unfold rnC at rb; unfold rlC at rc; go_simp; constructor<;>rfl); (intro w5 hS; (first | (with_reducible refine kp (cell13_any _ _ _) ?_ ?_; rfl; exact fun w6 hb6=>⟨⟨hS.1.under hb6,hS.2.1.under hb6,hS.2.2.under hb6⟩,fun k h=>h.elim fun F5 h=>⟨F5,h.over hb6⟩⟩) | (with_reducible refine kp (HTO.out _ hS.1) ?_ ?_; rfl; exact fun w6 hb6=>⟨⟨hS.1.under hb6,hS.2.1.under hb6,hS.2.2.under hb6⟩,fun k h=>h.elim fun F5 h=>⟨F5,h.over hb6⟩⟩)))));try simp only [Act.put,zA,zZ,zS])
 refine Ord.ch_turn (v:=.bool dd) 0 hT9.o rfl (by decide) (Or.inl rfl) (by rfl) ?_ ?_
 ·rintro w5 hC5 ⟨F5,hA5⟩;simp only [if_true] at hA5;go_simp;simp only [Ord.LandsIn];have hsw:=refSwap_any 5 Cc 7 X y9 hml (hA5.ref 4 rfl);rw [HDD.out] at hsw;refine hsw.mono ?_;rintro e w6 ⟨rfl,F6,hU,hs9⟩;have hE6:=hA5.turnU 4 rfl hU hs9;exact ⟨rfl,⟨hE6.get 2 rfl,hE6.get 0 rfl,hE6.get 1 rfl⟩,F6,hE6⟩
 try simp only [Act.put,zA,zZ,zS]
 repeat ((first
  | (refine Ord.cv ?_ hT9.o ?_ ?_; rotate_left; (intro w5 hS; skip; go_simp<;>rfl))
  | (refine Ord.co hT9.o ?_));try simp only [Act.put,zA,zZ,zS])
 refine Ord.InText.nil fun w5 hS=>?_;clear hT9;obtain ⟨hC9,hA9⟩:=Ord.chain_end hS;clear hS;obtain ⟨F9,hA9⟩:=hA9;simp only [List.length_cons,List.length_nil,Nat.zero_add,Nat.one_ne_zero,if_false] at hA9;clear hC9 hE HTO HDD;cases dd
 ·go_wp2_with fail;go_ret;exact ⟨rfl,F9,hA9⟩
 ·have h0:∃ w9:World,w9=w9:=⟨w,rfl⟩;go_wp2_with fail;obtain ⟨U2,hU2⟩:∃ U2:SU,{ U with F:=F9,ml:=swL U.ml (5,Cc,7) X y9 }=U2:=⟨_,rfl⟩;have hu2:U2.u=U.u:=by rw [<- hU2]
  obtain ⟨g,hg⟩:∃ g,U.hs=g:=⟨_,rfl⟩;have hh2:U2.hs=g:=by rw [<- hU2]; exact hg
  rw [hU2] at hA9;have HU2:=zH hU2;clear hU2 h0;rw [<- hu2];have HH2:=zH hh2;have HG:=zH hg;clear hh2 hu2 hg
  by_cases hto:to=g
  ·subst hto;refine wp_text (S:=(Env w0 (boxI q (rnC (some ⟨b,0,none⟩) k ky to 0 sp rp)::boxI b (rlC lv key vs x y z pc W X K V Cc fd)::LU U2 R))) (by kernel_rfl) (by kernel_rfl) hA9.drew (fun hT=>?_);have hT9:=zH hT;clear hT
   repeat ((first
    | (refine text_value (v:=?_) hT9.o (by rfl) ?_ ?_; rotate_left; (intro w5 hS; have r:=hS.rule 0 rfl; have r1:=hS.rule 2 rfl; unfold rnC at r; unfold urv at r1; simp only [HH2.out] at r1; go_simp<;>rfl))
    | (refine text_off hT9.o (by rfl) ?_)
    | (refine text_call (v:=?_) (f:=?_) (args:=?_) hT9.o (by rfl) ?_ ?_ ?_; rotate_left 3; (intro w5 hS; have r:=hS.rule 0 rfl; have r1:=hS.rule 2 rfl; unfold rnC at r; unfold urv at r1; simp only [HH2.out] at r1; go_simp; constructor<;>rfl); (intro w5 hS; (first | fail))));try simp only [Act.put,zA,zZ,zS])
   refine InText.nil fun w5 hS5=>?_;clear hT9;clear hA9;have ru:=hS5.rule 2 rfl;unfold urv at ru;have fu:=hS5.thaw 2 rfl 8 (by simp [urv]);have hP:=hS5.put 2 rfl (j:=8) (by simp [urv]) (.int .i64 0);have rq:=hP.rule 0 rfl;unfold rnC at rq;have fq:=hP.thaw 0 rfl 4 (by simp [rnC]);have hQ:=hP.put 0 rfl (j:=4) (by simp [rnC]) (.int .i64 1);go_wp2_with fail;go_ret;have h2:=HU2.out;subst h2;exact ⟨rfl,F9,hQ⟩
  ·have hb:(g==to)=false:=by simpa using fun e=>hto e.symm
   have hg0:g=0:=by
    have h1:=HHS.out;have h2:=HG.out;omega
   have HG0:=zH hg0;clear hto hg0;refine wp_text (S:=(Env w0 (boxI q (rnC (some ⟨b,0,none⟩) k ky to 0 sp rp)::boxI b (rlC lv key vs x y z pc W X K V Cc fd)::LU U2 R))) (by kernel_rfl) (by kernel_rfl) hA9.drew (fun hT=>?_);have hT9:=zH hT;clear hT
   repeat ((first
    | (refine text_value (v:=?_) hT9.o (by rfl) ?_ ?_; rotate_left; (intro w5 hS; have r:=hS.rule 0 rfl; have r1:=hS.rule 2 rfl; unfold rnC at r; unfold urv at r1; simp only [HH2.out] at r1; go_simp<;>rfl))
    | (refine text_off hT9.o (by rfl) ?_)
    | (refine text_call (v:=?_) (f:=?_) (args:=?_) hT9.o (by rfl) ?_ ?_ ?_; rotate_left 3; (intro w5 hS; have r:=hS.rule 0 rfl; have r1:=hS.rule 2 rfl; unfold rnC at r; unfold urv at r1; simp only [HH2.out] at r1; go_simp; constructor<;>rfl); (intro w5 hS; (first | fail))));try simp only [Act.put,zA,zZ,zS])
   refine InText.nil fun w5 hS5=>?_;clear hT9;clear hA9;have rq:=hS5.rule 0 rfl;unfold rnC at rq;have fq:=hS5.thaw 0 rfl 4 (by simp [rnC]);have hQ:=hS5.put 0 rfl (j:=4) (by simp [rnC]) (.int .i64 1);go_wp2_with fail;go_ret;have h2:=HU2.out;subst h2;have hz:LU { U with F:=F9,ml:=swL U.ml (5,Cc,7) X y9,hs:=0 } R=LU { U with F:=F9,ml:=swL U.ml (5,Cc,7) X y9 } R:=by
    have h9:U.hs=0:=HG.out.trans HG0.out;simp only [LU,h9]
   have hQ2:Env w0 (boxI q (rnC (some ⟨b,0,none⟩) k ky to 1 sp rp)::boxI b (rlC lv key vs x y z pc W X K V Cc fd)::LU { U with F:=F9,ml:=swL U.ml (5,Cc,7) X y9 } R) _:=hQ;rw [<- hz] at hQ2;exact ⟨rfl,F9,hQ2⟩
end
end
end Go.Proofs.YtdknbegcflldjaaGreatDoor
