/- What is proved on the way to the statement, part 8: contracts of the functions, among other things in memory. -/
import Derived.Test.YthcblagpbkaoaaaGreatDoorR7
import Derived.OwnWalk
import Derived.LoopIn
import Derived.Test.YthcblagpbkaoaaaGreatDoorTie
import Derived.LaidMore
import Derived.Stop.Joined
import Derived.WalkKit
import Derived.ProofKit
import Derived.OpenShut
import Derived.Deep.SlicePairs

namespace Go.Proofs.YthcblagpbkaoaaaGreatDoor
open Go.RowKit Go.Maps
set_option maxRecDepth 100000
set_option maxHeartbeats 25600000
structure KOk (C:Cf) (ds:List Dd) (B:Nat) (d:Dd) (K:Kt):Prop where
 (t:OkT C ds B K.T)
 (tp:K.T.pc=if K.pc=2 then 2 else if K.pc=7 then 3 else if K.pc=8 then 4 else 0)
 (pc:K.pc<=8)
 (da:1<=K.pc->K.pc<=7->K.err=0/\K.dn=false)
 (s1:K.pc=1->K.on=true->LaneOk C K.L)
 (s2:K.pc=6->K.on2=true->LaneOk C K.L2)
 (sp:3<=K.pc->K.pc<=7->SpotOk C K.L)
 (un:4<=K.pc->K.pc<=7->markB K.L.X=false/\1<=K.L.C/\d.ok=2)
 (ins:K.pc=2\/K.pc=3->d.ok=1)
 (lk:K.pc=3->K.T.hs≠0)
 (ho:K.T.hs≠0->(K.pc=1\/K.pc=2\/K.pc=3)/\d.ok=1)
 (kk:K.pc=2->K.T.apc<=10\/K.T.apc - 10 < (WD C d K.T).length)
 (nd:K.pc≠0->1<=K.T.nd)
section
variable {C:Cf} {ds:List Dd} {B:Nat} {T:Th} {d:Dd} {K:Kt} {f:Mem}
theorem OkT.idle (h:OkT C ds B T) {x:Int} {y:Bool} (hx:0<=x/\x<=B):OkT C ds B { T with pc:=0,done:=x,full:=y } :=
 { e:=h.e,w:=h.w,hs:=h.hs,rs:=h.rs,ql:=h.ql,nd:=h.nd,len:=h.len,done:=hx,pc:=.inl rfl,p1:=fun h=>no h rfl,nd1:=fun h=>absurd rfl h,apc:=fun h=>no h rfl,low:=fun h=>no h rfl,adv:=fun h=>no h rfl,born:=fun h=>no h rfl,pool:=fun h=>no h rfl,an:=h.an,rpc:=fun h=>no h rfl,rsp:=fun h=>no h rfl,re:=h.re,gpc:=h.gpc,give:=fun h=>no h rfl,ghu:=h.ghu,gh:=h.gh,gv:=fun h=>no h rfl }
theorem OkT.epoch (h:OkT C ds B T) (h0:T.pc=0) {x:Int} (hx:0<=x/\x<=C.l):OkT C ds B { T with e:=x } :=
 { e:=hx,w:=h.w,hs:=h.hs,rs:=h.rs,ql:=h.ql,nd:=h.nd,len:=h.len,done:=h.done,pc:=h.pc,p1:=h.p1,nd1:=h.nd1,apc:=h.apc,low:=h.low,adv:=fun h9=>no (h0.symm.trans h9) rfl,born:=h.born,pool:=h.pool,an:=h.an,rpc:=h.rpc,rsp:=h.rsp,re:=h.re,gpc:=h.gpc,give:=h.give,ghu:=h.ghu,gh:=h.gh,gv:=h.gv }
theorem OkT.same {T1:Th} (h:OkT C ds B T) (hp:T.pc=T1.pc) {x:Nat} {y:Int} {z:Bool} (he:T={ T1 with pc:=x,done:=y,full:=z }) (hd:0<=T1.done/\T1.done<=B):OkT C ds B T1:=by
 subst he
 have hx:x=T1.pc:=hp
 subst hx
 exact { e:=h.e,w:=h.w,hs:=h.hs,rs:=h.rs,ql:=h.ql,nd:=h.nd,len:=h.len,done:=hd,pc:=h.pc,p1:=h.p1,nd1:=h.nd1,apc:=h.apc,low:=h.low,adv:=h.adv,born:=h.born,pool:=h.pool,an:=h.an,rpc:=h.rpc,rsp:=h.rsp,re:=h.re,gpc:=h.gpc,give:=h.give,ghu:=h.ghu,gh:=h.gh,gv:=h.gv }
theorem search_mem (key:Int) {on:Bool} {L:Lm} {e r:Int} (h:on=true->L.p=(4,0,0)\/∃ c,L.p=(5,c,7)) (f:Mem):(searchM 0 key false ⟨on,L,e,r⟩ f).2.2=f\/∃ p v,(p=(4,0,0)\/∃ c,p=(5,c,7))/\(searchM 0 key false ⟨on,L,e,r⟩ f).2.2=upd f p v/\v=wordI false (slotI L.X) e:=by
 cases on
 ·exact .inl rfl
 ·have hM:(searchM 0 key false ⟨true,L,e,r⟩ f).2.2=(laneM 0 key false e L f).2.2:=by unfold searchM; rw [if_pos rfl]
  rw [hM]
  unfold laneM
  repeat' split
  all_goals first
   | exact .inl rfl
   | (rename_i h9; refine .inr ⟨L.p,wordI false (slotI L.X) e,h rfl,?_,rfl⟩; show swf f L.p L.W _=_; unfold swf; rw [if_pos h9])
   | (rename_i h9; refine .inl ?_; show swf f L.p L.W _=_; unfold swf; rw [if_neg h9])
theorem LnkF.upd {p:Plc} {v:Int} (h:LnkF C f) (hv:slotI v<=C.s):LnkF C (upd f p v):=by
 refine ⟨?_,fun i=>?_⟩
 ·by_cases hp:p=(4,0,0)
  ·subst hp; rw [upd_same]; exact hv
  ·rw [upd_other f v (fun e=>hp e.symm)]; exact h.root
 ·by_cases hp:p=(5,i,7)
  ·subst hp; rw [upd_same]; exact hv
  ·rw [upd_other f v (fun e=>hp e.symm)]; exact h.link i
theorem LnkF.updo {p:Plc} {v:Int} (h:LnkF C f) (h1:p≠(4,0,0)) (h2:∀ i,p≠(5,i,7)):LnkF C (Go.Proofs.YthcblagpbkaoaaaGreatDoor.upd f p v):=by
 refine ⟨?_,fun i=>?_⟩
 ·rw [upd_other f v (fun e=>h1 e.symm)]; exact h.root
 ·rw [upd_other f v (fun e=>h2 i e.symm)]; exact h.link i
theorem LnkF.swf {p:Plc} {o v:Int} (h:LnkF C f) (hv:slotI v<=C.s):LnkF C (swf f p o v):=by
 unfold Go.Proofs.YthcblagpbkaoaaaGreatDoor.swf
 split
 ·exact h.upd hv
 ·exact h
theorem OkF.updL {p:Plc} {v:Int} (h:OkF C f) (hp:p=(4,0,0)\/∃ c,p=(5,c,7)) (hu:∀ x,InU (Go.Proofs.YthcblagpbkaoaaaGreatDoor.upd f p v x)):OkF C (Go.Proofs.YthcblagpbkaoaaaGreatDoor.upd f p v):=by
 have h1:p≠(2,0,0):=by rcases hp with rfl | ⟨c,rfl⟩<;>simp
 have h2:∀ i,p≠(5,i,2):=by intro i; rcases hp with rfl | ⟨c,rfl⟩<;>simp
 have h3:p≠(1,0,0):=by rcases hp with rfl | ⟨c,rfl⟩<;>simp
 refine ⟨hu,?_,fun i=>?_,?_⟩
 ·rw [upd_other f v (fun e=>h1 e.symm)]; exact h.pool
 ·rw [upd_other f v (fun e=>h2 i e.symm)]; exact h.chain i
 ·rw [upd_other f v (fun e=>h3 e.symm)]; exact h.ep
theorem OkF.swfL {p:Plc} {o v:Int} (h:OkF C f) (hp:p=(4,0,0)\/∃ c,p=(5,c,7)) (hu:∀ x,InU (Go.Proofs.YthcblagpbkaoaaaGreatDoor.swf f p o v x)):OkF C (Go.Proofs.YthcblagpbkaoaaaGreatDoor.swf f p o v):=by
 unfold Go.Proofs.YthcblagpbkaoaaaGreatDoor.swf at hu ⊢
 split
 ·rename_i h9
  rw [if_pos h9] at hu
  exact h.updL hp hu
 ·exact h
end
theorem part_ne7 (ck e key val lv:Int) (k:Nat):((wordsA ck e key val lv).getD k (0,0)).1≠7:=by
 rw [List.getD_eq_getElem?_getD]
 rcases h:(wordsA ck e key val lv)[k]? with _ | ⟨a,b⟩
 ·simp
 ·have hm:(a,b)∈wordsA ck e key val lv:=List.mem_of_getElem? h
  simp only [Option.getD_some]
  unfold wordsA at hm
  split at hm
  ·simp at hm
   rcases hm with ⟨rfl,rfl⟩ | ⟨rfl,rfl⟩ | ⟨rfl,rfl⟩ | ⟨rfl,rfl⟩<;>decide
  ·split at hm
   ·simp at hm
    rcases hm with ⟨rfl,rfl⟩ | ⟨rfl,rfl⟩ | ⟨rfl,rfl⟩ | ⟨rfl,rfl⟩ | ⟨rfl,rfl⟩<;>decide
   ·simp at hm
    rcases hm with ⟨rfl,rfl⟩ | ⟨rfl,rfl⟩ | ⟨rfl,rfl⟩<;>decide
section
variable {C:Cf} {ds:List Dd} {B:Nat} {T:Th} {d:Dd} {K:Kt} {f:Mem}
theorem LnkF.swfo {p:Plc} {o v:Int} (h:LnkF C f) (h1:p≠(4,0,0)) (h2:∀ i,p≠(5,i,7)):LnkF C (Go.Proofs.YthcblagpbkaoaaaGreatDoor.swf f p o v):=by
 unfold Go.Proofs.YthcblagpbkaoaaaGreatDoor.swf
 split
 ·exact h.updo h1 h2
 ·exact h
theorem allocM_lnk (h:LnkF C f):LnkF C (allocM C d T f).2.2:=by
 unfold allocM
 dsimp only
 repeat' split
 all_goals first
  | exact h
  | exact h.updo (by simp) (fun i h9=>part_ne7 _ _ _ _ _ _ (congrArg (fun p:Plc=>p.2.2) h9))
  | exact h.updo (by simp) (by simp)
  | exact h.swfo (by simp) (by simp)
theorem retireM_lnk (h:LnkF C f):LnkF C (retireM T f).2.2:=by
 unfold retireM
 split
 ·exact h
 ·exact h.updo (by simp) (by simp)
theorem allocM_kk (h:T.apc<=10\/T.apc - 10 < (WD C d T).length) (h0:(allocM C d T f).1=0):(allocM C d T f).2.1.apc<=10\/(allocM C d T f).2.1.apc - 10 < (WD C d (allocM C d T f).2.1).length:=by
 have hl:=WD_len C d T
 have hd:=fun q=>decP_in q T.e C.l
 have he:WD C d (allocM C d T f).2.1=WD C d T:=by unfold WD; rw [(allocM_keep C d T f).1]
 rw [he]
 revert h0
 unfold allocM
 dsimp only
 repeat' split
 all_goals intro h0
 all_goals dsimp only at h0 ⊢
 all_goals first
  | omega
  | (left; rcases hd (T.ql++[(f (3,0,0)+1,0,0)]) with h9 | h9 | h9 | h9<;>omega)
  | (left; rcases hd (T.ql++[(slotI T.ah,epI T.ar,0)]) with h9 | h9 | h9 | h9<;>omega)
  | (right; have h8:(WD C d T).length=(wordsA C.k T.e d.key d.val (IntKind.u64.wrap d.lv)).length:=rfl; unfold lastS at h0; split at h0<;>omega)
theorem allocM_hs (h:T.apc<=10->T.hs=0) (h0:(allocM C d T f).1=3\/(allocM C d T f).1=4\/(allocM C d T f).1=2):(allocM C d T f).2.1.hs=0:=by
 revert h0
 unfold allocM
 dsimp only
 repeat' split
 all_goals intro h0
 all_goals dsimp only at h0 ⊢
 all_goals first
  | exact h (by omega)
  | (exfalso; unfold lastS at h0; split at h0<;>omega)
theorem retireM_keep:(retireM T f).2.1.hs=T.hs/\(retireM T f).2.1.nd=T.nd/\(retireM T f).2.1.done=T.done/\(retireM T f).2.1.full=T.full/\(retireM T f).2.1.pc=T.pc/\((retireM T f).1=0\/(retireM T f).1=1):=by
 unfold retireM
 split<;>simp
theorem OkT.noH (h:OkT C ds B T) (h0:T.pc=0) (hC:COk C):OkT C ds B { T with hs:=0 } :=
 { h with hs:=(by have:=hC.s; show (0:Int)<=0/\(0:Int)<=C.s; omega),p1:=fun _=>rfl,low:=fun _ _=>rfl }
theorem OkT.drop (h:OkT C ds B T) (h0:T.pc=0) (hC:COk C):OkT C ds (B+1) { T with ql:=dropQ T.hs T.ql,hs:=0 }:=by
 have hm:=h.more
 have h64:=h.hs
 refine { hm with hs:=(by have:=hC.s; show (0:Int)<=0/\(0:Int)<=C.s; omega),p1:=fun _=>rfl,low:=fun _ _=>rfl,ql:=?_,len:=?_,born:=fun h9=>no (h0.symm.trans h9) rfl,give:=fun h9=>no (h0.symm.trans h9) rfl }
 ·show ∀ x∈dropQ T.hs T.ql,_
  unfold dropQ
  split
  ·exact h.ql
  ·exact ql_add h.ql (by omega) h64.2
 ·have:=h.len
  show (dropQ T.hs T.ql).length+(ds.length - T.nd)<=B+1
  unfold dropQ
  split
  ·omega
  ·simp; omega
theorem OkT.alloc (h:OkT C ds B T) (hh:T.hs=0) (hn:1<=T.nd) (hC:COk C) (hD:decP T.ql T.e C.l≠0):OkT C ds B { T with pc:=2,apc:=decP T.ql T.e C.l,ah:=0,an:=0,ar:=0 }:=by
 have hz:slotI 0=0:=by decide
 have hu0:InU 0:=by unfold InU; omega
 have hs:=hC.s
 refine { h with w:=⟨hu0,hu0,hu0⟩,an:=(by show slotI 0<=C.s; omega),pc:=.inr (.inr (.inl rfl)),nd1:=fun _=>hn,p1:=fun h=>no h rfl,rpc:=fun h=>no h rfl,rsp:=fun h=>no h rfl,give:=fun h=>no h rfl,gv:=fun h=>no h rfl,apc:=fun _=>?_,low:=fun _ _=>hh,adv:=fun _ h=>decP_adv h,born:=fun _ h=>decP_born h,pool:=fun _ ha hb=>?_ }
 ·show decP T.ql T.e C.l=1\/decP T.ql T.e C.l=2\/decP T.ql T.e C.l=3\/decP T.ql T.e C.l=4\/decP T.ql T.e C.l=5\/decP T.ql T.e C.l=6\/10<=decP T.ql T.e C.l
  rcases decP_in T.ql T.e C.l with h | h | h | h<;>omega
 ·have ha':4<=decP T.ql T.e C.l:=ha
  have hb':decP T.ql T.e C.l<=6:=hb
  rcases decP_in T.ql T.e C.l with h | h | h | h<;>omega
theorem OkT.retire (h:OkT C ds B T) (hn:1<=T.nd) (hC:COk C) {c:Int} (h1:1<=c) (h2:c<=C.s):OkT C ds B { T with pc:=3,rs:=c,rpc:=0,re:=0 } :=
 { h with rs:=⟨Int.le_trans (by decide) h1,h2⟩,re:=(by have:=hC.l; show (0:Int)<=0/\(0:Int)<=C.l; omega),pc:=.inr (.inr (.inr (.inl rfl))),nd1:=fun _=>hn,p1:=fun h=>no h rfl,apc:=fun h=>no h rfl,low:=fun h=>no h rfl,adv:=fun h=>no h rfl,born:=fun h=>no h rfl,pool:=fun h=>no h rfl,rpc:=fun _=>.inl rfl,rsp:=fun _=>h1,give:=fun h=>no h rfl,gv:=fun h=>no h rfl }
theorem OkT.begin4 (h:OkT C ds B T) (hlt:T.nd < ds.length) (hC:COk C):OkT C ds B { T with pc:=4,nd:=T.nd+1,gpc:=0,gh:=0,gg:=0 }:=by
 have hl:=h.len
 have hs:=hC.s
 exact { h with nd:=hlt,len:=(by show T.ql.length+(ds.length - (T.nd+1))<=B; omega),pc:=.inr (.inr (.inr (.inr rfl))),nd1:=fun _=>Nat.le_add_left 1 T.nd,p1:=fun h=>no h rfl,apc:=fun h=>no h rfl,low:=fun h=>no h rfl,adv:=fun h=>no h rfl,born:=fun h=>no h rfl,pool:=fun h=>no h rfl,rpc:=fun h=>no h rfl,rsp:=fun h=>no h rfl,gpc:=Nat.zero_le 3,ghu:=(by show InU 0; unfold InU; omega),gh:=(by show slotI 0<=C.s; rw [show slotI 0=0 from by decide]; omega),give:=fun _ h=>(Nat.not_succ_le_zero _ h).elim,gv:=fun _ h=>(Nat.not_succ_le_zero _ h).elim }
theorem OkT.begin0 (h:OkT C ds B T) (hlt:T.nd < ds.length):OkT C ds B { T with nd:=T.nd+1 }:=by
 have hl:=h.len
 exact { h with nd:=hlt,len:=(by show T.ql.length+(ds.length - (T.nd+1))<=B; omega),nd1:=fun _=>Nat.le_add_left 1 T.nd }
theorem KOk.fin {on laid on2 dn:Bool} {L L2:Lm} {err r:Int} (h:OkT C ds B T) (h0:T.pc=0) (hh:T.hs=0):KOk C ds B d ⟨T,0,on,L,laid,on2,L2,err,dn,r⟩ where
 t:=h
 tp:=h0
 pc:=Nat.zero_le 8
 da:=fun h9=>absurd h9 (by show ¬ 1<=0; decide)
 s1:=fun h9=>no h9 rfl
 s2:=fun h9=>no h9 rfl
 sp:=fun h9=>absurd h9 (by show ¬ 3<=0; decide)
 un:=fun h9=>absurd h9 (by show ¬ 4<=0; decide)
 ins:=fun h9=>by rcases h9 with h9 | h9<;>exact no h9 rfl
 lk:=fun h9=>no h9 rfl
 ho:=fun h9=>absurd hh h9
 kk:=fun h9=>no h9 rfl
 nd:=fun h9=>absurd rfl h9
theorem KOk.find {laid on2:Bool} {L2:Lm} {r:Int} (h:OkT C ds B T) (h0:T.pc=0) (hh:T.hs≠0->d.ok=1) (hn:1<=T.nd) (on:Bool) (L:Lm) (hL:on=true->LaneOk C L):KOk C ds B d ⟨T,1,on,L,laid,on2,L2,0,false,r⟩ where
 t:=h
 tp:=h0
 pc:=by show 1<=8; decide
 da:=fun _ _=>⟨rfl,rfl⟩
 s1:=fun _ h=>hL h
 s2:=fun h9=>no h9 rfl
 sp:=fun h9=>absurd h9 (by show ¬ 3<=1; decide)
 un:=fun h9=>absurd h9 (by show ¬ 4<=1; decide)
 ins:=fun h9=>by rcases h9 with h9 | h9<;>exact no h9 rfl
 lk:=fun h9=>no h9 rfl
 ho:=fun h9=>⟨.inl rfl,hh h9⟩
 kk:=fun h9=>no h9 rfl
 nd:=fun _=>hn
end
structure KOut (C:Cf) (ds:List Dd) (B:Nat) (d:Dd) (K:Kt) (r:Int × Kt × Mem):Prop where
 (f:OkF C r.2.2)
 (l:LnkF C r.2.2)
 (nd:r.2.1.T.nd=K.T.nd)
 (k:KOk C ds B d { r.2.1 with pc:=if r.1=0 then r.2.1.pc else 0 })
section
variable {C:Cf} {ds:List Dd} {B:Nat} {T:Th} {d:Dd} {K:Kt} {f:Mem}
theorem search_memok (hF:OkF C f) (hS:LnkF C f) (hC:COk C) (key:Int) {on:Bool} {L:Lm} {e r:Int} (h:on=true->LaneOk C L) (hu:∀ x,InU ((searchM 0 key false ⟨on,L,e,r⟩ f).2.2 x)):OkF C (searchM 0 key false ⟨on,L,e,r⟩ f).2.2/\LnkF C (searchM 0 key false ⟨on,L,e,r⟩ f).2.2:=by
 have hs0:0<=C.s:=by have:=hC.s; omega
 by_cases ho:on=true
 ·rcases search_mem key (on:=on) (L:=L) (e:=e) (r:=r) (fun h9=>(h h9).at9) f with h9 | ⟨p,v,hp,h9,hv⟩
  ·rw [h9]; exact ⟨hF,hS⟩
  ·rw [h9] at hu ⊢
   exact ⟨hF.updL hp hu,hS.upd (by rw [hv]; exact slot_word_le hs0 (h ho).sx)⟩
 ·have h9:(searchM 0 key false ⟨on,L,e,r⟩ f).2.2=f:=by unfold searchM; rw [if_neg ho]
  rw [h9]; exact ⟨hF,hS⟩
theorem search_e (hF:OkF C f) (hC:COk C) (key:Int) {on:Bool} {L:Lm} {e r:Int} (he:0<=e/\e<=C.l):0<=(searchM 0 key false ⟨on,L,e,r⟩ f).2.1.e/\(searchM 0 key false ⟨on,L,e,r⟩ f).2.1.e<=C.l:=by
 have h9:=epI_of (hF.u (1,0,0)) hF.ep hC.l.2
 unfold searchM
 split
 ·exact he
 ·show 0<=epI (f (1,0,0))/\epI (f (1,0,0))<=C.l
  rw [h9.1]
  exact ⟨h9.2,hF.ep⟩
theorem KOk.t0 (h:KOk C ds B d K) (hp:K.pc≠2/\K.pc≠7/\K.pc≠8):K.T.pc=0:=by
 have h9:=h.tp
 rw [if_neg hp.1,if_neg hp.2.1,if_neg hp.2.2] at h9
 exact h9
theorem KOk.hs0 (h:KOk C ds B d K) (hp:4<=K.pc\/K.pc=0):K.T.hs=0:=by
 by_cases h9:K.T.hs=0
 ·exact h9
 ·have:=(h.ho h9).1
  omega
theorem KOk.again {B2:Nat} (h:KOk C ds B d K) (hT:OkT C ds B2 T) (h0:T.pc=0) (hh:T.hs≠0->d.ok=1) (hn:1<=T.nd) (h1:1<=K.pc) (h7:K.pc<=7):KOk C ds B2 d (findM { K with T:=T }):=by
 have hda:=h.da h1 h7
 have hx:findM { K with T:=T }=⟨T,1,false,L0 (4,0,0),K.laid,K.on2,K.L2,0,false,K.r⟩:=by unfold findM; rw [<- hda.1,<- hda.2]
 rw [hx]
 exact KOk.find hT h0 hh hn false _ (fun h=>absurd h (by decide))
theorem KOk.more (h:KOk C ds B d K):KOk C ds (B+1) d K:={ h with t:=h.t.more }
theorem found_keep (hC:COk C) (h:KOk C ds B d { K with on:=false }) (h1:K.pc=1) (hL:SpotOk C K.L):(foundM C d K).2.T.nd=K.T.nd/\KOk C ds (B+1) d { (foundM C d K).2 with pc:=if (foundM C d K).1=0 then (foundM C d K).2.pc else 0 }:=by
 have h0:K.T.pc=0:=h.t0 ⟨by show K.pc≠2; omega,by show K.pc≠7; omega,by show K.pc≠8; omega⟩
 have hn:1<=K.T.nd:=h.nd (by show K.pc≠0; omega)
 have hda:K.err=0/\K.dn=false:=h.da (by show 1<=K.pc; omega) (by show K.pc<=7; omega)
 unfold foundM
 by_cases hi:d.ok=1
 ·rw [if_pos hi]
  by_cases hf:K.L.fd=true
  ·rw [if_pos hf]
   exact ⟨rfl,KOk.fin (h.t.drop h0 hC) h0 rfl⟩
  ·rw [if_neg hf]
   by_cases hh:K.T.hs=0
   ·rw [if_pos hh]
    by_cases hD:decP K.T.ql K.T.e C.l=0
    ·rw [if_pos hD]
     exact ⟨rfl,KOk.fin h.t.more h0 hh⟩
    ·rw [if_neg hD]
     exact ⟨rfl,{ t:=(h.t.alloc hh hn hC hD).more,tp:=rfl,pc:=(by show 2<=8; decide),da:=fun _ _=>hda,s1:=fun h9=>no h9 rfl,s2:=fun h9=>no h9 rfl,sp:=fun h9=>absurd h9 (by show ¬ 3<=2; decide),un:=fun h9=>absurd h9 (by show ¬ 4<=2; decide),ins:=fun _=>hi,lk:=fun h9=>no h9 rfl,ho:=fun h9=>absurd hh h9,kk:=fun _=>.inl (by show decP K.T.ql K.T.e C.l<=10; rcases decP_in K.T.ql K.T.e C.l with h | h | h | h<;>omega),nd:=fun _=>hn }⟩
   ·rw [if_neg hh]
    exact ⟨rfl,{ t:=h.t.more,tp:=h0,pc:=(by show 3<=8; decide),da:=fun _ _=>hda,s1:=fun h9=>no h9 rfl,s2:=fun h9=>no h9 rfl,sp:=fun _ _=>hL,un:=fun h9=>absurd h9 (by show ¬ 4<=3; decide),ins:=fun _=>hi,lk:=fun _=>hh,ho:=fun _=>⟨.inr (.inr rfl),hi⟩,kk:=fun h9=>no h9 rfl,nd:=fun _=>hn }⟩
 ·rw [if_neg hi]
  have hh:K.T.hs=0:=by
   by_cases h9:K.T.hs=0
   ·exact h9
   ·exact absurd (h.ho h9).2 hi
  by_cases hd:d.ok=2/\K.L.fd=true
  ·rw [if_pos hd]
   have hfd:=hL.fd hd.2
   exact ⟨rfl,{ t:=h.t.more,tp:=h0,pc:=(by show 4<=8; decide),da:=fun _ _=>hda,s1:=fun h9=>no h9 rfl,s2:=fun h9=>no h9 rfl,sp:=fun _ _=>hL,un:=fun _ _=>⟨hfd.2,hfd.1,hd.1⟩,ins:=fun h9=>by rcases h9 with h9 | h9<;>exact no h9 rfl,lk:=fun h9=>no h9 rfl,ho:=fun h9=>absurd hh h9,kk:=fun h9=>no h9 rfl,nd:=fun _=>hn }⟩
  ·rw [if_neg hd]
   exact ⟨rfl,KOk.fin h.t.more h0 hh⟩
theorem op1_keep (hC:COk C) (hF:OkF C f) (hS:LnkF C f) (h:KOk C ds B d K) (h1:K.pc=1) (hu:∀ x,InU ((opM C d K f).2.2 x)):KOut C ds (B+1) d K (opM C d K f):=by
 have h0:=h.t0 (by omega)
 have hn:=h.nd (by omega)
 have hda:=h.da (by omega) (by omega)
 have hho:K.T.hs≠0->d.ok=1:=fun h9=>(h.ho h9).2
 have hk:=search_keep (key:=d.key) (e:=K.T.e) (r:=K.r) (h.s1 h1) hF.u hS (by have:=hC.s; omega)
 have he:=search_e hF hC d.key (on:=K.on) (L:=K.L) (r:=K.r) h.t.e
 have hm:=search_memok hF hS hC d.key (e:=K.T.e) (r:=K.r) (h.s1 h1)
 unfold opM at hu ⊢
 rw [if_pos h1] at hu ⊢
 generalize hq:searchM 0 d.key false ⟨K.on,K.L,K.T.e,K.r⟩ f=q at *
 dsimp only at hu ⊢
 have hT:=h.t.epoch h0 he
 by_cases hq1:q.1=1
 ·rw [if_pos hq1] at hu ⊢
  have hK:KOk C ds B d ⟨{ K.T with e:=q.2.1.e },K.pc,false,q.2.1.L,K.laid,K.on2,K.L2,K.err,K.dn,q.2.1.r⟩:=by
   rw [h1,hda.1,hda.2]
   exact KOk.find hT h0 hho hn false _ (fun h=>absurd h (by decide))
  have hf:=found_keep (K:={ K with on:=q.2.1.on,L:=q.2.1.L,r:=q.2.1.r,T:={ K.T with e:=q.2.1.e } }) hC hK h1 (hk.2 hq1)
  exact ⟨(hm hu).1,(hm hu).2,hf.1,hf.2⟩
 ·rw [if_neg hq1] at hu ⊢
  have hq0:q.1=0:=by
   have:=search_state 0 d.key false ⟨K.on,K.L,K.T.e,K.r⟩ f
   rw [hq] at this
   omega
  refine ⟨(hm hu).1,(hm hu).2,rfl,?_⟩
  show KOk C ds (B+1) d ⟨{ K.T with e:=q.2.1.e },K.pc,q.2.1.on,q.2.1.L,K.laid,K.on2,K.L2,K.err,K.dn,q.2.1.r⟩
  rw [h1,hda.1,hda.2]
  exact KOk.find hT.more h0 hho hn _ _ (fun h=>hk.1 hq0 h)
theorem op2_keep (hC:COk C) (hF:OkF C f) (hS:LnkF C f) (h:KOk C ds B d K) (h1:K.pc=2) (hu:∀ x,InU ((opM C d K f).2.2 x)):KOut C ds (B+1) d K (opM C d K f):=by
 have h2:K.T.pc=2:=by have:=h.tp; rw [if_pos h1] at this; exact this
 have hn:=h.nd (by omega)
 have hda:=h.da (by omega) (by omega)
 have hi:=h.ins (.inl h1)
 have hact:=al_cases C d K.T f h2
 have hA:=act2_ok (d:=d) hC hF h.t h2
 have hkk:=allocM_kk (f:=f) (h.kk h1)
 have hhs:=allocM_hs (C:=C) (d:=d) (f:=f) (h.t.low h2)
 have hl:=allocM_lnk (d:=d) (T:=K.T) hS
 have kp:=allocM_keep C d K.T f
 have st:=allocM_state C d K.T f
 rw [hact] at hA
 unfold opM at hu ⊢
 rw [if_neg (by omega),if_pos h1] at hu ⊢
 generalize allocM C d K.T f=q at *
 dsimp only at hu hA ⊢
 have hdone:0<=q.2.1.done/\q.2.1.done<=((B+1:Nat):Int):=by
  have:=h.t.done
  rw [kp.2.2.2.2.2.2.2.2.2.1]
  omega
 have hok:(∀ x,InU (q.2.2 x))->OkT C ds (B+1) { q.2.1 with pc:=0 }:=fun h9=>(hA h9).2.idle hdone
 rcases st with s | s | s | s | s
 ·rw [if_pos s] at hu ⊢
  have ha:=hA hu
  have hT:OkT C ds (B+1) q.2.1:=by
   have h9:=ha.2
   rw [s] at h9
   exact h9.same (by show 2=q.2.1.pc; rw [kp.2.2.1]; exact h2.symm) rfl hdone
  refine ⟨ha.1,hl,kp.2.1,?_⟩
  show KOk C ds (B+1) d { K with T:=q.2.1 }
  exact { t:=hT,tp:=(by show q.2.1.pc=if K.pc=2 then 2 else _; rw [if_pos h1,kp.2.2.1]; exact h2),pc:=h.pc,da:=fun _ _=>hda,s1:=fun h9=>absurd (h1.symm.trans h9) (by decide),s2:=fun h9=>absurd (h1.symm.trans h9) (by decide),sp:=fun h9=>absurd (show 3<=K.pc from h9) (by omega),un:=fun h9=>absurd (show 4<=K.pc from h9) (by omega),ins:=fun _=>hi,lk:=fun h9=>absurd (h1.symm.trans h9) (by decide),ho:=fun _=>⟨.inr (.inl h1),hi⟩,kk:=fun _=>hkk s,nd:=fun _=>(by show 1<=q.2.1.nd; rw [kp.2.1]; exact hn) }
 ·rw [if_neg (by omega),if_neg (by omega),if_neg (by omega)] at hu ⊢
  exact ⟨(hA hu).1,hl,kp.2.1,h.again (hok hu) rfl (fun _=>hi) (by show 1<=q.2.1.nd; rw [kp.2.1]; exact hn) (by omega) (by omega)⟩
 ·rw [if_neg (by omega),if_neg (by omega),if_neg (by omega)] at hu ⊢
  exact ⟨(hA hu).1,hl,kp.2.1,h.again (hok hu) rfl (fun _=>hi) (by show 1<=q.2.1.nd; rw [kp.2.1]; exact hn) (by omega) (by omega)⟩
 ·rw [if_neg (by omega),if_pos s] at hu ⊢
  exact ⟨(hA hu).1,hl,kp.2.1,KOk.fin (hok hu) rfl (hhs (.inl s))⟩
 ·rw [if_neg (by omega),if_neg (by omega),if_pos s] at hu ⊢
  exact ⟨(hA hu).1,hl,kp.2.1,KOk.fin (hok hu) rfl (hhs (.inr (.inl s)))⟩
end
section
variable {C:Cf} {ds:List Dd} {B:Nat} {T:Th} {d:Dd} {K:Kt} {f:Mem}
theorem op3_keep (hC:COk C) (hF:OkF C f) (hS:LnkF C f) (h:KOk C ds B d K) (h1:K.pc=3) (hu:∀ x,InU ((opM C d K f).2.2 x)):KOut C ds (B+1) d K (opM C d K f):=by
 have h0:=h.t0 (by omega)
 have hn:=h.nd (by omega)
 have hda:=h.da (by omega) (by omega)
 have hsp:=h.sp (by omega) (by omega)
 have hi:=h.ins (.inr h1)
 have hs0:0<=C.s:=by have:=hC.s; omega
 have hsl:=slot_word_le (m:=false) (e:=K.T.e) hs0 h.t.hs.2
 unfold opM at hu ⊢
 rw [if_neg (by omega),if_neg (by omega),if_pos h1] at hu ⊢
 by_cases hl:K.laid=true
 ·rw [if_pos hl] at hu ⊢
  by_cases hx:f K.L.p=K.L.W
  ·rw [if_pos hx] at hu ⊢
   exact ⟨hF.swfL hsp.at9 hu,hS.swf hsl,rfl,KOk.fin (h.t.noH h0 hC).more h0 rfl⟩
  ·rw [if_neg hx] at hu ⊢
   exact ⟨hF.swfL hsp.at9 hu,hS.swf hsl,rfl,h.again h.t.more h0 (fun _=>hi) hn (by omega) (by omega)⟩
 ·rw [if_neg hl] at hu ⊢
  refine ⟨hF.updL (.inr ⟨_,rfl⟩) hu,hS.upd (slot_word_le hs0 hsp.sw),rfl,?_⟩
  show KOk C ds (B+1) d { K with laid:=true }
  have hm:=h.more
  exact { t:=hm.t,tp:=hm.tp,pc:=hm.pc,da:=hm.da,s1:=hm.s1,s2:=hm.s2,sp:=hm.sp,un:=hm.un,ins:=hm.ins,lk:=hm.lk,ho:=hm.ho,kk:=hm.kk,nd:=hm.nd }
theorem op4_keep (hC:COk C) (hF:OkF C f) (hS:LnkF C f) (h:KOk C ds B d K) (h1:K.pc=4) (hu:∀ x,InU ((opM C d K f).2.2 x)):KOut C ds (B+1) d K (opM C d K f):=by
 have h0:=h.t0 (by omega)
 have hn:=h.nd (by omega)
 have hda:=h.da (by omega) (by omega)
 have hsp:=h.sp (by omega) (by omega)
 have hun:=h.un (by omega) (by omega)
 have hh:=h.hs0 (.inl (by omega))
 have hs0:0<=C.s:=by have:=hC.s; omega
 have hsl:slotI (markM K.L.X K.T.e)<=C.s:=slot_word_le hs0 hsp.sx
 unfold opM at hu ⊢
 rw [if_neg (by omega),if_neg (by omega),if_neg (by omega),if_pos h1] at hu ⊢
 by_cases hx:f (5,K.L.C,7)=K.L.X
 ·rw [if_pos hx] at hu ⊢
  exact ⟨hF.swfL (.inr ⟨_,rfl⟩) hu,hS.swf hsl,rfl,{ t:=h.t.more,tp:=h0,pc:=(by show 5<=8; decide),da:=fun _ _=>hda,s1:=fun h9=>no h9 rfl,s2:=fun h9=>no h9 rfl,sp:=fun _ _=>hsp,un:=fun _ _=>hun,ins:=fun h9=>by rcases h9 with h9 | h9<;>exact no h9 rfl,lk:=fun h9=>no h9 rfl,ho:=fun h9=>absurd hh h9,kk:=fun h9=>no h9 rfl,nd:=fun _=>hn }⟩
 ·rw [if_neg hx] at hu ⊢
  exact ⟨hF.swfL (.inr ⟨_,rfl⟩) hu,hS.swf hsl,rfl,h.again h.t.more h0 (fun h9=>absurd hh h9) hn (by omega) (by omega)⟩
theorem KOk.seven (h:KOk C ds B d K) (hC:COk C) (h4:4<=K.pc) (h7:K.pc<=7) (hT:OkT C ds B T) (hh:T.hs=0) (hn:1<=T.nd) {on2:Bool} {L2:Lm} {r:Int}:KOk C ds (B+1) d ⟨{ T with pc:=3,rs:=K.L.C,rpc:=0,re:=0 },7,K.on,K.L,K.laid,on2,L2,K.err,K.dn,r⟩:=by
 have hda:=h.da (by omega) h7
 have hsp:=h.sp (by omega) h7
 have hun:=h.un h4 h7
 exact { t:=(hT.retire hn hC hun.2.1 hsp.cs).more,tp:=rfl,pc:=(by show 7<=8; decide),da:=fun _ _=>hda,s1:=fun h9=>no h9 rfl,s2:=fun h9=>no h9 rfl,sp:=fun _ _=>hsp,un:=fun _ _=>hun,ins:=fun h9=>by rcases h9 with h9 | h9<;>exact no h9 rfl,lk:=fun h9=>no h9 rfl,ho:=fun h9=>absurd hh h9,kk:=fun h9=>no h9 rfl,nd:=fun _=>hn }
theorem KOk.six (h:KOk C ds B d K) (h4:4<=K.pc) (h7:K.pc<=7) (hT:OkT C ds B T) (h0:T.pc=0) (hh:T.hs=0) (hn:1<=T.nd) {on2:Bool} {L2:Lm} {r:Int} (hL:on2=true->LaneOk C L2):KOk C ds (B+1) d ⟨T,6,K.on,K.L,K.laid,on2,L2,K.err,K.dn,r⟩:=by
 have hda:=h.da (by omega) h7
 have hsp:=h.sp (by omega) h7
 have hun:=h.un h4 h7
 exact { t:=hT.more,tp:=h0,pc:=(by show 6<=8; decide),da:=fun _ _=>hda,s1:=fun h9=>no h9 rfl,s2:=fun _ h9=>hL h9,sp:=fun _ _=>hsp,un:=fun _ _=>hun,ins:=fun h9=>by rcases h9 with h9 | h9<;>exact no h9 rfl,lk:=fun h9=>no h9 rfl,ho:=fun h9=>absurd hh h9,kk:=fun h9=>no h9 rfl,nd:=fun _=>hn }
theorem op5_keep (hC:COk C) (hF:OkF C f) (hS:LnkF C f) (h:KOk C ds B d K) (h1:K.pc=5) (hu:∀ x,InU ((opM C d K f).2.2 x)):KOut C ds (B+1) d K (opM C d K f):=by
 have h0:=h.t0 (by omega)
 have hn:=h.nd (by omega)
 have hsp:=h.sp (by omega) (by omega)
 have hh:=h.hs0 (.inl (by omega))
 have hs0:0<=C.s:=by have:=hC.s; omega
 have hsl:=slot_word_le (m:=false) (e:=K.T.e) hs0 hsp.sx
 unfold opM at hu ⊢
 rw [if_neg (by omega),if_neg (by omega),if_neg (by omega),if_neg (by omega),if_pos h1] at hu ⊢
 by_cases hx:f K.L.p=K.L.W
 ·rw [if_pos hx] at hu ⊢
  exact ⟨hF.swfL hsp.at9 hu,hS.swf hsl,rfl,h.seven hC (by omega) (by omega) h.t hh hn⟩
 ·rw [if_neg hx] at hu ⊢
  exact ⟨hF.swfL hsp.at9 hu,hS.swf hsl,rfl,h.six (by omega) (by omega) h.t h0 hh hn (fun h=>absurd (show false=true from h) (by decide))⟩
theorem op6_keep (hC:COk C) (hF:OkF C f) (hS:LnkF C f) (h:KOk C ds B d K) (h1:K.pc=6) (hu:∀ x,InU ((opM C d K f).2.2 x)):KOut C ds (B+1) d K (opM C d K f):=by
 have h0:=h.t0 (by omega)
 have hn:=h.nd (by omega)
 have hh:=h.hs0 (.inl (by omega))
 have hk:=search_keep (key:=d.key) (e:=K.T.e) (r:=K.r) (h.s2 h1) hF.u hS (by have:=hC.s; omega)
 have he:=search_e hF hC d.key (on:=K.on2) (L:=K.L2) (r:=K.r) h.t.e
 have hm:=search_memok hF hS hC d.key (e:=K.T.e) (r:=K.r) (h.s2 h1)
 unfold opM at hu ⊢
 rw [if_neg (by omega),if_neg (by omega),if_neg (by omega),if_neg (by omega),if_neg (by omega),if_pos h1] at hu ⊢
 generalize hq:searchM 0 d.key false ⟨K.on2,K.L2,K.T.e,K.r⟩ f=q at *
 dsimp only at hu ⊢
 have hT:=h.t.epoch h0 he
 by_cases hq1:q.1=1
 ·rw [if_pos hq1] at hu ⊢
  exact ⟨(hm hu).1,(hm hu).2,rfl,h.seven hC (by omega) (by omega) hT hh hn⟩
 ·rw [if_neg hq1] at hu ⊢
  have hq0:q.1=0:=by
   have:=search_state 0 d.key false ⟨K.on2,K.L2,K.T.e,K.r⟩ f
   rw [hq] at this
   omega
  refine ⟨(hm hu).1,(hm hu).2,rfl,?_⟩
  show KOk C ds (B+1) d ⟨{ K.T with e:=q.2.1.e },K.pc,K.on,K.L,K.laid,q.2.1.on,q.2.1.L,K.err,K.dn,q.2.1.r⟩
  rw [h1]
  exact h.six (by omega) (by omega) hT h0 hh hn (fun h=>hk.1 hq0 h)
theorem op7_keep (hC:COk C) (hF:OkF C f) (hS:LnkF C f) (h:KOk C ds B d K) (h1:K.pc=7) (hu:∀ x,InU ((opM C d K f).2.2 x)):KOut C ds (B+1) d K (opM C d K f):=by
 have h3:K.T.pc=3:=by have:=h.tp; rw [if_neg (by omega),if_pos h1] at this; exact this
 have hn:=h.nd (by omega)
 have hh:=h.hs0 (.inl (by omega))
 have hda:=h.da (by omega) (by omega)
 have hsp:=h.sp (by omega) (by omega)
 have hun:=h.un (by omega) (by omega)
 have hA:=act3_ok (d:=d) hC hF h.t h3
 have hact:actM C d K.T f=({ (retireM K.T f).2.1 with pc:=if (retireM K.T f).1=0 then 3 else 0,full:=false },(retireM K.T f).2.2):=by
  unfold actM
  rw [if_neg (by omega),if_neg (by omega),if_pos h3]
 have hl:=retireM_lnk (T:=K.T) hS
 have kp:=retireM_keep (T:=K.T) (f:=f)
 rw [hact] at hA
 unfold opM at hu ⊢
 rw [if_neg (by omega),if_neg (by omega),if_neg (by omega),if_neg (by omega),if_neg (by omega),if_neg (by omega)] at hu ⊢
 generalize retireM K.T f=q at *
 dsimp only at hu hA ⊢
 have hdone:0<=q.2.1.done/\q.2.1.done<=((B+1:Nat):Int):=by
  have:=h.t.done
  rw [kp.2.2.1]
  omega
 rcases kp.2.2.2.2.2 with s | s
 ·rw [if_pos s] at hu ⊢
  have ha:=hA hu
  have hT:OkT C ds (B+1) q.2.1:=by
   have h9:=ha.2
   rw [s] at h9
   exact h9.same (by show 3=q.2.1.pc; rw [kp.2.2.2.2.1]; exact h3.symm) rfl hdone
  refine ⟨ha.1,hl,kp.2.1,?_⟩
  show KOk C ds (B+1) d { K with T:=q.2.1 }
  exact { t:=hT,tp:=(by show q.2.1.pc=if K.pc=2 then 2 else if K.pc=7 then 3 else _; rw [if_neg (by omega),if_pos h1,kp.2.2.2.2.1]; exact h3),pc:=h.pc,da:=fun _ _=>hda,s1:=fun h9=>absurd (h1.symm.trans h9) (by decide),s2:=fun h9=>absurd (h1.symm.trans h9) (by decide),sp:=fun _ _=>hsp,un:=fun _ _=>hun,ins:=h.ins,lk:=fun h9=>absurd (h1.symm.trans h9) (by decide),ho:=fun h9=>absurd (kp.1.trans hh) h9,kk:=fun h9=>absurd (h1.symm.trans h9) (by decide),nd:=fun _=>(by show 1<=q.2.1.nd; rw [kp.2.1]; exact hn) }
 ·rw [if_neg (by omega)] at hu ⊢
  exact ⟨(hA hu).1,hl,kp.2.1,KOk.fin ((hA hu).2.idle hdone) rfl (kp.1.trans hh)⟩
theorem op_keep (hC:COk C) (hF:OkF C f) (hS:LnkF C f) (h:KOk C ds B d K) (h1:1<=K.pc) (h7:K.pc<=7) (hu:∀ x,InU ((opM C d K f).2.2 x)):KOut C ds (B+1) d K (opM C d K f):=by
 rcases (show K.pc=1\/K.pc=2\/K.pc=3\/K.pc=4\/K.pc=5\/K.pc=6\/K.pc=7 by omega) with h9 | h9 | h9 | h9 | h9 | h9 | h9
 ·exact op1_keep hC hF hS h h9 hu
 ·exact op2_keep hC hF hS h h9 hu
 ·exact op3_keep hC hF hS h h9 hu
 ·exact op4_keep hC hF hS h h9 hu
 ·exact op5_keep hC hF hS h h9 hu
 ·exact op6_keep hC hF hS h h9 hu
 ·exact op7_keep hC hF hS h h9 hu
theorem KOk.any {d2:Dd} (h:KOk C ds B d K) (h0:K.pc=0):KOk C ds B d2 K:=by
 have hh:=h.hs0 (.inr h0)
 exact { t:=h.t,tp:=h.tp,pc:=h.pc,da:=h.da,s1:=h.s1,s2:=h.s2,sp:=h.sp,un:=fun h9=>absurd h9 (by omega),ins:=fun h9=>by omega,lk:=h.lk,ho:=fun h9=>absurd hh h9,kk:=fun h9=>absurd h9 (by omega),nd:=h.nd }
theorem begin_keep (hC:COk C) (h:KOk C ds B d K) (h0:K.pc=0) (hlt:K.T.nd < ds.length) (d2:Dd):KOk C ds B d2 (beginK d2 K)/\1<=(beginK d2 K).pc/\(beginK d2 K).T.nd=K.T.nd+1:=by
 have hh:=h.hs0 (.inr h0)
 have ht:=h.t0 (by omega)
 unfold beginK
 by_cases h8:d2.ok=8
 ·rw [if_pos h8]
  refine ⟨?_,by show 1<=8; decide,rfl⟩
  exact { t:=h.t.begin4 hlt hC,tp:=rfl,pc:=Nat.le_refl 8,da:=fun _ h9=>absurd h9 (by show ¬ 8<=7; decide),s1:=fun h9=>no h9 rfl,s2:=fun h9=>no h9 rfl,sp:=fun _ h9=>absurd h9 (by show ¬ 8<=7; decide),un:=fun _ h9=>absurd h9 (by show ¬ 8<=7; decide),ins:=fun h9=>by rcases h9 with h9 | h9<;>exact no h9 rfl,lk:=fun h9=>no h9 rfl,ho:=fun h9=>absurd hh h9,kk:=fun h9=>no h9 rfl,nd:=fun _=>Nat.le_add_left 1 K.T.nd }
 ·rw [if_neg h8]
  exact ⟨KOk.find (h.t.begin0 hlt) ht (fun h9=>absurd hh h9) (Nat.le_add_left 1 K.T.nd) false _ (fun h=>absurd h (by decide)),Nat.le_refl 1,rfl⟩
end
section
variable {w0 w:World} {R gl:List Item} {C:Cf} {X:Tm} {V:Wm} {K:Kt} {d:Dd} {f:Mem} {G:Nat->Prop} {qc:Cnt} {n o a l b1 b2:Nat} {left:Value} {s9:Int} {sp:Value}
theorem al_perm (x y z a:Item) (S:ST) (gl R:List Item):(x::y::z::((a::gl)++LT S R)).Perm (a::LT S (gl++(x::y::z::R))):=perm_of fun t=>by
 simp only [LT,List.count_append,List.count_cons]
 omega
theorem OutP.find {w':World} {K0:Kt} {n' c1 c2 sb:Nat} {F:Nat->Prop} {k:Nat} {G':Nat->Prop} {qc':Cnt} {f':Mem} (hda:K0.err=0/\K0.dn=false) (hn:Nx n qc n' qc') (hE:Env w0 (boxI o (opC X.c d.ok d.key d.val d.lv (cvP c1 c2) 0 (.pointer (some ⟨sb,0,none⟩)) 0 false)::boxI c1 [mvL 118 sb]::boxI c2 [mvL 119 o]::boxI sb (srC X.c 0 d.key false (.pointer none))::LT (SPK C { X with F:=F,kq:=k } V K0 f' G' qc' n') R) w'):OutP w0 R C X V d o n qc (0,findM K0,f') 0 w' :=
 OutP.go (F:=F) (k:=k) (sub:=[_]) hn (.inl ⟨rfl,sb,rfl,rfl,rfl,.inl ⟨rfl,rfl,.inl rfl⟩⟩) hE
theorem op2_p (hpc:K.pc=2) (hk:RowOk C K.T n) (hd:InU d.key/\InU d.val) (hda:K.err=0/\K.dn=false) (hg:Glo w0) (hlf:LeftIs C d K.T left s9 gl)
  (hE:Env w0 (boxI o (opC X.c d.ok d.key d.val d.lv (cvP b1 b2) 0 sp 0 false)::boxI b1 [mvL 228 a]::boxI b2 [cmV X.c d.ok d.key d.val d.lv o 5 67 171]::((boxI a (avD X.c a d K.T left s9)::gl)++LT (SPK C X V K f G qc n) R)) w) :
  Calls Tryz.prog 27 #[.pointer (some ⟨o,0,none⟩),.iface 26 (.pointer (some ⟨V.p,0,none⟩))] w fun e w'=>∃ s,e=.returned (.int .i64 s)/\OutP w0 R C X V d o n qc (opM C d K f) s w':=by
 have hM:opM C d K f=if (allocM C d K.T f).1=0 then (0,{ K with T:=(allocM C d K.T f).2.1 },(allocM C d K.T f).2.2) else if (allocM C d K.T f).1=3 then (1,{ K with T:={ (allocM C d K.T f).2.1 with pc:=0 },err:=6 },(allocM C d K.T f).2.2) else if (allocM C d K.T f).1=4 then (1,{ K with T:={ (allocM C d K.T f).2.1 with pc:=0 },err:=7 },(allocM C d K.T f).2.2) else (0,findM { K with T:={ (allocM C d K.T f).2.1 with pc:=0 } },(allocM C d K.T f).2.2):=by
  unfold opM
  rw [if_neg (by omega),if_pos hpc]
 rw [hM]
 refine step_oV 228 a 227 (ndV X.c d.ok d.key d.val d.lv o 5 67 171) _ (fun _ _=>by kernel_rfl) (fun _ _=>by kernel_rfl) _ hE ?_
 refine (alPx (C:=C) (X:={ X with cr:=K.r }) (V:=V) (T:=K.T) (d:=d) hg hk hd hlf (hE.perm (al_perm _ _ _ _ _ _ _))).mono ?_
 rintro e w1 ⟨rfl,F',k',G',qc',n',hn',hcase⟩
 have hst:=allocM_state C d K.T f
 generalize allocM C d K.T f=q at *
 obtain ⟨q1,T',f'⟩:=q
 dsimp only at hst hcase ⊢
 refine ⟨q1,rfl,fun h0=>?_,fun h0=>?_⟩
 ·subst h0
  rw [if_pos rfl]
  rcases hcase with ⟨-,left',s',gl',hlf',hE'⟩ | ⟨h9,-⟩
  ·exact OutP.go (F:=F') (k:=k') (sub:=_::gl') hn' (.inr (.inl ⟨hpc,a,left',s',gl',rfl,rfl,hlf',rfl⟩)) (hE'.perm (al_perm _ _ _ _ _ _ _).symm)
  ·exact absurd rfl h9
 ·rw [if_neg h0]
  rcases hcase with ⟨h9,-⟩ | ⟨-,hE'⟩
  ·exact absurd h9 h0
  have hE2:=hE'.perm (rest_perm (boxI o (opC X.c d.ok d.key d.val d.lv (cvP b1 b2) 0 sp 0 false)) (boxI b1 [mvL 228 a]) (boxI b2 [cmV X.c d.ok d.key d.val d.lv o 5 67 171]) _ [] R).symm
  refine ⟨hE2.rule 2 rfl 0,?_⟩
  have hE3:=hE2.sub (L':=boxI o (opC X.c d.ok d.key d.val d.lv (cvP b1 b2) 0 sp 0 false)::LT (SP C { { X with cr:=K.r } with F:=F',kq:=k' } V T' f' G' qc' n') R) (.cons_cons _ (.cons _ (.cons _ (List.Sublist.refl _))))
  rcases hst with h | h | h | h | h
  ·exact absurd h h0
  ·subst h
   refine cameFind_n 1 (.inl rfl) (fun _ _=>by kernel_rfl) _ hE3 fun v hv=>(find_o hv).mono ?_
   rintro e w2 ⟨rfl,c1,c2,sb,hE4⟩
   exact ⟨0,rfl,OutP.find (K0:={ K with T:={ T' with pc:=0 } }) (F:=F') (k:=k') hda hn' hE4⟩
  ·subst h
   refine cameFind_n 2 (.inr rfl) (fun _ _=>by kernel_rfl) _ hE3 fun v hv=>(find_o hv).mono ?_
   rintro e w2 ⟨rfl,c1,c2,sb,hE4⟩
   exact ⟨0,rfl,OutP.find (K0:={ K with T:={ T' with pc:=0 } }) (F:=F') (k:=k') hda hn' hE4⟩
  ·subst h
   refine cameOver_n 3 (.inl rfl) (fun _ _=>by kernel_rfl) _ hE3 fun v hv=>(over_o (3+3) false hv).mono ?_
   rintro e w2 ⟨rfl,hE4⟩
   rw [if_pos rfl]
   have h5:opC X.c d.ok d.key d.val d.lv (cvP b1 b2) 1 sp (3+3) false=opC X.c d.ok d.key d.val d.lv (cvP b1 b2) 1 sp 6 K.dn:=by rw [hda.2]; rfl
   rw [h5] at hE4
   exact ⟨1,rfl,OutP.fin (K:={ K with T:={ T' with pc:=0 },err:=6 }) (F:=F') (k:=k') (show (1:Int)≠0 by decide) hn' hE4⟩
  ·subst h
   refine cameOver_n 4 (.inr rfl) (fun _ _=>by kernel_rfl) _ hE3 fun v hv=>(over_o (4+3) false hv).mono ?_
   rintro e w2 ⟨rfl,hE4⟩
   rw [if_neg (by decide),if_pos rfl]
   have h5:opC X.c d.ok d.key d.val d.lv (cvP b1 b2) 1 sp (4+3) false=opC X.c d.ok d.key d.val d.lv (cvP b1 b2) 1 sp 7 K.dn:=by rw [hda.2]; rfl
   rw [h5] at hE4
   exact ⟨1,rfl,OutP.fin (K:={ K with T:={ T' with pc:=0 },err:=7 }) (F:=F') (k:=k') (show (1:Int)≠0 by decide) hn' hE4⟩
theorem op3_p (hpc:K.pc=3) (hh:K.T.hs≠0) (hhs:In64 K.T.hs) (hW:InU K.L.W) (hwf:Wf K.L.p) (hda:K.err=0/\K.dn=false) (hg:Glo w0) (hn:n < maxLen)
  (hE:Env w0 (boxI o (opC X.c d.ok d.key d.val d.lv (cvP b1 b2) 0 sp 0 false)::boxI b1 [mvL 25 l]::boxI b2 [mvL 199 o]::([boxI l (lkC X.c K.L.p.1 K.L.p.2.1 K.L.p.2.2 K.L.W K.L.C K.L.X (mvL (if K.laid then 133 else 72) l) 0)]++LT (SPK C X V K f G qc n) R)) w) :
  Calls Tryz.prog 27 #[.pointer (some ⟨o,0,none⟩),.iface 26 (.pointer (some ⟨V.p,0,none⟩))] w fun e w'=>∃ s,e=.returned (.int .i64 s)/\OutP w0 R C X V d o n qc (opM C d K f) s w':=by
 refine step_o 25 l 199 _ (fun _ _=>by kernel_rfl) (fun _ _=>by kernel_rfl) _ hE ?_
 have hE1:=hE.perm (rest_perm _ _ _ _ _ _)
 cases hl:K.laid
 ·rw [hl,if_neg (by decide)] at hE1
  have hM:opM C d K f=(0,{ K with laid:=true },upd f (5,K.T.hs,7) (wordI false (slotI K.L.W) K.T.e)):=by
   unfold opM
   rw [if_neg (by omega),if_neg (by omega),if_pos hpc,hl,if_neg (by decide)]
  rw [hM]
  refine stepMv_k 72 _ (fun _ _=>by kernel_rfl) _ hE1 ?_
  refine (store_k (S:=SPK C X V K f G qc n) hh hhs hW hg hn hE1).mono ?_
  rintro e w1 ⟨rfl,G',hE2⟩
  refine ⟨0,rfl,0,rfl,fun _=>?_,fun h=>absurd rfl h⟩
  refine OutP.go (K:={ K with laid:=true }) (F:=X.F) (k:=X.kq) (sub:=[_]) ⟨Nat.le_refl _,(by first | exact Or.inl ⟨rfl,rfl,rfl,rfl⟩ | exact Or.inr (Or.inl ⟨rfl,rfl,rfl,rfl⟩) | exact Or.inr (Or.inr (Or.inl ⟨rfl,rfl,rfl,rfl⟩)) | exact Or.inr (Or.inr (Or.inr ⟨rfl,rfl,rfl,rfl⟩)))⟩ (.inr (.inr (.inl ⟨hpc,l,rfl,rfl,rfl⟩))) (hE2.perm (rest_perm _ _ _ _ [_] _).symm)
 ·rw [hl,if_pos rfl] at hE1
  refine stepMv_k 133 _ (fun _ _=>by kernel_rfl) _ hE1 ?_
  refine (put_k (S:=SPK C X V K f G qc n) hh hwf hg hn hE1).mono ?_
  rintro e w1 ⟨rfl,G',hE2⟩
  refine ⟨_,rfl,_,rfl,fun h0=>?_,fun _=>?_⟩
  ·exfalso
   split at h0<;>exact absurd h0 (by decide)
  have hE3:=hE2.perm (rest_perm (boxI o (opC X.c d.ok d.key d.val d.lv (cvP b1 b2) 0 sp 0 false)) (boxI b1 [mvL 25 l]) (boxI b2 [mvL 199 o]) _ [] R).symm
  refine ⟨hE3.rule 2 rfl 0,?_⟩
  by_cases heq:f K.L.p=K.L.W
  ·have heq':(SPK C X V K f G qc n).f (K.L.p.1,K.L.p.2.1,K.L.p.2.2)=K.L.W:=heq
   have hM:opM C d K f=(1,{ K with T:={ K.T with hs:=0 },dn:=true },swf f K.L.p K.L.W (wordI false K.T.hs K.T.e)):=by
    unfold opM
    rw [if_neg (by omega),if_neg (by omega),if_pos hpc,hl,if_pos rfl,if_pos heq]
   rw [hM,if_pos heq']
   have hE4:=hE3.sub (L':=boxI o (opC X.c d.ok d.key d.val d.lv (cvP b1 b2) 0 sp 0 false)::LT _ R) (.cons_cons _ (.cons _ (.cons _ (List.Sublist.refl _))))
   refine (changedDone_o hE4).mono ?_
   rintro e w2 ⟨rfl,hE5⟩
   rw [if_pos heq'] at hE5
   have h5:opC X.c d.ok d.key d.val d.lv (cvP b1 b2) 1 sp 0 true=opC X.c d.ok d.key d.val d.lv (cvP b1 b2) 1 sp K.err true:=by rw [hda.1]
   rw [h5] at hE5
   exact ⟨1,rfl,OutP.fin (K:={ K with T:={ K.T with hs:=0 },dn:=true }) (F:=X.F) (k:=X.kq) (show (1:Int)≠0 by decide) ⟨Nat.le_refl _,(by first | exact Or.inl ⟨rfl,rfl,rfl,rfl⟩ | exact Or.inr (Or.inl ⟨rfl,rfl,rfl,rfl⟩) | exact Or.inr (Or.inr (Or.inl ⟨rfl,rfl,rfl,rfl⟩)) | exact Or.inr (Or.inr (Or.inr ⟨rfl,rfl,rfl,rfl⟩)))⟩ hE5⟩
  ·have heq':¬ (SPK C X V K f G qc n).f (K.L.p.1,K.L.p.2.1,K.L.p.2.2)=K.L.W:=heq
   have hM:opM C d K f=(0,findM K,swf f K.L.p K.L.W (wordI false K.T.hs K.T.e)):=by
    unfold opM
    rw [if_neg (by omega),if_neg (by omega),if_pos hpc,hl,if_pos rfl,if_neg heq]
   rw [hM,if_neg heq']
   have hE4:=hE3.sub (L':=boxI o (opC X.c d.ok d.key d.val d.lv (cvP b1 b2) 0 sp 0 false)::LT _ R) (.cons_cons _ (.cons _ (.cons _ (List.Sublist.refl _))))
   refine (changedFind_o hE4).mono ?_
   rintro e w2 ⟨rfl,c1,c2,sb,hE5⟩
   rw [if_neg heq'] at hE5
   exact ⟨0,rfl,OutP.find (K0:=K) (F:=X.F) (k:=X.kq) hda ⟨Nat.le_refl _,(by first | exact Or.inl ⟨rfl,rfl,rfl,rfl⟩ | exact Or.inr (Or.inl ⟨rfl,rfl,rfl,rfl⟩) | exact Or.inr (Or.inr (Or.inl ⟨rfl,rfl,rfl,rfl⟩)) | exact Or.inr (Or.inr (Or.inr ⟨rfl,rfl,rfl,rfl⟩)))⟩ hE5⟩
end
section
variable {w0 w:World} {R sub2:List Item} {C:Cf} {X:Tm} {V:Wm} {K:Kt} {d:Dd} {f:Mem} {G:Nat->Prop} {qc:Cnt} {n o l r s2 b1 b2 b3 b4:Nat} {sp:Value}
theorem op4_p (hpc:K.pc=4) (hX:InU K.L.X) (hmk:markB K.L.X=false) (hs0:K.T.hs=0) (hC:In64 K.L.C) (hda:K.err=0/\K.dn=false) (hg:Glo w0) (hn:n < maxLen)
  (hE:Env w0 (boxI o (opC X.c d.ok d.key d.val d.lv (cvP b1 b2) 0 sp 0 false)::boxI b1 [mvL 26 l]::boxI b2 [mvL 199 o]::([boxI l (ukC X.c K.L.p.1 K.L.p.2.1 K.L.p.2.2 K.L.W K.L.C K.L.X 0 d.key (slotI K.L.X) (mvL 73 l) 0)]++LT (SPK C X V K f G qc n) R)) w) :
  Calls Tryz.prog 27 #[.pointer (some ⟨o,0,none⟩),.iface 26 (.pointer (some ⟨V.p,0,none⟩))] w fun e w'=>∃ s,e=.returned (.int .i64 s)/\OutP w0 R C X V d o n qc (opM C d K f) s w':=by
 refine step_o 26 l 199 _ (fun _ _=>by kernel_rfl) (fun _ _=>by kernel_rfl) _ hE ?_
 have hE1:=hE.perm (rest_perm _ _ _ _ _ _)
 refine stepMv_u 73 _ (fun _ _=>by kernel_rfl) _ hE1 ?_
 refine (mark_k (S:=SPK C X V K f G qc n) hX hmk hs0 hC hg hn hE1).mono ?_
 rintro e w1 ⟨rfl,G',nx',hnx,hE2⟩
 by_cases heq:f (5,K.L.C,7)=K.L.X
 ·have heq':(SPK C X V K f G qc n).f (5,K.L.C,7)=K.L.X:=heq
  have hM:opM C d K f=(0,{ K with pc:=5 },swf f (5,K.L.C,7) K.L.X (markM K.L.X K.T.e)):=by
   unfold opM
   rw [if_neg (by omega),if_neg (by omega),if_neg (by omega),if_pos hpc,if_pos heq]
  rw [hM]
  rw [if_pos heq'] at hE2 ⊢
  refine ⟨0,rfl,0,rfl,fun _=>?_,fun h=>absurd rfl h⟩
  have hnx:=hnx heq'
  subst hnx
  exact OutP.go (K:={ K with pc:=5 }) (F:=X.F) (k:=X.kq) (sub:=[_]) ⟨Nat.le_refl _,(by first | exact Or.inl ⟨rfl,rfl,rfl,rfl⟩ | exact Or.inr (Or.inl ⟨rfl,rfl,rfl,rfl⟩) | exact Or.inr (Or.inr (Or.inl ⟨rfl,rfl,rfl,rfl⟩)) | exact Or.inr (Or.inr (Or.inr ⟨rfl,rfl,rfl,rfl⟩)))⟩ (.inr (.inr (.inr (.inl ⟨.inr rfl,l,rfl,rfl,rfl⟩)))) (hE2.perm (rest_perm _ _ _ _ [_] _).symm)
 ·have heq':¬ (SPK C X V K f G qc n).f (5,K.L.C,7)=K.L.X:=heq
  have hM:opM C d K f=(0,findM K,swf f (5,K.L.C,7) K.L.X (markM K.L.X K.T.e)):=by
   unfold opM
   rw [if_neg (by omega),if_neg (by omega),if_neg (by omega),if_pos hpc,if_neg heq]
  rw [hM]
  rw [if_neg heq'] at hE2 ⊢
  refine ⟨2,rfl,2,rfl,fun h=>absurd h (by decide),fun _=>?_⟩
  have hE3:=hE2.perm (rest_perm (boxI o (opC X.c d.ok d.key d.val d.lv (cvP b1 b2) 0 sp 0 false)) (boxI b1 [mvL 26 l]) (boxI b2 [mvL 199 o]) _ [_] R).symm
  refine ⟨hE3.rule 2 rfl 0,?_⟩
  have hE4:=hE3.sub (L':=boxI o (opC X.c d.ok d.key d.val d.lv (cvP b1 b2) 0 sp 0 false)::LT _ R) (.cons_cons _ (.cons _ (.cons _ (.cons _ (List.Sublist.refl _)))))
  refine (changedFind_o hE4).mono ?_
  rintro e w2 ⟨rfl,c1,c2,sb,hE5⟩
  exact ⟨0,rfl,OutP.find (K0:=K) (F:=X.F) (k:=X.kq) hda ⟨Nat.le_refl _,(by first | exact Or.inl ⟨rfl,rfl,rfl,rfl⟩ | exact Or.inr (Or.inl ⟨rfl,rfl,rfl,rfl⟩) | exact Or.inr (Or.inr (Or.inl ⟨rfl,rfl,rfl,rfl⟩)) | exact Or.inr (Or.inr (Or.inr ⟨rfl,rfl,rfl,rfl⟩)))⟩ hE5⟩
theorem op5_p (hpc:K.pc=5) (hwf:Wf K.L.p) (hg:Glo w0) (hn:n < maxLen)
  (hE:Env w0 (boxI o (opC X.c d.ok d.key d.val d.lv (cvP b1 b2) 0 sp 0 false)::boxI b1 [mvL 26 l]::boxI b2 [mvL 199 o]::([boxI l (ukC X.c K.L.p.1 K.L.p.2.1 K.L.p.2.2 K.L.W K.L.C K.L.X 0 d.key (slotI K.L.X) (mvL 136 l) 0)]++LT (SPK C X V K f G qc n) R)) w) :
  Calls Tryz.prog 27 #[.pointer (some ⟨o,0,none⟩),.iface 26 (.pointer (some ⟨V.p,0,none⟩))] w fun e w'=>∃ s,e=.returned (.int .i64 s)/\OutP w0 R C X V d o n qc (opM C d K f) s w':=by
 refine step_o 26 l 199 _ (fun _ _=>by kernel_rfl) (fun _ _=>by kernel_rfl) _ hE ?_
 have hE1:=hE.perm (rest_perm _ _ _ _ _ _)
 refine stepMv_u 136 _ (fun _ _=>by kernel_rfl) _ hE1 ?_
 refine (cut_k (S:=SPK C X V K f G qc n) hwf hg hn hE1).mono ?_
 rintro e w1 ⟨rfl,G',b3,b4,hc⟩
 refine ⟨0,rfl,0,rfl,fun _=>?_,fun h=>absurd rfl h⟩
 rcases hc with ⟨heq,r,hE2⟩ | ⟨heq,sb,hE2⟩
 ·have heq':f K.L.p=K.L.W:=heq
  have hM:opM C d K f=(0,{ K with pc:=7,T:={ K.T with pc:=3,rs:=K.L.C,rpc:=0,re:=0 } },swf f K.L.p K.L.W (wordI false (slotI K.L.X) K.T.e)):=by
   unfold opM
   rw [if_neg (by omega),if_neg (by omega),if_neg (by omega),if_neg (by omega),if_pos hpc,if_pos heq']
  rw [hM]
  exact OutP.go (K:={ K with pc:=7,T:={ K.T with pc:=3,rs:=K.L.C,rpc:=0,re:=0 } }) (F:=X.F) (k:=X.kq) (sub:=[_,_,_,_]) ⟨Nat.le_refl _,(by first | exact Or.inl ⟨rfl,rfl,rfl,rfl⟩ | exact Or.inr (Or.inl ⟨rfl,rfl,rfl,rfl⟩) | exact Or.inr (Or.inr (Or.inl ⟨rfl,rfl,rfl,rfl⟩)) | exact Or.inr (Or.inr (Or.inr ⟨rfl,rfl,rfl,rfl⟩)))⟩ (.inr (.inr (.inr (.inr (.inr ⟨rfl,l,b3,b4,r,rfl,rfl,rfl⟩))))) (hE2.perm (rest_perm _ _ _ _ [_,_,_,_] _).symm)
 ·have heq':¬ f K.L.p=K.L.W:=heq
  have hM:opM C d K f=(0,{ K with pc:=6,on2:=false,L2:=L0 (4,0,0) },swf f K.L.p K.L.W (wordI false (slotI K.L.X) K.T.e)):=by
   unfold opM
   rw [if_neg (by omega),if_neg (by omega),if_neg (by omega),if_neg (by omega),if_pos hpc,if_neg heq']
  rw [hM]
  exact OutP.go (K:={ K with pc:=6,on2:=false,L2:=L0 (4,0,0) }) (F:=X.F) (k:=X.kq) (sub:=[_,_,_,_]) ⟨Nat.le_refl _,(by first | exact Or.inl ⟨rfl,rfl,rfl,rfl⟩ | exact Or.inr (Or.inl ⟨rfl,rfl,rfl,rfl⟩) | exact Or.inr (Or.inr (Or.inl ⟨rfl,rfl,rfl,rfl⟩)) | exact Or.inr (Or.inr (Or.inr ⟨rfl,rfl,rfl,rfl⟩)))⟩ (.inr (.inr (.inr (.inr (.inl ⟨rfl,l,b3,b4,sb,[_],rfl,rfl,.inl ⟨rfl,rfl,.inl rfl⟩,rfl⟩))))) (hE2.perm (rest_perm _ _ _ _ [_,_,_,_] _).symm)
theorem op6_p (hpc:K.pc=6) (hon:K.on2=true->LaneOk C K.L2) (hg:Glo w0) (hn:n < maxLen) (hS:SIt X.c s2 d.key K.on2 K.L2 0 sub2)
  (hE:Env w0 (boxI o (opC X.c d.ok d.key d.val d.lv (cvP b1 b2) 0 sp 0 false)::boxI b1 [mvL 26 l]::boxI b2 [mvL 199 o]::((boxI l (ukC X.c K.L.p.1 K.L.p.2.1 K.L.p.2.2 K.L.W K.L.C K.L.X 0 d.key (slotI K.L.X) (cvP b3 b4) 0)::boxI b3 [mvL 118 s2]::boxI b4 [mvL 176 l]::sub2)++LT (SPK C X V K f G qc n) R)) w) :
  Calls Tryz.prog 27 #[.pointer (some ⟨o,0,none⟩),.iface 26 (.pointer (some ⟨V.p,0,none⟩))] w fun e w'=>∃ s,e=.returned (.int .i64 s)/\OutP w0 R C X V d o n qc (opM C d K f) s w':=by
 have hM:opM C d K f=if (searchM 0 d.key false ⟨K.on2,K.L2,K.T.e,K.r⟩ f).1=1 then (0,{ K with on2:=(searchM 0 d.key false ⟨K.on2,K.L2,K.T.e,K.r⟩ f).2.1.on,L2:=(searchM 0 d.key false ⟨K.on2,K.L2,K.T.e,K.r⟩ f).2.1.L,r:=(searchM 0 d.key false ⟨K.on2,K.L2,K.T.e,K.r⟩ f).2.1.r,pc:=7,T:={ K.T with e:=(searchM 0 d.key false ⟨K.on2,K.L2,K.T.e,K.r⟩ f).2.1.e,pc:=3,rs:=K.L.C,rpc:=0,re:=0 } },(searchM 0 d.key false ⟨K.on2,K.L2,K.T.e,K.r⟩ f).2.2) else (0,{ K with on2:=(searchM 0 d.key false ⟨K.on2,K.L2,K.T.e,K.r⟩ f).2.1.on,L2:=(searchM 0 d.key false ⟨K.on2,K.L2,K.T.e,K.r⟩ f).2.1.L,r:=(searchM 0 d.key false ⟨K.on2,K.L2,K.T.e,K.r⟩ f).2.1.r,T:={ K.T with e:=(searchM 0 d.key false ⟨K.on2,K.L2,K.T.e,K.r⟩ f).2.1.e } },(searchM 0 d.key false ⟨K.on2,K.L2,K.T.e,K.r⟩ f).2.2):=by
  unfold opM
  rw [if_neg (by omega),if_neg (by omega),if_neg (by omega),if_neg (by omega),if_neg (by omega),if_pos hpc]
 rw [hM]
 refine step_o 26 l 199 _ (fun _ _=>by kernel_rfl) (fun _ _=>by kernel_rfl) _ hE ?_
 have hP1:(boxI o (opC X.c d.ok d.key d.val d.lv (cvP b1 b2) 0 sp 0 false)::boxI b1 [mvL 26 l]::boxI b2 [mvL 199 o]::((boxI l (ukC X.c K.L.p.1 K.L.p.2.1 K.L.p.2.2 K.L.W K.L.C K.L.X 0 d.key (slotI K.L.X) (cvP b3 b4) 0)::boxI b3 [mvL 118 s2]::boxI b4 [mvL 176 l]::sub2)++LT (SPK C X V K f G qc n) R)).Perm (boxI l (ukC X.c K.L.p.1 K.L.p.2.1 K.L.p.2.2 K.L.W K.L.C K.L.X 0 d.key (slotI K.L.X) (cvP b3 b4) 0)::boxI b3 [mvL 118 s2]::boxI b4 [mvL 176 l]::(sub2++LT (SPK C X V K f G qc n) (boxI o (opC X.c d.ok d.key d.val d.lv (cvP b1 b2) 0 sp 0 false)::boxI b1 [mvL 26 l]::boxI b2 [mvL 199 o]::R))):=rest_perm _ _ _ _ _ _
 have hE1:=hE.perm hP1
 refine (step_u 118 s2 _ (.pointer (some ⟨l,0,none⟩)) 176 (fun _ _=>by kernel_rfl) (fun _ _=>by kernel_rfl) (fun s w'=>s=0/\OutP w0 R C X V d o n qc _ 0 w') hE1 ?_).mono (fun e w' ⟨s,he,hs,hq⟩=>⟨s,he,fun _=>hq,fun h=>absurd hs h⟩)
 refine (search_I (C:=C) (X:=X) (V:=V) (T:=K.T) (r:=K.r) hon hg hn hS (hE1.perm (rest_perm _ _ _ _ _ _))).mono ?_
 rintro e w1 ⟨rfl,G',qc',n',sub',hn',hS',hE'⟩
 have hst:=search_state 0 d.key false ⟨K.on2,K.L2,K.T.e,K.r⟩ f
 generalize searchM 0 d.key false ⟨K.on2,K.L2,K.T.e,K.r⟩ f=q at *
 obtain ⟨q1,⟨on',L',e',r'⟩,f'⟩:=q
 dsimp only at hst hS' hE' ⊢
 have hE2:=hE'.perm (rest_perm _ _ _ _ _ _).symm
 refine ⟨q1,rfl,fun h0=>⟨rfl,?_⟩,fun h0=>?_⟩
 ·subst h0
  rw [if_neg (by decide)]
  exact OutP.go (K:={ K with on2:=on',L2:=L',r:=r',T:={ K.T with e:=e' } }) (F:=X.F) (k:=X.kq) (sub:=_::_::_::sub') hn' (.inr (.inr (.inr (.inr (.inl ⟨hpc,l,b3,b4,s2,sub',rfl,rfl,hS',rfl⟩))))) (hE2.perm (rest_perm _ _ _ _ (_::_::_::sub') _).symm)
 ·rcases hst with h9 | ⟨h9,h8⟩
  ·exact absurd h9 h0
  ·subst h9
   rw [if_pos rfl]
   refine ⟨hE2.rule 2 rfl 0,?_⟩
   have hE3:=hE2.sub (L':=boxI l (ukC X.c K.L.p.1 K.L.p.2.1 K.L.p.2.2 K.L.W K.L.C K.L.X 0 d.key (slotI K.L.X) (cvP b3 b4) 0)::LT (SP C { X with cr:=r' } V { K.T with e:=e' } f' G' qc' n') (boxI o (opC X.c d.ok d.key d.val d.lv (cvP b1 b2) 0 sp 0 false)::boxI b1 [mvL 26 l]::boxI b2 [mvL 199 o]::R)) (.cons_cons _ (.cons _ (.cons _ (List.sublist_append_right sub' _))))
   refine (retire_k (S:=SP C { X with cr:=r' } V { K.T with e:=e' } f' G' qc' n') 1 hE3).mono ?_
   rintro e2 w2 ⟨rfl,c3,c4,r9,hE4⟩
   refine ⟨0,rfl,rfl,?_⟩
   exact OutP.go (K:={ K with on2:=on',L2:=L',r:=r',pc:=7,T:={ K.T with e:=e',pc:=3,rs:=K.L.C,rpc:=0,re:=0 } }) (F:=X.F) (k:=X.kq) (sub:=[_,_,_,_]) hn' (.inr (.inr (.inr (.inr (.inr ⟨rfl,l,c3,c4,r9,rfl,rfl,rfl⟩))))) (hE4.perm (rest_perm _ _ _ _ [_,_,_,_] _).symm)
theorem op7_p (hpc:K.pc=7) (hl:K.T.ql.length+1<=1000000) (he:InU K.T.re) (hs:In64 K.T.rs) (hr:K.T.rpc=0\/K.T.rpc=1) (hda:K.err=0/\K.dn=false) (hn:n < maxLen)
  (hE:Env w0 (boxI o (opC X.c d.ok d.key d.val d.lv (cvP b1 b2) 0 sp 0 false)::boxI b1 [mvL 26 l]::boxI b2 [mvL 199 o]::([boxI l (ukC X.c K.L.p.1 K.L.p.2.1 K.L.p.2.2 K.L.W K.L.C K.L.X 0 d.key (slotI K.L.X) (cvP b3 b4) 0),boxI b3 [mvL 203 r],boxI b4 [mvE l 17],boxI r (rtv X.c (nxR r K.T.rpc) K.T.rs K.T.re)]++LT (SPK C X V K f G qc n) R)) w) :
  Calls Tryz.prog 27 #[.pointer (some ⟨o,0,none⟩),.iface 26 (.pointer (some ⟨V.p,0,none⟩))] w fun e w'=>∃ s,e=.returned (.int .i64 s)/\OutP w0 R C X V d o n qc (opM C d K f) s w':=by
 have hM:opM C d K f=if (retireM K.T f).1=0 then (0,{ K with T:=(retireM K.T f).2.1 },(retireM K.T f).2.2) else (1,{ K with T:={ (retireM K.T f).2.1 with pc:=0 },dn:=true },(retireM K.T f).2.2):=by
  unfold opM
  rw [if_neg (by omega),if_neg (by omega),if_neg (by omega),if_neg (by omega),if_neg (by omega),if_neg (by omega)]
 rw [hM]
 refine step_o 26 l 199 _ (fun _ _=>by kernel_rfl) (fun _ _=>by kernel_rfl) _ hE ?_
 have hE1:=hE.perm (rest_perm _ _ _ _ [_,_,_,_] _)
 refine (step_u 203 r _ (.pointer (some ⟨l,17,none⟩)) 129 (fun _ _=>by kernel_rfl) (fun _ _=>by kernel_rfl) (fun s w'=>(s=0->OutP w0 R C X V d o n qc _ 0 w')/\(s≠0->w'.cell? ⟨b2,0,none⟩=some (mvL 199 o)/\Calls Tryz.prog 199 #[.pointer (some ⟨o,0,none⟩),.int .i64 s] w' fun e2 w2=>∃ s2,e2=.returned (.int .i64 s2)/\OutP w0 R C X V d o n qc _ s2 w2)) hE1 ?_).mono (fun e w' ⟨s,he,hq⟩=>⟨s,he,hq.1,hq.2⟩)
 have hE2:Env w0 (boxI r (rtv X.c (nxR r K.T.rpc) K.T.rs K.T.re)::LT (SP C { X with cr:=K.r } V K.T f G qc n) (boxI l (ukC X.c K.L.p.1 K.L.p.2.1 K.L.p.2.2 K.L.W K.L.C K.L.X 0 d.key (slotI K.L.X) (cvP b3 b4) 0)::boxI b3 [mvL 203 r]::boxI b4 [mvE l 17]::boxI o (opC X.c d.ok d.key d.val d.lv (cvP b1 b2) 0 sp 0 false)::boxI b1 [mvL 26 l]::boxI b2 [mvL 199 o]::R)) w:=hE1.perm (rest_perm _ _ _ _ [_] _)
 refine (rePx (C:=C) (X:={ X with cr:=K.r }) (V:=V) (T:=K.T) hn hl he hs hE2).mono ?_
 rintro e w1 ⟨rfl,F',k',G',qc',n',hn',hcase⟩
 have hrs:(retireM K.T f).1=0\/(retireM K.T f).1=1:=by
  unfold retireM
  split
  ·exact .inl rfl
  ·exact .inr rfl
 have hkeep:(retireM K.T f).2.1.rs=K.T.rs:=by
  unfold retireM
  split<;>rfl
 generalize retireM K.T f=q at *
 obtain ⟨q1,T',f'⟩:=q
 dsimp only at hrs hcase hkeep ⊢
 refine ⟨q1,rfl,fun h0=>⟨fun _=>?_,fun h=>absurd rfl h⟩,fun h0=>?_⟩
 ·subst h0
  rw [if_pos rfl]
  rcases hcase with ⟨-,hE'⟩ | ⟨h9,-⟩
  ·exact OutP.go (K:={ K with T:=T' }) (F:=F') (k:=k') (sub:=[_,_,_,_]) hn' (.inr (.inr (.inr (.inr (.inr ⟨hpc,l,b3,b4,r,rfl,rfl,rfl⟩))))) ((hE'.perm (rest_perm _ _ _ _ [_] _).symm).perm (rest_perm _ _ _ _ [_,_,_,_] _).symm)
  ·exact absurd rfl h9
 ·rcases hrs with h | h
  ·exact absurd h h0
  subst h
  rcases hcase with ⟨h9,-⟩ | ⟨-,hE'⟩
  ·exact absurd h9 (by decide)
  have hE3:=hE'.perm (L':=boxI l (ukC X.c K.L.p.1 K.L.p.2.1 K.L.p.2.2 K.L.W K.L.C K.L.X 0 d.key (slotI K.L.X) (cvP b3 b4) 0)::boxI b3 [mvL 203 r]::boxI b4 [mvE l 17]::boxI o (opC X.c d.ok d.key d.val d.lv (cvP b1 b2) 0 sp 0 false)::boxI b1 [mvL 26 l]::boxI b2 [mvL 199 o]::LT (SP C { { X with cr:=K.r } with F:=F',kq:=k' } V T' f' G' qc' n') R) (perm_of fun z=>by simp only [LT,List.count_cons]; omega)
  refine ⟨hE3.rule 2 rfl 0,?_⟩
  refine (end_r (o:=17) 0 1 (by simp [ukC]) hE3 rfl).mono ?_
  rintro e2 w2 ⟨rfl,hE4⟩
  refine ⟨1,rfl,fun h=>absurd h (by decide),fun _=>⟨hE4.rule 5 rfl 0,?_⟩⟩
  have hE5:=hE4.sub (L':=boxI o (opC X.c d.ok d.key d.val d.lv (cvP b1 b2) 0 sp 0 false)::LT (SP C { { X with cr:=K.r } with F:=F',kq:=k' } V T' f' G' qc' n') R) (.cons _ (.cons _ (.cons _ (.cons_cons _ (.cons _ (.cons _ (List.Sublist.refl _)))))))
  refine (changedDone_o hE5).mono ?_
  rintro e3 w3 ⟨rfl,hE6⟩
  rw [if_neg (by decide)]
  have h5:opC X.c d.ok d.key d.val d.lv (cvP b1 b2) 1 sp 0 true=opC X.c d.ok d.key d.val d.lv (cvP b1 b2) 1 sp K.err true:=by rw [hda.1]
  rw [h5] at hE6
  exact ⟨1,rfl,OutP.fin (K:={ K with T:={ T' with pc:=0 },dn:=true }) (F:=F') (k:=k') (show (1:Int)≠0 by decide) hn' hE6⟩
structure KcOk (C:Cf) (d:Dd) (K:Kt) (f:Mem) (n:Nat):Prop where
 (pc:1<=K.pc/\K.pc<=7)
 (da:K.err=0/\K.dn=false)
 (dk:InU d.key/\InU d.val)
 (len:K.T.ql.length+1<=1000000)
 (hn:n < maxLen)
 (s1:K.pc=1->K.on=true->LaneOk C K.L)
 (sx:K.pc=1->(searchM 0 d.key false ⟨K.on,K.L,K.T.e,K.r⟩ f).1=1->InU (searchM 0 d.key false ⟨K.on,K.L,K.T.e,K.r⟩ f).2.1.L.X)
 (row:K.pc=2->RowOk C K.T n)
 (hs:In64 K.T.hs)
 (link:K.pc=3->K.T.hs≠0)
 (sp:3<=K.pc->SpotOk C K.L)
 (un:4<=K.pc->markB K.L.X=false/\K.T.hs=0)
 (s2:K.pc=6->K.on2=true->LaneOk C K.L2)
 (re:K.pc=7->InU K.T.re/\In64 K.T.rs/\(K.T.rpc=0\/K.T.rpc=1))
theorem op_p {ps:List Item} (h:KcOk C d K f n) (hg:Glo w0) (hM:PM C X.c d K o ps) (hE:Env w0 (ps++LT (SPK C X V K f G qc n) R) w) :
  Calls Tryz.prog 27 #[.pointer (some ⟨o,0,none⟩),.iface 26 (.pointer (some ⟨V.p,0,none⟩))] w fun e w'=>∃ s,e=.returned (.int .i64 s)/\OutP w0 R C X V d o n qc (opM C d K f) s w':=by
 obtain ⟨b1,b2,F,Y,sp,sub,rfl,hp⟩:=hM
 rcases hp with ⟨hpc,sb,rfl,rfl,rfl,hS⟩ | ⟨hpc,a,left,s,gl,rfl,rfl,hlf,rfl⟩ | ⟨hpc,l,rfl,rfl,rfl⟩ | ⟨hpc,l,rfl,rfl,rfl⟩ | ⟨hpc,l,b3,b4,s2,sub2,rfl,rfl,hS,rfl⟩ | ⟨hpc,l,b3,b4,r,rfl,rfl,rfl⟩
 ·exact op1_p hpc (h.s1 hpc) (h.sx hpc) h.da h.len hg h.hn hS hE
 ·exact op2_p hpc (h.row hpc) h.dk h.da hg hlf hE
 ·exact op3_p hpc (h.link hpc) h.hs (h.sp (by omega)).W (h.sp (by omega)).wf h.da hg h.hn hE
 ·have hC:=(h.sp (by omega)).Cr
  rcases hpc with hpc | hpc
  ·rw [if_pos hpc] at hE
   exact op4_p hpc (h.sp (by omega)).X (h.un (by omega)).1 (h.un (by omega)).2 (by unfold In64; omega) h.da hg h.hn hE
  ·rw [if_neg (by omega)] at hE
   exact op5_p hpc (h.sp (by omega)).wf hg h.hn hE
 ·exact op6_p hpc (h.s2 hpc) hg h.hn hS hE
 ·obtain ⟨h1,h2,h3⟩:=h.re hpc
  exact op7_p hpc h.len h1 h2 h3 h.da h.hn hE
end
section
variable {C:Cf} {ds:List Dd} {B:Nat} {T:Th} {d:Dd} {K:Kt} {f:Mem} {n:Nat}
theorem OkT.row (hC:COk C) (hT:OkT C ds B T) (hB:B+1<=1000000) (hn:n < maxLen) (hp:T.pc=2):RowOk C T n:=by
 have hl:=hC.l
 have hs:=hC.s
 refine ⟨by have:=hT.e; constructor<;>omega,hn,by have:=hT.len; omega,by constructor<;>omega,hT.w,hT.apc hp,fun h=>⟨hT.low hp (by omega),?_⟩,by have:=hT.hs; unfold In64; constructor<;>omega⟩
 rcases hq:T.ql with _ | ⟨⟨x,y,z⟩,t⟩
 ·exact absurd hq (hT.born hp h)
 ·have:=hT.ql (x,y,z) (by rw [hq]; simp)
  obtain ⟨h1,h2,rfl⟩:=this
  exact ⟨x,y,t,rfl,h1,h2⟩
theorem KOk.kc (hC:COk C) (hF:OkF C f) (hS:LnkF C f) (h:KOk C ds B d K) (h1:1<=K.pc) (h7:K.pc<=7) (hd:InU d.key/\InU d.val) (hB:B+1<=1000000) (hn:n < maxLen):KcOk C d K f n:=by
 have hl:=hC.l
 have hs:=hC.s
 have hlen:=h.t.len
 refine ⟨⟨h1,h7⟩,h.da h1 h7,hd,by omega,hn,h.s1,fun hp h9=>?_,fun hp=>h.t.row hC hB hn (by have:=h.tp; rw [if_pos hp] at this; exact this),by have:=h.t.hs; unfold In64; constructor<;>omega,h.lk,fun hp=>h.sp hp h7,fun hp=>⟨(h.un hp h7).1,h.hs0 (.inl hp)⟩,h.s2,fun hp=>?_⟩
 ·exact ((search_keep (key:=d.key) (e:=K.T.e) (r:=K.r) (h.s1 hp) hF.u hS (by omega)).2 h9).X
 ·have h3:K.T.pc=3:=by have:=h.tp; rw [if_neg (by omega),if_pos hp] at this; exact this
  have hre:=h.t.re
  have hrs:=h.t.rs
  exact ⟨by unfold InU; constructor<;>omega,by unfold In64; constructor<;>omega,h.t.rpc h3⟩
end
structure Pk where
 (X:Tm)
 (K:Kt)
 (po pq pg ph:Value)
 (st:Int)
 (ms:List Item)
def T0:Th:=⟨0,[],0,0,0,0,0,0,0,0,0,0,0,0,0,0,false⟩
def K0:Kt:=⟨T0,0,false,L0 (4,0,0),false,false,L0 (4,0,0),0,false,0⟩
structure GS where
 (ps:List Pk)
 (G FU:Nat->Prop)
 (qc:Cnt)
 (n:Nat)
 (ml:List OneR)
def vm (p cc m:Nat):Wm:=⟨p,cc,m,fun _=>False,fun _=>False,⟨0,0,0,0,0⟩,0,[]⟩
section
variable {w0 w:World} {C:Cf} {sl:Value} {p cc m:Nat} {S:GS} {L:List Item} {rs:List Rw} {B:Nat}
theorem T0_ok (hC:COk C) {ds:List Dd} (hd:ds.length<=B):OkT C ds B T0:=by
 have hs:=hC.s
 have hl:=hC.l
 have hz:slotI 0=0:=by decide
 have hu0:InU 0:=by unfold InU; omega
 exact { e:=(by show (0:Int)<=0/\(0:Int)<=C.l; omega),w:=⟨hu0,hu0,hu0⟩,hs:=(by show (0:Int)<=0/\(0:Int)<=C.s; omega),rs:=(by show (0:Int)<=0/\(0:Int)<=C.s; omega),ql:=(by intro x hx; cases hx),nd:=Nat.zero_le _,len:=(by show 0+(ds.length - 0)<=B; omega),done:=(by show (0:Int)<=0/\(0:Int)<=B; omega),pc:=.inl rfl,p1:=fun h=>no h rfl,nd1:=fun h=>absurd rfl h,apc:=fun h=>no h rfl,low:=fun h=>no h rfl,adv:=fun h=>no h rfl,born:=fun h=>no h rfl,pool:=fun h=>no h rfl,an:=(by show slotI 0<=C.s; omega),rpc:=fun h=>no h rfl,rsp:=fun h=>no h rfl,re:=(by show (0:Int)<=0/\(0:Int)<=C.l; omega),gpc:=Nat.zero_le 3,give:=fun h=>no h rfl,ghu:=hu0,gh:=(by show slotI 0<=C.s; omega),gv:=fun h=>no h rfl }
theorem K0_ok (hC:COk C) {ds:List Dd} {d:Dd} (hd:ds.length<=B):KOk C ds B d K0 :=
 { t:=T0_ok hC hd,tp:=rfl,pc:=Nat.zero_le 8,da:=fun h=>absurd h (by decide),s1:=fun h=>no h rfl,s2:=fun h=>no h rfl,sp:=fun h=>absurd h (by decide),un:=fun h=>absurd h (by decide),ins:=fun h=>by rcases h with h | h<;>exact no h rfl,lk:=fun h=>no h rfl,ho:=fun h=>absurd rfl h,kk:=fun h=>no h rfl,nd:=fun h=>absurd rfl h }
def ml0:List OneR:=setL [] (1,0,0) 1
theorem ml0_at (x:Plc):getL ml0 x=if x=(1,0,0) then 1 else 0:=by
 show getL [((1,0,0),1)] x=_
 simp only [getL]
 by_cases hx:x=(1,0,0)
 ·rw [if_pos hx.symm,if_pos hx]
 ·rw [if_neg (fun e=>hx e.symm),if_neg hx]
theorem ml0_ok (hC:COk C):OkF C (getL ml0)/\LnkF C (getL ml0):=by
 have hs:=hC.s
 have hl:=hC.l
 have hz:slotI 0=0:=by decide
 refine ⟨⟨fun x=>?_,?_,fun i=>?_,?_⟩,⟨?_,fun i=>?_⟩⟩
 ·rw [ml0_at]
  split<;>(unfold InU; omega)
 ·rw [ml0_at,if_neg (by decide)]; omega
 ·rw [ml0_at,if_neg (by simp)]; omega
 ·rw [ml0_at,if_pos rfl]; omega
 ·rw [ml0_at,if_neg (by decide)]; omega
 ·rw [ml0_at,if_neg (by simp)]; omega
end
theorem list_k (s l:Int) (w:World):Calls Tryz.prog 21 #[.int .i64 s,.int .i64 l] w fun e w'=>e=.returned (.agg #[.int .i64 1,.int .i64 s,.int .i64 0,.int .i64 1,.int .i64 l])/\Below w.heap.size w w':=by
 go_enter Tryz.func21,Tryz.ntmps21
 go_wp2
 exact bodyPost_ret (v:=.agg #[.int .i64 1,.int .i64 s,.int .i64 0,.int .i64 1,.int .i64 l]) (by simp [results,Tryz.results21,go_sem]) rfl ⟨rfl,(Below.refl _ _).alloc (Nat.le_refl _) _⟩
def C9:Cf:=⟨1,4,0,1,9⟩
def d16 (i:Nat):Dd:=⟨0,if i<=1 then 1 else i,5,0,0⟩
def ds16:List Dd:=[⟨0,1,5,0,0⟩,⟨0,1,5,0,0⟩,⟨0,2,5,0,0⟩,⟨0,3,5,0,0⟩]
def s16 (i:Nat):Nat:=if i=0 then 12 else if i=1 then 7 else if i=2 then 11 else 3
def r16 (i:Nat):Bool:=i==0 || i==2
def runJ (d:Dd) (K:Kt) (f:Mem):Nat->Int × Kt × Mem
 | 0=>(0,K,f)
 | n+1=>opM C9 d (runJ d K f n).2.1 (runJ d K f n).2.2
def endK (r:Int × Kt × Mem):Kt:={ r.2.1 with pc:=0 }
def at16:Nat->Kt × Mem
 | 0=>(K0,getL ml0)
 | i+1=>(endK (runJ (d16 i) (beginK (d16 i) (at16 i).1) (at16 i).2 (s16 i)),(runJ (d16 i) (beginK (d16 i) (at16 i).1) (at16 i).2 (s16 i)).2.2)
def run16 (i j:Nat):Int × Kt × Mem:=runJ (d16 i) (beginK (d16 i) (at16 i).1) (at16 i).2 j
set_option maxRecDepth 100000 in
theorem busy16:∀ i,i < 4->∀ j,j < s16 i->(run16 i j).1=0/\1<=(run16 i j).2.1.pc/\(run16 i j).2.1.pc<=7:=by decide +kernel
set_option maxRecDepth 100000 in
theorem done16:∀ i,i < 4->(run16 i (s16 i)).1=1/\(run16 i (s16 i)).2.1.err=0/\(run16 i (s16 i)).2.1.dn=r16 i:=by decide +kernel
set_option maxRecDepth 100000 in
theorem at16_nd:∀ i,i < 5->(at16 i).1.T.nd=i/\(at16 i).1.pc=0:=by decide +kernel
theorem ok9:COk C9:=⟨by decide,by decide,by decide⟩
def rowO16:List Value:=[.int .i64 1,.int .u64 5,.int .u64 0,.int .i64 0,.int .i64 1,.int .u64 5,.int .u64 0,.int .i64 0,.int .i64 2,.int .u64 5,.int .u64 0,.int .i64 0,.int .i64 3,.int .u64 5,.int .u64 0,.int .i64 0]
def tm0 (c q:Nat):Tm:={ thr:=0,c:=c,q:=q,u:=0,F:=fun _=>False,kq:=2,A:=none,rc:=0,N:=0,cr:=0,ro:=0,dA:=none,dn:=0,dc:=0,pa:=.pointer none,pb:=.pointer none,pr:=.pointer none,pq:=.pointer none,pg:=.pointer none,ph:=.pointer none }
def rowS16:List Value:=[.int .i64 12,.int .i64 7,.int .i64 11,.int .i64 3]
def rowD16:List Value:=[.bool true,.bool false,.bool true,.bool false]
theorem awake_k (w:World) (hg:Glo w):Calls Tryz.prog 11 #[] w fun o w'=>o=.returned (.bool true)/\Below w.heap.size w w':=by
 have hE:=Env.start w
 have HG:=Lib.hid hg
 have HC:=Lib.hid (show chkI 1 4 0 1 9=0 by decide)
 clear hg
 go_enter Tryz.func11,Tryz.ntmps11
 go_wp2_with fail
 refine (new_w hE).mono ?_
 rintro o w3 ⟨p,cc,rfl,hE3,hb⟩
 clear hb hE
 go_wp2_with fail
 refine (start_w 0 1 (by decide) (by unfold maxLen; omega) hE3 rfl rfl).mono ?_
 rintro o w4 ⟨rfl,F4,hE4⟩
 simp only [zS,zZ] at hE4
 clear hE3
 generalize ({ l:=_,s:=_,w:=_,f:=_,a:=_ }:Cnt)=q4 at hE4
 go_wp2_with fail
 refine (list_k 4 9 _).mono ?_
 rintro o w5 ⟨rfl,hb⟩
 replace hE4:=hE4.over hb
 clear hb
 go_wp2_with fail
 refine (newYes_c 1 4 0 1 9 HC.out hE4).mono ?_
 rintro o w6 ⟨c,q,F,rfl,hE6⟩
 clear hE4
 go_wp2_with fail
 have hE7:=((hE6.box w6.heap.size rfl [.int .i64 1,.int .u64 5,.int .u64 0,.int .i64 0,.int .i64 1,.int .u64 5,.int .u64 0,.int .i64 0,.int .i64 2,.int .u64 5,.int .u64 0,.int .i64 0,.int .i64 3,.int .u64 5,.int .u64 0,.int .i64 0] 102).box (w6.heap.size+1) (by simp) [.int .i64 12,.int .i64 7,.int .i64 11,.int .i64 3] 75).box (w6.heap.size+1+1) (by simp) [.bool true,.bool false,.bool true,.bool false] 93
 generalize World.alloc (World.alloc (World.alloc w6 _) _) _=w7 at *
 clear hE6
 generalize w6.heap.size+1+1=Z5 at *
 generalize w6.heap.size+1=Z4 at *
 generalize w6.heap.size=Z3 at *
 have HRO:Hid (∀ (S:ST) (ps:List Item) (v:World),Env w (ps++LT S [boxI Z5 rowD16,boxI Z4 rowS16,boxI Z3 rowO16]) v->(∀ j,v.cell? ⟨Z5,j,none⟩=rowD16[j]?)/\(∀ j,v.cell? ⟨Z4,j,none⟩=rowS16[j]?)/\∀ j,v.cell? ⟨Z3,j,none⟩=rowO16[j]?):=Lib.hid fun S ps v hv=>⟨Blk.rule ((hv.2.2 (boxI Z5 rowD16) (by simp [LT])).1),Blk.rule ((hv.2.2 (boxI Z4 rowS16) (by simp [LT])).1),Blk.rule ((hv.2.2 (boxI Z3 rowO16) (by simp [LT])).1)⟩
 have hf0:upd (fun _=>0) (1,0,0) 1=(at16 0).2:=by
  funext x
  show _=getL ml0 x
  rw [ml0_at]
  unfold upd
  by_cases hx:x=(1,0,0)
  ·simp [hx]
  ·simp [hx]
 have hE8:Env w (LT (SPK C9 { tm0 c q with F:=F,kq:=2 } (vm p cc 0) (at16 0).1 (at16 0).2 F4 q4 (0+1)) [boxI Z5 rowD16,boxI Z4 rowS16,boxI Z3 rowO16]) w7:=by
  rw [<- hf0]
  exact hE7.perm (List.perm_append_comm (l₁:=[_,_,_]))
 clear hE7 hf0
 have HK0:Hid (KOk C9 ds16 4 (d16 0) (at16 0).1/\OkF C9 (at16 0).2/\LnkF C9 (at16 0).2):=Lib.hid ⟨K0_ok ok9 (by decide),ml0_ok ok9⟩
 go_loopw [6] (fun iv wr=>∃ (i B n k:Nat) (F G:Nat->Prop) (qc:Cnt),i<=4/\iv=.int .i64 i/\B<=4+12 * i/\n<=2+12 * i/\Hid (∀ d,KOk C9 ds16 B d (at16 i).1)/\Hid (OkF C9 (at16 i).2/\LnkF C9 (at16 i).2)/\Env w (LT (SPK C9 { tm0 c q with F:=F,kq:=k } (vm p cc 0) (at16 i).1 (at16 i).2 G qc n) [boxI Z5 rowD16,boxI Z4 rowS16,boxI Z3 rowO16]) wr) (fun iv _=>4 - (intOf iv).toNat)
 case atStart=>exact ⟨0,4,0+1,2,F,F4,q4,by omega,rfl,by omega,by omega,Lib.hid fun d=>HK0.out.1.any rfl,Lib.hid HK0.out.2,hE8⟩
 case round =>
  clear hE8 HK0
  obtain ⟨i,B,n,k,F,G,qc,hi,rfl,hB,hn,hK,hF,hE⟩:=hrel
  by_cases hlt:i < 4
  ·have hb1:decide ((i:Int) < 4)=true:=by simp; omega
   have hb2:(i:Int) < 4:=by omega
   have HNW:=Lib.hid fun (v:World) (hv:Env w (LT (SPK C9 { tm0 c q with F:=F,kq:=k } (vm p cc 0) (at16 i).1 (at16 i).2 G qc n) [boxI Z5 rowD16,boxI Z4 rowS16,boxI Z3 rowO16]) v)=>newYes_o (c:=c) (e:=(at16 i).1.T.e) (r:=(at16 i).1.r) (hs:=(at16 i).1.T.hs) (hi:=0) (q:=q) (s:=4) (b:=0) (h:=1) (l:=9) 0 (d16 i).ok (d16 i).key (d16 i).val (d16 i).lv (by unfold d16; dsimp only; split<;>omega) (by rcases (show i=0\/i=1\/i=2\/i=3 by omega) with rfl | rfl | rfl | rfl<;>decide) rfl hv
   have hc9:∀ j,wr.cell? ⟨Z3,j,none⟩=rowO16[j]?:=(HRO.out _ [] _ hE).2.2
   have c0:wr.cell? ⟨Z3,i * 4,none⟩=some (.int .i64 (d16 i).ok):=by rw [hc9]; rcases (show i=0\/i=1\/i=2\/i=3 by omega) with rfl | rfl | rfl | rfl<;>rfl
   have c1:wr.cell? ⟨Z3,i * 4+1,none⟩=some (.int .u64 (d16 i).key):=by rw [hc9]; rcases (show i=0\/i=1\/i=2\/i=3 by omega) with rfl | rfl | rfl | rfl<;>rfl
   have c2:wr.cell? ⟨Z3,i * 4+2,none⟩=some (.int .u64 (d16 i).val):=by rw [hc9]; rcases (show i=0\/i=1\/i=2\/i=3 by omega) with rfl | rfl | rfl | rfl<;>rfl
   have c3:wr.cell? ⟨Z3,i * 4+3,none⟩=some (.int .i64 (d16 i).lv):=by rw [hc9]; rcases (show i=0\/i=1\/i=2\/i=3 by omega) with rfl | rfl | rfl | rfl<;>rfl
   have HLT:=Lib.hid hlt
   clear hc9 hlt hi
   go_wp2_with fail
   refine (HNW.out _ hE).mono ?_
   rintro e w8 ⟨o,b1,b2,sb,rfl,hE8⟩
   clear hE HNW c0 c1 c2 c3
   have hnd:=at16_nd i (by have:=HLT.out; omega)
   have hbg:=begin_keep (ds:=ds16) (B:=B) ok9 (hK.out (d16 i)) hnd.2 (by rw [hnd.1]; exact HLT.out) (d16 i)
   have hbk:beginK (d16 i) (at16 i).1={ findM (at16 i).1 with T:={ (at16 i).1.T with nd:=(at16 i).1.T.nd+1 },err:=0,dn:=false }:=by unfold beginK; rw [if_neg (by have:=HLT.out; unfold d16; dsimp only; split<;>omega)]
   have hE9:Env w ([boxI o (opC c (d16 i).ok (d16 i).key (d16 i).val (d16 i).lv (cvP b1 b2) 0 (.pointer (some ⟨sb,0,none⟩)) 0 false),boxI b1 [mvL 118 sb],boxI b2 [mvL 119 o],boxI sb (srC c 0 (d16 i).key false (.pointer none))]++LT (SPK C9 { tm0 c q with F:=F,kq:=k } (vm p cc 0) (run16 i 0).2.1 (run16 i 0).2.2 G qc n) [boxI Z5 rowD16,boxI Z4 rowS16,boxI Z3 rowO16]) w8:=by
    show Env w ([_,_,_,_]++LT (SPK C9 { tm0 c q with F:=F,kq:=k } (vm p cc 0) (beginK (d16 i) (at16 i).1) (at16 i).2 G qc n) [boxI Z5 rowD16,boxI Z4 rowS16,boxI Z3 rowO16]) w8
    rw [hbk]
    exact hE8
   have HPM:Hid (PM C9 c (d16 i) (run16 i 0).2.1 o [boxI o (opC c (d16 i).ok (d16 i).key (d16 i).val (d16 i).lv (cvP b1 b2) 0 (.pointer (some ⟨sb,0,none⟩)) 0 false),boxI b1 [mvL 118 sb],boxI b2 [mvL 119 o],boxI sb (srC c 0 (d16 i).key false (.pointer none))]):=Lib.hid (by
    show PM C9 c (d16 i) (beginK (d16 i) (at16 i).1) o _
    rw [hbk]
    exact ⟨b1,b2,_,_,_,[_],rfl,.inl ⟨rfl,sb,rfl,rfl,rfl,.inl ⟨rfl,rfl,.inl rfl⟩⟩⟩)
   have HBG:Hid (KOk C9 ds16 B (d16 i) (run16 i 0).2.1):=Lib.hid hbg.1
   have HF:Hid (OkF C9 (run16 i 0).2.2/\LnkF C9 (run16 i 0).2.2):=Lib.hid hF.out
   clear hE8 hbk hbg hnd hK hF
   have hs12:s16 i<=12:=by unfold s16; split<;>(try split)<;>(try split)<;>omega
   have hs1:1<=s16 i:=by unfold s16; split<;>(try split)<;>(try split)<;>omega
   go_wp2_with fail
   go_loopw [8,9] (fun nv sv wr=>∃ (j B n k:Nat) (st:Int) (F G:Nat->Prop) (qc:Cnt) (ps:List Item),j<=s16 i/\nv=.int .i64 j/\sv=.int .i64 st/\B<=4+12 * i+j/\n<=2+12 * i+j/\Hid (st=(run16 i j).1)/\Hid (st=0->PM C9 c (d16 i) (run16 i j).2.1 o ps/\KOk C9 ds16 B (d16 i) (run16 i j).2.1)/\Hid (st≠0->(∃ nx sp,ps=[boxI o (opC c (d16 i).ok (d16 i).key (d16 i).val (d16 i).lv nx st sp (run16 i j).2.1.err (run16 i j).2.1.dn)])/\KOk C9 ds16 B (d16 i) (endK (run16 i j)))/\Hid (OkF C9 (run16 i j).2.2/\LnkF C9 (run16 i j).2.2)/\Env w (ps++LT (SPK C9 { tm0 c q with F:=F,kq:=k } (vm p cc 0) (run16 i j).2.1 (run16 i j).2.2 G qc n) [boxI Z5 rowD16,boxI Z4 rowS16,boxI Z3 rowO16]) wr) (fun nv _ _=>50 - (intOf nv).toNat)
   case atStart=>exact ⟨0,B,n,k,0,F,G,qc,_,Nat.zero_le _,rfl,rfl,by omega,by omega,Lib.hid rfl,Lib.hid (fun _=>⟨HPM.out,HBG.out⟩),Lib.hid (fun h=>absurd rfl h),HF,hE9⟩
   case round =>
    clear hE9 HPM HBG HF
    obtain ⟨j,B9,n9,k9,st,F9,G9,qc9,ps,hj,rfl,rfl,hB9,hn9,hst,hP,hQ,hF,hE⟩:=hrel
    by_cases hjl:j < s16 i
    ·have hby:=busy16 i HLT.out j hjl
     have h0:st=0:=by rw [hst.out]; exact hby.1
     subst h0
     have hb3:decide ((j:Int) < 50)=true:=by simp; omega
     have hP:=(hP.out rfl)
     have hi4:=HLT.out
     have hkc:=hP.2.kc (n:=n9) ok9 hF.out.1 hF.out.2 hby.2.1 hby.2.2 (by show InU 5/\InU 0; unfold InU; omega) (by omega) (by unfold maxLen; omega)
     have HST:=Lib.hid (op_p (R:=[boxI Z5 rowD16,boxI Z4 rowS16,boxI Z3 rowO16]) (X:={ tm0 c q with F:=F9,kq:=k9 }) (V:=vm p cc 0) hkc HG.out hP.1 hE)
     have HKE:=Lib.hid fun hu=>op_keep ok9 hF.out.1 hF.out.2 hP.2 hby.2.1 hby.2.2 hu
     have HNX:Hid (opM C9 (d16 i) (run16 i j).2.1 (run16 i j).2.2=run16 i (j+1)):=Lib.hid rfl
     rw [HNX.out] at HST HKE
     clear hkc hby hst hP hQ hE hF hi4 HNX
     go_wp2_with fail
     refine HST.out.mono ?_
     rintro e w9 ⟨s9,rfl,hs9,F',k',G',qc',n',ps',⟨hn',-⟩,h0,h1,hE'⟩
     have hu:∀ x,InU ((run16 i (j+1)).2.2 x):=fun x=>by
      have h9:Blk 0 w9 0 []\/True:=.inr trivial
      exact (hE'.perm (List.perm_append_comm)).cell 3 rfl |>.words.1 x
     have hke:=HKE.out hu
     clear HST HKE
     subst hs9
     go_wp2_with fail
     refine ⟨⟨j+1,B9+1,n',k',_,F',G',qc',ps',hjl,by simp,rfl,by omega,by omega,Lib.hid rfl,Lib.hid fun h=>⟨h0 h,?_⟩,Lib.hid fun h=>⟨h1 h,?_⟩,Lib.hid ⟨hke.f,hke.l⟩,hE'⟩,by simp [intOf]; omega⟩
     ·have:=hke.k
      rw [if_pos h] at this
      exact this
     ·have:=hke.k
      rw [if_neg h] at this
      exact this
    ·have hjs:j=s16 i:=by omega
     subst hjs
     have hdn:=done16 i HLT.out
     have h1:st=1:=by rw [hst.out]; exact hdn.1
     subst h1
     obtain ⟨⟨nx,sp,rfl⟩,hK⟩:=hQ.out (by decide)
     rw [hdn.2.1,hdn.2.2] at hE
     have HK:=Lib.hid hK
     clear hP hQ hdn hst hK
     have hb3:decide (((s16 i:Nat):Int) < 50)=true:=by simp; omega
     go_wp2_with fail
     have HAN:Hid (∀ v,Env w ([boxI o (opC c (d16 i).ok (d16 i).key (d16 i).val (d16 i).lv nx 1 sp 0 (r16 i))]++LT (SPK C9 { tm0 c q with F:=F9,kq:=k9 } (vm p cc 0) (run16 i (s16 i)).2.1 (run16 i (s16 i)).2.2 G9 qc9 n9) [boxI Z5 rowD16,boxI Z4 rowS16,boxI Z3 rowO16]) v->Calls Tryz.prog 28 #[.pointer (some ⟨o,0,none⟩)] v fun p w'=>p=.returned (.agg #[.int .i64 0,.bool (r16 i),.int .u64 0])/\Below v.heap.size v w'):=Lib.hid fun v hv=>answer_o (hv.get 0 rfl)
     have HCE:Hid (∀ v,Env w ([boxI o (opC c (d16 i).ok (d16 i).key (d16 i).val (d16 i).lv nx 1 sp 0 (r16 i))]++LT (SPK C9 { tm0 c q with F:=F9,kq:=k9 } (vm p cc 0) (run16 i (s16 i)).2.1 (run16 i (s16 i)).2.2 G9 qc9 n9) [boxI Z5 rowD16,boxI Z4 rowS16,boxI Z3 rowO16]) v->v.cell? ⟨Z4,i,none⟩=some (.int .i64 (s16 i))/\v.cell? ⟨Z5,i,none⟩=some (.bool (r16 i))):=Lib.hid fun v hv=>by
      have h9:=HRO.out _ _ _ hv
      have hi4:=HLT.out
      rw [h9.1,h9.2.1]
      rcases (show i=0\/i=1\/i=2\/i=3 by omega) with rfl | rfl | rfl | rfl<;>exact ⟨rfl,rfl⟩
     have hss:((((s16 i:Nat):Int)) != ((s16 i:Nat):Int))=false:=by simp
     have hi4:(i:Int) < 4:=by have:=HLT.out; omega
     refine wp_text (S:=(Env w ([boxI o (opC c (d16 i).ok (d16 i).key (d16 i).val (d16 i).lv nx 1 sp 0 (r16 i))]++LT (SPK C9 { tm0 c q with F:=F9,kq:=k9 } (vm p cc 0) (run16 i (s16 i)).2.1 (run16 i (s16 i)).2.2 G9 qc9 n9) [boxI Z5 rowD16,boxI Z4 rowS16,boxI Z3 rowO16]))) (by kernel_rfl) (by kernel_rfl) hE.drew (fun hT=>?_)
     have hT9:=Lib.hid hT
     clear hT
     repeat (first
      | (refine text_value (v:=?_) hT9.out (by rfl) ?_ ?_; rotate_left; (focus (intro w5 hS; obtain ⟨e1,e2⟩:=HCE.out _ hS; go_simp<;>with_reducible rfl)); (try simp only [Act.put,zA,zZ,zS]))
      | (refine text_off hT9.out (by rfl) ?_; (try simp only [Act.put,zA,zZ,zS]))
      | (refine text_call (v:=?_) (f:=?_) (args:=?_) hT9.out (by rfl) ?_ ?_ ?_; rotate_left 3; (focus (intro w5 hS; obtain ⟨e1,e2⟩:=HCE.out _ hS; go_simp; constructor<;>with_reducible rfl)); (focus (intro w5 hS; (first | (with_reducible refine (HAN.out _ hS).mono ?_; rintro e9 w6 ⟨rfl,hb5⟩; constructor; with_reducible rfl; exact hS.over hb5)))); (try simp only [Act.put,zA,zZ,zS])))
     refine InText.nil fun w5 hS5=>?_
     clear hT9
     clear hE HAN HCE
     go_wp2_with fail
     have hi4:=HLT.out
     exact ⟨⟨i+1,B9,n9,k9,F9,G9,qc9,by omega,by simp,by omega,by omega,Lib.hid fun d=>HK.out.any rfl,hF,hS5.sub (.cons _ (List.Sublist.refl _))⟩,by simp [intOf]; omega⟩
  ·have hb1:decide ((i:Int) < 4)=false:=by simp; omega
   have hn:=HC.out
   go_wp2_with fail
   have hE9:=hE
   refine (newNo_o (c:=c) (k:=1) (s:=4) (b:=0) (h:=1) (l:=9) (q:=q) 0 8 0 0 0 (.inr (.inl rfl)) rfl hE).mono ?_
   rintro e w9 ⟨rfl,hE10⟩
   go_wp2_with fail
   go_ret
   exact ⟨rfl,hE10.below⟩
theorem count_any {c n:Nat} {F:Nat->Prop} {f:Plc->Int} {q:Cnt} {w:World} (hC:IsC w c F f q n) :
  Calls Tryz.prog 51 #[.pointer (some ⟨c,0,none⟩)] w fun e w'=>e=.returned (.agg #[.int .i64 q.l,.int .i64 q.s,.int .i64 q.w,.int .i64 q.f,.int .i64 q.a])/\Below w.heap.size w w':=by
 obtain ⟨mp,hb,hm,hF⟩:=hC
 have r1:=cell_more hb.1 hb.rule
 unfold cv at r1
 go_enter Tryz.func51,Tryz.ntmps51
 go_wp2
 refine bodyPost_ret (v:=.agg #[.int .i64 q.l,.int .i64 q.s,.int .i64 q.w,.int .i64 q.f,.int .i64 q.a]) (by simp [results,Tryz.results51,go_sem]) rfl ⟨rfl,?_⟩
 exact (Below.refl _ _).alloc (Nat.le_refl _) _
section
variable {w0 w:World} {L:List Item} {p c n:Nat} {F:Nat->Prop} {f:Plc->Int} {q:Cnt}
theorem count_w (i j:Nat) (hE:Env w0 L w) (hi:L[i]?=some (wbox p c)) (hj:L[j]?=some (cellI c F f q n)) :
  Calls Tryz.prog 14 #[.pointer (some ⟨p,0,none⟩)] w fun e w'=>e=.returned (.agg #[.int .i64 q.l,.int .i64 q.s,.int .i64 q.w,.int .i64 q.f,.int .i64 q.a])/\Below w.heap.size w w':=by
 have hb:=(Below.refl w.heap.size w).alloc (Nat.le_refl _) (.cells #[.int .i64 0,.int .i64 0,.int .i64 0,.int .i64 0,.int .i64 0] 34)
 replace hE:=hE.box w.heap.size rfl [.int .i64 0,.int .i64 0,.int .i64 0,.int .i64 0,.int .i64 0] 34
 go_enter Tryz.func14,Tryz.ntmps14
 go_wp2_with fail
 refine (kept_any (hE.wblk (i+1) hi)).mono ?_
 rintro e w1 ⟨rfl,rfl⟩
 go_wp2_with fail
 refine (count_any (hE.cell (j+1) hj)).mono ?_
 rintro e w2 ⟨rfl,hb2⟩
 have hE2:=hE.over hb2
 have f5:=hE2.thaw 0 rfl
 have f0:=f5 0 (by simp)
 have f1:=f5 1 (by simp)
 have f2:=f5 2 (by simp)
 have f3:=f5 3 (by simp)
 have f4:=f5 4 (by simp)
 have r:=hE2.rule 0 rfl
 have hB:=hb.trans (hb2.mono hb.size)
 clear f5
 go_wp2
 have hP:=hE2.put5 0 rfl (.int .i64 q.l) (.int .i64 q.s) (.int .i64 q.w) (.int .i64 q.f) (.int .i64 q.a)
 have q9:=hP.rule 0 rfl
 refine bodyPost_ret (v:=.agg #[.int .i64 q.l,.int .i64 q.s,.int .i64 q.w,.int .i64 q.f,.int .i64 q.a]) (by simp [results,Tryz.results14,go_sem,q9]) rfl ⟨rfl,?_⟩
 exact ((((hB.setCell (Nat.le_refl _) _).setCell (Nat.le_refl _) _).setCell (Nat.le_refl _) _).setCell (Nat.le_refl _) _).setCell (Nat.le_refl _) _
end
end Go.Proofs.YthcblagpbkaoaaaGreatDoor
namespace Go.Proofs.YthcblagpbkaoaaaGreatDoor
open Go.ChangeShapes Go.WideShapes Go.ChangeAt Go.RowKit
set_option maxRecDepth 100000
set_option maxHeartbeats 25600000
section
variable {P:Program} {w:World}
theorem cell_lt {b o:Nat} {v:Value} (h:w.cell? ⟨b,o,none⟩=some v):b < w.heap.size:=by
 rcases Nat.lt_or_ge b w.heap.size with h' | h'
 ·exact h'
 ·simp [World.cell?,Array.getElem?_eq_none h'] at h
theorem laid_pair {n:String} {g:Nat} {t k:TypeId} {f0 f1:Field} {a b:Int} {r:List (String × DataW Unit)} {ps:List MemPlace}
  (h:DataW.LaidVars P w ((n,.agg [.lit (.int .i64 a),.lit (.int .i64 b)])::r) ps) (hg:P.globalNamed n=some g) (ht:(P.globals[g]?).map (·.type)=some t)
  (hs:P.underlying t=some (.struct #[f0,f1])) (hc:P.cellsOf t=2) (h0:f0.offset=0) (h1:f1.offset=1) (hk0:f0.type=k) (hk1:f1.type=k) (hk:P.cellsOf k=1) (hi:P.underlying k=some (.int .i64)) :
  w.cell? ⟨g,0,none⟩=some (.int .i64 a)/\w.cell? ⟨g,1,none⟩=some (.int .i64 b)/\∃ q,DataW.LaidVars P w r q:=by
 obtain ⟨g',t',cs,fuel,p,q,hg',ht',hv,hd,hr,-⟩:=h
 obtain rfl:=Option.some.inj (hg.symm.trans hg')
 obtain rfl:=Option.some.inj (ht.symm.trans ht')
 obtain ⟨xs,m,-,hx,hl,hn,hel⟩:=DataW.trod_struct hs hd
 have e0:=hel 0 f0 rfl
 have e1:=hel 1 f1 rfl
 rw [h0,hk0,hk] at e0
 rw [h1,hk1,hk] at e1
 obtain ⟨l⟩:=cs
 rw [hc] at hl
 match l,hl,xs,hn,hx,e0,e1,hv with
 | [c0,c1],_,[x0,x1],_,hx,e0,e1,hv =>
  simp only [Prod.mk.injEq,List.map_cons,List.map_nil,DataW.agg.injEq,List.cons.injEq] at hx
  obtain ⟨n0,s0,y0,-⟩:=DataW.trod_int hi (show DataW.trod _ P w 0 _ false m k [c0]=some x0 from e0)
  obtain ⟨n1,s1,y1,-⟩:=DataW.trod_int hi (show DataW.trod _ P w 0 _ false m k [c1]=some x1 from e1)
  simp at s0 s1
  subst s0 s1
  have k0:=hx.1.1
  have k1:=hx.1.2.1
  rw [y0] at k0
  rw [y1] at k1
  simp at k0 k1
  subst k0 k1
  exact ⟨by rw [World.var?_cell hg hv 0]; rfl,by rw [World.var?_cell hg hv 1]; rfl,q,hr⟩
end
def laid3:List (String × DataW Unit):=[("revenant/link.versionPart",Rows.laid_revenant_link_versionPart),("revenant/link.slotPart",Rows.laid_revenant_link_slotPart),("revenant/link.markPart",Rows.laid_revenant_link_markPart)]
theorem glo_of_laid {W:World} (h:laidMetH Tryz.prog laid3 W):Glo W:=by
 rw [MakeChecks.laidMetH_plain _ _ _ (by kernel_rfl)] at h
 obtain ⟨ps,h,-,-⟩:=h
 obtain ⟨a0,a1,q1,h⟩:=laid_pair (g:=2) (t:=232) (k:=3) h (by kernel_rfl) (by kernel_rfl) Tryz.underlying232 (by kernel_rfl) rfl rfl rfl rfl (by kernel_rfl) Tryz.underlying3
 obtain ⟨b0,b1,q2,h⟩:=laid_pair (g:=0) (t:=232) (k:=3) h (by kernel_rfl) (by kernel_rfl) Tryz.underlying232 (by kernel_rfl) rfl rfl rfl rfl (by kernel_rfl) Tryz.underlying3
 obtain ⟨c0,c1,q3,h⟩:=laid_pair (g:=1) (t:=232) (k:=3) h (by kernel_rfl) (by kernel_rfl) Tryz.underlying232 (by kernel_rfl) rfl rfl rfl rfl (by kernel_rfl) Tryz.underlying3
 exact ⟨⟨a0,a1⟩,⟨b0,b1⟩,⟨c0,c1⟩,cell_lt a0,cell_lt b0,cell_lt c0⟩
theorem door_met (os:Os) (args:Array Value):laidMetH Tryz.prog laid3 ((World.doorLaid Tryz.prog 24 os).forCall (fun _ _=>0) ⟨#[],args,[]⟩).memory :=
 laidMetH_of_parts3 (fuel:=8) (laidMet_of_run' 8 (by kernel_rfl) (by kernel_rfl)) (by kernel_rfl) (by kernel_rfl)
end Go.Proofs.YthcblagpbkaoaaaGreatDoor
