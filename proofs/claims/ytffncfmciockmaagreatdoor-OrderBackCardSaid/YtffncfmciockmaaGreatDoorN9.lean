/- What is proved on the way to the statement, part 9: contracts of the functions, among other things in memory. -/
import Derived.Test.YtffncfmciockmaaGreatDoorN8
import Derived.LoopIn
import Derived.Test.YtffncfmciockmaaGreatDoorTie
import Derived.LaidMore
import Derived.Stop.Joined
import Derived.WalkKit
import Derived.ProofKit
import Derived.OpenShut
import Derived.Deep.SlicePairs

open _root_.Go.Proofs.Tryz
set_option maxRecDepth 100000
set_option maxHeartbeats 25600000
namespace Go.Proofs.YtffncfmciockmaaGreatDoor
section
open Go.RowKit Go.Maps
structure KOut (C:Cf) (ds:List Dd) (B:Nat) (d:Dd) (K:Kt) (r:Int × Kt × Mem):Prop where
 (f:OkF C r.2.2)
 (l:LnkF C r.2.2)
 (nd:r.2.1.T.nd=K.T.nd)
 (k:KOk C ds B d { r.2.1 with pc:=if r.1=0 then r.2.1.pc else 0 })
section
variable {C:Cf} {ds:List Dd} {B:Nat} {T:Th} {d:Dd} {K:Kt} {f:Mem}
theorem search_memok (hF:OkF C f) (hS:LnkF C f) (hC:COk C) (key:Int) {on:Bool} {L:Lm} {e r:Int} (h:on=true->LaneOk C L) (hu:∀ x,InU ((searchM 0 key false ⟨on,L,e,r⟩ f).2.2 x)):OkF C (searchM 0 key false ⟨on,L,e,r⟩ f).2.2/\LnkF C (searchM 0 key false ⟨on,L,e,r⟩ f).2.2:=by
 have hs0:0<=C.s:=by have:=hC.s; omega
 by_cases ho:on=true
 ·rcases search_mem key (on:=on) (L:=L) (e:=e) (r:=r) (fun h9=>(h h9).at9) f with h9 | ⟨p,v,hp,h9,hv⟩
  ·rw [h9]; exact ⟨hF,hS⟩
  ·rw [h9] at hu ⊢;exact ⟨hF.updL hp hu,hS.upd (by rw [hv]; exact slot_word_le hs0 (h ho).sx)⟩
 ·have h9:(searchM 0 key false ⟨on,L,e,r⟩ f).2.2=f:=by unfold searchM; rw [if_neg ho]
  rw [h9]; exact ⟨hF,hS⟩
theorem search_e (hF:OkF C f) (hC:COk C) (key:Int) {on:Bool} {L:Lm} {e r:Int} (he:0<=e/\e<=C.l):0<=(searchM 0 key false ⟨on,L,e,r⟩ f).2.1.e/\(searchM 0 key false ⟨on,L,e,r⟩ f).2.1.e<=C.l:=by
 have h9:=epI_of (hF.u (1,0,0)) hF.ep hC.l.2;unfold searchM
 split
 ·exact he
 ·show 0<=epI (f (1,0,0))/\epI (f (1,0,0))<=C.l;rw [h9.1];exact ⟨h9.2,hF.ep⟩
theorem KOk.t0 (h:KOk C ds B d K) (hp:K.pc≠2/\K.pc≠7/\K.pc≠8):K.T.pc=0:=by
 have h9:=h.tp;rw [if_neg hp.1,if_neg hp.2.1,if_neg hp.2.2] at h9;exact h9
theorem KOk.hs0 (h:KOk C ds B d K) (hp:4<=K.pc\/K.pc=0):K.T.hs=0:=by
 by_cases h9:K.T.hs=0
 ·exact h9
 ·have:=(h.ho h9).1;omega
theorem KOk.again {B2:Nat} (h:KOk C ds B d K) (hT:OkT C ds B2 T) (h0:T.pc=0) (hh:T.hs≠0->d.ok=1) (hn:1<=T.nd) (h1:1<=K.pc) (h7:K.pc<=7):KOk C ds B2 d (findM { K with T:=T }):=by
 have hda:=h.da h1 h7;have hx:findM { K with T:=T }=⟨T,1,false,L0 (4,0,0),K.laid,K.on2,K.L2,0,false,K.r⟩:=by unfold findM; rw [<- hda.1,<- hda.2]
 rw [hx];exact KOk.find hT h0 hh hn false _ (fun h=>absurd h (by decide))
theorem KOk.more (h:KOk C ds B d K):KOk C ds (B+1) d K:={ h with t:=h.t.more }
theorem found_keep (hC:COk C) (h:KOk C ds B d { K with on:=false }) (h1:K.pc=1) (hL:SpotOk C K.L):(foundM C d K).2.T.nd=K.T.nd/\KOk C ds (B+1) d { (foundM C d K).2 with pc:=if (foundM C d K).1=0 then (foundM C d K).2.pc else 0 }:=by
 have h0:K.T.pc=0:=h.t0 ⟨by show K.pc≠2; omega,by show K.pc≠7; omega,by show K.pc≠8; omega⟩;have hn:1<=K.T.nd:=h.nd (by show K.pc≠0; omega);have hda:K.err=0/\K.dn=false:=h.da (by show 1<=K.pc; omega) (by show K.pc<=7; omega);unfold foundM
 by_cases hi:d.ok=1
 ·rw [if_pos hi]
  by_cases hf:K.L.fd=true
  ·rw [if_pos hf];exact ⟨rfl,KOk.fin (h.t.drop h0 hC) h0 rfl⟩
  ·rw [if_neg hf]
   by_cases hh:K.T.hs=0
   ·rw [if_pos hh]
    by_cases hD:decP K.T.ql K.T.e C.l=0
    ·rw [if_pos hD];exact ⟨rfl,KOk.fin h.t.more h0 hh⟩
    ·rw [if_neg hD];exact ⟨rfl,{ t:=(h.t.alloc hh hn hC hD).more,tp:=rfl,pc:=(by show 2<=8; decide),da:=fun _ _=>hda,s1:=fun h9=>no h9 rfl,s2:=fun h9=>no h9 rfl,sp:=fun h9=>absurd h9 (by show ¬ 3<=2; decide),un:=fun h9=>absurd h9 (by show ¬ 4<=2; decide),ins:=fun _=>hi,lk:=fun h9=>no h9 rfl,ho:=fun h9=>absurd hh h9,kk:=fun _=>.inl (by show decP K.T.ql K.T.e C.l<=10; rcases decP_in K.T.ql K.T.e C.l with h | h | h | h<;>omega),nd:=fun _=>hn }⟩
   ·rw [if_neg hh];exact ⟨rfl,{ t:=h.t.more,tp:=h0,pc:=(by show 3<=8; decide),da:=fun _ _=>hda,s1:=fun h9=>no h9 rfl,s2:=fun h9=>no h9 rfl,sp:=fun _ _=>hL,un:=fun h9=>absurd h9 (by show ¬ 4<=3; decide),ins:=fun _=>hi,lk:=fun _=>hh,ho:=fun _=>⟨.inr (.inr rfl),hi⟩,kk:=fun h9=>no h9 rfl,nd:=fun _=>hn }⟩
 ·rw [if_neg hi];have hh:K.T.hs=0:=by
   by_cases h9:K.T.hs=0
   ·exact h9
   ·exact absurd (h.ho h9).2 hi
  by_cases hd:d.ok=2/\K.L.fd=true
  ·rw [if_pos hd];have hfd:=hL.fd hd.2;exact ⟨rfl,{ t:=h.t.more,tp:=h0,pc:=(by show 4<=8; decide),da:=fun _ _=>hda,s1:=fun h9=>no h9 rfl,s2:=fun h9=>no h9 rfl,sp:=fun _ _=>hL,un:=fun _ _=>⟨hfd.2,hfd.1,hd.1⟩,ins:=fun h9=>by rcases h9 with h9 | h9<;>exact no h9 rfl,lk:=fun h9=>no h9 rfl,ho:=fun h9=>absurd hh h9,kk:=fun h9=>no h9 rfl,nd:=fun _=>hn }⟩
  ·rw [if_neg hd];exact ⟨rfl,KOk.fin h.t.more h0 hh⟩
theorem op1_keep (hC:COk C) (hF:OkF C f) (hS:LnkF C f) (h:KOk C ds B d K) (h1:K.pc=1) (hu:∀ x,InU ((opM C d K f).2.2 x)):KOut C ds (B+1) d K (opM C d K f):=by
 have h0:=h.t0 (by omega);have hn:=h.nd (by omega);have hda:=h.da (by omega) (by omega);have hho:K.T.hs≠0->d.ok=1:=fun h9=>(h.ho h9).2;have hk:=search_keep (key:=d.key) (e:=K.T.e) (r:=K.r) (h.s1 h1) hF.u hS (by have:=hC.s; omega);have he:=search_e hF hC d.key (on:=K.on) (L:=K.L) (r:=K.r) h.t.e;have hm:=search_memok hF hS hC d.key (e:=K.T.e) (r:=K.r) (h.s1 h1);unfold opM at hu ⊢;rw [if_pos h1] at hu ⊢;generalize hq:searchM 0 d.key false ⟨K.on,K.L,K.T.e,K.r⟩ f=q at *;dsimp only at hu ⊢;have hT:=h.t.epoch h0 he
 by_cases hq1:q.1=1
 ·rw [if_pos hq1] at hu ⊢;have hK:KOk C ds B d ⟨{ K.T with e:=q.2.1.e },K.pc,false,q.2.1.L,K.laid,K.on2,K.L2,K.err,K.dn,q.2.1.r⟩:=by
   rw [h1,hda.1,hda.2];exact KOk.find hT h0 hho hn false _ (fun h=>absurd h (by decide))
  have hf:=found_keep (K:={ K with on:=q.2.1.on,L:=q.2.1.L,r:=q.2.1.r,T:={ K.T with e:=q.2.1.e } }) hC hK h1 (hk.2 hq1);exact ⟨(hm hu).1,(hm hu).2,hf.1,hf.2⟩
 ·rw [if_neg hq1] at hu ⊢;have hq0:q.1=0:=by
   have:=search_state 0 d.key false ⟨K.on,K.L,K.T.e,K.r⟩ f;rw [hq] at this;omega
  refine ⟨(hm hu).1,(hm hu).2,rfl,?_⟩;show KOk C ds (B+1) d ⟨{ K.T with e:=q.2.1.e },K.pc,q.2.1.on,q.2.1.L,K.laid,K.on2,K.L2,K.err,K.dn,q.2.1.r⟩;rw [h1,hda.1,hda.2];exact KOk.find hT.more h0 hho hn _ _ (fun h=>hk.1 hq0 h)
theorem op2_keep (hC:COk C) (hF:OkF C f) (hS:LnkF C f) (h:KOk C ds B d K) (h1:K.pc=2) (hu:∀ x,InU ((opM C d K f).2.2 x)):KOut C ds (B+1) d K (opM C d K f):=by
 have h2:K.T.pc=2:=by have:=h.tp; rw [if_pos h1] at this; exact this
 have hn:=h.nd (by omega);have hda:=h.da (by omega) (by omega);have hi:=h.ins (.inl h1);have hact:=al_cases C d K.T f h2;have hA:=act2_ok (d:=d) hC hF h.t h2;have hkk:=allocM_kk (f:=f) (h.kk h1);have hhs:=allocM_hs (C:=C) (d:=d) (f:=f) (h.t.low h2);have hl:=allocM_lnk (d:=d) (T:=K.T) hS;have kp:=allocM_keep C d K.T f;have st:=allocM_state C d K.T f;rw [hact] at hA;unfold opM at hu ⊢;rw [if_neg (by omega),if_pos h1] at hu ⊢;generalize allocM C d K.T f=q at *;dsimp only at hu hA ⊢;have hdone:0<=q.2.1.done/\q.2.1.done<=((B+1:Nat):Int):=by
  have:=h.t.done;rw [kp.2.2.2.2.2.2.2.2.2.1];omega
 have hok:(∀ x,InU (q.2.2 x))->OkT C ds (B+1) { q.2.1 with pc:=0 }:=fun h9=>(hA h9).2.idle hdone
 rcases st with s | s | s | s | s
 ·rw [if_pos s] at hu ⊢;have ha:=hA hu;have hT:OkT C ds (B+1) q.2.1:=by
   have h9:=ha.2;rw [s] at h9;exact h9.same (by show 2=q.2.1.pc; rw [kp.2.2.1]; exact h2.symm) rfl hdone
  refine ⟨ha.1,hl,kp.2.1,?_⟩;show KOk C ds (B+1) d { K with T:=q.2.1 };exact { t:=hT,tp:=(by show q.2.1.pc=if K.pc=2 then 2 else _; rw [if_pos h1,kp.2.2.1]; exact h2),pc:=h.pc,da:=fun _ _=>hda,s1:=fun h9=>absurd (h1.symm.trans h9) (by decide),s2:=fun h9=>absurd (h1.symm.trans h9) (by decide),sp:=fun h9=>absurd (show 3<=K.pc from h9) (by omega),un:=fun h9=>absurd (show 4<=K.pc from h9) (by omega),ins:=fun _=>hi,lk:=fun h9=>absurd (h1.symm.trans h9) (by decide),ho:=fun _=>⟨.inr (.inl h1),hi⟩,kk:=fun _=>hkk s,nd:=fun _=>(by show 1<=q.2.1.nd; rw [kp.2.1]; exact hn) }
 ·rw [if_neg (by omega),if_neg (by omega),if_neg (by omega)] at hu ⊢;exact ⟨(hA hu).1,hl,kp.2.1,h.again (hok hu) rfl (fun _=>hi) (by show 1<=q.2.1.nd; rw [kp.2.1]; exact hn) (by omega) (by omega)⟩
 ·rw [if_neg (by omega),if_neg (by omega),if_neg (by omega)] at hu ⊢;exact ⟨(hA hu).1,hl,kp.2.1,h.again (hok hu) rfl (fun _=>hi) (by show 1<=q.2.1.nd; rw [kp.2.1]; exact hn) (by omega) (by omega)⟩
 ·rw [if_neg (by omega),if_pos s] at hu ⊢;exact ⟨(hA hu).1,hl,kp.2.1,KOk.fin (hok hu) rfl (hhs (.inl s))⟩
 ·rw [if_neg (by omega),if_neg (by omega),if_pos s] at hu ⊢;exact ⟨(hA hu).1,hl,kp.2.1,KOk.fin (hok hu) rfl (hhs (.inr (.inl s)))⟩
end
section
variable {C:Cf} {ds:List Dd} {B:Nat} {T:Th} {d:Dd} {K:Kt} {f:Mem}
theorem op3_keep (hC:COk C) (hF:OkF C f) (hS:LnkF C f) (h:KOk C ds B d K) (h1:K.pc=3) (hu:∀ x,InU ((opM C d K f).2.2 x)):KOut C ds (B+1) d K (opM C d K f):=by
 have h0:=h.t0 (by omega);have hn:=h.nd (by omega);have hda:=h.da (by omega) (by omega);have hsp:=h.sp (by omega) (by omega);have hi:=h.ins (.inr h1);have hs0:0<=C.s:=by have:=hC.s; omega
 have hsl:=slot_word_le (m:=false) (e:=K.T.e) hs0 h.t.hs.2;unfold opM at hu ⊢;rw [if_neg (by omega),if_neg (by omega),if_pos h1] at hu ⊢
 by_cases hl:K.laid=true
 ·rw [if_pos hl] at hu ⊢
  by_cases hx:f K.L.p=K.L.W
  ·rw [if_pos hx] at hu ⊢;exact ⟨hF.swfL hsp.at9 hu,hS.swf hsl,rfl,KOk.fin (h.t.noH h0 hC).more h0 rfl⟩
  ·rw [if_neg hx] at hu ⊢;exact ⟨hF.swfL hsp.at9 hu,hS.swf hsl,rfl,h.again h.t.more h0 (fun _=>hi) hn (by omega) (by omega)⟩
 ·rw [if_neg hl] at hu ⊢;refine ⟨hF.updL (.inr ⟨_,rfl⟩) hu,hS.upd (slot_word_le hs0 hsp.sw),rfl,?_⟩;show KOk C ds (B+1) d { K with laid:=true };have hm:=h.more;exact { t:=hm.t,tp:=hm.tp,pc:=hm.pc,da:=hm.da,s1:=hm.s1,s2:=hm.s2,sp:=hm.sp,un:=hm.un,ins:=hm.ins,lk:=hm.lk,ho:=hm.ho,kk:=hm.kk,nd:=hm.nd }
theorem op4_keep (hC:COk C) (hF:OkF C f) (hS:LnkF C f) (h:KOk C ds B d K) (h1:K.pc=4) (hu:∀ x,InU ((opM C d K f).2.2 x)):KOut C ds (B+1) d K (opM C d K f):=by
 have h0:=h.t0 (by omega);have hn:=h.nd (by omega);have hda:=h.da (by omega) (by omega);have hsp:=h.sp (by omega) (by omega);have hun:=h.un (by omega) (by omega);have hh:=h.hs0 (.inl (by omega));have hs0:0<=C.s:=by have:=hC.s; omega
 have hsl:slotI (markM K.L.X K.T.e)<=C.s:=slot_word_le hs0 hsp.sx;unfold opM at hu ⊢;rw [if_neg (by omega),if_neg (by omega),if_neg (by omega),if_pos h1] at hu ⊢
 by_cases hx:f (5,K.L.C,7)=K.L.X
 ·rw [if_pos hx] at hu ⊢;exact ⟨hF.swfL (.inr ⟨_,rfl⟩) hu,hS.swf hsl,rfl,{ t:=h.t.more,tp:=h0,pc:=(by show 5<=8; decide),da:=fun _ _=>hda,s1:=fun h9=>no h9 rfl,s2:=fun h9=>no h9 rfl,sp:=fun _ _=>hsp,un:=fun _ _=>hun,ins:=fun h9=>by rcases h9 with h9 | h9<;>exact no h9 rfl,lk:=fun h9=>no h9 rfl,ho:=fun h9=>absurd hh h9,kk:=fun h9=>no h9 rfl,nd:=fun _=>hn }⟩
 ·rw [if_neg hx] at hu ⊢;exact ⟨hF.swfL (.inr ⟨_,rfl⟩) hu,hS.swf hsl,rfl,h.again h.t.more h0 (fun h9=>absurd hh h9) hn (by omega) (by omega)⟩
theorem KOk.seven (h:KOk C ds B d K) (hC:COk C) (h4:4<=K.pc) (h7:K.pc<=7) (hT:OkT C ds B T) (hh:T.hs=0) (hn:1<=T.nd) {on2:Bool} {L2:Lm} {r:Int}:KOk C ds (B+1) d ⟨{ T with pc:=3,rs:=K.L.C,rpc:=0,re:=0 },7,K.on,K.L,K.laid,on2,L2,K.err,K.dn,r⟩:=by
 have hda:=h.da (by omega) h7;have hsp:=h.sp (by omega) h7;have hun:=h.un h4 h7;exact { t:=(hT.retire hn hC hun.2.1 hsp.cs).more,tp:=rfl,pc:=(by show 7<=8; decide),da:=fun _ _=>hda,s1:=fun h9=>no h9 rfl,s2:=fun h9=>no h9 rfl,sp:=fun _ _=>hsp,un:=fun _ _=>hun,ins:=fun h9=>by rcases h9 with h9 | h9<;>exact no h9 rfl,lk:=fun h9=>no h9 rfl,ho:=fun h9=>absurd hh h9,kk:=fun h9=>no h9 rfl,nd:=fun _=>hn }
theorem KOk.six (h:KOk C ds B d K) (h4:4<=K.pc) (h7:K.pc<=7) (hT:OkT C ds B T) (h0:T.pc=0) (hh:T.hs=0) (hn:1<=T.nd) {on2:Bool} {L2:Lm} {r:Int} (hL:on2=true->LaneOk C L2):KOk C ds (B+1) d ⟨T,6,K.on,K.L,K.laid,on2,L2,K.err,K.dn,r⟩:=by
 have hda:=h.da (by omega) h7;have hsp:=h.sp (by omega) h7;have hun:=h.un h4 h7;exact { t:=hT.more,tp:=h0,pc:=(by show 6<=8; decide),da:=fun _ _=>hda,s1:=fun h9=>no h9 rfl,s2:=fun _ h9=>hL h9,sp:=fun _ _=>hsp,un:=fun _ _=>hun,ins:=fun h9=>by rcases h9 with h9 | h9<;>exact no h9 rfl,lk:=fun h9=>no h9 rfl,ho:=fun h9=>absurd hh h9,kk:=fun h9=>no h9 rfl,nd:=fun _=>hn }
theorem op5_keep (hC:COk C) (hF:OkF C f) (hS:LnkF C f) (h:KOk C ds B d K) (h1:K.pc=5) (hu:∀ x,InU ((opM C d K f).2.2 x)):KOut C ds (B+1) d K (opM C d K f):=by
 have h0:=h.t0 (by omega);have hn:=h.nd (by omega);have hsp:=h.sp (by omega) (by omega);have hh:=h.hs0 (.inl (by omega));have hs0:0<=C.s:=by have:=hC.s; omega
 have hsl:=slot_word_le (m:=false) (e:=K.T.e) hs0 hsp.sx;unfold opM at hu ⊢;rw [if_neg (by omega),if_neg (by omega),if_neg (by omega),if_neg (by omega),if_pos h1] at hu ⊢
 by_cases hx:f K.L.p=K.L.W
 ·rw [if_pos hx] at hu ⊢;exact ⟨hF.swfL hsp.at9 hu,hS.swf hsl,rfl,h.seven hC (by omega) (by omega) h.t hh hn⟩
 ·rw [if_neg hx] at hu ⊢;exact ⟨hF.swfL hsp.at9 hu,hS.swf hsl,rfl,h.six (by omega) (by omega) h.t h0 hh hn (fun h=>absurd (show false=true from h) (by decide))⟩
theorem op6_keep (hC:COk C) (hF:OkF C f) (hS:LnkF C f) (h:KOk C ds B d K) (h1:K.pc=6) (hu:∀ x,InU ((opM C d K f).2.2 x)):KOut C ds (B+1) d K (opM C d K f):=by
 have h0:=h.t0 (by omega);have hn:=h.nd (by omega);have hh:=h.hs0 (.inl (by omega));have hk:=search_keep (key:=d.key) (e:=K.T.e) (r:=K.r) (h.s2 h1) hF.u hS (by have:=hC.s; omega);have he:=search_e hF hC d.key (on:=K.on2) (L:=K.L2) (r:=K.r) h.t.e;have hm:=search_memok hF hS hC d.key (e:=K.T.e) (r:=K.r) (h.s2 h1);unfold opM at hu ⊢;rw [if_neg (by omega),if_neg (by omega),if_neg (by omega),if_neg (by omega),if_neg (by omega),if_pos h1] at hu ⊢;generalize hq:searchM 0 d.key false ⟨K.on2,K.L2,K.T.e,K.r⟩ f=q at *;dsimp only at hu ⊢;have hT:=h.t.epoch h0 he
 by_cases hq1:q.1=1
 ·rw [if_pos hq1] at hu ⊢;exact ⟨(hm hu).1,(hm hu).2,rfl,h.seven hC (by omega) (by omega) hT hh hn⟩
 ·rw [if_neg hq1] at hu ⊢;have hq0:q.1=0:=by
   have:=search_state 0 d.key false ⟨K.on2,K.L2,K.T.e,K.r⟩ f;rw [hq] at this;omega
  refine ⟨(hm hu).1,(hm hu).2,rfl,?_⟩;show KOk C ds (B+1) d ⟨{ K.T with e:=q.2.1.e },K.pc,K.on,K.L,K.laid,q.2.1.on,q.2.1.L,K.err,K.dn,q.2.1.r⟩;rw [h1];exact h.six (by omega) (by omega) hT h0 hh hn (fun h=>hk.1 hq0 h)
theorem op7_keep (hC:COk C) (hF:OkF C f) (hS:LnkF C f) (h:KOk C ds B d K) (h1:K.pc=7) (hu:∀ x,InU ((opM C d K f).2.2 x)):KOut C ds (B+1) d K (opM C d K f):=by
 have h3:K.T.pc=3:=by have:=h.tp; rw [if_neg (by omega),if_pos h1] at this; exact this
 have hn:=h.nd (by omega);have hh:=h.hs0 (.inl (by omega));have hda:=h.da (by omega) (by omega);have hsp:=h.sp (by omega) (by omega);have hun:=h.un (by omega) (by omega);have hA:=act3_ok (d:=d) hC hF h.t h3;have hact:actM C d K.T f=({ (retireM K.T f).2.1 with pc:=if (retireM K.T f).1=0 then 3 else 0,full:=false },(retireM K.T f).2.2):=by
  unfold actM;rw [if_neg (by omega),if_neg (by omega),if_pos h3]
 have hl:=retireM_lnk (T:=K.T) hS;have kp:=retireM_keep (T:=K.T) (f:=f);rw [hact] at hA;unfold opM at hu ⊢;rw [if_neg (by omega),if_neg (by omega),if_neg (by omega),if_neg (by omega),if_neg (by omega),if_neg (by omega)] at hu ⊢;generalize retireM K.T f=q at *;dsimp only at hu hA ⊢;have hdone:0<=q.2.1.done/\q.2.1.done<=((B+1:Nat):Int):=by
  have:=h.t.done;rw [kp.2.2.1];omega
 rcases kp.2.2.2.2.2 with s | s
 ·rw [if_pos s] at hu ⊢;have ha:=hA hu;have hT:OkT C ds (B+1) q.2.1:=by
   have h9:=ha.2;rw [s] at h9;exact h9.same (by show 3=q.2.1.pc; rw [kp.2.2.2.2.1]; exact h3.symm) rfl hdone
  refine ⟨ha.1,hl,kp.2.1,?_⟩;show KOk C ds (B+1) d { K with T:=q.2.1 };exact { t:=hT,tp:=(by show q.2.1.pc=if K.pc=2 then 2 else if K.pc=7 then 3 else _; rw [if_neg (by omega),if_pos h1,kp.2.2.2.2.1]; exact h3),pc:=h.pc,da:=fun _ _=>hda,s1:=fun h9=>absurd (h1.symm.trans h9) (by decide),s2:=fun h9=>absurd (h1.symm.trans h9) (by decide),sp:=fun _ _=>hsp,un:=fun _ _=>hun,ins:=h.ins,lk:=fun h9=>absurd (h1.symm.trans h9) (by decide),ho:=fun h9=>absurd (kp.1.trans hh) h9,kk:=fun h9=>absurd (h1.symm.trans h9) (by decide),nd:=fun _=>(by show 1<=q.2.1.nd; rw [kp.2.1]; exact hn) }
 ·rw [if_neg (by omega)] at hu ⊢;exact ⟨(hA hu).1,hl,kp.2.1,KOk.fin ((hA hu).2.idle hdone) rfl (kp.1.trans hh)⟩
theorem op_keep (hC:COk C) (hF:OkF C f) (hS:LnkF C f) (h:KOk C ds B d K) (h1:1<=K.pc) (h7:K.pc<=7) (hu:∀ x,InU ((opM C d K f).2.2 x)):KOut C ds (B+1) d K (opM C d K f):=by
 rcases (show K.pc=1\/K.pc=2\/K.pc=3\/K.pc=4\/K.pc=5\/K.pc=6\/K.pc=7 by omega) with h9 | h9 | h9 | h9 | h9 | h9 | h9
 ·exact op1_keep hC hF hS h h9 hu
 ·exact op2_keep hC hF hS h h9 hu
 ·exact op3_keep hC hF hS h h9 hu
 ·exact op4_keep hC hF hS h h9 hu
 ·exact op5_keep hC hF hS h h9 hu
 ·exact op6_keep hC hF hS h h9 hu
 ·exact op7_keep hC hF hS h h9 hu
theorem begin_keep (hC:COk C) (h:KOk C ds B d K) (h0:K.pc=0) (hlt:K.T.nd < ds.length) (d2:Dd):KOk C ds B d2 (beginK d2 K)/\1<=(beginK d2 K).pc/\(beginK d2 K).T.nd=K.T.nd+1:=by
 have hh:=h.hs0 (.inr h0);have ht:=h.t0 (by omega);unfold beginK
 by_cases h8:d2.ok=8
 ·rw [if_pos h8];refine ⟨?_,by show 1<=8; decide,rfl⟩;exact { t:=h.t.begin4 hlt hC,tp:=rfl,pc:=Nat.le_refl 8,da:=fun _ h9=>absurd h9 (by show ¬ 8<=7; decide),s1:=fun h9=>no h9 rfl,s2:=fun h9=>no h9 rfl,sp:=fun _ h9=>absurd h9 (by show ¬ 8<=7; decide),un:=fun _ h9=>absurd h9 (by show ¬ 8<=7; decide),ins:=fun h9=>by rcases h9 with h9 | h9<;>exact no h9 rfl,lk:=fun h9=>no h9 rfl,ho:=fun h9=>absurd hh h9,kk:=fun h9=>no h9 rfl,nd:=fun _=>Nat.le_add_left 1 K.T.nd }
 ·rw [if_neg h8];exact ⟨KOk.find (h.t.begin0 hlt) ht (fun h9=>absurd hh h9) (Nat.le_add_left 1 K.T.nd) false _ (fun h=>absurd h (by decide)),Nat.le_refl 1,rfl⟩
end
section
variable {C:Cf} {ds:List Dd} {B:Nat} {T:Th} {d:Dd} {K:Kt} {f:Mem} {n:Nat}
theorem OkT.row (hC:COk C) (hT:OkT C ds B T) (hB:B+1<=1000000) (hn:n < maxLen) (hp:T.pc=2):RowOk C T n:=by
 have hl:=hC.l;have hs:=hC.s;refine ⟨by have:=hT.e; constructor<;>omega,hn,by have:=hT.len; omega,by constructor<;>omega,hT.w,hT.apc hp,fun h=>⟨hT.low hp (by omega),?_⟩,by have:=hT.hs; unfold In64; constructor<;>omega⟩
 rcases hq:T.ql with _ | ⟨⟨x,y,z⟩,t⟩
 ·exact absurd hq (hT.born hp h)
 ·have:=hT.ql (x,y,z) (by rw [hq]; simp);obtain ⟨h1,h2,rfl⟩:=this;exact ⟨x,y,t,rfl,h1,h2⟩
theorem KOk.kc (hC:COk C) (hF:OkF C f) (hS:LnkF C f) (h:KOk C ds B d K) (h1:1<=K.pc) (h7:K.pc<=7) (hd:InU d.key/\InU d.val) (hB:B+1<=1000000) (hn:n < maxLen):KcOk C d K f n:=by
 have hl:=hC.l;have hs:=hC.s;have hlen:=h.t.len;refine ⟨⟨h1,h7⟩,h.da h1 h7,hd,by omega,hn,h.s1,fun hp h9=>?_,fun hp=>h.t.row hC hB hn (by have:=h.tp; rw [if_pos hp] at this; exact this),by have:=h.t.hs; unfold In64; constructor<;>omega,h.lk,fun hp=>h.sp hp h7,fun hp=>⟨(h.un hp h7).1,h.hs0 (.inl hp)⟩,h.s2,fun hp=>?_⟩
 ·exact ((search_keep (key:=d.key) (e:=K.T.e) (r:=K.r) (h.s1 hp) hF.u hS (by omega)).2 h9).X
 ·have h3:K.T.pc=3:=by have:=h.tp; rw [if_neg (by omega),if_pos hp] at this; exact this
  have hre:=h.t.re;have hrs:=h.t.rs;exact ⟨by unfold InU; constructor<;>omega,by unfold In64; constructor<;>omega,h.t.rpc h3⟩
end
section
variable {C:Cf} {B:Nat}
theorem T0_ok (hC:COk C) {ds:List Dd} (hd:ds.length<=B):OkT C ds B T0:=by
 have hs:=hC.s;have hl:=hC.l;have hz:slotI 0=0:=by decide
 have hu0:InU 0:=by unfold InU; omega
 exact { e:=(by show (0:Int)<=0/\(0:Int)<=C.l; omega),w:=⟨hu0,hu0,hu0⟩,hs:=(by show (0:Int)<=0/\(0:Int)<=C.s; omega),rs:=(by show (0:Int)<=0/\(0:Int)<=C.s; omega),ql:=(by intro x hx; cases hx),nd:=Nat.zero_le _,len:=(by show 0+(ds.length - 0)<=B; omega),done:=(by show (0:Int)<=0/\(0:Int)<=B; omega),pc:=.inl rfl,p1:=fun h=>no h rfl,nd1:=fun h=>absurd rfl h,apc:=fun h=>no h rfl,low:=fun h=>no h rfl,adv:=fun h=>no h rfl,born:=fun h=>no h rfl,pool:=fun h=>no h rfl,an:=(by show slotI 0<=C.s; omega),rpc:=fun h=>no h rfl,rsp:=fun h=>no h rfl,re:=(by show (0:Int)<=0/\(0:Int)<=C.l; omega),gpc:=Nat.zero_le 3,give:=fun h=>no h rfl,ghu:=hu0,gh:=(by show slotI 0<=C.s; omega),gv:=fun h=>no h rfl }
theorem K0_ok (hC:COk C) {ds:List Dd} {d:Dd} (hd:ds.length<=B):KOk C ds B d K0 :=
 { t:=T0_ok hC hd,tp:=rfl,pc:=Nat.zero_le 8,da:=fun h=>absurd h (by decide),s1:=fun h=>no h rfl,s2:=fun h=>no h rfl,sp:=fun h=>absurd h (by decide),un:=fun h=>absurd h (by decide),ins:=fun h=>by rcases h with h | h<;>exact no h rfl,lk:=fun h=>no h rfl,ho:=fun h=>absurd rfl h,kk:=fun h=>no h rfl,nd:=fun h=>absurd rfl h }
theorem f0_ok (hC:COk C):OkF C f0/\LnkF C f0:=by
 have hs:=hC.s;have hl:=hC.l;have hz:slotI 0=0:=by decide
 refine ⟨⟨fun x=>?_,?_,fun i=>?_,?_⟩,⟨?_,fun i=>?_⟩⟩<;>unfold f0
 ·split<;>(unfold InU; omega)
 ·rw [if_neg (by decide)]; omega
 ·rw [if_neg (by simp)]; omega
 ·rw [if_pos rfl]; omega
 ·rw [if_neg (by decide)]; omega
 ·rw [if_neg (by simp)]; omega
end
theorem ok9:COk C9:=⟨by decide,by decide,by decide⟩
def vm (p cc m:Nat):Wm:=⟨p,cc,m,fun _=>False,fun _=>False,⟨0,0,0,0,0⟩,0,[]⟩
def tm0 (c q:Nat):Tm:={ thr:=0,c:=c,q:=q,u:=0,F:=fun _=>False,kq:=2,A:=none,rc:=0,N:=0,cr:=0,ro:=0,dA:=none,dn:=0,dc:=0,pa:=.pointer none,pb:=.pointer none,pr:=.pointer none,pq:=.pointer none,pg:=.pointer none,ph:=.pointer none }
theorem parse6 (v:World):Calls prog 26 #[.string ⟨#[6,0,0,0,0,0,0,0,0,0]⟩] v fun e w'=>e=.returned (.tuple #[.agg #[.int .i64 6,.bool false,.int .u64 0],.int .i64 0])/\Below v.heap.size v w':=by
 have h:=parseAYes_o [6,0,0,0,0,0,0,0,0,0] rfl (by decide) v;have h1:(([6,0,0,0,0,0,0,0,0,0]:List UInt8).getD 0 0).toNat=6:=by decide
 have h2:(([6,0,0,0,0,0,0,0,0,0]:List UInt8).getD 1 0).toNat=0:=by decide
 have h3:numN (subL [6,0,0,0,0,0,0,0,0,0] 2)=0:=by decide
 rw [h1,h2,h3] at h;exact h
theorem hop5:opL 3 5 0 0=[3,0,0,0,0,0,0,0,5,0,0,0,0,0,0,0,0,0]:=by decide +kernel
structure RunOk (Rn:Nat->Int × Kt × Mem):Prop where
 (r0:Rn 0=(0,beginK d20 K0,f0))
 (rs:∀ j,Rn (j+1)=opM C9 d20 (Rn j).2.1 (Rn j).2.2)
 (busy:∀ j,j < 12->(Rn j).1=0/\1<=(Rn j).2.1.pc/\(Rn j).2.1.pc<=7)
 (done:(Rn 12).1=1/\(Rn 12).2.1.err=0/\(Rn 12).2.1.dn=true)
def StepIs (C:Cf) (X:Tm) (V:Wm) (d:Dd) (o n:Nat) (qc:Cnt) (q:Int × Kt × Mem) (s:Int) (L':List Item):Prop :=
 s=q.1/\(∀ x,InU (q.2.2 x))/\∃ F' k' G' qc' n' ps',Nx n qc n' qc'/\(q.1=0->PM C X.c d q.2.1 o ps')/\(q.1≠0->∃ nx sp,ps'=[boxI o (opC X.c d.ok d.key d.val d.lv nx q.1 sp q.2.1.err q.2.1.dn)])/\L'=ps'++LT (SPK C { X with F:=F',kq:=k' } V q.2.1 q.2.2 G' qc' n') []
theorem awake_run (Rn:Nat->Int × Kt × Mem) (hr:RunOk Rn) (w:World) (hg:Glo w):Calls prog 20 #[] w fun o w'=>o=.returned (.bool true)/\Below w.heap.size w w':=by
 have hE:=Env.start w;have HG:=zH hg;have HC:=zH (show chkI 1 2 0 1 9=0 by decide);clear hg;go_enter func20,ntmps20;go_wp2_with fail;refine (new_w hE).mono ?_;rintro o w3 ⟨p,cc,rfl,hE3,hb⟩;clear hb hE;go_wp2_with fail;refine (start_w 0 1 (by decide) (by unfold maxLen; omega) hE3 rfl rfl).mono ?_;rintro o w4 ⟨rfl,F4,hE4⟩;simp only [zS,zZ] at hE4;clear hE3;generalize ({ l:=_,s:=_,w:=_,f:=_,a:=_ }:Cnt)=q4 at hE4;go_wp2_with fail;refine (newYes_c 1 2 0 1 9 HC.out hE4).mono ?_;rintro o w6 ⟨c,q,F,rfl,hE6⟩;clear hE4;go_wp2_with fail;refine (newYes_m 0 1 5 0 0 (by decide) (by decide) rfl hE6).mono ?_;rintro o w7 ⟨m,b5,b6,o,b1,b2,sb,rfl,hE7⟩;clear hE6;have hf0:upd (fun _=>0) (1,0,0) 1=(Rn 0).2.2:=by
  rw [hr.r0]
  funext x
  show _=f0 x;unfold upd f0
  by_cases hx:x=(1,0,0)<;>simp [hx]
 have hbk:(Rn 0).2.1={ findM K0 with T:={ K0.T with nd:=K0.T.nd+1 },err:=0,dn:=false }:=by rw [hr.r0]; show beginK d20 K0=_; unfold beginK; rw [if_neg (by decide)]
 have hE8:Env w (boxI m (opmC 1 5 0 0 (askC o) (cvP b5 b6) 0 0)::boxI b5 [mvI o]::boxI b6 [mvL 105 m]::([boxI o (opC c 1 5 0 0 (cvP b1 b2) 0 (.pointer (some ⟨sb,0,none⟩)) 0 false),boxI b1 [mvL 190 sb],boxI b2 [mvL 191 o],boxI sb (srC c 0 5 false (.pointer none))]++LT (SPK C9 { tm0 c q with F:=F,kq:=2 } (vm p cc 0) (Rn 0).2.1 (Rn 0).2.2 F4 q4 (0+1)) [])) w7:=by
  rw [<- hf0,hbk];exact hE7
 have HPM:Hid (PM C9 c d20 (Rn 0).2.1 o [boxI o (opC c 1 5 0 0 (cvP b1 b2) 0 (.pointer (some ⟨sb,0,none⟩)) 0 false),boxI b1 [mvL 190 sb],boxI b2 [mvL 191 o],boxI sb (srC c 0 5 false (.pointer none))]):=zH (by
  rw [hbk];exact ⟨b1,b2,_,_,_,[_],rfl,.inl ⟨rfl,sb,rfl,rfl,rfl,.inl ⟨rfl,rfl,.inl rfl⟩⟩⟩)
 have HKB:Hid (KOk C9 [d20] 4 d20 (Rn 0).2.1):=zH (by
  rw [hr.r0];exact (begin_keep ok9 (K0_ok (ds:=[d20]) (d:=d20) (B:=4) ok9 (by decide)) rfl (by decide) d20).1)
 have HF0:Hid (OkF C9 (Rn 0).2.2/\LnkF C9 (Rn 0).2.2):=zH (by rw [hr.r0]; exact f0_ok ok9);clear hE7 hf0 hbk;go_wp2_with fail
 go_loopw [5,6] (fun nv iv wr=>∃ (j B n k:Nat) (F G:Nat->Prop) (qc:Cnt) (ps:List Item),j<=11/\nv=.int .i64 j/\iv=.int .i64 j/\B<=4+j/\n<=2+j/\Hid (PM C9 c d20 (Rn j).2.1 o ps/\KOk C9 [d20] B d20 (Rn j).2.1)/\Hid (OkF C9 (Rn j).2.2/\LnkF C9 (Rn j).2.2)/\Env w (boxI m (opmC 1 5 0 0 (askC o) (cvP b5 b6) 0 (j:Int))::boxI b5 [mvI o]::boxI b6 [mvL 105 m]::(ps++LT (SPK C9 { tm0 c q with F:=F,kq:=k } (vm p cc 0) (Rn j).2.1 (Rn j).2.2 G qc n) [])) wr) (fun nv _ _=>12 - (intOf nv).toNat)
 case atStart=>exact ⟨0,4,0+1,2,F,F4,q4,_,by omega,rfl,rfl,by omega,by omega,zH ⟨HPM.out,HKB.out⟩,HF0,hE8⟩
 case round =>
  clear hE8 HPM HKB HF0;obtain ⟨j,B,n,k,F,G,qc,ps,hj,rfl,rfl,hB,hn,hP,hF,hE⟩:=hrel;have hby:=hr.busy j (by omega);have hb3:decide ((j:Int) < 30)=true:=by simp; omega
  have hkc:=hP.out.2.kc (n:=n) ok9 hF.out.1 hF.out.2 hby.2.1 hby.2.2 (by show InU 5/\InU 0; unfold InU; omega) (by omega) (by unfold maxLen; omega);have HST:=zH (step_m (o:=o) (.iface 28 (.pointer (some ⟨p,0,none⟩))) (StepIs C9 { tm0 c q with F:=F,kq:=k } (vm p cc 0) d20 o n qc (Rn (j+1))) ⟨by omega,by omega⟩ hE (fun v hv=>by
   refine (op_p (R:=[boxI m (opmC 1 5 0 0 (askC o) (cvP b5 b6) 0 ((j:Int)+1)),boxI b5 [mvI o],boxI b6 [mvL 105 m]]) (X:={ tm0 c q with F:=F,kq:=k }) (V:=vm p cc 0) (G:=G) (qc:=qc) hkc HG.out hP.out.1 (hv.perm (perm_of fun z=>by simp only [LT,List.count_append,List.count_cons,List.count_nil]; omega))).mono ?_;rintro e w1 ⟨s,rfl,hs⟩;rw [<- hr.rs j] at hs;obtain ⟨hs,F',k',G',qc',n',ps',hn',h0,h1,hE'⟩:=hs;exact ⟨s,_,rfl,⟨hs,fun x=>((hE'.perm List.perm_append_comm).cell 3 rfl).words.1 x,F',k',G',qc',n',ps',hn',h0,h1,rfl⟩,hE'.perm (perm_of fun z=>by simp only [LT,List.count_append,List.count_cons,List.count_nil]; omega)⟩))
  have HKE:=zH fun hu=>op_keep ok9 hF.out.1 hF.out.2 hP.out.2 hby.2.1 hby.2.2 hu;rw [<- hr.rs j] at HKE;clear hkc hby hP hF hE;go_wp2_with fail;refine HST.out.mono ?_;rintro e w9 ⟨s9,L9,rfl,⟨hs9,hu,F',k',G',qc',n',ps',⟨hn',-⟩,h0,h1,rfl⟩,hE'⟩;have hke:=HKE.out hu;clear HST HKE hu
  by_cases hlt:j < 11
  ·have h1s:=(hr.busy (j+1) (by omega)).1;rw [h1s] at hs9;subst hs9;rw [if_pos rfl] at hE' ⊢;have hk9:=hke.k;rw [if_pos h1s] at hk9;have HK:=zH (⟨h0 h1s,hk9⟩:_/\_);have HF:=zH (⟨hke.f,hke.l⟩:_/\_);clear h0 h1 h1s hk9 hke;go_wp2_with fail;exact ⟨⟨j+1,B+1,n',k',F',G',qc',ps',by omega,by simp,by simp,by omega,by omega,HK,HF,by simpa using hE'⟩,by simp [intOf]; omega⟩
  ·have hj11:j=11:=by omega
   subst hj11;have hdn:=hr.done;rw [hdn.1] at hs9;subst hs9;rw [if_neg (by decide)] at hE' ⊢;obtain ⟨nx,sp,rfl⟩:=h1 (by rw [hdn.1]; decide);rw [hdn.1,hdn.2.1,hdn.2.2] at hE';clear h0 hke hdn hlt hj hB hn;go_wp2_with fail;have HAN:=zH (answer_m (st:=1) (by decide) hE' (fun v hv=>answer_o (hv.get 3 rfl)));clear hE';refine HAN.out.mono ?_;rintro e w10 ⟨rfl,hE9⟩;clear HAN
   go_upto_region 11 with fail
   have hE10:=hE9.box w10.heap.size rfl [.int .i64 0,.bool true,.int .u64 0] 57;generalize w10.alloc _=w11 at *;generalize w10.heap.size=Z7 at *;have hby:=bytesYes_o 3 5 0 0 (by decide) (by decide) (by unfold InU; omega) (by unfold InU; omega) w11;rw [hop5] at hby;have HBY:=zH hby;clear hby hE9;go_wp2_with fail;refine HBY.out.mono ?_;rintro e w12 ⟨rfl,hb⟩;replace hE10:=hE10.over hb;clear hb HBY;go_wp2_with fail;refine (parse6 _).mono ?_;rintro e w13 ⟨rfl,hb⟩;replace hE10:=hE10.over hb;clear hb
   go_upto_region 13 with fail
   have hE11:=hE10.box w13.heap.size rfl [.int .i64 6,.bool false,.int .u64 0] 57;generalize w13.alloc _=w14 at *;generalize w13.heap.size=Z11 at *;clear hE10;go_wp2_with fail;refine (newNil_m 0 0 0 0 _).mono ?_;rintro e w15 ⟨rfl,hb⟩;replace hE11:=hE11.over hb;clear hb;have HSM:=zH (steps_m (hE11.sub (.cons _ (.cons _ (List.Sublist.refl _)))));have r11:=hE11.rule 0 rfl;have r7:=hE11.rule 1 rfl;have hb9:=hE11.below;have h12:(((11:Nat):Int)+1==12)=true:=by decide
   clear hE11;go_wp2_with fail;refine HSM.out.mono ?_;rintro e w16 ⟨rfl,rfl⟩;go_wp2_with fail
   trace_state
   go_ret;exact ⟨rfl,hb9⟩
theorem run_ok:RunOk run20:=⟨rfl,fun j=>rfl,busy20,done20⟩
theorem awake_m (w:World) (hg:Glo w):Calls prog 20 #[] w fun o w'=>o=.returned (.bool true)/\Below w.heap.size w w':=awake_run run20 run_ok w hg
end
section
open Go.ChangeShapes Go.WideShapes Go.ChangeAt Go.RowKit
section
variable {P:Program} {w:World}
theorem cell_lt {b o:Nat} {v:Value} (h:w.cell? ⟨b,o,none⟩=some v):b < w.heap.size:=by
 rcases Nat.lt_or_ge b w.heap.size with h' | h'
 ·exact h'
 ·simp [World.cell?,Array.getElem?_eq_none h'] at h
theorem laid_pair {n:String} {g:Nat} {t k:TypeId} {f0 f1:Field} {a b:Int} {r:List (String × DataW Unit)} {ps:List MemPlace}
  (h:DataW.LaidVars P w ((n,.agg [.lit (.int .i64 a),.lit (.int .i64 b)])::r) ps) (hg:P.globalNamed n=some g) (ht:(P.globals[g]?).map (·.type)=some t)
  (hs:P.underlying t=some (.struct #[f0,f1])) (hc:P.cellsOf t=2) (h0:f0.offset=0) (h1:f1.offset=1) (hk0:f0.type=k) (hk1:f1.type=k) (hk:P.cellsOf k=1) (hi:P.underlying k=some (.int .i64)) :
  w.cell? ⟨g,0,none⟩=some (.int .i64 a)/\w.cell? ⟨g,1,none⟩=some (.int .i64 b)/\∃ q,DataW.LaidVars P w r q:=by
 obtain ⟨g',t',cs,fuel,p,q,hg',ht',hv,hd,hr,-⟩:=h;obtain rfl:=Option.some.inj (hg.symm.trans hg');obtain rfl:=Option.some.inj (ht.symm.trans ht');obtain ⟨xs,m,-,hx,hl,hn,hel⟩:=DataW.trod_struct hs hd;have e0:=hel 0 f0 rfl;have e1:=hel 1 f1 rfl;rw [h0,hk0,hk] at e0;rw [h1,hk1,hk] at e1;obtain ⟨l⟩:=cs;rw [hc] at hl
 match l,hl,xs,hn,hx,e0,e1,hv with
 | [c0,c1],_,[x0,x1],_,hx,e0,e1,hv =>
  simp only [Prod.mk.injEq,List.map_cons,List.map_nil,DataW.agg.injEq,List.cons.injEq] at hx;obtain ⟨n0,s0,y0,-⟩:=DataW.trod_int hi (show DataW.trod _ P w 0 _ false m k [c0]=some x0 from e0);obtain ⟨n1,s1,y1,-⟩:=DataW.trod_int hi (show DataW.trod _ P w 0 _ false m k [c1]=some x1 from e1);simp at s0 s1;subst s0 s1;have k0:=hx.1.1;have k1:=hx.1.2.1;rw [y0] at k0;rw [y1] at k1;simp at k0 k1;subst k0 k1;exact ⟨by rw [World.var?_cell hg hv 0]; rfl,by rw [World.var?_cell hg hv 1]; rfl,q,hr⟩
end
def laid3:List (String × DataW Unit):=[("revenant/link.versionPart",Rows.laid_revenant_link_versionPart),("revenant/link.slotPart",Rows.laid_revenant_link_slotPart),("revenant/link.markPart",Rows.laid_revenant_link_markPart)]
theorem glo_of_laid {W:World} (h:laidMetH prog laid3 W):Glo W:=by
 rw [MakeChecks.laidMetH_plain _ _ _ (by kernel_rfl)] at h;obtain ⟨ps,h,-,-⟩:=h;obtain ⟨a0,a1,q1,h⟩:=laid_pair (g:=0) (t:=309) (k:=3) h (by kernel_rfl) (by kernel_rfl) Tryz.underlying309 (by kernel_rfl) rfl rfl rfl rfl (by kernel_rfl) Tryz.underlying3;obtain ⟨b0,b1,q2,h⟩:=laid_pair (g:=1) (t:=309) (k:=3) h (by kernel_rfl) (by kernel_rfl) Tryz.underlying309 (by kernel_rfl) rfl rfl rfl rfl (by kernel_rfl) Tryz.underlying3;obtain ⟨c0,c1,q3,h⟩:=laid_pair (g:=2) (t:=309) (k:=3) h (by kernel_rfl) (by kernel_rfl) Tryz.underlying309 (by kernel_rfl) rfl rfl rfl rfl (by kernel_rfl) Tryz.underlying3;exact ⟨⟨a0,a1⟩,⟨b0,b1⟩,⟨c0,c1⟩,cell_lt a0,cell_lt b0,cell_lt c0⟩
theorem door_met (os:Os) (args:Array Value):laidMetH prog laid3 ((World.doorLaid prog 24 os).forCall (fun _ _=>0) ⟨#[],args,[]⟩).memory :=
 laidMetH_of_parts3 (fuel:=8) (laidMet_of_run' 8 (by kernel_rfl) (by kernel_rfl)) (by kernel_rfl) (by kernel_rfl)
end
end Go.Proofs.YtffncfmciockmaaGreatDoor
