/- What is proved on the way to the statement, part 9: contracts of the functions, among other things in memory. -/
import Derived.Test.YtffncfmciockmaaGreatDoorO8
import Derived.LoopIn
import Derived.Test.YtffncfmciockmaaGreatDoorTie
import Derived.LaidMore
import Derived.Stop.Joined
import Derived.Deep.CutBlock
import Derived.Deep.CutRange
import Derived.WalkKit
import Derived.ProofKit
import Derived.OpenShut
import Derived.Deep.SlicePairs

open _root_.Go.Proofs.Tryz
set_option maxRecDepth 100000
set_option maxHeartbeats 25600000
namespace Go.Proofs.YtffncfmciockmaaGreatDoor
section
open Go.RowKit Go.Maps
structure KOut (C:Cf) (ds:List Dd) (B:Nat) (d:Dd) (K:Kt) (r:Int × Kt × Mem):Prop where
 (f:OkF C r.2.2)
 (l:LnkF C r.2.2)
 (nd:r.2.1.T.nd=K.T.nd)
 (k:KOk C ds B d { r.2.1 with pc:=if r.1=0 then r.2.1.pc else 0 })
section
variable {C:Cf} {ds:List Dd} {B:Nat} {T:Th} {d:Dd} {K:Kt} {f:Mem}
theorem search_memok (hF:OkF C f) (hS:LnkF C f) (hC:COk C) (key:Int) {on:Bool} {L:Lm} {e r:Int} (h:on=true->LaneOk C L) (hu:∀ x,InU ((searchM 0 key false ⟨on,L,e,r⟩ f).2.2 x)):OkF C (searchM 0 key false ⟨on,L,e,r⟩ f).2.2/\LnkF C (searchM 0 key false ⟨on,L,e,r⟩ f).2.2:=by
 have hs0:0<=C.s:=by have:=hC.s; omega
 by_cases ho:on=true
 ·rcases search_mem key (on:=on) (L:=L) (e:=e) (r:=r) (fun h9=>(h h9).at9) f with h9 | ⟨p,v,hp,h9,hv⟩
  ·rw [h9]; exact ⟨hF,hS⟩
  ·rw [h9] at hu ⊢;exact ⟨hF.updL hp hu,hS.upd (by rw [hv]; exact slot_word_le hs0 (h ho).sx)⟩
 ·have h9:(searchM 0 key false ⟨on,L,e,r⟩ f).2.2=f:=by unfold searchM; rw [if_neg ho]
  rw [h9]; exact ⟨hF,hS⟩
theorem search_e (hF:OkF C f) (hC:COk C) (key:Int) {on:Bool} {L:Lm} {e r:Int} (he:0<=e/\e<=C.l):0<=(searchM 0 key false ⟨on,L,e,r⟩ f).2.1.e/\(searchM 0 key false ⟨on,L,e,r⟩ f).2.1.e<=C.l:=by
 have h9:=epI_of (hF.u (1,0,0)) hF.ep hC.l.2;unfold searchM
 split
 ·exact he
 ·show 0<=epI (f (1,0,0))/\epI (f (1,0,0))<=C.l;rw [h9.1];exact ⟨h9.2,hF.ep⟩
theorem KOk.t0 (h:KOk C ds B d K) (hp:K.pc≠2/\K.pc≠7/\K.pc≠8):K.T.pc=0:=by
 have h9:=h.tp;rw [if_neg hp.1,if_neg hp.2.1,if_neg hp.2.2] at h9;exact h9
theorem KOk.hs0 (h:KOk C ds B d K) (hp:4<=K.pc\/K.pc=0):K.T.hs=0:=by
 by_cases h9:K.T.hs=0
 ·exact h9
 ·have:=(h.ho h9).1;omega
theorem KOk.again {B2:Nat} (h:KOk C ds B d K) (hT:OkT C ds B2 T) (h0:T.pc=0) (hh:T.hs≠0->d.ok=1) (hn:1<=T.nd) (h1:1<=K.pc) (h7:K.pc<=7):KOk C ds B2 d (findM { K with T:=T }):=by
 have hda:=h.da h1 h7;have hx:findM { K with T:=T }=⟨T,1,false,L0 (4,0,0),K.laid,K.on2,K.L2,0,false,K.r⟩:=by unfold findM; rw [<- hda.1,<- hda.2]
 rw [hx];exact KOk.find hT h0 hh hn false _ (fun h=>absurd h (by decide))
theorem KOk.more (h:KOk C ds B d K):KOk C ds (B+1) d K:={ h with t:=h.t.more }
theorem found_keep (hC:COk C) (h:KOk C ds B d { K with on:=false }) (h1:K.pc=1) (hL:SpotOk C K.L):(foundM C d K).2.T.nd=K.T.nd/\KOk C ds (B+1) d { (foundM C d K).2 with pc:=if (foundM C d K).1=0 then (foundM C d K).2.pc else 0 }:=by
 have h0:K.T.pc=0:=h.t0 ⟨by show K.pc≠2; omega,by show K.pc≠7; omega,by show K.pc≠8; omega⟩;have hn:1<=K.T.nd:=h.nd (by show K.pc≠0; omega);have hda:K.err=0/\K.dn=false:=h.da (by show 1<=K.pc; omega) (by show K.pc<=7; omega);unfold foundM
 by_cases hi:d.ok=1
 ·rw [if_pos hi]
  by_cases hf:K.L.fd=true
  ·rw [if_pos hf];exact ⟨rfl,KOk.fin (h.t.drop h0 hC) h0 rfl⟩
  ·rw [if_neg hf]
   by_cases hh:K.T.hs=0
   ·rw [if_pos hh]
    by_cases hD:decP K.T.ql K.T.e C.l=0
    ·rw [if_pos hD];exact ⟨rfl,KOk.fin h.t.more h0 hh⟩
    ·rw [if_neg hD];exact ⟨rfl,{ t:=(h.t.alloc hh hn hC hD).more,tp:=rfl,pc:=(by show 2<=8; decide),da:=fun _ _=>hda,s1:=fun h9=>no h9 rfl,s2:=fun h9=>no h9 rfl,sp:=fun h9=>absurd h9 (by show ¬ 3<=2; decide),un:=fun h9=>absurd h9 (by show ¬ 4<=2; decide),ins:=fun _=>hi,lk:=fun h9=>no h9 rfl,ho:=fun h9=>absurd hh h9,kk:=fun _=>.inl (by show decP K.T.ql K.T.e C.l<=10; rcases decP_in K.T.ql K.T.e C.l with h | h | h | h<;>omega),nd:=fun _=>hn }⟩
   ·rw [if_neg hh];exact ⟨rfl,{ t:=h.t.more,tp:=h0,pc:=(by show 3<=8; decide),da:=fun _ _=>hda,s1:=fun h9=>no h9 rfl,s2:=fun h9=>no h9 rfl,sp:=fun _ _=>hL,un:=fun h9=>absurd h9 (by show ¬ 4<=3; decide),ins:=fun _=>hi,lk:=fun _=>hh,ho:=fun _=>⟨.inr (.inr rfl),hi⟩,kk:=fun h9=>no h9 rfl,nd:=fun _=>hn }⟩
 ·rw [if_neg hi];have hh:K.T.hs=0:=by
   by_cases h9:K.T.hs=0
   ·exact h9
   ·exact absurd (h.ho h9).2 hi
  by_cases hd:d.ok=2/\K.L.fd=true
  ·rw [if_pos hd];have hfd:=hL.fd hd.2;exact ⟨rfl,{ t:=h.t.more,tp:=h0,pc:=(by show 4<=8; decide),da:=fun _ _=>hda,s1:=fun h9=>no h9 rfl,s2:=fun h9=>no h9 rfl,sp:=fun _ _=>hL,un:=fun _ _=>⟨hfd.2,hfd.1,hd.1⟩,ins:=fun h9=>by rcases h9 with h9 | h9<;>exact no h9 rfl,lk:=fun h9=>no h9 rfl,ho:=fun h9=>absurd hh h9,kk:=fun h9=>no h9 rfl,nd:=fun _=>hn }⟩
  ·rw [if_neg hd];exact ⟨rfl,KOk.fin h.t.more h0 hh⟩
theorem op1_keep (hC:COk C) (hF:OkF C f) (hS:LnkF C f) (h:KOk C ds B d K) (h1:K.pc=1) (hu:∀ x,InU ((opM C d K f).2.2 x)):KOut C ds (B+1) d K (opM C d K f):=by
 have h0:=h.t0 (by omega);have hn:=h.nd (by omega);have hda:=h.da (by omega) (by omega);have hho:K.T.hs≠0->d.ok=1:=fun h9=>(h.ho h9).2;have hk:=search_keep (key:=d.key) (e:=K.T.e) (r:=K.r) (h.s1 h1) hF.u hS (by have:=hC.s; omega);have he:=search_e hF hC d.key (on:=K.on) (L:=K.L) (r:=K.r) h.t.e;have hm:=search_memok hF hS hC d.key (e:=K.T.e) (r:=K.r) (h.s1 h1);unfold opM at hu ⊢;rw [if_pos h1] at hu ⊢;generalize hq:searchM 0 d.key false ⟨K.on,K.L,K.T.e,K.r⟩ f=q at *;dsimp only at hu ⊢;have hT:=h.t.epoch h0 he
 by_cases hq1:q.1=1
 ·rw [if_pos hq1] at hu ⊢;have hK:KOk C ds B d ⟨{ K.T with e:=q.2.1.e },K.pc,false,q.2.1.L,K.laid,K.on2,K.L2,K.err,K.dn,q.2.1.r⟩:=by
   rw [h1,hda.1,hda.2];exact KOk.find hT h0 hho hn false _ (fun h=>absurd h (by decide))
  have hf:=found_keep (K:={ K with on:=q.2.1.on,L:=q.2.1.L,r:=q.2.1.r,T:={ K.T with e:=q.2.1.e } }) hC hK h1 (hk.2 hq1);exact ⟨(hm hu).1,(hm hu).2,hf.1,hf.2⟩
 ·rw [if_neg hq1] at hu ⊢;have hq0:q.1=0:=by
   have:=search_state 0 d.key false ⟨K.on,K.L,K.T.e,K.r⟩ f;rw [hq] at this;omega
  refine ⟨(hm hu).1,(hm hu).2,rfl,?_⟩;show KOk C ds (B+1) d ⟨{ K.T with e:=q.2.1.e },K.pc,q.2.1.on,q.2.1.L,K.laid,K.on2,K.L2,K.err,K.dn,q.2.1.r⟩;rw [h1,hda.1,hda.2];exact KOk.find hT.more h0 hho hn _ _ (fun h=>hk.1 hq0 h)
theorem op2_keep (hC:COk C) (hF:OkF C f) (hS:LnkF C f) (h:KOk C ds B d K) (h1:K.pc=2) (hu:∀ x,InU ((opM C d K f).2.2 x)):KOut C ds (B+1) d K (opM C d K f):=by
 have h2:K.T.pc=2:=by have:=h.tp; rw [if_pos h1] at this; exact this
 have hn:=h.nd (by omega);have hda:=h.da (by omega) (by omega);have hi:=h.ins (.inl h1);have hact:=al_cases C d K.T f h2;have hA:=act2_ok (d:=d) hC hF h.t h2;have hkk:=allocM_kk (f:=f) (h.kk h1);have hhs:=allocM_hs (C:=C) (d:=d) (f:=f) (h.t.low h2);have hl:=allocM_lnk (d:=d) (T:=K.T) hS;have kp:=allocM_keep C d K.T f;have st:=allocM_state C d K.T f;rw [hact] at hA;unfold opM at hu ⊢;rw [if_neg (by omega),if_pos h1] at hu ⊢;generalize allocM C d K.T f=q at *;dsimp only at hu hA ⊢;have hdone:0<=q.2.1.done/\q.2.1.done<=((B+1:Nat):Int):=by
  have:=h.t.done;rw [kp.2.2.2.2.2.2.2.2.2.1];omega
 have hok:(∀ x,InU (q.2.2 x))->OkT C ds (B+1) { q.2.1 with pc:=0 }:=fun h9=>(hA h9).2.idle hdone
 rcases st with s | s | s | s | s
 ·rw [if_pos s] at hu ⊢;have ha:=hA hu;have hT:OkT C ds (B+1) q.2.1:=by
   have h9:=ha.2;rw [s] at h9;exact h9.same (by show 2=q.2.1.pc; rw [kp.2.2.1]; exact h2.symm) rfl hdone
  refine ⟨ha.1,hl,kp.2.1,?_⟩;show KOk C ds (B+1) d { K with T:=q.2.1 };exact { t:=hT,tp:=(by show q.2.1.pc=if K.pc=2 then 2 else _; rw [if_pos h1,kp.2.2.1]; exact h2),pc:=h.pc,da:=fun _ _=>hda,s1:=fun h9=>absurd (h1.symm.trans h9) (by decide),s2:=fun h9=>absurd (h1.symm.trans h9) (by decide),sp:=fun h9=>absurd (show 3<=K.pc from h9) (by omega),un:=fun h9=>absurd (show 4<=K.pc from h9) (by omega),ins:=fun _=>hi,lk:=fun h9=>absurd (h1.symm.trans h9) (by decide),ho:=fun _=>⟨.inr (.inl h1),hi⟩,kk:=fun _=>hkk s,nd:=fun _=>(by show 1<=q.2.1.nd; rw [kp.2.1]; exact hn) }
 ·rw [if_neg (by omega),if_neg (by omega),if_neg (by omega)] at hu ⊢;exact ⟨(hA hu).1,hl,kp.2.1,h.again (hok hu) rfl (fun _=>hi) (by show 1<=q.2.1.nd; rw [kp.2.1]; exact hn) (by omega) (by omega)⟩
 ·rw [if_neg (by omega),if_neg (by omega),if_neg (by omega)] at hu ⊢;exact ⟨(hA hu).1,hl,kp.2.1,h.again (hok hu) rfl (fun _=>hi) (by show 1<=q.2.1.nd; rw [kp.2.1]; exact hn) (by omega) (by omega)⟩
 ·rw [if_neg (by omega),if_pos s] at hu ⊢;exact ⟨(hA hu).1,hl,kp.2.1,KOk.fin (hok hu) rfl (hhs (.inl s))⟩
 ·rw [if_neg (by omega),if_neg (by omega),if_pos s] at hu ⊢;exact ⟨(hA hu).1,hl,kp.2.1,KOk.fin (hok hu) rfl (hhs (.inr (.inl s)))⟩
end
section
variable {C:Cf} {ds:List Dd} {B:Nat} {T:Th} {d:Dd} {K:Kt} {f:Mem}
theorem op3_keep (hC:COk C) (hF:OkF C f) (hS:LnkF C f) (h:KOk C ds B d K) (h1:K.pc=3) (hu:∀ x,InU ((opM C d K f).2.2 x)):KOut C ds (B+1) d K (opM C d K f):=by
 have h0:=h.t0 (by omega);have hn:=h.nd (by omega);have hda:=h.da (by omega) (by omega);have hsp:=h.sp (by omega) (by omega);have hi:=h.ins (.inr h1);have hs0:0<=C.s:=by have:=hC.s; omega
 have hsl:=slot_word_le (m:=false) (e:=K.T.e) hs0 h.t.hs.2;unfold opM at hu ⊢;rw [if_neg (by omega),if_neg (by omega),if_pos h1] at hu ⊢
 by_cases hl:K.laid=true
 ·rw [if_pos hl] at hu ⊢
  by_cases hx:f K.L.p=K.L.W
  ·rw [if_pos hx] at hu ⊢;exact ⟨hF.swfL hsp.at9 hu,hS.swf hsl,rfl,KOk.fin (h.t.noH h0 hC).more h0 rfl⟩
  ·rw [if_neg hx] at hu ⊢;exact ⟨hF.swfL hsp.at9 hu,hS.swf hsl,rfl,h.again h.t.more h0 (fun _=>hi) hn (by omega) (by omega)⟩
 ·rw [if_neg hl] at hu ⊢;refine ⟨hF.updL (.inr ⟨_,rfl⟩) hu,hS.upd (slot_word_le hs0 hsp.sw),rfl,?_⟩;show KOk C ds (B+1) d { K with laid:=true };have hm:=h.more;exact { t:=hm.t,tp:=hm.tp,pc:=hm.pc,da:=hm.da,s1:=hm.s1,s2:=hm.s2,sp:=hm.sp,un:=hm.un,ins:=hm.ins,lk:=hm.lk,ho:=hm.ho,kk:=hm.kk,nd:=hm.nd }
theorem op4_keep (hC:COk C) (hF:OkF C f) (hS:LnkF C f) (h:KOk C ds B d K) (h1:K.pc=4) (hu:∀ x,InU ((opM C d K f).2.2 x)):KOut C ds (B+1) d K (opM C d K f):=by
 have h0:=h.t0 (by omega);have hn:=h.nd (by omega);have hda:=h.da (by omega) (by omega);have hsp:=h.sp (by omega) (by omega);have hun:=h.un (by omega) (by omega);have hh:=h.hs0 (.inl (by omega));have hs0:0<=C.s:=by have:=hC.s; omega
 have hsl:slotI (markM K.L.X K.T.e)<=C.s:=slot_word_le hs0 hsp.sx;unfold opM at hu ⊢;rw [if_neg (by omega),if_neg (by omega),if_neg (by omega),if_pos h1] at hu ⊢
 by_cases hx:f (5,K.L.C,7)=K.L.X
 ·rw [if_pos hx] at hu ⊢;exact ⟨hF.swfL (.inr ⟨_,rfl⟩) hu,hS.swf hsl,rfl,{ t:=h.t.more,tp:=h0,pc:=(by show 5<=8; decide),da:=fun _ _=>hda,s1:=fun h9=>no h9 rfl,s2:=fun h9=>no h9 rfl,sp:=fun _ _=>hsp,un:=fun _ _=>hun,ins:=fun h9=>by rcases h9 with h9 | h9<;>exact no h9 rfl,lk:=fun h9=>no h9 rfl,ho:=fun h9=>absurd hh h9,kk:=fun h9=>no h9 rfl,nd:=fun _=>hn }⟩
 ·rw [if_neg hx] at hu ⊢;exact ⟨hF.swfL (.inr ⟨_,rfl⟩) hu,hS.swf hsl,rfl,h.again h.t.more h0 (fun h9=>absurd hh h9) hn (by omega) (by omega)⟩
theorem KOk.seven (h:KOk C ds B d K) (hC:COk C) (h4:4<=K.pc) (h7:K.pc<=7) (hT:OkT C ds B T) (hh:T.hs=0) (hn:1<=T.nd) {on2:Bool} {L2:Lm} {r:Int}:KOk C ds (B+1) d ⟨{ T with pc:=3,rs:=K.L.C,rpc:=0,re:=0 },7,K.on,K.L,K.laid,on2,L2,K.err,K.dn,r⟩:=by
 have hda:=h.da (by omega) h7;have hsp:=h.sp (by omega) h7;have hun:=h.un h4 h7;exact { t:=(hT.retire hn hC hun.2.1 hsp.cs).more,tp:=rfl,pc:=(by show 7<=8; decide),da:=fun _ _=>hda,s1:=fun h9=>no h9 rfl,s2:=fun h9=>no h9 rfl,sp:=fun _ _=>hsp,un:=fun _ _=>hun,ins:=fun h9=>by rcases h9 with h9 | h9<;>exact no h9 rfl,lk:=fun h9=>no h9 rfl,ho:=fun h9=>absurd hh h9,kk:=fun h9=>no h9 rfl,nd:=fun _=>hn }
theorem KOk.six (h:KOk C ds B d K) (h4:4<=K.pc) (h7:K.pc<=7) (hT:OkT C ds B T) (h0:T.pc=0) (hh:T.hs=0) (hn:1<=T.nd) {on2:Bool} {L2:Lm} {r:Int} (hL:on2=true->LaneOk C L2):KOk C ds (B+1) d ⟨T,6,K.on,K.L,K.laid,on2,L2,K.err,K.dn,r⟩:=by
 have hda:=h.da (by omega) h7;have hsp:=h.sp (by omega) h7;have hun:=h.un h4 h7;exact { t:=hT.more,tp:=h0,pc:=(by show 6<=8; decide),da:=fun _ _=>hda,s1:=fun h9=>no h9 rfl,s2:=fun _ h9=>hL h9,sp:=fun _ _=>hsp,un:=fun _ _=>hun,ins:=fun h9=>by rcases h9 with h9 | h9<;>exact no h9 rfl,lk:=fun h9=>no h9 rfl,ho:=fun h9=>absurd hh h9,kk:=fun h9=>no h9 rfl,nd:=fun _=>hn }
theorem op5_keep (hC:COk C) (hF:OkF C f) (hS:LnkF C f) (h:KOk C ds B d K) (h1:K.pc=5) (hu:∀ x,InU ((opM C d K f).2.2 x)):KOut C ds (B+1) d K (opM C d K f):=by
 have h0:=h.t0 (by omega);have hn:=h.nd (by omega);have hsp:=h.sp (by omega) (by omega);have hh:=h.hs0 (.inl (by omega));have hs0:0<=C.s:=by have:=hC.s; omega
 have hsl:=slot_word_le (m:=false) (e:=K.T.e) hs0 hsp.sx;unfold opM at hu ⊢;rw [if_neg (by omega),if_neg (by omega),if_neg (by omega),if_neg (by omega),if_pos h1] at hu ⊢
 by_cases hx:f K.L.p=K.L.W
 ·rw [if_pos hx] at hu ⊢;exact ⟨hF.swfL hsp.at9 hu,hS.swf hsl,rfl,h.seven hC (by omega) (by omega) h.t hh hn⟩
 ·rw [if_neg hx] at hu ⊢;exact ⟨hF.swfL hsp.at9 hu,hS.swf hsl,rfl,h.six (by omega) (by omega) h.t h0 hh hn (fun h=>absurd (show false=true from h) (by decide))⟩
theorem op6_keep (hC:COk C) (hF:OkF C f) (hS:LnkF C f) (h:KOk C ds B d K) (h1:K.pc=6) (hu:∀ x,InU ((opM C d K f).2.2 x)):KOut C ds (B+1) d K (opM C d K f):=by
 have h0:=h.t0 (by omega);have hn:=h.nd (by omega);have hh:=h.hs0 (.inl (by omega));have hk:=search_keep (key:=d.key) (e:=K.T.e) (r:=K.r) (h.s2 h1) hF.u hS (by have:=hC.s; omega);have he:=search_e hF hC d.key (on:=K.on2) (L:=K.L2) (r:=K.r) h.t.e;have hm:=search_memok hF hS hC d.key (e:=K.T.e) (r:=K.r) (h.s2 h1);unfold opM at hu ⊢;rw [if_neg (by omega),if_neg (by omega),if_neg (by omega),if_neg (by omega),if_neg (by omega),if_pos h1] at hu ⊢;generalize hq:searchM 0 d.key false ⟨K.on2,K.L2,K.T.e,K.r⟩ f=q at *;dsimp only at hu ⊢;have hT:=h.t.epoch h0 he
 by_cases hq1:q.1=1
 ·rw [if_pos hq1] at hu ⊢;exact ⟨(hm hu).1,(hm hu).2,rfl,h.seven hC (by omega) (by omega) hT hh hn⟩
 ·rw [if_neg hq1] at hu ⊢;have hq0:q.1=0:=by
   have:=search_state 0 d.key false ⟨K.on2,K.L2,K.T.e,K.r⟩ f;rw [hq] at this;omega
  refine ⟨(hm hu).1,(hm hu).2,rfl,?_⟩;show KOk C ds (B+1) d ⟨{ K.T with e:=q.2.1.e },K.pc,K.on,K.L,K.laid,q.2.1.on,q.2.1.L,K.err,K.dn,q.2.1.r⟩;rw [h1];exact h.six (by omega) (by omega) hT h0 hh hn (fun h=>hk.1 hq0 h)
theorem op7_keep (hC:COk C) (hF:OkF C f) (hS:LnkF C f) (h:KOk C ds B d K) (h1:K.pc=7) (hu:∀ x,InU ((opM C d K f).2.2 x)):KOut C ds (B+1) d K (opM C d K f):=by
 have h3:K.T.pc=3:=by have:=h.tp; rw [if_neg (by omega),if_pos h1] at this; exact this
 have hn:=h.nd (by omega);have hh:=h.hs0 (.inl (by omega));have hda:=h.da (by omega) (by omega);have hsp:=h.sp (by omega) (by omega);have hun:=h.un (by omega) (by omega);have hA:=act3_ok (d:=d) hC hF h.t h3;have hact:actM C d K.T f=({ (retireM K.T f).2.1 with pc:=if (retireM K.T f).1=0 then 3 else 0,full:=false },(retireM K.T f).2.2):=by
  unfold actM;rw [if_neg (by omega),if_neg (by omega),if_pos h3]
 have hl:=retireM_lnk (T:=K.T) hS;have kp:=retireM_keep (T:=K.T) (f:=f);rw [hact] at hA;unfold opM at hu ⊢;rw [if_neg (by omega),if_neg (by omega),if_neg (by omega),if_neg (by omega),if_neg (by omega),if_neg (by omega)] at hu ⊢;generalize retireM K.T f=q at *;dsimp only at hu hA ⊢;have hdone:0<=q.2.1.done/\q.2.1.done<=((B+1:Nat):Int):=by
  have:=h.t.done;rw [kp.2.2.1];omega
 rcases kp.2.2.2.2.2 with s | s
 ·rw [if_pos s] at hu ⊢;have ha:=hA hu;have hT:OkT C ds (B+1) q.2.1:=by
   have h9:=ha.2;rw [s] at h9;exact h9.same (by show 3=q.2.1.pc; rw [kp.2.2.2.2.1]; exact h3.symm) rfl hdone
  refine ⟨ha.1,hl,kp.2.1,?_⟩;show KOk C ds (B+1) d { K with T:=q.2.1 };exact { t:=hT,tp:=(by show q.2.1.pc=if K.pc=2 then 2 else if K.pc=7 then 3 else _; rw [if_neg (by omega),if_pos h1,kp.2.2.2.2.1]; exact h3),pc:=h.pc,da:=fun _ _=>hda,s1:=fun h9=>absurd (h1.symm.trans h9) (by decide),s2:=fun h9=>absurd (h1.symm.trans h9) (by decide),sp:=fun _ _=>hsp,un:=fun _ _=>hun,ins:=h.ins,lk:=fun h9=>absurd (h1.symm.trans h9) (by decide),ho:=fun h9=>absurd (kp.1.trans hh) h9,kk:=fun h9=>absurd (h1.symm.trans h9) (by decide),nd:=fun _=>(by show 1<=q.2.1.nd; rw [kp.2.1]; exact hn) }
 ·rw [if_neg (by omega)] at hu ⊢;exact ⟨(hA hu).1,hl,kp.2.1,KOk.fin ((hA hu).2.idle hdone) rfl (kp.1.trans hh)⟩
theorem op_keep (hC:COk C) (hF:OkF C f) (hS:LnkF C f) (h:KOk C ds B d K) (h1:1<=K.pc) (h7:K.pc<=7) (hu:∀ x,InU ((opM C d K f).2.2 x)):KOut C ds (B+1) d K (opM C d K f):=by
 rcases (show K.pc=1\/K.pc=2\/K.pc=3\/K.pc=4\/K.pc=5\/K.pc=6\/K.pc=7 by omega) with h9 | h9 | h9 | h9 | h9 | h9 | h9
 ·exact op1_keep hC hF hS h h9 hu
 ·exact op2_keep hC hF hS h h9 hu
 ·exact op3_keep hC hF hS h h9 hu
 ·exact op4_keep hC hF hS h h9 hu
 ·exact op5_keep hC hF hS h h9 hu
 ·exact op6_keep hC hF hS h h9 hu
 ·exact op7_keep hC hF hS h h9 hu
theorem begin_keep (hC:COk C) (h:KOk C ds B d K) (h0:K.pc=0) (hlt:K.T.nd < ds.length) (d2:Dd):KOk C ds B d2 (beginK d2 K)/\1<=(beginK d2 K).pc/\(beginK d2 K).T.nd=K.T.nd+1:=by
 have hh:=h.hs0 (.inr h0);have ht:=h.t0 (by omega);unfold beginK
 by_cases h8:d2.ok=8
 ·rw [if_pos h8];refine ⟨?_,by show 1<=8; decide,rfl⟩;exact { t:=h.t.begin4 hlt hC,tp:=rfl,pc:=Nat.le_refl 8,da:=fun _ h9=>absurd h9 (by show ¬ 8<=7; decide),s1:=fun h9=>no h9 rfl,s2:=fun h9=>no h9 rfl,sp:=fun _ h9=>absurd h9 (by show ¬ 8<=7; decide),un:=fun _ h9=>absurd h9 (by show ¬ 8<=7; decide),ins:=fun h9=>by rcases h9 with h9 | h9<;>exact no h9 rfl,lk:=fun h9=>no h9 rfl,ho:=fun h9=>absurd hh h9,kk:=fun h9=>no h9 rfl,nd:=fun _=>Nat.le_add_left 1 K.T.nd }
 ·rw [if_neg h8];exact ⟨KOk.find (h.t.begin0 hlt) ht (fun h9=>absurd hh h9) (Nat.le_add_left 1 K.T.nd) false _ (fun h=>absurd h (by decide)),Nat.le_refl 1,rfl⟩
end
section
variable {C:Cf} {ds:List Dd} {B:Nat} {T:Th} {d:Dd} {K:Kt} {f:Mem} {n:Nat}
theorem OkT.row (hC:COk C) (hT:OkT C ds B T) (hB:B+1<=1000000) (hn:n < maxLen) (hp:T.pc=2):RowOk C T n:=by
 have hl:=hC.l;have hs:=hC.s;refine ⟨by have:=hT.e; constructor<;>omega,hn,by have:=hT.len; omega,by constructor<;>omega,hT.w,hT.apc hp,fun h=>⟨hT.low hp (by omega),?_⟩,by have:=hT.hs; unfold In64; constructor<;>omega⟩
 rcases hq:T.ql with _ | ⟨⟨x,y,z⟩,t⟩
 ·exact absurd hq (hT.born hp h)
 ·have:=hT.ql (x,y,z) (by rw [hq]; simp);obtain ⟨h1,h2,rfl⟩:=this;exact ⟨x,y,t,rfl,h1,h2⟩
theorem KOk.kc (hC:COk C) (hF:OkF C f) (hS:LnkF C f) (h:KOk C ds B d K) (h1:1<=K.pc) (h7:K.pc<=7) (hd:InU d.key/\InU d.val) (hB:B+1<=1000000) (hn:n < maxLen):KcOk C d K f n:=by
 have hl:=hC.l;have hs:=hC.s;have hlen:=h.t.len;refine ⟨⟨h1,h7⟩,h.da h1 h7,hd,by omega,hn,h.s1,fun hp h9=>?_,fun hp=>h.t.row hC hB hn (by have:=h.tp; rw [if_pos hp] at this; exact this),by have:=h.t.hs; unfold In64; constructor<;>omega,h.lk,fun hp=>h.sp hp h7,fun hp=>⟨(h.un hp h7).1,h.hs0 (.inl hp)⟩,h.s2,fun hp=>?_⟩
 ·exact ((search_keep (key:=d.key) (e:=K.T.e) (r:=K.r) (h.s1 hp) hF.u hS (by omega)).2 h9).X
 ·have h3:K.T.pc=3:=by have:=h.tp; rw [if_neg (by omega),if_pos hp] at this; exact this
  have hre:=h.t.re;have hrs:=h.t.rs;exact ⟨by unfold InU; constructor<;>omega,by unfold In64; constructor<;>omega,h.t.rpc h3⟩
end
section
variable {C:Cf} {B:Nat}
theorem T0_ok (hC:COk C) {ds:List Dd} (hd:ds.length<=B):OkT C ds B T0:=by
 have hs:=hC.s;have hl:=hC.l;have hz:slotI 0=0:=by decide
 have hu0:InU 0:=by unfold InU; omega
 exact { e:=(by show (0:Int)<=0/\(0:Int)<=C.l; omega),w:=⟨hu0,hu0,hu0⟩,hs:=(by show (0:Int)<=0/\(0:Int)<=C.s; omega),rs:=(by show (0:Int)<=0/\(0:Int)<=C.s; omega),ql:=(by intro x hx; cases hx),nd:=Nat.zero_le _,len:=(by show 0+(ds.length - 0)<=B; omega),done:=(by show (0:Int)<=0/\(0:Int)<=B; omega),pc:=.inl rfl,p1:=fun h=>no h rfl,nd1:=fun h=>absurd rfl h,apc:=fun h=>no h rfl,low:=fun h=>no h rfl,adv:=fun h=>no h rfl,born:=fun h=>no h rfl,pool:=fun h=>no h rfl,an:=(by show slotI 0<=C.s; omega),rpc:=fun h=>no h rfl,rsp:=fun h=>no h rfl,re:=(by show (0:Int)<=0/\(0:Int)<=C.l; omega),gpc:=Nat.zero_le 3,give:=fun h=>no h rfl,ghu:=hu0,gh:=(by show slotI 0<=C.s; omega),gv:=fun h=>no h rfl }
theorem K0_ok (hC:COk C) {ds:List Dd} {d:Dd} (hd:ds.length<=B):KOk C ds B d K0 :=
 { t:=T0_ok hC hd,tp:=rfl,pc:=Nat.zero_le 8,da:=fun h=>absurd h (by decide),s1:=fun h=>no h rfl,s2:=fun h=>no h rfl,sp:=fun h=>absurd h (by decide),un:=fun h=>absurd h (by decide),ins:=fun h=>by rcases h with h | h<;>exact no h rfl,lk:=fun h=>no h rfl,ho:=fun h=>absurd rfl h,kk:=fun h=>no h rfl,nd:=fun h=>absurd rfl h }
theorem f0_ok (hC:COk C):OkF C f0/\LnkF C f0:=by
 have hs:=hC.s;have hl:=hC.l;have hz:slotI 0=0:=by decide
 refine ⟨⟨fun x=>?_,?_,fun i=>?_,?_⟩,⟨?_,fun i=>?_⟩⟩<;>unfold f0
 ·split<;>(unfold InU; omega)
 ·rw [if_neg (by decide)]; omega
 ·rw [if_neg (by simp)]; omega
 ·rw [if_pos rfl]; omega
 ·rw [if_neg (by decide)]; omega
 ·rw [if_neg (by simp)]; omega
end
theorem ok9:COk C9:=⟨by decide,by decide,by decide⟩
def vm (p cc m:Nat):Wm:=⟨p,cc,m,fun _=>False,fun _=>False,⟨0,0,0,0,0⟩,0,[]⟩
def tm0 (c q:Nat):Tm:={ thr:=0,c:=c,q:=q,u:=0,F:=fun _=>False,kq:=2,A:=none,rc:=0,N:=0,cr:=0,ro:=0,dA:=none,dn:=0,dc:=0,pa:=.pointer none,pb:=.pointer none,pr:=.pointer none,pq:=.pointer none,pg:=.pointer none,ph:=.pointer none }
theorem parse6 (v:World):Calls prog 26 #[.string ⟨#[6,0,0,0,0,0,0,0,0,0]⟩] v fun e w'=>e=.returned (.tuple #[.agg #[.int .i64 6,.bool false,.int .u64 0],.int .i64 0])/\Below v.heap.size v w':=by
 have h:=parseAYes_o [6,0,0,0,0,0,0,0,0,0] rfl (by decide) v;have h1:(([6,0,0,0,0,0,0,0,0,0]:List UInt8).getD 0 0).toNat=6:=by decide
 have h2:(([6,0,0,0,0,0,0,0,0,0]:List UInt8).getD 1 0).toNat=0:=by decide
 have h3:numN (subL [6,0,0,0,0,0,0,0,0,0] 2)=0:=by decide
 rw [h1,h2,h3] at h;exact h
theorem hop5:opL 3 5 0 0=[3,0,0,0,0,0,0,0,5,0,0,0,0,0,0,0,0,0]:=by decide +kernel
structure RunOk (Rn:Nat->Int × Kt × Mem):Prop where
 (r0:Rn 0=(0,beginK d20 K0,f0))
 (rs:∀ j,Rn (j+1)=opM C9 d20 (Rn j).2.1 (Rn j).2.2)
 (busy:∀ j,j < 12->(Rn j).1=0/\1<=(Rn j).2.1.pc/\(Rn j).2.1.pc<=7)
 (done:(Rn 12).1=1/\(Rn 12).2.1.err=0/\(Rn 12).2.1.dn=true)
def StepIs (C:Cf) (X:Tm) (V:Wm) (d:Dd) (o n:Nat) (qc:Cnt) (q:Int × Kt × Mem) (s:Int) (L':List Item):Prop :=
 s=q.1/\(∀ x,InU (q.2.2 x))/\∃ F' k' G' qc' n' ps',Nx n qc n' qc'/\(q.1=0->PM C X.c d q.2.1 o ps')/\(q.1≠0->∃ nx sp,ps'=[boxI o (opC X.c d.ok d.key d.val d.lv nx q.1 sp q.2.1.err q.2.1.dn)])/\L'=ps'++LT (SPK C { X with F:=F',kq:=k' } V q.2.1 q.2.2 G' qc' n') []
theorem awake_run (Rn:Nat->Int × Kt × Mem) (hr:RunOk Rn) (w:World) (hg:Glo w):Calls prog 20 #[] w fun o w'=>o=.returned (.bool true)/\Below w.heap.size w w':=by
 have hE:=Env.start w;have HG:=zH hg;have HC:=zH (show chkI 1 2 0 1 9=0 by decide);clear hg;go_enter func20,ntmps20;go_wp2_with fail;refine (new_w hE).mono ?_;rintro o w3 ⟨p,cc,rfl,hE3,hb⟩;clear hb hE;go_wp2_with fail;refine (start_w 0 1 (by decide) (by unfold maxLen; omega) hE3 rfl rfl).mono ?_;rintro o w4 ⟨rfl,F4,hE4⟩;simp only [zS,zZ] at hE4;clear hE3;generalize ({ l:=_,s:=_,w:=_,f:=_,a:=_ }:Cnt)=q4 at hE4;go_wp2_with fail;refine (newYes_c 1 2 0 1 9 HC.out hE4).mono ?_;rintro o w6 ⟨c,q,F,rfl,hE6⟩;clear hE4;go_wp2_with fail;refine (newYes_m 0 1 5 0 0 (by decide) (by decide) rfl hE6).mono ?_;rintro o w7 ⟨m,b5,b6,o,b1,b2,sb,rfl,hE7⟩;clear hE6;have hf0:upd (fun _=>0) (1,0,0) 1=(Rn 0).2.2:=by
  rw [hr.r0]
  funext x
  show _=f0 x;unfold upd f0
  by_cases hx:x=(1,0,0)<;>simp [hx]
 have hbk:(Rn 0).2.1={ findM K0 with T:={ K0.T with nd:=K0.T.nd+1 },err:=0,dn:=false }:=by rw [hr.r0]; show beginK d20 K0=_; unfold beginK; rw [if_neg (by decide)]
 have hE8:Env w (boxI m (opmC 1 5 0 0 (askC o) (cvP b5 b6) 0 0)::boxI b5 [mvI o]::boxI b6 [mvL 105 m]::([boxI o (opC c 1 5 0 0 (cvP b1 b2) 0 (.pointer (some ⟨sb,0,none⟩)) 0 false),boxI b1 [mvL 190 sb],boxI b2 [mvL 191 o],boxI sb (srC c 0 5 false (.pointer none))]++LT (SPK C9 { tm0 c q with F:=F,kq:=2 } (vm p cc 0) (Rn 0).2.1 (Rn 0).2.2 F4 q4 (0+1)) [])) w7:=by
  rw [<- hf0,hbk];exact hE7
 have HPM:Hid (PM C9 c d20 (Rn 0).2.1 o [boxI o (opC c 1 5 0 0 (cvP b1 b2) 0 (.pointer (some ⟨sb,0,none⟩)) 0 false),boxI b1 [mvL 190 sb],boxI b2 [mvL 191 o],boxI sb (srC c 0 5 false (.pointer none))]):=zH (by
  rw [hbk];exact ⟨b1,b2,_,_,_,[_],rfl,.inl ⟨rfl,sb,rfl,rfl,rfl,.inl ⟨rfl,rfl,.inl rfl⟩⟩⟩)
 have HKB:Hid (KOk C9 [d20] 4 d20 (Rn 0).2.1):=zH (by
  rw [hr.r0];exact (begin_keep ok9 (K0_ok (ds:=[d20]) (d:=d20) (B:=4) ok9 (by decide)) rfl (by decide) d20).1)
 have HF0:Hid (OkF C9 (Rn 0).2.2/\LnkF C9 (Rn 0).2.2):=zH (by rw [hr.r0]; exact f0_ok ok9);clear hE7 hf0 hbk;go_wp2_with fail
 go_loopw [5,6] (fun nv iv wr=>∃ (j B n k:Nat) (F G:Nat->Prop) (qc:Cnt) (ps:List Item),j<=11/\nv=.int .i64 j/\iv=.int .i64 j/\B<=4+j/\n<=2+j/\Hid (PM C9 c d20 (Rn j).2.1 o ps/\KOk C9 [d20] B d20 (Rn j).2.1)/\Hid (OkF C9 (Rn j).2.2/\LnkF C9 (Rn j).2.2)/\Env w (boxI m (opmC 1 5 0 0 (askC o) (cvP b5 b6) 0 (j:Int))::boxI b5 [mvI o]::boxI b6 [mvL 105 m]::(ps++LT (SPK C9 { tm0 c q with F:=F,kq:=k } (vm p cc 0) (Rn j).2.1 (Rn j).2.2 G qc n) [])) wr) (fun nv _ _=>12 - (intOf nv).toNat)
 case atStart=>exact ⟨0,4,0+1,2,F,F4,q4,_,by omega,rfl,rfl,by omega,by omega,zH ⟨HPM.out,HKB.out⟩,HF0,hE8⟩
 case round =>
  clear hE8 HPM HKB HF0;obtain ⟨j,B,n,k,F,G,qc,ps,hj,rfl,rfl,hB,hn,hP,hF,hE⟩:=hrel;have hby:=hr.busy j (by omega);have hb3:decide ((j:Int) < 30)=true:=by simp; omega
  have hkc:=hP.out.2.kc (n:=n) ok9 hF.out.1 hF.out.2 hby.2.1 hby.2.2 (by show InU 5/\InU 0; unfold InU; omega) (by omega) (by unfold maxLen; omega);have HST:=zH (step_m (o:=o) (.iface 28 (.pointer (some ⟨p,0,none⟩))) (StepIs C9 { tm0 c q with F:=F,kq:=k } (vm p cc 0) d20 o n qc (Rn (j+1))) ⟨by omega,by omega⟩ hE (fun v hv=>by
   refine (op_p (R:=[boxI m (opmC 1 5 0 0 (askC o) (cvP b5 b6) 0 ((j:Int)+1)),boxI b5 [mvI o],boxI b6 [mvL 105 m]]) (X:={ tm0 c q with F:=F,kq:=k }) (V:=vm p cc 0) (G:=G) (qc:=qc) hkc HG.out hP.out.1 (hv.perm (perm_of fun z=>by simp only [LT,List.count_append,List.count_cons,List.count_nil]; omega))).mono ?_;rintro e w1 ⟨s,rfl,hs⟩;rw [<- hr.rs j] at hs;obtain ⟨hs,F',k',G',qc',n',ps',hn',h0,h1,hE'⟩:=hs;exact ⟨s,_,rfl,⟨hs,fun x=>((hE'.perm List.perm_append_comm).cell 3 rfl).words.1 x,F',k',G',qc',n',ps',hn',h0,h1,rfl⟩,hE'.perm (perm_of fun z=>by simp only [LT,List.count_append,List.count_cons,List.count_nil]; omega)⟩))
  have HKE:=zH fun hu=>op_keep ok9 hF.out.1 hF.out.2 hP.out.2 hby.2.1 hby.2.2 hu;rw [<- hr.rs j] at HKE;clear hkc hby hP hF hE;go_wp2_with fail;refine HST.out.mono ?_;rintro e w9 ⟨s9,L9,rfl,⟨hs9,hu,F',k',G',qc',n',ps',⟨hn',-⟩,h0,h1,rfl⟩,hE'⟩;have hke:=HKE.out hu;clear HST HKE hu
  by_cases hlt:j < 11
  ·have h1s:=(hr.busy (j+1) (by omega)).1;rw [h1s] at hs9;subst hs9;rw [if_pos rfl] at hE' ⊢;have hk9:=hke.k;rw [if_pos h1s] at hk9;have HK:=zH (⟨h0 h1s,hk9⟩:_/\_);have HF:=zH (⟨hke.f,hke.l⟩:_/\_);clear h0 h1 h1s hk9 hke;go_wp2_with fail;exact ⟨⟨j+1,B+1,n',k',F',G',qc',ps',by omega,by simp,by simp,by omega,by omega,HK,HF,by simpa using hE'⟩,by simp [intOf]; omega⟩
  ·have hj11:j=11:=by omega
   subst hj11;have hdn:=hr.done;rw [hdn.1] at hs9;subst hs9;rw [if_neg (by decide)] at hE' ⊢;obtain ⟨nx,sp,rfl⟩:=h1 (by rw [hdn.1]; decide);rw [hdn.1,hdn.2.1,hdn.2.2] at hE';clear h0 hke hdn hlt hj hB hn;go_wp2_with fail;have HAN:=zH (answer_m (st:=1) (by decide) hE' (fun v hv=>answer_o (hv.get 3 rfl)));clear hE';refine HAN.out.mono ?_;rintro e w10 ⟨rfl,hE9⟩;clear HAN
   go_upto_region 11 with fail
   have hE10:=hE9.box w10.heap.size rfl [.int .i64 0,.bool true,.int .u64 0] 57;generalize w10.alloc _=w11 at *;generalize w10.heap.size=Z7 at *;have hby:=bytesYes_o 3 5 0 0 (by decide) (by decide) (by unfold InU; omega) (by unfold InU; omega) w11;rw [hop5] at hby;have HBY:=zH hby;clear hby hE9;go_wp2_with fail;refine HBY.out.mono ?_;rintro e w12 ⟨rfl,hb⟩;replace hE10:=hE10.over hb;clear hb HBY;go_wp2_with fail;refine (parse6 _).mono ?_;rintro e w13 ⟨rfl,hb⟩;replace hE10:=hE10.over hb;clear hb
   go_upto_region 13 with fail
   have hE11:=hE10.box w13.heap.size rfl [.int .i64 6,.bool false,.int .u64 0] 57;generalize w13.alloc _=w14 at *;generalize w13.heap.size=Z11 at *;clear hE10;go_wp2_with fail;refine (newNil_m 0 0 0 0 _).mono ?_;rintro e w15 ⟨rfl,hb⟩;replace hE11:=hE11.over hb;clear hb;have HSM:=zH (steps_m (hE11.sub (.cons _ (.cons _ (List.Sublist.refl _)))));have r11:=hE11.rule 0 rfl;have r7:=hE11.rule 1 rfl;have hb9:=hE11.below;have h12:(((11:Nat):Int)+1==12)=true:=by decide
   clear hE11;go_wp2_with fail;refine HSM.out.mono ?_;rintro e w16 ⟨rfl,rfl⟩;go_wp2_with fail
   go_ret;exact ⟨rfl,hb9⟩
theorem run_ok:RunOk run20:=⟨rfl,fun j=>rfl,busy20,done20⟩
theorem awake_m (w:World) (hg:Glo w):Calls prog 20 #[] w fun o w'=>o=.returned (.bool true)/\Below w.heap.size w w':=awake_run run20 run_ok w hg
end
end Go.Proofs.YtffncfmciockmaaGreatDoor
namespace Go.Proofs.YtffncfmciockmaaGreatDoor.Ord4
section
open Go Go.RowKit Go.Proofs.YtffncfmciockmaaGreatDoor.Ord Go.Proofs.YtffncfmciockmaaGreatDoor.Ord3
section
variable {P:Program} {ops:Array Oper} {Q:Exit->Act->World->Prop} {md:Region.Mode} {vs:List (Value->Prop)} {ds:List (Nat × (Value->World->Prop))} {C:World->Prop}
def Grow (C:World->Prop) (ds:List (Nat × (Value->World->Prop))) (l:Array Bool) (ρ:Nat->Value) (w:World):Prop:=C w/\∀ q∈ds,l.getD q.1 false=true->q.2 (ρ q.1) w
def Stays (ds:List (Nat × (Value->World->Prop))):Prop:=∀ q∈ds,∀ v w w',Below w.heap.size w w'->q.2 v w->q.2 v w'
def In (P:Program) (md:Region.Mode) (ops:Array Oper) (Q:Exit->Act->World->Prop) (vs:List (Value->Prop)) (ds:List (Nat × (Value->World->Prop))) (C:World->Prop) (k:Nat) (rest:List Oper) (κ:Nat->Value) (a:Act):Prop :=
 Ord3.InText P md ops Q (VS vs) (Grow C ds) k rest κ a
theorem grow_set {l:Array Bool} {ρ:Nat->Value} {k:Nat} {v:Value} {w w':World} (hs:Stays ds) (h:Grow C ds l ρ w) (hC:C w') (hb:Below w.heap.size w w') (hk:∀ q∈ds,q.1=k->q.2 v w'):Grow C ds (l.setIfInBounds k true) (up ρ k v) w':=by
 refine ⟨hC,fun q hq hl=>?_⟩
 by_cases e:q.1=k
 ·unfold up;rw [if_pos e];exact hk q hq e
 ·unfold up;rw [if_neg e];exact hs q hq _ _ _ hb (h.2 q hq ((listed_set hl).resolve_left e))
theorem wp_grow (vs:List (Value->Prop)) (ds:List (Nat × (Value->World->Prop))) (C:World->Prop) {id:Nat} {a:Act} {w:World} (hm:P.follows .mixedOrders=true) (hf:textFits .any ops=true) (hC:C w.drew)
  (h:textFits .any ops=true->In P .any ops Q vs ds C 0 ops.toList (fun _=>undef) a):(Code.region id ops true).wp P Q a w:=by
 refine wp_ord (fun _=>undef) hm hf ⟨hC,fun q hq hl=>?_⟩ h
 exfalso
 rw [Array.getD_eq_getD_getElem?] at hl
 rcases Nat.lt_or_ge q.1 ops.size with h1 | h1
 ·have h2:=firstK_get ops.size 0 q.1 h1;rw [Array.getD_eq_getD_getElem?] at h2;rw [h2] at hl;simp at hl
 ·rw [Array.getElem?_eq_none (by simpa [Ord.firstK] using h1)] at hl;simp at hl
theorem in_value {k:Nat} {o:Oper} {rest:List Oper} {a:Act} {v:Value} {κ:Nat->Value} (hs:Stays ds) (hf:textFits md ops=true) (hk:(ds.all fun q=>q.1 != k)=true) (hvs:vs[k]?=some fun u=>u=v) (hw:Region.wanted o (yielded ops a.tmps)=true) (hv:∀ w,C w->(execOp a.eval o).run P w=.ok (.value v) w)
  (h:In P md ops Q vs ds C (k+1) rest (up κ k v) (a.put o.dst v)):In P md ops Q vs ds C k (o::rest) κ a :=
 Ord3.InText.cons hf v ⟨_,hvs,rfl⟩ (Or.inl ⟨hw,fun l ρ w hr _ _ hS=>by
  rw [hv w hS.1];exact ⟨⟨_,hvs,rfl⟩,grow_set hs hS hS.1 (Below.refl _ _) fun q hq e=>by
   have:=List.all_eq_true.1 hk q hq;simp [e] at this⟩⟩)
  fun u ⟨p,hp,hu⟩=>by
   rw [hvs] at hp;cases hp;rw [hu];exact h
theorem in_off {k:Nat} {o:Oper} {rest:List Oper} {a:Act} {κ:Nat->Value} (hs:Stays ds) (hf:textFits md ops=true) (hk:(ds.all fun q=>q.1 != k)=true) (hvs:vs[k]?=some fun u=>u=undef) (hw:Region.wanted o (yielded ops a.tmps)=false)
  (h:In P md ops Q vs ds C (k+1) rest (up κ k undef) (a.put o.dst undef)):In P md ops Q vs ds C k (o::rest) κ a :=
 Ord3.InText.cons hf undef ⟨_,hvs,rfl⟩ (Or.inr ⟨hw,⟨_,hvs,rfl⟩,fun l ρ w hr hS=>grow_set hs hS hS.1 (Below.refl _ _) fun q hq e=>by
   have:=List.all_eq_true.1 hk q hq;simp [e] at this⟩)
  fun u ⟨p,hp,hu⟩=>by
   rw [hvs] at hp;cases hp;rw [hu];exact h
theorem in_turn {k:Nat} {o:Oper} {rest:List Oper} {a:Act} {κ:Nat->Value} (p:Value->Prop) (v0:Value) (hv0:p v0) (bs:List Nat) (hs:Stays ds) (hf:textFits md ops=true) (hbs:(bs.all fun b=>hangs md ops k b && decide (b < k))=true) (hks:k < ops.size) (hvs:vs[k]?=some p) (hw:Region.wanted o (yielded ops a.tmps)=true)
  (hv:∀ w,C w->(∀ b∈bs,∀ q∈ds,q.1=b->q.2 (κ b) w)->Lands P (fun v w'=>p v/\C w'/\Below w.heap.size w w'/\∀ q∈ds,q.1=k->q.2 v w') ((execOp a.eval o).run P w))
  (h:∀ v,p v->In P md ops Q vs ds C (k+1) rest (up κ k v) (a.put o.dst v)):In P md ops Q vs ds C k (o::rest) κ a :=
 Ord3.InText.cons hf v0 ⟨p,hvs,hv0⟩ (Or.inl ⟨hw,fun l ρ w hr _ hagree hS=>by
  refine (hv w hS.1 fun b hb q hq e=>?_).mono fun v w' ⟨hp,hC',hb',hq'⟩=>⟨⟨p,hvs,hp⟩,grow_set hs hS hC' hb' hq'⟩;have h1:=List.all_eq_true.1 hbs b hb;rw [Bool.and_eq_true,decide_eq_true_eq] at h1;have hl:=hangs_listed h1.1 hr;have hρ:=hagree b (by rw [firstK_get _ _ _ (by omega)]; simpa using h1.2) hl;subst e;rw [<- hρ];exact hS.2 q hq hl⟩)
  fun v ⟨p',hp',hpv⟩=>by
   rw [hvs] at hp';cases hp';exact h v hpv
theorem in_nil {a:Act} {κ:Nat->Value} (hd:(ds.all fun q=>decide (q.1 < ops.size))=true) (h:∀ w,C w->(∀ q∈ds,q.2 (κ q.1) w)->Q .normal a w) {k:Nat}:In P md ops Q vs ds C k [] κ a :=
 Ord3.InText.nil fun w hS=>h w hS.1 fun q hq=>hS.2 q hq (by
  have:=List.all_eq_true.1 hd q hq;rw [firstK_get _ _ _ (by simpa using this)]
  simpa using this)
end
end
end Go.Proofs.YtffncfmciockmaaGreatDoor.Ord4
namespace Go.Proofs.YtffncfmciockmaaGreatDoor
section
open Go.RowKit
theorem madeI (z:Value) (hz:z.cells=#[z]) (n:Nat):madeCells z.cells (n * 1)=(List.replicate n z).toArray:=by
 apply Array.ext
 ·simp [size_madeCells]
 ·intro i h1 h2;simp only [madeCells,hz,Array.getElem_map,Array.getElem_range,List.getElem_toArray,List.getElem_replicate,List.size_toArray,List.length_cons,List.length_nil];simp [Nat.mod_one]
end
section
open Go.RowKit Go.Maps
theorem digN_cons (n w:Nat):digN (n+1) w=UInt8.ofNat (w / 256 ^ n % 256)::digN n w:=by
 induction n generalizing w with
 | zero=>simp [digN]
 | succ n ih =>
  rw [digN,ih,digN];show _::_++_=_;rw [List.cons_append,Nat.div_div_eq_div_mul,Nat.pow_succ,Nat.mul_comm]
def bufL (x k:Nat):List UInt8:=List.replicate (8 - k) 0++digN k x
theorem bufL_length (x k:Nat) (h:k<=8):(bufL x k).length=8:=by simp [bufL,digN_length]; omega
theorem bufL_set (x k:Nat) (h:k < 8):(bufL x k).set (7 - k) (UInt8.ofNat (x / 256 ^ k % 256))=bufL x (k+1):=by
 unfold bufL;rw [digN_cons];have h1:List.replicate (8 - k) (0:UInt8)=List.replicate (7 - k) 0++[0]:=by
  rw [<- List.replicate_succ']
  congr 1
  omega
 rw [h1,List.append_assoc,List.set_append_right _ _ (by simp),List.length_replicate,Nat.sub_self];have h2:8 - (k+1)=7 - k:=by omega
 rw [h2];rfl
theorem run_makeB {P:Program} (t e:TypeId) (ht:P.underlying t=some (.slice e)) (hinfo:(P.info? e).map (fun i=>(i.zero,i.size,i.bytes))=some (some (Value.int .u8 0),1,1))
  (kl kc:IntKind) (n:Nat) (hn:n<=1099511627776) (w:World) :
  (Instr.makeSlice t (.int kl (n:Int)) (.int kc (n:Int))).run P w=.ok (.slice (some ⟨w.heap.size,0,none⟩) n n) (w.alloc (.cells (List.replicate n (Value.int .u8 0)).toArray e)):=by
 obtain ⟨i,hi,hzz⟩:=Option.map_eq_some_iff.1 hinfo;simp only [Prod.mk.injEq] at hzz;obtain ⟨hz0,hs,hb⟩:=hzz;have hr:=run_make (P:=P) w t e i (Value.int .u8 0) ht hi hz0 kl kc n n (by omega) (Int.le_refl _) (by rw [hb]; omega) (by omega);simp only [Int.toNat_natCast,hs,madeI (Value.int .u8 0) rfl] at hr;exact hr
def cellsB (l:List UInt8):List Value:=l.map fun b=>.int .u8 (b.toNat:Int)
section
variable {w0 w:World} {L:List Item}
theorem word_r (x:Int) (hx:InU x) (w:World) :
  Calls prog 63 #[.int .u64 x] w fun e w'=>e=.returned (.string ⟨(wordL x).toArray⟩)/\Below w.heap.size w w':=by
 obtain ⟨X,rfl⟩:=Int.eq_ofNat_of_zero_le hx.1;have hE:=(Env.start w).box w.heap.size rfl (cellsB (bufL X 0)) 5;have hmk:∀ v:World,(Instr.makeSlice 140 (.int .i64 8) (.int .i64 8)).run prog v=.ok (.slice (some ⟨v.heap.size,0,none⟩) 8 8) (v.alloc (.cells (cellsB (bufL X 0)).toArray 5)):=fun v=>run_makeB (P:=prog) 140 5 Tryz.underlying140 infoB .i64 .i64 8 (by omega) v;have HX:=zH hx.2;clear hx;go_enter func63,ntmps63;go_wp2_with fail;clear hmk;generalize w.alloc _=w2 at *;generalize w.heap.size=Z at *
 go_loopw [0,4] (fun v iv wr=>∃ k:Nat,k<=8/\v=.int .u64 ((X / 256 ^ k:Nat):Int)/\iv=.int .i64 (7 - (k:Int))/\Env w [boxI Z (cellsB (bufL X k))] wr) (fun _ iv _=>(intOf iv+1).toNat)
 case atStart=>exact ⟨0,by omega,by simp,rfl,hE⟩
 case round =>
  obtain ⟨k,hk,rfl,rfl,hEr⟩:=hrel;clear hE
  by_cases hlt:k < 8
  ·have hb1:decide ((0:Int)<=7 - (k:Int))=true:=by simp; omega
   have hb2:(0:Int)<=7 - (k:Int):=by omega
   have hb3:(7 - (k:Int)) < 8:=by omega
   have hsub:wrap64 (7 - (k:Int) - 1)=7 - ((k+1:Nat):Int):=by rw [w64 _ (by omega)]; omega
   obtain ⟨j,hj⟩:∃ j:Nat,j=7 - k:=⟨_,rfl⟩;have hjk:7 - (k:Int)=(j:Int):=by omega
   have hlen:(cellsB (bufL X k)).length=8:=by unfold cellsB; rw [List.length_map]; exact bufL_length X k hk
   have hr:∃ u,wr.cell? ⟨Z,j,none⟩=some u:=⟨_,(hEr.rule 0 rfl j).trans (List.getElem?_eq_getElem (by omega))⟩;obtain ⟨u9,hr⟩:=hr;have hf:=hEr.thaw 0 rfl j (by omega);have hP:=hEr.put 0 rfl (j:=j) (by omega) (.int .u8 ((UInt8.ofNat (X / 256 ^ k % 256)).toNat:Int));have hset:(cellsB (bufL X k)).set j (.int .u8 ((UInt8.ofNat (X / 256 ^ k % 256)).toNat:Int))=cellsB (bufL X (k+1)):=by
    rw [<- bufL_set X k hlt,hj];unfold cellsB;rw [List.map_set]
   simp only [zZ,hset] at hP;have hXk:X / 256 ^ k<=18446744073709551615:=Nat.le_trans (Nat.div_le_self _ _) (by have:=HX.out; omega);obtain ⟨x9,hx9⟩:∃ x9,X / 256 ^ k=x9:=⟨_,rfl⟩;have hnx:X / 256 ^ (k+1)=x9 / 256:=by rw [<- hx9,Nat.div_div_eq_div_mul,Nat.pow_succ]
   rw [hx9] at hP hXk ⊢;rw [hjk] at hb1 hb2 hb3 hsub ⊢;have hbt:(x9:Int) % 256=((UInt8.ofNat (x9 % 256)).toNat:Int):=by
    rw [toNat_ofNat _ (Nat.mod_lt _ (by decide))];rfl
   rw [<- hbt] at hP;have hdv:IntKind.u64.wrap ((x9:Int) / 256)=((x9 / 256:Nat):Int):=by
    rw [IntKind.wrap_u64];omega
   have HDV:=zH hdv;have HNX:=zH hnx;have HJK:=zH hjk;clear hEr hlen hset hnx hx9 hjk hXk hj hbt hdv;go_wp2_with fail;have hj9:=HJK.out;exact ⟨⟨k+1,hlt,by rw [HDV.out,HNX.out],by congr 1; omega,hP⟩,by simp [intOf]⟩
  ·have hke:k=8:=by omega
   subst hke;have hb1:decide ((0:Int)<=7 - ((8:Nat):Int))=false:=by decide
   have hcv:(convert 140 9 (.slice (some ⟨Z,0,none⟩) 8 8)).run prog wr=.ok (.string ⟨(bufL X 8).toArray⟩) wr:=by
    have hl:=bufL_length X 8 (by omega);have:=run_convert_bytes_back (P:=prog) wr 140 9 5 ⟨Z,0,none⟩ 8 (bufL X 8) Tryz.underlying140 Tryz.underlying5 Tryz.underlying9 fun j hj=>by
     have h1:=hEr.rule 0 rfl j;have e:(⟨Z,0,none⟩:Addr).add j=⟨Z,j,none⟩:=by unfold Addr.add; split<;>simp_all
     rw [e,h1];unfold cellsB;rw [List.getElem?_map,List.getElem?_eq_getElem hj];rfl
    rw [hl] at this;exact this
   have hb9:=hEr.below;clear hEr;go_wp2_with fail;go_ret;exact ⟨rfl,hb9⟩
def RowIs (l:List UInt8) (u:Value) (w:World):Prop:=∃ g,u=.slice (some ⟨g,0,none⟩) l.length l.length/\g < w.heap.size/\∀ j (h:j < l.length),w.cell? ⟨g,j,none⟩=some (.int .u8 ((l[j]'h).toNat:Int))
theorem RowIs.stays {l:List UInt8} {u:Value} {w w':World} (hb:Below w.heap.size w w') (h:RowIs l u w):RowIs l u w':=by
 obtain ⟨g,he,hg,hc⟩:=h;exact ⟨g,he,Nat.lt_of_lt_of_le hg hb.size,fun j hj=>by rw [hb.cell (p:=⟨g,j,none⟩) hg]; exact hc j hj⟩
theorem RowIs.new (l:List UInt8) (w:World):RowIs l (.slice (some ⟨w.heap.size,0,none⟩) l.length l.length) (w.alloc (.cells (cellsB l).toArray 5)):=by
 refine ⟨w.heap.size,rfl,by simp,fun j hj=>?_⟩;have h1:=(Blk.new 0 w (cellsB l) 5).rule j;rw [h1];unfold cellsB;rw [List.getElem?_map,List.getElem?_eq_getElem hj];rfl
theorem RowIs.conv {l:List UInt8} {u:Value} {w:World} (h:RowIs l u w):(convert 140 9 u).run prog w=.ok (.string ⟨l.toArray⟩) w:=by
 obtain ⟨g,rfl,hg,hc⟩:=h;refine run_convert_bytes_back w 140 9 5 ⟨g,0,none⟩ l.length l Tryz.underlying140 Tryz.underlying5 Tryz.underlying9 fun j hj=>?_;have e:(⟨g,0,none⟩:Addr).add j=⟨g,j,none⟩:=by unfold Addr.add; split<;>simp_all
 rw [e];exact hc j hj
theorem text_add (a b:List UInt8):(⟨a.toArray⟩:ByteArray)++⟨b.toArray⟩=⟨(a++b).toArray⟩:=by
 apply ByteArray.ext;simp
theorem text_size (a:List UInt8):(⟨a.toArray⟩:ByteArray).size=a.length:=by simp [ByteArray.size]
theorem bytesNo_r (kd key val lv:Int) (h:byB kd=false\/byB lv=false) (w:World) :
  Calls prog 22 #[.agg #[.int .i64 kd,.int .u64 key,.int .u64 val,.int .i64 lv]] w fun e w'=>e=.returned (.tuple #[.string ⟨#[]⟩,.bool false])/\Below w.heap.size w w':=by
 have hF:=(Fr.start w).push w.heap.size rfl [.int .i64 kd,.int .u64 key,.int .u64 val,.int .i64 lv] 51;have r:=hF.rule 0 rfl;have hB:=hF.below;clear hF
 by_cases c1:kd < 0
 ·have b1:decide (kd < 0)=true:=by simpa using c1
  clear h c1;go_enter func22,ntmps22;go_wp2_with fail;exact bodyPost_ret (by simp [results,results22,go_sem]) rfl ⟨rfl,hB⟩
 have b1:decide (kd < 0)=false:=by simpa using c1
 by_cases c2:255 < kd
 ·have b2:decide (255 < kd)=true:=by simpa using c2
  clear h c1 c2;go_enter func22,ntmps22;go_wp2_with fail;exact bodyPost_ret (by simp [results,results22,go_sem]) rfl ⟨rfl,hB⟩
 have b2:decide (255 < kd)=false:=by simpa using c2
 have hl:byB lv=false:=by
  rcases h with h | h
  ·unfold byB at h; simp at h; omega
  ·exact h
 by_cases c3:lv < 0
 ·have b3:decide (lv < 0)=true:=by simpa using c3
  clear h c1 c2 c3 hl;go_enter func22,ntmps22;go_wp2_with fail;exact bodyPost_ret (by simp [results,results22,go_sem]) rfl ⟨rfl,hB⟩
 have b3:decide (lv < 0)=false:=by simpa using c3
 have b4:decide (255 < lv)=true:=by unfold byB at hl; simp at hl ⊢; omega
 clear h c1 c2 c3 hl;go_enter func22,ntmps22;go_wp2_with fail;exact bodyPost_ret (by simp [results,results22,go_sem]) rfl ⟨rfl,hB⟩
theorem bytesYes_r (kd key val lv:Int) (h1:byB kd=true) (h2:byB lv=true) (hk:InU key) (hv:InU val) (w:World) :
  Calls prog 22 #[.agg #[.int .i64 kd,.int .u64 key,.int .u64 val,.int .i64 lv]] w fun e w'=>e=.returned (.tuple #[.string ⟨(opL kd key val lv).toArray⟩,.bool true])/\Below w.heap.size w w':=by
 have hE:=(Env.start w).box w.heap.size rfl [.int .i64 kd,.int .u64 key,.int .u64 val,.int .i64 lv] 51;have r:=hE.rule 0 rfl;have c1:0<=kd/\kd<=255:=by simpa [byB] using h1
 have c2:0<=lv/\lv<=255:=by simpa [byB] using h2
 have b1:decide (kd < 0)=false:=by simp; omega
 have b2:decide (255 < kd)=false:=by simp; omega
 have b3:decide (lv < 0)=false:=by simp; omega
 have b4:decide (255 < lv)=false:=by simp; omega
 have hw1:IntKind.u8.wrap kd=((UInt8.ofNat kd.toNat).toNat:Int):=by
  rw [toNat_ofNat _ (by omega),wrap_u8_small (by omega) (by omega)]; omega
 have hw2:IntKind.u8.wrap lv=((UInt8.ofNat lv.toNat).toNat:Int):=by
  rw [toNat_ofNat _ (by omega),wrap_u8_small (by omega) (by omega)]; omega
 have HW1:=zH hw1;have HW2:=zH hw2;have HWK:=zH fun v=>word_r key hk v;have HWV:=zH fun v=>word_r val hv v;have hlk:=wordL_length key;have hlv:=wordL_length val;obtain ⟨a1,ha1⟩:∃ b,UInt8.ofNat kd.toNat=b:=⟨_,rfl⟩;obtain ⟨a2,ha2⟩:∃ b,UInt8.ofNat lv.toNat=b:=⟨_,rfl⟩;have HO:Hid (opL kd key val lv=[a1]++wordL key++wordL val++[a2]):=zH (by unfold opL; rw [ha1,ha2]; simp);rw [ha1] at HW1;rw [ha2] at HW2;clear hw1 hw2 ha1 ha2 c1 c2 h1 h2 hk hv;generalize wordL key=lk at *;generalize wordL val=lw at *;go_enter func22,ntmps22
 go_upto_region 3 with fail
 generalize w.alloc _=w2 at *;generalize w.heap.size=Y at *;clear r b1 b2 b3 b4;have HST:Hid (Ord4.Stays [(3,RowIs [a1]),(16,RowIs [a2])]):=zH fun q hq v w w' hb h=>by
  simp only [List.mem_cons,List.not_mem_nil,or_false] at hq
  rcases hq with rfl | rfl<;>exact RowIs.stays hb h
 refine Ord4.wp_grow [?_,?_,?_,?_,?_,?_,?_,?_,?_,?_,?_,?_,?_,?_,?_,?_,?_,?_,?_,?_,?_] [(3,RowIs [a1]),(16,RowIs [a2])] (fun v=>Env w [boxI Y [.int .i64 kd,.int .u64 key,.int .u64 val,.int .i64 lv]] v) (by kernel_rfl) (by kernel_rfl) hE.drew (fun hT=>?_);rotate_left 21;have hT9:=zH hT;clear hT
 repeat ((first
  | (focus (refine Ord4.in_value (v:=?_) HST.out hT9.o (by rfl) ?_ (by rfl) ?_ ?_; rotate_left 2; (intro w5 hS; have r:=hS.rule 0 rfl; go_simp<;>rfl); rotate_right; (focus rfl)))
  | (focus (refine Ord4.in_off HST.out hT9.o (by rfl) ?_ (by rfl) ?_; (focus rfl))));try simp only [Act.put,zA,zZ,zS])
 refine Ord4.in_turn (fun u=>∃ g,u=.slice (some ⟨g,0,none⟩) 1 1) _ ⟨0,rfl⟩ [] HST.out hT9.o (by kernel_rfl) (by decide) ?_ (by rfl) ?_ ?_
 ·rfl
 ·intro w7 hC7 _;go_simp;simp only [Ord3.Lands];rw [HW1.out];exact ⟨⟨_,rfl⟩,(hC7.box w7.heap.size rfl [.int .u8 (a1.toNat:Int)] 5).sub (.cons _ (List.Sublist.refl _)),(Below.refl _ _).alloc (Nat.le_refl _) _,RowIs.new [a1] w7⟩
 rintro _ ⟨g3,rfl⟩
 try simp only [Act.put,zA,zZ,zS]
 repeat ((first
  | (focus (refine Ord4.in_value (v:=?_) HST.out hT9.o (by rfl) ?_ (by rfl) ?_ ?_; rotate_left 2; (intro w5 hS; have r:=hS.rule 0 rfl; go_simp<;>rfl); rotate_right; (focus rfl)))
  | (focus (refine Ord4.in_off HST.out hT9.o (by rfl) ?_ (by rfl) ?_; (focus rfl))));try simp only [Act.put,zA,zZ,zS])
 refine Ord4.in_turn (fun u=>u=.string ⟨[a1].toArray⟩) _ rfl [3] HST.out hT9.o (by kernel_rfl) (by decide) ?_ (by rfl) ?_ ?_
 ·rfl
 ·intro w7 hC7 hb7;have hR:RowIs [a1] (.slice (some ⟨g3,0,none⟩) 1 1) w7:=hb7 3 (by simp) (3,RowIs [a1]) (by simp) rfl;have hcv:=hR.conv;go_simp
  (try simp only [Ord3.Lands])
  exact ⟨trivial,hC7,Below.refl _ _⟩
 rintro _ rfl
 try simp only [Act.put,zA,zZ,zS]
 repeat ((first
  | (focus (refine Ord4.in_value (v:=?_) HST.out hT9.o (by rfl) ?_ (by rfl) ?_ ?_; rotate_left 2; (intro w5 hS; have r:=hS.rule 0 rfl; go_simp<;>rfl); rotate_right; (focus rfl)))
  | (focus (refine Ord4.in_off HST.out hT9.o (by rfl) ?_ (by rfl) ?_; (focus rfl))));try simp only [Act.put,zA,zZ,zS])
 refine Ord4.in_turn (fun u=>u=.string ⟨lk.toArray⟩) _ rfl [] HST.out hT9.o (by kernel_rfl) (by decide) ?_ (by rfl) ?_ ?_
 ·rfl
 ·intro w7 hC7 hb7;go_simp;simp only [Ord3.Lands];refine (HWK.out _).mono ?_;rintro e w8 ⟨rfl,hb8⟩;exact ⟨_,rfl,rfl,hC7.over hb8,hb8⟩
 rintro _ rfl
 try simp only [Act.put,zA,zZ,zS]
 repeat ((first
  | (focus (refine Ord4.in_value (v:=?_) HST.out hT9.o (by rfl) ?_ (by rfl) ?_ ?_; rotate_left 2; (intro w5 hS; have r:=hS.rule 0 rfl; go_simp<;>rfl); rotate_right; (focus rfl)))
  | (focus (refine Ord4.in_off HST.out hT9.o (by rfl) ?_ (by rfl) ?_; (focus rfl))));try simp only [Act.put,zA,zZ,zS])
 refine Ord4.in_turn (fun u=>u=.string ⟨lw.toArray⟩) _ rfl [] HST.out hT9.o (by kernel_rfl) (by decide) ?_ (by rfl) ?_ ?_
 ·rfl
 ·intro w7 hC7 hb7;go_simp;simp only [Ord3.Lands];refine (HWV.out _).mono ?_;rintro e w8 ⟨rfl,hb8⟩;exact ⟨_,rfl,rfl,hC7.over hb8,hb8⟩
 rintro _ rfl
 try simp only [Act.put,zA,zZ,zS]
 repeat ((first
  | (focus (refine Ord4.in_value (v:=?_) HST.out hT9.o (by rfl) ?_ (by rfl) ?_ ?_; rotate_left 2; (intro w5 hS; have r:=hS.rule 0 rfl; go_simp<;>rfl); rotate_right; (focus rfl)))
  | (focus (refine Ord4.in_off HST.out hT9.o (by rfl) ?_ (by rfl) ?_; (focus rfl))));try simp only [Act.put,zA,zZ,zS])
 refine Ord4.in_turn (fun u=>∃ g,u=.slice (some ⟨g,0,none⟩) 1 1) _ ⟨0,rfl⟩ [] HST.out hT9.o (by kernel_rfl) (by decide) ?_ (by rfl) ?_ ?_
 ·rfl
 ·intro w7 hC7 hb7;go_simp;simp only [Ord3.Lands];rw [HW2.out];exact ⟨⟨_,rfl⟩,(hC7.box w7.heap.size rfl [.int .u8 (a2.toNat:Int)] 5).sub (.cons _ (List.Sublist.refl _)),(Below.refl _ _).alloc (Nat.le_refl _) _,RowIs.new [a2] w7⟩
 rintro _ ⟨g6,rfl⟩
 try simp only [Act.put,zA,zZ,zS]
 repeat ((first
  | (focus (refine Ord4.in_value (v:=?_) HST.out hT9.o (by rfl) ?_ (by rfl) ?_ ?_; rotate_left 2; (intro w5 hS; have r:=hS.rule 0 rfl; go_simp<;>rfl); rotate_right; (focus rfl)))
  | (focus (refine Ord4.in_off HST.out hT9.o (by rfl) ?_ (by rfl) ?_; (focus rfl))));try simp only [Act.put,zA,zZ,zS])
 refine Ord4.in_turn (fun u=>u=.string ⟨[a2].toArray⟩) _ rfl [16] HST.out hT9.o (by kernel_rfl) (by decide) ?_ (by rfl) ?_ ?_
 ·rfl
 ·intro w7 hC7 hb7;have hR:RowIs [a2] (.slice (some ⟨g6,0,none⟩) 1 1) w7:=hb7 16 (by simp) (16,RowIs [a2]) (by simp) rfl;have hcv:=hR.conv;go_simp
  (try simp only [Ord3.Lands])
  exact ⟨trivial,hC7,Below.refl _ _⟩
 rintro _ rfl
 try simp only [Act.put,zA,zZ,zS]
 repeat ((first
  | (focus (refine Ord4.in_value (v:=?_) HST.out hT9.o (by rfl) ?_ (by rfl) ?_ ?_; rotate_left 2; (intro w5 hS; have r:=hS.rule 0 rfl; go_simp<;>rfl); rotate_right; (focus rfl)))
  | (focus (refine Ord4.in_off HST.out hT9.o (by rfl) ?_ (by rfl) ?_; (focus rfl))));try simp only [Act.put,zA,zZ,zS])
 refine Ord4.in_nil (by rfl) ?_;intro w9 hC9 _;clear hT9;have hb9:=hC9.below;go_wp2_with fail;exact bodyPost_ret (v:=.tuple #[.string (⟨[a1].toArray⟩++⟨lk.toArray⟩++⟨lw.toArray⟩++⟨[a2].toArray⟩),.bool true]) (by simp [results,results22,go_sem]) rfl ⟨by rw [HO.out,text_add,text_add,text_add],hb9⟩
theorem ansNo_r (er val:Int) (dn:Bool) (h:byB er=false) (w:World) :
  Calls prog 24 #[.agg #[.int .i64 er,.bool dn,.int .u64 val]] w fun e w'=>e=.returned (.tuple #[.string ⟨#[]⟩,.bool false])/\Below w.heap.size w w':=by
 have hF:=(Fr.start w).push w.heap.size rfl [.int .i64 er,.bool dn,.int .u64 val] 57;have r:=hF.rule 0 rfl;have hB:=hF.below;clear hF
 by_cases c1:er < 0
 ·have b1:decide (er < 0)=true:=by simpa using c1
  clear h c1;go_enter func24,ntmps24;go_wp2_with fail;exact bodyPost_ret (by simp [results,results24,go_sem]) rfl ⟨rfl,hB⟩
 have b1:decide (er < 0)=false:=by simpa using c1
 have b2:decide (255 < er)=true:=by unfold byB at h; simp at h ⊢; omega
 clear h c1;go_enter func24,ntmps24;go_wp2_with fail;exact bodyPost_ret (by simp [results,results24,go_sem]) rfl ⟨rfl,hB⟩
theorem ansYes_r (er val:Int) (dn:Bool) (h1:byB er=true) (hv:InU val) (w:World) :
  Calls prog 24 #[.agg #[.int .i64 er,.bool dn,.int .u64 val]] w fun e w'=>e=.returned (.tuple #[.string ⟨(ansL er dn val).toArray⟩,.bool true])/\Below w.heap.size w w':=by
 have hE:=(Env.start w).box w.heap.size rfl [.int .i64 er,.bool dn,.int .u64 val] 57;have r:=hE.rule 0 rfl;have c1:0<=er/\er<=255:=by simpa [byB] using h1
 have b1:decide (er < 0)=false:=by simp; omega
 have b2:decide (255 < er)=false:=by simp; omega
 have hw1:IntKind.u8.wrap er=((UInt8.ofNat er.toNat).toNat:Int):=by
  rw [toNat_ofNat _ (by omega),wrap_u8_small (by omega) (by omega)]; omega
 have HW1:=zH hw1;have HWV:=zH fun v=>word_r val hv v;have hlv:=wordL_length val;obtain ⟨a1,ha1⟩:∃ b,UInt8.ofNat er.toNat=b:=⟨_,rfl⟩;have HO:Hid (ansL er dn val=[a1,UInt8.ofNat dn.toNat]++wordL val):=zH (by unfold ansL; rw [ha1]; rfl);rw [ha1] at HW1;clear hw1 ha1 c1 h1 hv;generalize wordL val=lw at *;cases dn
 ·go_enter func24,ntmps24
  go_upto_region 6 with fail
  generalize w.alloc _=w2 at *;generalize w.heap.size=Y at *;clear r b1 b2;have HST:Hid (Ord4.Stays [(4,RowIs [a1,0])]):=zH fun q hq v w w' hb h=>by
   simp only [List.mem_cons,List.not_mem_nil,or_false] at hq;subst hq;exact RowIs.stays hb h
  refine Ord4.wp_grow [?_,?_,?_,?_,?_,?_,?_,?_,?_,?_,?_,?_] [(4,RowIs [a1,0])] (fun v=>Env w [boxI Y [.int .i64 er,.bool false,.int .u64 val]] v) (by kernel_rfl) (by kernel_rfl) hE.drew (fun hT=>?_);rotate_left 12;have hT9:=zH hT;clear hT
  repeat ((first
   | (focus (refine Ord4.in_value (v:=?_) HST.out hT9.o (by rfl) ?_ (by rfl) ?_ ?_; rotate_left 2; (intro w5 hS; have r:=hS.rule 0 rfl; go_simp<;>rfl); rotate_right; (focus rfl)))
   | (focus (refine Ord4.in_off HST.out hT9.o (by rfl) ?_ (by rfl) ?_; (focus rfl))));try simp only [Act.put,zA,zZ,zS])
  refine Ord4.in_turn (fun u=>∃ g,u=.slice (some ⟨g,0,none⟩) 2 2) _ ⟨0,rfl⟩ [] HST.out hT9.o (by kernel_rfl) (by decide) ?_ (by rfl) ?_ ?_
  ·rfl
  ·intro w7 hC7 hb7;go_simp;simp only [Ord3.Lands];rw [HW1.out];exact ⟨⟨_,rfl⟩,(hC7.box w7.heap.size rfl [.int .u8 (a1.toNat:Int),.int .u8 0] 5).sub (.cons _ (List.Sublist.refl _)),(Below.refl _ _).alloc (Nat.le_refl _) _,RowIs.new [a1,0] w7⟩
  rintro _ ⟨g3,rfl⟩
  try simp only [Act.put,zA,zZ,zS]
  repeat ((first
   | (focus (refine Ord4.in_value (v:=?_) HST.out hT9.o (by rfl) ?_ (by rfl) ?_ ?_; rotate_left 2; (intro w5 hS; have r:=hS.rule 0 rfl; go_simp<;>rfl); rotate_right; (focus rfl)))
   | (focus (refine Ord4.in_off HST.out hT9.o (by rfl) ?_ (by rfl) ?_; (focus rfl))));try simp only [Act.put,zA,zZ,zS])
  refine Ord4.in_turn (fun u=>u=.string ⟨[a1,0].toArray⟩) _ rfl [4] HST.out hT9.o (by kernel_rfl) (by decide) ?_ (by rfl) ?_ ?_
  ·rfl
  ·intro w7 hC7 hb7;have hR:RowIs [a1,0] (.slice (some ⟨g3,0,none⟩) 2 2) w7:=hb7 4 (by simp) (4,RowIs [a1,0]) (by simp) rfl;have hcv:=hR.conv;go_simp
   (try simp only [Ord3.Lands])
   exact ⟨trivial,hC7,Below.refl _ _⟩
  rintro _ rfl
  try simp only [Act.put,zA,zZ,zS]
  repeat ((first
   | (focus (refine Ord4.in_value (v:=?_) HST.out hT9.o (by rfl) ?_ (by rfl) ?_ ?_; rotate_left 2; (intro w5 hS; have r:=hS.rule 0 rfl; go_simp<;>rfl); rotate_right; (focus rfl)))
   | (focus (refine Ord4.in_off HST.out hT9.o (by rfl) ?_ (by rfl) ?_; (focus rfl))));try simp only [Act.put,zA,zZ,zS])
  refine Ord4.in_turn (fun u=>u=.string ⟨lw.toArray⟩) _ rfl [] HST.out hT9.o (by kernel_rfl) (by decide) ?_ (by rfl) ?_ ?_
  ·rfl
  ·intro w7 hC7 hb7;go_simp;simp only [Ord3.Lands];refine (HWV.out _).mono ?_;rintro e w8 ⟨rfl,hb8⟩;exact ⟨_,rfl,rfl,hC7.over hb8,hb8⟩
  rintro _ rfl
  try simp only [Act.put,zA,zZ,zS]
  repeat ((first
   | (focus (refine Ord4.in_value (v:=?_) HST.out hT9.o (by rfl) ?_ (by rfl) ?_ ?_; rotate_left 2; (intro w5 hS; have r:=hS.rule 0 rfl; go_simp<;>rfl); rotate_right; (focus rfl)))
   | (focus (refine Ord4.in_off HST.out hT9.o (by rfl) ?_ (by rfl) ?_; (focus rfl))));try simp only [Act.put,zA,zZ,zS])
  refine Ord4.in_nil (by rfl) ?_;intro w9 hC9 _;clear hT9;have hb9:=hC9.below;go_wp2_with fail;exact bodyPost_ret (v:=.tuple #[.string (⟨[a1,0].toArray⟩++⟨lw.toArray⟩),.bool true]) (by simp [results,results24,go_sem]) rfl ⟨by rw [HO.out,text_add]; rfl,hb9⟩
 ·go_enter func24,ntmps24
  go_upto_region 6 with fail
  generalize w.alloc _=w2 at *;generalize w.heap.size=Y at *;clear r b1 b2;have HST:Hid (Ord4.Stays [(4,RowIs [a1,1])]):=zH fun q hq v w w' hb h=>by
   simp only [List.mem_cons,List.not_mem_nil,or_false] at hq;subst hq;exact RowIs.stays hb h
  refine Ord4.wp_grow [?_,?_,?_,?_,?_,?_,?_,?_,?_,?_,?_,?_] [(4,RowIs [a1,1])] (fun v=>Env w [boxI Y [.int .i64 er,.bool true,.int .u64 val]] v) (by kernel_rfl) (by kernel_rfl) hE.drew (fun hT=>?_);rotate_left 12;have hT9:=zH hT;clear hT
  repeat ((first
   | (focus (refine Ord4.in_value (v:=?_) HST.out hT9.o (by rfl) ?_ (by rfl) ?_ ?_; rotate_left 2; (intro w5 hS; have r:=hS.rule 0 rfl; go_simp<;>rfl); rotate_right; (focus rfl)))
   | (focus (refine Ord4.in_off HST.out hT9.o (by rfl) ?_ (by rfl) ?_; (focus rfl))));try simp only [Act.put,zA,zZ,zS])
  refine Ord4.in_turn (fun u=>∃ g,u=.slice (some ⟨g,0,none⟩) 2 2) _ ⟨0,rfl⟩ [] HST.out hT9.o (by kernel_rfl) (by decide) ?_ (by rfl) ?_ ?_
  ·rfl
  ·intro w7 hC7 hb7;go_simp;simp only [Ord3.Lands];rw [HW1.out];exact ⟨⟨_,rfl⟩,(hC7.box w7.heap.size rfl [.int .u8 (a1.toNat:Int),.int .u8 1] 5).sub (.cons _ (List.Sublist.refl _)),(Below.refl _ _).alloc (Nat.le_refl _) _,RowIs.new [a1,1] w7⟩
  rintro _ ⟨g3,rfl⟩
  try simp only [Act.put,zA,zZ,zS]
  repeat ((first
   | (focus (refine Ord4.in_value (v:=?_) HST.out hT9.o (by rfl) ?_ (by rfl) ?_ ?_; rotate_left 2; (intro w5 hS; have r:=hS.rule 0 rfl; go_simp<;>rfl); rotate_right; (focus rfl)))
   | (focus (refine Ord4.in_off HST.out hT9.o (by rfl) ?_ (by rfl) ?_; (focus rfl))));try simp only [Act.put,zA,zZ,zS])
  refine Ord4.in_turn (fun u=>u=.string ⟨[a1,1].toArray⟩) _ rfl [4] HST.out hT9.o (by kernel_rfl) (by decide) ?_ (by rfl) ?_ ?_
  ·rfl
  ·intro w7 hC7 hb7;have hR:RowIs [a1,1] (.slice (some ⟨g3,0,none⟩) 2 2) w7:=hb7 4 (by simp) (4,RowIs [a1,1]) (by simp) rfl;have hcv:=hR.conv;go_simp
   (try simp only [Ord3.Lands])
   exact ⟨trivial,hC7,Below.refl _ _⟩
  rintro _ rfl
  try simp only [Act.put,zA,zZ,zS]
  repeat ((first
   | (focus (refine Ord4.in_value (v:=?_) HST.out hT9.o (by rfl) ?_ (by rfl) ?_ ?_; rotate_left 2; (intro w5 hS; have r:=hS.rule 0 rfl; go_simp<;>rfl); rotate_right; (focus rfl)))
   | (focus (refine Ord4.in_off HST.out hT9.o (by rfl) ?_ (by rfl) ?_; (focus rfl))));try simp only [Act.put,zA,zZ,zS])
  refine Ord4.in_turn (fun u=>u=.string ⟨lw.toArray⟩) _ rfl [] HST.out hT9.o (by kernel_rfl) (by decide) ?_ (by rfl) ?_ ?_
  ·rfl
  ·intro w7 hC7 hb7;go_simp;simp only [Ord3.Lands];refine (HWV.out _).mono ?_;rintro e w8 ⟨rfl,hb8⟩;exact ⟨_,rfl,rfl,hC7.over hb8,hb8⟩
  rintro _ rfl
  try simp only [Act.put,zA,zZ,zS]
  repeat ((first
   | (focus (refine Ord4.in_value (v:=?_) HST.out hT9.o (by rfl) ?_ (by rfl) ?_ ?_; rotate_left 2; (intro w5 hS; have r:=hS.rule 0 rfl; go_simp<;>rfl); rotate_right; (focus rfl)))
   | (focus (refine Ord4.in_off HST.out hT9.o (by rfl) ?_ (by rfl) ?_; (focus rfl))));try simp only [Act.put,zA,zZ,zS])
  refine Ord4.in_nil (by rfl) ?_;intro w9 hC9 _;clear hT9;have hb9:=hC9.below;go_wp2_with fail;exact bodyPost_ret (v:=.tuple #[.string (⟨[a1,1].toArray⟩++⟨lw.toArray⟩),.bool true]) (by simp [results,results24,go_sem]) rfl ⟨by rw [HO.out,text_add]; rfl,hb9⟩
end
theorem stepNil_m (u:Value) (w:World):Calls prog 28 #[.pointer none,u] w fun o w'=>o=.returned (.int .i64 1)/\w'=w:=by
 go_enter func28,ntmps28;go_wp2_with fail;go_ret;exact ⟨rfl,rfl⟩
theorem answerNil_m (w:World):Calls prog 27 #[.pointer none] w fun o w'=>o=.returned (.tuple #[.agg #[.int .i64 0,.bool false,.int .u64 0],.bool false])/\Below w.heap.size w w':=by
 go_enter func27,ntmps27;go_wp2_with fail;exact bodyPost_ret (by simp [results,results27,go_sem]) rfl ⟨rfl,(Below.refl _ _).alloc (Nat.le_refl _) _⟩
theorem opNil_m (w:World):Calls prog 29 #[.pointer none] w fun o w'=>o=.returned (.agg #[.int .i64 0,.int .u64 0,.int .u64 0,.int .i64 0])/\Below w.heap.size w w':=by
 go_enter func29,ntmps29;go_wp2_with fail;exact bodyPost_ret (by simp [results,results29,go_sem]) rfl ⟨rfl,(Below.refl _ _).alloc (Nat.le_refl _) _⟩
theorem stepsNil_m (w:World):Calls prog 30 #[.pointer none] w fun o w'=>o=.returned (.int .i64 0)/\w'=w:=by
 go_enter func30,ntmps30;go_wp2_with fail;go_ret;exact ⟨rfl,rfl⟩
def okO (kd lv:Int):Bool:=byB kd && byB lv
def obL (kd key val lv:Int):List UInt8:=if okO kd lv then opL kd key val lv else []
def obE (c:Bool):Int:=if c then 0 else 3
def abL (er:Int) (dn:Bool) (val:Int):List UInt8:=if byB er then ansL er dn val else []
theorem bytes_o (kd key val lv:Int) (hk:InU key) (hv:InU val) (w:World) :
  Calls prog 21 #[.agg #[.int .i64 kd,.int .u64 key,.int .u64 val,.int .i64 lv]] w fun e w'=>e=.returned (.tuple #[.string ⟨(obL kd key val lv).toArray⟩,.int .i64 (obE (okO kd lv))])/\Below w.heap.size w w':=by
 unfold obL obE okO
 by_cases h1:byB kd=true
 ·by_cases h2:byB lv=true
  ·rw [h1,h2]; exact bytesYes_o kd key val lv h1 h2 hk hv w
  ·have h2:byB lv=false:=by simpa using h2
   rw [h1,h2]; exact bytesNo_o kd key val lv (.inr h2) w
 ·have h1:byB kd=false:=by simpa using h1
  rw [h1]; exact bytesNo_o kd key val lv (.inl h1) w
theorem bytes_r (kd key val lv:Int) (hk:InU key) (hv:InU val) (w:World) :
  Calls prog 22 #[.agg #[.int .i64 kd,.int .u64 key,.int .u64 val,.int .i64 lv]] w fun e w'=>e=.returned (.tuple #[.string ⟨(obL kd key val lv).toArray⟩,.bool (okO kd lv)])/\Below w.heap.size w w':=by
 unfold obL okO
 by_cases h1:byB kd=true
 ·by_cases h2:byB lv=true
  ·rw [h1,h2]; exact bytesYes_r kd key val lv h1 h2 hk hv w
  ·have h2:byB lv=false:=by simpa using h2
   rw [h1,h2]; exact bytesNo_r kd key val lv (.inr h2) w
 ·have h1:byB kd=false:=by simpa using h1
  rw [h1]; exact bytesNo_r kd key val lv (.inl h1) w
theorem ans_o (er val:Int) (dn:Bool) (hv:InU val) (w:World) :
  Calls prog 23 #[.agg #[.int .i64 er,.bool dn,.int .u64 val]] w fun e w'=>e=.returned (.tuple #[.string ⟨(abL er dn val).toArray⟩,.int .i64 (obE (byB er))])/\Below w.heap.size w w':=by
 unfold abL obE
 by_cases h1:byB er=true
 ·rw [h1]; exact ansYes_o er val dn h1 hv w
 ·have h1:byB er=false:=by simpa using h1
  rw [h1]; exact ansNo_o er val dn h1 w
theorem ans_r (er val:Int) (dn:Bool) (hv:InU val) (w:World) :
  Calls prog 24 #[.agg #[.int .i64 er,.bool dn,.int .u64 val]] w fun e w'=>e=.returned (.tuple #[.string ⟨(abL er dn val).toArray⟩,.bool (byB er)])/\Below w.heap.size w w':=by
 unfold abL
 by_cases h1:byB er=true
 ·rw [h1]; exact ansYes_r er val dn h1 hv w
 ·have h1:byB er=false:=by simpa using h1
  rw [h1]; exact ansNo_r er val dn h1 w
theorem by_u8 (b:UInt8):byB (b.toNat:Int)=true:=by
 have:=b.toNat_lt;simp [byB];omega
theorem back_r (l:List UInt8) (h:l.length=18) (w:World) :
  Calls prog 22 #[.agg #[.int .i64 ((l.getD 0 0).toNat:Int),.int .u64 (numN (subL l 1):Int),.int .u64 (numN (subL l 9):Int),.int .i64 ((l.getD 17 0).toNat:Int)]] w fun e w'=>e=.returned (.tuple #[.string ⟨l.toArray⟩,.bool true])/\Below w.heap.size w w':=by
 have h1:=bytesYes_r ((l.getD 0 0).toNat:Int) (numN (subL l 1):Int) (numN (subL l 9):Int) ((l.getD 17 0).toNat:Int) (by_u8 _) (by_u8 _) (numN_in (subL_length (by omega))) (numN_in (subL_length (by omega))) w;rw [opL_parse h] at h1;exact h1
theorem backA_r (l:List UInt8) (h:l.length=10) (h1:(l.getD 1 0).toNat<=1) (w:World) :
  Calls prog 24 #[.agg #[.int .i64 ((l.getD 0 0).toNat:Int),.bool (decide (((l.getD 1 0).toNat:Int)=1)),.int .u64 (numN (subL l 2):Int)]] w fun e w'=>e=.returned (.tuple #[.string ⟨l.toArray⟩,.bool true])/\Below w.heap.size w w':=by
 have h2:=ansYes_r ((l.getD 0 0).toNat:Int) (numN (subL l 2):Int) (decide (((l.getD 1 0).toNat:Int)=1)) (by_u8 _) (numN_in (subL_length (by omega))) w;rw [ansL_parse h h1] at h2;exact h2
theorem count_any {c n:Nat} {F:Nat->Prop} {f:Plc->Int} {q:Cnt} {w:World} (hC:IsC w c F f q n) :
  Calls prog 37 #[.pointer (some ⟨c,0,none⟩)] w fun e w'=>e=.returned (.agg #[.int .i64 q.l,.int .i64 q.s,.int .i64 q.w,.int .i64 q.f,.int .i64 q.a])/\Below w.heap.size w w':=by
 obtain ⟨mp,hb,hm,hF⟩:=hC;have r1:=cell_more hb.1 hb.rule;unfold cv at r1;go_enter func37,ntmps37
 go_wp2
 refine bodyPost_ret (v:=.agg #[.int .i64 q.l,.int .i64 q.s,.int .i64 q.w,.int .i64 q.f,.int .i64 q.a]) (by simp [results,results37,go_sem]) rfl ⟨rfl,?_⟩;exact (Below.refl _ _).alloc (Nat.le_refl _) _
section
variable {w0 w:World} {L:List Item} {p c n:Nat} {F:Nat->Prop} {f:Plc->Int} {q:Cnt}
theorem count_w (i j:Nat) (hE:Env w0 L w) (hi:L[i]?=some (wbox p c)) (hj:L[j]?=some (cellI c F f q n)) :
  Calls prog 10 #[.pointer (some ⟨p,0,none⟩)] w fun e w'=>e=.returned (.agg #[.int .i64 q.l,.int .i64 q.s,.int .i64 q.w,.int .i64 q.f,.int .i64 q.a])/\Below w.heap.size w w':=by
 have hb:=(Below.refl w.heap.size w).alloc (Nat.le_refl _) (.cells #[.int .i64 0,.int .i64 0,.int .i64 0,.int .i64 0,.int .i64 0] 36);replace hE:=hE.box w.heap.size rfl [.int .i64 0,.int .i64 0,.int .i64 0,.int .i64 0,.int .i64 0] 36;go_enter func10,ntmps10;go_wp2_with fail;refine (kept_any (hE.wblk (i+1) hi)).mono ?_;rintro e w1 ⟨rfl,rfl⟩;go_wp2_with fail;refine (count_any (hE.cell (j+1) hj)).mono ?_;rintro e w2 ⟨rfl,hb2⟩;have hE2:=hE.over hb2;have f5:=hE2.thaw 0 rfl;have f0:=f5 0 (by simp);have f1:=f5 1 (by simp);have f2:=f5 2 (by simp);have f3:=f5 3 (by simp);have f4:=f5 4 (by simp);have r:=hE2.rule 0 rfl;have hB:=hb.trans (hb2.mono hb.size);clear f5
 go_wp2
 have hP:=hE2.put5 0 rfl (.int .i64 q.l) (.int .i64 q.s) (.int .i64 q.w) (.int .i64 q.f) (.int .i64 q.a);have q9:=hP.rule 0 rfl;refine bodyPost_ret (v:=.agg #[.int .i64 q.l,.int .i64 q.s,.int .i64 q.w,.int .i64 q.f,.int .i64 q.a]) (by simp [results,results10,go_sem,q9]) rfl ⟨rfl,?_⟩;exact ((((hB.setCell (Nat.le_refl _) _).setCell (Nat.le_refl _) _).setCell (Nat.le_refl _) _).setCell (Nat.le_refl _) _).setCell (Nat.le_refl _) _
end
end
section
open Go.ChangeShapes Go.WideShapes Go.ChangeAt Go.RowKit
section
variable {P:Program} {w:World}
theorem cell_lt {b o:Nat} {v:Value} (h:w.cell? ⟨b,o,none⟩=some v):b < w.heap.size:=by
 rcases Nat.lt_or_ge b w.heap.size with h' | h'
 ·exact h'
 ·simp [World.cell?,Array.getElem?_eq_none h'] at h
theorem laid_pair {n:String} {g:Nat} {t k:TypeId} {f0 f1:Field} {a b:Int} {r:List (String × DataW Unit)} {ps:List MemPlace}
  (h:DataW.LaidVars P w ((n,.agg [.lit (.int .i64 a),.lit (.int .i64 b)])::r) ps) (hg:P.globalNamed n=some g) (ht:(P.globals[g]?).map (·.type)=some t)
  (hs:P.underlying t=some (.struct #[f0,f1])) (hc:P.cellsOf t=2) (h0:f0.offset=0) (h1:f1.offset=1) (hk0:f0.type=k) (hk1:f1.type=k) (hk:P.cellsOf k=1) (hi:P.underlying k=some (.int .i64)) :
  w.cell? ⟨g,0,none⟩=some (.int .i64 a)/\w.cell? ⟨g,1,none⟩=some (.int .i64 b)/\∃ q,DataW.LaidVars P w r q:=by
 obtain ⟨g',t',cs,fuel,p,q,hg',ht',hv,hd,hr,-⟩:=h;obtain rfl:=Option.some.inj (hg.symm.trans hg');obtain rfl:=Option.some.inj (ht.symm.trans ht');obtain ⟨xs,m,-,hx,hl,hn,hel⟩:=DataW.trod_struct hs hd;have e0:=hel 0 f0 rfl;have e1:=hel 1 f1 rfl;rw [h0,hk0,hk] at e0;rw [h1,hk1,hk] at e1;obtain ⟨l⟩:=cs;rw [hc] at hl
 match l,hl,xs,hn,hx,e0,e1,hv with
 | [c0,c1],_,[x0,x1],_,hx,e0,e1,hv =>
  simp only [Prod.mk.injEq,List.map_cons,List.map_nil,DataW.agg.injEq,List.cons.injEq] at hx;obtain ⟨n0,s0,y0,-⟩:=DataW.trod_int hi (show DataW.trod _ P w 0 _ false m k [c0]=some x0 from e0);obtain ⟨n1,s1,y1,-⟩:=DataW.trod_int hi (show DataW.trod _ P w 0 _ false m k [c1]=some x1 from e1);simp at s0 s1;subst s0 s1;have k0:=hx.1.1;have k1:=hx.1.2.1;rw [y0] at k0;rw [y1] at k1;simp at k0 k1;subst k0 k1;exact ⟨by rw [World.var?_cell hg hv 0]; rfl,by rw [World.var?_cell hg hv 1]; rfl,q,hr⟩
end
def laid3:List (String × DataW Unit):=[("revenant/link.versionPart",Rows.laid_revenant_link_versionPart),("revenant/link.slotPart",Rows.laid_revenant_link_slotPart),("revenant/link.markPart",Rows.laid_revenant_link_markPart)]
theorem glo_of_laid {W:World} (h:laidMetH prog laid3 W):Glo W:=by
 rw [MakeChecks.laidMetH_plain _ _ _ (by kernel_rfl)] at h;obtain ⟨ps,h,-,-⟩:=h;obtain ⟨a0,a1,q1,h⟩:=laid_pair (g:=0) (t:=309) (k:=3) h (by kernel_rfl) (by kernel_rfl) Tryz.underlying309 (by kernel_rfl) rfl rfl rfl rfl (by kernel_rfl) Tryz.underlying3;obtain ⟨b0,b1,q2,h⟩:=laid_pair (g:=1) (t:=309) (k:=3) h (by kernel_rfl) (by kernel_rfl) Tryz.underlying309 (by kernel_rfl) rfl rfl rfl rfl (by kernel_rfl) Tryz.underlying3;obtain ⟨c0,c1,q3,h⟩:=laid_pair (g:=2) (t:=309) (k:=3) h (by kernel_rfl) (by kernel_rfl) Tryz.underlying309 (by kernel_rfl) rfl rfl rfl rfl (by kernel_rfl) Tryz.underlying3;exact ⟨⟨a0,a1⟩,⟨b0,b1⟩,⟨c0,c1⟩,cell_lt a0,cell_lt b0,cell_lt c0⟩
theorem door_met (os:Os) (args:Array Value):laidMetH prog laid3 ((World.doorLaid prog 24 os).forCall (fun _ _=>0) ⟨#[],args,[]⟩).memory :=
 laidMetH_of_parts3 (fuel:=8) (laidMet_of_run' 8 (by kernel_rfl) (by kernel_rfl)) (by kernel_rfl) (by kernel_rfl)
end
end Go.Proofs.YtffncfmciockmaaGreatDoor
namespace Go.Proofs.YtffncfmciockmaaGreatDoor.orderBytes
section
open Go.RowKit Go.Maps
theorem walkL (kd key val lv er:Int) (dn:Bool) (v:Int) (l:List UInt8) (hk:InU key) (hv:InU val) (ha:InU v) (hl:l.length<=9223372036854775807) (w:World) (hg:Glo w) :
  Calls prog 5 #[.agg #[.int .i64 kd,.int .u64 key,.int .u64 val,.int .i64 lv],.agg #[.int .i64 er,.bool dn,.int .u64 v],.string ⟨l.toArray⟩] w fun e w'=>e=.returned (.bool true)/\Below w.heap.size w w':=by
 have hE:=((Env.start w).box w.heap.size rfl [.int .i64 kd,.int .u64 key,.int .u64 val,.int .i64 lv] 51).box (w.heap.size+1) (by simp) [.int .i64 er,.bool dn,.int .u64 v] 57;have HG:=zH hg;have HB:=zH fun v=>bytes_o kd key val lv hk hv v;have HR:=zH fun v=>bytes_r kd key val lv hk hv v;have HA:=zH fun w=>ans_o er v dn ha w;have HQ:=zH fun w=>ans_r er v dn ha w;have HL:=zH hl;have hsz:(⟨l.toArray⟩:ByteArray).size=l.length:=text_size l;clear hg hk hv ha hl;go_enter func5,ntmps5;go_wp2_with fail;refine (awake_m _ (HG.out.keep' hE.below)).mono ?_;rintro o w1 ⟨rfl,hb⟩;replace hE:=hE.over hb;clear hb;generalize w.heap.size+1=X1 at *;generalize w.heap.size=X0 at *
 by_cases h40:l.length<=40
 case neg =>
  have hb:decide ((40:Int) < (l.length:Int))=true:=by simp; omega
  have hb9:=hE.below;clear hE;go_wp2_with fail;go_ret;exact ⟨rfl,hb9⟩
 have hb40:decide ((40:Int) < (l.length:Int))=false:=by simp; omega
 have H40:=zH h40;clear h40;have r0:=hE.rule 0 rfl;have r1:=hE.rule 1 rfl;go_wp2_with fail;refine (HB.out _).mono ?_;rintro o w2 ⟨rfl,hb⟩;replace hE:=hE.over hb;clear hb r0 r1 HB;have r0:=hE.rule 0 rfl;have r1:=hE.rule 1 rfl;go_wp2_with fail;refine (HR.out _).mono ?_;rintro o w3 ⟨rfl,hb⟩;replace hE:=hE.over hb;clear hb r0 r1 HR;have r0:=hE.rule 0 rfl;have r1:=hE.rule 1 rfl;generalize obL kd key val lv=l1;generalize okO kd lv=c1
 go_upto_region 7 with fail
 go_cut [58] from 42 to 58 (fun x wx=>x=.bool false/\wx=w3)
 case first =>
  clear r0 r1 hE;cases c1
  ·have f1:(obE false==0)=false:=rfl;have f2:(obE false != 3)=false:=rfl;go_wp2_with fail
   go_meet
   case rel=>exact ⟨rfl,rfl⟩
  ·have f1:(obE true==0)=true:=rfl;go_wp2_with fail
   go_meet
   case rel=>exact ⟨rfl,rfl⟩
 case rest =>
  obtain ⟨rfl,rfl⟩:=hcut;have r1:=hE.rule 0 rfl;go_wp2_with fail;refine (HA.out _).mono ?_;rintro o w4 ⟨rfl,hb⟩;replace hE:=hE.over hb;clear hb r1 HA;have r1:=hE.rule 0 rfl;go_wp2_with fail;refine (HQ.out _).mono ?_;rintro o w5 ⟨rfl,hb⟩;replace hE:=hE.over hb;clear hb r1 HQ;generalize abL er dn v=l2;generalize byB er=c2
  go_upto_region 11 with fail
  go_cut [85] from 69 to 85 (fun x wx=>x=.bool false/\wx=w5)
  case first =>
   clear hE;cases c2
   ·have f1:(obE false==0)=false:=rfl;have f2:(obE false != 3)=false:=rfl;go_wp2_with fail
    go_meet
    case rel=>exact ⟨rfl,rfl⟩
   ·have f1:(obE true==0)=true:=rfl;go_wp2_with fail
    go_meet
    case rel=>exact ⟨rfl,rfl⟩
  case rest =>
   obtain ⟨rfl,rfl⟩:=hcut;have h40:=H40.out
   go_upto_region 13 with fail
   by_cases h18:l.length=18
   ·have hbk:=fun v=>back_r l h18 v;go_wp2_with fail;refine (parseYes_o l h18 _).mono ?_;rintro o w4 ⟨rfl,hb⟩;replace hE:=hE.over hb;clear hb;generalize ((l.getD 0 0).toNat:Int)=p1 at *;generalize (numN (subL l 1):Int)=p2 at *;generalize (numN (subL l 9):Int)=p3 at *;generalize ((l.getD 17 0).toNat:Int)=p4 at *;have HBK:=zH hbk;clear hbk;have hb18:(((l.length:Nat):Int) != 18)=false:=by rw [h18]; rfl
    go_upto_region 14 with fail
    have hE4:=hE.box w4.heap.size rfl [.int .i64 p1,.int .u64 p2,.int .u64 p3,.int .i64 p4] 51;generalize w4.alloc _=w5 at *;generalize w4.heap.size=Z15 at *;have rz:=hE4.rule 0 rfl;clear hE;go_wp2_with fail;refine (HBK.out _).mono ?_;rintro o w6 ⟨rfl,hb⟩;replace hE4:=hE4.over hb;clear hb rz HBK
    go_upto_region 20 with fail
    have hE:=hE4.sub (.cons _ (List.Sublist.refl _));clear hE4 hb18;go_wp2_with fail;refine (parseANo_o l (.inl (by omega)) (by omega) _).mono ?_;rintro o w6 ⟨rfl,hb⟩;replace hE:=hE.over hb;clear hb;have hb10:(((l.length:Nat):Int) != 10)=true:=by simp; omega
    go_upto_region 21 with fail
    have hE4:=hE.box w6.heap.size rfl [.int .i64 0,.bool false,.int .u64 0] 57;generalize w6.alloc _=w7 at *;generalize w6.heap.size=Z19 at *;have rz:=hE4.rule 0 rfl;clear hE
    go_upto_region 27 with fail
    have hE:=hE4.sub (.cons _ (List.Sublist.refl _));clear hE4 rz;go_wp2_with fail;refine (new_w hE).mono ?_;rintro o w7 ⟨p,cc,rfl,hE2,-⟩;clear hE;go_wp2_with fail;refine (answerNil_m _).mono ?_;rintro o w8 ⟨rfl,hb⟩;replace hE2:=hE2.over hb;clear hb
    go_upto_region 30 with fail
    have hE3:=(hE2.box w8.heap.size rfl [.int .i64 0,.bool false,.int .u64 0] 57).sub (.cons _ (List.Sublist.refl _));generalize w8.alloc _=w9 at *;clear hE2;have HCNT:Hid (∀ u,Env w (wbox p cc::cellI cc (fun k=>k=cc) (fun _=>0) ⟨0,0,0,0,0⟩ 0::[boxI X1 [.int .i64 er,.bool dn,.int .u64 v],boxI X0 [.int .i64 kd,.int .u64 key,.int .u64 val,.int .i64 lv]]) u->Calls prog 10 #[.pointer (some ⟨p,0,none⟩)] u fun o w'=>o=.returned (.agg #[.int .i64 0,.int .i64 0,.int .i64 0,.int .i64 0,.int .i64 0])/\Below u.heap.size u w'):=zH fun u hv=>count_w 0 1 (show Env w (wbox p cc::cellI cc (fun k=>k=cc) (fun _=>0) ⟨0,0,0,0,0⟩ 0::[boxI X1 [.int .i64 er,.bool dn,.int .u64 v],boxI X0 [.int .i64 kd,.int .u64 key,.int .u64 val,.int .i64 lv]]) u from hv) rfl rfl;go_wp2_with (first
     | (with_reducible refine (stepNil_m _ _).mono ?_; rintro o w10 ⟨rfl,rfl⟩)
     | (with_reducible refine (opNil_m _).mono ?_; rintro o w10 ⟨rfl,hb⟩; replace hE3:=hE3.over hb; clear hb)
     | (with_reducible refine (stepsNil_m _).mono ?_; rintro o w10 ⟨rfl,rfl⟩)
     | (with_reducible refine (HCNT.out _ hE3).mono ?_; rintro o w10 ⟨rfl,hb⟩; replace hE3:=hE3.over hb; clear hb; clear HCNT))
    go_ret;exact ⟨rfl,hE3.below⟩
   ·go_wp2_with fail;refine (parseNo_o l h18 (by omega) _).mono ?_;rintro o w4 ⟨rfl,hb⟩;replace hE:=hE.over hb;clear hb;have hb18:(((l.length:Nat):Int) != 18)=true:=by simp; omega
    go_upto_region 14 with fail
    have hE4:=hE.box w4.heap.size rfl [.int .i64 0,.int .u64 0,.int .u64 0,.int .i64 0] 51;generalize w4.alloc _=w5 at *;generalize w4.heap.size=Z15 at *;have rz:=hE4.rule 0 rfl;clear hE
    go_upto_region 20 with fail
    have hE:=hE4.sub (.cons _ (List.Sublist.refl _));clear hE4 rz hb18
    by_cases h10:l.length=10
    ·by_cases h1l:(l.getD 1 0).toNat<=1
     ·have hbk:=fun v=>backA_r l h10 h1l v;go_wp2_with fail;refine (parseAYes_o l h10 h1l _).mono ?_;rintro o w6 ⟨rfl,hb⟩;replace hE:=hE.over hb;clear hb;generalize ((l.getD 0 0).toNat:Int)=p1 at *;generalize decide (((l.getD 1 0).toNat:Int)=1)=p2 at *;generalize (numN (subL l 2):Int)=p3 at *;have HBK:=zH hbk;clear hbk;have hb10:(((l.length:Nat):Int) != 10)=false:=by rw [h10]; rfl
      have hi1:1 < l.length:=by omega
      have hs1:1 < (({ data:=l.toArray }:ByteArray)).size:=by rw [text_size]; omega
      have hga:({ data:=l.toArray }:ByteArray)[1]'hs1=l.getD 1 0:=by simp [ByteArray.getElem_eq_getElem_data,List.getD_eq_getElem?_getD,hi1]
      have hb11:decide ((1:Int) < (((({ data:=l.toArray }:ByteArray)[1]'hs1).toNat:Nat):Int))=false:=by rw [hga]; exact decide_eq_false (by omega)
      clear hga
      go_upto_region 21 with fail
      have hE4:=hE.box w6.heap.size rfl [.int .i64 p1,.bool p2,.int .u64 p3] 57;generalize w6.alloc _=w7 at *;generalize w6.heap.size=Z19 at *;have rz:=hE4.rule 0 rfl;clear hE;go_wp2_with fail;refine (HBK.out _).mono ?_;rintro o w8 ⟨rfl,hb⟩;replace hE4:=hE4.over hb;clear hb rz HBK
      go_upto_region 27 with fail
      have hE:=hE4.sub (.cons _ (List.Sublist.refl _));clear hE4;go_wp2_with fail;refine (new_w hE).mono ?_;rintro o w7 ⟨p,cc,rfl,hE2,-⟩;clear hE;go_wp2_with fail;refine (answerNil_m _).mono ?_;rintro o w8 ⟨rfl,hb⟩;replace hE2:=hE2.over hb;clear hb
      go_upto_region 30 with fail
      have hE3:=(hE2.box w8.heap.size rfl [.int .i64 0,.bool false,.int .u64 0] 57).sub (.cons _ (List.Sublist.refl _));generalize w8.alloc _=w9 at *;clear hE2;have HCNT:Hid (∀ u,Env w (wbox p cc::cellI cc (fun k=>k=cc) (fun _=>0) ⟨0,0,0,0,0⟩ 0::[boxI X1 [.int .i64 er,.bool dn,.int .u64 v],boxI X0 [.int .i64 kd,.int .u64 key,.int .u64 val,.int .i64 lv]]) u->Calls prog 10 #[.pointer (some ⟨p,0,none⟩)] u fun o w'=>o=.returned (.agg #[.int .i64 0,.int .i64 0,.int .i64 0,.int .i64 0,.int .i64 0])/\Below u.heap.size u w'):=zH fun u hv=>count_w 0 1 (show Env w (wbox p cc::cellI cc (fun k=>k=cc) (fun _=>0) ⟨0,0,0,0,0⟩ 0::[boxI X1 [.int .i64 er,.bool dn,.int .u64 v],boxI X0 [.int .i64 kd,.int .u64 key,.int .u64 val,.int .i64 lv]]) u from hv) rfl rfl;go_wp2_with (first
       | (with_reducible refine (stepNil_m _ _).mono ?_; rintro o w10 ⟨rfl,rfl⟩)
       | (with_reducible refine (opNil_m _).mono ?_; rintro o w10 ⟨rfl,hb⟩; replace hE3:=hE3.over hb; clear hb)
       | (with_reducible refine (stepsNil_m _).mono ?_; rintro o w10 ⟨rfl,rfl⟩)
       | (with_reducible refine (HCNT.out _ hE3).mono ?_; rintro o w10 ⟨rfl,hb⟩; replace hE3:=hE3.over hb; clear hb; clear HCNT))
      go_ret;exact ⟨rfl,hE3.below⟩
     ·go_wp2_with fail;refine (parseANo_o l (.inr (by omega)) (by omega) _).mono ?_;rintro o w6 ⟨rfl,hb⟩;replace hE:=hE.over hb;clear hb;have hb10:(((l.length:Nat):Int) != 10)=false:=by rw [h10]; rfl
      have hi1:1 < l.length:=by omega
      have hs1:1 < (({ data:=l.toArray }:ByteArray)).size:=by rw [text_size]; omega
      have hga:({ data:=l.toArray }:ByteArray)[1]'hs1=l.getD 1 0:=by simp [ByteArray.getElem_eq_getElem_data,List.getD_eq_getElem?_getD,hi1]
      have hb11:decide ((1:Int) < (((({ data:=l.toArray }:ByteArray)[1]'hs1).toNat:Nat):Int))=true:=by rw [hga]; exact decide_eq_true (by omega)
      clear hga
      go_upto_region 21 with fail
      have hE4:=hE.box w6.heap.size rfl [.int .i64 0,.bool false,.int .u64 0] 57;generalize w6.alloc _=w7 at *;generalize w6.heap.size=Z19 at *;have rz:=hE4.rule 0 rfl;clear hE
      go_upto_region 27 with fail
      have hE:=hE4.sub (.cons _ (List.Sublist.refl _));clear hE4 rz;go_wp2_with fail;refine (new_w hE).mono ?_;rintro o w7 ⟨p,cc,rfl,hE2,-⟩;clear hE;go_wp2_with fail;refine (answerNil_m _).mono ?_;rintro o w8 ⟨rfl,hb⟩;replace hE2:=hE2.over hb;clear hb
      go_upto_region 30 with fail
      have hE3:=(hE2.box w8.heap.size rfl [.int .i64 0,.bool false,.int .u64 0] 57).sub (.cons _ (List.Sublist.refl _));generalize w8.alloc _=w9 at *;clear hE2;have HCNT:Hid (∀ u,Env w (wbox p cc::cellI cc (fun k=>k=cc) (fun _=>0) ⟨0,0,0,0,0⟩ 0::[boxI X1 [.int .i64 er,.bool dn,.int .u64 v],boxI X0 [.int .i64 kd,.int .u64 key,.int .u64 val,.int .i64 lv]]) u->Calls prog 10 #[.pointer (some ⟨p,0,none⟩)] u fun o w'=>o=.returned (.agg #[.int .i64 0,.int .i64 0,.int .i64 0,.int .i64 0,.int .i64 0])/\Below u.heap.size u w'):=zH fun u hv=>count_w 0 1 (show Env w (wbox p cc::cellI cc (fun k=>k=cc) (fun _=>0) ⟨0,0,0,0,0⟩ 0::[boxI X1 [.int .i64 er,.bool dn,.int .u64 v],boxI X0 [.int .i64 kd,.int .u64 key,.int .u64 val,.int .i64 lv]]) u from hv) rfl rfl;go_wp2_with (first
       | (with_reducible refine (stepNil_m _ _).mono ?_; rintro o w10 ⟨rfl,rfl⟩)
       | (with_reducible refine (opNil_m _).mono ?_; rintro o w10 ⟨rfl,hb⟩; replace hE3:=hE3.over hb; clear hb)
       | (with_reducible refine (stepsNil_m _).mono ?_; rintro o w10 ⟨rfl,rfl⟩)
       | (with_reducible refine (HCNT.out _ hE3).mono ?_; rintro o w10 ⟨rfl,hb⟩; replace hE3:=hE3.over hb; clear hb; clear HCNT))
      go_ret;exact ⟨rfl,hE3.below⟩
    ·go_wp2_with fail;refine (parseANo_o l (.inl h10) (by omega) _).mono ?_;rintro o w6 ⟨rfl,hb⟩;replace hE:=hE.over hb;clear hb;have hb10:(((l.length:Nat):Int) != 10)=true:=by simp; omega
     go_upto_region 21 with fail
     have hE4:=hE.box w6.heap.size rfl [.int .i64 0,.bool false,.int .u64 0] 57;generalize w6.alloc _=w7 at *;generalize w6.heap.size=Z19 at *;have rz:=hE4.rule 0 rfl;clear hE
     go_upto_region 27 with fail
     have hE:=hE4.sub (.cons _ (List.Sublist.refl _));clear hE4 rz;go_wp2_with fail;refine (new_w hE).mono ?_;rintro o w7 ⟨p,cc,rfl,hE2,-⟩;clear hE;go_wp2_with fail;refine (answerNil_m _).mono ?_;rintro o w8 ⟨rfl,hb⟩;replace hE2:=hE2.over hb;clear hb
     go_upto_region 30 with fail
     have hE3:=(hE2.box w8.heap.size rfl [.int .i64 0,.bool false,.int .u64 0] 57).sub (.cons _ (List.Sublist.refl _));generalize w8.alloc _=w9 at *;clear hE2;have HCNT:Hid (∀ u,Env w (wbox p cc::cellI cc (fun k=>k=cc) (fun _=>0) ⟨0,0,0,0,0⟩ 0::[boxI X1 [.int .i64 er,.bool dn,.int .u64 v],boxI X0 [.int .i64 kd,.int .u64 key,.int .u64 val,.int .i64 lv]]) u->Calls prog 10 #[.pointer (some ⟨p,0,none⟩)] u fun o w'=>o=.returned (.agg #[.int .i64 0,.int .i64 0,.int .i64 0,.int .i64 0,.int .i64 0])/\Below u.heap.size u w'):=zH fun u hv=>count_w 0 1 (show Env w (wbox p cc::cellI cc (fun k=>k=cc) (fun _=>0) ⟨0,0,0,0,0⟩ 0::[boxI X1 [.int .i64 er,.bool dn,.int .u64 v],boxI X0 [.int .i64 kd,.int .u64 key,.int .u64 val,.int .i64 lv]]) u from hv) rfl rfl;go_wp2_with (first
      | (with_reducible refine (stepNil_m _ _).mono ?_; rintro o w10 ⟨rfl,rfl⟩)
      | (with_reducible refine (opNil_m _).mono ?_; rintro o w10 ⟨rfl,hb⟩; replace hE3:=hE3.over hb; clear hb)
      | (with_reducible refine (stepsNil_m _).mono ?_; rintro o w10 ⟨rfl,rfl⟩)
      | (with_reducible refine (HCNT.out _ hE3).mono ?_; rintro o w10 ⟨rfl,hb⟩; replace hE3:=hE3.over hb; clear hb; clear HCNT))
     go_ret;exact ⟨rfl,hE3.below⟩
end
end Go.Proofs.YtffncfmciockmaaGreatDoor.orderBytes
