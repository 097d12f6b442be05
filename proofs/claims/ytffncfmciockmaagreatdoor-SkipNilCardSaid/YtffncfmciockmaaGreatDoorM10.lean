/- What is proved on the way to the statement, part 10: contracts of the functions, among other things in memory. -/
import Derived.Test.YtffncfmciockmaaGreatDoorM9

open _root_.Go.Proofs.Tryz
set_option maxRecDepth 100000
set_option maxHeartbeats 25600000
namespace Go.Proofs.YtffncfmciockmaaGreatDoor
section
open Go.RowKit Go.Maps
def PcOk (C:Cf) (d:Dd) (K:Kt):Prop :=
 match K.pc with
 | 0=>K.T.hs=0
 | 1=>(K.err=0/\K.dn=false)/\FnOk C C.h.toNat K.on K.fl K.L/\((K.ft=0/\(K.T.hs≠0->d.ok=1))\/(K.ft=1/\K.T.hs=0/\(1<=K.n/\K.n<=C.s)/\((K.lv:Int) < d.lv/\d.ok=1))\/(K.ft=2/\K.T.hs=0/\(1<=K.n/\K.n<=C.s)))
 | 2=>(K.err=0/\K.dn=false)/\d.ok=1
 | 3=>(K.err=0/\K.dn=false)/\(∀ l,l < C.h.toNat->SpotOk C l (K.L l))/\K.T.hs≠0/\K.n=K.T.hs/\((K.lv:Int) < d.lv/\d.ok=1)
 | 4=>(K.err=0/\K.dn=false)/\(∀ l,l < C.h.toNat->SpotOk C l (K.L l))/\K.T.hs≠0/\K.n=K.T.hs/\K.lv=0/\d.ok=1
 | 5=>(K.err=0/\K.dn=false)/\(∀ l,l < C.h.toNat->SpotOk C l (K.L l))/\K.T.hs=0/\(1<=K.n/\K.n<=C.s)/\((K.lv:Int) < d.lv/\d.ok=1)
 | 6=>(K.err=0/\K.dn=false)/\(∀ l,l < C.h.toNat->SpotOk C l (K.L l))/\K.T.hs=0/\(1<=K.n/\K.n<=C.s)/\((K.lv:Int) < d.lv/\d.ok=1)
 | 7=>(K.err=0/\K.dn=false)/\K.T.hs=0
 | 8=>K.T.hs=0
 | 9=>(K.err=0/\K.dn=false)/\(∀ l,l < C.h.toNat->SpotOk C l (K.L l))/\K.T.hs=0/\(1<=K.n/\K.n<=C.s)/\((K.lv:Int) < d.lv/\d.ok=1)
 | 10=>(K.err=0/\K.dn=false)/\K.T.hs=0/\(1<=K.n/\K.n<=C.s)
 | 11=>(K.err=0/\K.dn=false)/\K.T.hs=0/\(1<=K.n/\K.n<=C.s)
 | 12=>(K.err=0/\K.dn=false)/\K.T.hs=0/\(1<=K.n/\K.n<=C.s)/\InU K.y
 | 13=>(K.err=0/\K.dn=false)/\K.T.hs=0/\(1<=K.n/\K.n<=C.s)/\K.lv < C.h.toNat
 | 14=>(K.err=0/\K.dn=false)/\K.T.hs=0/\(1<=K.n/\K.n<=C.s)/\K.lv < C.h.toNat/\InU K.y/\slotI K.y<=C.s
 | 15=>(K.err=0/\K.dn=false)/\K.T.hs=0/\(1<=K.n/\K.n<=C.s)/\K.lv < C.h.toNat/\InU K.y/\slotI K.y<=C.s/\markB K.y=false
 | 16=>(K.err=0/\K.dn=false)/\K.T.hs=0/\(1<=K.n/\K.n<=C.s)
 | _=>False
structure KOk (C:Cf) (ds:List Dd) (B:Nat) (d:Dd) (K:Kt):Prop where
 (t:OkT C ds B K.T)
 (tp:K.T.pc=if K.pc=2 then 2 else if K.pc=7 then 3 else if K.pc=8 then 4 else 0)
 (p:PcOk C d K)
 (kk:K.pc=2->K.T.apc<=10\/K.T.apc - 10 < (WD C d K.T).length)
 (nd:K.pc≠0->1<=K.T.nd)
structure CSk (C:Cf):Prop where
 (ok:COk C)
 (s:C.s<=8388607)
 (h:1<=C.h.toNat/\C.h.toNat<=1000)
structure KOut (C:Cf) (ds:List Dd) (B:Nat) (d:Dd) (K:Kt) (r:Int × Kt × Mem):Prop where
 (f:OkF C r.2.2)
 (l:LnkF C r.2.2)
 (nd:r.2.1.T.nd=K.T.nd)
 (k:KOk C ds B d { r.2.1 with pc:=if r.1=0 then r.2.1.pc else 0 })
section
variable {C:Cf} {ds:List Dd} {B:Nat} {T:Th} {d:Dd} {K K':Kt} {f f':Mem} {q:Int × Kt × Mem}
theorem KOk.at0 (hT:OkT C ds B K'.T) (h0:K'.T.pc=0) (hn:1<=K'.T.nd) (h2:K'.pc≠2/\K'.pc≠7/\K'.pc≠8) (hp:PcOk C d K'):KOk C ds B d K' :=
 ⟨hT,by rw [if_neg h2.1,if_neg h2.2.1,if_neg h2.2.2]; exact h0,hp,fun h=>absurd h h2.1,fun _=>hn⟩
theorem KOut.on (hq:q=(0,K',f')) (hf:OkF C f') (hl:LnkF C f') (hnd:K'.T.nd=K.T.nd) (hk:KOk C ds B d K'):KOut C ds B d K q:=by
 subst hq;exact ⟨hf,hl,hnd,by show KOk C ds B d { K' with pc:=if (0:Int)=0 then K'.pc else 0 }; rw [if_pos rfl]; exact hk⟩
theorem KOut.fin (hq:q=(1,K',f')) (hf:OkF C f') (hl:LnkF C f') (hnd:K'.T.nd=K.T.nd) (hT:OkT C ds B K'.T) (h0:K'.T.pc=0) (hh:K'.T.hs=0):KOut C ds B d K q:=by
 subst hq;refine ⟨hf,hl,hnd,?_⟩;show KOk C ds B d { K' with pc:=if (1:Int)=0 then K'.pc else 0 };rw [if_neg (by decide)];exact ⟨hT,h0,hh,fun h=>absurd (show (0:Nat)=2 from h) (by decide),fun h=>absurd rfl h⟩
theorem KOk.t0 (h:KOk C ds B d K) (hp:K.pc≠2/\K.pc≠7/\K.pc≠8):K.T.pc=0:=by
 have:=h.tp;rw [if_neg hp.1,if_neg hp.2.1,if_neg hp.2.2] at this;exact this
theorem PcOk.up {l:Nat} (h1:(K.err=0/\K.dn=false)) (h2:(∀ l,l < C.h.toNat->SpotOk C l (K.L l))) (h3:K.T.hs=0) (h4:(1<=K.n/\K.n<=C.s)) (h5:(l:Int)<=d.lv) (h6:d.ok=1):PcOk C d (upM d K l)/\(upM d K l).pc≠2/\(upM d K l).pc≠7/\(upM d K l).pc≠8:=by
 unfold upM
 by_cases h:(l:Int)=d.lv
 ·rw [if_pos h];exact ⟨⟨h1,h3,h4⟩,⟨by show (10:Nat)≠2; decide,by show (10:Nat)≠7; decide,by show (10:Nat)≠8; decide⟩⟩
 ·rw [if_neg h];cases K.an
  ·exact ⟨⟨h1,h2,h3,h4,by show (l:Int) < d.lv; omega,h6⟩,⟨by show (5:Nat)≠2; decide,by show (5:Nat)≠7; decide,by show (5:Nat)≠8; decide⟩⟩
  ·exact ⟨⟨h1,h2,h3,h4,by show (l:Int) < d.lv; omega,h6⟩,⟨by show (6:Nat)≠2; decide,by show (6:Nat)≠7; decide,by show (6:Nat)≠8; decide⟩⟩
theorem FnOk.start {h fl:Nat} {L:Nat->Lm}:FnOk C h false fl L:=fun h=>absurd h (by decide)
theorem op3_keep (hC:CSk C) (hlv:d.ok=1->1<=d.lv/\d.lv<=((C.h.toNat:Nat):Int)) (hF:OkF C f) (hS:LnkF C f) (h:KOk C ds B d K) (hu:∀ x,InU ((opM C d K f).2.2 x)) (h1:K.pc=3):KOut C ds (B+1) d K (opM C d K f):=by
 have h0:=h.t0 (by omega);have hn:=h.nd (by omega);have hT:=h.t.more;have hs0:=hC.ok.s;have hsm:=hC.s;have hp:=h.p;unfold PcOk at hp;rw [h1] at hp;obtain ⟨hda,hdn,hhs,hnh,hup,hok⟩:=hp;have hd:=hlv hok;have hth:=h.t.hs;have hat:AtOk (K.lv:Int) (ownP K):=own_at (by omega);obtain ⟨g1,g2,g3⟩:=hat.far (by omega);have hsp:=hdn K.lv (by omega);have hle:slotI (toM K)<=C.s:=slot_word_le (by omega) hsp.sw;have hM:opM C d K f=(0,(if ((K.lv+1:Nat):Int) < d.lv then { K with lv:=K.lv+1 } else { K with lv:=0,pc:=4 }),Go.Proofs.YtffncfmciockmaaGreatDoor.upd f (ownP K) (toM K)):=by unfold opM; rw [if_neg (by omega),if_neg (by omega),if_pos h1]
 rw [hM] at hu;have hF2:=hF.updo g1 g2 g3 hu;have hS2:=hS.upd (p:=ownP K) hle
 by_cases h3:((K.lv+1:Nat):Int) < d.lv
 ·rw [if_pos h3] at hM;refine KOut.on hM hF2 hS2 rfl (KOk.at0 hT h0 hn ⟨by show K.pc≠2; omega,by show K.pc≠7; omega,by show K.pc≠8; omega⟩ ?_);unfold PcOk;dsimp only;rw [h1];exact ⟨hda,hdn,hhs,hnh,h3,hok⟩
 ·rw [if_neg h3] at hM;exact KOut.on hM hF2 hS2 rfl (KOk.at0 hT h0 hn ⟨by show (4:Nat)≠2; decide,by show (4:Nat)≠7; decide,by show (4:Nat)≠8; decide⟩ ⟨hda,hdn,hhs,hnh,rfl,hok⟩)
theorem op4_keep (hC:CSk C) (hlv:d.ok=1->1<=d.lv/\d.lv<=((C.h.toNat:Nat):Int)) (hF:OkF C f) (hS:LnkF C f) (h:KOk C ds B d K) (hu:∀ x,InU ((opM C d K f).2.2 x)) (h1:K.pc=4):KOut C ds (B+1) d K (opM C d K f):=by
 have h0:=h.t0 (by omega);have hn:=h.nd (by omega);have hT:=h.t.more;have hs0:=hC.ok.s;have hsm:=hC.s;have hp:=h.p;unfold PcOk at hp;rw [h1] at hp;obtain ⟨hda,hdn,hhs,hnh,hl0,hok⟩:=hp;have hd:=hlv hok;have hth:=h.t.hs;have hsp:=hdn 0 (by omega);obtain ⟨g1,g2,g3⟩:=hsp.at9.far (by omega);have hle:slotI (wordI false K.n K.T.e)<=C.s:=slot_word_le (by omega) (by omega)
 by_cases h4:f (K.L 0).p=(K.L 0).W
 ·have hM:opM C d K f=(0,upM d { K with T:={ K.T with hs:=0 } } 1,Go.Proofs.YtffncfmciockmaaGreatDoor.swf f (K.L 0).p (K.L 0).W (wordI false K.n K.T.e)):=by unfold opM; rw [if_neg (by omega),if_neg (by omega),if_neg (by omega),if_pos h1,if_pos h4]
  rw [hM] at hu;have hup:=PcOk.up (K:={ K with T:={ K.T with hs:=0 } }) (l:=1) hda hdn rfl ⟨by show 1<=K.n; omega,by show K.n<=C.s; omega⟩ (by omega) hok;refine KOut.on hM (hF.swfo g1 g2 g3 hu) (hS.swf hle) ?_ (KOk.at0 ?_ ?_ ?_ hup.2 hup.1)
  ·unfold upM; rfl
  ·unfold upM; exact hT.noH h0 hC.ok
  ·unfold upM; exact h0
  ·unfold upM; exact hn
 ·have hM:opM C d K f=(0,seekM 0 K,Go.Proofs.YtffncfmciockmaaGreatDoor.swf f (K.L 0).p (K.L 0).W (wordI false K.n K.T.e)):=by unfold opM; rw [if_neg (by omega),if_neg (by omega),if_neg (by omega),if_pos h1,if_neg h4]
  rw [hM] at hu;exact KOut.on hM (hF.swfo g1 g2 g3 hu) (hS.swf hle) rfl (KOk.at0 hT h0 hn ⟨by show (1:Nat)≠2; decide,by show (1:Nat)≠7; decide,by show (1:Nat)≠8; decide⟩ ⟨hda,FnOk.start,.inl ⟨rfl,fun _=>hok⟩⟩)
theorem op5_keep (hC:CSk C) (hlv:d.ok=1->1<=d.lv/\d.lv<=((C.h.toNat:Nat):Int)) (hF:OkF C f) (hS:LnkF C f) (h:KOk C ds B d K) (hu:∀ x,InU ((opM C d K f).2.2 x)) (h1:K.pc=5):KOut C ds (B+1) d K (opM C d K f):=by
 have h0:=h.t0 (by omega);have hn:=h.nd (by omega);have hT:=h.t.more;have hs0:=hC.ok.s;have hsm:=hC.s;have hp:=h.p;unfold PcOk at hp;rw [h1] at hp;obtain ⟨hda,hdn,hhs,hown,hup,hok⟩:=hp;have hd:=hlv hok;have hsp:=hdn K.lv (by omega);obtain ⟨g1,g2,g3⟩:=hsp.at9.far (by omega);have hle:slotI (wordI false K.n K.T.e)<=C.s:=slot_word_le (by omega) (by omega)
 by_cases h4:f (K.L K.lv).p=(K.L K.lv).W
 ·have hM:opM C d K f=(0,upM d K (K.lv+1),Go.Proofs.YtffncfmciockmaaGreatDoor.swf f (K.L K.lv).p (K.L K.lv).W (wordI false K.n K.T.e)):=by unfold opM; rw [if_neg (by omega),if_neg (by omega),if_neg (by omega),if_neg (by omega),if_pos h1,if_pos h4]
  rw [hM] at hu;have hup:=PcOk.up (K:=K) (l:=K.lv+1) hda hdn hhs hown (by omega) hok;refine KOut.on hM (hF.swfo g1 g2 g3 hu) (hS.swf hle) ?_ (KOk.at0 ?_ ?_ ?_ hup.2 hup.1)
  ·unfold upM; rfl
  ·unfold upM; exact hT
  ·unfold upM; exact h0
  ·unfold upM; exact hn
 ·have hM:opM C d K f=(0,seekM 1 K,Go.Proofs.YtffncfmciockmaaGreatDoor.swf f (K.L K.lv).p (K.L K.lv).W (wordI false K.n K.T.e)):=by unfold opM; rw [if_neg (by omega),if_neg (by omega),if_neg (by omega),if_neg (by omega),if_pos h1,if_neg h4]
  rw [hM] at hu;exact KOut.on hM (hF.swfo g1 g2 g3 hu) (hS.swf hle) rfl (KOk.at0 hT h0 hn ⟨by show (1:Nat)≠2; decide,by show (1:Nat)≠7; decide,by show (1:Nat)≠8; decide⟩ ⟨hda,FnOk.start,.inr (.inl ⟨rfl,hhs,hown,hup,hok⟩)⟩)
theorem op6_keep (hC:CSk C) (hlv:d.ok=1->1<=d.lv/\d.lv<=((C.h.toNat:Nat):Int)) (hF:OkF C f) (hS:LnkF C f) (h:KOk C ds B d K) (hu:∀ x,InU ((opM C d K f).2.2 x)) (h1:K.pc=6):KOut C ds (B+1) d K (opM C d K f):=by
 have h0:=h.t0 (by omega);have hn:=h.nd (by omega);have hT:=h.t.more;have hs0:=hC.ok.s;have hsm:=hC.s;have hp:=h.p;unfold PcOk at hp;rw [h1] at hp;obtain ⟨hda,hdn,hhs,hown,hup,hok⟩:=hp;have hM:opM C d K f=(0,{ K with y:=f (ownP K),pc:=if markB (f (ownP K)) then 10 else if f (ownP K)=toM K then 5 else 9 },f):=by unfold opM; rw [if_neg (by omega),if_neg (by omega),if_neg (by omega),if_neg (by omega),if_neg (by omega),if_pos h1]
 by_cases h3:markB (f (ownP K))=true
 ·rw [if_pos h3] at hM;exact KOut.on hM hF hS rfl (KOk.at0 hT h0 hn ⟨by show (10:Nat)≠2; decide,by show (10:Nat)≠7; decide,by show (10:Nat)≠8; decide⟩ ⟨hda,hhs,hown⟩)
 ·rw [if_neg h3] at hM
  by_cases h4:f (ownP K)=toM K
  ·rw [if_pos h4] at hM;exact KOut.on hM hF hS rfl (KOk.at0 hT h0 hn ⟨by show (5:Nat)≠2; decide,by show (5:Nat)≠7; decide,by show (5:Nat)≠8; decide⟩ ⟨hda,hdn,hhs,hown,hup,hok⟩)
  ·rw [if_neg h4] at hM;exact KOut.on hM hF hS rfl (KOk.at0 hT h0 hn ⟨by show (9:Nat)≠2; decide,by show (9:Nat)≠7; decide,by show (9:Nat)≠8; decide⟩ ⟨hda,hdn,hhs,hown,hup,hok⟩)
theorem op9_keep (hC:CSk C) (hlv:d.ok=1->1<=d.lv/\d.lv<=((C.h.toNat:Nat):Int)) (hF:OkF C f) (hS:LnkF C f) (h:KOk C ds B d K) (hu:∀ x,InU ((opM C d K f).2.2 x)) (h1:K.pc=9):KOut C ds (B+1) d K (opM C d K f):=by
 have h0:=h.t0 (by omega);have hn:=h.nd (by omega);have hT:=h.t.more;have hs0:=hC.ok.s;have hsm:=hC.s;have hp:=h.p;unfold PcOk at hp;rw [h1] at hp;obtain ⟨hda,hdn,hhs,hown,hup,hok⟩:=hp;have hd:=hlv hok;have hat:AtOk (K.lv:Int) (ownP K):=own_at (by omega);obtain ⟨g1,g2,g3⟩:=hat.far (by omega);have hsp:=hdn K.lv (by omega);have hle:slotI (toM K)<=C.s:=slot_word_le (by omega) hsp.sw;have hM:opM C d K f=(0,{ K with pc:=if f (ownP K)=K.y then 5 else 10 },Go.Proofs.YtffncfmciockmaaGreatDoor.swf f (ownP K) K.y (toM K)):=by unfold opM; rw [if_neg (by omega),if_neg (by omega),if_neg (by omega),if_neg (by omega),if_neg (by omega),if_neg (by omega),if_pos h1]
 rw [hM] at hu;have hF2:=hF.swfo g1 g2 g3 hu;have hS2:=hS.swf (p:=ownP K) (o:=K.y) hle
 by_cases h4:f (ownP K)=K.y
 ·rw [if_pos h4] at hM;exact KOut.on hM hF2 hS2 rfl (KOk.at0 hT h0 hn ⟨by show (5:Nat)≠2; decide,by show (5:Nat)≠7; decide,by show (5:Nat)≠8; decide⟩ ⟨hda,hdn,hhs,hown,hup,hok⟩)
 ·rw [if_neg h4] at hM;exact KOut.on hM hF2 hS2 rfl (KOk.at0 hT h0 hn ⟨by show (10:Nat)≠2; decide,by show (10:Nat)≠7; decide,by show (10:Nat)≠8; decide⟩ ⟨hda,hhs,hown⟩)
theorem op10_keep (hC:CSk C) (hlv:d.ok=1->1<=d.lv/\d.lv<=((C.h.toNat:Nat):Int)) (hF:OkF C f) (hS:LnkF C f) (h:KOk C ds B d K) (hu:∀ x,InU ((opM C d K f).2.2 x)) (h1:K.pc=10):KOut C ds (B+1) d K (opM C d K f):=by
 have h0:=h.t0 (by omega);have hn:=h.nd (by omega);have hT:=h.t.more;have hs0:=hC.ok.s;have hsm:=hC.s;have hp:=h.p;unfold PcOk at hp;rw [h1] at hp;obtain ⟨hda,hhs,hown⟩:=hp;have g1:((5,K.n,6):Plc)≠(2,0,0):=by simp
 have g2:∀ i,((5,K.n,6):Plc)≠(5,i,2):=fun i h9=>by simp at h9
 have g3:((5,K.n,6):Plc)≠(1,0,0):=by simp
 have hS2:LnkF C (Go.Proofs.YtffncfmciockmaaGreatDoor.swf f (5,K.n,6) 0 1):=hS.swfo (by simp) (fun i l h0 h9=>by simp only [Prod.mk.injEq] at h9; omega)
 by_cases h4:f (5,K.n,6)=0
 ·have hM:opM C d K f=(1,{ K with dn:=true },Go.Proofs.YtffncfmciockmaaGreatDoor.swf f (5,K.n,6) 0 1):=by unfold opM; rw [if_neg (by omega),if_neg (by omega),if_neg (by omega),if_neg (by omega),if_neg (by omega),if_neg (by omega),if_neg (by omega),if_pos h1,if_pos h4]
  rw [hM] at hu;exact KOut.fin hM (hF.swfo g1 g2 g3 hu) hS2 rfl hT h0 hhs
 ·have hM:opM C d K f=(0,seekM 2 K,Go.Proofs.YtffncfmciockmaaGreatDoor.swf f (5,K.n,6) 0 1):=by unfold opM; rw [if_neg (by omega),if_neg (by omega),if_neg (by omega),if_neg (by omega),if_neg (by omega),if_neg (by omega),if_neg (by omega),if_pos h1,if_neg h4]
  rw [hM] at hu;exact KOut.on hM (hF.swfo g1 g2 g3 hu) hS2 rfl (KOk.at0 hT h0 hn ⟨by show (1:Nat)≠2; decide,by show (1:Nat)≠7; decide,by show (1:Nat)≠8; decide⟩ ⟨hda,FnOk.start,.inr (.inr ⟨rfl,hhs,hown⟩)⟩)
theorem op16_keep (hC:CSk C) (hlv:d.ok=1->1<=d.lv/\d.lv<=((C.h.toNat:Nat):Int)) (hF:OkF C f) (hS:LnkF C f) (h:KOk C ds B d K) (hu:∀ x,InU ((opM C d K f).2.2 x)) (h1:K.pc=16):KOut C ds (B+1) d K (opM C d K f):=by
 have h0:=h.t0 (by omega);have hn:=h.nd (by omega);have hT:=h.t.more;have hs0:=hC.ok.s;have hsm:=hC.s;have hp:=h.p;unfold PcOk at hp;rw [h1] at hp;obtain ⟨hda,hhs,hown⟩:=hp;have g1:((5,K.n,6):Plc)≠(2,0,0):=by simp
 have g2:∀ i,((5,K.n,6):Plc)≠(5,i,2):=fun i h9=>by simp at h9
 have g3:((5,K.n,6):Plc)≠(1,0,0):=by simp
 have hS2:LnkF C (Go.Proofs.YtffncfmciockmaaGreatDoor.swf f (5,K.n,6) 0 2):=hS.swfo (by simp) (fun i l h0 h9=>by simp only [Prod.mk.injEq] at h9; omega)
 by_cases h4:f (5,K.n,6)=0
 ·have hM:opM C d K f=(1,{ K with dn:=true },Go.Proofs.YtffncfmciockmaaGreatDoor.swf f (5,K.n,6) 0 2):=by unfold opM; rw [if_neg (by omega),if_neg (by omega),if_neg (by omega),if_neg (by omega),if_neg (by omega),if_neg (by omega),if_neg (by omega),if_neg (by omega),if_neg (by omega),if_neg (by omega),if_neg (by omega),if_neg (by omega),if_neg (by omega),if_pos h1,if_pos h4]
  rw [hM] at hu;exact KOut.fin hM (hF.swfo g1 g2 g3 hu) hS2 rfl hT h0 hhs
 ·have hM:opM C d K f=(0,seekM 2 K,Go.Proofs.YtffncfmciockmaaGreatDoor.swf f (5,K.n,6) 0 2):=by unfold opM; rw [if_neg (by omega),if_neg (by omega),if_neg (by omega),if_neg (by omega),if_neg (by omega),if_neg (by omega),if_neg (by omega),if_neg (by omega),if_neg (by omega),if_neg (by omega),if_neg (by omega),if_neg (by omega),if_neg (by omega),if_pos h1,if_neg h4]
  rw [hM] at hu;exact KOut.on hM (hF.swfo g1 g2 g3 hu) hS2 rfl (KOk.at0 hT h0 hn ⟨by show (1:Nat)≠2; decide,by show (1:Nat)≠7; decide,by show (1:Nat)≠8; decide⟩ ⟨hda,FnOk.start,.inr (.inr ⟨rfl,hhs,hown⟩)⟩)
theorem op11_keep (hC:CSk C) (hlv:d.ok=1->1<=d.lv/\d.lv<=((C.h.toNat:Nat):Int)) (hF:OkF C f) (hS:LnkF C f) (h:KOk C ds B d K) (hu:∀ x,InU ((opM C d K f).2.2 x)) (h1:K.pc=11):KOut C ds (B+1) d K (opM C d K f):=by
 have h0:=h.t0 (by omega);have hn:=h.nd (by omega);have hT:=h.t.more;have hs0:=hC.ok.s;have hsm:=hC.s;have hp:=h.p;unfold PcOk at hp;rw [h1] at hp;obtain ⟨hda,hhs,hown⟩:=hp;have hM:opM C d K f=(0,{ K with y:=f (5,K.n,5),pc:=12 },f):=by unfold opM; rw [if_neg (by omega),if_neg (by omega),if_neg (by omega),if_neg (by omega),if_neg (by omega),if_neg (by omega),if_neg (by omega),if_neg (by omega),if_pos h1]
 exact KOut.on hM hF hS rfl (KOk.at0 hT h0 hn ⟨by show (12:Nat)≠2; decide,by show (12:Nat)≠7; decide,by show (12:Nat)≠8; decide⟩ ⟨hda,hhs,hown,hF.u _⟩)
theorem op12_keep (hC:CSk C) (hlv:d.ok=1->1<=d.lv/\d.lv<=((C.h.toNat:Nat):Int)) (hF:OkF C f) (hS:LnkF C f) (h:KOk C ds B d K) (hu:∀ x,InU ((opM C d K f).2.2 x)) (h1:K.pc=12):KOut C ds (B+1) d K (opM C d K f):=by
 have h0:=h.t0 (by omega);have hn:=h.nd (by omega);have hT:=h.t.more;have hs0:=hC.ok.s;have hsm:=hC.s;have hp:=h.p;unfold PcOk at hp;rw [h1] at hp;obtain ⟨hda,hhs,hown,hy⟩:=hp;have hh:=hC.h
 by_cases hok:okB (f (1,0,0)) K.T.e=true
 ·have hM:opM C d K f=(0,{ K with lv:=if 1<=K.y/\K.y<=C.h then (K.y - 1).toNat else 0,pc:=13 },f):=by unfold opM; rw [if_neg (by omega),if_neg (by omega),if_neg (by omega),if_neg (by omega),if_neg (by omega),if_neg (by omega),if_neg (by omega),if_neg (by omega),if_neg (by omega),if_pos h1,if_pos hok]
  exact KOut.on hM hF hS rfl (KOk.at0 hT h0 hn ⟨by show (13:Nat)≠2; decide,by show (13:Nat)≠7; decide,by show (13:Nat)≠8; decide⟩ ⟨hda,hhs,hown,by
   show (if 1<=K.y/\K.y<=C.h then (K.y - 1).toNat else 0) < C.h.toNat
   split<;>omega⟩)
 ·have hM:opM C d K f=(0,seekM 0 { K with r:=wrap64 (K.r+1) },f):=by unfold opM; rw [if_neg (by omega),if_neg (by omega),if_neg (by omega),if_neg (by omega),if_neg (by omega),if_neg (by omega),if_neg (by omega),if_neg (by omega),if_neg (by omega),if_pos h1,if_neg hok]
  exact KOut.on hM hF hS rfl (KOk.at0 hT h0 hn ⟨by show (1:Nat)≠2; decide,by show (1:Nat)≠7; decide,by show (1:Nat)≠8; decide⟩ ⟨hda,FnOk.start,.inl ⟨rfl,fun h9=>absurd hhs h9⟩⟩)
theorem op13_keep (hC:CSk C) (hlv:d.ok=1->1<=d.lv/\d.lv<=((C.h.toNat:Nat):Int)) (hF:OkF C f) (hS:LnkF C f) (h:KOk C ds B d K) (hu:∀ x,InU ((opM C d K f).2.2 x)) (h1:K.pc=13):KOut C ds (B+1) d K (opM C d K f):=by
 have h0:=h.t0 (by omega);have hn:=h.nd (by omega);have hT:=h.t.more;have hs0:=hC.ok.s;have hsm:=hC.s;have hp:=h.p;unfold PcOk at hp;rw [h1] at hp;obtain ⟨hda,hhs,hown,hl⟩:=hp;have hM:opM C d K f=(0,{ K with y:=f (ownP K),pc:=14 },f):=by unfold opM; rw [if_neg (by omega),if_neg (by omega),if_neg (by omega),if_neg (by omega),if_neg (by omega),if_neg (by omega),if_neg (by omega),if_neg (by omega),if_neg (by omega),if_neg (by omega),if_pos h1]
 exact KOut.on hM hF hS rfl (KOk.at0 hT h0 hn ⟨by show (14:Nat)≠2; decide,by show (14:Nat)≠7; decide,by show (14:Nat)≠8; decide⟩ ⟨hda,hhs,hown,hl,hF.u _,hS.link _ _ (by omega)⟩)
theorem op14_keep (hC:CSk C) (hlv:d.ok=1->1<=d.lv/\d.lv<=((C.h.toNat:Nat):Int)) (hF:OkF C f) (hS:LnkF C f) (h:KOk C ds B d K) (hu:∀ x,InU ((opM C d K f).2.2 x)) (h1:K.pc=14):KOut C ds (B+1) d K (opM C d K f):=by
 have h0:=h.t0 (by omega);have hn:=h.nd (by omega);have hT:=h.t.more;have hs0:=hC.ok.s;have hsm:=hC.s;have hp:=h.p;unfold PcOk at hp;rw [h1] at hp;obtain ⟨hda,hhs,hown,hl,hy,hys⟩:=hp
 by_cases hok:okB (f (1,0,0)) K.T.e=true
 ·cases hmk:markB K.y
  ·have hM:opM C d K f=(0,{ K with pc:=15 },f):=by unfold opM; rw [if_neg (by omega),if_neg (by omega),if_neg (by omega),if_neg (by omega),if_neg (by omega),if_neg (by omega),if_neg (by omega),if_neg (by omega),if_neg (by omega),if_neg (by omega),if_neg (by omega),if_pos h1,if_pos hok,hmk]; rfl
   exact KOut.on hM hF hS rfl (KOk.at0 hT h0 hn ⟨by show (15:Nat)≠2; decide,by show (15:Nat)≠7; decide,by show (15:Nat)≠8; decide⟩ ⟨hda,hhs,hown,hl,hy,hys,hmk⟩)
  ·by_cases hz:K.lv=0
   ·have hM:opM C d K f=(0,seekM 0 K,f):=by unfold opM; rw [if_neg (by omega),if_neg (by omega),if_neg (by omega),if_neg (by omega),if_neg (by omega),if_neg (by omega),if_neg (by omega),if_neg (by omega),if_neg (by omega),if_neg (by omega),if_neg (by omega),if_pos h1,if_pos hok,hmk,if_pos rfl,if_pos hz]
    exact KOut.on hM hF hS rfl (KOk.at0 hT h0 hn ⟨by show (1:Nat)≠2; decide,by show (1:Nat)≠7; decide,by show (1:Nat)≠8; decide⟩ ⟨hda,FnOk.start,.inl ⟨rfl,fun h9=>absurd hhs h9⟩⟩)
   ·have hM:opM C d K f=(0,{ K with lv:=K.lv - 1,pc:=13 },f):=by unfold opM; rw [if_neg (by omega),if_neg (by omega),if_neg (by omega),if_neg (by omega),if_neg (by omega),if_neg (by omega),if_neg (by omega),if_neg (by omega),if_neg (by omega),if_neg (by omega),if_neg (by omega),if_pos h1,if_pos hok,hmk,if_pos rfl,if_neg hz]
    exact KOut.on hM hF hS rfl (KOk.at0 hT h0 hn ⟨by show (13:Nat)≠2; decide,by show (13:Nat)≠7; decide,by show (13:Nat)≠8; decide⟩ ⟨hda,hhs,hown,by show K.lv - 1 < C.h.toNat; omega⟩)
 ·have hM:opM C d K f=(0,seekM 0 { K with r:=wrap64 (K.r+1) },f):=by unfold opM; rw [if_neg (by omega),if_neg (by omega),if_neg (by omega),if_neg (by omega),if_neg (by omega),if_neg (by omega),if_neg (by omega),if_neg (by omega),if_neg (by omega),if_neg (by omega),if_neg (by omega),if_pos h1,if_neg hok]
  exact KOut.on hM hF hS rfl (KOk.at0 hT h0 hn ⟨by show (1:Nat)≠2; decide,by show (1:Nat)≠7; decide,by show (1:Nat)≠8; decide⟩ ⟨hda,FnOk.start,.inl ⟨rfl,fun h9=>absurd hhs h9⟩⟩)
theorem op15_keep (hC:CSk C) (hlv:d.ok=1->1<=d.lv/\d.lv<=((C.h.toNat:Nat):Int)) (hF:OkF C f) (hS:LnkF C f) (h:KOk C ds B d K) (hu:∀ x,InU ((opM C d K f).2.2 x)) (h1:K.pc=15):KOut C ds (B+1) d K (opM C d K f):=by
 have h0:=h.t0 (by omega);have hn:=h.nd (by omega);have hT:=h.t.more;have hs0:=hC.ok.s;have hsm:=hC.s;have hp:=h.p;unfold PcOk at hp;rw [h1] at hp;obtain ⟨hda,hhs,hown,hl,hy,hys,hmk⟩:=hp;have hat:AtOk (K.lv:Int) (ownP K):=own_at (by omega);obtain ⟨g1,g2,g3⟩:=hat.far (by omega);have hle:slotI (wordI true (slotI K.y) K.T.e)<=C.s:=slot_word_le (by omega) hys;have hM:opM C d K f=(0,(if f (ownP K)=K.y then (if K.lv=0 then { K with pc:=16 } else { K with lv:=K.lv - 1,pc:=13 }) else { K with pc:=13 }),Go.Proofs.YtffncfmciockmaaGreatDoor.swf f (ownP K) K.y (wordI true (slotI K.y) K.T.e)):=by unfold opM; rw [if_neg (by omega),if_neg (by omega),if_neg (by omega),if_neg (by omega),if_neg (by omega),if_neg (by omega),if_neg (by omega),if_neg (by omega),if_neg (by omega),if_neg (by omega),if_neg (by omega),if_neg (by omega),if_pos h1]
 rw [hM] at hu;have hF2:=hF.swfo g1 g2 g3 hu;have hS2:=hS.swf (p:=ownP K) (o:=K.y) hle
 by_cases h4:f (ownP K)=K.y
 ·rw [if_pos h4] at hM
  by_cases hz:K.lv=0
  ·rw [if_pos hz] at hM;exact KOut.on hM hF2 hS2 rfl (KOk.at0 hT h0 hn ⟨by show (16:Nat)≠2; decide,by show (16:Nat)≠7; decide,by show (16:Nat)≠8; decide⟩ ⟨hda,hhs,hown⟩)
  ·rw [if_neg hz] at hM;exact KOut.on hM hF2 hS2 rfl (KOk.at0 hT h0 hn ⟨by show (13:Nat)≠2; decide,by show (13:Nat)≠7; decide,by show (13:Nat)≠8; decide⟩ ⟨hda,hhs,hown,by show K.lv - 1 < C.h.toNat; omega⟩)
 ·rw [if_neg h4] at hM;exact KOut.on hM hF2 hS2 rfl (KOk.at0 hT h0 hn ⟨by show (13:Nat)≠2; decide,by show (13:Nat)≠7; decide,by show (13:Nat)≠8; decide⟩ ⟨hda,hhs,hown,hl⟩)
end
section
variable {w0 w w':World} {R N:List Item} {C:Cf} {X:Tm} {V:Wm} {d:Dd} {o n n':Nat} {K K':Kt} {f f':Mem} {G G':Nat->Prop} {qc qc':Cnt} {q:Int × Kt × Mem}
theorem op11_p {fp:Value} {l t y:Int} (hpc:K.pc=11) (hwf:Wf (5,K.n,5))  (hh:1<=C.h.toNat/\C.h.toNat<=1000) (hg:Glo w0) (hn:n < maxLen) (hE:Env w0 (boxI o (opS X.c d.ok d.key d.val d.lv (mvL 157 o) 0 fp K.n l t y K.an 0 false)::LT (SPK C X V K f G qc n) R) w) :
  Calls prog 16 #[.pointer (some ⟨o,0,none⟩),.iface 28 (.pointer (some ⟨V.p,0,none⟩))] w fun e w'=>∃ s,e=.returned (.int .i64 s)/\OutP w0 R C X V d o n qc (opM C d K f) s w':=by
 refine stepMv_s 157 _ (fun _ _=>by kernel_rfl) _ hE ?_;refine (loadTop_s (S:=(SPK C X V K f G qc n)) (f (5,K.n,5)) rfl hwf hE).mono ?_;rintro e w1 ⟨rfl,c1,c2,hE1⟩;exact ⟨0,rfl,OutP.on (K':={ K with y:=f (5,K.n,5),pc:=12 }) (f':=f) (G':=G) (ps':=[_,_,_]) (by unfold opM; rw [if_neg (by omega),if_neg (by omega),if_neg (by omega),if_neg (by omega),if_neg (by omega),if_neg (by omega),if_neg (by omega),if_neg (by omega),if_pos hpc]) nxL (.inr (.inr (.inr (.inr (.inl ⟨rfl,c1,c2,fp,l,y,rfl⟩))))) hE1⟩
theorem op13_p {fp:Value} {t y:Int} (hpc:K.pc=13) (hwf:Wf (5,K.n,7+(K.lv:Int))) (hlv:K.lv < C.h.toNat) (hh:1<=C.h.toNat/\C.h.toNat<=1000) (hg:Glo w0) (hn:n < maxLen) (hE:Env w0 (boxI o (opS X.c d.ok d.key d.val d.lv (mvL 218 o) 0 fp K.n (K.lv:Int) t y K.an 0 false)::LT (SPK C X V K f G qc n) R) w) :
  Calls prog 16 #[.pointer (some ⟨o,0,none⟩),.iface 28 (.pointer (some ⟨V.p,0,none⟩))] w fun e w'=>∃ s,e=.returned (.int .i64 s)/\OutP w0 R C X V d o n qc (opM C d K f) s w':=by
 refine stepMv_s 218 _ (fun _ _=>by kernel_rfl) _ hE ?_;refine (loadLink_s (S:=(SPK C X V K f G qc n)) (l8:=K.lv) (f (ownP K)) rfl hwf (by omega) hE).mono ?_;rintro e w1 ⟨rfl,c1,c2,hE1⟩;exact ⟨0,rfl,OutP.on (K':={ K with y:=f (ownP K),pc:=14 }) (f':=f) (G':=G) (ps':=[_,_,_]) (by unfold opM; rw [if_neg (by omega),if_neg (by omega),if_neg (by omega),if_neg (by omega),if_neg (by omega),if_neg (by omega),if_neg (by omega),if_neg (by omega),if_neg (by omega),if_neg (by omega),if_pos hpc]) nxL (.inr (.inr (.inr (.inr (.inr (.inl ⟨rfl,c1,c2,fp,t,rfl⟩)))))) hE1⟩
theorem op15_p {fp:Value} {t y:Int} (hpc:K.pc=15) (hwf:Wf (5,K.n,7+(K.lv:Int))) (hlv:K.lv < C.h.toNat) (hy:InU K.y) (hmk:markB K.y=false) (hh:1<=C.h.toNat/\C.h.toNat<=1000) (hg:Glo w0) (hn:n < maxLen) (hE:Env w0 (boxI o (opS X.c d.ok d.key d.val d.lv (mvL 277 o) 0 fp K.n (K.lv:Int) t K.y K.an 0 false)::LT (SPK C X V K f G qc n) R) w) :
  Calls prog 16 #[.pointer (some ⟨o,0,none⟩),.iface 28 (.pointer (some ⟨V.p,0,none⟩))] w fun e w'=>∃ s,e=.returned (.int .i64 s)/\OutP w0 R C X V d o n qc (opM C d K f) s w':=by
 refine stepMv_s 277 _ (fun _ _=>by kernel_rfl) _ hE ?_;have ho:opM C d K f=(0,(if f (ownP K)=K.y then (if K.lv=0 then { K with pc:=16 } else { K with lv:=K.lv - 1,pc:=13 }) else { K with pc:=13 }),swf f (ownP K) K.y (wordI true (slotI K.y) K.T.e)):=by unfold opM; rw [if_neg (by omega),if_neg (by omega),if_neg (by omega),if_neg (by omega),if_neg (by omega),if_neg (by omega),if_neg (by omega),if_neg (by omega),if_neg (by omega),if_neg (by omega),if_neg (by omega),if_neg (by omega),if_pos hpc]
 by_cases h1:f (ownP K)=K.y
 ·rw [if_pos h1] at ho
  by_cases h0:K.lv=0
  ·rw [if_pos h0] at ho;refine (markEnd_s (S:=(SPK C X V K f G qc n)) (l8:=K.lv) h1 h0 hwf hy hmk hg hn (by omega) hE).mono ?_;rintro e w1 ⟨rfl,G',hE1⟩;exact ⟨0,rfl,OutP.on (K':={ K with pc:=16 }) (G':=G') (ps':=[_]) ho nxW (.inr (.inr (.inr (.inl ⟨.inr (.inr (.inr (.inr rfl))),fp,(K.lv:Int),t,K.y,rfl,fun h=>h.elim (fun h=>absurd (show (16:Nat)=13 from h) (by decide)) (fun h=>absurd (show (16:Nat)=15 from h) (by decide)),fun h=>absurd (show (16:Nat)=15 from h) (by decide)⟩)))) hE1⟩
  ·rw [if_neg h0] at ho;refine (markDown_s (S:=(SPK C X V K f G qc n)) (l8:=K.lv) h1 (by omega) hwf hy hmk hg hn (by omega) hE).mono ?_;rintro e w1 ⟨rfl,G',hE1⟩;exact ⟨0,rfl,OutP.on (K':={ K with lv:=K.lv - 1,pc:=13 }) (G':=G') (ps':=[_]) ho nxW (.inr (.inr (.inr (.inl ⟨.inr (.inr (.inl rfl)),fp,((K.lv - 1:Nat):Int),t,K.y,rfl,fun _=>rfl,fun h=>absurd (show (13:Nat)=15 from h) (by decide)⟩)))) hE1⟩
 ·rw [if_neg h1] at ho;refine (markNo_s (S:=(SPK C X V K f G qc n)) (l8:=K.lv) h1 hwf hy hmk hg hn (by omega) hE).mono ?_;rintro e w1 ⟨rfl,G',hE1⟩;exact ⟨0,rfl,OutP.on (K':={ K with pc:=13 }) (G':=G') (ps':=[_]) ho nxW (.inr (.inr (.inr (.inl ⟨.inr (.inr (.inl rfl)),fp,(K.lv:Int),t,K.y,rfl,fun _=>rfl,fun h=>absurd (show (13:Nat)=15 from h) (by decide)⟩)))) hE1⟩
theorem op12_p {fp:Value} {l y:Int} {b1 b2:Nat} (hpc:K.pc=12) (hy:InU K.y) (hh:1<=C.h.toNat/\C.h.toNat<=1000) (hck:C.k=3) (hch:C.h=(C.h.toNat:Int)) (hg:Glo w0) (hn:n < maxLen) (hE:Env w0 (boxI o (opS X.c d.ok d.key d.val d.lv (cvS b1 b2) 0 fp K.n l K.y y K.an 0 false)::boxI b1 [.pointer (some ⟨o,0,none⟩)]::boxI b2 [mvL 187 o]::LT (SPK C X V K f G qc n) R) w) :
  Calls prog 16 #[.pointer (some ⟨o,0,none⟩),.iface 28 (.pointer (some ⟨V.p,0,none⟩))] w fun e w'=>∃ s,e=.returned (.int .i64 s)/\OutP w0 R C X V d o n qc (opM C d K f) s w':=by
 refine stepCv_s _ (fun s w'=>OutP w0 R C X V d o n qc (opM C d K f) s w') hE ?_
 by_cases hok:okB (f (1,0,0)) K.T.e=true
 ·refine valdYes_s (S:=(SPK C X V K f G qc n)) 187 b1 b2 (fun _ _=>by kernel_rfl) _ hok hE fun v hv=>?_;refine (behindTop_s (h:=C.h.toNat) hh hy 0 (by show _=some (coreI _ _ _ _ ((C.h.toNat:Nat):Int) _ _ _ _ _ _); rw [<- hch]; rfl) hv).mono ?_;rintro e w1 ⟨rfl,hE1⟩;refine ⟨0,rfl,OutP.on (K':={ K with lv:=if 1<=K.y/\K.y<=C.h then (K.y - 1).toNat else 0,pc:=13 }) (f':=f) (G':=G) (ps':=[_]) (by unfold opM; rw [if_neg (by omega),if_neg (by omega),if_neg (by omega),if_neg (by omega),if_neg (by omega),if_neg (by omega),if_neg (by omega),if_neg (by omega),if_neg (by omega),if_pos hpc,if_pos hok]) nxL (.inr (.inr (.inr (.inl ⟨.inr (.inr (.inl rfl)),fp,_,K.y,y,rfl,fun _=>rfl,fun h=>absurd (show (13:Nat)=15 from h) (by decide)⟩)))) ?_⟩;rw [<- hch] at hE1;exact hE1
 ·have hok2:okB (f (1,0,0)) K.T.e=false:=by simpa using hok
  refine (valdNo_s (S:=(SPK C X V K f G qc n)) (h:=C.h.toNat) 187 b1 b2 hok2 hh.2 hck hch hE).mono ?_;rintro e w1 ⟨rfl,c1,c2,fb,g,hE1⟩;exact ⟨0,rfl,OutP.find (N:=[]) (K':={ K with r:=wrap64 (K.r+1) }) (f':=f) (G':=G) (a:=0) (by unfold opM; rw [if_neg (by omega),if_neg (by omega),if_neg (by omega),if_neg (by omega),if_neg (by omega),if_neg (by omega),if_neg (by omega),if_neg (by omega),if_neg (by omega),if_pos hpc,if_neg hok]; rfl) rfl (fun h=>absurd rfl h) (fun h=>absurd h (by decide)) nxL hE1⟩
theorem op14_p {fp:Value} {t:Int} {b1 b2:Nat} (hpc:K.pc=14) (hy:InU K.y) (hlv:K.lv < C.h.toNat) (hh:1<=C.h.toNat/\C.h.toNat<=1000) (hck:C.k=3) (hch:C.h=(C.h.toNat:Int)) (hg:Glo w0) (hn:n < maxLen) (hE:Env w0 (boxI o (opS X.c d.ok d.key d.val d.lv (cvS b1 b2) 0 fp K.n (K.lv:Int) t K.y K.an 0 false)::boxI b1 [.pointer (some ⟨o,0,none⟩)]::boxI b2 [mvL 246 o]::LT (SPK C X V K f G qc n) R) w) :
  Calls prog 16 #[.pointer (some ⟨o,0,none⟩),.iface 28 (.pointer (some ⟨V.p,0,none⟩))] w fun e w'=>∃ s,e=.returned (.int .i64 s)/\OutP w0 R C X V d o n qc (opM C d K f) s w':=by
 refine stepCv_s _ (fun s w'=>OutP w0 R C X V d o n qc (opM C d K f) s w') hE ?_
 by_cases hok:okB (f (1,0,0)) K.T.e=true
 ·refine valdYes_s (S:=(SPK C X V K f G qc n)) 246 b1 b2 (fun _ _=>by kernel_rfl) _ hok hE fun v hv=>?_;cases hmk:markB K.y
  ·refine (linkMark_s hy hmk hg hv).mono ?_;rintro e w1 ⟨rfl,hE1⟩;exact ⟨0,rfl,OutP.on (K':={ K with pc:=15 }) (f':=f) (G':=G) (ps':=[_]) (by unfold opM; rw [if_neg (by omega),if_neg (by omega),if_neg (by omega),if_neg (by omega),if_neg (by omega),if_neg (by omega),if_neg (by omega),if_neg (by omega),if_neg (by omega),if_neg (by omega),if_neg (by omega),if_pos hpc,if_pos hok,hmk]; rfl) nxL (.inr (.inr (.inr (.inl ⟨.inr (.inr (.inr (.inl rfl))),fp,(K.lv:Int),t,K.y,rfl,fun _=>rfl,fun _=>rfl⟩)))) hE1⟩
  ·by_cases h0:K.lv=0
   ·refine (linkFind_s (h:=C.h.toNat) (l8:=K.lv) hy hmk h0 hg hh.2 0 (by show _=some (coreI _ 3 _ _ ((C.h.toNat:Nat):Int) _ _ _ _ _ _); rw [<- hch,<- hck]; rfl) hv).mono ?_;rintro e w1 ⟨rfl,c1,c2,fb,g,hE1⟩;exact ⟨0,rfl,OutP.find (N:=[]) (K':=K) (f':=f) (G':=G) (a:=0) (by unfold opM; rw [if_neg (by omega),if_neg (by omega),if_neg (by omega),if_neg (by omega),if_neg (by omega),if_neg (by omega),if_neg (by omega),if_neg (by omega),if_neg (by omega),if_neg (by omega),if_neg (by omega),if_pos hpc,if_pos hok,hmk,if_pos rfl,if_pos h0]; rfl) rfl (fun h=>absurd rfl h) (fun h=>absurd h (by decide)) nxL hE1⟩
   ·refine (linkDown_s (l8:=K.lv) hy hmk (by omega) (by omega) hg hv).mono ?_;rintro e w1 ⟨rfl,hE1⟩;exact ⟨0,rfl,OutP.on (K':={ K with lv:=K.lv - 1,pc:=13 }) (f':=f) (G':=G) (ps':=[_]) (by unfold opM; rw [if_neg (by omega),if_neg (by omega),if_neg (by omega),if_neg (by omega),if_neg (by omega),if_neg (by omega),if_neg (by omega),if_neg (by omega),if_neg (by omega),if_neg (by omega),if_neg (by omega),if_pos hpc,if_pos hok,hmk,if_pos rfl,if_neg h0]) nxL (.inr (.inr (.inr (.inl ⟨.inr (.inr (.inl rfl)),fp,((K.lv - 1:Nat):Int),t,K.y,rfl,fun _=>rfl,fun h=>absurd (show (13:Nat)=15 from h) (by decide)⟩)))) hE1⟩
 ·have hok2:okB (f (1,0,0)) K.T.e=false:=by simpa using hok
  refine (valdNo_s (S:=(SPK C X V K f G qc n)) (h:=C.h.toNat) 246 b1 b2 hok2 hh.2 hck hch hE).mono ?_;rintro e w1 ⟨rfl,c1,c2,fb,g,hE1⟩;exact ⟨0,rfl,OutP.find (N:=[]) (K':={ K with r:=wrap64 (K.r+1) }) (f':=f) (G':=G) (a:=0) (by unfold opM; rw [if_neg (by omega),if_neg (by omega),if_neg (by omega),if_neg (by omega),if_neg (by omega),if_neg (by omega),if_neg (by omega),if_neg (by omega),if_neg (by omega),if_neg (by omega),if_neg (by omega),if_pos hpc,if_neg hok]; rfl) rfl (fun h=>absurd rfl h) (fun h=>absurd h (by decide)) nxL hE1⟩
end
section
variable {w0 w w':World} {R N:List Item} {C:Cf} {X:Tm} {V:Wm} {d:Dd} {o n n':Nat} {K K':Kt} {f f':Mem} {G G':Nat->Prop} {qc qc':Cnt} {q:Int × Kt × Mem}
theorem OutP.lift {F9:Nat->Prop} {k9:Nat} {s:Int} (h:OutP w0 R C { X with F:=F9,kq:=k9 } V d o n qc q s w'):OutP w0 R C X V d o n qc q s w':=h
theorem rest_perm (a b c:Item) (S:ST) (sub R:List Item):(a::b::c::(sub++LT S R)).Perm (sub++LT S (a::b::c::R)):=perm_of fun z=>by
 simp only [LT,List.count_append,List.count_cons];omega
theorem drop4 {a b c e:Item} {S:ST} (hE:Env w0 (a::b::c::e::LT S (N++R)) w):Env w0 (a::b::c::e::LT S R) w :=
 (hE.perm (L':=N++(a::b::c::e::LT S R)) (perm_of fun z=>by simp only [LT,List.count_append,List.count_cons]; omega)).sub (List.sublist_append_right _ _)
theorem drop_t {T:Th} (h:T.hs=0):{ T with ql:=dropQ T.hs T.ql,hs:=0 }=T:=by
 obtain ⟨⟩:=T;dsimp only at h ⊢;subst h;rfl
theorem behind1_p {F:Fd} {nx:Value} {qc0:Cnt} {n1:Nat} {n0 l t y:Int} (hft:K.ft=1) (hF:FdOk F C.h.toNat) (hh:1<=C.h.toNat/\C.h.toNat<=1000) (hn1:Nx n qc0 n1 qc) (u:Int) (hE:Env w0 (boxI o (opS X.c d.ok d.key d.val d.lv nx 0 (.pointer (some ⟨F.fb,0,none⟩)) K.n (K.lv:Int) t y K.an 0 false)::LT (SPK C X V K f G qc n1) (F.its X.c d.key K.L C.h.toNat++R)) w) :
  Calls prog 276 #[.pointer (some ⟨o,0,none⟩),.int .i64 u] w fun e2 w2=>∃ s2,e2=.returned (.int .i64 s2)/\OutP w0 R C X V d o n qc0 ((behindM C d K).1,(behindM C d K).2,f) s2 w2:=by
 have hI:FdIn F X.c d.key K.L C.h.toNat (F.its X.c d.key K.L C.h.toNat++R):=its_in hF hh;have hI2:FdIn F X.c d.key K.L C.h.toNat (LT (SPK C X V K f G qc n1) (F.its X.c d.key K.L C.h.toNat++R)):=hI.more fun a ha=>by unfold LT; simp only [List.mem_cons]; exact .inr (.inr (.inr (.inr ha)))
 refine (foundAnew_s (L:=K.L) (h:=C.h.toNat) u hI2 hE).mono ?_;rintro e w1 ⟨rfl,hE1⟩;have hM:behindM C d K=(0,{ K with an:=true,pc:=if (K.L 0).C=K.n then 6 else 10 }):=by unfold behindM; rw [if_pos hft]
 rw [hM]
 by_cases h1:(K.L 0).C=K.n
 ·rw [if_pos h1] at hE1;exact ⟨0,rfl,OutP.on (K':={ K with an:=true,pc:=6 }) (f':=f) (G':=G) (ps':=_::F.its X.c d.key K.L C.h.toNat) (by rw [if_pos h1]) hn1 (.inr (.inr (.inl ⟨.inr (.inr (.inr (.inl rfl))),F,t,y,rfl,hF,fun h=>absurd (show (6:Nat)=9 from h) (by decide)⟩))) (hE1.perm its_perm.symm)⟩
 ·rw [if_neg h1] at hE1;exact ⟨0,rfl,OutP.on (K':={ K with an:=true,pc:=10 }) (f':=f) (G':=G) (ps':=[_]) (by rw [if_neg h1]) hn1 (.inr (.inr (.inr (.inl ⟨.inl rfl,(.pointer (some ⟨F.fb,0,none⟩)),(K.lv:Int),t,y,rfl,fun h=>h.elim (fun h=>absurd (show (10:Nat)=13 from h) (by decide)) (fun h=>absurd (show (10:Nat)=15 from h) (by decide)),fun h=>absurd (show (10:Nat)=15 from h) (by decide)⟩)))) (drop_its hE1)⟩
theorem behind2_p {F:Fd} {nx:Value} {qc0:Cnt} {n1:Nat} {n0 l t y:Int} (hft:K.ft=2) (hF:FdOk F C.h.toNat) (hh:1<=C.h.toNat/\C.h.toNat<=1000) (hn1:Nx n qc0 n1 qc) (u:Int) (hE:Env w0 (boxI o (opS X.c d.ok d.key d.val d.lv nx 0 (.pointer (some ⟨F.fb,0,none⟩)) K.n l t y K.an 0 false)::LT (SPK C X V K f G qc n1) (F.its X.c d.key K.L C.h.toNat++R)) w) :
  Calls prog 292 #[.pointer (some ⟨o,0,none⟩),.int .i64 u] w fun e2 w2=>∃ s2,e2=.returned (.int .i64 s2)/\OutP w0 R C X V d o n qc0 ((behindM C d K).1,(behindM C d K).2,f) s2 w2:=by
 refine (retire_s u hE).mono ?_;rintro e w1 ⟨rfl,c1,c2,r,hE1⟩;have hM:behindM C d K=(0,{ K with pc:=7,T:={ K.T with pc:=3,rs:=K.n,rpc:=0,re:=0 } }):=by unfold behindM; rw [if_neg (by omega),if_pos hft]
 rw [hM];have hE2:=drop4 hE1;exact ⟨0,rfl,OutP.on (K':={ K with pc:=7,T:={ K.T with pc:=3,rs:=K.n,rpc:=0,re:=0 } }) (f':=f) (G':=G) (ps':=[_,_,_,_]) rfl hn1 (.inr (.inr (.inr (.inr (.inr (.inr ⟨rfl,c1,c2,(.pointer (some ⟨F.fb,0,none⟩)),K.n,l,t,y,r,rfl⟩)))))) hE2⟩
theorem behindHas_p {F:Fd} {nx:Value} {qc0:Cnt} {n1:Nat} {n0 l t y:Int} (hft:K.ft≠1/\K.ft≠2) (hda:K.err=0/\K.dn=false) (h1:d.ok≠1) (h2:d.ok≠2) (hF:FdOk F C.h.toNat) (hh:1<=C.h.toNat/\C.h.toNat<=1000) (hn1:Nx n qc0 n1 qc) (u:Int) (hE:Env w0 (boxI o (opS X.c d.ok d.key d.val d.lv nx 0 (.pointer (some ⟨F.fb,0,none⟩)) n0 l t y K.an 0 false)::LT (SPK C X V K f G qc n1) (F.its X.c d.key K.L C.h.toNat++R)) w) :
  Calls prog 100 #[.pointer (some ⟨o,0,none⟩),.int .i64 u] w fun e2 w2=>∃ s2,e2=.returned (.int .i64 s2)/\OutP w0 R C X V d o n qc0 ((behindM C d K).1,(behindM C d K).2,f) s2 w2:=by
 have hI:FdIn F X.c d.key K.L C.h.toNat (F.its X.c d.key K.L C.h.toNat++R):=its_in hF hh;have hI2:FdIn F X.c d.key K.L C.h.toNat (LT (SPK C X V K f G qc n1) (F.its X.c d.key K.L C.h.toNat++R)):=hI.more fun a ha=>by unfold LT; simp only [List.mem_cons]; exact .inr (.inr (.inr (.inr ha)))
 refine (seaHas_s (L:=K.L) (h:=C.h.toNat) u h1 h2 hI2 hE).mono ?_;rintro e w1 ⟨rfl,hE1⟩;have hM:behindM C d K=(1,{ K with dn:=(K.L 0).fd }):=by unfold behindM; rw [if_neg hft.1,if_neg hft.2,if_neg h1,if_neg h2]
 rw [hM];exact ⟨1,rfl,OutP.fin (K':={ K with dn:=(K.L 0).fd }) (f':=f) (G':=G) rfl (by decide) hn1 (by dsimp only; rw [hda.1]; exact drop_its hE1)⟩
theorem behindDel_p {F:Fd} {nx:Value} {qc0:Cnt} {n1:Nat} {n0 l t y:Int} (hft:K.ft≠1/\K.ft≠2) (hda:K.err=0/\K.dn=false) (h2:d.ok=2) (hF:FdOk F C.h.toNat) (hh:1<=C.h.toNat/\C.h.toNat<=1000) (hn1:Nx n qc0 n1 qc) (u:Int) (hE:Env w0 (boxI o (opS X.c d.ok d.key d.val d.lv nx 0 (.pointer (some ⟨F.fb,0,none⟩)) n0 l t y K.an 0 false)::LT (SPK C X V K f G qc n1) (F.its X.c d.key K.L C.h.toNat++R)) w) :
  Calls prog 100 #[.pointer (some ⟨o,0,none⟩),.int .i64 u] w fun e2 w2=>∃ s2,e2=.returned (.int .i64 s2)/\OutP w0 R C X V d o n qc0 ((behindM C d K).1,(behindM C d K).2,f) s2 w2:=by
 have hI:FdIn F X.c d.key K.L C.h.toNat (F.its X.c d.key K.L C.h.toNat++R):=its_in hF hh;have hI2:FdIn F X.c d.key K.L C.h.toNat (LT (SPK C X V K f G qc n1) (F.its X.c d.key K.L C.h.toNat++R)):=hI.more fun a ha=>by unfold LT; simp only [List.mem_cons]; exact .inr (.inr (.inr (.inr ha)))
 have hd2:boxI o (opS X.c d.ok d.key d.val d.lv nx 0 (.pointer (some ⟨F.fb,0,none⟩)) n0 l t y K.an 0 false)=boxI o (opS X.c 2 d.key d.val d.lv nx 0 (.pointer (some ⟨F.fb,0,none⟩)) n0 l t y K.an 0 false):=by rw [h2]
 rw [hd2] at hE;refine seaDel_s u _ hE ?_;cases hfd:(K.L 0).fd
 ·refine (removeNo_s (L:=K.L) (h:=C.h.toNat) hI2 hfd hE).mono ?_;rintro e w1 ⟨rfl,hE1⟩;have hM:behindM C d K=(1,K):=by unfold behindM; rw [if_neg hft.1,if_neg hft.2,if_neg (by omega),if_pos h2,hfd]; rfl
  rw [hM];exact ⟨1,rfl,OutP.fin (K':=K) (f':=f) (G':=G) rfl (by decide) hn1 (by rw [hda.1,hda.2,h2]; exact drop_its hE1)⟩
 ·refine (removeYes_s (L:=K.L) (h:=C.h.toNat) hI2 hfd hE).mono ?_;rintro e w1 ⟨rfl,hE1⟩;have hM:behindM C d K=(0,{ K with pc:=11,n:=(K.L 0).C }):=by unfold behindM; rw [if_neg hft.1,if_neg hft.2,if_neg (by omega),if_pos h2,hfd]; rfl
  rw [hM];exact ⟨0,rfl,OutP.on (K':={ K with pc:=11,n:=(K.L 0).C }) (f':=f) (G':=G) (ps':=[_]) rfl hn1 (.inr (.inr (.inr (.inl ⟨.inr (.inl rfl),(.pointer (some ⟨F.fb,0,none⟩)),l,t,y,rfl,fun h=>h.elim (fun h=>absurd (show (11:Nat)=13 from h) (by decide)) (fun h=>absurd (show (11:Nat)=15 from h) (by decide)),fun h=>absurd (show (11:Nat)=15 from h) (by decide)⟩)))) (by rw [h2]; exact drop_its hE1)⟩
theorem behindIns_p {F:Fd} {nx:Value} {qc0:Cnt} {n1:Nat} {n0 l t y:Int} (hft:K.ft≠1/\K.ft≠2) (hda:K.err=0/\K.dn=false) (h1:d.ok=1) (hlv:1<=d.lv/\d.lv<=((C.h.toNat:Nat):Int)) (hl:K.T.ql.length+1<=1000000) (hck:C.k=3) (hch:C.h=(C.h.toNat:Int)) (hF:FdOk F C.h.toNat) (hh:1<=C.h.toNat/\C.h.toNat<=1000) (hn1:Nx n qc0 n1 qc) (u:Int) (hE:Env w0 (boxI o (opS X.c d.ok d.key d.val d.lv nx 0 (.pointer (some ⟨F.fb,0,none⟩)) n0 l t y K.an 0 false)::LT (SPK C X V K f G qc n1) (F.its X.c d.key K.L C.h.toNat++R)) w) :
  Calls prog 100 #[.pointer (some ⟨o,0,none⟩),.int .i64 u] w fun e2 w2=>∃ s2,e2=.returned (.int .i64 s2)/\OutP w0 R C X V d o n qc0 ((behindM C d K).1,(behindM C d K).2,f) s2 w2:=by
 have hI:FdIn F X.c d.key K.L C.h.toNat (F.its X.c d.key K.L C.h.toNat++R):=its_in hF hh;have hI2:FdIn F X.c d.key K.L C.h.toNat (LT (SPK C X V K f G qc n1) (F.its X.c d.key K.L C.h.toNat++R)):=hI.more fun a ha=>by unfold LT; simp only [List.mem_cons]; exact .inr (.inr (.inr (.inr ha)))
 have hd1:boxI o (opS X.c d.ok d.key d.val d.lv nx 0 (.pointer (some ⟨F.fb,0,none⟩)) n0 l t y K.an 0 false)=boxI o (opS X.c 1 d.key d.val d.lv nx 0 (.pointer (some ⟨F.fb,0,none⟩)) n0 l t y K.an 0 false):=by rw [h1]
 rw [hd1] at hE;refine seaIns_s u _ hE ?_;cases hfd:(K.L 0).fd
 ·by_cases h0:K.T.hs=0
  ·by_cases hdp:decP K.T.ql K.T.e C.l=0
   ·refine (insLate_s (S:=SPK C X V K f G qc n1) (L:=K.L) (h:=C.h.toNat) h0 hdp hI hfd hE).mono ?_;rintro e w1 ⟨rfl,hE1⟩;have hM:behindM C d K=(1,{ K with err:=7 }):=by unfold behindM; rw [if_neg hft.1,if_neg hft.2,if_pos h1,hfd,if_neg (by decide),if_pos h0]; unfold takeM; rw [if_pos hdp]
    rw [hM];exact ⟨1,rfl,OutP.fin (K':={ K with err:=7 }) (f':=f) (G':=G) rfl (by decide) hn1 (by dsimp only; rw [hda.2,h1]; exact drop_its hE1)⟩
   ·refine (insAlloc_s (S:=SPK C X V K f G qc n1) (L:=K.L) (h:=C.h.toNat) h0 hdp hI hfd hE).mono ?_;rintro e w1 ⟨rfl,c1,c2,a,hE1⟩;have hM:behindM C d K=(0,{ K with pc:=2,T:={ K.T with pc:=2,apc:=decP K.T.ql K.T.e C.l,ah:=0,an:=0,ar:=0 } }):=by unfold behindM; rw [if_neg hft.1,if_neg hft.2,if_pos h1,hfd,if_neg (by decide),if_pos h0]; unfold takeM; rw [if_neg hdp]
    rw [hM];have hlow:decP K.T.ql K.T.e C.l<=10:=by rcases decP_in K.T.ql K.T.e C.l with h9 | h9 | h9 | h9<;>omega
    have hE2:=drop4 hE1;exact ⟨0,rfl,OutP.on (K':={ K with pc:=2,T:={ K.T with pc:=2,apc:=decP K.T.ql K.T.e C.l,ah:=0,an:=0,ar:=0 } }) (f':=f) (G':=G) (ps':=[_,_,_,_]) rfl hn1 (.inr (.inl ⟨rfl,c1,c2,(.pointer (some ⟨F.fb,0,none⟩)),n0,l,t,y,a,.slice none 0 0,0,[],rfl,by unfold LeftIs; rw [if_pos hlow]⟩)) (by dsimp only; rw [h1]; dsimp only [avD,maD]; rw [h1]; exact hE2)⟩
  ·cases hhi:hidesM K.L d.lv.toNat
   ·refine (insHeld_s (S:=SPK C X V K f G qc n1) (L:=K.L) (h:=C.h.toNat) h0 hlv hhi hI hfd hE).mono ?_;rintro e w1 ⟨rfl,hE1⟩;have hM:behindM C d K=(0,{ K with pc:=3,n:=K.T.hs,lv:=0 }):=by unfold behindM; rw [if_neg hft.1,if_neg hft.2,if_pos h1,hfd,if_neg (by decide),if_neg h0,hhi]; rfl
    rw [hM];exact ⟨0,rfl,OutP.on (K':={ K with pc:=3,n:=K.T.hs,lv:=0 }) (f':=f) (G':=G) (ps':=_::F.its X.c d.key K.L C.h.toNat) rfl hn1 (.inr (.inr (.inl ⟨.inl rfl,F,t,y,rfl,hF,fun h=>absurd (show (3:Nat)=9 from h) (by decide)⟩))) (by rw [h1] at *; exact hE1.perm its_perm.symm)⟩
   ·refine (insHides_s (S:=SPK C X V K f G qc n1) (L:=K.L) (h:=C.h.toNat) h0 hck hch hlv hhi hI hfd hE).mono ?_;rintro e w1 ⟨rfl,c1,c2,fb,g,hE1⟩;have hM:behindM C d K=(0,seekM 0 K):=by unfold behindM; rw [if_neg hft.1,if_neg hft.2,if_pos h1,hfd,if_neg (by decide),if_neg h0,hhi]; rfl
    rw [hM];exact ⟨0,rfl,OutP.find (K':=K) (f':=f) (G':=G) (a:=0) rfl rfl (fun h=>absurd rfl h) (fun h=>absurd h (by decide)) hn1 (by rw [h1]; exact hE1)⟩
 ·have hM:behindM C d K=(1,{ K with T:={ K.T with ql:=dropQ K.T.hs K.T.ql,hs:=0 } }):=by unfold behindM; rw [if_neg hft.1,if_neg hft.2,if_pos h1,hfd]; rfl
  rw [hM]
  by_cases h0:K.T.hs=0
  ·refine (insDropNo_s (S:=SPK C X V K f G qc n1) (L:=K.L) (h:=C.h.toNat) h0 hI hfd hE).mono ?_;rintro e w1 ⟨rfl,hE1⟩;rw [drop_t h0];exact ⟨1,rfl,OutP.fin (K':=K) (f':=f) (G':=G) rfl (by decide) hn1 (by rw [hda.1,hda.2,h1]; exact drop_its hE1)⟩
  ·refine (insDropYes_s (S:=SPK C X V K f G qc n1) (L:=K.L) (h:=C.h.toNat) h0 (by show K.T.ql.length+1<=1048576; omega) hI hfd hE).mono ?_;rintro e w1 ⟨rfl,k',F',hE1⟩;unfold dropQ;rw [if_neg h0];exact ⟨1,rfl,OutP.lift (F9:=F') (k9:=k') (OutP.fin (K':={ K with T:={ K.T with ql:=K.T.ql++[(K.T.hs,0,0)],hs:=0 } }) (f':=f) (G':=G) rfl (by decide) hn1 (by dsimp only; rw [hda.1,hda.2,h1]; exact drop_its hE1))⟩
end
section
variable {w0 w w':World} {R N:List Item} {C:Cf} {X:Tm} {V:Wm} {d:Dd} {o n n':Nat} {K K':Kt} {f f':Mem} {G G':Nat->Prop} {qc qc':Cnt}
theorem fnF_run (a:Nat) (ar:Array Value) (v:World):(callFunc (fnF a) ar).run prog v=.ok (.enter (fnF a) ar) v:=by
 unfold fnF
 split
 ·kernel_rfl
 ·split
  ·kernel_rfl
  ·kernel_rfl
theorem down_stateS (h:Nat) (key:Int) (F:Fm) (f:Plc->Int):(downM h key F f).1=0\/((downM h key F f).1=1/\(downM h key F f).2.1.lv=0):=by
 unfold downM
 split
 ·dsimp only
  split
  ·rename_i h1;rw [if_neg (by omega),if_neg (by omega)];exact .inr ⟨rfl,h1.2⟩
  ·exact .inl rfl
 ·exact .inl rfl
theorem op1_p {b1 b2 fb:Nat} {n0 l t y:Int} {sub:List Item} (hpc:K.pc=1) (hn0:K.ft≠0->n0=K.n) (hl0:K.ft=1->l=(K.lv:Int)) (hS:FIt X.c fb C.h.toNat d.key K.on K.fl K.L 0 sub) (hF:FmOk C.h.toNat ⟨K.on,K.fl,K.L,K.T.e,K.r⟩) (hda:K.err=0/\K.dn=false) (hft:K.ft=0\/K.ft=1\/K.ft=2)
  (hlv:d.ok=1->1<=d.lv/\d.lv<=((C.h.toNat:Nat):Int)) (hl:K.T.ql.length+1<=1000000) (hh:1<=C.h.toNat/\C.h.toNat<=1000) (hck:C.k=3) (hch:C.h=(C.h.toNat:Int)) (hg:Glo w0) (hn:n < maxLen)
  (hE:Env w0 (boxI o (opS X.c d.ok d.key d.val d.lv (cvP b1 b2) 0 (.pointer (some ⟨fb,0,none⟩)) n0 l t y K.an 0 false)::boxI b1 [mvL 131 fb]::boxI b2 [mvL (fnF K.ft) o]::(sub++LT (SPK C X V K f G qc n) R)) w) :
  Calls prog 16 #[.pointer (some ⟨o,0,none⟩),.iface 28 (.pointer (some ⟨V.p,0,none⟩))] w fun e w'=>∃ s,e=.returned (.int .i64 s)/\OutP w0 R C X V d o n qc (opM C d K f) s w':=by
 have hM:opM C d K f=if (downM C.h.toNat d.key ⟨K.on,K.fl,K.L,K.T.e,K.r⟩ f).1=1 then ((behindM C d { K with on:=(downM C.h.toNat d.key ⟨K.on,K.fl,K.L,K.T.e,K.r⟩ f).2.1.on,fl:=(downM C.h.toNat d.key ⟨K.on,K.fl,K.L,K.T.e,K.r⟩ f).2.1.lv,L:=(downM C.h.toNat d.key ⟨K.on,K.fl,K.L,K.T.e,K.r⟩ f).2.1.L,r:=(downM C.h.toNat d.key ⟨K.on,K.fl,K.L,K.T.e,K.r⟩ f).2.1.r,T:={ K.T with e:=(downM C.h.toNat d.key ⟨K.on,K.fl,K.L,K.T.e,K.r⟩ f).2.1.e } }).1,(behindM C d { K with on:=(downM C.h.toNat d.key ⟨K.on,K.fl,K.L,K.T.e,K.r⟩ f).2.1.on,fl:=(downM C.h.toNat d.key ⟨K.on,K.fl,K.L,K.T.e,K.r⟩ f).2.1.lv,L:=(downM C.h.toNat d.key ⟨K.on,K.fl,K.L,K.T.e,K.r⟩ f).2.1.L,r:=(downM C.h.toNat d.key ⟨K.on,K.fl,K.L,K.T.e,K.r⟩ f).2.1.r,T:={ K.T with e:=(downM C.h.toNat d.key ⟨K.on,K.fl,K.L,K.T.e,K.r⟩ f).2.1.e } }).2,(downM C.h.toNat d.key ⟨K.on,K.fl,K.L,K.T.e,K.r⟩ f).2.2)
   else (0,{ K with on:=(downM C.h.toNat d.key ⟨K.on,K.fl,K.L,K.T.e,K.r⟩ f).2.1.on,fl:=(downM C.h.toNat d.key ⟨K.on,K.fl,K.L,K.T.e,K.r⟩ f).2.1.lv,L:=(downM C.h.toNat d.key ⟨K.on,K.fl,K.L,K.T.e,K.r⟩ f).2.1.L,r:=(downM C.h.toNat d.key ⟨K.on,K.fl,K.L,K.T.e,K.r⟩ f).2.1.r,T:={ K.T with e:=(downM C.h.toNat d.key ⟨K.on,K.fl,K.L,K.T.e,K.r⟩ f).2.1.e } },(downM C.h.toNat d.key ⟨K.on,K.fl,K.L,K.T.e,K.r⟩ f).2.2):=by
  unfold opM;rw [if_pos hpc]
 rw [hM];refine step_sV 131 fb (fnF K.ft) (.pointer (some ⟨o,0,none⟩)) _ (fun _ _=>by kernel_rfl) (fnF_run K.ft) _ hE ?_;have hE2:Env w0 (sub++LT (SP C { X with cr:=K.r } V K.T f G qc n) (boxI o (opS X.c d.ok d.key d.val d.lv (cvP b1 b2) 0 (.pointer (some ⟨fb,0,none⟩)) n0 l t y K.an 0 false)::boxI b1 [mvL 131 fb]::boxI b2 [mvL (fnF K.ft) o]::R)) w:=hE.perm (rest_perm _ _ _ _ _ _);refine (find_I hh.1 hh.2 hF hg hn hS hE2).mono ?_;rintro e w1 ⟨rfl,G',qc',n',sub',hn',hS',hfin,hE'⟩;have hst:=down_stateS C.h.toNat d.key ⟨K.on,K.fl,K.L,K.T.e,K.r⟩ f;clear hM hE hE2 hS;generalize downM C.h.toNat d.key ⟨K.on,K.fl,K.L,K.T.e,K.r⟩ f=q at *;obtain ⟨q1,F',f'⟩:=q;dsimp only at hst hS' hfin hE' ⊢;refine ⟨q1,rfl,fun h0=>?_,fun h0=>?_⟩
 ·subst h0;rw [if_neg (by decide)];exact OutP.on (K':={ K with on:=F'.on,fl:=F'.lv,L:=F'.L,r:=F'.r,T:={ K.T with e:=F'.e } }) (f':=f') (G':=G') (ps':=_::_::_::sub') rfl hn' (.inl ⟨hpc,b1,b2,fb,n0,l,t,y,sub',rfl,hn0,hl0,hS'⟩) (hE'.perm (rest_perm _ _ _ _ _ _).symm)
 ·rcases hst with h | ⟨h,hlv0⟩
  ·exact absurd h h0
  subst h;rw [if_pos rfl];obtain ⟨g,ps,D,nx9,hps,hE9⟩:=(hfin rfl).fin hlv0;have hFd:FdOk ⟨fb,g,ps,D,nx9⟩ C.h.toNat:=hps;have hE8:Env w0 (boxI o (opS X.c d.ok d.key d.val d.lv (cvP b1 b2) 0 (.pointer (some ⟨fb,0,none⟩)) n0 l t y K.an 0 false)::boxI b1 [mvL 131 fb]::boxI b2 [mvL (fnF K.ft) o]::LT (SPK C X V { K with on:=F'.on,fl:=F'.lv,L:=F'.L,r:=F'.r,T:={ K.T with e:=F'.e } } f' G' qc' n') ((⟨fb,g,ps,D,nx9⟩:Fd).its X.c d.key F'.L C.h.toNat++R)) w1:=hE9.perm (perm_of fun z=>by
   simp only [LT,SPK,SP,Fd.its,List.cons_append,List.count_append,List.count_cons];omega)
  refine ⟨hE8.rule 2 rfl 0,?_⟩;have hE7:=hE8.sub (L':=_::LT _ _) (.cons_cons _ (.cons _ (.cons _ (List.Sublist.refl _))));clear hE8 hE9 hE' hfin hS' hF
  rcases hft with hf | hf | hf
  ·have hf2:fnF K.ft=100:=by rw [hf]; rfl
   rw [hf2]
   by_cases h1:d.ok=1
   ·exact behindIns_p (K:={ K with on:=F'.on,fl:=F'.lv,L:=F'.L,r:=F'.r,T:={ K.T with e:=F'.e } }) ⟨by show K.ft≠1; omega,by show K.ft≠2; omega⟩ hda h1 (hlv h1) hl hck hch hFd hh hn' _ hE7
   ·by_cases h2:d.ok=2
    ·exact behindDel_p (K:={ K with on:=F'.on,fl:=F'.lv,L:=F'.L,r:=F'.r,T:={ K.T with e:=F'.e } }) ⟨by show K.ft≠1; omega,by show K.ft≠2; omega⟩ hda h2 hFd hh hn' _ hE7
    ·exact behindHas_p (K:={ K with on:=F'.on,fl:=F'.lv,L:=F'.L,r:=F'.r,T:={ K.T with e:=F'.e } }) ⟨by show K.ft≠1; omega,by show K.ft≠2; omega⟩ hda h1 h2 hFd hh hn' _ hE7
  ·have hf2:fnF K.ft=276:=by rw [hf]; rfl
   rw [hf2];obtain rfl:=hn0 (by omega);obtain rfl:=hl0 hf;exact behind1_p (n0:=0) (l:=0) (K:={ K with on:=F'.on,fl:=F'.lv,L:=F'.L,r:=F'.r,T:={ K.T with e:=F'.e } }) hf hFd hh hn' _ hE7
  ·have hf2:fnF K.ft=292:=by rw [hf]; rfl
   rw [hf2];obtain rfl:=hn0 (by omega);exact behind2_p (n0:=0) (K:={ K with on:=F'.on,fl:=F'.lv,L:=F'.L,r:=F'.r,T:={ K.T with e:=F'.e } }) hf hFd hh hn' _ hE7
theorem al_perm (x y z a:Item) (S:ST) (gl R:List Item):(x::y::z::((a::gl)++LT S R)).Perm (a::LT S (gl++(x::y::z::R))):=perm_of fun t=>by
 simp only [LT,List.cons_append,List.count_append,List.count_cons];omega
theorem op2_p {b1 b2 a:Nat} {fp left:Value} {n0 l t y s9:Int} {gl:List Item} (hpc:K.pc=2) (hk:RowOk C K.T n) (hd:InU d.key/\InU d.val) (hda:K.err=0/\K.dn=false) (hh:1<=C.h.toNat/\C.h.toNat<=1000) (hck:C.k=3) (hch:C.h=(C.h.toNat:Int)) (hg:Glo w0) (hlf:LeftIs C d K.T left s9 gl)
  (hE:Env w0 (boxI o (opS X.c d.ok d.key d.val d.lv (cvP b1 b2) 0 fp n0 l t y K.an 0 false)::boxI b1 [mvL 179 a]::boxI b2 [cmV X.c d.ok d.key d.val d.lv o 5 54 134]::((boxI a (avD X.c a d K.T left s9)::gl)++LT (SPK C X V K f G qc n) R)) w) :
  Calls prog 16 #[.pointer (some ⟨o,0,none⟩),.iface 28 (.pointer (some ⟨V.p,0,none⟩))] w fun e w'=>∃ s,e=.returned (.int .i64 s)/\OutP w0 R C X V d o n qc (opM C d K f) s w':=by
 have hM:opM C d K f=if (allocM C d K.T f).1=0 then (0,{ K with T:=(allocM C d K.T f).2.1 },(allocM C d K.T f).2.2) else if (allocM C d K.T f).1=3 then (1,{ K with T:={ (allocM C d K.T f).2.1 with pc:=0 },err:=6 },(allocM C d K.T f).2.2) else if (allocM C d K.T f).1=4 then (1,{ K with T:={ (allocM C d K.T f).2.1 with pc:=0 },err:=7 },(allocM C d K.T f).2.2) else (0,seekM 0 { K with T:={ (allocM C d K.T f).2.1 with pc:=0 } },(allocM C d K.T f).2.2):=by
  unfold opM;rw [if_neg (by omega),if_pos hpc]
 rw [hM];refine step_sV 179 a 178 (ndV X.c d.ok d.key d.val d.lv o 5 54 134) _ (fun _ _=>by kernel_rfl) (fun _ _=>by kernel_rfl) _ hE ?_;refine (alPx (C:=C) (X:={ X with cr:=K.r }) (V:=V) (T:=K.T) (d:=d) hg hk hd hlf (hE.perm (al_perm _ _ _ _ _ _ _))).mono ?_;rintro e w1 ⟨rfl,F',k',G',qc',n',hn',hcase⟩;have hst:=allocM_state C d K.T f;generalize allocM C d K.T f=q at *;obtain ⟨q1,T',f'⟩:=q;dsimp only at hst hcase ⊢;refine ⟨q1,rfl,fun h0=>?_,fun h0=>?_⟩
 ·subst h0;rw [if_pos rfl]
  rcases hcase with ⟨-,left',s',gl',hlf',hE'⟩ | ⟨h9,-⟩
  ·exact OutP.lift (F9:=F') (k9:=k') (OutP.on (K':={ K with T:=T' }) (f':=f') (G':=G') (ps':=_::_::_::_::gl') rfl hn' (.inr (.inl ⟨hpc,b1,b2,fp,n0,l,t,y,a,left',s',gl',rfl,hlf'⟩)) (hE'.perm (al_perm _ _ _ _ _ _ _).symm))
  ·exact absurd rfl h9
 ·rw [if_neg h0]
  rcases hcase with ⟨h9,-⟩ | ⟨-,hE'⟩
  ·exact absurd h9 h0
  have hE2:=hE'.perm (rest_perm (boxI o (opS X.c d.ok d.key d.val d.lv (cvP b1 b2) 0 fp n0 l t y K.an 0 false)) (boxI b1 [mvL 179 a]) (boxI b2 [cmV X.c d.ok d.key d.val d.lv o 5 54 134]) _ [] R).symm;refine ⟨hE2.rule 2 rfl 0,?_⟩;have hE3:=hE2.sub (L':=boxI o (opS X.c d.ok d.key d.val d.lv (cvP b1 b2) 0 fp n0 l t y K.an 0 false)::LT (SP C { { X with cr:=K.r } with F:=F',kq:=k' } V T' f' G' qc' n') R) (.cons_cons _ (.cons _ (.cons _ (List.Sublist.refl _))));have hm3:(LT (SP C { { X with cr:=K.r } with F:=F',kq:=k' } V T' f' G' qc' n') R)[0]?=some (coreI X.c 3 C.s C.b ((C.h.toNat:Nat):Int) C.l T'.e K.r T'.hs 0 X.q):=by
   rw [<- hch,<- hck];rfl
  rcases hst with h | h | h | h | h
  ·exact absurd h h0
  ·subst h;refine cameFind_n 1 (.inl rfl) (fun _ _=>by kernel_rfl) _ hE3 fun v hv=>(begin_s (h:=C.h.toNat) 0 hh.2 hm3 hv).mono ?_;rintro e w2 ⟨rfl,c1,c2,fb,g,hE4⟩;exact ⟨0,rfl,OutP.lift (F9:=F') (k9:=k') (OutP.find (N:=[]) (K':={ K with T:={ T' with pc:=0 } }) (f':=f') (G':=G') (a:=0) rfl rfl (fun h=>absurd rfl h) (fun h=>absurd h (by decide)) hn' hE4)⟩
  ·subst h;refine cameFind_n 2 (.inr rfl) (fun _ _=>by kernel_rfl) _ hE3 fun v hv=>(begin_s (h:=C.h.toNat) 0 hh.2 hm3 hv).mono ?_;rintro e w2 ⟨rfl,c1,c2,fb,g,hE4⟩;exact ⟨0,rfl,OutP.lift (F9:=F') (k9:=k') (OutP.find (N:=[]) (K':={ K with T:={ T' with pc:=0 } }) (f':=f') (G':=G') (a:=0) rfl rfl (fun h=>absurd rfl h) (fun h=>absurd h (by decide)) hn' hE4)⟩
  ·subst h;refine cameOver_n 3 (.inl rfl) (fun _ _=>by kernel_rfl) _ hE3 fun v hv=>(over_s (3+3) false hv).mono ?_;rintro e w2 ⟨rfl,hE4⟩;rw [if_pos rfl];exact ⟨1,rfl,OutP.lift (F9:=F') (k9:=k') (OutP.fin (K':={ K with T:={ T' with pc:=0 },err:=6 }) (f':=f') (G':=G') rfl (by decide) hn' (by dsimp only; rw [hda.2]; exact hE4))⟩
  ·subst h;refine cameOver_n 4 (.inr rfl) (fun _ _=>by kernel_rfl) _ hE3 fun v hv=>(over_s (4+3) false hv).mono ?_;rintro e w2 ⟨rfl,hE4⟩;rw [if_neg (by decide),if_pos rfl];exact ⟨1,rfl,OutP.lift (F9:=F') (k9:=k') (OutP.fin (K':={ K with T:={ T' with pc:=0 },err:=7 }) (f':=f') (G':=G') rfl (by decide) hn' (by dsimp only; rw [hda.2]; exact hE4))⟩
theorem op7_p {b1 b2 r:Nat} {fp:Value} {n0 l t y:Int} (hpc:K.pc=7) (hl:K.T.ql.length+1<=1000000) (he:InU K.T.re) (hs:In64 K.T.rs) (hda:K.err=0/\K.dn=false) (hn:n < maxLen)
  (hE:Env w0 (boxI o (opS X.c d.ok d.key d.val d.lv (cvP b1 b2) 0 fp n0 l t y K.an 0 false)::boxI b1 [mvL 304 r]::boxI b2 [mvL 291 o]::boxI r (rtv X.c (nxR r K.T.rpc) K.T.rs K.T.re)::LT (SPK C X V K f G qc n) R) w) :
  Calls prog 16 #[.pointer (some ⟨o,0,none⟩),.iface 28 (.pointer (some ⟨V.p,0,none⟩))] w fun e w'=>∃ s,e=.returned (.int .i64 s)/\OutP w0 R C X V d o n qc (opM C d K f) s w':=by
 have hM:opM C d K f=if (retireM K.T f).1=0 then (0,{ K with T:=(retireM K.T f).2.1 },(retireM K.T f).2.2) else (1,{ K with T:={ (retireM K.T f).2.1 with pc:=0 },dn:=true },(retireM K.T f).2.2):=by
  unfold opM;rw [if_neg (by omega),if_neg (by omega),if_neg (by omega),if_neg (by omega),if_neg (by omega),if_neg (by omega),if_neg (by omega),if_neg (by omega),if_neg (by omega),if_neg (by omega),if_neg (by omega),if_neg (by omega),if_neg (by omega),if_neg (by omega)]
 rw [hM];refine step_sV 304 r 291 (.pointer (some ⟨o,0,none⟩)) _ (fun _ _=>by kernel_rfl) (fun _ _=>by kernel_rfl) _ hE ?_;have hE2:Env w0 (boxI r (rtv X.c (nxR r K.T.rpc) K.T.rs K.T.re)::LT (SP C { X with cr:=K.r } V K.T f G qc n) (boxI o (opS X.c d.ok d.key d.val d.lv (cvP b1 b2) 0 fp n0 l t y K.an 0 false)::boxI b1 [mvL 304 r]::boxI b2 [mvL 291 o]::R)) w:=hE.perm (rest_perm _ _ _ _ [_] _);refine (rePx (C:=C) (X:={ X with cr:=K.r }) (V:=V) (T:=K.T) hn hl he hs hE2).mono ?_;rintro e w1 ⟨rfl,F',k',G',qc',n',hn',hcase⟩;have hrs:(retireM K.T f).1=0\/(retireM K.T f).1=1:=by
  unfold retireM
  split
  ·exact .inl rfl
  ·exact .inr rfl
 generalize retireM K.T f=q at *;obtain ⟨q1,T',f'⟩:=q;dsimp only at hrs hcase ⊢;refine ⟨q1,rfl,fun h0=>?_,fun h0=>?_⟩
 ·subst h0;rw [if_pos rfl]
  rcases hcase with ⟨-,hE'⟩ | ⟨h9,-⟩
  ·exact OutP.lift (F9:=F') (k9:=k') (OutP.on (K':={ K with T:=T' }) (f':=f') (G':=G') (ps':=[_,_,_,_]) rfl hn' (.inr (.inr (.inr (.inr (.inr (.inr ⟨hpc,b1,b2,fp,n0,l,t,y,r,rfl⟩)))))) (hE'.perm (rest_perm _ _ _ _ [_] _).symm))
  ·exact absurd rfl h9
 ·rcases hrs with h | h
  ·exact absurd h h0
  subst h
  rcases hcase with ⟨h9,-⟩ | ⟨-,hE'⟩
  ·exact absurd h9 (by decide)
  have hE3:=hE'.perm (rest_perm (boxI o (opS X.c d.ok d.key d.val d.lv (cvP b1 b2) 0 fp n0 l t y K.an 0 false)) (boxI b1 [mvL 304 r]) (boxI b2 [mvL 291 o]) _ [] R).symm;refine ⟨hE3.rule 2 rfl 0,?_⟩;have hE4:=hE3.sub (L':=boxI o (opS X.c d.ok d.key d.val d.lv (cvP b1 b2) 0 fp n0 l t y K.an 0 false)::LT (SP C { { X with cr:=K.r } with F:=F',kq:=k' } V T' f' G' qc' n') R) (.cons_cons _ (.cons _ (.cons _ (List.Sublist.refl _))));refine (changed_s 1 hE4).mono ?_;rintro e w2 ⟨rfl,hE5⟩;rw [if_neg (by decide)];exact ⟨1,rfl,OutP.lift (F9:=F') (k9:=k') (OutP.fin (K':={ K with T:={ T' with pc:=0 },dn:=true }) (f':=f') (G':=G') rfl (by decide) hn' (by dsimp only; rw [hda.1]; exact hE5))⟩
structure KcOk (C:Cf) (d:Dd) (K:Kt) (f:Mem) (n:Nat):Prop where
 (da:K.err=0/\K.dn=false)
 (dk:InU d.key/\InU d.val)
 (len:K.T.ql.length+1<=1000000)
 (hn:n < maxLen)
 (hh:1<=C.h.toNat/\C.h.toNat<=1000)
 (ck:C.k=3)
 (ch:C.h=(C.h.toNat:Int))
 (lv1:d.ok=1->1<=d.lv/\d.lv<=((C.h.toNat:Nat):Int))
 (ft:K.pc=1->K.ft=0\/K.ft=1\/K.ft=2)
 (fm:K.pc=1->FmOk C.h.toNat ⟨K.on,K.fl,K.L,K.T.e,K.r⟩)
 (row:K.pc=2->RowOk C K.T n)
 (re:K.pc=7->InU K.T.re/\In64 K.T.rs)
 (hs:K.pc=4->K.T.hs≠0/\K.lv=0)
 (own:3<=K.pc->K.pc≠7->0<=K.n/\K.n<=8388607)
 (lvl:3<=K.pc->K.pc≠7->K.pc≠10->K.pc≠11->K.pc≠12->K.pc≠16->K.lv < C.h.toNat)
 (sp:3<=K.pc->K.pc<=9->K.pc≠7->InU (K.L K.lv).W/\Wf (K.L K.lv).p)
 (y:12<=K.pc->K.pc<=15->K.pc≠13->InU K.y)
 (unm:K.pc=15->markB K.y=false)
 (fw:∀ x,InU (f x))
theorem wf_own {a b:Int} (h:0<=a/\a<=8388607) (hb:0<=b/\b<=2000):Wf (5,a,b):=by
 unfold Wf In64;simp;omega
theorem op_p {ps:List Item} (h:KcOk C d K f n) (hg:Glo w0) (hM:PM C X.c d K o ps) (hE:Env w0 (ps++LT (SPK C X V K f G qc n) R) w) :
  Calls prog 16 #[.pointer (some ⟨o,0,none⟩),.iface 28 (.pointer (some ⟨V.p,0,none⟩))] w fun e w'=>∃ s,e=.returned (.int .i64 s)/\OutP w0 R C X V d o n qc (opM C d K f) s w':=by
 have hh:=h.hh
 rcases hM with ⟨hpc,b1,b2,fb,n0,l,t,y,sub,rfl,h1,h2,hS⟩ | ⟨hpc,b1,b2,fp,n0,l,t,y,a,left,s,gl,rfl,hlf⟩ | ⟨hpc,F,t,y,rfl,hF,hy⟩ | ⟨hpc,fp,l,t,y,rfl,hl,hy⟩ | ⟨hpc,b1,b2,fp,l,y,rfl⟩ | ⟨hpc,b1,b2,fp,t,rfl⟩ | ⟨hpc,b1,b2,fp,n0,l,t,y,r,rfl⟩
 ·exact op1_p hpc h1 h2 hS (h.fm hpc) h.da (h.ft hpc) h.lv1 h.len hh h.ck h.ch hg h.hn hE
 ·exact op2_p hpc (h.row hpc) h.dk h.da hh h.ck h.ch hg hlf hE
 ·have ho:=h.own (by omega) (by omega);have hlv:=h.lvl (by omega) (by omega) (by omega) (by omega) (by omega) (by omega);obtain ⟨hW,hwp⟩:=h.sp (by omega) (by omega) (by omega);have hwf:Wf (5,K.n,7+(K.lv:Int)):=wf_own ho (by omega)
  rcases hpc with hpc | hpc | hpc | hpc | hpc
  ·rw [hpc] at hE;exact op3_p hpc hwf hlv hW hF hh hg h.hn hE
  ·rw [hpc] at hE;obtain ⟨h3,h4⟩:=h.hs hpc;exact op4_p hpc (by omega) h3 (by rw [h4] at hwp; exact hwp) h.ck h.ch hF hh hg h.hn hE
  ·rw [hpc] at hE;exact op5_p hpc hlv hwp h.ck h.ch hF hh hg h.hn hE
  ·rw [hpc] at hE;exact op6_p hpc hwf hlv hW (h.fw _) hF hh hg h.hn hE
  ·rw [hpc,hy hpc] at hE;exact op9_p (y:=0) hpc hwf hlv hW hF hh hg h.hn hE
 ·have ho:=h.own (by omega) (by omega)
  rcases hpc with hpc | hpc | hpc | hpc | hpc
  ·rw [hpc] at hE;exact op10_p hpc (wf_own ho (by omega)) h.ck h.ch h.da.1 hh hg h.hn hE
  ·rw [hpc] at hE;exact op11_p hpc (wf_own ho (by omega)) hh hg h.hn hE
  ·have hlv:=h.lvl (by omega) (by omega) (by omega) (by omega) (by omega) (by omega);rw [hpc,hl (.inl hpc)] at hE;exact op13_p hpc (wf_own ho (by omega)) hlv hh hg h.hn hE
  ·have hlv:=h.lvl (by omega) (by omega) (by omega) (by omega) (by omega) (by omega);rw [hpc,hl (.inr hpc),hy hpc] at hE;exact op15_p (y:=0) hpc (wf_own ho (by omega)) hlv (h.y (by omega) (by omega) (by omega)) (h.unm hpc) hh hg h.hn hE
  ·rw [hpc] at hE;exact op16_p hpc (wf_own ho (by omega)) h.ck h.ch h.da.1 hh hg h.hn hE
 ·exact op12_p hpc (h.y (by omega) (by omega) (by omega)) hh h.ck h.ch hg h.hn hE
 ·exact op14_p hpc (h.y (by omega) (by omega) (by omega)) (h.lvl (by omega) (by omega) (by omega) (by omega) (by omega) (by omega)) hh h.ck h.ch hg h.hn hE
 ·obtain ⟨h3,h4⟩:=h.re hpc;exact op7_p hpc h.len h3 h4 h.da h.hn hE
end
section
variable {C:Cf} {ds:List Dd} {B:Nat} {T:Th} {d:Dd} {K K':Kt} {f f':Mem} {q:Int × Kt × Mem}
theorem behind_keep (hC:CSk C) (hlv:d.ok=1->1<=d.lv/\d.lv<=((C.h.toNat:Nat):Int)) (hF:OkF C f) (hS:LnkF C f) (hT:OkT C ds B K.T) (h0:K.T.pc=0) (hn:1<=K.T.nd) (hpc:K.pc=1) (hda:(K.err=0/\K.dn=false)) (hdn:(∀ l,l < C.h.toNat->SpotOk C l (K.L l)))
  (hft:(K.ft=0/\(K.T.hs≠0->d.ok=1))\/(K.ft=1/\K.T.hs=0/\(1<=K.n/\K.n<=C.s)/\((K.lv:Int) < d.lv/\d.ok=1))\/(K.ft=2/\K.T.hs=0/\(1<=K.n/\K.n<=C.s))):KOut C ds (B+1) d K ((behindM C d K).1,(behindM C d K).2,f):=by
 have hh:=hC.h;have hT2:=hT.more
 rcases hft with ⟨hf,hi⟩ | ⟨hf,hhs,hown,hup,hok⟩ | ⟨hf,hhs,hown⟩
 ·by_cases o1:d.ok=1
  ·cases hfd:(K.L 0).fd
   ·by_cases hz:K.T.hs=0
    ·by_cases hdp:decP K.T.ql K.T.e C.l=0
     ·have hM:behindM C d K=(1,{ K with err:=7 }):=by unfold behindM; rw [if_neg (by omega),if_neg (by omega),if_pos o1,hfd,if_neg (by decide),if_pos hz]; unfold takeM; rw [if_pos hdp]
      rw [hM];exact KOut.fin (K':={ K with err:=7 }) rfl hF hS rfl hT2 h0 hz
     ·have hM:behindM C d K=(0,{ K with pc:=2,T:={ K.T with pc:=2,apc:=decP K.T.ql K.T.e C.l,ah:=0,an:=0,ar:=0 } }):=by unfold behindM; rw [if_neg (by omega),if_neg (by omega),if_pos o1,hfd,if_neg (by decide),if_pos hz]; unfold takeM; rw [if_neg hdp]
      rw [hM];have hlow:decP K.T.ql K.T.e C.l<=10:=by rcases decP_in K.T.ql K.T.e C.l with h9 | h9 | h9 | h9<;>omega
      exact KOut.on (K':={ K with pc:=2,T:={ K.T with pc:=2,apc:=decP K.T.ql K.T.e C.l,ah:=0,an:=0,ar:=0 } }) rfl hF hS rfl ⟨(hT.alloc hz hn hC.ok hdp).more,rfl,⟨hda,o1⟩,fun _=>.inl hlow,fun _=>hn⟩
    ·cases hhi:hidesM K.L d.lv.toNat
     ·have hM:behindM C d K=(0,{ K with pc:=3,n:=K.T.hs,lv:=0 }):=by unfold behindM; rw [if_neg (by omega),if_neg (by omega),if_pos o1,hfd,if_neg (by decide),if_neg hz,hhi]; rfl
      rw [hM];have hd:=hlv o1;exact KOut.on (K':={ K with pc:=3,n:=K.T.hs,lv:=0 }) rfl hF hS rfl (KOk.at0 hT2 h0 hn ⟨by show (3:Nat)≠2; decide,by show (3:Nat)≠7; decide,by show (3:Nat)≠8; decide⟩ ⟨hda,hdn,hz,rfl,by show ((0:Nat):Int) < d.lv; omega,o1⟩)
     ·have hM:behindM C d K=(0,seekM 0 K):=by unfold behindM; rw [if_neg (by omega),if_neg (by omega),if_pos o1,hfd,if_neg (by decide),if_neg hz,hhi]; rfl
      rw [hM];exact KOut.on (K':=seekM 0 K) rfl hF hS rfl (KOk.at0 hT2 h0 hn ⟨by show (1:Nat)≠2; decide,by show (1:Nat)≠7; decide,by show (1:Nat)≠8; decide⟩ ⟨hda,FnOk.start,.inl ⟨rfl,fun _=>o1⟩⟩)
   ·have hM:behindM C d K=(1,{ K with T:={ K.T with ql:=dropQ K.T.hs K.T.ql,hs:=0 } }):=by unfold behindM; rw [if_neg (by omega),if_neg (by omega),if_pos o1,hfd]; rfl
    rw [hM];exact KOut.fin (K':={ K with T:={ K.T with ql:=dropQ K.T.hs K.T.ql,hs:=0 } }) rfl hF hS rfl (hT.drop h0 hC.ok) h0 rfl
  ·have hz:K.T.hs=0:=Decidable.byContradiction fun h9=>o1 (hi h9)
   by_cases o2:d.ok=2
   ·cases hfd:(K.L 0).fd
    ·have hM:behindM C d K=(1,K):=by unfold behindM; rw [if_neg (by omega),if_neg (by omega),if_neg o1,if_pos o2,hfd]; rfl
     rw [hM];exact KOut.fin (K':=K) rfl hF hS rfl hT2 h0 hz
    ·have hM:behindM C d K=(0,{ K with pc:=11,n:=(K.L 0).C }):=by unfold behindM; rw [if_neg (by omega),if_neg (by omega),if_neg o1,if_pos o2,hfd]; rfl
     rw [hM];have hsp:=hdn 0 (by omega);exact KOut.on (K':={ K with pc:=11,n:=(K.L 0).C }) rfl hF hS rfl (KOk.at0 hT2 h0 hn ⟨by show (11:Nat)≠2; decide,by show (11:Nat)≠7; decide,by show (11:Nat)≠8; decide⟩ ⟨hda,hz,(hsp.fd hfd).1,hsp.cs⟩)
   ·have hM:behindM C d K=(1,{ K with dn:=(K.L 0).fd }):=by unfold behindM; rw [if_neg (by omega),if_neg (by omega),if_neg o1,if_neg o2]
    rw [hM];exact KOut.fin (K':={ K with dn:=(K.L 0).fd }) rfl hF hS rfl hT2 h0 hz
 ·have hM:behindM C d K=(0,{ K with an:=true,pc:=if (K.L 0).C=K.n then 6 else 10 }):=by unfold behindM; rw [if_pos hf]
  rw [hM]
  by_cases h1:(K.L 0).C=K.n
  ·rw [if_pos h1];exact KOut.on (K':={ K with an:=true,pc:=6 }) rfl hF hS rfl (KOk.at0 hT2 h0 hn ⟨by show (6:Nat)≠2; decide,by show (6:Nat)≠7; decide,by show (6:Nat)≠8; decide⟩ ⟨hda,hdn,hhs,hown,hup,hok⟩)
  ·rw [if_neg h1];exact KOut.on (K':={ K with an:=true,pc:=10 }) rfl hF hS rfl (KOk.at0 hT2 h0 hn ⟨by show (10:Nat)≠2; decide,by show (10:Nat)≠7; decide,by show (10:Nat)≠8; decide⟩ ⟨hda,hhs,hown⟩)
 ·have hM:behindM C d K=(0,{ K with pc:=7,T:={ K.T with pc:=3,rs:=K.n,rpc:=0,re:=0 } }):=by unfold behindM; rw [if_neg (by omega),if_pos hf]
  rw [hM];exact KOut.on (K':={ K with pc:=7,T:={ K.T with pc:=3,rs:=K.n,rpc:=0,re:=0 } }) rfl hF hS rfl ⟨(hT.retire hn hC.ok hown.1 hown.2).more,rfl,⟨hda,hhs⟩,fun h9=>absurd (show (7:Nat)=2 from h9) (by decide),fun _=>hn⟩
theorem down_e (hF:OkF C f) (hC:COk C) {h:Nat} {key e r:Int} {on:Bool} {fl:Nat} {L:Nat->Lm} (he:0<=e/\e<=C.l):0<=(downM h key ⟨on,fl,L,e,r⟩ f).2.1.e/\(downM h key ⟨on,fl,L,e,r⟩ f).2.1.e<=C.l:=by
 have hl:=hC.l;have hu:=hF.u (1,0,0);unfold InU at hu;unfold downM
 split
 ·dsimp only
  split
  ·exact he
  ·split
   ·exact he
   ·exact he
 ·exact epI_in0 hu.1 hF.ep (by omega)
theorem op1_keep (hC:CSk C) (hlv:d.ok=1->1<=d.lv/\d.lv<=((C.h.toNat:Nat):Int)) (hF:OkF C f) (hS:LnkF C f) (h:KOk C ds B d K) (hu:∀ x,InU ((opM C d K f).2.2 x)) (h1:K.pc=1):KOut C ds (B+1) d K (opM C d K f):=by
 have h0:=h.t0 (by omega);have hn:=h.nd (by omega);have hh:=hC.h;have hp:=h.p;unfold PcOk at hp;rw [h1] at hp;obtain ⟨hda,hfn,hft⟩:=hp;have hk:=down_keep (key:=d.key) (e:=K.T.e) (r:=K.r) hh.1 hh.2 hfn hF.u hS (by have:=hC.ok.s; omega);have hm:=down_keepF (key:=d.key) (e:=K.T.e) (r:=K.r) hfn (by have:=hC.ok.s; omega) hF hS;have he:=down_e (h:=C.h.toNat) (key:=d.key) (r:=K.r) (on:=K.on) (fl:=K.fl) (L:=K.L) hF hC.ok h.t.e;have hst:=down_stateS C.h.toNat d.key ⟨K.on,K.fl,K.L,K.T.e,K.r⟩ f;unfold opM at hu ⊢;rw [if_pos h1] at hu ⊢;dsimp only at hu ⊢;generalize downM C.h.toNat d.key ⟨K.on,K.fl,K.L,K.T.e,K.r⟩ f=q at *;obtain ⟨q1,F',f'⟩:=q;dsimp only at hk hm he hst hu ⊢
 rcases hst with rfl | ⟨rfl,-⟩
 ·rw [if_neg (by decide)] at hu ⊢;obtain ⟨g1,g2⟩:=hm hu;exact KOut.on (K':={ K with on:=F'.on,fl:=F'.lv,L:=F'.L,r:=F'.r,T:={ K.T with e:=F'.e } }) rfl g1 g2 rfl (KOk.at0 (h.t.epoch h0 he).more h0 hn ⟨by show K.pc≠2; omega,by show K.pc≠7; omega,by show K.pc≠8; omega⟩ (by
   unfold PcOk;dsimp only;rw [h1];exact ⟨hda,hk.1 rfl,hft⟩))
 ·rw [if_pos rfl] at hu ⊢;obtain ⟨g1,g2⟩:=hm hu;have hb:=behind_keep (K:={ K with on:=F'.on,fl:=F'.lv,L:=F'.L,r:=F'.r,T:={ K.T with e:=F'.e } }) hC hlv g1 g2 (h.t.epoch h0 he) h0 hn h1 hda (hk.2 rfl) hft;exact ⟨hb.f,hb.l,hb.nd,hb.k⟩
theorem op2_keep (hC:CSk C) (hlv:d.ok=1->1<=d.lv/\d.lv<=((C.h.toNat:Nat):Int)) (hF:OkF C f) (hS:LnkF C f) (h:KOk C ds B d K) (hu:∀ x,InU ((opM C d K f).2.2 x)) (h1:K.pc=2):KOut C ds (B+1) d K (opM C d K f):=by
 have h2:K.T.pc=2:=by have:=h.tp; rw [if_pos h1] at this; exact this
 have hn:=h.nd (by omega);have hp:=h.p;unfold PcOk at hp;rw [h1] at hp;obtain ⟨hda,hi⟩:=hp;have hact:=al_cases C d K.T f h2;have hA:=act2_ok (d:=d) hC.ok hF h.t h2;have hkk:=allocM_kk (f:=f) (h.kk h1);have hhs:=allocM_hs (C:=C) (d:=d) (f:=f) (h.t.low h2);have hl:=allocM_lnk (d:=d) (T:=K.T) hS;have kp:=allocM_keep C d K.T f;have st:=allocM_state C d K.T f;rw [hact] at hA;unfold opM at hu ⊢;rw [if_neg (by omega),if_pos h1] at hu ⊢;generalize allocM C d K.T f=q at *;dsimp only at hu hA ⊢;have hdone:0<=q.2.1.done/\q.2.1.done<=((B+1:Nat):Int):=by
  have:=h.t.done;rw [kp.2.2.2.2.2.2.2.2.2.1];omega
 have hok:(∀ x,InU (q.2.2 x))->OkT C ds (B+1) { q.2.1 with pc:=0 }:=fun h9=>(hA h9).2.idle hdone
 rcases st with s | s | s | s | s
 ·rw [if_pos s] at hu ⊢;have ha:=hA hu;have hT:OkT C ds (B+1) q.2.1:=by
   have h9:=ha.2;rw [s] at h9;exact h9.same (by show 2=q.2.1.pc; rw [kp.2.2.1]; exact h2.symm) rfl hdone
  refine ⟨ha.1,hl,kp.2.1,?_⟩;show KOk C ds (B+1) d { K with T:=q.2.1 };exact ⟨hT,(by show q.2.1.pc=if K.pc=2 then 2 else _; rw [if_pos h1,kp.2.2.1]; exact h2),(by unfold PcOk; dsimp only; rw [h1]; exact ⟨hda,hi⟩),fun _=>hkk s,fun _=>by show 1<=q.2.1.nd; rw [kp.2.1]; exact hn⟩
 ·rw [if_neg (by omega),if_neg (by omega),if_neg (by omega)] at hu ⊢;exact KOut.on (K':=seekM 0 { K with T:={ q.2.1 with pc:=0 } }) rfl (hA hu).1 hl kp.2.1 (KOk.at0 (hok hu) rfl (by show 1<=q.2.1.nd; rw [kp.2.1]; exact hn) ⟨by show (1:Nat)≠2; decide,by show (1:Nat)≠7; decide,by show (1:Nat)≠8; decide⟩ ⟨hda,FnOk.start,.inl ⟨rfl,fun _=>hi⟩⟩)
 ·rw [if_neg (by omega),if_neg (by omega),if_neg (by omega)] at hu ⊢;exact KOut.on (K':=seekM 0 { K with T:={ q.2.1 with pc:=0 } }) rfl (hA hu).1 hl kp.2.1 (KOk.at0 (hok hu) rfl (by show 1<=q.2.1.nd; rw [kp.2.1]; exact hn) ⟨by show (1:Nat)≠2; decide,by show (1:Nat)≠7; decide,by show (1:Nat)≠8; decide⟩ ⟨hda,FnOk.start,.inl ⟨rfl,fun _=>hi⟩⟩)
 ·rw [if_neg (by omega),if_pos s] at hu ⊢;exact KOut.fin rfl (hA hu).1 hl kp.2.1 (hok hu) rfl (hhs (.inl s))
 ·rw [if_neg (by omega),if_neg (by omega),if_pos s] at hu ⊢;exact KOut.fin rfl (hA hu).1 hl kp.2.1 (hok hu) rfl (hhs (.inr (.inl s)))
theorem op7_keep (hC:CSk C) (hlv:d.ok=1->1<=d.lv/\d.lv<=((C.h.toNat:Nat):Int)) (hF:OkF C f) (hS:LnkF C f) (h:KOk C ds B d K) (hu:∀ x,InU ((opM C d K f).2.2 x)) (h1:K.pc=7):KOut C ds (B+1) d K (opM C d K f):=by
 have h3:K.T.pc=3:=by have:=h.tp; rw [if_neg (by omega),if_pos h1] at this; exact this
 have hn:=h.nd (by omega);have hp:=h.p;unfold PcOk at hp;rw [h1] at hp;obtain ⟨hda,hh⟩:=hp;have hA:=act3_ok (d:=d) hC.ok hF h.t h3;have hact:actM C d K.T f=({ (retireM K.T f).2.1 with pc:=if (retireM K.T f).1=0 then 3 else 0,full:=false },(retireM K.T f).2.2):=by
  unfold actM;rw [if_neg (by omega),if_neg (by omega),if_pos h3]
 have hl:=retireM_lnk (T:=K.T) hS;have kp:=retireM_keep (T:=K.T) (f:=f);rw [hact] at hA;unfold opM at hu ⊢;rw [if_neg (by omega),if_neg (by omega),if_neg (by omega),if_neg (by omega),if_neg (by omega),if_neg (by omega),if_neg (by omega),if_neg (by omega),if_neg (by omega),if_neg (by omega),if_neg (by omega),if_neg (by omega),if_neg (by omega),if_neg (by omega)] at hu ⊢;generalize retireM K.T f=q at *;dsimp only at hu hA ⊢;have hdone:0<=q.2.1.done/\q.2.1.done<=((B+1:Nat):Int):=by
  have:=h.t.done;rw [kp.2.2.1];omega
 rcases kp.2.2.2.2.2 with s | s
 ·rw [if_pos s] at hu ⊢;have ha:=hA hu;have hT:OkT C ds (B+1) q.2.1:=by
   have h9:=ha.2;rw [s] at h9;exact h9.same (by show 3=q.2.1.pc; rw [kp.2.2.2.2.1]; exact h3.symm) rfl hdone
  refine ⟨ha.1,hl,kp.2.1,?_⟩;show KOk C ds (B+1) d { K with T:=q.2.1 };exact ⟨hT,(by show q.2.1.pc=if K.pc=2 then 2 else if K.pc=7 then 3 else _; rw [if_neg (by omega),if_pos h1,kp.2.2.2.2.1]; exact h3),(by unfold PcOk; dsimp only; rw [h1]; exact ⟨hda,kp.1.trans hh⟩),fun h9=>absurd (h1.symm.trans h9) (by decide),fun _=>by show 1<=q.2.1.nd; rw [kp.2.1]; exact hn⟩
 ·rw [if_neg (by omega)] at hu ⊢;exact KOut.fin rfl (hA hu).1 hl kp.2.1 ((hA hu).2.idle hdone) rfl (kp.1.trans hh)
theorem op_keep (hC:CSk C) (hlv:d.ok=1->1<=d.lv/\d.lv<=((C.h.toNat:Nat):Int)) (hF:OkF C f) (hS:LnkF C f) (h:KOk C ds B d K) (hu:∀ x,InU ((opM C d K f).2.2 x)) (h1:1<=K.pc) (h8:K.pc≠8):KOut C ds (B+1) d K (opM C d K f):=by
 have hpc:K.pc<=16:=by
  have hp:=h.p;unfold PcOk at hp
  split at hp<;>first | omega | exact absurd hp (by simp)
 rcases (show K.pc=1\/K.pc=2\/K.pc=3\/K.pc=4\/K.pc=5\/K.pc=6\/K.pc=7\/K.pc=9\/K.pc=10\/K.pc=11\/K.pc=12\/K.pc=13\/K.pc=14\/K.pc=15\/K.pc=16 by omega) with h9 | h9 | h9 | h9 | h9 | h9 | h9 | h9 | h9 | h9 | h9 | h9 | h9 | h9 | h9
 ·exact op1_keep hC hlv hF hS h hu h9
 ·exact op2_keep hC hlv hF hS h hu h9
 ·exact op3_keep hC hlv hF hS h hu h9
 ·exact op4_keep hC hlv hF hS h hu h9
 ·exact op5_keep hC hlv hF hS h hu h9
 ·exact op6_keep hC hlv hF hS h hu h9
 ·exact op7_keep hC hlv hF hS h hu h9
 ·exact op9_keep hC hlv hF hS h hu h9
 ·exact op10_keep hC hlv hF hS h hu h9
 ·exact op11_keep hC hlv hF hS h hu h9
 ·exact op12_keep hC hlv hF hS h hu h9
 ·exact op13_keep hC hlv hF hS h hu h9
 ·exact op14_keep hC hlv hF hS h hu h9
 ·exact op15_keep hC hlv hF hS h hu h9
 ·exact op16_keep hC hlv hF hS h hu h9
end
section
variable {C:Cf} {ds:List Dd} {B n:Nat} {T:Th} {d:Dd} {K K':Kt} {f f':Mem}
theorem OkT.row (hC:COk C) (hT:OkT C ds B T) (hB:B+1<=1000000) (hn:n < maxLen) (hp:T.pc=2):RowOk C T n:=by
 have hl:=hC.l;have hs:=hC.s;refine ⟨by have:=hT.e; constructor<;>omega,hn,by have:=hT.len; omega,by constructor<;>omega,hT.w,hT.apc hp,fun h=>⟨hT.low hp (by omega),?_⟩,by have:=hT.hs; unfold In64; constructor<;>omega⟩
 rcases hq:T.ql with _ | ⟨⟨x,y,z⟩,t⟩
 ·exact absurd hq (hT.born hp h)
 ·have:=hT.ql (x,y,z) (by rw [hq]; simp);obtain ⟨h1,h2,rfl⟩:=this;exact ⟨x,y,t,rfl,h1,h2⟩
theorem KOk.h00 (h:KOk C ds B d K) (h0:K.pc=0):K.T.hs=0:=by
 have hp:=h.p;unfold PcOk at hp;rw [h0] at hp;exact hp
theorem KOk.any {d2:Dd} (h:KOk C ds B d K) (h0:K.pc=0):KOk C ds B d2 K :=
 ⟨h.t,h.tp,by unfold PcOk; rw [h0]; exact h.h00 h0,fun h9=>absurd h9 (by omega),h.nd⟩
theorem begin_keep (hC:CSk C) (h:KOk C ds B d K) (h0:K.pc=0) (hlt:K.T.nd < ds.length) (d2:Dd):KOk C ds B d2 (beginK d2 K)/\1<=(beginK d2 K).pc/\(beginK d2 K).T.nd=K.T.nd+1:=by
 have hh:=h.h00 h0;have ht:=h.t0 (by omega);unfold beginK
 by_cases h8:d2.ok=8
 ·rw [if_pos h8];exact ⟨⟨h.t.begin4 hlt hC.ok,rfl,hh,fun h9=>absurd (show (8:Nat)=2 from h9) (by decide),fun _=>Nat.le_add_left 1 K.T.nd⟩,by show 1<=8; decide,rfl⟩
 ·rw [if_neg h8];exact ⟨KOk.at0 (h.t.begin0 hlt) ht (Nat.le_add_left 1 K.T.nd) ⟨by show (1:Nat)≠2; decide,by show (1:Nat)≠7; decide,by show (1:Nat)≠8; decide⟩ ⟨⟨rfl,rfl⟩,FnOk.start,.inl ⟨rfl,fun h9=>absurd hh h9⟩⟩,Nat.le_refl 1,rfl⟩
theorem KOk.kc (hC:CSk C) (hk:C.k=3) (hch:C.h=(C.h.toNat:Int)) (hlv:d.ok=1->1<=d.lv/\d.lv<=((C.h.toNat:Nat):Int)) (hF:OkF C f) (h:KOk C ds B d K) (h1:1<=K.pc) (h8:K.pc≠8) (hd:InU d.key/\InU d.val) (hB:B+1<=1000000) (hn:n < maxLen):KcOk C d K f n:=by
 have hh:=hC.h;have hsm:=hC.s;have hth:=h.t.hs;have hlen:K.T.ql.length+1<=1000000:=by have:=h.t.len; omega
 have hp:=h.p;have hpc:K.pc<=16:=by
  unfold PcOk at hp
  split at hp<;>first | omega | exact absurd hp (by simp)
 unfold PcOk at hp
 rcases (show K.pc=1\/K.pc=2\/K.pc=3\/K.pc=4\/K.pc=5\/K.pc=6\/K.pc=7\/K.pc=9\/K.pc=10\/K.pc=11\/K.pc=12\/K.pc=13\/K.pc=14\/K.pc=15\/K.pc=16 by omega) with e | e | e | e | e | e | e | e | e | e | e | e | e | e | e
 ·rw [e] at hp;obtain ⟨hda,hfn,hft⟩:=hp;exact { da:=hda,dk:=hd,len:=hlen,hn:=hn,hh:=hh,ck:=hk,ch:=hch,lv1:=hlv,ft:=fun _=>hft.elim (fun h9=>.inl h9.1) (fun h9=>h9.elim (fun h9=>.inr (.inl h9.1)) (fun h9=>.inr (.inr h9.1))),fm:=fun _=>hfn.fm,row:=fun h9=>absurd h9 (by omega),re:=fun h9=>absurd h9 (by omega),hs:=fun h9=>absurd h9 (by omega),own:=fun h9 _=>absurd h9 (by omega),lvl:=fun h9 _ _ _ _ _=>absurd h9 (by omega),sp:=fun h9 _ _=>absurd h9 (by omega),y:=fun h9 _ _=>absurd h9 (by omega),unm:=fun h9=>absurd h9 (by omega),fw:=hF.u }
 ·rw [e] at hp;obtain ⟨hda,hi⟩:=hp;exact { da:=hda,dk:=hd,len:=hlen,hn:=hn,hh:=hh,ck:=hk,ch:=hch,lv1:=hlv,ft:=fun h9=>absurd h9 (by omega),fm:=fun h9=>absurd h9 (by omega),row:=fun _=>OkT.row hC.ok h.t hB hn (by have:=h.tp; rw [if_pos e] at this; exact this),re:=fun h9=>absurd h9 (by omega),hs:=fun h9=>absurd h9 (by omega),own:=fun h9 _=>absurd h9 (by omega),lvl:=fun h9 _ _ _ _ _=>absurd h9 (by omega),sp:=fun h9 _ _=>absurd h9 (by omega),y:=fun h9 _ _=>absurd h9 (by omega),unm:=fun h9=>absurd h9 (by omega),fw:=hF.u }
 ·rw [e] at hp;obtain ⟨hda,hdn,hhs,hnh,hup,hok⟩:=hp;exact { da:=hda,dk:=hd,len:=hlen,hn:=hn,hh:=hh,ck:=hk,ch:=hch,lv1:=hlv,ft:=fun h9=>absurd h9 (by omega),fm:=fun h9=>absurd h9 (by omega),row:=fun h9=>absurd h9 (by omega),re:=fun h9=>absurd h9 (by omega),hs:=fun h9=>absurd h9 (by omega),own:=fun _ _=>by omega,lvl:=fun _ _ _ _ _ _=>by have:=hlv hok; omega,sp:=fun _ _ _=>have hs9:=hdn K.lv (by have:=hlv hok; omega); ⟨hs9.W,hs9.wf⟩,y:=fun h9 _ _=>absurd h9 (by omega),unm:=fun h9=>absurd h9 (by omega),fw:=hF.u }
 ·rw [e] at hp;obtain ⟨hda,hdn,hhs,hnh,hl0,hok⟩:=hp;exact { da:=hda,dk:=hd,len:=hlen,hn:=hn,hh:=hh,ck:=hk,ch:=hch,lv1:=hlv,ft:=fun h9=>absurd h9 (by omega),fm:=fun h9=>absurd h9 (by omega),row:=fun h9=>absurd h9 (by omega),re:=fun h9=>absurd h9 (by omega),hs:=fun _=>⟨hhs,hl0⟩,own:=fun _ _=>by omega,lvl:=fun _ _ _ _ _ _=>by omega,sp:=fun _ _ _=>have hs9:=hdn K.lv (by have:=hlv hok; omega); ⟨hs9.W,hs9.wf⟩,y:=fun h9 _ _=>absurd h9 (by omega),unm:=fun h9=>absurd h9 (by omega),fw:=hF.u }
 ·rw [e] at hp;obtain ⟨hda,hdn,hhs,hown,hup,hok⟩:=hp;exact { da:=hda,dk:=hd,len:=hlen,hn:=hn,hh:=hh,ck:=hk,ch:=hch,lv1:=hlv,ft:=fun h9=>absurd h9 (by omega),fm:=fun h9=>absurd h9 (by omega),row:=fun h9=>absurd h9 (by omega),re:=fun h9=>absurd h9 (by omega),hs:=fun h9=>absurd h9 (by omega),own:=fun _ _=>by omega,lvl:=fun _ _ _ _ _ _=>by have:=hlv hok; omega,sp:=fun _ _ _=>have hs9:=hdn K.lv (by have:=hlv hok; omega); ⟨hs9.W,hs9.wf⟩,y:=fun h9 _ _=>absurd h9 (by omega),unm:=fun h9=>absurd h9 (by omega),fw:=hF.u }
 ·rw [e] at hp;obtain ⟨hda,hdn,hhs,hown,hup,hok⟩:=hp;exact { da:=hda,dk:=hd,len:=hlen,hn:=hn,hh:=hh,ck:=hk,ch:=hch,lv1:=hlv,ft:=fun h9=>absurd h9 (by omega),fm:=fun h9=>absurd h9 (by omega),row:=fun h9=>absurd h9 (by omega),re:=fun h9=>absurd h9 (by omega),hs:=fun h9=>absurd h9 (by omega),own:=fun _ _=>by omega,lvl:=fun _ _ _ _ _ _=>by have:=hlv hok; omega,sp:=fun _ _ _=>have hs9:=hdn K.lv (by have:=hlv hok; omega); ⟨hs9.W,hs9.wf⟩,y:=fun h9 _ _=>absurd h9 (by omega),unm:=fun h9=>absurd h9 (by omega),fw:=hF.u }
 ·rw [e] at hp;obtain ⟨hda,hhs⟩:=hp;exact { da:=hda,dk:=hd,len:=hlen,hn:=hn,hh:=hh,ck:=hk,ch:=hch,lv1:=hlv,ft:=fun h9=>absurd h9 (by omega),fm:=fun h9=>absurd h9 (by omega),row:=fun h9=>absurd h9 (by omega),re:=fun _=>⟨by have:=h.t.re; have:=hC.ok.l; unfold InU; omega,by have:=h.t.rs; unfold In64; omega⟩,hs:=fun h9=>absurd h9 (by omega),own:=fun _ h9=>absurd e h9,lvl:=fun _ h9 _ _ _ _=>absurd e h9,sp:=fun _ _ h9=>absurd e h9,y:=fun h9 _ _=>absurd h9 (by omega),unm:=fun h9=>absurd h9 (by omega),fw:=hF.u }
 ·rw [e] at hp;obtain ⟨hda,hdn,hhs,hown,hup,hok⟩:=hp;exact { da:=hda,dk:=hd,len:=hlen,hn:=hn,hh:=hh,ck:=hk,ch:=hch,lv1:=hlv,ft:=fun h9=>absurd h9 (by omega),fm:=fun h9=>absurd h9 (by omega),row:=fun h9=>absurd h9 (by omega),re:=fun h9=>absurd h9 (by omega),hs:=fun h9=>absurd h9 (by omega),own:=fun _ _=>by omega,lvl:=fun _ _ _ _ _ _=>by have:=hlv hok; omega,sp:=fun _ _ _=>have hs9:=hdn K.lv (by have:=hlv hok; omega); ⟨hs9.W,hs9.wf⟩,y:=fun h9 _ _=>absurd h9 (by omega),unm:=fun h9=>absurd h9 (by omega),fw:=hF.u }
 ·rw [e] at hp;obtain ⟨hda,hhs,hown⟩:=hp;exact { da:=hda,dk:=hd,len:=hlen,hn:=hn,hh:=hh,ck:=hk,ch:=hch,lv1:=hlv,ft:=fun h9=>absurd h9 (by omega),fm:=fun h9=>absurd h9 (by omega),row:=fun h9=>absurd h9 (by omega),re:=fun h9=>absurd h9 (by omega),hs:=fun h9=>absurd h9 (by omega),own:=fun _ _=>by omega,lvl:=fun _ _ h9=>absurd e h9,sp:=fun _ h9=>absurd h9 (by omega),y:=fun h9 _ _=>absurd h9 (by omega),unm:=fun h9=>absurd h9 (by omega),fw:=hF.u }
 ·rw [e] at hp;obtain ⟨hda,hhs,hown⟩:=hp;exact { da:=hda,dk:=hd,len:=hlen,hn:=hn,hh:=hh,ck:=hk,ch:=hch,lv1:=hlv,ft:=fun h9=>absurd h9 (by omega),fm:=fun h9=>absurd h9 (by omega),row:=fun h9=>absurd h9 (by omega),re:=fun h9=>absurd h9 (by omega),hs:=fun h9=>absurd h9 (by omega),own:=fun _ _=>by omega,lvl:=fun _ _ _ h9=>absurd e h9,sp:=fun _ h9=>absurd h9 (by omega),y:=fun h9 _ _=>absurd h9 (by omega),unm:=fun h9=>absurd h9 (by omega),fw:=hF.u }
 ·rw [e] at hp;obtain ⟨hda,hhs,hown,hy⟩:=hp;exact { da:=hda,dk:=hd,len:=hlen,hn:=hn,hh:=hh,ck:=hk,ch:=hch,lv1:=hlv,ft:=fun h9=>absurd h9 (by omega),fm:=fun h9=>absurd h9 (by omega),row:=fun h9=>absurd h9 (by omega),re:=fun h9=>absurd h9 (by omega),hs:=fun h9=>absurd h9 (by omega),own:=fun _ _=>by omega,lvl:=fun _ _ _ _ h9=>absurd e h9,sp:=fun _ h9=>absurd h9 (by omega),y:=fun _ _ _=>hy,unm:=fun h9=>absurd h9 (by omega),fw:=hF.u }
 ·rw [e] at hp;obtain ⟨hda,hhs,hown,hl⟩:=hp;exact { da:=hda,dk:=hd,len:=hlen,hn:=hn,hh:=hh,ck:=hk,ch:=hch,lv1:=hlv,ft:=fun h9=>absurd h9 (by omega),fm:=fun h9=>absurd h9 (by omega),row:=fun h9=>absurd h9 (by omega),re:=fun h9=>absurd h9 (by omega),hs:=fun h9=>absurd h9 (by omega),own:=fun _ _=>by omega,lvl:=fun _ _ _ _ _ _=>hl,sp:=fun _ h9=>absurd h9 (by omega),y:=fun _ _ h9=>absurd e h9,unm:=fun h9=>absurd h9 (by omega),fw:=hF.u }
 ·rw [e] at hp;obtain ⟨hda,hhs,hown,hl,hy,hys⟩:=hp;exact { da:=hda,dk:=hd,len:=hlen,hn:=hn,hh:=hh,ck:=hk,ch:=hch,lv1:=hlv,ft:=fun h9=>absurd h9 (by omega),fm:=fun h9=>absurd h9 (by omega),row:=fun h9=>absurd h9 (by omega),re:=fun h9=>absurd h9 (by omega),hs:=fun h9=>absurd h9 (by omega),own:=fun _ _=>by omega,lvl:=fun _ _ _ _ _ _=>hl,sp:=fun _ h9=>absurd h9 (by omega),y:=fun _ _ _=>hy,unm:=fun h9=>absurd h9 (by omega),fw:=hF.u }
 ·rw [e] at hp;obtain ⟨hda,hhs,hown,hl,hy,hys,hmk⟩:=hp;exact { da:=hda,dk:=hd,len:=hlen,hn:=hn,hh:=hh,ck:=hk,ch:=hch,lv1:=hlv,ft:=fun h9=>absurd h9 (by omega),fm:=fun h9=>absurd h9 (by omega),row:=fun h9=>absurd h9 (by omega),re:=fun h9=>absurd h9 (by omega),hs:=fun h9=>absurd h9 (by omega),own:=fun _ _=>by omega,lvl:=fun _ _ _ _ _ _=>hl,sp:=fun _ h9=>absurd h9 (by omega),y:=fun _ _ _=>hy,unm:=fun _=>hmk,fw:=hF.u }
 ·rw [e] at hp;obtain ⟨hda,hhs,hown⟩:=hp;exact { da:=hda,dk:=hd,len:=hlen,hn:=hn,hh:=hh,ck:=hk,ch:=hch,lv1:=hlv,ft:=fun h9=>absurd h9 (by omega),fm:=fun h9=>absurd h9 (by omega),row:=fun h9=>absurd h9 (by omega),re:=fun h9=>absurd h9 (by omega),hs:=fun h9=>absurd h9 (by omega),own:=fun _ _=>by omega,lvl:=fun _ _ _ _ _ h9=>absurd e h9,sp:=fun _ h9=>absurd h9 (by omega),y:=fun _ h9 _=>absurd h9 (by omega),unm:=fun h9=>absurd h9 (by omega),fw:=hF.u }
end
end
end Go.Proofs.YtffncfmciockmaaGreatDoor
