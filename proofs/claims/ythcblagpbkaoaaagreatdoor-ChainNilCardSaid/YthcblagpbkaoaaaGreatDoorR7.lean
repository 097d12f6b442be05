/- What is proved on the way to the statement, part 7: contracts of the functions, among other things in memory. -/
import Derived.Test.YthcblagpbkaoaaaGreatDoorR6

namespace Go.Proofs.YthcblagpbkaoaaaGreatDoor
open Go.RowKit Go.Maps
set_option maxRecDepth 100000
set_option maxHeartbeats 25600000
def St3 {α:Type} (q:Int × α):Prop:=q.1=0\/q.1=1\/q.1=2
theorem come_state (L:Lm) (v:Int):St3 (comeM L v):=by
 unfold comeM
 by_cases h:slotI v=0
 ·simp [h,St3]
 ·simp [h,St3]
theorem holds_state (lv key:Int) (vs:Bool) (L:Lm):St3 (holdsM lv key vs L):=by
 unfold holdsM
 repeat' split
 all_goals first | exact come_state _ _ | simp [St3]
theorem lane_state (lv key:Int) (vs:Bool) (e:Int) (L:Lm) (f:Plc->Int):(laneM lv key vs e L f).1=0\/(laneM lv key vs e L f).1=1\/(laneM lv key vs e L f).1=2:=by
 show St3 (laneM lv key vs e L f)
 unfold laneM
 repeat' split
 all_goals first | exact come_state L (wordI false (slotI L.X) e) | exact holds_state lv key vs L | simp [St3]
theorem LmOk.come {L:Lm} (hL:LmOk L) (h7:L.pc<=7) (v:Int) (hv:InU v):LmOk { L with W:=v,X:=0,C:=slotI v,pc:=3 } :=
 ⟨by simp,fun _=>hL.v (by omega),fun _=>hL.fd h7,fun h=>absurd h (by simp),fun _=>rfl,fun h=>absurd h (by simp),hv,by simp [InU],slotI_in v⟩
theorem lane_ok {lv key:Int} {vs:Bool} {e:Int} {L:Lm} {f:Plc->Int} (hL:LmOk L) (hW:∀ x,InU (f x)) (hp:Wf L.p) (hlv:0<=lv/\lv<=1000000) (h0:(laneM lv key vs e L f).1=0):LmOk (laneM lv key vs e L f).2.1/\Wf (laneM lv key vs e L f).2.1.p:=by
 have hpc9:L.pc<=9:=by rcases hL.pc with h | h | h | h | h | h | h | h | h<;>omega
 rcases hL.pc with hpc | hpc | hpc | hpc | hpc | hpc | hpc | hpc | hpc
 ·have hM:laneM lv key vs e L f=(0,{ L with W:=f L.p,pc:=2 },f):=by simp [laneM,hpc]
  rw [hM]
  exact ⟨⟨by simp,fun _=>hL.v (by omega),fun _=>hL.fd (by omega),fun h=>absurd h (by simp),fun _=>hL.x (by omega),fun _=>hL.c0 (by omega),hW _,hL.X,hL.C⟩,hp⟩
 ·by_cases hok:okB (f (1,0,0)) e=true
  ·by_cases hmk:markB L.W=true
   ·have hM:laneM lv key vs e L f=(2,L,f):=by simp [laneM,holdsM,hpc,hok,hmk]
    rw [hM] at h0
    exact absurd h0 (by simp)
   ·have hM:laneM lv key vs e L f=(cS L.W,{ L with W:=L.W,X:=0,C:=slotI L.W,pc:=3 },f):=by simp [laneM,holdsM,hpc,hok,hmk,comeM_cS]
    rw [hM]
    exact ⟨hL.come (by omega) _ hL.W,hp⟩
  ·have hM:laneM lv key vs e L f=(2,L,f):=by simp [laneM,hpc,hok]
   rw [hM] at h0
   exact absurd h0 (by simp)
 ·have hM:laneM lv key vs e L f=(0,{ L with X:=f (5,L.C,7+lv),pc:=4 },f):=by simp [laneM,hpc]
  rw [hM]
  exact ⟨⟨by simp,fun _=>hL.v (by omega),fun _=>hL.fd (by omega),fun h=>absurd h (by simp),fun h=>absurd h (by simp),fun h=>absurd h (by simp),hL.W,hW _,hL.C⟩,hp⟩
 ·by_cases hok:okB (f (1,0,0)) e=true
  ·have hM:laneM lv key vs e L f=(0,{ L with pc:=if markB L.X then 5 else 6 },f):=by simp [laneM,holdsM,hpc,hok]
   rw [hM]
   cases markB L.X
   ·exact ⟨⟨by simp,fun _=>hL.v (by omega),fun _=>hL.fd (by omega),fun h=>absurd h (by simp),fun h=>absurd h (by simp),fun h=>absurd h (by simp),hL.W,hL.X,hL.C⟩,hp⟩
   ·exact ⟨⟨by simp,fun _=>hL.v (by omega),fun _=>hL.fd (by omega),fun h=>absurd h (by simp),fun h=>absurd h (by simp),fun h=>absurd h (by simp),hL.W,hL.X,hL.C⟩,hp⟩
  ·have hM:laneM lv key vs e L f=(2,L,f):=by simp [laneM,hpc,hok]
   rw [hM] at h0
   exact absurd h0 (by simp)
 ·by_cases heq:f L.p=L.W
  ·have hM:laneM lv key vs e L f=(cS (wordI false (slotI L.X) e),{ L with W:=wordI false (slotI L.X) e,X:=0,C:=slotI (wordI false (slotI L.X) e),pc:=3 },swf f L.p L.W (wordI false (slotI L.X) e)):=by simp [laneM,hpc,heq,comeM_cS]
   rw [hM]
   exact ⟨hL.come (by omega) _ (wordI_in _ _ _),hp⟩
  ·have hM:laneM lv key vs e L f=(2,L,swf f L.p L.W (wordI false (slotI L.X) e)):=by simp [laneM,hpc,heq]
   rw [hM] at h0
   exact absurd h0 (by simp)
 ·have hM:laneM lv key vs e L f=(0,{ L with K:=f (5,L.C,3),pc:=7 },f):=by simp [laneM,hpc]
  rw [hM]
  exact ⟨⟨by simp,fun _=>hL.v (by omega),fun _=>hL.fd (by omega),fun h=>absurd h (by simp),fun h=>absurd h (by simp),fun h=>absurd h (by simp),hL.W,hL.X,hL.C⟩,hp⟩
 ·by_cases hok:okB (f (1,0,0)) e=true
  ·by_cases hlt:L.K < key
   ·have hM:laneM lv key vs e L f=(cS L.X,{ L with p:=(5,L.C,7+lv),W:=L.X,X:=0,C:=slotI L.X,pc:=3 },f):=by simp [laneM,holdsM,hpc,hok,hlt,comeM_cS]
    rw [hM]
    have hLp:LmOk { L with p:=(5,L.C,7+lv) }:=⟨hL.pc,hL.v,hL.fd,hL.ft,hL.x,hL.c0,hL.W,hL.X,hL.C⟩
    exact ⟨hLp.come (by show L.pc<=7; omega) _ hL.X,wf_part hL.C (by omega)⟩
   ·by_cases heq:L.K=key
    ·cases vs
     ·have hM:laneM lv key false e L f=(1,{ L with fd:=true },f):=by simp [laneM,holdsM,hpc,hok,heq]
      rw [hM] at h0
      exact absurd h0 (by simp)
     ·have hM:laneM lv key true e L f=(0,{ L with fd:=true,pc:=8 },f):=by simp [laneM,holdsM,hpc,hok,heq]
      rw [hM]
      exact ⟨⟨by simp,fun _=>hL.v (by omega),fun h=>absurd h (by simp),fun _=>rfl,fun h=>absurd h (by simp),fun h=>absurd h (by simp),hL.W,hL.X,hL.C⟩,hp⟩
    ·have hM:laneM lv key vs e L f=(1,L,f):=by simp [laneM,holdsM,hpc,hok,hlt,heq]
     rw [hM] at h0
     exact absurd h0 (by simp)
  ·have hM:laneM lv key vs e L f=(2,L,f):=by simp [laneM,hpc,hok]
   rw [hM] at h0
   exact absurd h0 (by simp)
 ·have hM:laneM lv key vs e L f=(0,{ L with V:=f (5,L.C,4),pc:=9 },f):=by simp [laneM,hpc]
  rw [hM]
  exact ⟨⟨by simp,fun h=>absurd h (by simp),fun h=>absurd h (by simp),fun _=>hL.ft (by omega),fun h=>absurd h (by simp),fun h=>absurd h (by simp),hL.W,hL.X,hL.C⟩,hp⟩
 ·by_cases hok:okB (f (1,0,0)) e=true
  ·have hM:laneM lv key vs e L f=(1,L,f):=by simp [laneM,holdsM,hpc,hok]
   rw [hM] at h0
   exact absurd h0 (by simp)
  ·have hM:laneM lv key vs e L f=(2,L,f):=by simp [laneM,hpc,hok]
   rw [hM] at h0
   exact absurd h0 (by simp)
def SmOk (T:Sm):Prop:=T.on=true->LmOk T.L/\Wf T.L.p
def SrchR (w0:World) (R:List Item) (sb:Nat) (k key:Int) (vs:Bool) (S:ST) (s:Int) (T:Sm) (w:World):Prop :=
 S.ce=T.e/\S.cr=T.r/\((T.on=false/\s=0/\(Env w0 (boxI sb (srC S.c k key vs (.pointer none))::LT S R) w\/∃ a L,LaneR w0 (boxI sb (srC S.c k key vs (.pointer (some ⟨a,0,none⟩)))::R) a 0 key vs S 2 L w))\/(T.on=true/\∃ a,LaneR w0 (boxI sb (srC S.c k key vs (.pointer (some ⟨a,0,none⟩)))::R) a 0 key vs S s T.L w))
def searchS (key:Int) (vs:Bool) (S:ST) (T:Sm) (G:Nat->Prop):ST:=if T.on then laneS 0 key vs S T.L G else { S with ce:=epI (S.f (1,0,0)),qc:={ S.qc with l:=wrap64 (S.qc.l+1) } }
section
variable {w0 w:World} {R:List Item} {sb:Nat} {S:ST} {k key:Int} {vs:Bool} {T:Sm} {lp:Value}
theorem Env.sfront {x:Item} (h:Env w0 (LT S (x::R)) w):Env w0 (x::LT S R) w:=h.perm (List.perm_middle (l₁:=[_,_,_,_]))
theorem check_r (hoff:T.on=false) (he:S.ce=T.e) (hr:S.cr=T.r) (hE:Env w0 (boxI sb (srC S.c k key vs lp)::LT S R) w) :
  Calls Tryz.prog 166 #[.pointer (some ⟨sb,0,none⟩),.iface 26 (.pointer (some ⟨S.p,0,none⟩))] w fun o w'=>o=.returned (.int .i64 (searchM k key vs T S.f).1)/\∃ G',SrchR w0 R sb k key vs (searchS key vs S T G') (searchM k key vs T S.f).1 (searchM k key vs T S.f).2.1 w':=by
 have hM:searchM k key vs T S.f=(0,{ on:=true,L:=L0 (4,0,k),e:=epI (S.f (1,0,0)),r:=T.r },S.f):=by unfold searchM; rw [hoff]; rfl
 have hS:∀ G,searchS key vs S T G={ S with ce:=epI (S.f (1,0,0)),qc:={ S.qc with l:=wrap64 (S.qc.l+1) } }:=fun G=>by unfold searchS; rw [hoff]; rfl
 refine (check_s hE).mono ?_
 rintro o w1 ⟨rfl,a,hE1⟩
 rw [hM]
 refine ⟨rfl,S.G,?_⟩
 rw [hS]
 refine ⟨rfl,hr,.inr ⟨rfl,a,mvL (fnL 0) a,0,noI,noI,fun _=>⟨⟨fun _=>rfl,fun h=>absurd h (by simp [L0,isVal])⟩,fun h=>absurd h (by simp [L0]),fun h=>absurd h (by simp [L0])⟩,?_⟩⟩
 have hE2:=hE1.perm (L':=boxI a (laneC S.c 0 key vs (mvL (fnL 0) a) 0 4 0 k 0 0 0 0 false 0)::LT { S with ce:=epI (S.f (1,0,0)),qc:={ S.qc with l:=wrap64 (S.qc.l+1) } } (boxI sb (srC S.c k key vs (.pointer (some ⟨a,0,none⟩)))::R)) (List.Perm.cons _ (List.perm_middle (l₁:=[_,_,_,_])).symm)
 exact hE2.none2
theorem search_l (hT:SmOk T) (hg:Glo w0) (hm:S.m < maxLen) (h:SrchR w0 R sb k key vs S 0 T w) :
  Calls Tryz.prog 118 #[.pointer (some ⟨sb,0,none⟩),.iface 26 (.pointer (some ⟨S.p,0,none⟩))] w fun o w'=>o=.returned (.int .i64 (searchM k key vs T S.f).1)/\∃ G',SrchR w0 R sb k key vs (searchS key vs S T G') (searchM k key vs T S.f).1 (searchM k key vs T S.f).2.1 w':=by
 obtain ⟨he,hr,⟨hoff,-,hE | ⟨a,L,nx,wd,B1,B2,-,hE⟩⟩ | ⟨hon,a,hR⟩⟩:=h
 ·have HC:=Lib.hid (check_r hoff he hr hE)
  have r:=hE.rule 0 rfl
  unfold srC at r
  clear hE
  go_enter Tryz.func118,Tryz.ntmps118
  go_wp2_with fail
  refine HC.out.mono ?_
  rintro o w1 ⟨rfl,hP⟩
  go_wp2_with fail
  go_ret
  exact ⟨rfl,hP⟩
 ·have hE1:Env w0 (boxI sb (srC S.c k key vs (.pointer (some ⟨a,0,none⟩)))::LT S R) w:=(hE.sub (.cons _ (.cons _ (.cons _ (List.Sublist.refl _))))).sfront
  have HC:=Lib.hid (check_r hoff he hr hE1)
  have r:=hE1.rule 0 rfl
  unfold srC at r
  have ra:=hE.rule 0 rfl
  have RA:=Lib.hid ra
  unfold laneV laneC at ra
  clear hE hE1
  go_enter Tryz.func118,Tryz.ntmps118
  go_wp2_with fail
  refine (state_r (o:=4) (s:=2) (show w.cell? ⟨a,5,none⟩=some (.int .i64 2) from RA.out 5)).mono ?_
  rintro o w0' ⟨rfl,rfl⟩
  go_wp2_with fail
  refine HC.out.mono ?_
  rintro o w1 ⟨rfl,hP⟩
  go_wp2_with fail
  go_ret
  exact ⟨rfl,hP⟩
 ·obtain ⟨hL,hp⟩:=hT hon
  have hst:=lane_l hL (show (0:Int)<=0/\(0:Int)<=1000000 by omega) hp hg hm hR
  have hM:searchM k key vs T S.f=(if (laneM 0 key vs T.e T.L S.f).1=1 then 1 else 0,{ on:=decide ((laneM 0 key vs T.e T.L S.f).1≠2),L:=(laneM 0 key vs T.e T.L S.f).2.1,e:=T.e,r:=rollM T.e T.L S.f T.r },(laneM 0 key vs T.e T.L S.f).2.2):=by unfold searchM; rw [if_pos hon]
  have hS:∀ G,searchS key vs S T G=laneS 0 key vs S T.L G:=fun G=>by unfold searchS; rw [if_pos hon]
  have hsl:=lane_state 0 key vs S.ce T.L S.f
  obtain ⟨nx,wd,B1,B2,-,hE⟩:=hR
  have r:∀ i,w.cell? ⟨sb,i,none⟩=_:=hE.rule 7 rfl
  unfold srC at r
  have ra:=hE.rule 0 rfl
  have RA:=Lib.hid ra
  unfold laneV laneC at ra
  clear hE
  rw [hM]
  simp only [hS]
  rw [<- he,<- hr]
  clear he hr
  have hce:∀ G,(laneS 0 key vs S T.L G).ce=S.ce/\(laneS 0 key vs S T.L G).cr=rollM S.ce T.L S.f S.cr/\(laneS 0 key vs S T.L G).c=S.c:=fun G=>⟨rfl,rfl,rfl⟩
  generalize hq:laneM 0 key vs S.ce T.L S.f=q at *
  obtain ⟨q1,q2,q3⟩:=q
  have HST:=Lib.hid hst
  have HSL:=Lib.hid hsl
  have HCE:=Lib.hid hce
  clear hst hsl hq hM hS hce
  go_enter Tryz.func118,Tryz.ntmps118
  go_wp2_with fail
  refine (state_r (o:=4) (s:=0) (show w.cell? ⟨a,5,none⟩=some (.int .i64 0) from RA.out 5)).mono ?_
  rintro o w0' ⟨rfl,rfl⟩
  go_wp2_with fail
  refine HST.out.mono ?_
  rintro o w1 ⟨rfl,G',hR'⟩
  have HR':=Lib.hid hR'
  clear hR' HST r ra
  rcases HSL.out with h1 | h1 | h1
  ·have h1':q1=0:=h1
   subst h1'
   go_wp2_with fail
   go_ret
   refine ⟨rfl,G',(HCE.out G').1,(HCE.out G').2.1,.inr ⟨rfl,a,?_⟩⟩
   exact HR'.out
  ·have h1':q1=1:=h1
   subst h1'
   go_wp2_with fail
   go_ret
   refine ⟨rfl,G',(HCE.out G').1,(HCE.out G').2.1,.inr ⟨rfl,a,?_⟩⟩
   exact HR'.out
  ·have h1':q1=2:=h1
   subst h1'
   go_wp2_with fail
   go_ret
   refine ⟨rfl,G',(HCE.out G').1,(HCE.out G').2.1,.inl ⟨rfl,rfl,.inr ⟨a,q2,?_⟩⟩⟩
   exact HR'.out
end
structure Kt where
 T:Th
 pc:Nat
 on:Bool
 L:Lm
 laid:Bool
 on2:Bool
 L2:Lm
 err:Int
 dn:Bool
 r:Int
def dropQ (hs:Int) (ql:List Trip):List Trip:=if hs=0 then ql else ql++[(hs,0,0)]
def findM (K:Kt):Kt:={ K with pc:=1,on:=false,L:=L0 (4,0,0) }
def foundM (C:Cf) (d:Dd) (K:Kt):Int × Kt :=
 if d.ok=1 then
  if K.L.fd then (1,{ K with T:={ K.T with ql:=dropQ K.T.hs K.T.ql,hs:=0 } })
  else if K.T.hs=0 then
   if decP K.T.ql K.T.e C.l=0 then (1,{ K with err:=7 })
   else (0,{ K with pc:=2,T:={ K.T with pc:=2,apc:=decP K.T.ql K.T.e C.l,ah:=0,an:=0,ar:=0 } })
  else (0,{ K with pc:=3,laid:=false })
 else if d.ok=2/\K.L.fd=true then (0,{ K with pc:=4 })
 else (1,{ K with dn:=K.L.fd })
def markM (X e:Int):Int:=wordI true (slotI X) e
def opM (C:Cf) (d:Dd) (K:Kt) (f:Mem):Int × Kt × Mem :=
 if K.pc=1 then
  let q:=searchM 0 d.key false ⟨K.on,K.L,K.T.e,K.r⟩ f
  let K':={ K with on:=q.2.1.on,L:=q.2.1.L,r:=q.2.1.r,T:={ K.T with e:=q.2.1.e } }
  if q.1=1 then ((foundM C d K').1,(foundM C d K').2,q.2.2) else (0,K',q.2.2)
 else if K.pc=2 then
  let q:=allocM C d K.T f
  if q.1=0 then (0,{ K with T:=q.2.1 },q.2.2)
  else if q.1=3 then (1,{ K with T:={ q.2.1 with pc:=0 },err:=6 },q.2.2)
  else if q.1=4 then (1,{ K with T:={ q.2.1 with pc:=0 },err:=7 },q.2.2)
  else (0,findM { K with T:={ q.2.1 with pc:=0 } },q.2.2)
 else if K.pc=3 then
  if K.laid then
   if f K.L.p=K.L.W then (1,{ K with T:={ K.T with hs:=0 },dn:=true },swf f K.L.p K.L.W (wordI false K.T.hs K.T.e))
   else (0,findM K,swf f K.L.p K.L.W (wordI false K.T.hs K.T.e))
  else (0,{ K with laid:=true },upd f (5,K.T.hs,7) (wordI false (slotI K.L.W) K.T.e))
 else if K.pc=4 then
  if f (5,K.L.C,7)=K.L.X then (0,{ K with pc:=5 },swf f (5,K.L.C,7) K.L.X (markM K.L.X K.T.e))
  else (0,findM K,swf f (5,K.L.C,7) K.L.X (markM K.L.X K.T.e))
 else if K.pc=5 then
  if f K.L.p=K.L.W then (0,{ K with pc:=7,T:={ K.T with pc:=3,rs:=K.L.C,rpc:=0,re:=0 } },swf f K.L.p K.L.W (wordI false (slotI K.L.X) K.T.e))
  else (0,{ K with pc:=6,on2:=false,L2:=L0 (4,0,0) },swf f K.L.p K.L.W (wordI false (slotI K.L.X) K.T.e))
 else if K.pc=6 then
  let q:=searchM 0 d.key false ⟨K.on2,K.L2,K.T.e,K.r⟩ f
  let K':={ K with on2:=q.2.1.on,L2:=q.2.1.L,r:=q.2.1.r,T:={ K.T with e:=q.2.1.e } }
  if q.1=1 then (0,{ K' with pc:=7,T:={ K'.T with pc:=3,rs:=K.L.C,rpc:=0,re:=0 } },q.2.2) else (0,K',q.2.2)
 else
  let q:=retireM K.T f
  if q.1=0 then (0,{ K with T:=q.2.1 },q.2.2) else (1,{ K with T:={ q.2.1 with pc:=0 },dn:=true },q.2.2)
def beginK (d:Dd) (K:Kt):Kt :=
 if d.ok=8 then { K with pc:=8,T:={ K.T with pc:=4,nd:=K.T.nd+1,gpc:=0,gh:=0,gg:=0 } }
 else { findM K with T:={ K.T with nd:=K.T.nd+1 },err:=0,dn:=false }
structure Rw where
 (A:Option Addr)
 (cap:Nat)
 (ds:List Dd)
instance:Inhabited Rw:=⟨⟨none,0,[]⟩⟩
section
variable {w0 w:World} {L R:List Item} {o sb a c:Nat} {S:ST} {kd key val lv:Int} {nx lnx:Value} {er st x y z W C X wd:Int} {dn pf:Bool} {pv:Int}
theorem seaHas_o (u:Int) (hk1:kd≠1) (hk2:kd≠2) (hE:Env w0 (boxI o (opC c kd key val lv nx 0 (.pointer (some ⟨sb,0,none⟩)) er dn)::boxI sb (srC c 0 key false (.pointer (some ⟨a,0,none⟩)))::boxI a (laneC c 0 key false lnx st x y z W C X wd pf pv)::L) w) :
  Calls Tryz.prog 119 #[.pointer (some ⟨o,0,none⟩),.int .i64 u] w fun r w'=>r=.returned (.int .i64 1)/\Env w0 (boxI o (opC c kd key val lv nx 1 (.pointer (some ⟨sb,0,none⟩)) 0 pf)::L) w':=by
 have h1:(kd==1)=false:=by simpa using hk1
 have h2:(kd==2)=false:=by simpa using hk2
 have r:=hE.rule 0 rfl
 unfold opC at r
 clear hk1 hk2
 go_enter Tryz.func119,Tryz.ntmps119
 go_wp2_with fail
 refine (lane_g (hE.get 1 rfl)).mono ?_
 rintro e w1 ⟨rfl,rfl⟩
 go_wp2_with fail
 refine (found_g (hE.get 2 rfl)).mono ?_
 rintro e w1 ⟨rfl,rfl⟩
 go_wp2_with fail
 refine (over_o 0 pf hE).mono ?_
 rintro e w1 ⟨rfl,hE2⟩
 go_wp2_with fail
 go_ret
 exact ⟨rfl,hE2.sub (.cons_cons _ (.cons _ (.cons _ (List.Sublist.refl _))))⟩
theorem removeNo_o (hE:Env w0 (boxI o (opC c kd key val lv nx 0 (.pointer (some ⟨sb,0,none⟩)) er dn)::boxI sb (srC c 0 key false (.pointer (some ⟨a,0,none⟩)))::boxI a (laneC c 0 key false lnx st x y z W C X wd false pv)::L) w) :
  Calls Tryz.prog 170 #[.pointer (some ⟨o,0,none⟩),.pointer (some ⟨a,0,none⟩)] w fun r w'=>r=.returned (.int .i64 1)/\Env w0 (boxI o (opC c kd key val lv nx 1 (.pointer (some ⟨sb,0,none⟩)) 0 false)::L) w':=by
 go_enter Tryz.func170,Tryz.ntmps170
 go_wp2_with fail
 refine (found_g (hE.get 2 rfl)).mono ?_
 rintro e w1 ⟨rfl,rfl⟩
 go_wp2_with fail
 refine (over_o 0 false hE).mono ?_
 rintro e w1 ⟨rfl,hE2⟩
 go_wp2_with fail
 go_ret
 exact ⟨rfl,hE2.sub (.cons_cons _ (.cons _ (.cons _ (List.Sublist.refl _))))⟩
theorem removeYes_o (hX:InU X) (hg:Glo w0) (hE:Env w0 (boxI o (opC c kd key val lv nx 0 (.pointer (some ⟨sb,0,none⟩)) er dn)::boxI sb (srC c 0 key false (.pointer (some ⟨a,0,none⟩)))::boxI a (laneC c 0 key false lnx st x y z W C X wd true pv)::L) w) :
  Calls Tryz.prog 170 #[.pointer (some ⟨o,0,none⟩),.pointer (some ⟨a,0,none⟩)] w fun r w'=>r=.returned (.int .i64 0)/\∃ b1 b2 l,Env w0 (boxI o (opC c kd key val lv (cvP b1 b2) 0 (.pointer (some ⟨sb,0,none⟩)) er dn)::boxI b1 [mvL 26 l]::boxI b2 [mvL 199 o]::boxI l (ukC c x y z W C X 0 key (slotI X) (mvL 73 l) 0)::L) w':=by
 have hmf:=makeF
 have HLE:=Lib.hid fun (v:World) (hv:Below w0.heap.size w0 v)=>lead_c X 0 false v hX (hg.keep' hv)
 obtain ⟨s,hs⟩:∃ s,slotI X=s:=⟨_,rfl⟩
 rw [hs]
 simp only [hs] at HLE
 clear hs hX hg
 go_enter Tryz.func170,Tryz.ntmps170
 go_wp2_with fail
 refine (found_g (hE.get 2 rfl)).mono ?_
 rintro e w1 ⟨rfl,rfl⟩
 go_wp2_with fail
 refine Ord3.wp_chain [?_,?_,?_,?_,?_,?_,?_,?_,?_,?_,?_,?_,?_,?_,?_] [13,14] (fun w'=>Below w0.heap.size w0 w'/\Blk 0 w' o (opC c kd key val lv nx 0 (.pointer (some ⟨sb,0,none⟩)) er dn)/\Blk 0 w' a (laneC c 0 key false lnx st x y z W C X wd true pv)) (Ord3.Stage fun κs=>[Env w0 (boxI o (opC c kd key val lv nx 0 (.pointer (some ⟨sb,0,none⟩)) er dn)::boxI sb (srC c 0 key false (.pointer (some ⟨a,0,none⟩)))::boxI a (laneC c 0 key false lnx st x y z W C X wd true pv)::L),fun w'=>∃ q,κs.getD 0 undef=.pointer (some ⟨q,0,none⟩)/\Env w0 (boxI q (ukC c x y z W C X 0 key s (mvL 73 q) 0)::boxI o (opC c kd key val lv nx 0 (.pointer (some ⟨sb,0,none⟩)) er dn)::boxI sb (srC c 0 key false (.pointer (some ⟨a,0,none⟩)))::boxI a (laneC c 0 key false lnx st x y z W C X wd true pv)::L) w',fun w'=>∃ q,κs.getD 1 undef=.pointer (some ⟨q,0,none⟩)/\Env w0 (boxI q (ukC c x y z W C X 0 key s (mvL 73 q) 0)::boxI o (opC c kd key val lv nx 0 (.pointer (some ⟨sb,0,none⟩)) er dn)::boxI sb (srC c 0 key false (.pointer (some ⟨a,0,none⟩)))::boxI a (laneC c 0 key false lnx st x y z W C X wd true pv)::L) w']) (by kernel_rfl) (by kernel_rfl) (by kernel_rfl) ⟨hE.drew.below,hE.drew.get 0 rfl,hE.drew.get 2 rfl⟩ ⟨_,rfl,hE.drew⟩ (fun hT=>?_)
 rotate_left 15
 have hT9:=Lib.hid hT
 clear hT
 repeat (first
  | (focus (refine Ord3.in_value (v:=?_) hT9.out (by decide) ?_ (by rfl) ?_ ?_; rotate_left 2; (focus (intro w5 hS; have r1:=Blk.rule hS.2.1; unfold opC at r1; go_simp<;>with_reducible rfl)); rotate_right; (focus rfl); (try simp only [Act.put,zA,zZ,zS])))
  | (focus (refine Ord3.in_off hT9.out (by decide) ?_ (by rfl) ?_; (focus rfl); (try simp only [Act.put,zA,zZ,zS])))
  | (focus (refine Ord3.in_call (v:=?_) (f:=?_) (args:=?_) hT9.out (by decide) ?_ (by rfl) ?_ ?_ ?_; rotate_left 4; (focus (intro w5 hS; have r1:=Blk.rule hS.2.1; unfold opC at r1; go_simp; constructor<;>with_reducible rfl)); (focus (intro w5 hS; (first | (with_reducible refine (out_g hS.2.2).mono ?_; rintro e w6 ⟨rfl,hb6⟩; constructor; with_reducible rfl; exact ⟨⟨hS.1.trans (hb6.mono hS.1.size),hS.2.1.under hb6,hS.2.2.under hb6⟩,fun us h=>Ord3.Stage.three h (fun h=>h.over hb6) (fun h=>h.elim fun q h=>⟨q,h.1,h.2.over hb6⟩) (fun h=>h.elim fun q h=>⟨q,h.1,h.2.over hb6⟩)⟩) | (with_reducible refine (HLE.out _ hS.1).mono ?_; rintro e w6 ⟨rfl,hb6⟩; constructor; with_reducible rfl; exact ⟨⟨hS.1.trans (hb6.mono hS.1.size),hS.2.1.under hb6,hS.2.2.under hb6⟩,fun us h=>Ord3.Stage.three h (fun h=>h.over hb6) (fun h=>h.elim fun q h=>⟨q,h.1,h.2.over hb6⟩) (fun h=>h.elim fun q h=>⟨q,h.1,h.2.over hb6⟩)⟩)))); rotate_right; (focus rfl); (try simp only [Act.put,zA,zZ,zS]))))
 refine Ord3.in_turn (fun u=>∃ q,u=.pointer (some ⟨q,0,none⟩)) _ ⟨0,rfl⟩ hT9.out rfl (by decide) (by rfl) ?_ (Or.inl rfl) (by rfl) ?_ ?_
 ·rfl
 ·rintro w7 hC7 ⟨P7,hP7,hA7⟩
  cases hP7
  go_simp
  simp only [Ord3.Lands]
  refine (newUnlink_k 0 key s 2 rfl hA7).mono ?_
  rintro o8 w8 ⟨r8,rfl,hE8⟩
  exact ⟨_,rfl,⟨r8,rfl⟩,⟨hE8.below,hE8.get 1 rfl,hE8.get 3 rfl⟩,_,rfl,r8,rfl,hE8⟩
 rintro _ ⟨q9,rfl⟩
 (try simp only [Act.put,zA,zZ,zS])
 refine Ord3.in_turn (fun u=>∃ q,u=.pointer (some ⟨q,0,none⟩)) _ ⟨0,rfl⟩ hT9.out rfl (by decide) (by rfl) ?_ (Or.inr ⟨_,13,[],rfl,by kernel_rfl,by kernel_rfl,rfl⟩) (by rfl) ?_ ?_
 ·rfl
 ·rintro w7 hC7 ⟨P7,hP7,hA7⟩
  cases hP7
  obtain ⟨q8,he,hA7⟩:=hA7
  cases he
  go_simp
  simp only [Ord3.Lands]
  exact ⟨⟨_,rfl⟩,hC7,_,rfl,q9,rfl,hA7⟩
 rintro _ ⟨q9,rfl⟩
 (try simp only [Act.put,zA,zZ,zS])
 refine Ord3.in_nil rfl ?_
 rintro w9 hC9 ⟨P9,hP9,hA9⟩
 cases hP9
 obtain ⟨q8,he,hA9⟩:=hA9
 cases he
 clear hT9 hC9 hE HLE
 go_wp2_with fail
 refine (play_r (o:=5) 1 _ _ _ _ _ _ (by simp [opC]) hA9 rfl).mono ?_
 rintro o8 w8 ⟨rfl,b1,b2,hE8⟩
 go_wp2_with fail
 go_ret
 refine ⟨rfl,b1,b2,q9,?_⟩
 have h9:=hE8.sub (L':=boxI b1 [mvL 26 q9]::boxI b2 [mvL 199 o]::boxI q9 (ukC c x y z W C X 0 key s (mvL 73 q9) 0)::boxI o (opC c kd key val lv (cvP b1 b2) 0 (.pointer (some ⟨sb,0,none⟩)) er dn)::L) (.cons_cons _ (.cons_cons _ (.cons_cons _ (.cons_cons _ (.cons _ (.cons _ (List.Sublist.refl _)))))))
 exact h9.perm (List.perm_middle (l₁:=[_,_,_]))
theorem seaDelNo_o (u:Int) (hE:Env w0 (boxI o (opC c 2 key val lv nx 0 (.pointer (some ⟨sb,0,none⟩)) er dn)::boxI sb (srC c 0 key false (.pointer (some ⟨a,0,none⟩)))::boxI a (laneC c 0 key false lnx st x y z W C X wd false pv)::L) w) :
  Calls Tryz.prog 119 #[.pointer (some ⟨o,0,none⟩),.int .i64 u] w fun r w'=>r=.returned (.int .i64 1)/\Env w0 (boxI o (opC c 2 key val lv nx 1 (.pointer (some ⟨sb,0,none⟩)) 0 false)::L) w':=by
 have r:=hE.rule 0 rfl
 unfold opC at r
 have HR:=Lib.hid (removeNo_o hE)
 go_enter Tryz.func119,Tryz.ntmps119
 go_wp2_with fail
 refine (lane_g (hE.get 1 rfl)).mono ?_
 rintro e w1 ⟨rfl,rfl⟩
 go_wp2_with fail
 refine HR.out.mono ?_
 rintro e w1 ⟨rfl,hE2⟩
 go_wp2_with fail
 go_ret
 exact ⟨rfl,hE2⟩
theorem seaDelYes_o (u:Int) (hX:InU X) (hg:Glo w0) (hE:Env w0 (boxI o (opC c 2 key val lv nx 0 (.pointer (some ⟨sb,0,none⟩)) er dn)::boxI sb (srC c 0 key false (.pointer (some ⟨a,0,none⟩)))::boxI a (laneC c 0 key false lnx st x y z W C X wd true pv)::L) w) :
  Calls Tryz.prog 119 #[.pointer (some ⟨o,0,none⟩),.int .i64 u] w fun r w'=>r=.returned (.int .i64 0)/\∃ b1 b2 l,Env w0 (boxI o (opC c 2 key val lv (cvP b1 b2) 0 (.pointer (some ⟨sb,0,none⟩)) er dn)::boxI b1 [mvL 26 l]::boxI b2 [mvL 199 o]::boxI l (ukC c x y z W C X 0 key (slotI X) (mvL 73 l) 0)::L) w':=by
 have r:=hE.rule 0 rfl
 unfold opC at r
 have HR:=Lib.hid (removeYes_o hX hg hE)
 clear hX hg
 go_enter Tryz.func119,Tryz.ntmps119
 go_wp2_with fail
 refine (lane_g (hE.get 1 rfl)).mono ?_
 rintro e w1 ⟨rfl,rfl⟩
 go_wp2_with fail
 refine HR.out.mono ?_
 rintro e w1 ⟨rfl,b1,b2,l,hE2⟩
 go_wp2_with fail
 go_ret
 exact ⟨rfl,b1,b2,l,hE2⟩
theorem insFound_o (hl:S.ql.length+1<=1048576) (hE:Env w0 (boxI o (opC S.c kd key val lv nx 0 (.pointer (some ⟨sb,0,none⟩)) er dn)::boxI sb (srC S.c 0 key false (.pointer (some ⟨a,0,none⟩)))::boxI a (laneC S.c 0 key false lnx st x y z W C X wd true pv)::LT S R) w) :
  Calls Tryz.prog 169 #[.pointer (some ⟨o,0,none⟩),.pointer (some ⟨a,0,none⟩)] w fun r w'=>r=.returned (.int .i64 1)/\∃ F' k',Env w0 (boxI o (opC S.c kd key val lv nx 1 (.pointer (some ⟨sb,0,none⟩)) 0 false)::LT { S with ql:=dropQ S.hs S.ql,hs:=0,F:=F',kq:=k' } R) w':=by
 have r:=hE.rule 0 rfl
 unfold opC at r
 by_cases hh:S.hs=0
 ·have HH:=Lib.hid hh
  clear hh
  go_enter Tryz.func169,Tryz.ntmps169
  go_wp2_with fail
  refine (found_g (hE.get 2 rfl)).mono ?_
  rintro e w1 ⟨rfl,rfl⟩
  go_wp2_with fail
  refine (dropNo_c HH.out (hE.get 3 rfl)).mono ?_
  rintro e w1 ⟨rfl,hb1⟩
  replace hE:=hE.over hb1
  clear hb1 r
  go_wp2_with fail
  refine (over_o 0 false hE).mono ?_
  rintro e w1 ⟨rfl,hE2⟩
  go_wp2_with fail
  go_ret
  have hh:=HH.out
  rw [show dropQ S.hs S.ql=S.ql from if_pos hh]
  have h9:=hE2.sub (L':=boxI o (opC S.c kd key val lv nx 1 (.pointer (some ⟨sb,0,none⟩)) 0 false)::LT S R) (.cons_cons _ (.cons _ (.cons _ (List.Sublist.refl _))))
  have hS0:({ S with hs:=0 }:ST)=S:=by rw [<- hh]
  rw [<- hS0] at h9
  exact ⟨rfl,S.F,S.kq,h9⟩
 ·have HH:=Lib.hid hh
  have HL:=Lib.hid hl
  clear hh hl
  go_enter Tryz.func169,Tryz.ntmps169
  go_wp2_with fail
  refine (found_g (hE.get 2 rfl)).mono ?_
  rintro e w1 ⟨rfl,rfl⟩
  go_wp2_with fail
  refine (dropYes_c HH.out 3 4 (by decide) hE rfl rfl HL.out).mono ?_
  rintro e w1 ⟨rfl,k',F',-,hE1⟩
  simp only [zZ,zS] at hE1
  clear hE r
  have r:=hE1.rule 0 rfl
  unfold opC at r
  go_wp2_with fail
  refine (over_o 0 false hE1).mono ?_
  rintro e w1 ⟨rfl,hE2⟩
  go_wp2_with fail
  go_ret
  rw [show dropQ S.hs S.ql=S.ql++[(S.hs,0,0)] from if_neg HH.out]
  exact ⟨rfl,F',k',hE2.sub (.cons_cons _ (.cons _ (.cons _ (List.Sublist.refl _))))⟩
theorem seaInsFound_o (u:Int) (hl:S.ql.length+1<=1048576) (hE:Env w0 (boxI o (opC S.c 1 key val lv nx 0 (.pointer (some ⟨sb,0,none⟩)) er dn)::boxI sb (srC S.c 0 key false (.pointer (some ⟨a,0,none⟩)))::boxI a (laneC S.c 0 key false lnx st x y z W C X wd true pv)::LT S R) w) :
  Calls Tryz.prog 119 #[.pointer (some ⟨o,0,none⟩),.int .i64 u] w fun r w'=>r=.returned (.int .i64 1)/\∃ F' k',Env w0 (boxI o (opC S.c 1 key val lv nx 1 (.pointer (some ⟨sb,0,none⟩)) 0 false)::LT { S with ql:=dropQ S.hs S.ql,hs:=0,F:=F',kq:=k' } R) w':=by
 have r:=hE.rule 0 rfl
 unfold opC at r
 have HR:=Lib.hid (insFound_o hl hE)
 clear hl
 go_enter Tryz.func119,Tryz.ntmps119
 go_wp2_with fail
 refine (lane_g (hE.get 1 rfl)).mono ?_
 rintro e w1 ⟨rfl,rfl⟩
 go_wp2_with fail
 refine HR.out.mono ?_
 rintro e w1 ⟨rfl,F',k',hE2⟩
 go_wp2_with fail
 go_ret
 exact ⟨rfl,F',k',hE2⟩
end
def ndL (c:Nat) (kd key val lv:Int) (o ro FF OV:Nat):List Value:=[.pointer (some ⟨c,0,none⟩),.int .i64 kd,.int .u64 key,.int .u64 val,.int .i64 lv,.pointer (some ⟨o,ro,none⟩),mvL FF o,mvL OV o]
def ndV (c:Nat) (kd key val lv:Int) (o ro FF OV:Nat):Value:=.agg #[.pointer (some ⟨c,0,none⟩),.int .i64 kd,.int .u64 key,.int .u64 val,.int .i64 lv,.pointer (some ⟨o,ro,none⟩),mvL FF o,mvL OV o]
def cmV (c:Nat) (kd key val lv:Int) (o ro FF OV:Nat):Value:=.func (.func 227) #[ndV c kd key val lv o ro FF OV] #[]
section
variable {w0 w:World} {L R:List Item} {c o ro FF OV:Nat} {kd key val lv:Int} {S:ST}
theorem cameOver_n (s:Int) (hs:s=3\/s=4) (hx:∀ (ar:Array Value) (v:World),(callFunc OV ar).run Tryz.prog v=.ok (.enter OV ar) v) (Q:Int->World->Prop) (hE:Env w0 L w) (ho:∀ v,Env w0 L v->Calls Tryz.prog OV #[.pointer (some ⟨o,0,none⟩),.agg #[.int .i64 (s+3),.bool false,.int .u64 0]] v fun e w'=>∃ s2,e=.returned (.int .i64 s2)/\Q s2 w') :
  Calls Tryz.prog 227 #[ndV c kd key val lv o ro FF OV,.int .i64 s] w fun e w'=>∃ s2,e=.returned (.int .i64 s2)/\Q s2 w':=by
 have hE1:=hE.box w.heap.size rfl (ndL c kd key val lv o ro FF OV) 279
 have r:=hE1.rule 0 rfl
 have HO:=Lib.hid (ho _ (hE1.sub (.cons _ (List.Sublist.refl _))))
 unfold ndL at r HO
 unfold ndV
 unfold mvL at r HO ⊢
 clear ho hE hE1
 rcases hs with rfl | rfl
 all_goals
  go_enter Tryz.func227,Tryz.ntmps227
  go_wp2_with fail
  refine HO.out.mono ?_
  rintro e w2 ⟨s2,rfl,hq⟩
  go_wp2_with fail
  go_ret
  exact ⟨s2,rfl,hq⟩
theorem cameFind_n (s:Int) (hs:s=1\/s=2) (hx:∀ (ar:Array Value) (v:World),(callFunc FF ar).run Tryz.prog v=.ok (.enter FF ar) v) (Q:Int->World->Prop) (hE:Env w0 L w) (ho:∀ v,Env w0 L v->Calls Tryz.prog FF #[.pointer (some ⟨o,0,none⟩)] v fun e w'=>∃ s2,e=.returned (.int .i64 s2)/\Q s2 w') :
  Calls Tryz.prog 227 #[ndV c kd key val lv o ro FF OV,.int .i64 s] w fun e w'=>∃ s2,e=.returned (.int .i64 s2)/\Q s2 w':=by
 have hE1:=hE.box w.heap.size rfl (ndL c kd key val lv o ro FF OV) 279
 have r:=hE1.rule 0 rfl
 have HO:=Lib.hid (ho _ (hE1.sub (.cons _ (List.Sublist.refl _))))
 unfold ndL at r HO
 unfold ndV
 unfold mvL at r HO ⊢
 clear ho hE hE1
 rcases hs with rfl | rfl
 all_goals
  go_enter Tryz.func227,Tryz.ntmps227
  go_wp2_with fail
  refine HO.out.mono ?_
  rintro e w2 ⟨s2,rfl,hq⟩
  go_wp2_with fail
  go_ret
  exact ⟨s2,rfl,hq⟩
theorem slotLate_n (hx:∀ (ar:Array Value) (v:World),(callFunc OV ar).run Tryz.prog v=.ok (.enter OV ar) v) (hh:S.hs=0) (hd:decP S.ql S.ce S.cl=0) (Q:Int->World->Prop) (hE:Env w0 (LT S R) w) (ho:∀ v,Env w0 (LT S R) v->Calls Tryz.prog OV #[.pointer (some ⟨o,0,none⟩),.agg #[.int .i64 7,.bool false,.int .u64 0]] v fun e w'=>∃ s2,e=.returned (.int .i64 s2)/\Q s2 w') :
  Calls Tryz.prog 200 #[ndV S.c kd key val lv o ro FF OV] w fun e w'=>∃ s2,e=.returned (.int .i64 s2)/\Q s2 w':=by
 have hE1:=hE.box w.heap.size rfl (ndL S.c kd key val lv o ro FF OV) 279
 have r:=hE1.rule 0 rfl
 have HO:=Lib.hid ho
 have HH:=Lib.hid hh
 have HD:=Lib.hid hd
 have hV:ndV S.c kd key val lv o ro FF OV=.agg #[.pointer (some ⟨S.c,0,none⟩),.int .i64 kd,.int .u64 key,.int .u64 val,.int .i64 lv,.pointer (some ⟨o,ro,none⟩),mvL FF o,mvL OV o]:=rfl
 have HV:=Lib.hid hV
 rw [hV]
 unfold ndL at r hE1
 clear ho hE hV hh hd
 go_enter Tryz.func200,Tryz.ntmps200
 go_wp2_with fail
 generalize w.alloc _=w1 at *
 generalize w.heap.size=Y at *
 have hE2:Env w0 (LT S (boxI Y [.pointer (some ⟨S.c,0,none⟩),.int .i64 kd,.int .u64 key,.int .u64 val,.int .i64 lv,.pointer (some ⟨o,ro,none⟩),mvL FF o,mvL OV o]::R)) w1:=hE1.perm (List.perm_middle (l₁:=[_,_,_,_])).symm
 refine (new_a kd key val lv HH.out hE2).mono ?_
 rintro e w6 hc6
 rcases hc6 with ⟨-,rfl,hE6⟩ | ⟨h9,-⟩
 rotate_left
 ·exact absurd HD.out h9
 clear hE1 hE2 r
 have r:=hE6.rule 4 rfl
 have hE7:=(hE6.perm (List.perm_middle (l₁:=[_,_,_,_]))).sub (.cons _ (List.Sublist.refl _))
 have HC:=Lib.hid (cameOver_n (c:=S.c) (kd:=kd) (key:=key) (val:=val) (lv:=lv) (ro:=ro) (FF:=FF) 4 (.inr rfl) hx Q hE7 HO.out)
 rw [HV.out] at HC
 go_wp2_with fail
 refine HC.out.mono ?_
 rintro e w2 ⟨s2,rfl,hq⟩
 go_wp2_with fail
 go_ret
 exact ⟨s2,rfl,hq⟩
theorem slotAlloc_n {m:Nat} {vs:List Value} (hm:R[m]?=some (boxI o vs)) (hv:ro < vs.length) (hh:S.hs=0) (hd:decP S.ql S.ce S.cl≠0) (hE:Env w0 (LT S R) w) :
  Calls Tryz.prog 200 #[ndV S.c kd key val lv o ro FF OV] w fun e w'=>e=.returned (.int .i64 0)/\∃ b1 b2 l,Env w0 (boxI b1 [mvL 228 l]::boxI b2 [cmV S.c kd key val lv o ro FF OV]::boxI l (av S.c { nx:=nxA l (decP S.ql S.ce S.cl),left:=.slice none 0 0,k:=kd,key:=key,val:=val,lv:=lv,h:=0,n:=0,r:=0,s:=0 })::LT S (R.set m (boxI o (vs.set ro (cvP b1 b2))))) w':=by
 have hmf:=makeF
 have hE1:=hE.box w.heap.size rfl (ndL S.c kd key val lv o ro FF OV) 279
 have r:=hE1.rule 0 rfl
 have HH:=Lib.hid hh
 have HD:=Lib.hid hd
 have HM:=Lib.hid hm
 have HVS:=Lib.hid hv
 have hV:ndV S.c kd key val lv o ro FF OV=.agg #[.pointer (some ⟨S.c,0,none⟩),.int .i64 kd,.int .u64 key,.int .u64 val,.int .i64 lv,.pointer (some ⟨o,ro,none⟩),mvL FF o,mvL OV o]:=rfl
 have HV:=Lib.hid hV
 rw [hV]
 unfold ndL at r hE1
 clear hE hV hh hd hm hv
 go_enter Tryz.func200,Tryz.ntmps200
 go_wp2_with fail
 generalize w.alloc _=w1 at *
 generalize w.heap.size=Y at *
 have hE2:Env w0 (LT S (boxI Y [.pointer (some ⟨S.c,0,none⟩),.int .i64 kd,.int .u64 key,.int .u64 val,.int .i64 lv,.pointer (some ⟨o,ro,none⟩),mvL FF o,mvL OV o]::R)) w1:=hE1.perm (List.perm_middle (l₁:=[_,_,_,_])).symm
 refine (new_a kd key val lv HH.out hE2).mono ?_
 rintro e w6 (⟨h9,-⟩ | ⟨-,l,rfl,hE6⟩)
 ·exact absurd h9 HD.out
 clear hE1 hE2 r
 have r:=hE6.rule 5 rfl
 have HP:=Lib.hid (play_r (a:=o) (o:=ro) (m+6) (.func 228) (.func 227) #[.pointer (some ⟨l,0,none⟩)] #[] #[ndV S.c kd key val lv o ro FF OV] #[] HVS.out hE6 HM.out)
 rw [HV.out] at HP
 go_wp2_with fail
 refine HP.out.mono ?_
 rintro e w2 ⟨rfl,b1,b2,hE7⟩
 go_wp2_with fail
 go_ret
 refine ⟨rfl,b1,b2,l,?_⟩
 rw [<- HV.out] at hE7
 have hE8:Env w0 (boxI b1 [mvL 228 l]::boxI b2 [cmV S.c kd key val lv o ro FF OV]::boxI l (av S.c { nx:=nxA l (decP S.ql S.ce S.cl),left:=.slice none 0 0,k:=kd,key:=key,val:=val,lv:=lv,h:=0,n:=0,r:=0,s:=0 })::LT S (boxI Y [.pointer (some ⟨S.c,0,none⟩),.int .i64 kd,.int .u64 key,.int .u64 val,.int .i64 lv,.pointer (some ⟨o,ro,none⟩),mvL FF o,mvL OV o]::R.set m (boxI o (vs.set ro (cvP b1 b2))))) w2:=hE7
 exact hE8.sub (.cons_cons _ (.cons_cons _ (.cons_cons _ (.cons_cons _ (.cons_cons _ (.cons_cons _ (.cons_cons _ (.cons _ (List.Sublist.refl _)))))))))
end
def OpAny (c:Nat) (kd key val lv:Int) (o sb:Nat) (v:World):Prop:=∃ nx9 st9 er9 dn9,Blk 0 v o (opC c kd key val lv nx9 st9 (.pointer (some ⟨sb,0,none⟩)) er9 dn9)
section
variable {w0 w:World} {L R:List Item} {o sb a c:Nat} {S:ST} {kd key val lv:Int} {nx lnx:Value} {er st x y z W C X wd:Int} {dn pf:Bool} {pv:Int}
theorem Env.sback {b:Item} (h:Env w0 (b::LT S R) w):Env w0 (LT S (b::R)) w:=h.perm (List.perm_middle (l₁:=[_,_,_,_])).symm
theorem insLink_o (hh:S.hs≠0) (hE:Env w0 (boxI o (opC S.c kd key val lv nx 0 (.pointer (some ⟨sb,0,none⟩)) er dn)::boxI sb (srC S.c 0 key false (.pointer (some ⟨a,0,none⟩)))::boxI a (laneC S.c 0 key false lnx st x y z W C X wd false pv)::LT S R) w) :
  Calls Tryz.prog 169 #[.pointer (some ⟨o,0,none⟩),.pointer (some ⟨a,0,none⟩)] w fun r w'=>r=.returned (.int .i64 0)/\∃ b1 b2 l,Env w0 (boxI o (opC S.c kd key val lv (cvP b1 b2) 0 (.pointer (some ⟨sb,0,none⟩)) er dn)::boxI b1 [mvL 25 l]::boxI b2 [mvL 199 o]::boxI l (lkC S.c x y z W C X (mvL 72 l) 0)::LT S R) w':=by
 have hmf:=makeF
 have hb:(S.hs != 0)=true:=by simpa using hh
 have r:=hE.rule 0 rfl
 unfold opC at r
 clear hh
 go_enter Tryz.func169,Tryz.ntmps169
 go_wp2_with fail
 refine (found_g (hE.get 2 rfl)).mono ?_
 rintro e w1 ⟨rfl,rfl⟩
 go_wp2_with fail
 refine (held_c (hE.get 3 rfl)).mono ?_
 rintro e w2 ⟨rfl,hb1⟩
 rw [hb]
 have hE2:=(hE.over hb1).box w2.heap.size rfl [.int .i64 S.hs,.int .i64 0] 61
 clear hb1 hE r hb
 go_wp2_with fail
 replace hE2:=hE2.sub (.cons _ (List.Sublist.refl _))
 obtain ⟨L2,hL2⟩:∃ L2,LT S R=L2:=⟨_,rfl⟩
 rw [hL2] at hE2
 have HL2:=Lib.hid hL2
 clear hL2
 generalize w2.alloc _=w3 at *
 refine Ord3.wp_chain [?_,?_,?_,?_,?_,?_,?_,?_,?_,?_,?_,?_,?_,?_] [8,9,12] (fun w'=>∃ nx9,Blk 0 w' o (opC S.c kd key val lv nx9 0 (.pointer (some ⟨sb,0,none⟩)) er dn)) (Ord3.Stage fun κs=>[Env w0 (boxI o (opC S.c kd key val lv nx 0 (.pointer (some ⟨sb,0,none⟩)) er dn)::boxI sb (srC S.c 0 key false (.pointer (some ⟨a,0,none⟩)))::boxI a (laneC S.c 0 key false lnx st x y z W C X wd false pv)::L2),fun w'=>∃ q,κs.getD 0 undef=.pointer (some ⟨q,0,none⟩)/\Env w0 (boxI q (lkC S.c x y z W C X (mvL 72 q) 0)::boxI o (opC S.c kd key val lv nx 0 (.pointer (some ⟨sb,0,none⟩)) er dn)::boxI sb (srC S.c 0 key false (.pointer (some ⟨a,0,none⟩)))::boxI a (laneC S.c 0 key false lnx st x y z W C X wd false pv)::L2) w',fun w'=>∃ q,κs.getD 1 undef=mvL 25 q/\Env w0 (boxI q (lkC S.c x y z W C X (mvL 72 q) 0)::boxI o (opC S.c kd key val lv nx 0 (.pointer (some ⟨sb,0,none⟩)) er dn)::boxI sb (srC S.c 0 key false (.pointer (some ⟨a,0,none⟩)))::boxI a (laneC S.c 0 key false lnx st x y z W C X wd false pv)::L2) w',fun w'=>∃ b1 b2 q,Env w0 (boxI b1 [mvL 25 q]::boxI b2 [mvL 199 o]::boxI q (lkC S.c x y z W C X (mvL 72 q) 0)::boxI o (opC S.c kd key val lv (cvP b1 b2) 0 (.pointer (some ⟨sb,0,none⟩)) er dn)::boxI sb (srC S.c 0 key false (.pointer (some ⟨a,0,none⟩)))::boxI a (laneC S.c 0 key false lnx st x y z W C X wd false pv)::L2) w']) (by kernel_rfl) (by kernel_rfl) (by kernel_rfl) ⟨nx,hE2.drew.get 0 rfl⟩ ⟨_,rfl,hE2.drew⟩ (fun hT=>?_)
 rotate_left 14
 have hT9:=Lib.hid hT
 clear hT
 repeat (first
  | (focus (refine Ord3.in_value (v:=?_) hT9.out (by decide) ?_ (by rfl) ?_ ?_; rotate_left 2; (focus (intro w5 hS; obtain ⟨nx9,hS9⟩:=hS; have r1:=Blk.rule hS9; unfold opC at r1; go_simp<;>with_reducible rfl)); rotate_right; (focus rfl); (try simp only [Act.put,zA,zZ,zS])))
  | (focus (refine Ord3.in_off hT9.out (by decide) ?_ (by rfl) ?_; (focus rfl); (try simp only [Act.put,zA,zZ,zS]))))
 refine Ord3.in_turn (fun u=>∃ q,u=.pointer (some ⟨q,0,none⟩)) _ ⟨0,rfl⟩ hT9.out rfl (by decide) (by rfl) ?_ (Or.inl rfl) (by rfl) ?_ ?_
 ·rfl
 ·rintro w7 hC7 ⟨P7,hP7,hA7⟩
  cases hP7
  go_simp
  simp only [Ord3.Lands]
  refine (newLink_k 2 rfl hA7).mono ?_
  rintro o8 w8 ⟨r8,rfl,hE8⟩
  exact ⟨_,rfl,⟨r8,rfl⟩,⟨nx,hE8.get 1 rfl⟩,_,rfl,r8,rfl,hE8⟩
 rintro _ ⟨r9,rfl⟩
 (try simp only [Act.put,zA,zZ,zS])
 refine Ord3.in_turn (fun u=>∃ q,u=mvL 25 q) _ ⟨0,rfl⟩ hT9.out rfl (by decide) (by rfl) ?_ (Or.inr ⟨_,8,[],rfl,by kernel_rfl,by kernel_rfl,rfl⟩) (by rfl) ?_ ?_
 ·rfl
 ·rintro w7 hC7 ⟨P7,hP7,hA7⟩
  cases hP7
  obtain ⟨r8,he,hA7⟩:=hA7
  cases he
  go_simp
  simp only [Ord3.Lands]
  exact ⟨⟨_,rfl⟩,hC7,_,rfl,r9,rfl,hA7⟩
 rintro _ ⟨r9,rfl⟩
 (try simp only [Act.put,zA,zZ,zS])
 repeat (first
  | (focus (refine Ord3.in_value (v:=?_) hT9.out (by decide) ?_ (by rfl) ?_ ?_; rotate_left 2; (focus (intro w5 hS; obtain ⟨nx9,hS9⟩:=hS; have r1:=Blk.rule hS9; unfold opC at r1; go_simp<;>with_reducible rfl)); rotate_right; (focus rfl); (try simp only [Act.put,zA,zZ,zS])))
  | (focus (refine Ord3.in_off hT9.out (by decide) ?_ (by rfl) ?_; (focus rfl); (try simp only [Act.put,zA,zZ,zS]))))
 refine Ord3.in_turn (fun u=>u=.int .i64 0) _ rfl hT9.out rfl (by decide) (by rfl) ?_ (Or.inr ⟨_,9,[],rfl,by kernel_rfl,by kernel_rfl,rfl⟩) (by rfl) ?_ ?_
 ·rfl
 ·rintro w7 hC7 ⟨P7,hP7,hA7⟩
  cases hP7
  obtain ⟨r8,he,hA7⟩:=hA7
  cases he
  go_simp
  simp only [Ord3.Lands]
  refine (play_r (o:=5) 1 _ _ _ _ _ _ (by simp [opC]) hA7 rfl).mono ?_
  rintro o8 w8 ⟨rfl,b1,b2,hE8⟩
  exact ⟨_,rfl,rfl,⟨_,hE8.get 3 rfl⟩,_,rfl,b1,b2,r9,hE8⟩
 rintro _ rfl
 (try simp only [Act.put,zA,zZ,zS])
 repeat (first
  | (focus (refine Ord3.in_value (v:=?_) hT9.out (by decide) ?_ (by rfl) ?_ ?_; rotate_left 2; (focus (intro w5 hS; skip; go_simp<;>with_reducible rfl)); rotate_right; (focus rfl); (try simp only [Act.put,zA,zZ,zS])))
  | (focus (refine Ord3.in_off hT9.out (by decide) ?_ (by rfl) ?_; (focus rfl); (try simp only [Act.put,zA,zZ,zS]))))
 refine Ord3.in_nil rfl ?_
 rintro w9 hC9 ⟨P9,hP9,hA9⟩
 cases hP9
 obtain ⟨b1,b2,q,hA9⟩:=hA9
 clear hT9 hC9 hE2
 go_wp2_with fail
 go_ret
 have h3:=HL2.out
 subst h3
 refine ⟨rfl,b1,b2,q,?_⟩
 have h9:=hA9.sub (L':=boxI b1 [mvL 25 q]::boxI b2 [mvL 199 o]::boxI q (lkC S.c x y z W C X (mvL 72 q) 0)::boxI o (opC S.c kd key val lv (cvP b1 b2) 0 (.pointer (some ⟨sb,0,none⟩)) er dn)::LT S R) (.cons_cons _ (.cons_cons _ (.cons_cons _ (.cons_cons _ (.cons _ (.cons _ (List.Sublist.refl _)))))))
 exact h9.perm (List.perm_middle (l₁:=[_,_,_]))
theorem seaInsLink_o (u:Int) (hh:S.hs≠0) (hE:Env w0 (boxI o (opC S.c 1 key val lv nx 0 (.pointer (some ⟨sb,0,none⟩)) er dn)::boxI sb (srC S.c 0 key false (.pointer (some ⟨a,0,none⟩)))::boxI a (laneC S.c 0 key false lnx st x y z W C X wd false pv)::LT S R) w) :
  Calls Tryz.prog 119 #[.pointer (some ⟨o,0,none⟩),.int .i64 u] w fun r w'=>r=.returned (.int .i64 0)/\∃ b1 b2 l,Env w0 (boxI o (opC S.c 1 key val lv (cvP b1 b2) 0 (.pointer (some ⟨sb,0,none⟩)) er dn)::boxI b1 [mvL 25 l]::boxI b2 [mvL 199 o]::boxI l (lkC S.c x y z W C X (mvL 72 l) 0)::LT S R) w':=by
 have r:=hE.rule 0 rfl
 unfold opC at r
 have HR:=Lib.hid (insLink_o hh hE)
 clear hh
 go_enter Tryz.func119,Tryz.ntmps119
 go_wp2_with fail
 refine (lane_g (hE.get 1 rfl)).mono ?_
 rintro e w1 ⟨rfl,rfl⟩
 go_wp2_with fail
 refine HR.out.mono ?_
 rintro e w1 ⟨rfl,b1,b2,l,hE2⟩
 go_wp2_with fail
 go_ret
 exact ⟨rfl,b1,b2,l,hE2⟩
theorem insLate_o (hh:S.hs=0) (hd:decP S.ql S.ce S.cl=0) (hE:Env w0 (boxI o (opC S.c kd key val lv nx 0 (.pointer (some ⟨sb,0,none⟩)) er dn)::boxI sb (srC S.c 0 key false (.pointer (some ⟨a,0,none⟩)))::boxI a (laneC S.c 0 key false lnx st x y z W C X wd false pv)::LT S R) w) :
  Calls Tryz.prog 169 #[.pointer (some ⟨o,0,none⟩),.pointer (some ⟨a,0,none⟩)] w fun r w'=>r=.returned (.int .i64 1)/\Env w0 (boxI o (opC S.c kd key val lv nx 1 (.pointer (some ⟨sb,0,none⟩)) 7 false)::LT S R) w':=by
 have hmf:=makeF
 have hb:(S.hs != 0)=false:=by simpa using hh
 have HH:=Lib.hid hh
 have HD:=Lib.hid hd
 have r:=hE.rule 0 rfl
 unfold opC at r
 clear hh hd
 go_enter Tryz.func169,Tryz.ntmps169
 go_wp2_with fail
 refine (found_g (hE.get 2 rfl)).mono ?_
 rintro e w1 ⟨rfl,rfl⟩
 go_wp2_with fail
 refine (held_c (hE.get 3 rfl)).mono ?_
 rintro e w2 ⟨rfl,hb1⟩
 rw [hb]
 have hE2:=(hE.over hb1).box w2.heap.size rfl [.int .i64 S.hs,.int .i64 0] 61
 clear hb1 hE r hb
 go_wp2_with fail
 replace hE2:=hE2.sub (L':=boxI o (opC S.c kd key val lv nx 0 (.pointer (some ⟨sb,0,none⟩)) er dn)::LT S R) (.cons _ (.cons_cons _ (.cons _ (.cons _ (List.Sublist.refl _)))))
 generalize w2.alloc _=w3 at *
 refine Ord.wp_chain [16] (OpAny S.c kd key val lv o sb) (Stage [Env w0 (boxI o (opC S.c kd key val lv nx 0 (.pointer (some ⟨sb,0,none⟩)) er dn)::LT S R),Env w0 (boxI o (opC S.c kd key val lv nx 1 (.pointer (some ⟨sb,0,none⟩)) 7 false)::LT S R)]) (by kernel_rfl) (by kernel_rfl) (by kernel_rfl) ⟨nx,0,er,dn,hE2.drew.get 0 rfl⟩ ⟨_,rfl,hE2.drew⟩ (fun hT=>?_)
 have hT9:=Lib.hid hT
 clear hT
 repeat (first
  | (refine Ord.ch_value (v:=?_) hT9.out (by decide) (by rfl) ?_ ?_; rotate_left; (focus (intro w5 hS; obtain ⟨nx9,st9,er9,dn9,hS9⟩:=hS; have r:=Blk.rule hS9; unfold opC at r; go_simp<;>with_reducible rfl)); (try simp only [Act.put,zA,zZ,zS]))
  | (refine Ord.ch_off hT9.out (by decide) (by rfl) ?_; (try simp only [Act.put,zA,zZ,zS])))
 refine Ord.ch_turn (v:=.int .i64 1) 0 hT9.out rfl (by decide) (Or.inl rfl) (by rfl) ?_ ?_
 ·rintro w5 hC5 ⟨P5,hP5,hA5⟩
  cases hP5
  go_simp
  simp only [Ord.LandsIn]
  refine (slotLate_n (S:=S) (R:=boxI o (opC S.c kd key val lv nx 0 (.pointer (some ⟨sb,0,none⟩)) er dn)::R) (kd:=kd) (key:=key) (val:=val) (lv:=lv) (o:=o) (ro:=5) (FF:=67) (OV:=171) (fun _ _=>by kernel_rfl) HH.out HD.out (fun s2 v=>s2=1/\Env w0 (boxI o (opC S.c kd key val lv nx 1 (.pointer (some ⟨sb,0,none⟩)) 7 false)::LT S R) v) hA5.sback fun v hv=>(over_o 7 false hv.sfront).mono ?_).mono ?_
  ·rintro e w6 ⟨rfl,hE6⟩
   exact ⟨1,rfl,rfl,hE6⟩
  ·rintro e w6 ⟨s2,rfl,rfl,hE6⟩
   exact ⟨rfl,⟨_,_,_,_,hE6.get 0 rfl⟩,_,rfl,hE6⟩
 (try simp only [Act.put,zA,zZ,zS])
 repeat (first
  | (refine Ord.ch_value (v:=?_) hT9.out (by decide) (by rfl) ?_ ?_; rotate_left; (focus (intro w5 hS; skip; go_simp<;>with_reducible rfl)); (try simp only [Act.put,zA,zZ,zS]))
  | (refine Ord.ch_off hT9.out (by decide) (by rfl) ?_; (try simp only [Act.put,zA,zZ,zS])))
 refine Ord.InText.nil fun w5 hS=>?_
 clear hT9
 obtain ⟨hC9,hA9⟩:=Ord.chain_end hS
 clear hS
 obtain ⟨P9,hP9,hA9⟩:=hA9
 cases hP9
 clear hC9 hE2
 go_wp2_with fail
 go_ret
 exact ⟨rfl,hA9⟩
theorem seaInsLate_o (u:Int) (hh:S.hs=0) (hd:decP S.ql S.ce S.cl=0) (hE:Env w0 (boxI o (opC S.c 1 key val lv nx 0 (.pointer (some ⟨sb,0,none⟩)) er dn)::boxI sb (srC S.c 0 key false (.pointer (some ⟨a,0,none⟩)))::boxI a (laneC S.c 0 key false lnx st x y z W C X wd false pv)::LT S R) w) :
  Calls Tryz.prog 119 #[.pointer (some ⟨o,0,none⟩),.int .i64 u] w fun r w'=>r=.returned (.int .i64 1)/\Env w0 (boxI o (opC S.c 1 key val lv nx 1 (.pointer (some ⟨sb,0,none⟩)) 7 false)::LT S R) w':=by
 have r:=hE.rule 0 rfl
 unfold opC at r
 have HR:=Lib.hid (insLate_o hh hd hE)
 clear hh hd
 go_enter Tryz.func119,Tryz.ntmps119
 go_wp2_with fail
 refine (lane_g (hE.get 1 rfl)).mono ?_
 rintro e w1 ⟨rfl,rfl⟩
 go_wp2_with fail
 refine HR.out.mono ?_
 rintro e w1 ⟨rfl,hE2⟩
 go_wp2_with fail
 go_ret
 exact ⟨rfl,hE2⟩
theorem insAlloc_o (hh:S.hs=0) (hd:decP S.ql S.ce S.cl≠0) (hE:Env w0 (boxI o (opC S.c kd key val lv nx 0 (.pointer (some ⟨sb,0,none⟩)) er dn)::boxI sb (srC S.c 0 key false (.pointer (some ⟨a,0,none⟩)))::boxI a (laneC S.c 0 key false lnx st x y z W C X wd false pv)::LT S R) w) :
  Calls Tryz.prog 169 #[.pointer (some ⟨o,0,none⟩),.pointer (some ⟨a,0,none⟩)] w fun r w'=>r=.returned (.int .i64 0)/\∃ b1 b2 l,Env w0 (boxI o (opC S.c kd key val lv (cvP b1 b2) 0 (.pointer (some ⟨sb,0,none⟩)) er dn)::boxI b1 [mvL 228 l]::boxI b2 [cmV S.c kd key val lv o 5 67 171]::boxI l (av S.c { nx:=nxA l (decP S.ql S.ce S.cl),left:=.slice none 0 0,k:=kd,key:=key,val:=val,lv:=lv,h:=0,n:=0,r:=0,s:=0 })::LT S R) w':=by
 have hmf:=makeF
 have hb:(S.hs != 0)=false:=by simpa using hh
 have HH:=Lib.hid hh
 have HD:=Lib.hid hd
 have r:=hE.rule 0 rfl
 unfold opC at r
 clear hh hd
 go_enter Tryz.func169,Tryz.ntmps169
 go_wp2_with fail
 refine (found_g (hE.get 2 rfl)).mono ?_
 rintro e w1 ⟨rfl,rfl⟩
 go_wp2_with fail
 refine (held_c (hE.get 3 rfl)).mono ?_
 rintro e w2 ⟨rfl,hb1⟩
 rw [hb]
 have hE2:=(hE.over hb1).box w2.heap.size rfl [.int .i64 S.hs,.int .i64 0] 61
 clear hb1 hE r hb
 go_wp2_with fail
 replace hE2:=hE2.sub (L':=boxI o (opC S.c kd key val lv nx 0 (.pointer (some ⟨sb,0,none⟩)) er dn)::LT S R) (.cons _ (.cons_cons _ (.cons _ (.cons _ (List.Sublist.refl _)))))
 generalize w2.alloc _=w3 at *
 refine Ord.wp_chain [16] (OpAny S.c kd key val lv o sb) (Stage [Env w0 (boxI o (opC S.c kd key val lv nx 0 (.pointer (some ⟨sb,0,none⟩)) er dn)::LT S R),fun v=>∃ b1 b2 l,Env w0 (boxI o (opC S.c kd key val lv (cvP b1 b2) 0 (.pointer (some ⟨sb,0,none⟩)) er dn)::boxI b1 [mvL 228 l]::boxI b2 [cmV S.c kd key val lv o 5 67 171]::boxI l (av S.c { nx:=nxA l (decP S.ql S.ce S.cl),left:=.slice none 0 0,k:=kd,key:=key,val:=val,lv:=lv,h:=0,n:=0,r:=0,s:=0 })::LT S R) v]) (by kernel_rfl) (by kernel_rfl) (by kernel_rfl) ⟨nx,0,er,dn,hE2.drew.get 0 rfl⟩ ⟨_,rfl,hE2.drew⟩ (fun hT=>?_)
 have hT9:=Lib.hid hT
 clear hT
 repeat (first
  | (refine Ord.ch_value (v:=?_) hT9.out (by decide) (by rfl) ?_ ?_; rotate_left; (focus (intro w5 hS; obtain ⟨nx9,st9,er9,dn9,hS9⟩:=hS; have r:=Blk.rule hS9; unfold opC at r; go_simp<;>with_reducible rfl)); (try simp only [Act.put,zA,zZ,zS]))
  | (refine Ord.ch_off hT9.out (by decide) (by rfl) ?_; (try simp only [Act.put,zA,zZ,zS])))
 refine Ord.ch_turn (v:=.int .i64 0) 0 hT9.out rfl (by decide) (Or.inl rfl) (by rfl) ?_ ?_
 ·rintro w5 hC5 ⟨P5,hP5,hA5⟩
  cases hP5
  go_simp
  simp only [Ord.LandsIn]
  refine (slotAlloc_n (S:=S) (R:=boxI o (opC S.c kd key val lv nx 0 (.pointer (some ⟨sb,0,none⟩)) er dn)::R) (kd:=kd) (key:=key) (val:=val) (lv:=lv) (o:=o) (ro:=5) (FF:=67) (OV:=171) (m:=0) rfl (by simp [opC]) HH.out HD.out hA5.sback).mono ?_
  rintro e w6 ⟨rfl,b1,b2,l,hE6⟩
  have hE7:Env w0 (boxI o (opC S.c kd key val lv (cvP b1 b2) 0 (.pointer (some ⟨sb,0,none⟩)) er dn)::boxI b1 [mvL 228 l]::boxI b2 [cmV S.c kd key val lv o 5 67 171]::boxI l (av S.c { nx:=nxA l (decP S.ql S.ce S.cl),left:=.slice none 0 0,k:=kd,key:=key,val:=val,lv:=lv,h:=0,n:=0,r:=0,s:=0 })::LT S R) w6:=hE6.perm (List.perm_middle (l₁:=[_,_,_,_,_,_,_]))
  exact ⟨rfl,⟨_,_,_,_,hE7.get 0 rfl⟩,_,rfl,b1,b2,l,hE7⟩
 (try simp only [Act.put,zA,zZ,zS])
 repeat (first
  | (refine Ord.ch_value (v:=?_) hT9.out (by decide) (by rfl) ?_ ?_; rotate_left; (focus (intro w5 hS; skip; go_simp<;>with_reducible rfl)); (try simp only [Act.put,zA,zZ,zS]))
  | (refine Ord.ch_off hT9.out (by decide) (by rfl) ?_; (try simp only [Act.put,zA,zZ,zS])))
 refine Ord.InText.nil fun w5 hS=>?_
 clear hT9
 obtain ⟨hC9,hA9⟩:=Ord.chain_end hS
 clear hS
 obtain ⟨P9,hP9,hA9⟩:=hA9
 cases hP9
 obtain ⟨b1,b2,l,hA9⟩:=hA9
 clear hC9 hE2
 go_wp2_with fail
 go_ret
 exact ⟨rfl,b1,b2,l,hA9⟩
theorem seaInsAlloc_o (u:Int) (hh:S.hs=0) (hd:decP S.ql S.ce S.cl≠0) (hE:Env w0 (boxI o (opC S.c 1 key val lv nx 0 (.pointer (some ⟨sb,0,none⟩)) er dn)::boxI sb (srC S.c 0 key false (.pointer (some ⟨a,0,none⟩)))::boxI a (laneC S.c 0 key false lnx st x y z W C X wd false pv)::LT S R) w) :
  Calls Tryz.prog 119 #[.pointer (some ⟨o,0,none⟩),.int .i64 u] w fun r w'=>r=.returned (.int .i64 0)/\∃ b1 b2 l,Env w0 (boxI o (opC S.c 1 key val lv (cvP b1 b2) 0 (.pointer (some ⟨sb,0,none⟩)) er dn)::boxI b1 [mvL 228 l]::boxI b2 [cmV S.c 1 key val lv o 5 67 171]::boxI l (av S.c { nx:=nxA l (decP S.ql S.ce S.cl),left:=.slice none 0 0,k:=1,key:=key,val:=val,lv:=lv,h:=0,n:=0,r:=0,s:=0 })::LT S R) w':=by
 have r:=hE.rule 0 rfl
 unfold opC at r
 have HR:=Lib.hid (insAlloc_o hh hd hE)
 clear hh hd
 go_enter Tryz.func119,Tryz.ntmps119
 go_wp2_with fail
 refine (lane_g (hE.get 1 rfl)).mono ?_
 rintro e w1 ⟨rfl,rfl⟩
 go_wp2_with fail
 refine HR.out.mono ?_
 rintro e w1 ⟨rfl,b1,b2,l,hE2⟩
 go_wp2_with fail
 go_ret
 exact ⟨rfl,b1,b2,l,hE2⟩
end
structure LaneOk (C:Cf) (L:Lm):Prop where
 (ok:LmOk L)
 (wf:Wf L.p)
 (at9:L.p=(4,0,0)\/∃ c,L.p=(5,c,7))
 (x:6<=L.pc->markB L.X=false)
 (c:3<=L.pc->1<=L.C)
 (sw:slotI L.W<=C.s)
 (sx:slotI L.X<=C.s)
 (cs:L.C<=C.s)
structure SpotOk (C:Cf) (L:Lm):Prop where
 (W:InU L.W)
 (X:InU L.X)
 (wf:Wf L.p)
 (at9:L.p=(4,0,0)\/∃ c,L.p=(5,c,7))
 (Cr:0<=L.C/\L.C<=8388607)
 (fd:L.fd=true->1<=L.C/\markB L.X=false)
 (sw:slotI L.W<=C.s)
 (sx:slotI L.X<=C.s)
 (cs:L.C<=C.s)
def SIt (c sb:Nat) (key:Int) (on:Bool) (L:Lm) (s:Int) (sub:List Item):Prop :=
 (on=false/\s=0/\(sub=[boxI sb (srC c 0 key false (.pointer none))]\/∃ a L' nx wd B1 B2,sub=[boxI sb (srC c 0 key false (.pointer (some ⟨a,0,none⟩))),boxI a (laneV c 0 key false nx 2 wd (pfS 2 L') (pvS 2 L') L'),B1,B2])) \/
 (on=true/\∃ a nx wd B1 B2,(s=0->NxOk a L.pc nx B1 B2/\(L.pc=7->wd=L.K)/\(L.pc=9->wd=L.V))/\sub=[boxI sb (srC c 0 key false (.pointer (some ⟨a,0,none⟩))),boxI a (laneV c 0 key false nx s wd (pfS s L) (pvS s L) L),B1,B2])
section
variable {w0 w:World} {R sub:List Item} {sb:Nat} {S:ST} {key s e r:Int} {on:Bool} {L:Lm} {T:Sm}
theorem SIt.toR (h:SIt S.c sb key on L s sub) (he:S.ce=e) (hr:S.cr=r) (hE:Env w0 (sub++LT S R) w):SrchR w0 R sb 0 key false S s ⟨on,L,e,r⟩ w:=by
 rcases h with ⟨rfl,rfl,rfl | ⟨a,L',nx,wd,B1,B2,rfl⟩⟩ | ⟨rfl,a,nx,wd,B1,B2,hn,rfl⟩
 ·exact ⟨he,hr,.inl ⟨rfl,rfl,.inl hE⟩⟩
 ·exact ⟨he,hr,.inl ⟨rfl,rfl,.inr ⟨a,L',nx,wd,B1,B2,fun h=>absurd h (by decide),hE.perm (List.perm_middle (l₁:=[_,_,_,_,_,_,_])).symm⟩⟩⟩
 ·exact ⟨he,hr,.inr ⟨rfl,a,nx,wd,B1,B2,hn,hE.perm (List.perm_middle (l₁:=[_,_,_,_,_,_,_])).symm⟩⟩
theorem SrchR.toI (h:SrchR w0 R sb 0 key false S s T w):∃ sub,SIt S.c sb key T.on T.L s sub/\Env w0 (sub++LT S R) w:=by
 obtain ⟨-,-,⟨hoff,rfl,hE | ⟨a,L',nx,wd,B1,B2,-,hE⟩⟩ | ⟨hon,a,nx,wd,B1,B2,hn,hE⟩⟩:=h
 ·exact ⟨_,.inl ⟨hoff,rfl,.inl rfl⟩,hE⟩
 ·exact ⟨[_,_,B1,B2],.inl ⟨hoff,rfl,.inr ⟨a,L',nx,wd,B1,B2,rfl⟩⟩,hE.perm (List.perm_middle (l₁:=[_,_,_,_,_,_,_]))⟩
 ·exact ⟨[_,_,B1,B2],.inr ⟨hon,a,nx,wd,B1,B2,hn,rfl⟩,hE.perm (List.perm_middle (l₁:=[_,_,_,_,_,_,_]))⟩
end
def SPK (C:Cf) (X:Tm) (V:Wm) (K:Kt) (f:Mem) (G:Nat->Prop) (qc:Cnt) (n:Nat):ST:=SP C { X with cr:=K.r } V K.T f G qc n
section
variable {w0 w:World} {R sub:List Item} {C:Cf} {X:Tm} {V:Wm} {f:Mem} {G:Nat->Prop} {qc:Cnt} {n sb:Nat} {key:Int} {on:Bool} {L:Lm} {T:Th} {r:Int}
theorem search_I (hT:on=true->LaneOk C L) (hg:Glo w0) (hn:n < maxLen) (hS:SIt X.c sb key on L 0 sub) (hE:Env w0 (sub++LT (SP C { X with cr:=r } V T f G qc n) R) w) :
  Calls Tryz.prog 118 #[.pointer (some ⟨sb,0,none⟩),.iface 26 (.pointer (some ⟨V.p,0,none⟩))] w fun o w'=>o=.returned (.int .i64 (searchM 0 key false ⟨on,L,T.e,r⟩ f).1)/\∃ G' qc' n' sub',Nx n qc n' qc'/\SIt X.c sb key (searchM 0 key false ⟨on,L,T.e,r⟩ f).2.1.on (searchM 0 key false ⟨on,L,T.e,r⟩ f).2.1.L (searchM 0 key false ⟨on,L,T.e,r⟩ f).1 sub'/\Env w0 (sub'++LT (SP C { X with cr:=(searchM 0 key false ⟨on,L,T.e,r⟩ f).2.1.r } V { T with e:=(searchM 0 key false ⟨on,L,T.e,r⟩ f).2.1.e } (searchM 0 key false ⟨on,L,T.e,r⟩ f).2.2 G' qc' n') R) w':=by
 have hR:=hS.toR (S:=SP C { X with cr:=r } V T f G qc n) (e:=T.e) (r:=r) rfl rfl hE
 refine (search_l (S:=SP C { X with cr:=r } V T f G qc n) (T:=⟨on,L,T.e,r⟩) (fun h=>⟨(hT h).ok,(hT h).wf⟩) hg hn hR).mono ?_
 rintro o w1 ⟨rfl,G',hR'⟩
 have hR2:=hR'
 obtain ⟨sub',hS',hE'⟩:=hR'.toI
 refine ⟨rfl,(searchS key false (SP C { X with cr:=r } V T f G qc n) ⟨on,L,T.e,r⟩ G').G,(searchS key false (SP C { X with cr:=r } V T f G qc n) ⟨on,L,T.e,r⟩ G').qc,(searchS key false (SP C { X with cr:=r } V T f G qc n) ⟨on,L,T.e,r⟩ G').m,sub',⟨?_,?_⟩,?_,?_⟩
 ·unfold searchS
  cases on
  ·exact Nat.le_succ n
  ·show (laneS 0 key false (SP C { X with cr:=r } V T f G qc n) L G').m<=n+1
   unfold laneS
   dsimp only
   split
   ·exact Nat.le_refl _
   ·exact Nat.le_succ n
 ·unfold searchS
  cases on
  ·exact Or.inl ⟨rfl,rfl,rfl,rfl⟩
  ·show One qc (laneS 0 key false (SP C { X with cr:=r } V T f G qc n) L G').qc
   unfold laneS laneQ
   dsimp only
   split
   ·unfold swq
    first | exact Or.inr (Or.inr (Or.inl ⟨rfl,rfl,rfl,rfl⟩)) | (split<;>exact Or.inr (Or.inr (Or.inl ⟨rfl,rfl,rfl,rfl⟩)))
   ·exact Or.inl ⟨rfl,rfl,rfl,rfl⟩
 ·cases on<;>exact hS'
 ·cases on<;>exact hE'
end
structure COk (C:Cf):Prop where
 (s:1<=C.s/\C.s<=8388607)
 (l:1<=C.l/\C.l<=1099511627775)
structure OkF (C:Cf) (f:Mem):Prop where
 (u:∀ x,InU (f x))
 (pool:slotI (f (2,0,0))<=C.s)
 (chain:∀ i,slotI (f (5,i,2))<=C.s)
 (ep:f (1,0,0)<=C.l)
structure OkT (C:Cf) (ds:List Dd) (B:Nat) (T:Th):Prop where
 (e:0<=T.e/\T.e<=C.l)
 (w:InU T.ah/\InU T.an/\InU T.ar)
 (hs:0<=T.hs/\T.hs<=C.s)
 (rs:0<=T.rs/\T.rs<=C.s)
 (ql:∀ x∈T.ql,1<=x.1/\x.1<=C.s/\x.2.2=0)
 (nd:T.nd<=ds.length)
 (len:T.ql.length+(ds.length - T.nd)<=B)
 (done:0<=T.done/\T.done<=B)
 (pc:T.pc=0\/T.pc=1\/T.pc=2\/T.pc=3\/T.pc=4)
 (p1:T.pc=1->T.hs=0)
 (nd1:T.pc≠0->1<=T.nd)
 (apc:T.pc=2->T.apc=1\/T.apc=2\/T.apc=3\/T.apc=4\/T.apc=5\/T.apc=6\/10<=T.apc)
 (low:T.pc=2->T.apc<=10->T.hs=0)
 (adv:T.pc=2->T.apc=1->T.e < C.l)
 (born:T.pc=2->T.apc=10->T.ql≠[])
 (pool:T.pc=2->4<=T.apc->T.apc<=6->1<=slotI T.ah/\slotI T.ah<=C.s/\verI T.ah < C.l)
 (an:slotI T.an<=C.s)
 (rpc:T.pc=3->T.rpc=0\/T.rpc=1)
 (rsp:T.pc=3->1<=T.rs)
 (re:0<=T.re/\T.re<=C.l)
 (gpc:T.gpc<=3)
 (give:T.pc=4->1<=T.gpc->T.ql≠[])
 (ghu:InU T.gh)
 (gh:slotI T.gh<=C.s)
 (gv:T.pc=4->2<=T.gpc->verI T.gh < C.l)
theorem no {a b:Nat} {P:Prop} (h:a=b) (hab:(a==b)=false):P:=by
 simp at hab
 exact absurd h hab
theorem slot_next {x s S:Int} (h0:0<=S) (hs:s<=S):slotI (nextW x s)<=S:=by
 have h9:slotI 0=0:=by decide
 unfold nextW
 split
 ·rename_i h
  have:=isS_parts h
  have hv:=verI_in x
  split
  ·omega
  ·rw [slot_word (isL_mk this.1 this.2 (by omega) (by omega))]
   exact hs
 ·omega
theorem epI_of {x l:Int} (hx:InU x) (h:x<=l) (hl:l<=1099511627775):epI x=x/\0<=x:=by
 unfold InU at hx
 unfold epI
 rw [if_pos (by omega)]
 exact ⟨rfl,by omega⟩
theorem swf_at (f:Mem) (x y:Plc) (o v:Int):swf f x o v y=if y=x/\f x=o then v else f y:=by
 unfold swf upd
 by_cases h:f x=o
 ·rw [if_pos h]
  by_cases hy:y=x
  ·rw [if_pos hy,if_pos ⟨hy,h⟩]
  ·rw [if_neg hy,if_neg (fun h2=>hy h2.1)]
 ·rw [if_neg h,if_neg (fun h2=>h h2.2)]
theorem part_ne (ck e key val lv:Int) (k:Nat):((wordsA ck e key val lv).getD k (0,0)).1≠2:=by
 rw [List.getD_eq_getElem?_getD]
 rcases h:(wordsA ck e key val lv)[k]? with _ | ⟨a,b⟩
 ·simp
 ·have hm:(a,b)∈wordsA ck e key val lv:=List.mem_of_getElem? h
  simp only [Option.getD_some]
  unfold wordsA at hm
  split at hm
  ·simp at hm
   rcases hm with ⟨rfl,rfl⟩ | ⟨rfl,rfl⟩ | ⟨rfl,rfl⟩ | ⟨rfl,rfl⟩<;>decide
  ·split at hm
   ·simp at hm
    rcases hm with ⟨rfl,rfl⟩ | ⟨rfl,rfl⟩ | ⟨rfl,rfl⟩ | ⟨rfl,rfl⟩ | ⟨rfl,rfl⟩<;>decide
   ·simp at hm
    rcases hm with ⟨rfl,rfl⟩ | ⟨rfl,rfl⟩ | ⟨rfl,rfl⟩<;>decide
section
variable {C:Cf} {ds:List Dd} {B:Nat} {T:Th} {f:Mem} {d:Dd}
theorem OkT.more (h:OkT C ds B T):OkT C ds (B+1) T :=
 { h with len:=by have:=h.len; omega,done:=by have:=h.done; constructor<;>omega }
theorem OkF.upd (h:OkF C f) {x:Plc} {v:Int} (h1:x≠(1,0,0)) (h2:x≠(2,0,0)) (h3:∀ i,x=(5,i,2)->slotI v<=C.s) (hu:∀ y,InU (Proofs.YthcblagpbkaoaaaGreatDoor.upd f x v y)):OkF C (Proofs.YthcblagpbkaoaaaGreatDoor.upd f x v):=by
 refine ⟨hu,?_,?_,?_⟩
 ·rw [upd_other f v (fun e=>h2 e.symm)]; exact h.pool
 ·intro i
  by_cases hx:(5,i,2)=x
  ·rw [<- hx,upd_same]; exact h3 i hx.symm
  ·rw [upd_other f v hx]; exact h.chain i
 ·rw [upd_other f v (fun e=>h1 e.symm)]; exact h.ep
theorem OkF.swp (h:OkF C f) {o v:Int} (hv:slotI v<=C.s) (hu:∀ y,InU (swf f (2,0,0) o v y)):OkF C (swf f (2,0,0) o v):=by
 refine ⟨hu,?_,?_,?_⟩
 ·rw [swf_at]; split
  ·exact hv
  ·exact h.pool
 ·intro i
  rw [swf_at,if_neg (by simp)]; exact h.chain i
 ·rw [swf_at,if_neg (by simp)]; exact h.ep
theorem OkF.swe (h:OkF C f) {o v:Int} (hv:v<=C.l) (hu:∀ y,InU (swf f (1,0,0) o v y)):OkF C (swf f (1,0,0) o v):=by
 refine ⟨hu,?_,?_,?_⟩
 ·rw [swf_at,if_neg (by simp)]; exact h.pool
 ·intro i
  rw [swf_at,if_neg (by simp)]; exact h.chain i
 ·rw [swf_at]; split
  ·exact hv
  ·exact h.ep
end
structure LnkF (C:Cf) (f:Mem):Prop where
 (root:slotI (f (4,0,0))<=C.s)
 (link:∀ i,slotI (f (5,i,7))<=C.s)
theorem LnkF.at9 {C:Cf} {f:Mem} (h:LnkF C f) {p:Plc} (hp:p=(4,0,0)\/∃ c,p=(5,c,7)):slotI (f p)<=C.s:=by
 rcases hp with rfl | ⟨c,rfl⟩
 ·exact h.root
 ·exact h.link c
theorem slot_word_le {m:Bool} {s e S:Int} (h0:0<=S) (hs:s<=S):slotI (wordI m s e)<=S:=by
 have hz:slotI 0=0:=by decide
 by_cases h:isL s e=true
 ·rw [slot_word h]
  exact hs
 ·have hw:wordI m s e=0:=by unfold wordI; rw [if_neg h]
  rw [hw,hz]
  exact h0
section
variable {C:Cf} {key e:Int} {L:Lm} {f:Mem}
theorem LaneOk.start (h0:0<=C.s):LaneOk C (L0 (4,0,0)):=by
 have hz:slotI 0=0:=by decide
 refine ⟨LmOk.start _,by show Wf (4,0,0); unfold Wf In64; simp,.inl rfl,fun h=>absurd h (by simp [L0]),fun h=>absurd h (by simp [L0]),?_,?_,?_⟩
 ·show slotI 0<=C.s; omega
 ·show slotI 0<=C.s; omega
 ·show (0:Int)<=C.s; omega
theorem LaneOk.come (h:LaneOk C L) {p:Plc} (hp:p=(4,0,0)\/∃ c,p=(5,c,7)) (hwf:Wf p) (h7:L.pc<=7) (h0:0<=C.s) {v:Int} (hv:InU v) (hvs:slotI v<=C.s) (hne:slotI v≠0):LaneOk C { L with p:=p,W:=v,X:=0,C:=slotI v,pc:=3 }:=by
 have hz:slotI 0=0:=by decide
 have hi:=slotI_in v
 have hLp:LmOk { L with p:=p }:=⟨h.ok.pc,h.ok.v,h.ok.fd,h.ok.ft,h.ok.x,h.ok.c0,h.ok.W,h.ok.X,h.ok.C⟩
 refine ⟨hLp.come h7 v hv,hwf,hp,fun h=>absurd h (by simp),fun _=>?_,hvs,?_,hvs⟩
 ·show 1<=slotI v; omega
 ·show slotI 0<=C.s; omega
theorem LaneOk.comeEnd (h:LaneOk C L) {p:Plc} (hp:p=(4,0,0)\/∃ c,p=(5,c,7)) (hwf:Wf p) (h7:L.pc<=7) (h0:0<=C.s) {v:Int} (hv:InU v) (hvs:slotI v<=C.s):SpotOk C { L with p:=p,W:=v,X:=0,C:=slotI v,pc:=3 }:=by
 have hz:slotI 0=0:=by decide
 refine ⟨hv,by show InU 0; simp [InU],hwf,hp,slotI_in v,fun hf=>?_,hvs,?_,hvs⟩
 ·have h9:L.fd=true:=hf
  rw [h.ok.fd h7] at h9
  exact absurd h9 (by decide)
 ·show slotI 0<=C.s; omega
theorem LaneOk.spot (h:LaneOk C L) (h6:6<=L.pc):SpotOk C L :=
 ⟨h.ok.W,h.ok.X,h.wf,h.at9,h.ok.C,fun _=>⟨h.c (by omega),h.x h6⟩,h.sw,h.sx,h.cs⟩
theorem cS_ne {v:Int} (h:cS v=0):slotI v≠0:=fun h0=>by rw [cS,if_pos h0] at h; exact absurd h (by decide)
theorem lane_keep (h:LaneOk C L) (hW:∀ x,InU (f x)) (hS:LnkF C f) (h0:0<=C.s):((laneM 0 key false e L f).1=0->LaneOk C (laneM 0 key false e L f).2.1)/\((laneM 0 key false e L f).1=1->SpotOk C (laneM 0 key false e L f).2.1):=by
 have hL:=h.ok
 have HK:(laneM 0 key false e L f).1=0->LmOk (laneM 0 key false e L f).2.1:=fun h9=>(lane_ok hL hW h.wf (show (0:Int)<=0/\(0:Int)<=1000000 by omega) h9).1
 rcases hL.pc with hpc | hpc | hpc | hpc | hpc | hpc | hpc | hpc | hpc
 ·have hM:laneM 0 key false e L f=(0,{ L with W:=f L.p,pc:=2 },f):=by simp [laneM,hpc]
  rw [hM]
  refine ⟨fun h9=>⟨(by have h8:=HK (by rw [hM]); rw [hM] at h8; exact h8),h.wf,h.at9,fun h=>absurd h (by simp),fun h=>absurd h (by simp),hS.at9 h.at9,h.sx,h.cs⟩,fun h9=>absurd h9 (by simp)⟩
 ·by_cases hok:okB (f (1,0,0)) e=true
  ·by_cases hmk:markB L.W=true
   ·have hM:laneM 0 key false e L f=(2,L,f):=by simp [laneM,holdsM,hpc,hok,hmk]
    rw [hM]
    exact ⟨fun h=>absurd h (by simp),fun h=>absurd h (by simp)⟩
   ·have hM:laneM 0 key false e L f=(cS L.W,{ L with W:=L.W,X:=0,C:=slotI L.W,pc:=3 },f):=by simp [laneM,holdsM,hpc,hok,hmk,comeM_cS]
    rw [hM]
    exact ⟨fun h9=>h.come h.at9 h.wf (by omega) h0 hL.W h.sw (cS_ne h9),fun _=>h.comeEnd h.at9 h.wf (by omega) h0 hL.W h.sw⟩
  ·have hM:laneM 0 key false e L f=(2,L,f):=by simp [laneM,hpc,hok]
   rw [hM]
   exact ⟨fun h=>absurd h (by simp),fun h=>absurd h (by simp)⟩
 ·have hM:laneM 0 key false e L f=(0,{ L with X:=f (5,L.C,7),pc:=4 },f):=by simp [laneM,hpc]
  rw [hM]
  refine ⟨fun h9=>⟨(by have h8:=HK (by rw [hM]); rw [hM] at h8; exact h8),h.wf,h.at9,fun h=>absurd h (by simp),fun _=>h.c (by omega),h.sw,hS.link _,h.cs⟩,fun h9=>absurd h9 (by simp)⟩
 ·by_cases hok:okB (f (1,0,0)) e=true
  ·have hM:laneM 0 key false e L f=(0,{ L with pc:=if markB L.X then 5 else 6 },f):=by simp [laneM,holdsM,hpc,hok]
   rw [hM]
   refine ⟨fun h9=>⟨(by have h8:=HK (by rw [hM]); rw [hM] at h8; exact h8),h.wf,h.at9,fun h6=>?_,fun _=>h.c (by omega),h.sw,h.sx,h.cs⟩,fun h9=>absurd h9 (by simp)⟩
   dsimp only at h6 ⊢
   cases hm:markB L.X
   ·rfl
   ·rw [hm] at h6; exact absurd h6 (by decide)
  ·have hM:laneM 0 key false e L f=(2,L,f):=by simp [laneM,hpc,hok]
   rw [hM]
   exact ⟨fun h=>absurd h (by simp),fun h=>absurd h (by simp)⟩
 ·by_cases heq:f L.p=L.W
  ·have hM:laneM 0 key false e L f=(cS (wordI false (slotI L.X) e),{ L with W:=wordI false (slotI L.X) e,X:=0,C:=slotI (wordI false (slotI L.X) e),pc:=3 },swf f L.p L.W (wordI false (slotI L.X) e)):=by simp [laneM,hpc,heq,comeM_cS]
   rw [hM]
   have hle:=slot_word_le (m:=false) (e:=e) h0 h.sx
   exact ⟨fun h9=>h.come h.at9 h.wf (by omega) h0 (wordI_in _ _ _) hle (cS_ne h9),fun _=>h.comeEnd h.at9 h.wf (by omega) h0 (wordI_in _ _ _) hle⟩
  ·have hM:laneM 0 key false e L f=(2,L,swf f L.p L.W (wordI false (slotI L.X) e)):=by simp [laneM,hpc,heq]
   rw [hM]
   exact ⟨fun h=>absurd h (by simp),fun h=>absurd h (by simp)⟩
 ·have hM:laneM 0 key false e L f=(0,{ L with K:=f (5,L.C,3),pc:=7 },f):=by simp [laneM,hpc]
  rw [hM]
  refine ⟨fun h9=>⟨(by have h8:=HK (by rw [hM]); rw [hM] at h8; exact h8),h.wf,h.at9,fun _=>h.x (by omega),fun _=>h.c (by omega),h.sw,h.sx,h.cs⟩,fun h9=>absurd h9 (by simp)⟩
 ·by_cases hok:okB (f (1,0,0)) e=true
  ·by_cases hlt:L.K < key
   ·have hM:laneM 0 key false e L f=(cS L.X,{ L with p:=(5,L.C,7),W:=L.X,X:=0,C:=slotI L.X,pc:=3 },f):=by simp [laneM,holdsM,hpc,hok,hlt,comeM_cS]
    rw [hM]
    have hwf:Wf (5,L.C,7):=wf_part hL.C (by omega)
    exact ⟨fun h9=>h.come (.inr ⟨_,rfl⟩) hwf (by omega) h0 hL.X h.sx (cS_ne h9),fun _=>h.comeEnd (.inr ⟨_,rfl⟩) hwf (by omega) h0 hL.X h.sx⟩
   ·by_cases heq:L.K=key
    ·have hM:laneM 0 key false e L f=(1,{ L with fd:=true },f):=by simp [laneM,holdsM,hpc,hok,heq]
     rw [hM]
     have hsp:=h.spot (by omega)
     exact ⟨fun h=>absurd h (by simp),fun _=>⟨hsp.W,hsp.X,hsp.wf,hsp.at9,hsp.Cr,fun _=>⟨h.c (by omega),h.x (by omega)⟩,hsp.sw,hsp.sx,hsp.cs⟩⟩
    ·have hM:laneM 0 key false e L f=(1,L,f):=by simp [laneM,holdsM,hpc,hok,hlt,heq]
     rw [hM]
     exact ⟨fun h=>absurd h (by simp),fun _=>h.spot (by omega)⟩
  ·have hM:laneM 0 key false e L f=(2,L,f):=by simp [laneM,hpc,hok]
   rw [hM]
   exact ⟨fun h=>absurd h (by simp),fun h=>absurd h (by simp)⟩
 ·have hM:laneM 0 key false e L f=(0,{ L with V:=f (5,L.C,4),pc:=9 },f):=by simp [laneM,hpc]
  rw [hM]
  refine ⟨fun h9=>⟨(by have h8:=HK (by rw [hM]); rw [hM] at h8; exact h8),h.wf,h.at9,fun _=>h.x (by omega),fun _=>h.c (by omega),h.sw,h.sx,h.cs⟩,fun h9=>absurd h9 (by simp)⟩
 ·by_cases hok:okB (f (1,0,0)) e=true
  ·have hM:laneM 0 key false e L f=(1,L,f):=by simp [laneM,holdsM,hpc,hok]
   rw [hM]
   exact ⟨fun h=>absurd h (by simp),fun _=>h.spot (by omega)⟩
  ·have hM:laneM 0 key false e L f=(2,L,f):=by simp [laneM,hpc,hok]
   rw [hM]
   exact ⟨fun h=>absurd h (by simp),fun h=>absurd h (by simp)⟩
theorem search_keep {on:Bool} {r:Int} (h:on=true->LaneOk C L) (hW:∀ x,InU (f x)) (hS:LnkF C f) (h0:0<=C.s):((searchM 0 key false ⟨on,L,e,r⟩ f).1=0->(searchM 0 key false ⟨on,L,e,r⟩ f).2.1.on=true->LaneOk C (searchM 0 key false ⟨on,L,e,r⟩ f).2.1.L)/\((searchM 0 key false ⟨on,L,e,r⟩ f).1=1->SpotOk C (searchM 0 key false ⟨on,L,e,r⟩ f).2.1.L):=by
 cases on
 ·exact ⟨fun _ _=>LaneOk.start h0,fun h=>absurd h (by simp [searchM])⟩
 ·have hk:=lane_keep (key:=key) (e:=e) (h rfl) hW hS h0
  have hst:=lane_state 0 key false e L f
  have hM:searchM 0 key false ⟨true,L,e,r⟩ f=(if (laneM 0 key false e L f).1=1 then 1 else 0,{ on:=decide ((laneM 0 key false e L f).1≠2),L:=(laneM 0 key false e L f).2.1,e:=e,r:=rollM e L f r },(laneM 0 key false e L f).2.2):=by unfold searchM; rw [if_pos rfl]
  rw [hM]
  refine ⟨fun h1 h2=>hk.1 ?_,fun h1=>hk.2 ?_⟩
  ·rcases hst with h9 | h9 | h9
   ·exact h9
   ·rw [h9] at h1; exact absurd h1 (by simp)
   ·rw [h9] at h2; exact absurd h2 (by simp)
  ·rcases hst with h9 | h9 | h9
   ·rw [h9] at h1; exact absurd h1 (by simp)
   ·exact h9
   ·rw [h9] at h1; exact absurd h1 (by simp)
end
theorem decP_adv {ql:List Trip} {e l:Int} (h:decP ql e l=1):e < l:=by
 rcases ql with _ | ⟨⟨x,y,z⟩,t⟩
 ·exact no h rfl
 ·simp only [decP] at h
  split at h
  ·exact absurd h (by decide)
  ·split at h
   ·exact absurd h (by decide)
   ·omega
theorem decP_born {ql:List Trip} {e l:Int} (h:decP ql e l=10):ql≠[]:=by
 rintro rfl
 exact no h rfl
theorem lastS_in (k n:Nat):lastS k n=0\/lastS k n=1:=by
 unfold lastS
 split
 ·exact .inr rfl
 ·exact .inl rfl
theorem decS_in {ql:List Trip} {e l:Int}:(decP ql e l=0/\decS ql e l=4)\/(decP ql e l≠0/\decS ql e l=0):=by
 unfold decS
 by_cases h:decP ql e l=0
 ·exact .inl ⟨h,if_pos h⟩
 ·exact .inr ⟨h,if_neg h⟩
theorem ql_add {C:Cf} {l:List Trip} {x y:Int} (h:∀ z∈l,1<=z.1/\z.1<=C.s/\z.2.2=0) (h1:1<=x) (h2:x<=C.s):∀ z∈l++[(x,y,0)],1<=z.1/\z.1<=C.s/\z.2.2=0:=by
 intro z hz
 rcases List.mem_append.1 hz with hz | hz
 ·exact h z hz
 ·simp at hz
  subst hz
  exact ⟨h1,h2,rfl⟩
section
variable {C:Cf} {ds:List Dd} {B:Nat} {T:Th} {f:Mem} {d:Dd}
theorem al_cases (C:Cf) (d:Dd) (T:Th) (f:Mem) (hp:T.pc=2):actM C d T f=({ (allocM C d T f).2.1 with pc:=if (allocM C d T f).1=2 then 1 else if (allocM C d T f).1=0 then 2 else 0,done:=if (allocM C d T f).1=1 then T.done+1 else T.done,full:=(allocM C d T f).1==3 },(allocM C d T f).2.2):=by
 unfold actM
 rw [if_neg (by omega),if_pos hp]
theorem act2_ok (hC:COk C) (hF:OkF C f) (hT:OkT C ds B T) (h2:T.pc=2) (hu:∀ x,InU ((actM C d T f).2 x)):OkF C (actM C d T f).2/\OkT C ds (B+1) (actM C d T f).1:=by
 have hp:T.pc≠0:=by omega
 have hm:=hT.more
 have hs:=hC.s
 have hfu:=hF.u
 have hdone:=hT.done
 rw [al_cases C d T f h2] at hu ⊢
 rcases hT.apc h2 with ha | ha | ha | ha | ha | ha | ha
 ·have hlow:=hT.low h2 (by omega)
  have hal:allocM C d T f=(2,T,swf f (1,0,0) T.e (T.e+1)):=by unfold allocM; rw [if_pos ha]
  rw [hal] at hu ⊢
  exact ⟨hF.swe (by have:=hT.adv h2 ha; omega) hu,{ hm with pc:=.inr (.inl rfl),p1:=fun _=>hlow,nd1:=fun _=>hT.nd1 hp,apc:=fun h=>no h rfl,low:=fun h=>no h rfl,adv:=fun h=>no h rfl,born:=fun h=>no h rfl,pool:=fun h=>no h rfl,rpc:=fun h=>no h rfl,rsp:=fun h=>no h rfl,give:=fun h=>no h rfl,gv:=fun h=>no h rfl }⟩
 ·have hlow:=hT.low h2 (by omega)
  by_cases hx:C.s<=f (3,0,0)
  ·have hal:allocM C d T f=(0,{ T with apc:=3 },upd f (3,0,0) (IntKind.u64.wrap (f (3,0,0)+1))):=by unfold allocM; rw [if_neg (by omega),if_pos ha,if_pos hx]
   rw [hal] at hu ⊢
   exact ⟨hF.upd (by simp) (by simp) (fun i h=>by simp at h) hu,{ hm with pc:=.inr (.inr (.inl rfl)),nd1:=fun _=>hT.nd1 hp,p1:=fun h=>no h rfl,rpc:=fun h=>no h rfl,rsp:=fun h=>no h rfl,give:=fun h=>no h rfl,gv:=fun h=>no h rfl,apc:=fun _=>.inr (.inr (.inl rfl)),low:=fun _ _=>hlow,adv:=fun _ h=>no h rfl,born:=fun _ h=>no h rfl,pool:=fun _ ha hb=>(by have ha':4<=(3:Nat):=ha; have hb':(3:Nat)<=6:=hb; omega) }⟩
  ·have hal:allocM C d T f=(decS (T.ql++[(f (3,0,0)+1,0,0)]) T.e C.l,{ T with ql:=T.ql++[(f (3,0,0)+1,0,0)],apc:=decP (T.ql++[(f (3,0,0)+1,0,0)]) T.e C.l },upd f (3,0,0) (IntKind.u64.wrap (f (3,0,0)+1))):=by unfold allocM; rw [if_neg (by omega),if_pos ha,if_neg hx]
   rw [hal] at hu ⊢
   have hf3:0<=f (3,0,0):=(hfu _).1
   refine ⟨hF.upd (by simp) (by simp) (fun i h=>by simp at h) hu,?_⟩
   clear hu hal
   have hq:=ql_add (y:=0) hT.ql (show 1<=f (3,0,0)+1 by omega) (by omega)
   rcases decS_in (ql:=T.ql++[(f (3,0,0)+1,0,0)]) (e:=T.e) (l:=C.l) with ⟨hD,hS⟩ | ⟨hD,hS⟩
   ·rw [hS]
    exact { hm with ql:=hq,len:=(by have:=hT.len; simp; omega),pc:=.inl rfl,nd1:=fun _=>hT.nd1 hp,p1:=fun h=>no h rfl,apc:=fun h=>no h rfl,low:=fun h=>no h rfl,adv:=fun h=>no h rfl,born:=fun h=>no h rfl,pool:=fun h=>no h rfl,rpc:=fun h=>no h rfl,rsp:=fun h=>no h rfl,give:=fun h=>no h rfl,gv:=fun h=>no h rfl }
   ·rw [hS]
    refine { hm with ql:=hq,len:=(by have:=hT.len; simp; omega),pc:=.inr (.inr (.inl rfl)),nd1:=fun _=>hT.nd1 hp,p1:=fun h=>no h rfl,rpc:=fun h=>no h rfl,rsp:=fun h=>no h rfl,give:=fun h=>no h rfl,gv:=fun h=>no h rfl,apc:=fun _=>?_,low:=fun _ _=>hlow,adv:=fun _ h=>decP_adv h,born:=fun _ h=>decP_born h,pool:=fun _ ha hb=>?_ }
    ·show decP (T.ql++[(f (3,0,0)+1,0,0)]) T.e C.l=1\/decP (T.ql++[(f (3,0,0)+1,0,0)]) T.e C.l=2\/decP (T.ql++[(f (3,0,0)+1,0,0)]) T.e C.l=3\/decP (T.ql++[(f (3,0,0)+1,0,0)]) T.e C.l=4\/decP (T.ql++[(f (3,0,0)+1,0,0)]) T.e C.l=5\/decP (T.ql++[(f (3,0,0)+1,0,0)]) T.e C.l=6\/10<=decP (T.ql++[(f (3,0,0)+1,0,0)]) T.e C.l
     rcases decP_in (T.ql++[(f (3,0,0)+1,0,0)]) T.e C.l with h | h | h | h<;>omega
    ·have ha':4<=decP (T.ql++[(f (3,0,0)+1,0,0)]) T.e C.l:=ha
     have hb':decP (T.ql++[(f (3,0,0)+1,0,0)]) T.e C.l<=6:=hb
     rcases decP_in (T.ql++[(f (3,0,0)+1,0,0)]) T.e C.l with h | h | h | h<;>omega
 ·have hlow:=hT.low h2 (by omega)
  have hal:allocM C d T f=(poolS (f (2,0,0)) C.l,{ T with ah:=f (2,0,0),apc:=4 },f):=by unfold allocM; rw [if_neg (by omega),if_neg (by omega),if_pos ha]
  rw [hal] at hu ⊢
  refine ⟨hF,?_⟩
  have hw:InU (f (2,0,0))/\InU T.an/\InU T.ar:=⟨hfu _,hT.w.2⟩
  by_cases q1:slotI (f (2,0,0))=0
  ·rw [show poolS (f (2,0,0)) C.l=3 from if_pos q1]
   exact { hm with w:=hw,pc:=.inl rfl,nd1:=fun _=>hT.nd1 hp,p1:=fun h=>no h rfl,apc:=fun h=>no h rfl,low:=fun h=>no h rfl,adv:=fun h=>no h rfl,born:=fun h=>no h rfl,pool:=fun h=>no h rfl,rpc:=fun h=>no h rfl,rsp:=fun h=>no h rfl,give:=fun h=>no h rfl,gv:=fun h=>no h rfl }
  ·by_cases q2:C.l<=verI (f (2,0,0))
   ·rw [show poolS (f (2,0,0)) C.l=4 from (if_neg q1).trans (if_pos q2)]
    exact { hm with w:=hw,pc:=.inl rfl,nd1:=fun _=>hT.nd1 hp,p1:=fun h=>no h rfl,apc:=fun h=>no h rfl,low:=fun h=>no h rfl,adv:=fun h=>no h rfl,born:=fun h=>no h rfl,pool:=fun h=>no h rfl,rpc:=fun h=>no h rfl,rsp:=fun h=>no h rfl,give:=fun h=>no h rfl,gv:=fun h=>no h rfl }
   ·rw [show poolS (f (2,0,0)) C.l=0 from (if_neg q1).trans (if_neg q2)]
    exact { hm with w:=hw,pc:=.inr (.inr (.inl rfl)),nd1:=fun _=>hT.nd1 hp,p1:=fun h=>no h rfl,rpc:=fun h=>no h rfl,rsp:=fun h=>no h rfl,give:=fun h=>no h rfl,gv:=fun h=>no h rfl,apc:=fun _=>.inr (.inr (.inr (.inl rfl))),low:=fun _ _=>hlow,adv:=fun _ h=>no h rfl,born:=fun _ h=>no h rfl,pool:=fun _ _ _=>⟨(by have:=slotI_in (f (2,0,0)); show 1<=slotI (f (2,0,0)); omega),hF.pool,(by show verI (f (2,0,0)) < C.l; omega)⟩ }
 ·have hlow:=hT.low h2 (by omega)
  have hal:allocM C d T f=(0,{ T with an:=f (5,slotI T.ah,2),apc:=5 },f):=by unfold allocM; rw [if_neg (by omega),if_neg (by omega),if_neg (by omega),if_pos ha]
  rw [hal] at hu ⊢
  exact ⟨hF,{ hm with w:=⟨hT.w.1,hfu _,hT.w.2.2⟩,an:=hF.chain _,pc:=.inr (.inr (.inl rfl)),nd1:=fun _=>hT.nd1 hp,p1:=fun h=>no h rfl,rpc:=fun h=>no h rfl,rsp:=fun h=>no h rfl,give:=fun h=>no h rfl,gv:=fun h=>no h rfl,apc:=fun _=>.inr (.inr (.inr (.inr (.inl rfl)))),low:=fun _ _=>hlow,adv:=fun _ h=>no h rfl,born:=fun _ h=>no h rfl,pool:=fun _ _ _=>hT.pool h2 (by omega) (by omega) }⟩
 ·have hlow:=hT.low h2 (by omega)
  have hal:allocM C d T f=(0,{ T with ar:=f (5,slotI T.ah,1),apc:=6 },f):=by unfold allocM; rw [if_neg (by omega),if_neg (by omega),if_neg (by omega),if_neg (by omega),if_pos ha]
  rw [hal] at hu ⊢
  exact ⟨hF,{ hm with w:=⟨hT.w.1,hT.w.2.1,hfu _⟩,pc:=.inr (.inr (.inl rfl)),nd1:=fun _=>hT.nd1 hp,p1:=fun h=>no h rfl,rpc:=fun h=>no h rfl,rsp:=fun h=>no h rfl,give:=fun h=>no h rfl,gv:=fun h=>no h rfl,apc:=fun _=>.inr (.inr (.inr (.inr (.inr (.inl rfl))))),low:=fun _ _=>hlow,adv:=fun _ h=>no h rfl,born:=fun _ h=>no h rfl,pool:=fun _ _ _=>hT.pool h2 (by omega) (by omega) }⟩
 ·have hlow:=hT.low h2 (by omega)
  have hpl:=hT.pool h2 (by omega) (by omega)
  by_cases hx:f (2,0,0)=T.ah
  ·have hal:allocM C d T f=(decS (T.ql++[(slotI T.ah,epI T.ar,0)]) T.e C.l,{ T with ql:=T.ql++[(slotI T.ah,epI T.ar,0)],apc:=decP (T.ql++[(slotI T.ah,epI T.ar,0)]) T.e C.l },swf f (2,0,0) T.ah (nextW T.ah (slotI T.an))):=by unfold allocM; rw [if_neg (by omega),if_neg (by omega),if_neg (by omega),if_neg (by omega),if_neg (by omega),if_pos ha,if_pos hx]
   rw [hal] at hu ⊢
   refine ⟨hF.swp (slot_next (by omega) hT.an) hu,?_⟩
   clear hu hal
   have hq:=ql_add (y:=epI T.ar) hT.ql hpl.1 hpl.2.1
   rcases decS_in (ql:=T.ql++[(slotI T.ah,epI T.ar,0)]) (e:=T.e) (l:=C.l) with ⟨hD,hS⟩ | ⟨hD,hS⟩
   ·rw [hS]
    exact { hm with ql:=hq,len:=(by have:=hT.len; simp; omega),pc:=.inl rfl,nd1:=fun _=>hT.nd1 hp,p1:=fun h=>no h rfl,apc:=fun h=>no h rfl,low:=fun h=>no h rfl,adv:=fun h=>no h rfl,born:=fun h=>no h rfl,pool:=fun h=>no h rfl,rpc:=fun h=>no h rfl,rsp:=fun h=>no h rfl,give:=fun h=>no h rfl,gv:=fun h=>no h rfl }
   ·rw [hS]
    refine { hm with ql:=hq,len:=(by have:=hT.len; simp; omega),pc:=.inr (.inr (.inl rfl)),nd1:=fun _=>hT.nd1 hp,p1:=fun h=>no h rfl,rpc:=fun h=>no h rfl,rsp:=fun h=>no h rfl,give:=fun h=>no h rfl,gv:=fun h=>no h rfl,apc:=fun _=>?_,low:=fun _ _=>hlow,adv:=fun _ h=>decP_adv h,born:=fun _ h=>decP_born h,pool:=fun _ ha hb=>?_ }
    ·show decP (T.ql++[(slotI T.ah,epI T.ar,0)]) T.e C.l=1\/decP (T.ql++[(slotI T.ah,epI T.ar,0)]) T.e C.l=2\/decP (T.ql++[(slotI T.ah,epI T.ar,0)]) T.e C.l=3\/decP (T.ql++[(slotI T.ah,epI T.ar,0)]) T.e C.l=4\/decP (T.ql++[(slotI T.ah,epI T.ar,0)]) T.e C.l=5\/decP (T.ql++[(slotI T.ah,epI T.ar,0)]) T.e C.l=6\/10<=decP (T.ql++[(slotI T.ah,epI T.ar,0)]) T.e C.l
     rcases decP_in (T.ql++[(slotI T.ah,epI T.ar,0)]) T.e C.l with h | h | h | h<;>omega
    ·have ha':4<=decP (T.ql++[(slotI T.ah,epI T.ar,0)]) T.e C.l:=ha
     have hb':decP (T.ql++[(slotI T.ah,epI T.ar,0)]) T.e C.l<=6:=hb
     rcases decP_in (T.ql++[(slotI T.ah,epI T.ar,0)]) T.e C.l with h | h | h | h<;>omega
  ·have hal:allocM C d T f=(0,{ T with apc:=3 },swf f (2,0,0) T.ah (nextW T.ah (slotI T.an))):=by unfold allocM; rw [if_neg (by omega),if_neg (by omega),if_neg (by omega),if_neg (by omega),if_neg (by omega),if_pos ha,if_neg hx]
   rw [hal] at hu ⊢
   exact ⟨hF.swp (slot_next (by omega) hT.an) hu,{ hm with pc:=.inr (.inr (.inl rfl)),nd1:=fun _=>hT.nd1 hp,p1:=fun h=>no h rfl,rpc:=fun h=>no h rfl,rsp:=fun h=>no h rfl,give:=fun h=>no h rfl,gv:=fun h=>no h rfl,apc:=fun _=>.inr (.inr (.inl rfl)),low:=fun _ _=>hlow,adv:=fun _ h=>no h rfl,born:=fun _ h=>no h rfl,pool:=fun _ ha hb=>(by have ha':4<=(3:Nat):=ha; have hb':(3:Nat)<=6:=hb; omega) }⟩
 ·by_cases h10:T.apc=10
  ·have hal:allocM C d T f=(lastS 0 (wordsA C.k T.e d.key d.val (IntKind.u64.wrap d.lv)).length,{ T with ql:=T.ql.tail,hs:=(T.ql.headD t0).1,apc:=11 },upd f (5,(T.ql.headD t0).1,((wordsA C.k T.e d.key d.val (IntKind.u64.wrap d.lv)).getD (T.apc - 10) (0,0)).1) ((wordsA C.k T.e d.key d.val (IntKind.u64.wrap d.lv)).getD (T.apc - 10) (0,0)).2):=by unfold allocM; rw [if_neg (by omega),if_neg (by omega),if_neg (by omega),if_neg (by omega),if_neg (by omega),if_neg (by omega)]; dsimp only; rw [if_pos h10]
   rw [hal] at hu ⊢
   obtain ⟨x,t,hxt⟩:∃ x t,T.ql=x::t:=by
    rcases hq:T.ql with _ | ⟨x,t⟩
    ·exact absurd hq (hT.born h2 h10)
    ·exact ⟨x,t,rfl⟩
   have hpn:=part_ne C.k T.e d.key d.val (IntKind.u64.wrap d.lv) (T.apc - 10)
   refine ⟨hF.upd (by simp) (by simp) (fun i h=>by simp at h; exact absurd h.2 hpn) hu,?_⟩
   have hxx:=hT.ql x (by rw [hxt]; simp)
   have hqt:∀ z∈T.ql.tail,1<=z.1/\z.1<=C.s/\z.2.2=0:=fun z hz=>hT.ql z (List.mem_of_mem_tail hz)
   have hhs:0<=(T.ql.headD t0).1/\(T.ql.headD t0).1<=C.s:=by rw [hxt]; exact ⟨by show 0<=x.1; omega,hxx.2.1⟩
   have hln:T.ql.tail.length+(ds.length - T.nd)<=B+1:=by have:=hT.len; simp; omega
   rcases lastS_in 0 (wordsA C.k T.e d.key d.val (IntKind.u64.wrap d.lv)).length with h | h<;>rw [h]
   ·exact { hm with hs:=hhs,ql:=hqt,len:=hln,pc:=.inr (.inr (.inl rfl)),nd1:=fun _=>hT.nd1 hp,p1:=fun h=>no h rfl,rpc:=fun h=>no h rfl,rsp:=fun h=>no h rfl,give:=fun h=>no h rfl,gv:=fun h=>no h rfl,apc:=fun _=>.inr (.inr (.inr (.inr (.inr (.inr (by show (10:Nat)<=11; decide)))))),low:=fun _ h=>absurd h (by show ¬ (11:Nat)<=10; decide),adv:=fun _ h=>no h rfl,born:=fun _ h=>no h rfl,pool:=fun _ ha hb=>(by have ha':4<=(11:Nat):=ha; have hb':(11:Nat)<=6:=hb; omega) }
   ·exact { hm with hs:=hhs,ql:=hqt,len:=hln,done:=(by show 0<=T.done+1/\T.done+1<=((B+1:Nat):Int); omega),pc:=.inl rfl,nd1:=fun _=>hT.nd1 hp,p1:=fun h=>no h rfl,apc:=fun h=>no h rfl,low:=fun h=>no h rfl,adv:=fun h=>no h rfl,born:=fun h=>no h rfl,pool:=fun h=>no h rfl,rpc:=fun h=>no h rfl,rsp:=fun h=>no h rfl,give:=fun h=>no h rfl,gv:=fun h=>no h rfl }
  ·have hal:allocM C d T f=(lastS (T.apc - 10) (wordsA C.k T.e d.key d.val (IntKind.u64.wrap d.lv)).length,{ T with apc:=T.apc+1 },upd f (5,T.hs,((wordsA C.k T.e d.key d.val (IntKind.u64.wrap d.lv)).getD (T.apc - 10) (0,0)).1) ((wordsA C.k T.e d.key d.val (IntKind.u64.wrap d.lv)).getD (T.apc - 10) (0,0)).2):=by unfold allocM; rw [if_neg (by omega),if_neg (by omega),if_neg (by omega),if_neg (by omega),if_neg (by omega),if_neg (by omega)]; dsimp only; rw [if_neg h10]
   rw [hal] at hu ⊢
   have hpn:=part_ne C.k T.e d.key d.val (IntKind.u64.wrap d.lv) (T.apc - 10)
   refine ⟨hF.upd (by simp) (by simp) (fun i h=>by simp at h; exact absurd h.2 hpn) hu,?_⟩
   rcases lastS_in (T.apc - 10) (wordsA C.k T.e d.key d.val (IntKind.u64.wrap d.lv)).length with h | h<;>rw [h]
   ·exact { hm with pc:=.inr (.inr (.inl rfl)),nd1:=fun _=>hT.nd1 hp,p1:=fun h=>no h rfl,rpc:=fun h=>no h rfl,rsp:=fun h=>no h rfl,give:=fun h=>no h rfl,gv:=fun h=>no h rfl,apc:=fun _=>.inr (.inr (.inr (.inr (.inr (.inr (by show 10<=T.apc+1; omega)))))),low:=fun _ h=>(by have h':T.apc+1<=10:=h; omega),adv:=fun _ h=>(by have h':T.apc+1=1:=h; omega),born:=fun _ h=>(by have h':T.apc+1=10:=h; omega),pool:=fun _ ha hb=>(by have ha':4<=(T.apc+1:Nat):=ha; have hb':(T.apc+1:Nat)<=6:=hb; omega) }
   ·exact { hm with done:=(by show 0<=T.done+1/\T.done+1<=((B+1:Nat):Int); omega),pc:=.inl rfl,nd1:=fun _=>hT.nd1 hp,p1:=fun h=>no h rfl,apc:=fun h=>no h rfl,low:=fun h=>no h rfl,adv:=fun h=>no h rfl,born:=fun h=>no h rfl,pool:=fun h=>no h rfl,rpc:=fun h=>no h rfl,rsp:=fun h=>no h rfl,give:=fun h=>no h rfl,gv:=fun h=>no h rfl }
theorem act3_ok (hC:COk C) (hF:OkF C f) (hT:OkT C ds B T) (h3:T.pc=3) (hu:∀ x,InU ((actM C d T f).2 x)):OkF C (actM C d T f).2/\OkT C ds (B+1) (actM C d T f).1:=by
 have hp:T.pc≠0:=by omega
 have hm:=hT.more
 have hs:=hC.s
 have hact:actM C d T f=({ (retireM T f).2.1 with pc:=if (retireM T f).1=0 then 3 else 0,full:=false },(retireM T f).2.2):=by
  unfold actM
  rw [if_neg (by omega),if_neg (by omega),if_pos h3]
 rw [hact] at hu ⊢
 rcases hT.rpc h3 with hr | hr
 ·have hal:retireM T f=(0,{ T with re:=f (1,0,0),rpc:=1 },f):=by unfold retireM; rw [if_pos hr]
  rw [hal] at hu ⊢
  exact ⟨hF,{ hm with re:=⟨(hF.u _).1,hF.ep⟩,pc:=.inr (.inr (.inr (.inl rfl))),nd1:=fun _=>hT.nd1 hp,p1:=fun h=>no h rfl,apc:=fun h=>no h rfl,low:=fun h=>no h rfl,adv:=fun h=>no h rfl,born:=fun h=>no h rfl,pool:=fun h=>no h rfl,give:=fun h=>no h rfl,gv:=fun h=>no h rfl,rpc:=fun _=>.inr rfl,rsp:=fun _=>hT.rsp h3 }⟩
 ·have hal:retireM T f=(1,{ T with ql:=T.ql++[(T.rs,epI T.re,0)] },upd f (5,T.rs,1) T.re):=by unfold retireM; rw [if_neg (by omega)]
  rw [hal] at hu ⊢
  exact ⟨hF.upd (by simp) (by simp) (fun i h=>by simp at h) hu,{ hm with ql:=ql_add hT.ql (hT.rsp h3) hT.rs.2,len:=(by have:=hT.len; simp; omega),pc:=.inl rfl,nd1:=fun _=>hT.nd1 hp,p1:=fun h=>no h rfl,apc:=fun h=>no h rfl,low:=fun h=>no h rfl,adv:=fun h=>no h rfl,born:=fun h=>no h rfl,pool:=fun h=>no h rfl,rpc:=fun h=>no h rfl,rsp:=fun h=>no h rfl,give:=fun h=>no h rfl,gv:=fun h=>no h rfl }⟩
end
section
variable {w0 w:World} {L:List Item} {o l c:Nat} {kd key val lv:Int} {sp:Value} {er:Int} {dn:Bool} {b1 b2:Nat} {x y z W C X k to:Int}
theorem step_oV (F p Y:Nat) (y9 u:Value) (hx:∀ (ar:Array Value) (v:World),(callFunc F ar).run Tryz.prog v=.ok (.enter F ar) v) (hy:∀ (ar:Array Value) (v:World),(callFunc Y ar).run Tryz.prog v=.ok (.enter Y ar) v) (Q:Int->World->Prop)
  (hE:Env w0 (boxI o (opC c kd key val lv (cvP b1 b2) 0 sp er dn)::boxI b1 [mvL F p]::boxI b2 [.func (.func Y) #[y9] #[]]::L) w)
  (hc:Calls Tryz.prog F #[.pointer (some ⟨p,0,none⟩),u] w fun e w1=>∃ s,e=.returned (.int .i64 s)/\(s=0->Q 0 w1)/\(s≠0->w1.cell? ⟨b2,0,none⟩=some (.func (.func Y) #[y9] #[])/\Calls Tryz.prog Y #[y9,.int .i64 s] w1 fun e2 w2=>∃ s2,e2=.returned (.int .i64 s2)/\Q s2 w2)) :
  Calls Tryz.prog 27 #[.pointer (some ⟨o,0,none⟩),u] w fun e w'=>∃ s,e=.returned (.int .i64 s)/\Q s w':=by
 have HST:=Lib.hid (stepP_r (o:=5) F hx (.pointer (some ⟨p,0,none⟩)) u y9 Y hy b1 b2 Q (hE.rule 0 rfl 5) (hE.rule 0 rfl 6) (hE.rule 1 rfl 0) hc)
 clear hc hE
 go_enter Tryz.func27,Tryz.ntmps27
 go_wp2_with fail
 refine HST.out.mono ?_
 rintro e w1 ⟨s,rfl,hQ⟩
 go_wp2_with fail
 go_ret
 exact ⟨s,rfl,hQ⟩
theorem step_o (F p Y:Nat) (u:Value) (hx:∀ (ar:Array Value) (v:World),(callFunc F ar).run Tryz.prog v=.ok (.enter F ar) v) (hy:∀ (ar:Array Value) (v:World),(callFunc Y ar).run Tryz.prog v=.ok (.enter Y ar) v) (Q:Int->World->Prop)
  (hE:Env w0 (boxI o (opC c kd key val lv (cvP b1 b2) 0 sp er dn)::boxI b1 [mvL F p]::boxI b2 [mvL Y o]::L) w)
  (hc:Calls Tryz.prog F #[.pointer (some ⟨p,0,none⟩),u] w fun e w1=>∃ s,e=.returned (.int .i64 s)/\(s=0->Q 0 w1)/\(s≠0->w1.cell? ⟨b2,0,none⟩=some (mvL Y o)/\Calls Tryz.prog Y #[.pointer (some ⟨o,0,none⟩),.int .i64 s] w1 fun e2 w2=>∃ s2,e2=.returned (.int .i64 s2)/\Q s2 w2)) :
  Calls Tryz.prog 27 #[.pointer (some ⟨o,0,none⟩),u] w fun e w'=>∃ s,e=.returned (.int .i64 s)/\Q s w' :=
 step_oV F p Y (.pointer (some ⟨o,0,none⟩)) u hx hy Q hE hc
theorem step_u (F p:Nat) (u:Value) (q:Value) (Y:Nat) (hx:∀ (ar:Array Value) (v:World),(callFunc F ar).run Tryz.prog v=.ok (.enter F ar) v) (hy:∀ (ar:Array Value) (v:World),(callFunc Y ar).run Tryz.prog v=.ok (.enter Y ar) v) (Q:Int->World->Prop)
  (hE:Env w0 (boxI l (ukC c x y z W C X k key to (cvP b1 b2) 0)::boxI b1 [mvL F p]::L) w)
  (hc:Calls Tryz.prog F #[.pointer (some ⟨p,0,none⟩),u] w fun e w1=>∃ s,e=.returned (.int .i64 s)/\(s=0->Q 0 w1)/\(s≠0->w1.cell? ⟨b2,0,none⟩=some (.func (.func Y) #[q] #[])/\Calls Tryz.prog Y #[q,.int .i64 s] w1 fun e2 w2=>∃ s2,e2=.returned (.int .i64 s2)/\Q s2 w2)) :
  Calls Tryz.prog 26 #[.pointer (some ⟨l,0,none⟩),u] w fun e w'=>∃ s,e=.returned (.int .i64 s)/\Q s w':=by
 have HST:=Lib.hid (stepP_r (o:=17) F hx (.pointer (some ⟨p,0,none⟩)) u q Y hy b1 b2 Q (hE.rule 0 rfl 17) (hE.rule 0 rfl 18) (hE.rule 1 rfl 0) hc)
 clear hc hE
 go_enter Tryz.func26,Tryz.ntmps26
 go_wp2_with fail
 refine HST.out.mono ?_
 rintro e w1 ⟨s,rfl,hQ⟩
 go_wp2_with fail
 go_ret
 exact ⟨s,rfl,hQ⟩
theorem stepMv_u (F:Nat) (u:Value) (hx:∀ (ar:Array Value) (v:World),(callFunc F ar).run Tryz.prog v=.ok (.enter F ar) v) (Q:Ending->World->Prop)
  (hE:Env w0 (boxI l (ukC c x y z W C X k key to (mvL F l) 0)::L) w)
  (hc:Calls Tryz.prog F #[.pointer (some ⟨l,0,none⟩),u] w fun e w'=>∃ s,e=.returned (.int .i64 s)/\Q (.returned (.int .i64 s)) w') :
  Calls Tryz.prog 26 #[.pointer (some ⟨l,0,none⟩),u] w Q:=by
 have HST:=Lib.hid (stepMv_r (o:=17) F hx (.pointer (some ⟨l,0,none⟩)) u (fun o w'=>∃ s,o=.returned (.int .i64 s)/\Q (.returned (.int .i64 s)) w') (hE.rule 0 rfl 17) (hE.rule 0 rfl 18) (hc.mono fun e w' ⟨s,he,hq⟩=>⟨s,he,s,rfl,hq⟩))
 clear hc hE
 go_enter Tryz.func26,Tryz.ntmps26
 go_wp2_with fail
 refine HST.out.mono ?_
 rintro e w1 ⟨s,rfl,hQ⟩
 go_wp2_with fail
 exact hQ
theorem stepMv_k (F:Nat) (u:Value) (hx:∀ (ar:Array Value) (v:World),(callFunc F ar).run Tryz.prog v=.ok (.enter F ar) v) (Q:Ending->World->Prop)
  (hE:Env w0 (boxI l (lkC c x y z W C X (mvL F l) 0)::L) w)
  (hc:Calls Tryz.prog F #[.pointer (some ⟨l,0,none⟩),u] w fun e w'=>∃ s,e=.returned (.int .i64 s)/\Q (.returned (.int .i64 s)) w') :
  Calls Tryz.prog 25 #[.pointer (some ⟨l,0,none⟩),u] w Q:=by
 have HST:=Lib.hid (stepMv_r (o:=13) F hx (.pointer (some ⟨l,0,none⟩)) u (fun o w'=>∃ s,o=.returned (.int .i64 s)/\Q (.returned (.int .i64 s)) w') (hE.rule 0 rfl 13) (hE.rule 0 rfl 14) (hc.mono fun e w' ⟨s,he,hq⟩=>⟨s,he,s,rfl,hq⟩))
 clear hc hE
 go_enter Tryz.func25,Tryz.ntmps25
 go_wp2_with fail
 refine HST.out.mono ?_
 rintro e w1 ⟨s,rfl,hQ⟩
 go_wp2_with fail
 exact hQ
end
def PSub (C:Cf) (c o:Nat) (d:Dd) (K:Kt) (sp:Value) (F Y:Value) (sub:List Item):Prop :=
 (K.pc=1/\∃ sb,sp=.pointer (some ⟨sb,0,none⟩)/\F=mvL 118 sb/\Y=mvL 119 o/\SIt c sb d.key K.on K.L 0 sub) \/
 (K.pc=2/\∃ a left s gl,F=mvL 228 a/\Y=cmV c d.ok d.key d.val d.lv o 5 67 171/\LeftIs C d K.T left s gl/\sub=boxI a (avD c a d K.T left s)::gl) \/
 (K.pc=3/\∃ l,F=mvL 25 l/\Y=mvL 199 o/\sub=[boxI l (lkC c K.L.p.1 K.L.p.2.1 K.L.p.2.2 K.L.W K.L.C K.L.X (mvL (if K.laid then 133 else 72) l) 0)]) \/
 ((K.pc=4\/K.pc=5)/\∃ l,F=mvL 26 l/\Y=mvL 199 o/\sub=[boxI l (ukC c K.L.p.1 K.L.p.2.1 K.L.p.2.2 K.L.W K.L.C K.L.X 0 d.key (slotI K.L.X) (mvL (if K.pc=4 then 73 else 136) l) 0)]) \/
 (K.pc=6/\∃ l b3 b4 s2 sub2,F=mvL 26 l/\Y=mvL 199 o/\SIt c s2 d.key K.on2 K.L2 0 sub2/\sub=boxI l (ukC c K.L.p.1 K.L.p.2.1 K.L.p.2.2 K.L.W K.L.C K.L.X 0 d.key (slotI K.L.X) (cvP b3 b4) 0)::boxI b3 [mvL 118 s2]::boxI b4 [mvL 176 l]::sub2) \/
 (K.pc=7/\∃ l b3 b4 r,F=mvL 26 l/\Y=mvL 199 o/\sub=[boxI l (ukC c K.L.p.1 K.L.p.2.1 K.L.p.2.2 K.L.W K.L.C K.L.X 0 d.key (slotI K.L.X) (cvP b3 b4) 0),boxI b3 [mvL 203 r],boxI b4 [mvE l 17],boxI r (rtv c (nxR r K.T.rpc) K.T.rs K.T.re)])
def PM (C:Cf) (c:Nat) (d:Dd) (K:Kt) (o:Nat) (ps:List Item):Prop :=
 ∃ b1 b2 F Y sp sub,ps=boxI o (opC c d.ok d.key d.val d.lv (cvP b1 b2) 0 sp 0 false)::boxI b1 [F]::boxI b2 [Y]::sub/\PSub C c o d K sp F Y sub
def OutP (w0:World) (R:List Item) (C:Cf) (X:Tm) (V:Wm) (d:Dd) (o n:Nat) (qc:Cnt) (q:Int × Kt × Mem) (s:Int) (w':World):Prop :=
 s=q.1/\∃ F' k' G' qc' n' ps',Nx n qc n' qc'/\(q.1=0->PM C X.c d q.2.1 o ps')/\(q.1≠0->∃ nx sp,ps'=[boxI o (opC X.c d.ok d.key d.val d.lv nx q.1 sp q.2.1.err q.2.1.dn)])/\Env w0 (ps'++LT (SPK C { X with F:=F',kq:=k' } V q.2.1 q.2.2 G' qc' n') R) w'
theorem OutP.fin {w0 w:World} {R:List Item} {C:Cf} {X:Tm} {V:Wm} {d:Dd} {o n n':Nat} {K:Kt} {f:Mem} {G:Nat->Prop} {qc qc0:Cnt} {F:Nat->Prop} {k:Nat} {nx sp:Value} {s:Int} (hs:s≠0) (hn:Nx n qc0 n' qc) (hE:Env w0 (boxI o (opC X.c d.ok d.key d.val d.lv nx s sp K.err K.dn)::LT (SPK C { X with F:=F,kq:=k } V K f G qc n') R) w):OutP w0 R C X V d o n qc0 (s,K,f) s w :=
 ⟨rfl,F,k,G,qc,n',[_],hn,fun h=>absurd h hs,fun _=>⟨nx,sp,rfl⟩,hE⟩
theorem OutP.go {w0 w:World} {R sub:List Item} {C:Cf} {X:Tm} {V:Wm} {d:Dd} {o n n' b1 b2:Nat} {K:Kt} {f:Mem} {G:Nat->Prop} {qc qc0:Cnt} {F:Nat->Prop} {k:Nat} {sp F9 Y:Value} (hn:Nx n qc0 n' qc) (hp:PSub C X.c o d K sp F9 Y sub) (hE:Env w0 (boxI o (opC X.c d.ok d.key d.val d.lv (cvP b1 b2) 0 sp 0 false)::boxI b1 [F9]::boxI b2 [Y]::(sub++LT (SPK C { X with F:=F,kq:=k } V K f G qc n') R)) w):OutP w0 R C X V d o n qc0 (0,K,f) 0 w :=
 ⟨rfl,F,k,G,qc,n',boxI o _::boxI b1 _::boxI b2 _::sub,hn,fun _=>⟨b1,b2,F9,Y,sp,sub,rfl,hp⟩,fun h=>absurd rfl h,hE⟩
theorem search_state (k key:Int) (vs:Bool) (T:Sm) (f:Mem):(searchM k key vs T f).1=0\/((searchM k key vs T f).1=1/\(searchM k key vs T f).2.1.on=true):=by
 unfold searchM
 by_cases h:T.on=true
 ·rw [if_pos h]
  dsimp only
  by_cases h1:(laneM 0 key vs T.e T.L f).1=1
  ·rw [if_pos h1]
   exact .inr ⟨rfl,by rw [h1]; decide⟩
  ·rw [if_neg h1]
   exact .inl rfl
 ·rw [if_neg h]
  exact .inl rfl
theorem rest_perm (a b c:Item) (S:ST) (sub R:List Item):(a::b::c::(sub++LT S R)).Perm (sub++LT S (a::b::c::R)):=perm_of fun z=>by
 simp only [LT,List.count_append,List.count_cons]
 omega
section
variable {w0 w:World} {R sub:List Item} {C:Cf} {X:Tm} {V:Wm} {K:Kt} {d:Dd} {f:Mem} {G:Nat->Prop} {qc:Cnt} {n o sb b1 b2:Nat}
theorem found_p (K':Kt) (hX:InU K'.L.X) (hd1:(K'.err=0/\K'.dn=false)) (hl:K'.T.ql.length+1<=1000000) (hg:Glo w0) (a:Nat) (lnx:Value) (wd pv:Int) {w1:World} {n1:Nat} {qc0:Cnt} (hn1:Nx n qc0 n1 qc)
  (hE:Env w0 (boxI o (opC X.c d.ok d.key d.val d.lv (cvP b1 b2) 0 (.pointer (some ⟨sb,0,none⟩)) 0 false)::boxI sb (srC X.c 0 d.key false (.pointer (some ⟨a,0,none⟩)))::boxI a (laneC X.c 0 d.key false lnx 1 K'.L.p.1 K'.L.p.2.1 K'.L.p.2.2 K'.L.W K'.L.C K'.L.X wd K'.L.fd pv)::LT (SPK C X V K' f G qc n1) R) w1) (u:Int) :
  Calls Tryz.prog 119 #[.pointer (some ⟨o,0,none⟩),.int .i64 u] w1 fun e2 w2=>∃ s2,e2=.returned (.int .i64 s2)/\OutP w0 R C X V d o n qc0 ((foundM C d K').1,(foundM C d K').2,f) s2 w2:=by
 obtain ⟨hd1,hd2⟩:=hd1
 obtain ⟨kk,ok,key,val,lv⟩:=d
 obtain ⟨T',pc',on',L',laid',on2',L2',err',dn',r'⟩:=K'
 dsimp only at hd1 hd2 hX hl
 subst hd1
 subst hd2
 by_cases h1:ok=1
 ·subst h1
  cases hfd:L'.fd
  ·replace hE:Env w0 (boxI o (opC X.c 1 key val lv (cvP b1 b2) 0 (.pointer (some ⟨sb,0,none⟩)) 0 false)::boxI sb (srC X.c 0 key false (.pointer (some ⟨a,0,none⟩)))::boxI a (laneC X.c 0 key false lnx 1 L'.p.1 L'.p.2.1 L'.p.2.2 L'.W L'.C L'.X wd false pv)::LT (SPK C X V ⟨T',pc',on',L',laid',on2',L2',0,false,r'⟩ f G qc n1) R) w1:=by dsimp only at hE; rw [hfd] at hE; exact hE
   by_cases hh:T'.hs=0
   ·by_cases hdp:decP T'.ql T'.e C.l=0
    ·have hM:foundM C ⟨kk,1,key,val,lv⟩ ⟨T',pc',on',L',laid',on2',L2',0,false,r'⟩=(1,⟨T',pc',on',L',laid',on2',L2',7,false,r'⟩):=by unfold foundM; rw [if_pos rfl]; dsimp only; rw [hfd,if_neg (by decide),if_pos hh,if_pos hdp]
     rw [hM]
     refine (seaInsLate_o (S:=SPK C X V ⟨T',pc',on',L',laid',on2',L2',0,false,r'⟩ f G qc n1) u hh hdp hE).mono ?_
     rintro e w2 ⟨rfl,hE2⟩
     exact ⟨1,rfl,OutP.fin (F:=X.F) (k:=X.kq) (show (1:Int)≠0 by decide) hn1 hE2⟩
    ·have hM:foundM C ⟨kk,1,key,val,lv⟩ ⟨T',pc',on',L',laid',on2',L2',0,false,r'⟩=(0,⟨{ T' with pc:=2,apc:=decP T'.ql T'.e C.l,ah:=0,an:=0,ar:=0 },2,on',L',laid',on2',L2',0,false,r'⟩):=by unfold foundM; rw [if_pos rfl]; dsimp only; rw [hfd,if_neg (by decide),if_pos hh,if_neg hdp]
     rw [hM]
     refine (seaInsAlloc_o (S:=SPK C X V ⟨T',pc',on',L',laid',on2',L2',0,false,r'⟩ f G qc n1) u hh hdp hE).mono ?_
     rintro e w2 ⟨rfl,c1,c2,l,hE2⟩
     have hlow:decP T'.ql T'.e C.l<=10:=by rcases decP_in T'.ql T'.e C.l with h9 | h9 | h9 | h9<;>omega
     exact ⟨0,rfl,OutP.go (F:=X.F) (k:=X.kq) (sub:=[_]) hn1 (.inr (.inl ⟨rfl,l,.slice none 0 0,0,[],rfl,rfl,LeftIs.low hlow,rfl⟩)) hE2⟩
   ·have hM:foundM C ⟨kk,1,key,val,lv⟩ ⟨T',pc',on',L',laid',on2',L2',0,false,r'⟩=(0,⟨T',3,on',L',false,on2',L2',0,false,r'⟩):=by unfold foundM; rw [if_pos rfl]; dsimp only; rw [hfd,if_neg (by decide),if_neg hh]
    rw [hM]
    refine (seaInsLink_o (S:=SPK C X V ⟨T',pc',on',L',laid',on2',L2',0,false,r'⟩ f G qc n1) u hh hE).mono ?_
    rintro e w2 ⟨rfl,c1,c2,l,hE2⟩
    exact ⟨0,rfl,OutP.go (F:=X.F) (k:=X.kq) (sub:=[_]) hn1 (.inr (.inr (.inl ⟨rfl,l,rfl,rfl,rfl⟩))) hE2⟩
  ·replace hE:Env w0 (boxI o (opC X.c 1 key val lv (cvP b1 b2) 0 (.pointer (some ⟨sb,0,none⟩)) 0 false)::boxI sb (srC X.c 0 key false (.pointer (some ⟨a,0,none⟩)))::boxI a (laneC X.c 0 key false lnx 1 L'.p.1 L'.p.2.1 L'.p.2.2 L'.W L'.C L'.X wd true pv)::LT (SPK C X V ⟨T',pc',on',L',laid',on2',L2',0,false,r'⟩ f G qc n1) R) w1:=by dsimp only at hE; rw [hfd] at hE; exact hE
   have hM:foundM C ⟨kk,1,key,val,lv⟩ ⟨T',pc',on',L',laid',on2',L2',0,false,r'⟩=(1,⟨{ T' with ql:=dropQ T'.hs T'.ql,hs:=0 },pc',on',L',laid',on2',L2',0,false,r'⟩):=by unfold foundM; rw [if_pos rfl]; dsimp only; rw [hfd,if_pos rfl]
   rw [hM]
   refine (seaInsFound_o (S:=SPK C X V ⟨T',pc',on',L',laid',on2',L2',0,false,r'⟩ f G qc n1) u (Nat.le_trans hl (by decide)) hE).mono ?_
   rintro e w2 ⟨rfl,F',k',hE2⟩
   exact ⟨1,rfl,OutP.fin (F:=F') (k:=k') (show (1:Int)≠0 by decide) hn1 hE2⟩
 ·by_cases h2:ok=2
  ·subst h2
   cases hfd:L'.fd
   ·replace hE:Env w0 (boxI o (opC X.c 2 key val lv (cvP b1 b2) 0 (.pointer (some ⟨sb,0,none⟩)) 0 false)::boxI sb (srC X.c 0 key false (.pointer (some ⟨a,0,none⟩)))::boxI a (laneC X.c 0 key false lnx 1 L'.p.1 L'.p.2.1 L'.p.2.2 L'.W L'.C L'.X wd false pv)::LT (SPK C X V ⟨T',pc',on',L',laid',on2',L2',0,false,r'⟩ f G qc n1) R) w1:=by dsimp only at hE; rw [hfd] at hE; exact hE
    have hM:foundM C ⟨kk,2,key,val,lv⟩ ⟨T',pc',on',L',laid',on2',L2',0,false,r'⟩=(1,⟨T',pc',on',L',laid',on2',L2',0,false,r'⟩):=by unfold foundM; rw [if_neg h1]; dsimp only; rw [hfd,if_neg (by simp)]
    rw [hM]
    refine (seaDelNo_o u hE).mono ?_
    rintro e w2 ⟨rfl,hE2⟩
    exact ⟨1,rfl,OutP.fin (F:=X.F) (k:=X.kq) (show (1:Int)≠0 by decide) hn1 hE2⟩
   ·replace hE:Env w0 (boxI o (opC X.c 2 key val lv (cvP b1 b2) 0 (.pointer (some ⟨sb,0,none⟩)) 0 false)::boxI sb (srC X.c 0 key false (.pointer (some ⟨a,0,none⟩)))::boxI a (laneC X.c 0 key false lnx 1 L'.p.1 L'.p.2.1 L'.p.2.2 L'.W L'.C L'.X wd true pv)::LT (SPK C X V ⟨T',pc',on',L',laid',on2',L2',0,false,r'⟩ f G qc n1) R) w1:=by dsimp only at hE; rw [hfd] at hE; exact hE
    have hM:foundM C ⟨kk,2,key,val,lv⟩ ⟨T',pc',on',L',laid',on2',L2',0,false,r'⟩=(0,⟨T',4,on',L',laid',on2',L2',0,false,r'⟩):=by unfold foundM; rw [if_neg h1]; dsimp only; rw [hfd,if_pos ⟨rfl,rfl⟩]
    rw [hM]
    refine (seaDelYes_o u hX hg hE).mono ?_
    rintro e w2 ⟨rfl,c1,c2,l,hE2⟩
    exact ⟨0,rfl,OutP.go (F:=X.F) (k:=X.kq) (sub:=[_]) hn1 (.inr (.inr (.inr (.inl ⟨.inl rfl,l,rfl,rfl,rfl⟩)))) hE2⟩
  ·have hM:foundM C ⟨kk,ok,key,val,lv⟩ ⟨T',pc',on',L',laid',on2',L2',0,false,r'⟩=(1,⟨T',pc',on',L',laid',on2',L2',0,L'.fd,r'⟩):=by unfold foundM; rw [if_neg h1,if_neg (fun h=>h2 h.1)]
   rw [hM]
   refine (seaHas_o u h1 h2 hE).mono ?_
   rintro e w2 ⟨rfl,hE2⟩
   exact ⟨1,rfl,OutP.fin (F:=X.F) (k:=X.kq) (show (1:Int)≠0 by decide) hn1 hE2⟩
theorem op1_p (hpc:K.pc=1) (hon:K.on=true->LaneOk C K.L) (hsp:(searchM 0 d.key false ⟨K.on,K.L,K.T.e,K.r⟩ f).1=1->InU (searchM 0 d.key false ⟨K.on,K.L,K.T.e,K.r⟩ f).2.1.L.X) (hda:K.err=0/\K.dn=false) (hl:K.T.ql.length+1<=1000000) (hg:Glo w0) (hn:n < maxLen) (hS:SIt X.c sb d.key K.on K.L 0 sub)
  (hE:Env w0 (boxI o (opC X.c d.ok d.key d.val d.lv (cvP b1 b2) 0 (.pointer (some ⟨sb,0,none⟩)) 0 false)::boxI b1 [mvL 118 sb]::boxI b2 [mvL 119 o]::(sub++LT (SPK C X V K f G qc n) R)) w) :
  Calls Tryz.prog 27 #[.pointer (some ⟨o,0,none⟩),.iface 26 (.pointer (some ⟨V.p,0,none⟩))] w fun e w'=>∃ s,e=.returned (.int .i64 s)/\OutP w0 R C X V d o n qc (opM C d K f) s w':=by
 have hM:opM C d K f=if (searchM 0 d.key false ⟨K.on,K.L,K.T.e,K.r⟩ f).1=1 then ((foundM C d { K with on:=(searchM 0 d.key false ⟨K.on,K.L,K.T.e,K.r⟩ f).2.1.on,L:=(searchM 0 d.key false ⟨K.on,K.L,K.T.e,K.r⟩ f).2.1.L,r:=(searchM 0 d.key false ⟨K.on,K.L,K.T.e,K.r⟩ f).2.1.r,T:={ K.T with e:=(searchM 0 d.key false ⟨K.on,K.L,K.T.e,K.r⟩ f).2.1.e } }).1,(foundM C d { K with on:=(searchM 0 d.key false ⟨K.on,K.L,K.T.e,K.r⟩ f).2.1.on,L:=(searchM 0 d.key false ⟨K.on,K.L,K.T.e,K.r⟩ f).2.1.L,r:=(searchM 0 d.key false ⟨K.on,K.L,K.T.e,K.r⟩ f).2.1.r,T:={ K.T with e:=(searchM 0 d.key false ⟨K.on,K.L,K.T.e,K.r⟩ f).2.1.e } }).2,(searchM 0 d.key false ⟨K.on,K.L,K.T.e,K.r⟩ f).2.2) else (0,{ K with on:=(searchM 0 d.key false ⟨K.on,K.L,K.T.e,K.r⟩ f).2.1.on,L:=(searchM 0 d.key false ⟨K.on,K.L,K.T.e,K.r⟩ f).2.1.L,r:=(searchM 0 d.key false ⟨K.on,K.L,K.T.e,K.r⟩ f).2.1.r,T:={ K.T with e:=(searchM 0 d.key false ⟨K.on,K.L,K.T.e,K.r⟩ f).2.1.e } },(searchM 0 d.key false ⟨K.on,K.L,K.T.e,K.r⟩ f).2.2):=by
  unfold opM
  rw [if_pos hpc]
 rw [hM]
 refine step_o 118 sb 119 _ (fun _ _=>by kernel_rfl) (fun _ _=>by kernel_rfl) _ hE ?_
 refine (search_I (C:=C) (X:=X) (V:=V) (T:=K.T) (r:=K.r) hon hg hn hS (hE.perm (rest_perm _ _ _ _ _ _))).mono ?_
 rintro e w1 ⟨rfl,G',qc',n',sub',hn',hS',hE'⟩
 have hst:=search_state 0 d.key false ⟨K.on,K.L,K.T.e,K.r⟩ f
 generalize searchM 0 d.key false ⟨K.on,K.L,K.T.e,K.r⟩ f=q at *
 obtain ⟨q1,⟨on',L',e',r'⟩,f'⟩:=q
 dsimp only at hst hS' hE' hsp ⊢
 have hE2:=hE'.perm (rest_perm _ _ _ _ _ _).symm
 refine ⟨q1,rfl,fun h0=>?_,fun h0=>?_⟩
 ·subst h0
  rw [if_neg (by decide)]
  exact OutP.go (F:=X.F) (k:=X.kq) hn' (.inl ⟨hpc,sb,rfl,rfl,rfl,hS'⟩) hE2
 ·rcases hst with h9 | ⟨h9,h8⟩
  ·exact absurd h9 h0
  ·subst h9
   subst h8
   rw [if_pos rfl]
   rcases hS' with ⟨h7,-⟩ | ⟨-,a,nx,wd,B1,B2,-,rfl⟩
   ·exact absurd h7 (by decide)
   ·refine ⟨hE2.rule 2 rfl 0,?_⟩
    have hE3:=hE2.sub (L':=boxI o (opC X.c d.ok d.key d.val d.lv (cvP b1 b2) 0 (.pointer (some ⟨sb,0,none⟩)) 0 false)::boxI sb (srC X.c 0 d.key false (.pointer (some ⟨a,0,none⟩)))::boxI a (laneV X.c 0 d.key false nx 1 wd (pfS 1 L') (pvS 1 L') L')::LT (SP C { X with cr:=r' } V { K.T with e:=e' } f' G' qc' n') R) (.cons_cons _ (.cons _ (.cons _ (.cons_cons _ (.cons_cons _ (.cons _ (.cons _ (List.Sublist.refl _))))))))
    exact found_p (C:=C) (X:=X) (V:=V) (d:=d) (f:=f') (G:=G') (qc:=qc') (n:=n) { K with on:=true,L:=L',r:=r',T:={ K.T with e:=e' } } (hsp rfl) hda hl hg a nx wd _ hn' hE3 1
end
end Go.Proofs.YthcblagpbkaoaaaGreatDoor
