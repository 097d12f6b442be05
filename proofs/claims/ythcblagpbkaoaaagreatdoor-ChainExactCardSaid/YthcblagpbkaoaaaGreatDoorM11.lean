/- What is proved on the way to the statement, part 11: contracts of the functions, among other things in memory. -/
import Derived.Test.YthcblagpbkaoaaaGreatDoorM10

namespace Go.Proofs.YthcblagpbkaoaaaGreatDoor
open Go.RowKit Go.Maps
set_option maxRecDepth 100000
set_option maxHeartbeats 25600000
section
variable {w0 w:World} {R L:List Item} {q b:Nat} {U:SU} {lv key:Int} {vs fd:Bool} {x y z pc W X K V Cc k ky to:Int} {sp rp:Option Addr}
theorem rcut1 (hml:U.ml.length<=1000000) (hE:Env w0 (boxI q (rnC (some ⟨b,0,none⟩) k ky to 1 sp rp)::boxI b (rlC lv key vs x y z pc W X K V Cc fd)::LU U R) w) :
  Calls Tryz.prog 107 #[.pointer (some ⟨q,0,none⟩),.pointer (some ⟨U.u,0,none⟩),.pointer (some ⟨U.m,0,none⟩)] w fun o w'=>o=.returned (.int .i64 0)/\∃ F5 sb rb,Env w0 (boxI q (rnC (some ⟨b,0,none⟩) k ky to (if getL U.ml (x,y,z)=W then 3 else 2) (some ⟨sb,0,none⟩) (some ⟨rb,0,none⟩))::boxI sb (rsC k ky false false none)::boxI rb (rrv Cc 0 0)::boxI b (rlC lv key vs x y z pc W X K V Cc fd)::LU { U with F:=F5,ml:=swL U.ml (x,y,z) W (wordI false to U.ce) } R) w':=by
 have hto:=fun (v:World) (hv:Blk 0 v U.u (ruv U))=>rto_c to hv
 obtain ⟨y9,hy⟩:∃ y,wordI false to U.ce=y:=⟨_,rfl⟩
 rw [hy]
 simp only [hy] at hto
 have HTO:=Lib.hid hto
 clear hy hto
 obtain ⟨dd,hdd⟩:∃ dd,decide (getL U.ml (x,y,z)=W)=dd:=⟨_,rfl⟩
 have hdh:(if getL U.ml (x,y,z)=W then (3:Int) else 2)=if dd then 3 else 2:=by rw [<- hdd]; by_cases h:getL U.ml (x,y,z)=W<;>simp [h]
 simp only [hdh]
 clear hdh
 have HDD:=Lib.hid hdd
 clear hdd
 have r:=hE.rule 0 rfl
 unfold rnC at r
 have rb:=hE.rule 1 rfl
 unfold rlC at rb
 have hE1:=hE.box w.heap.size rfl (rrv Cc 0 0) 254
 have f6:=hE1.thaw 1 rfl 6 (by simp [rnC])
 unfold rrv at f6
 have r1:=hE1.rule 1 rfl
 unfold rnC rrv at r1
 have hP:=hE1.put 1 rfl (j:=6) (by simp [rnC]) (.pointer (some ⟨w.heap.size,0,none⟩))
 replace hP:Env w0 (boxI w.heap.size (rrv Cc 0 0)::boxI q (rnC (some ⟨b,0,none⟩) k ky to 1 sp (some ⟨w.heap.size,0,none⟩))::boxI b (rlC lv key vs x y z pc W X K V Cc fd)::LU U R) _:=hP
 unfold rrv at hP
 clear hE hE1
 go_enter Tryz.func107,Tryz.ntmps107
 go_wp2_with fail
 clear r rb f6 r1
 generalize World.setCell _ _ _=w2 at *
 replace hP:Env w0 (boxI w.heap.size (rrv Cc 0 0)::boxI q (rnC (some ⟨b,0,none⟩) k ky to 1 sp (some ⟨w.heap.size,0,none⟩))::boxI b (rlC lv key vs x y z pc W X K V Cc fd)::LU U R) w2:=hP
 generalize w.heap.size=Y at *
 obtain ⟨L2,hL2⟩:∃ L2,boxI b (rlC lv key vs x y z pc W X K V Cc fd)::LU U R=L2:=⟨_,rfl⟩
 rw [hL2] at hP
 have HL2:=Lib.hid hL2
 clear hL2
 refine Ord3.wp_chain [?_,?_,?_,?_,?_,?_,?_,?_,?_,?_,?_,?_,?_,?_] [10,13] (fun w'=>∃ s9,Blk 0 w' q (rnC (some ⟨b,0,none⟩) k ky to 1 s9 (some ⟨Y,0,none⟩))) (Ord3.Stage fun κs=>[Env w0 (boxI Y (rrv Cc 0 0)::boxI q (rnC (some ⟨b,0,none⟩) k ky to 1 sp (some ⟨Y,0,none⟩))::L2),fun w'=>∃ s,κs.getD 0 undef=.pointer (some ⟨s,0,none⟩)/\Env w0 (boxI s (rsC k ky false false none)::boxI Y (rrv Cc 0 0)::boxI q (rnC (some ⟨b,0,none⟩) k ky to 1 sp (some ⟨Y,0,none⟩))::L2) w',fun w'=>∃ s,Env w0 (boxI s (rsC k ky false false none)::boxI Y (rrv Cc 0 0)::boxI q (rnC (some ⟨b,0,none⟩) k ky to 1 (some ⟨s,0,none⟩) (some ⟨Y,0,none⟩))::L2) w']) (by kernel_rfl) (by kernel_rfl) (by kernel_rfl) ⟨sp,hP.drew.get 1 rfl⟩ ⟨_,rfl,hP.drew⟩ (fun hT=>?_)
 rotate_left 14
 have hT9:=Lib.hid hT
 clear hT
 repeat (first
  | (focus (refine Ord3.in_value (v:=?_) hT9.out (by decide) ?_ (by rfl) ?_ ?_; rotate_left 2; (focus (intro w5 hS; obtain ⟨s9,hS9⟩:=hS; have r1:=Blk.rule hS9; unfold rnC at r1; go_simp<;>with_reducible rfl)); rotate_right; (focus rfl); (try simp only [Act.put,zA,zZ,zS])))
  | (focus (refine Ord3.in_off hT9.out (by decide) ?_ (by rfl) ?_; (focus rfl); (try simp only [Act.put,zA,zZ,zS]))))
 refine Ord3.in_turn (fun u=>∃ q,u=.pointer (some ⟨q,0,none⟩)) _ ⟨0,rfl⟩ hT9.out rfl (by decide) (by rfl) ?_ (Or.inl rfl) (by rfl) ?_ ?_
 ·rfl
 ·rintro w7 hC7 ⟨P7,hP7,hA7⟩
  cases hP7
  go_simp
  simp only [Ord3.Lands]
  have hE8:=hA7.box w7.heap.size rfl (rsC k ky false false none) 236
  exact ⟨⟨_,rfl⟩,⟨sp,hE8.get 2 rfl⟩,_,rfl,w7.heap.size,rfl,hE8⟩
 rintro _ ⟨s9,rfl⟩
 (try simp only [Act.put,zA,zZ,zS])
 repeat (first
  | (focus (refine Ord3.in_value (v:=?_) hT9.out (by decide) ?_ (by rfl) ?_ ?_; rotate_left 2; (focus (intro w5 hS; obtain ⟨s9,hS9⟩:=hS; have r1:=Blk.rule hS9; unfold rnC at r1; go_simp<;>with_reducible rfl)); rotate_right; (focus rfl); (try simp only [Act.put,zA,zZ,zS])))
  | (focus (refine Ord3.in_off hT9.out (by decide) ?_ (by rfl) ?_; (focus rfl); (try simp only [Act.put,zA,zZ,zS]))))
 refine Ord3.in_turn (fun u=>u=undef) _ rfl hT9.out rfl (by decide) (by rfl) ?_ (Or.inr ⟨_,10,[],rfl,by kernel_rfl,by kernel_rfl,rfl⟩) (by rfl) ?_ ?_
 ·rfl
 ·rintro w7 hC7 ⟨P7,hP7,hA7⟩
  cases hP7
  obtain ⟨s8,he,hA7⟩:=hA7
  cases he
  have r:=hA7.rule 2 rfl
  unfold rnC at r
  have g:=hA7.thaw 2 rfl 5 (by simp [rnC])
  go_simp
  simp only [Ord3.Lands]
  have h9:=hA7.put 2 rfl (j:=5) (by simp [rnC]) (.pointer (some ⟨s9,0,none⟩))
  exact ⟨trivial,⟨_,h9.get 2 rfl⟩,_,rfl,s9,h9⟩
 rintro _ rfl
 (try simp only [Act.put,zA,zZ,zS])
 refine Ord3.in_nil rfl ?_
 rintro w9 hC9 ⟨P9,hP9,hA9⟩
 cases hP9
 obtain ⟨sb,hA9⟩:=hA9
 clear hT9 hC9 hP
 have h2:=HL2.out
 subst h2
 clear HL2
 have f4:=hA9.thaw 2 rfl 4 (by simp [rnC])
 have hQ:=hA9.put 2 rfl (j:=4) (by simp [rnC]) (.int .i64 2)
 replace hQ:Env w0 (boxI sb (rsC k ky false false none)::boxI Y (rrv Cc 0 0)::boxI q (rnC (some ⟨b,0,none⟩) k ky to 2 (some ⟨sb,0,none⟩) (some ⟨Y,0,none⟩))::boxI b (rlC lv key vs x y z pc W X K V Cc fd)::LU U R) _:=hQ
 have r2:=hA9.rule 2 rfl
 unfold rnC at r2
 clear hA9
 go_wp2_with fail
 clear r2 f4
 refine Ord.wp_chain [15] (fun v=>Blk 0 v U.u (ruv U)/\Blk 0 v q (rnC (some ⟨b,0,none⟩) k ky to 2 (some ⟨sb,0,none⟩) (some ⟨Y,0,none⟩))/\Blk 0 v b (rlC lv key vs x y z pc W X K V Cc fd)) (fun k9 w'=>∃ F5,Env w0 (boxI sb (rsC k ky false false none)::boxI Y (rrv Cc 0 0)::boxI q (rnC (some ⟨b,0,none⟩) k ky to 2 (some ⟨sb,0,none⟩) (some ⟨Y,0,none⟩))::boxI b (rlC lv key vs x y z pc W X K V Cc fd)::LU (if k9=0 then U else { U with F:=F5,ml:=swL U.ml (x,y,z) W y9 }) R) w') (by kernel_rfl) (by kernel_rfl) (by kernel_rfl) ⟨hQ.drew.get 4 rfl,hQ.drew.get 2 rfl,hQ.drew.get 3 rfl⟩ ⟨U.F,hQ.drew⟩ (fun hT=>?_)
 have hT9:=Lib.hid hT
 clear hT
 repeat (first
  | (refine Ord.ch_value (v:=?_) hT9.out (by decide) (by rfl) ?_ ?_; rotate_left; (focus (intro w5 hS; have ru:=hS.1.rule; have rb:=hS.2.1.rule; have rc:=hS.2.2.rule; unfold ruv urv at ru; unfold rnC at rb; unfold rlC at rc; go_simp<;>with_reducible rfl)); (try simp only [Act.put,zA,zZ,zS]))
  | (refine Ord.ch_off hT9.out (by decide) (by rfl) ?_; (try simp only [Act.put,zA,zZ,zS]))
  | (refine Ord.ch_call (v:=?_) (f:=?_) (args:=?_) hT9.out (by decide) (by rfl) ?_ ?_ ?_; rotate_left 3; (focus (intro w5 hS; have ru:=hS.1.rule; have rb:=hS.2.1.rule; have rc:=hS.2.2.rule; unfold ruv urv at ru; unfold rnC at rb; unfold rlC at rc; go_simp; constructor<;>with_reducible rfl)); (focus (intro w5 hS; (first | (with_reducible refine (HTO.out _ hS.1).mono ?_; rintro e w6 ⟨rfl,hb6⟩; constructor; with_reducible rfl; exact ⟨⟨hS.1.under hb6,hS.2.1.under hb6,hS.2.2.under hb6⟩,fun k h=>h.elim fun F5 h=>⟨F5,h.over hb6⟩⟩)))); (try simp only [Act.put,zA,zZ,zS])))
 refine Ord.ch_turn (v:=.bool dd) 0 hT9.out rfl (by decide) (Or.inl rfl) (by rfl) ?_ ?_
 ·rintro w5 hC5 ⟨F5,hA5⟩
  simp only [if_true] at hA5
  go_simp
  simp only [Ord.LandsIn]
  have hsw:=refSwap_any x y z W y9 hml (hA5.ref 6 rfl)
  rw [HDD.out] at hsw
  refine hsw.mono ?_
  rintro e w6 ⟨rfl,F6,hU,hs9⟩
  have hE6:=hA5.turnU 6 rfl hU hs9
  exact ⟨rfl,⟨hE6.get 4 rfl,hE6.get 2 rfl,hE6.get 3 rfl⟩,F6,hE6⟩
 (try simp only [Act.put,zA,zZ,zS])
 repeat (first
  | (refine Ord.ch_value (v:=?_) hT9.out (by decide) (by rfl) ?_ ?_; rotate_left; (focus (intro w5 hS; skip; go_simp<;>with_reducible rfl)); (try simp only [Act.put,zA,zZ,zS]))
  | (refine Ord.ch_off hT9.out (by decide) (by rfl) ?_; (try simp only [Act.put,zA,zZ,zS])))
 refine Ord.InText.nil fun w5 hS=>?_
 clear hT9
 obtain ⟨hC9,hA9⟩:=Ord.chain_end hS
 clear hS
 obtain ⟨F9,hA9⟩:=hA9
 simp only [List.length_cons,List.length_nil,Nat.zero_add,Nat.one_ne_zero,if_false] at hA9
 clear hC9 hQ HTO HDD
 have hB:=hA9.perm (L':=boxI q (rnC (some ⟨b,0,none⟩) k ky to 2 (some ⟨sb,0,none⟩) (some ⟨Y,0,none⟩))::boxI sb (rsC k ky false false none)::boxI Y (rrv Cc 0 0)::boxI b (rlC lv key vs x y z pc W X K V Cc fd)::LU { U with F:=F9,ml:=swL U.ml (x,y,z) W y9 } R) (List.perm_middle (l₁:=[_,_]))
 clear hA9
 cases dd
 ·go_wp2_with fail
  go_ret
  exact ⟨rfl,F9,sb,Y,hB⟩
 ·have r:=hB.rule 0 rfl
  unfold rnC at r
  have f1:=hB.thaw 0 rfl 4 (by simp [rnC])
  have hP:=hB.put 0 rfl (j:=4) (by simp [rnC]) (.int .i64 3)
  go_wp2_with fail
  go_ret
  exact ⟨rfl,F9,sb,Y,hP⟩
theorem rseek2 {u m:Nat} (s:Int) (hs:s=0\/s=1) (sb:Nat) (Y:World->Prop) (hE:Env w0 (boxI q (rnC (some ⟨b,0,none⟩) k ky to 2 (some ⟨sb,0,none⟩) rp)::L) w)
  (hc:Calls Tryz.prog 102 #[.pointer (some ⟨sb,0,none⟩),.pointer (some ⟨u,0,none⟩),.pointer (some ⟨m,0,none⟩)] w fun o w'=>o=.returned (.int .i64 s)/\∃ L',Env w0 (boxI q (rnC (some ⟨b,0,none⟩) k ky to 2 (some ⟨sb,0,none⟩) rp)::L') w'/\∀ v,Env w0 (boxI q (rnC (some ⟨b,0,none⟩) k ky to (if s=1 then 3 else 2) (some ⟨sb,0,none⟩) rp)::L') v->Y v) :
  Calls Tryz.prog 107 #[.pointer (some ⟨q,0,none⟩),.pointer (some ⟨u,0,none⟩),.pointer (some ⟨m,0,none⟩)] w fun o w'=>o=.returned (.int .i64 0)/\Y w':=by
 have r:=hE.rule 0 rfl
 unfold rnC at r
 have HC:=Lib.hid hc
 clear hc hE
 go_enter Tryz.func107,Tryz.ntmps107
 go_wp2_with fail
 refine HC.out.mono ?_
 rintro o w1 ⟨rfl,L',hE1,hY⟩
 have HY:=Lib.hid hY
 clear hY HC r
 rcases hs with rfl | rfl
 ·go_wp2_with fail
  go_ret
  exact ⟨rfl,HY.out _ hE1⟩
 ·have r:=hE1.rule 0 rfl
  unfold rnC at r
  have f1:=hE1.thaw 0 rfl 4 (by simp [rnC])
  have hP:=hE1.put 0 rfl (j:=4) (by simp [rnC]) (.int .i64 3)
  go_wp2_with fail
  go_ret
  exact ⟨rfl,HY.out _ hP⟩
theorem rret3 {u m:Nat} (rb:Nat) (Q:Ending->World->Prop) (hE:Env w0 (boxI q (rnC (some ⟨b,0,none⟩) k ky to 3 sp (some ⟨rb,0,none⟩))::L) w)
  (hc:Calls Tryz.prog 157 #[.pointer (some ⟨rb,0,none⟩),.pointer (some ⟨u,0,none⟩),.pointer (some ⟨m,0,none⟩)] w fun o w'=>∃ s,o=.returned (.int .i64 s)/\Q (.returned (.int .i64 s)) w') :
  Calls Tryz.prog 107 #[.pointer (some ⟨q,0,none⟩),.pointer (some ⟨u,0,none⟩),.pointer (some ⟨m,0,none⟩)] w Q:=by
 have r:=hE.rule 0 rfl
 unfold rnC at r
 have HC:=Lib.hid hc
 clear hc hE
 go_enter Tryz.func107,Tryz.ntmps107
 go_wp2_with fail
 refine HC.out.mono ?_
 rintro o w1 ⟨s,rfl,hq⟩
 go_wp2_with fail
 exact hq
end
structure Kt where
 T:Th
 pc:Nat
 on:Bool
 L:Lm
 laid:Bool
 on2:Bool
 L2:Lm
 err:Int
 dn:Bool
 r:Int
def dropQ (hs:Int) (ql:List Trip):List Trip:=if hs=0 then ql else ql++[(hs,0,0)]
def findM (K:Kt):Kt:={ K with pc:=1,on:=false,L:=L0 (4,0,0) }
def foundM (C:Cf) (d:Dd) (K:Kt):Int × Kt :=
 if d.ok=1 then
  if K.L.fd then (1,{ K with T:={ K.T with ql:=dropQ K.T.hs K.T.ql,hs:=0 } })
  else if K.T.hs=0 then
   if decP K.T.ql K.T.e C.l=0 then (1,{ K with err:=7 })
   else (0,{ K with pc:=2,T:={ K.T with pc:=2,apc:=decP K.T.ql K.T.e C.l,ah:=0,an:=0,ar:=0 } })
  else (0,{ K with pc:=3,laid:=false })
 else if d.ok=2/\K.L.fd=true then (0,{ K with pc:=4 })
 else (1,{ K with dn:=K.L.fd })
def markM (X e:Int):Int:=wordI true (slotI X) e
def opM (C:Cf) (d:Dd) (K:Kt) (f:Mem):Int × Kt × Mem :=
 if K.pc=1 then
  let q:=searchM 0 d.key false ⟨K.on,K.L,K.T.e,K.r⟩ f
  let K':={ K with on:=q.2.1.on,L:=q.2.1.L,r:=q.2.1.r,T:={ K.T with e:=q.2.1.e } }
  if q.1=1 then ((foundM C d K').1,(foundM C d K').2,q.2.2) else (0,K',q.2.2)
 else if K.pc=2 then
  let q:=allocM C d K.T f
  if q.1=0 then (0,{ K with T:=q.2.1 },q.2.2)
  else if q.1=3 then (1,{ K with T:={ q.2.1 with pc:=0 },err:=6 },q.2.2)
  else if q.1=4 then (1,{ K with T:={ q.2.1 with pc:=0 },err:=7 },q.2.2)
  else (0,findM { K with T:={ q.2.1 with pc:=0 } },q.2.2)
 else if K.pc=3 then
  if K.laid then
   if f K.L.p=K.L.W then (1,{ K with T:={ K.T with hs:=0 },dn:=true },swf f K.L.p K.L.W (wordI false K.T.hs K.T.e))
   else (0,findM K,swf f K.L.p K.L.W (wordI false K.T.hs K.T.e))
  else (0,{ K with laid:=true },upd f (5,K.T.hs,7) (wordI false (slotI K.L.W) K.T.e))
 else if K.pc=4 then
  if f (5,K.L.C,7)=K.L.X then (0,{ K with pc:=5 },swf f (5,K.L.C,7) K.L.X (markM K.L.X K.T.e))
  else (0,findM K,swf f (5,K.L.C,7) K.L.X (markM K.L.X K.T.e))
 else if K.pc=5 then
  if f K.L.p=K.L.W then (0,{ K with pc:=7,T:={ K.T with pc:=3,rs:=K.L.C,rpc:=0,re:=0 } },swf f K.L.p K.L.W (wordI false (slotI K.L.X) K.T.e))
  else (0,{ K with pc:=6,on2:=false,L2:=L0 (4,0,0) },swf f K.L.p K.L.W (wordI false (slotI K.L.X) K.T.e))
 else if K.pc=6 then
  let q:=searchM 0 d.key false ⟨K.on2,K.L2,K.T.e,K.r⟩ f
  let K':={ K with on2:=q.2.1.on,L2:=q.2.1.L,r:=q.2.1.r,T:={ K.T with e:=q.2.1.e } }
  if q.1=1 then (0,{ K' with pc:=7,T:={ K'.T with pc:=3,rs:=K.L.C,rpc:=0,re:=0 } },q.2.2) else (0,K',q.2.2)
 else
  let q:=retireM K.T f
  if q.1=0 then (0,{ K with T:=q.2.1 },q.2.2) else (1,{ K with T:={ q.2.1 with pc:=0 },dn:=true },q.2.2)
def actK (C:Cf) (d:Dd) (K:Kt) (f:Mem):Int × Kt × Mem :=
 if K.pc=8 then
  let q:=giveM C K.T f
  if q.1=0 then (0,{ K with T:=q.2.1 },q.2.2) else (q.1,{ K with T:={ q.2.1 with pc:=0 },pc:=0 },q.2.2)
 else
  let q:=opM C d K f
  (q.1,{ q.2.1 with pc:=if q.1=0 then q.2.1.pc else 0 },q.2.2)
def beginK (d:Dd) (K:Kt):Kt :=
 if d.ok=8 then { K with pc:=8,T:={ K.T with pc:=4,nd:=K.T.nd+1,gpc:=0,gh:=0,gg:=0 } }
 else { findM K with T:={ K.T with nd:=K.T.nd+1 },err:=0,dn:=false }
def stepK (C:Cf) (ds:List Dd) (K:Kt) (f:Mem):Int × Kt × Mem :=
 if K.pc=0 then
  if K.T.nd < ds.length then actK C (ds.getD K.T.nd ⟨0,0,0,0,0⟩) (beginK (ds.getD K.T.nd ⟨0,0,0,0,0⟩) K) f
  else (0,K,f)
 else actK C (ds.getD (K.T.nd - 1) ⟨0,0,0,0,0⟩) K f
def roC (kd key val lv pc:Int) (ps pa pl pu:Option Addr) (er:Int) (dn:Bool):List Value:=[.int .i64 kd,.int .u64 key,.int .u64 val,.int .i64 lv,.int .i64 pc,.pointer ps,.pointer pa,.pointer pl,.pointer pu,.int .i64 er,.bool dn]
section
variable {w0 w:World} {R L:List Item} {q b sb:Nat} {U:SU} {kd key val lv pc er:Int} {ps pa pl pu:Option Addr} {dn:Bool} {x y z lpc W X K V Cc:Int} {fd:Bool}
theorem ragain (hE:Env w0 (boxI q (roC kd key val lv pc ps pa pl pu er dn)::L) w) :
  Calls Tryz.prog 101 #[.pointer (some ⟨q,0,none⟩),.int .i64 0,.bool false] w fun o w'=>o=.returned (.int .i64 0)/\∃ sb,Env w0 (boxI q (roC kd key val lv 1 (some ⟨sb,0,none⟩) pa pl pu er dn)::boxI sb (rsC 0 key false false none)::L) w':=by
 have r:=hE.rule 0 rfl
 unfold roC at r
 have hE1:=hE.box w.heap.size rfl (rsC 0 key false false none) 236
 have f5:=hE1.thaw 1 rfl 5 (by simp [roC])
 unfold rsC at f5
 have r1:=hE1.rule 1 rfl
 unfold roC rsC at r1
 have hP:=(hE1.put 1 rfl (j:=5) (by simp [roC]) (.pointer (some ⟨w.heap.size,0,none⟩)))
 replace hP:Env w0 (boxI w.heap.size (rsC 0 key false false none)::boxI q (roC kd key val lv pc (some ⟨w.heap.size,0,none⟩) pa pl pu er dn)::L) _:=hP
 have f4:=hP.thaw 1 rfl 4 (by simp [roC])
 have r2:=hP.rule 1 rfl
 unfold rsC at f4
 unfold roC rsC at r2
 have hQ:=hP.put 1 rfl (j:=4) (by simp [roC]) (.int .i64 1)
 unfold rsC at hQ
 clear hE hE1 hP
 go_enter Tryz.func101,Tryz.ntmps101
 go_wp2_with fail
 go_ret
 exact ⟨rfl,w.heap.size,hQ.perm (List.Perm.swap _ _ _)⟩
theorem rcameFind (s:Int) (hs:s=1\/s=2) (hE:Env w0 (boxI q (roC kd key val lv pc ps pa pl pu er dn)::L) w) :
  Calls Tryz.prog 104 #[.pointer (some ⟨q,0,none⟩),.int .i64 s,.int .i64 0,.bool false] w fun o w'=>o=.returned (.int .i64 0)/\∃ sb,Env w0 (boxI q (roC kd key val lv 1 (some ⟨sb,0,none⟩) pa pl pu er dn)::boxI sb (rsC 0 key false false none)::L) w':=by
 have HF:=Lib.hid (ragain hE)
 clear hE
 rcases hs with rfl | rfl
 all_goals
  go_enter Tryz.func104,Tryz.ntmps104
  go_wp2_with fail
  refine HF.out.mono ?_
  rintro e w1 ⟨rfl,sb,hE2⟩
  go_wp2_with fail
  go_ret
  exact ⟨rfl,sb,hE2⟩
theorem rcameOver (s:Int) (hs:s=3\/s=4) (hE:Env w0 (boxI q (roC kd key val lv pc ps pa pl pu er dn)::L) w) :
  Calls Tryz.prog 104 #[.pointer (some ⟨q,0,none⟩),.int .i64 s,.int .i64 0,.bool false] w fun o w'=>o=.returned (.int .i64 1)/\Env w0 (boxI q (roC kd key val lv pc ps pa pl pu (s+3) dn)::L) w':=by
 have r:=hE.rule 0 rfl
 unfold roC at r
 have f:=hE.thaw 0 rfl 9 (by simp [roC])
 have h6:=hE.put 0 rfl (j:=9) (by simp [roC]) (.int .i64 6)
 have h7:=hE.put 0 rfl (j:=9) (by simp [roC]) (.int .i64 7)
 clear hE
 rcases hs with rfl | rfl
 ·go_enter Tryz.func104,Tryz.ntmps104
  go_wp2_with fail
  go_ret
  exact ⟨rfl,h6⟩
 ·go_enter Tryz.func104,Tryz.ntmps104
  go_wp2_with fail
  go_ret
  exact ⟨rfl,h7⟩
theorem rcameGo (hE:Env w0 (boxI q (roC kd key val lv pc ps pa pl pu er dn)::L) w) :
  Calls Tryz.prog 104 #[.pointer (some ⟨q,0,none⟩),.int .i64 0,.int .i64 0,.bool false] w fun o w'=>o=.returned (.int .i64 0)/\Env w0 (boxI q (roC kd key val lv pc ps pa pl pu er dn)::L) w':=by
 go_enter Tryz.func104,Tryz.ntmps104
 go_wp2_with fail
 go_ret
 exact ⟨rfl,hE⟩
theorem rinsLink (hh:0 < U.hs) (hE:Env w0 (boxI q (roC kd key val lv pc (some ⟨sb,0,none⟩) pa pl pu er dn)::boxI sb (rsC 0 key false true (some ⟨b,0,none⟩))::boxI b (rlC 0 key false x y z lpc W X K V Cc fd)::LU U R) w) :
  Calls Tryz.prog 151 #[.pointer (some ⟨q,0,none⟩),.pointer (some ⟨U.u,0,none⟩),.int .i64 0,.bool false] w fun o w'=>o=.returned (.int .i64 0)/\∃ l,Env w0 (boxI q (roC kd key val lv 3 (some ⟨sb,0,none⟩) pa (some ⟨l,0,none⟩) pu er dn)::boxI l (rkC (some ⟨b,0,none⟩) false)::boxI sb (rsC 0 key false true (some ⟨b,0,none⟩))::boxI b (rlC 0 key false x y z lpc W X K V Cc fd)::LU U R) w':=by
 have hb:decide (U.hs > 0)=true:=by simpa using hh
 have hb2:decide (0 < U.hs)=true:=by simpa using hh
 have r:=hE.rule 0 rfl
 have rs:=hE.rule 1 rfl
 have ru:=hE.rule 3 rfl
 unfold roC at r
 unfold rsC at rs
 unfold urv at ru
 have hE1:=hE.box w.heap.size rfl (rkC (some ⟨b,0,none⟩) false) 252
 have f7:=hE1.thaw 1 rfl 7 (by simp [roC])
 unfold rkC at f7
 have r1:=hE1.rule 1 rfl
 unfold roC rkC at r1
 have hP:=(hE1.put 1 rfl (j:=7) (by simp [roC]) (.pointer (some ⟨w.heap.size,0,none⟩)))
 replace hP:Env w0 (boxI w.heap.size (rkC (some ⟨b,0,none⟩) false)::boxI q (roC kd key val lv pc (some ⟨sb,0,none⟩) pa (some ⟨w.heap.size,0,none⟩) pu er dn)::boxI sb (rsC 0 key false true (some ⟨b,0,none⟩))::boxI b (rlC 0 key false x y z lpc W X K V Cc fd)::LU U R) _:=hP
 have f4:=hP.thaw 1 rfl 4 (by simp [roC])
 have r2:=hP.rule 1 rfl
 unfold rkC at f4
 unfold roC rkC at r2
 have hQ:=hP.put 1 rfl (j:=4) (by simp [roC]) (.int .i64 3)
 unfold rkC at hQ
 clear hE hE1 hP hh
 go_enter Tryz.func151,Tryz.ntmps151
 go_wp2_with fail
 go_ret
 exact ⟨rfl,w.heap.size,hQ.perm (List.Perm.swap _ _ _)⟩
theorem rinsLate (hh:U.hs<=0) (hd:decP U.ql U.ce U.cl=0) (hE:Env w0 (boxI q (roC kd key val lv pc ps pa pl pu 0 false)::LU U R) w) :
  Calls Tryz.prog 151 #[.pointer (some ⟨q,0,none⟩),.pointer (some ⟨U.u,0,none⟩),.int .i64 0,.bool false] w fun o w'=>o=.returned (.int .i64 1)/\∃ a,Env w0 (boxI q (roC kd key val lv 2 ps (some ⟨a,0,none⟩) pl pu 7 false)::LU U R) w':=by
 have hb:decide (U.hs > 0)=false:=by simp; omega
 have hb2:decide (0 < U.hs)=false:=by simp; omega
 have r:=hE.rule 0 rfl
 have ru:=hE.rule 1 rfl
 unfold roC at r
 unfold urv at ru
 have hE1:=hE.box w.heap.size rfl (rav 0 0 0 0) 249
 have f6:=hE1.thaw 1 rfl 6 (by simp [roC])
 unfold rav at f6
 have r1:=hE1.rule 1 rfl
 unfold roC rav at r1
 have hP:=(hE1.put 1 rfl (j:=6) (by simp [roC]) (.pointer (some ⟨w.heap.size,0,none⟩)))
 replace hP:Env w0 (boxI w.heap.size (rav 0 0 0 0)::boxI q (roC kd key val lv pc ps (some ⟨w.heap.size,0,none⟩) pl pu 0 false)::LU U R) _:=hP
 have f4:=hP.thaw 1 rfl 4 (by simp [roC])
 have r2:=hP.rule 1 rfl
 unfold rav at f4
 unfold roC rav at r2
 have hQ:=hP.put 1 rfl (j:=4) (by simp [roC]) (.int .i64 2)
 replace hQ:Env w0 (boxI w.heap.size (rav 0 0 0 0)::boxI q (roC kd key val lv 2 ps (some ⟨w.heap.size,0,none⟩) pl pu 0 false)::LU U R) _:=hQ
 have hQ2:=hQ.perm (L':=boxI w.heap.size (rav 0 0 0 0)::LU U (boxI q (roC kd key val lv 2 ps (some ⟨w.heap.size,0,none⟩) pl pu 0 false)::R)) ((List.perm_middle (l₁:=[_,_,_])).symm.cons _)
 have hQ3:=hQ.rule 1 rfl
 have HD:=Lib.hid (rdecide_a hQ2)
 unfold roC rav at hQ3
 unfold rav at HD
 clear hE hE1 hP hh hQ hQ2
 have HDS:Hid (decS U.ql U.ce U.cl=4):=Lib.hid (by unfold decS; rw [if_pos hd])
 clear hd
 go_enter Tryz.func151,Tryz.ntmps151
 go_wp2_with fail
 refine HD.out.mono ?_
 rintro o w1 ⟨rfl,pc',hpc',hE2⟩
 rw [HDS.out]
 have hE3:=hE2.perm (L':=boxI q (roC kd key val lv 2 ps (some ⟨w.heap.size,0,none⟩) pl pu 0 false)::boxI w.heap.size (rav pc' 0 0 0)::LU U R) ((List.perm_middle (l₁:=[_,_,_,_])))
 clear hE2 r ru f6 r1 f4 r2 hQ3 HD hpc'
 go_wp2_with fail
 refine (rcameOver 4 (.inr rfl) hE3).mono ?_
 rintro o w2 ⟨rfl,hE4⟩
 go_wp2_with fail
 go_ret
 exact ⟨rfl,w.heap.size,hE4.sub (.cons_cons _ (.cons _ (List.Sublist.refl _)))⟩
theorem rinsAlloc (hh:U.hs<=0) (hd:decP U.ql U.ce U.cl≠0) (hE:Env w0 (boxI q (roC kd key val lv pc ps pa pl pu 0 false)::LU U R) w) :
  Calls Tryz.prog 151 #[.pointer (some ⟨q,0,none⟩),.pointer (some ⟨U.u,0,none⟩),.int .i64 0,.bool false] w fun o w'=>o=.returned (.int .i64 0)/\∃ a,Env w0 (boxI q (roC kd key val lv 2 ps (some ⟨a,0,none⟩) pl pu 0 false)::boxI a (rav ((decP U.ql U.ce U.cl:Nat):Int) 0 0 0)::LU U R) w':=by
 have hb:decide (U.hs > 0)=false:=by simp; omega
 have hb2:decide (0 < U.hs)=false:=by simp; omega
 have r:=hE.rule 0 rfl
 have ru:=hE.rule 1 rfl
 unfold roC at r
 unfold urv at ru
 have hE1:=hE.box w.heap.size rfl (rav 0 0 0 0) 249
 have f6:=hE1.thaw 1 rfl 6 (by simp [roC])
 unfold rav at f6
 have r1:=hE1.rule 1 rfl
 unfold roC rav at r1
 have hP:=(hE1.put 1 rfl (j:=6) (by simp [roC]) (.pointer (some ⟨w.heap.size,0,none⟩)))
 replace hP:Env w0 (boxI w.heap.size (rav 0 0 0 0)::boxI q (roC kd key val lv pc ps (some ⟨w.heap.size,0,none⟩) pl pu 0 false)::LU U R) _:=hP
 have f4:=hP.thaw 1 rfl 4 (by simp [roC])
 have r2:=hP.rule 1 rfl
 unfold rav at f4
 unfold roC rav at r2
 have hQ:=hP.put 1 rfl (j:=4) (by simp [roC]) (.int .i64 2)
 replace hQ:Env w0 (boxI w.heap.size (rav 0 0 0 0)::boxI q (roC kd key val lv 2 ps (some ⟨w.heap.size,0,none⟩) pl pu 0 false)::LU U R) _:=hQ
 have hQ2:=hQ.perm (L':=boxI w.heap.size (rav 0 0 0 0)::LU U (boxI q (roC kd key val lv 2 ps (some ⟨w.heap.size,0,none⟩) pl pu 0 false)::R)) ((List.perm_middle (l₁:=[_,_,_])).symm.cons _)
 have hQ3:=hQ.rule 1 rfl
 have HD:=Lib.hid (rdecide_a hQ2)
 unfold roC rav at hQ3
 unfold rav at HD
 clear hE hE1 hP hh hQ hQ2
 have HDS:Hid (decS U.ql U.ce U.cl=0):=Lib.hid (by unfold decS; rw [if_neg hd])
 have HDD:=Lib.hid hd
 clear hd
 go_enter Tryz.func151,Tryz.ntmps151
 go_wp2_with fail
 refine HD.out.mono ?_
 rintro o w1 ⟨rfl,pc',hpc',hE2⟩
 rw [HDS.out]
 have hE3:=hE2.perm (L':=boxI q (roC kd key val lv 2 ps (some ⟨w.heap.size,0,none⟩) pl pu 0 false)::boxI w.heap.size (rav pc' 0 0 0)::LU U R) ((List.perm_middle (l₁:=[_,_,_,_])))
 have HPC:=Lib.hid (hpc' HDD.out)
 clear hE2 r ru f6 r1 f4 r2 hQ3 HD hpc'
 go_wp2_with fail
 refine (rcameGo hE3).mono ?_
 rintro o w2 ⟨rfl,hE4⟩
 go_wp2_with fail
 go_ret
 rw [HPC.out] at hE4
 exact ⟨rfl,w.heap.size,hE4⟩
end
def encOp (d:Dd):List Value:=[.int .i64 d.ok,.int .u64 d.key,.int .u64 d.val,.int .i64 d.lv]
def OsAt (w0:World) (R:List Item) (A:Option Addr) (ds:List Dd):Prop :=
 ds=[]\/∃ g off,A=some ⟨g,off,none⟩/\∀ i,i < ds.length->∀ v,KR w0 R v->CellsAt v g (off+i * 4) (encOp (ds.getD i default))
theorem rowO {w0:World} {R:List Item} {A:Option Addr} {ds:List Dd} (hd:OsAt w0 R A ds) (i:Nat) (hi:i < ds.length) :
  ∃ g off,A=some ⟨g,off,none⟩/\∀ v,KR w0 R v->CellsAt v g (off+i * 4) (encOp (ds.getD i default)):=by
 rcases hd with h | ⟨g,off,hA,hc⟩
 ·rw [h] at hi; simp at hi
 ·exact ⟨g,off,hA,hc i hi⟩
theorem Env.put4c {w0 w:World} {L:List Item} (h:Env w0 L w) (i:Nat) {B:Nat} {a b c d:Value} (hi:L[i]?=some (boxI B [a,b,c,d])) (u v t x:Value) :
  Env w0 (L.set i (boxI B [u,v,t,x])) ((((w.setCell ⟨B,0,none⟩ u).setCell ⟨B,1,none⟩ v).setCell ⟨B,2,none⟩ t).setCell ⟨B,3,none⟩ x):=by
 have hl:i < L.length:=(List.getElem?_eq_some_iff.1 hi).1
 have h1:=h.put i hi (j:=0) (by simp) u
 have h2:=h1.put i (by rw [List.getElem?_set_self hl]) (j:=1) (by simp) v
 have h3:=h2.put i (by rw [List.getElem?_set_self (by simpa using hl)]) (j:=2) (by simp) t
 have h4:=h3.put i (by rw [List.getElem?_set_self (by simpa using hl)]) (j:=3) (by simp) x
 simpa using h4
def thk (c u:Nat) (dA:Option Addr) (dn dc:Nat) (nd:Int) (busy:Bool) (po pq pg ph:Value) (st:Int):List Value:=[.pointer (some ⟨c,0,none⟩),.pointer (some ⟨u,0,none⟩),.slice dA dn dc,.int .i64 nd,.bool busy,po,pq,pg,ph,.int .i64 st]
structure Rw where
 (A:Option Addr)
 (cap:Nat)
 (ds:List Dd)
instance:Inhabited Rw:=⟨⟨none,0,[]⟩⟩
def encRw (r:Rw):List Value:=[.slice r.A r.ds.length r.cap]
theorem rowRw {w0 v:World} {A:Option Addr} {rs:List Rw} (hd:RowX encRw 1 w0 A rs) (hb:Below w0.heap.size w0 v) (i:Nat) (hi:i < rs.length) :
  ∃ g off,A=some ⟨g,off,none⟩/\∀ v,Below w0.heap.size w0 v->v.cell? ⟨g,off+i,none⟩=some (.slice (rs.getD i default).A (rs.getD i default).ds.length (rs.getD i default).cap):=by
 rcases hd with h | ⟨b,off,hA,hl,hc⟩
 ·rw [h] at hi; simp at hi
 ·refine ⟨b,off,hA,fun v hv=>?_⟩
  have:=((hc i hi).below hv hl) 0 _ rfl
  simpa using this
section
variable {w0 w:World} {R L:List Item} {thr c u q dn dc nd:Nat} {dA:Option Addr} {s b h l e r hs hi st:Int} {busy:Bool} {po pq pg ph:Value} {ds:List Dd}
theorem beginNo_b (hlt:¬ nd < dn) (hE:Env w0 (boxI thr (thk c u dA dn dc nd busy po pq pg ph st)::L) w) :
  Calls Tryz.prog 32 #[.pointer (some ⟨thr,0,none⟩)] w fun o w'=>o=.returned (.bool false)/\Env w0 (boxI thr (thk c u dA dn dc nd busy po pq pg ph st)::L) w':=by
 have hb1:decide (((dn:Nat):Int)<=(nd:Int))=true:=by simp; omega
 have hb2:decide ((nd:Int) < ((dn:Nat):Int))=false:=by simp; omega
 have hb3:((dn:Nat):Int)<=(nd:Int):=by omega
 unfold thk at hE ⊢
 clear hlt
 go_enter Tryz.func32,Tryz.ntmps32
 go_wp2_with fail
 refine wp_text (S:=(Env w0 (boxI thr [.pointer (some ⟨c,0,none⟩),.pointer (some ⟨u,0,none⟩),.slice dA dn dc,.int .i64 (nd:Int),.bool busy,po,pq,pg,ph,.int .i64 st]::L))) (by kernel_rfl) (by kernel_rfl) hE.drew (fun hT=>?_)
 have hT9:=Lib.hid hT
 clear hT
 repeat (first
  | (refine text_value (v:=?_) hT9.out (by rfl) ?_ ?_; rotate_left; (focus (intro w5 hS; have r:=hS.rule 0 rfl; go_simp<;>with_reducible rfl)); (try simp only [Act.put,zA,zZ,zS]))
  | (refine text_off hT9.out (by rfl) ?_; (try simp only [Act.put,zA,zZ,zS]))
  | (refine text_call (v:=?_) (f:=?_) (args:=?_) hT9.out (by rfl) ?_ ?_ ?_; rotate_left 3; (focus (intro w5 hS; have r:=hS.rule 0 rfl; go_simp; constructor<;>with_reducible rfl)); (focus (intro w5 hS; (first | fail))); (try simp only [Act.put,zA,zZ,zS])))
 refine InText.nil fun w5 hS5=>?_
 clear hT9
 clear hE
 go_wp2_with fail
 go_ret
 exact ⟨rfl,hS5⟩
theorem beginYes_b (i:Nat) (hd:OsAt w0 R dA ds) (hR:∀ a∈R,a∈L) (hdn:dn=ds.length) (hlt:nd < ds.length) (hdl:ds.length<=1000) {d:Dd} (hdd:ds.getD nd default=d) (h8:d.ok≠8) (h3:opI 1 s b h l d.ok d.key d.val d.lv=0) (hm:L[i]?=some (coreI c 1 s b h l e r hs hi q)) (hE:Env w0 (boxI thr (thk c u dA dn dc nd busy po pq pg ph st)::L) w) :
  Calls Tryz.prog 32 #[.pointer (some ⟨thr,0,none⟩)] w fun o w'=>o=.returned (.bool true)/\∃ o9 b1 b2 sb q9,Env w0 (boxI q9 (roC d.ok d.key d.val d.lv 0 none none none none 0 false)::boxI o9 (opC c d.ok d.key d.val d.lv (cvP b1 b2) 0 (.pointer (some ⟨sb,0,none⟩)) 0 false)::boxI b1 [mvL 118 sb]::boxI b2 [mvL 119 o9]::boxI sb (srC c 0 d.key false (.pointer none))::boxI thr (thk c u dA dn dc (nd+1) true (.pointer (some ⟨o9,0,none⟩)) (.pointer (some ⟨q9,0,none⟩)) (.pointer none) ph st)::L) w':=by
 obtain ⟨kk,kd,key,val,lv⟩:=d
 dsimp only at h8 h3 ⊢
 have hb1:decide (((dn:Nat):Int)<=(nd:Int))=false:=by simp; omega
 have hb2:decide ((nd:Int) < ((dn:Nat):Int))=true:=by simp; omega
 have hb3:(nd:Int) < ((dn:Nat):Int):=by omega
 have hb4:¬ ((dn:Nat):Int)<=(nd:Int):=by omega
 have hge1:(0:Int)<=(nd:Int):=by omega
 have hk8:(kd==8)=false:=by simpa using h8
 obtain ⟨nd1,hnd1⟩:∃ z:Int,z=(nd:Int)+1:=⟨_,rfl⟩
 have hw1:wrap64 ((nd:Int)+1)=nd1:=by rw [hnd1]; exact w64 _ (by omega)
 rw [<- hnd1]
 obtain ⟨g,off,rfl,hc⟩:=rowO hd nd hlt
 rw [hdd] at hc
 unfold encOp at hc
 dsimp only at hc
 have HC:=Lib.hid hc
 have HR:=Lib.hid hR
 have HNEW:=Lib.hid fun (P:List Item) (v:World) (hv:Env w0 (P++L) v)=>newYes_o (c:=c) (e:=e) (r:=r) (hs:=hs) (hi:=hi) (q:=q) (s:=s) (b:=b) (h:=h) (l:=l) (P.length+i) kd key val lv h8 h3 (by rw [List.getElem?_append_right (by omega)]; rw [Nat.add_sub_cancel_left]; exact hm) hv
 unfold thk at hE ⊢
 clear hlt hc hd hdd hdl hdn hR hm h8 h3 hnd1
 go_enter Tryz.func32,Tryz.ntmps32
 go_wp2_with fail
 refine wp_text (S:=(Env w0 (boxI thr [.pointer (some ⟨c,0,none⟩),.pointer (some ⟨u,0,none⟩),.slice (some ⟨g,off,none⟩) dn dc,.int .i64 (nd:Int),.bool busy,po,pq,pg,ph,.int .i64 st]::L))) (by kernel_rfl) (by kernel_rfl) hE.drew (fun hT=>?_)
 have hT9:=Lib.hid hT
 clear hT
 repeat (first
  | (refine text_value (v:=?_) hT9.out (by rfl) ?_ ?_; rotate_left; (focus (intro w5 hS; have r:=hS.rule 0 rfl; go_simp<;>with_reducible rfl)); (try simp only [Act.put,zA,zZ,zS]))
  | (refine text_off hT9.out (by rfl) ?_; (try simp only [Act.put,zA,zZ,zS]))
  | (refine text_call (v:=?_) (f:=?_) (args:=?_) hT9.out (by rfl) ?_ ?_ ?_; rotate_left 3; (focus (intro w5 hS; have r:=hS.rule 0 rfl; go_simp; constructor<;>with_reducible rfl)); (focus (intro w5 hS; (first | fail))); (try simp only [Act.put,zA,zZ,zS])))
 refine InText.nil fun w5 hS5=>?_
 clear hT9
 clear hE
 go_wp2_with fail
 refine OrdF.wp_float [?_,?_,?_,?_,?_,?_,?_,?_,?_,?_,OrdF.Ptr,?_] [11] 10 (fun v=>KR w0 R v/\Blk 0 v thr [.pointer (some ⟨c,0,none⟩),.pointer (some ⟨u,0,none⟩),.slice (some ⟨g,off,none⟩) dn dc,.int .i64 (nd:Int),.bool busy,po,pq,pg,ph,.int .i64 st]) (OrdF.AF w0 [.int .i64 0,.int .u64 0,.int .u64 0,.int .i64 0] (OrdF.Sta [fun N9 zs=>N9=(boxI thr [.pointer (some ⟨c,0,none⟩),.pointer (some ⟨u,0,none⟩),.slice (some ⟨g,off,none⟩) dn dc,.int .i64 (nd:Int),.bool busy,po,pq,pg,ph,.int .i64 st]::L)/\zs=[.int .i64 0,.int .u64 0,.int .u64 0,.int .i64 0],fun N9 zs=>N9=(boxI thr [.pointer (some ⟨c,0,none⟩),.pointer (some ⟨u,0,none⟩),.slice (some ⟨g,off,none⟩) dn dc,.int .i64 (nd:Int),.bool busy,po,pq,pg,ph,.int .i64 st]::L)/\zs=[.int .i64 kd,.int .u64 key,.int .u64 val,.int .i64 lv]])) (by kernel_rfl) (by kernel_rfl) (by kernel_rfl) ⟨hS5.drew.kr (fun a ha=>by simp [HR.out a ha]),hS5.drew.get 0 rfl⟩ ⟨_,_,⟨_,rfl,rfl,rfl⟩,.inl ⟨rfl,rfl,hS5.drew⟩⟩ (fun hT=>?_)
 rotate_left 11
 have hT9:=Lib.hid hT
 clear hT
 repeat (first
  | (focus (refine OrdF.in_value (v:=?_) hT9.out (by decide) (by decide) ?_ (by rfl) ?_ ?_; rotate_left 2; (focus (intro w5 hS; have r:=hS.2.rule; have rc9:=HC.out _ hS.1; have c0:=rc9 0 _ rfl; have c1:=rc9 1 _ rfl; have c2:=rc9 2 _ rfl; have c3:=rc9 3 _ rfl; clear rc9; simp only [Nat.add_zero] at c0; go_simp<;>with_reducible rfl)); rotate_right; (focus rfl); (try simp only [Act.put,zA,zZ,zS])))
  | (focus (refine OrdF.in_off hT9.out (by decide) (by decide) ?_ (by rfl) ?_; (focus rfl); (try simp only [Act.put,zA,zZ,zS]))))
 refine OrdF.in_float OrdF.Ptr (.pointer (some ⟨0,0,none⟩)) ⟨0,rfl⟩ hT9.out rfl (by decide) ?_ (by rfl) ?_ ?_
 ·rfl
 ·intro w5 κs5 hC5 hA5
  go_simp
  simp only [Ord3.Lands]
  exact ⟨⟨_,rfl⟩,⟨hC5.1.more _,hC5.2.more _⟩,hA5.up _⟩
 rintro _ ⟨Z,rfl⟩
 (try simp only [Act.put,zA,zZ,zS])
 refine OrdF.in_turn_late (by kernel_rfl) (by decide) (by decide) (fun u=>u=undef) (undef) rfl hT9.out rfl (by decide) (by rfl) ?_ (.inl rfl) (by rfl) ?_ ?_
 ·rfl
 ·rintro w5 hC5 ⟨M5,z5,⟨P5,hP5,hM5⟩,⟨hn5,_⟩ | ⟨n5,hn5,hE5⟩⟩
  ·cases hn5
  cases hn5
  cases hP5
  obtain ⟨rfl,rfl⟩:=hM5
  have r:=hE5.rule 0 rfl; have ff:=hE5.thaw 0 rfl; have f0:=ff 0 (by simp); have f1:=ff 1 (by simp); have f2:=ff 2 (by simp); have f3:=ff 3 (by simp); clear ff
  go_simp
  have hE6:=hE5.put4c 0 rfl (.int .i64 kd) (.int .u64 key) (.int .u64 val) (.int .i64 lv); exact ⟨rfl,⟨hE6.kr (fun a ha=>by simp [HR.out a ha]),hE6.get 1 rfl⟩,_,_,⟨_,rfl,rfl,rfl⟩,.inr ⟨_,rfl,hE6⟩⟩
 rintro _ rfl
 (try simp only [Act.put,zA,zZ,zS])
 refine OrdF.in_nil rfl (by decide) (by decide) ?_
 rintro w5 hC5 ⟨M5,z5,⟨P5,hP5,hM5⟩,⟨hn5,_⟩ | ⟨n5,hn5,hE5⟩⟩
 ·cases hn5
 cases hn5
 cases hP5
 obtain ⟨rfl,rfl⟩:=hM5
 clear hT9
 clear hC5 hS5
 have rt:=hE5.rule 1 rfl
 have ff:=hE5.thaw 1 rfl
 have f3:=ff 3 (by simp)
 have f4:=ff 4 (by simp)
 have f5:=ff 5 (by simp)
 have f7:=ff 7 (by simp)
 have rZ:=hE5.rule 0 rfl
 go_upto_region 11 with fail
 have hE6:=(((hE5.put 1 rfl (j:=3) (by simp) (.int .i64 nd1)).put 1 rfl (j:=4) (by simp) (.bool true)).put 1 rfl (j:=5) (by simp) (.pointer none)).put 1 rfl (j:=7) (by simp) (.pointer none)
 simp only [zS,zZ] at hE6
 generalize World.setCell _ _ _=w9 at *
 replace hE6:Env w0 (boxI Z [.int .i64 kd,.int .u64 key,.int .u64 val,.int .i64 lv]::boxI thr [.pointer (some ⟨c,0,none⟩),.pointer (some ⟨u,0,none⟩),.slice (some ⟨g,off,none⟩) dn dc,.int .i64 nd1,.bool true,.pointer none,pq,.pointer none,ph,.int .i64 st]::L) w9:=hE6
 clear hE5 rt ff f3 f4 f5 f7 rZ
 refine Ord3.wp_chain [?_,?_,?_,?_,?_,?_,?_,?_,?_,?_] [6,9] (fun v=>Blk 0 v Z [.int .i64 kd,.int .u64 key,.int .u64 val,.int .i64 lv]/\v.cell? ⟨thr,0,none⟩=some (.pointer (some ⟨c,0,none⟩))) (Ord3.Stage fun κs=>[Env w0 (boxI Z [.int .i64 kd,.int .u64 key,.int .u64 val,.int .i64 lv]::boxI thr [.pointer (some ⟨c,0,none⟩),.pointer (some ⟨u,0,none⟩),.slice (some ⟨g,off,none⟩) dn dc,.int .i64 nd1,.bool true,.pointer none,pq,.pointer none,ph,.int .i64 st]::L),fun v=>∃ o9,κs.getD 0 undef=.pointer (some ⟨o9,0,none⟩)/\∃ b1 b2 sb,Env w0 (boxI o9 (opC c kd key val lv (cvP b1 b2) 0 (.pointer (some ⟨sb,0,none⟩)) 0 false)::boxI b1 [mvL 118 sb]::boxI b2 [mvL 119 o9]::boxI sb (srC c 0 key false (.pointer none))::boxI Z [.int .i64 kd,.int .u64 key,.int .u64 val,.int .i64 lv]::boxI thr [.pointer (some ⟨c,0,none⟩),.pointer (some ⟨u,0,none⟩),.slice (some ⟨g,off,none⟩) dn dc,.int .i64 nd1,.bool true,.pointer none,pq,.pointer none,ph,.int .i64 st]::L) v,fun v=>∃ o9,κs.getD 0 undef=.pointer (some ⟨o9,0,none⟩)/\∃ b1 b2 sb,Env w0 (boxI o9 (opC c kd key val lv (cvP b1 b2) 0 (.pointer (some ⟨sb,0,none⟩)) 0 false)::boxI b1 [mvL 118 sb]::boxI b2 [mvL 119 o9]::boxI sb (srC c 0 key false (.pointer none))::boxI Z [.int .i64 kd,.int .u64 key,.int .u64 val,.int .i64 lv]::boxI thr [.pointer (some ⟨c,0,none⟩),.pointer (some ⟨u,0,none⟩),.slice (some ⟨g,off,none⟩) dn dc,.int .i64 nd1,.bool true,(.pointer (some ⟨o9,0,none⟩)),pq,.pointer none,ph,.int .i64 st]::L) v]) (by kernel_rfl) (by kernel_rfl) (by kernel_rfl) ⟨hE6.drew.get 0 rfl,hE6.drew.rule 1 rfl 0⟩ ⟨_,rfl,hE6.drew⟩ (fun hT=>?_)
 rotate_left 10
 have hT9:=Lib.hid hT
 clear hT
 repeat (first
  | (focus (refine Ord3.in_value (v:=?_) hT9.out (by decide) ?_ (by rfl) ?_ ?_; rotate_left 2; (focus (intro w5 hS; have r0:=Blk.rule hS.1; have r1:=hS.2; go_simp<;>with_reducible rfl)); rotate_right; (focus rfl); (try simp only [Act.put,zA,zZ,zS])))
  | (focus (refine Ord3.in_off hT9.out (by decide) ?_ (by rfl) ?_; (focus rfl); (try simp only [Act.put,zA,zZ,zS]))))
 refine Ord3.in_turn (fun u=>∃ z,u=.pointer (some ⟨z,0,none⟩)) _ ⟨0,rfl⟩ hT9.out rfl (by decide) (by rfl) ?_ (Or.inl rfl) (by rfl) ?_ ?_
 ·rfl
 ·rintro v7 hC7 ⟨P7,hP7,hA7⟩
  cases hP7
  go_simp
  simp only [Ord3.Lands]
  refine (HNEW.out [_,_] v7 hA7).mono ?_
  rintro o v8 ⟨o9,b1,b2,sb,rfl,hX8⟩
  exact ⟨_,rfl,⟨_,rfl⟩,⟨hX8.get 4 rfl,hX8.rule 5 rfl 0⟩,_,rfl,o9,rfl,b1,b2,sb,hX8⟩
 rintro _ ⟨x8,rfl⟩
 (try simp only [Act.put,zA,zZ,zS])
 repeat (first
  | (focus (refine Ord3.in_value (v:=?_) hT9.out (by decide) ?_ (by rfl) ?_ ?_; rotate_left 2; (focus (intro w5 hS; have r0:=Blk.rule hS.1; have r1:=hS.2; go_simp<;>with_reducible rfl)); rotate_right; (focus rfl); (try simp only [Act.put,zA,zZ,zS])))
  | (focus (refine Ord3.in_off hT9.out (by decide) ?_ (by rfl) ?_; (focus rfl); (try simp only [Act.put,zA,zZ,zS]))))
 refine Ord3.in_turn (fun u=>u=undef) _ rfl hT9.out rfl (by decide) (by rfl) ?_ (Or.inr ⟨_,6,[],rfl,by kernel_rfl,by kernel_rfl,rfl⟩) (by rfl) ?_ ?_
 ·rfl
 ·rintro v7 hC7 ⟨P7,hP7,hA7⟩
  cases hP7
  obtain ⟨o9,he,b1,b2,sb,hA7⟩:=hA7
  cases he
  have ft:=hA7.thaw 5 rfl 5 (by simp)
  have rt:=hA7.rule 5 rfl
  go_simp
  simp only [Ord3.Lands]
  have hX9:=hA7.put 5 rfl (j:=5) (by simp) (.pointer (some ⟨x8,0,none⟩))
  first | exact ⟨rfl,⟨hX9.get 4 rfl,hX9.rule 5 rfl 0⟩,_,rfl,x8,rfl,b1,b2,sb,hX9⟩ | exact ⟨trivial,⟨hX9.get 4 rfl,hX9.rule 5 rfl 0⟩,_,rfl,x8,rfl,b1,b2,sb,hX9⟩
 rintro _ rfl
 (try simp only [Act.put,zA,zZ,zS])
 refine Ord3.in_nil rfl ?_
 rintro v9 hC9 ⟨P9,hP9,hA9⟩
 cases hP9
 obtain ⟨o9,he,b1,b2,sb,hA9⟩:=hA9
 cases he
 clear hT9 hC9 hE6
 have rt:=hA9.rule 5 rfl
 have rZ:=hA9.rule 4 rfl
 have hB9:=hA9.box v9.heap.size rfl (roC kd key val lv 0 none none none none 0 false) 121
 have rt8:=hB9.rule 6 rfl
 have fu:=hB9.thaw 6 rfl 6 (by simp)
 have hQ9:=hB9.put 6 rfl (j:=6) (by simp) (.pointer (some ⟨v9.heap.size,0,none⟩))
 unfold roC at rt8 fu
 clear hA9 hB9
 go_wp2_with fail
 go_ret
 refine ⟨rfl,x8,b1,b2,sb,v9.heap.size,?_⟩
 have hF:=hQ9.perm (show List.Perm _ (boxI Z [.int .i64 kd,.int .u64 key,.int .u64 val,.int .i64 lv]::_) from List.perm_middle (l₁:=[_,_,_,_,_]))
 exact hF.sub (.cons _ (List.Sublist.refl _))
theorem beginGive_b (hd:OsAt w0 R dA ds) (hR:∀ a∈R,a∈L) (hdn:dn=ds.length) (hlt:nd < ds.length) (hdl:ds.length<=1000) {d:Dd} (hdd:ds.getD nd default=d) (h8:d.ok=8) (hE:Env w0 (boxI thr (thk c u dA dn dc nd busy po pq pg ph st)::L) w) :
  Calls Tryz.prog 32 #[.pointer (some ⟨thr,0,none⟩)] w fun o w'=>o=.returned (.bool true)/\∃ x y,Env w0 (boxI y (rgv 0 0 0)::boxI x (gvv c (nxG x 0) 0 0)::boxI thr (thk c u dA dn dc (nd+1) true (.pointer none) pq (.pointer (some ⟨x,0,none⟩)) (.pointer (some ⟨y,0,none⟩)) st)::L) w':=by
 obtain ⟨kk,kd,key,val,lv⟩:=d
 dsimp only at h8 ⊢
 subst h8
 have hb1:decide (((dn:Nat):Int)<=(nd:Int))=false:=by simp; omega
 have hb2:decide ((nd:Int) < ((dn:Nat):Int))=true:=by simp; omega
 have hb3:(nd:Int) < ((dn:Nat):Int):=by omega
 have hb4:¬ ((dn:Nat):Int)<=(nd:Int):=by omega
 have hge1:(0:Int)<=(nd:Int):=by omega
 obtain ⟨nd1,hnd1⟩:∃ z:Int,z=(nd:Int)+1:=⟨_,rfl⟩
 have hw1:wrap64 ((nd:Int)+1)=nd1:=by rw [hnd1]; exact w64 _ (by omega)
 rw [<- hnd1]
 obtain ⟨g,off,rfl,hc⟩:=rowO hd nd hlt
 rw [hdd] at hc
 unfold encOp at hc
 dsimp only at hc
 have HC:=Lib.hid hc
 have HR:=Lib.hid hR
 unfold thk at hE ⊢
 clear hlt hc hd hdd hdl hdn hR hnd1
 go_enter Tryz.func32,Tryz.ntmps32
 go_wp2_with fail
 refine wp_text (S:=(Env w0 (boxI thr [.pointer (some ⟨c,0,none⟩),.pointer (some ⟨u,0,none⟩),.slice (some ⟨g,off,none⟩) dn dc,.int .i64 (nd:Int),.bool busy,po,pq,pg,ph,.int .i64 st]::L))) (by kernel_rfl) (by kernel_rfl) hE.drew (fun hT=>?_)
 have hT9:=Lib.hid hT
 clear hT
 repeat (first
  | (refine text_value (v:=?_) hT9.out (by rfl) ?_ ?_; rotate_left; (focus (intro w5 hS; have r:=hS.rule 0 rfl; go_simp<;>with_reducible rfl)); (try simp only [Act.put,zA,zZ,zS]))
  | (refine text_off hT9.out (by rfl) ?_; (try simp only [Act.put,zA,zZ,zS]))
  | (refine text_call (v:=?_) (f:=?_) (args:=?_) hT9.out (by rfl) ?_ ?_ ?_; rotate_left 3; (focus (intro w5 hS; have r:=hS.rule 0 rfl; go_simp; constructor<;>with_reducible rfl)); (focus (intro w5 hS; (first | fail))); (try simp only [Act.put,zA,zZ,zS])))
 refine InText.nil fun w5 hS5=>?_
 clear hT9
 clear hE
 go_wp2_with fail
 refine OrdF.wp_float [?_,?_,?_,?_,?_,?_,?_,?_,?_,?_,OrdF.Ptr,?_] [11] 10 (fun v=>KR w0 R v/\Blk 0 v thr [.pointer (some ⟨c,0,none⟩),.pointer (some ⟨u,0,none⟩),.slice (some ⟨g,off,none⟩) dn dc,.int .i64 (nd:Int),.bool busy,po,pq,pg,ph,.int .i64 st]) (OrdF.AF w0 [.int .i64 0,.int .u64 0,.int .u64 0,.int .i64 0] (OrdF.Sta [fun N9 zs=>N9=(boxI thr [.pointer (some ⟨c,0,none⟩),.pointer (some ⟨u,0,none⟩),.slice (some ⟨g,off,none⟩) dn dc,.int .i64 (nd:Int),.bool busy,po,pq,pg,ph,.int .i64 st]::L)/\zs=[.int .i64 0,.int .u64 0,.int .u64 0,.int .i64 0],fun N9 zs=>N9=(boxI thr [.pointer (some ⟨c,0,none⟩),.pointer (some ⟨u,0,none⟩),.slice (some ⟨g,off,none⟩) dn dc,.int .i64 (nd:Int),.bool busy,po,pq,pg,ph,.int .i64 st]::L)/\zs=[Value.int .i64 8,.int .u64 key,.int .u64 val,.int .i64 lv]])) (by kernel_rfl) (by kernel_rfl) (by kernel_rfl) ⟨hS5.drew.kr (fun a ha=>by simp [HR.out a ha]),hS5.drew.get 0 rfl⟩ ⟨_,_,⟨_,rfl,rfl,rfl⟩,.inl ⟨rfl,rfl,hS5.drew⟩⟩ (fun hT=>?_)
 rotate_left 11
 have hT9:=Lib.hid hT
 clear hT
 repeat (first
  | (focus (refine OrdF.in_value (v:=?_) hT9.out (by decide) (by decide) ?_ (by rfl) ?_ ?_; rotate_left 2; (focus (intro w5 hS; have r:=hS.2.rule; have rc9:=HC.out _ hS.1; have c0:=rc9 0 _ rfl; have c1:=rc9 1 _ rfl; have c2:=rc9 2 _ rfl; have c3:=rc9 3 _ rfl; clear rc9; simp only [Nat.add_zero] at c0; go_simp<;>with_reducible rfl)); rotate_right; (focus rfl); (try simp only [Act.put,zA,zZ,zS])))
  | (focus (refine OrdF.in_off hT9.out (by decide) (by decide) ?_ (by rfl) ?_; (focus rfl); (try simp only [Act.put,zA,zZ,zS]))))
 refine OrdF.in_float OrdF.Ptr (.pointer (some ⟨0,0,none⟩)) ⟨0,rfl⟩ hT9.out rfl (by decide) ?_ (by rfl) ?_ ?_
 ·rfl
 ·intro w5 κs5 hC5 hA5
  go_simp
  simp only [Ord3.Lands]
  exact ⟨⟨_,rfl⟩,⟨hC5.1.more _,hC5.2.more _⟩,hA5.up _⟩
 rintro _ ⟨Z,rfl⟩
 (try simp only [Act.put,zA,zZ,zS])
 refine OrdF.in_turn_late (by kernel_rfl) (by decide) (by decide) (fun u=>u=undef) (undef) rfl hT9.out rfl (by decide) (by rfl) ?_ (.inl rfl) (by rfl) ?_ ?_
 ·rfl
 ·rintro w5 hC5 ⟨M5,z5,⟨P5,hP5,hM5⟩,⟨hn5,_⟩ | ⟨n5,hn5,hE5⟩⟩
  ·cases hn5
  cases hn5
  cases hP5
  obtain ⟨rfl,rfl⟩:=hM5
  have r:=hE5.rule 0 rfl; have ff:=hE5.thaw 0 rfl; have f0:=ff 0 (by simp); have f1:=ff 1 (by simp); have f2:=ff 2 (by simp); have f3:=ff 3 (by simp); clear ff
  go_simp
  have hE6:=hE5.put4c 0 rfl (Value.int .i64 8) (.int .u64 key) (.int .u64 val) (.int .i64 lv); exact ⟨rfl,⟨hE6.kr (fun a ha=>by simp [HR.out a ha]),hE6.get 1 rfl⟩,_,_,⟨_,rfl,rfl,rfl⟩,.inr ⟨_,rfl,hE6⟩⟩
 rintro _ rfl
 (try simp only [Act.put,zA,zZ,zS])
 refine OrdF.in_nil rfl (by decide) (by decide) ?_
 rintro w5 hC5 ⟨M5,z5,⟨P5,hP5,hM5⟩,⟨hn5,_⟩ | ⟨n5,hn5,hE5⟩⟩
 ·cases hn5
 cases hn5
 cases hP5
 obtain ⟨rfl,rfl⟩:=hM5
 clear hT9
 clear hC5 hS5
 have rt:=hE5.rule 1 rfl
 have ff:=hE5.thaw 1 rfl
 have f3:=ff 3 (by simp)
 have f4:=ff 4 (by simp)
 have f5:=ff 5 (by simp)
 have f7:=ff 7 (by simp)
 have rZ:=hE5.rule 0 rfl
 go_upto_region 9 with fail
 have hE6:=(((hE5.put 1 rfl (j:=3) (by simp) (.int .i64 nd1)).put 1 rfl (j:=4) (by simp) (.bool true)).put 1 rfl (j:=5) (by simp) (.pointer none)).put 1 rfl (j:=7) (by simp) (.pointer none)
 simp only [zS,zZ] at hE6
 generalize World.setCell _ _ _=w9 at *
 replace hE6:Env w0 (boxI Z [Value.int .i64 8,.int .u64 key,.int .u64 val,.int .i64 lv]::boxI thr [.pointer (some ⟨c,0,none⟩),.pointer (some ⟨u,0,none⟩),.slice (some ⟨g,off,none⟩) dn dc,.int .i64 nd1,.bool true,.pointer none,pq,.pointer none,ph,.int .i64 st]::L) w9:=hE6
 clear hE5 rt ff f3 f4 f5 f7 rZ
 have HXX:=Lib.hid (new_g (c:=c) hE6)
 have rt0:=hE6.rule 1 rfl
 clear hE6
 go_wp2_with fail
 refine HXX.out.mono ?_
 rintro o w8 ⟨x8,rfl,hE8⟩
 clear rt0 HXX
 have rt:=hE8.rule 2 rfl
 have ft:=hE8.thaw 2 rfl 7 (by simp)
 have hP9:=hE8.put 2 rfl (j:=7) (by simp) (.pointer (some ⟨x8,0,none⟩))
 have rt9:=hP9.rule 2 rfl
 have hB9:=hP9.box w8.heap.size (by simp) (rgv 0 0 0) 171
 have rt8:=hB9.rule 3 rfl
 have fu:=hB9.thaw 3 rfl 8 (by simp)
 have hQ9:=hB9.put 3 rfl (j:=8) (by simp) (.pointer (some ⟨w8.heap.size,0,none⟩))
 unfold rgv at rt8 fu
 clear hE8 hP9 hB9
 go_wp2_with fail
 go_ret
 refine ⟨rfl,x8,w8.heap.size,?_⟩
 exact hQ9.sub (.cons_cons _ (.cons_cons _ (.cons _ (List.Sublist.refl _))))
end
section
variable {w0 w:World} {L:List Item} {thr c u p m o9 q9 dn dc:Nat} {nd:Int} {dA:Option Addr} {st s:Int} {ph:Value} {Q1 Q2:List Item->Prop}
def Ended (L:List Item) (c o9 q9:Nat):Prop:=∃ (i j:Nat) (kd key val lv:Int) (nx:Value) (s9:Int) (sp:Value) (pc:Int) (ps pa pl pu:Option Addr) (er:Int) (dn9:Bool),L[i]?=some (boxI o9 (opC c kd key val lv nx s9 sp er dn9))/\L[j]?=some (boxI q9 (roC kd key val lv pc ps pa pl pu er dn9))
theorem stepOp_b (hE:Env w0 (boxI thr (thk c u dA dn dc nd true (.pointer (some ⟨o9,0,none⟩)) (.pointer (some ⟨q9,0,none⟩)) (.pointer none) ph st)::L) w)
  (hO:∀ v,Env w0 (boxI thr (thk c u dA dn dc nd true (.pointer (some ⟨o9,0,none⟩)) (.pointer (some ⟨q9,0,none⟩)) (.pointer none) ph 0)::L) v->Calls Tryz.prog 27 #[.pointer (some ⟨o9,0,none⟩),.iface 26 (.pointer (some ⟨p,0,none⟩))] v fun e v'=>e=.returned (.int .i64 s)/\∃ L1,Q1 L1/\Env w0 (boxI thr (thk c u dA dn dc nd true (.pointer (some ⟨o9,0,none⟩)) (.pointer (some ⟨q9,0,none⟩)) (.pointer none) ph 0)::L1) v')
  (hQ:∀ L1 v,Q1 L1->Env w0 (boxI thr (thk c u dA dn dc nd true (.pointer (some ⟨o9,0,none⟩)) (.pointer (some ⟨q9,0,none⟩)) (.pointer none) ph s)::L1) v->Calls Tryz.prog 54 #[.pointer (some ⟨q9,0,none⟩),.pointer (some ⟨u,0,none⟩),.pointer (some ⟨m,0,none⟩)] v fun e v'=>e=.returned (.int .i64 s)/\∃ L2,Q2 L2/\Env w0 (boxI thr (thk c u dA dn dc nd true (.pointer (some ⟨o9,0,none⟩)) (.pointer (some ⟨q9,0,none⟩)) (.pointer none) ph s)::L2) v')
  (hA:∀ L2,Q2 L2->s≠0->Ended L2 c o9 q9) :
  Calls Tryz.prog 15 #[.pointer (some ⟨thr,0,none⟩),.pointer (some ⟨p,0,none⟩),.pointer (some ⟨m,0,none⟩)] w fun o w'=>o=.returned (.bool true)/\∃ L2,Q2 L2/\Env w0 (boxI thr (thk c u dA dn dc nd (decide (s=0)) (.pointer (some ⟨o9,0,none⟩)) (.pointer (some ⟨q9,0,none⟩)) (.pointer none) ph s)::L2) w':=by
 have HO:=Lib.hid hO
 have HQ:=Lib.hid hQ
 have HA:=Lib.hid hA
 clear hO hQ hA
 unfold thk at *
 have r0:=hE.rule 0 rfl
 have f9:=hE.thaw 0 rfl 9 (by simp)
 have hE1:=hE.put 0 rfl (j:=9) (by simp) (.int .i64 0)
 have r1:=hE1.rule 0 rfl
 clear hE
 refine gen_post fun PP HPP=>?_
 go_enter Tryz.func15,Tryz.ntmps15
 go_wp2_with fail
 refine (HO.out _ hE1).mono ?_
 rintro e v ⟨rfl,L1,hq1,hE2⟩
 clear r0 f9 r1 hE1
 have r0:=hE2.rule 0 rfl
 have f9:=hE2.thaw 0 rfl 9 (by simp)
 have hE3:=hE2.put 0 rfl (j:=9) (by simp) (.int .i64 s)
 have HQ1:=Lib.hid hq1
 clear hE2 hq1
 go_upto_region 9 with fail
 clear r0 f9
 generalize World.setCell _ _ _=v1 at *
 replace hE3:Env w0 (boxI thr [.pointer (some ⟨c,0,none⟩),.pointer (some ⟨u,0,none⟩),.slice dA dn dc,.int .i64 nd,.bool true,.pointer (some ⟨o9,0,none⟩),.pointer (some ⟨q9,0,none⟩),.pointer none,ph,.int .i64 s]::L1) v1:=hE3
 refine Ord.wp_chain [9] (fun v=>Blk 0 v thr [.pointer (some ⟨c,0,none⟩),.pointer (some ⟨u,0,none⟩),.slice dA dn dc,.int .i64 nd,.bool true,.pointer (some ⟨o9,0,none⟩),.pointer (some ⟨q9,0,none⟩),.pointer none,ph,.int .i64 s]) (fun k v=>if k=0 then Env w0 (boxI thr [.pointer (some ⟨c,0,none⟩),.pointer (some ⟨u,0,none⟩),.slice dA dn dc,.int .i64 nd,.bool true,.pointer (some ⟨o9,0,none⟩),.pointer (some ⟨q9,0,none⟩),.pointer none,ph,.int .i64 s]::L1) v else ∃ L2,Q2 L2/\Env w0 (boxI thr [.pointer (some ⟨c,0,none⟩),.pointer (some ⟨u,0,none⟩),.slice dA dn dc,.int .i64 nd,.bool true,.pointer (some ⟨o9,0,none⟩),.pointer (some ⟨q9,0,none⟩),.pointer none,ph,.int .i64 s]::L2) v) (by kernel_rfl) (by kernel_rfl) (by kernel_rfl) (hE3.drew.get 0 rfl) (by rw [if_pos rfl]; exact hE3.drew) (fun hT=>?_)
 have hT9:=Lib.hid hT
 clear hT
 repeat (first
  | (refine Ord.ch_value (v:=?_) hT9.out (by decide) (by rfl) ?_ ?_; rotate_left; (focus (intro w5 hS; have r:=Blk.rule hS; go_simp<;>with_reducible rfl)); (try simp only [Act.put,zA,zZ,zS]))
  | (refine Ord.ch_off hT9.out (by decide) (by rfl) ?_; (try simp only [Act.put,zA,zZ,zS])))
 refine Ord.ch_turn (v:=.int .i64 s) 0 hT9.out rfl (by decide) (Or.inl rfl) (by rfl) ?_ ?_
 ·rintro w5 hC5 hA5
  rw [if_pos rfl] at hA5
  go_simp
  simp only [Ord.LandsIn]
  refine (HQ.out L1 w5 HQ1.out hA5).mono ?_
  rintro e w6 ⟨rfl,L2,h2,h5⟩
  exact ⟨rfl,h5.get 0 rfl,L2,h2,h5⟩
 (try simp only [Act.put,zA,zZ,zS])
 repeat (first
  | (refine Ord.ch_value (v:=?_) hT9.out (by decide) (by rfl) ?_ ?_; rotate_left; (focus (intro w5 hS; skip; go_simp<;>with_reducible rfl)); (try simp only [Act.put,zA,zZ,zS]))
  | (refine Ord.ch_off hT9.out (by decide) (by rfl) ?_; (try simp only [Act.put,zA,zZ,zS])))
 refine Ord.InText.nil fun w5 hS=>?_
 clear hT9
 obtain ⟨hC9,hA9⟩:=Ord.chain_end hS
 clear hS
 rw [if_neg (by decide)] at hA9
 obtain ⟨L2,hq2,hE4⟩:=hA9
 clear hC9 hE3
 have HQ2:=Lib.hid hq2
 have HA2:=Lib.hid fun h=>HA.out L2 hq2 h
 clear hq2 HO HQ HA HQ1
 have r0:=hE4.rule 0 rfl
 have b9:(s != s)=false:=by simp
 by_cases hs:s=0
 ·subst hs
  have HE:=Lib.hid hE4
  clear hE4
  go_wp2_with fail
  (try go_ret)
  exact HPP.out _ _ ⟨rfl,L2,HQ2.out,HE.out⟩
 ·have b8:(s==0)=false:=by simpa using hs
  obtain ⟨i,j,kd,key,val,lv,nx,s9,sp,pc,ps,pa,pl,pu,er,dn9,h1,h2⟩:=HA2.out hs
  have hd:decide (s=0)=false:=by simpa using hs
  rw [hd] at HPP
  have f4:=hE4.thaw 0 rfl 4 (by simp)
  have hE5:=hE4.put 0 rfl (j:=4) (by simp) (.bool false)
  clear hE4 hs hd HA2
  have H1:=Lib.hid h1
  have H2:=Lib.hid h2
  clear h1 h2
  go_upto_region 15 with fail
  clear r0 f4
  generalize World.setCell _ _ _=v2 at *
  replace hE5:Env w0 (boxI thr [.pointer (some ⟨c,0,none⟩),.pointer (some ⟨u,0,none⟩),.slice dA dn dc,.int .i64 nd,.bool false,.pointer (some ⟨o9,0,none⟩),.pointer (some ⟨q9,0,none⟩),.pointer none,ph,.int .i64 s]::L2) v2:=hE5
  have HANS:=Lib.hid fun (v:World) (hv:Env w0 (boxI thr [.pointer (some ⟨c,0,none⟩),.pointer (some ⟨u,0,none⟩),.slice dA dn dc,.int .i64 nd,.bool false,.pointer (some ⟨o9,0,none⟩),.pointer (some ⟨q9,0,none⟩),.pointer none,ph,.int .i64 s]::L2) v)=>answer_o (hv.get (i+1) H1.out)
  have HRQ:=Lib.hid fun (v:World) (hv:Env w0 (boxI thr [.pointer (some ⟨c,0,none⟩),.pointer (some ⟨u,0,none⟩),.slice dA dn dc,.int .i64 nd,.bool false,.pointer (some ⟨o9,0,none⟩),.pointer (some ⟨q9,0,none⟩),.pointer none,ph,.int .i64 s]::L2) v)=>(show ∀ k,v.cell? ⟨q9,k,none⟩=[Value.int .i64 kd,.int .u64 key,.int .u64 val,.int .i64 lv,.int .i64 pc,.pointer ps,.pointer pa,.pointer pl,.pointer pu,.int .i64 er,.bool dn9][k]? from hv.rule (j+1) H2.out)
  clear H1 H2
  refine wp_text (S:=(Env w0 (boxI thr [.pointer (some ⟨c,0,none⟩),.pointer (some ⟨u,0,none⟩),.slice dA dn dc,.int .i64 nd,.bool false,.pointer (some ⟨o9,0,none⟩),.pointer (some ⟨q9,0,none⟩),.pointer none,ph,.int .i64 s]::L2))) (by kernel_rfl) (by kernel_rfl) hE5.drew (fun hT=>?_)
  have hT9:=Lib.hid hT
  clear hT
  repeat (first
   | (refine text_value (v:=?_) hT9.out (by rfl) ?_ ?_; rotate_left; (focus (intro w5 hS; have r:=hS.rule 0 rfl; have rq:=HRQ.out _ hS; go_simp<;>with_reducible rfl)); (try simp only [Act.put,zA,zZ,zS]))
   | (refine text_off hT9.out (by rfl) ?_; (try simp only [Act.put,zA,zZ,zS]))
   | (refine text_call (v:=?_) (f:=?_) (args:=?_) hT9.out (by rfl) ?_ ?_ ?_; rotate_left 3; (focus (intro w5 hS; have r:=hS.rule 0 rfl; have rq:=HRQ.out _ hS; go_simp; constructor<;>with_reducible rfl)); (focus (intro w5 hS; (first | (with_reducible refine (HANS.out _ hS).mono ?_; rintro e9 w6 ⟨rfl,hb5⟩; constructor; with_reducible rfl; exact hS.over hb5)))); (try simp only [Act.put,zA,zZ,zS])))
  refine InText.nil fun w5 hS5=>?_
  clear hT9
  clear hE5
  go_wp2_with fail
  (try go_ret)
  exact HPP.out _ _ ⟨rfl,L2,HQ2.out,hS5⟩
end
section
variable {w0 w:World} {L R:List Item} {o sb a c:Nat} {S:ST} {kd key val lv:Int} {nx lnx:Value} {er st x y z W C X wd:Int} {dn pf:Bool} {pv:Int}
theorem seaHas_o (u:Int) (hk1:kd≠1) (hk2:kd≠2) (hE:Env w0 (boxI o (opC c kd key val lv nx 0 (.pointer (some ⟨sb,0,none⟩)) er dn)::boxI sb (srC c 0 key false (.pointer (some ⟨a,0,none⟩)))::boxI a (laneC c 0 key false lnx st x y z W C X wd pf pv)::L) w) :
  Calls Tryz.prog 119 #[.pointer (some ⟨o,0,none⟩),.int .i64 u] w fun r w'=>r=.returned (.int .i64 1)/\Env w0 (boxI o (opC c kd key val lv nx 1 (.pointer (some ⟨sb,0,none⟩)) 0 pf)::L) w':=by
 have h1:(kd==1)=false:=by simpa using hk1
 have h2:(kd==2)=false:=by simpa using hk2
 have r:=hE.rule 0 rfl
 unfold opC at r
 clear hk1 hk2
 go_enter Tryz.func119,Tryz.ntmps119
 go_wp2_with fail
 refine (lane_g (hE.get 1 rfl)).mono ?_
 rintro e w1 ⟨rfl,rfl⟩
 go_wp2_with fail
 refine (found_g (hE.get 2 rfl)).mono ?_
 rintro e w1 ⟨rfl,rfl⟩
 go_wp2_with fail
 refine (over_o 0 pf hE).mono ?_
 rintro e w1 ⟨rfl,hE2⟩
 go_wp2_with fail
 go_ret
 exact ⟨rfl,hE2.sub (.cons_cons _ (.cons _ (.cons _ (List.Sublist.refl _))))⟩
theorem removeNo_o (hE:Env w0 (boxI o (opC c kd key val lv nx 0 (.pointer (some ⟨sb,0,none⟩)) er dn)::boxI sb (srC c 0 key false (.pointer (some ⟨a,0,none⟩)))::boxI a (laneC c 0 key false lnx st x y z W C X wd false pv)::L) w) :
  Calls Tryz.prog 170 #[.pointer (some ⟨o,0,none⟩),.pointer (some ⟨a,0,none⟩)] w fun r w'=>r=.returned (.int .i64 1)/\Env w0 (boxI o (opC c kd key val lv nx 1 (.pointer (some ⟨sb,0,none⟩)) 0 false)::L) w':=by
 go_enter Tryz.func170,Tryz.ntmps170
 go_wp2_with fail
 refine (found_g (hE.get 2 rfl)).mono ?_
 rintro e w1 ⟨rfl,rfl⟩
 go_wp2_with fail
 refine (over_o 0 false hE).mono ?_
 rintro e w1 ⟨rfl,hE2⟩
 go_wp2_with fail
 go_ret
 exact ⟨rfl,hE2.sub (.cons_cons _ (.cons _ (.cons _ (List.Sublist.refl _))))⟩
theorem removeYes_o (hX:InU X) (hg:Glo w0) (hE:Env w0 (boxI o (opC c kd key val lv nx 0 (.pointer (some ⟨sb,0,none⟩)) er dn)::boxI sb (srC c 0 key false (.pointer (some ⟨a,0,none⟩)))::boxI a (laneC c 0 key false lnx st x y z W C X wd true pv)::L) w) :
  Calls Tryz.prog 170 #[.pointer (some ⟨o,0,none⟩),.pointer (some ⟨a,0,none⟩)] w fun r w'=>r=.returned (.int .i64 0)/\∃ b1 b2 l,Env w0 (boxI o (opC c kd key val lv (cvP b1 b2) 0 (.pointer (some ⟨sb,0,none⟩)) er dn)::boxI b1 [mvL 26 l]::boxI b2 [mvL 199 o]::boxI l (ukC c x y z W C X 0 key (slotI X) (mvL 73 l) 0)::L) w':=by
 have hmf:=makeF
 have HLE:=Lib.hid fun (v:World) (hv:Below w0.heap.size w0 v)=>lead_c X 0 false v hX (hg.keep' hv)
 obtain ⟨s,hs⟩:∃ s,slotI X=s:=⟨_,rfl⟩
 rw [hs]
 simp only [hs] at HLE
 clear hs hX hg
 go_enter Tryz.func170,Tryz.ntmps170
 go_wp2_with fail
 refine (found_g (hE.get 2 rfl)).mono ?_
 rintro e w1 ⟨rfl,rfl⟩
 go_wp2_with fail
 refine Ord3.wp_chain [?_,?_,?_,?_,?_,?_,?_,?_,?_,?_,?_,?_,?_,?_,?_] [13,14] (fun w'=>Below w0.heap.size w0 w'/\Blk 0 w' o (opC c kd key val lv nx 0 (.pointer (some ⟨sb,0,none⟩)) er dn)/\Blk 0 w' a (laneC c 0 key false lnx st x y z W C X wd true pv)) (Ord3.Stage fun κs=>[Env w0 (boxI o (opC c kd key val lv nx 0 (.pointer (some ⟨sb,0,none⟩)) er dn)::boxI sb (srC c 0 key false (.pointer (some ⟨a,0,none⟩)))::boxI a (laneC c 0 key false lnx st x y z W C X wd true pv)::L),fun w'=>∃ q,κs.getD 0 undef=.pointer (some ⟨q,0,none⟩)/\Env w0 (boxI q (ukC c x y z W C X 0 key s (mvL 73 q) 0)::boxI o (opC c kd key val lv nx 0 (.pointer (some ⟨sb,0,none⟩)) er dn)::boxI sb (srC c 0 key false (.pointer (some ⟨a,0,none⟩)))::boxI a (laneC c 0 key false lnx st x y z W C X wd true pv)::L) w',fun w'=>∃ q,κs.getD 1 undef=.pointer (some ⟨q,0,none⟩)/\Env w0 (boxI q (ukC c x y z W C X 0 key s (mvL 73 q) 0)::boxI o (opC c kd key val lv nx 0 (.pointer (some ⟨sb,0,none⟩)) er dn)::boxI sb (srC c 0 key false (.pointer (some ⟨a,0,none⟩)))::boxI a (laneC c 0 key false lnx st x y z W C X wd true pv)::L) w']) (by kernel_rfl) (by kernel_rfl) (by kernel_rfl) ⟨hE.drew.below,hE.drew.get 0 rfl,hE.drew.get 2 rfl⟩ ⟨_,rfl,hE.drew⟩ (fun hT=>?_)
 rotate_left 15
 have hT9:=Lib.hid hT
 clear hT
 repeat (first
  | (focus (refine Ord3.in_value (v:=?_) hT9.out (by decide) ?_ (by rfl) ?_ ?_; rotate_left 2; (focus (intro w5 hS; have r1:=Blk.rule hS.2.1; unfold opC at r1; go_simp<;>with_reducible rfl)); rotate_right; (focus rfl); (try simp only [Act.put,zA,zZ,zS])))
  | (focus (refine Ord3.in_off hT9.out (by decide) ?_ (by rfl) ?_; (focus rfl); (try simp only [Act.put,zA,zZ,zS])))
  | (focus (refine Ord3.in_call (v:=?_) (f:=?_) (args:=?_) hT9.out (by decide) ?_ (by rfl) ?_ ?_ ?_; rotate_left 4; (focus (intro w5 hS; have r1:=Blk.rule hS.2.1; unfold opC at r1; go_simp; constructor<;>with_reducible rfl)); (focus (intro w5 hS; (first | (with_reducible refine (out_g hS.2.2).mono ?_; rintro e w6 ⟨rfl,hb6⟩; constructor; with_reducible rfl; exact ⟨⟨hS.1.trans (hb6.mono hS.1.size),hS.2.1.under hb6,hS.2.2.under hb6⟩,fun us h=>Ord3.Stage.three h (fun h=>h.over hb6) (fun h=>h.elim fun q h=>⟨q,h.1,h.2.over hb6⟩) (fun h=>h.elim fun q h=>⟨q,h.1,h.2.over hb6⟩)⟩) | (with_reducible refine (HLE.out _ hS.1).mono ?_; rintro e w6 ⟨rfl,hb6⟩; constructor; with_reducible rfl; exact ⟨⟨hS.1.trans (hb6.mono hS.1.size),hS.2.1.under hb6,hS.2.2.under hb6⟩,fun us h=>Ord3.Stage.three h (fun h=>h.over hb6) (fun h=>h.elim fun q h=>⟨q,h.1,h.2.over hb6⟩) (fun h=>h.elim fun q h=>⟨q,h.1,h.2.over hb6⟩)⟩)))); rotate_right; (focus rfl); (try simp only [Act.put,zA,zZ,zS]))))
 refine Ord3.in_turn (fun u=>∃ q,u=.pointer (some ⟨q,0,none⟩)) _ ⟨0,rfl⟩ hT9.out rfl (by decide) (by rfl) ?_ (Or.inl rfl) (by rfl) ?_ ?_
 ·rfl
 ·rintro w7 hC7 ⟨P7,hP7,hA7⟩
  cases hP7
  go_simp
  simp only [Ord3.Lands]
  refine (newUnlink_k 0 key s 2 rfl hA7).mono ?_
  rintro o8 w8 ⟨r8,rfl,hE8⟩
  exact ⟨_,rfl,⟨r8,rfl⟩,⟨hE8.below,hE8.get 1 rfl,hE8.get 3 rfl⟩,_,rfl,r8,rfl,hE8⟩
 rintro _ ⟨q9,rfl⟩
 (try simp only [Act.put,zA,zZ,zS])
 refine Ord3.in_turn (fun u=>∃ q,u=.pointer (some ⟨q,0,none⟩)) _ ⟨0,rfl⟩ hT9.out rfl (by decide) (by rfl) ?_ (Or.inr ⟨_,13,[],rfl,by kernel_rfl,by kernel_rfl,rfl⟩) (by rfl) ?_ ?_
 ·rfl
 ·rintro w7 hC7 ⟨P7,hP7,hA7⟩
  cases hP7
  obtain ⟨q8,he,hA7⟩:=hA7
  cases he
  go_simp
  simp only [Ord3.Lands]
  exact ⟨⟨_,rfl⟩,hC7,_,rfl,q9,rfl,hA7⟩
 rintro _ ⟨q9,rfl⟩
 (try simp only [Act.put,zA,zZ,zS])
 refine Ord3.in_nil rfl ?_
 rintro w9 hC9 ⟨P9,hP9,hA9⟩
 cases hP9
 obtain ⟨q8,he,hA9⟩:=hA9
 cases he
 clear hT9 hC9 hE HLE
 go_wp2_with fail
 refine (play_r (o:=5) 1 _ _ _ _ _ _ (by simp [opC]) hA9 rfl).mono ?_
 rintro o8 w8 ⟨rfl,b1,b2,hE8⟩
 go_wp2_with fail
 go_ret
 refine ⟨rfl,b1,b2,q9,?_⟩
 have h9:=hE8.sub (L':=boxI b1 [mvL 26 q9]::boxI b2 [mvL 199 o]::boxI q9 (ukC c x y z W C X 0 key s (mvL 73 q9) 0)::boxI o (opC c kd key val lv (cvP b1 b2) 0 (.pointer (some ⟨sb,0,none⟩)) er dn)::L) (.cons_cons _ (.cons_cons _ (.cons_cons _ (.cons_cons _ (.cons _ (.cons _ (List.Sublist.refl _)))))))
 exact h9.perm (List.perm_middle (l₁:=[_,_,_]))
theorem seaDelNo_o (u:Int) (hE:Env w0 (boxI o (opC c 2 key val lv nx 0 (.pointer (some ⟨sb,0,none⟩)) er dn)::boxI sb (srC c 0 key false (.pointer (some ⟨a,0,none⟩)))::boxI a (laneC c 0 key false lnx st x y z W C X wd false pv)::L) w) :
  Calls Tryz.prog 119 #[.pointer (some ⟨o,0,none⟩),.int .i64 u] w fun r w'=>r=.returned (.int .i64 1)/\Env w0 (boxI o (opC c 2 key val lv nx 1 (.pointer (some ⟨sb,0,none⟩)) 0 false)::L) w':=by
 have r:=hE.rule 0 rfl
 unfold opC at r
 have HR:=Lib.hid (removeNo_o hE)
 go_enter Tryz.func119,Tryz.ntmps119
 go_wp2_with fail
 refine (lane_g (hE.get 1 rfl)).mono ?_
 rintro e w1 ⟨rfl,rfl⟩
 go_wp2_with fail
 refine HR.out.mono ?_
 rintro e w1 ⟨rfl,hE2⟩
 go_wp2_with fail
 go_ret
 exact ⟨rfl,hE2⟩
theorem seaDelYes_o (u:Int) (hX:InU X) (hg:Glo w0) (hE:Env w0 (boxI o (opC c 2 key val lv nx 0 (.pointer (some ⟨sb,0,none⟩)) er dn)::boxI sb (srC c 0 key false (.pointer (some ⟨a,0,none⟩)))::boxI a (laneC c 0 key false lnx st x y z W C X wd true pv)::L) w) :
  Calls Tryz.prog 119 #[.pointer (some ⟨o,0,none⟩),.int .i64 u] w fun r w'=>r=.returned (.int .i64 0)/\∃ b1 b2 l,Env w0 (boxI o (opC c 2 key val lv (cvP b1 b2) 0 (.pointer (some ⟨sb,0,none⟩)) er dn)::boxI b1 [mvL 26 l]::boxI b2 [mvL 199 o]::boxI l (ukC c x y z W C X 0 key (slotI X) (mvL 73 l) 0)::L) w':=by
 have r:=hE.rule 0 rfl
 unfold opC at r
 have HR:=Lib.hid (removeYes_o hX hg hE)
 clear hX hg
 go_enter Tryz.func119,Tryz.ntmps119
 go_wp2_with fail
 refine (lane_g (hE.get 1 rfl)).mono ?_
 rintro e w1 ⟨rfl,rfl⟩
 go_wp2_with fail
 refine HR.out.mono ?_
 rintro e w1 ⟨rfl,b1,b2,l,hE2⟩
 go_wp2_with fail
 go_ret
 exact ⟨rfl,b1,b2,l,hE2⟩
theorem insFound_o (hl:S.ql.length+1<=1048576) (hE:Env w0 (boxI o (opC S.c kd key val lv nx 0 (.pointer (some ⟨sb,0,none⟩)) er dn)::boxI sb (srC S.c 0 key false (.pointer (some ⟨a,0,none⟩)))::boxI a (laneC S.c 0 key false lnx st x y z W C X wd true pv)::LT S R) w) :
  Calls Tryz.prog 169 #[.pointer (some ⟨o,0,none⟩),.pointer (some ⟨a,0,none⟩)] w fun r w'=>r=.returned (.int .i64 1)/\∃ F' k',Env w0 (boxI o (opC S.c kd key val lv nx 1 (.pointer (some ⟨sb,0,none⟩)) 0 false)::LT { S with ql:=dropQ S.hs S.ql,hs:=0,F:=F',kq:=k' } R) w':=by
 have r:=hE.rule 0 rfl
 unfold opC at r
 by_cases hh:S.hs=0
 ·have HH:=Lib.hid hh
  clear hh
  go_enter Tryz.func169,Tryz.ntmps169
  go_wp2_with fail
  refine (found_g (hE.get 2 rfl)).mono ?_
  rintro e w1 ⟨rfl,rfl⟩
  go_wp2_with fail
  refine (dropNo_c HH.out (hE.get 3 rfl)).mono ?_
  rintro e w1 ⟨rfl,hb1⟩
  replace hE:=hE.over hb1
  clear hb1 r
  go_wp2_with fail
  refine (over_o 0 false hE).mono ?_
  rintro e w1 ⟨rfl,hE2⟩
  go_wp2_with fail
  go_ret
  have hh:=HH.out
  rw [show dropQ S.hs S.ql=S.ql from if_pos hh]
  have h9:=hE2.sub (L':=boxI o (opC S.c kd key val lv nx 1 (.pointer (some ⟨sb,0,none⟩)) 0 false)::LT S R) (.cons_cons _ (.cons _ (.cons _ (List.Sublist.refl _))))
  have hS0:({ S with hs:=0 }:ST)=S:=by rw [<- hh]
  rw [<- hS0] at h9
  exact ⟨rfl,S.F,S.kq,h9⟩
 ·have HH:=Lib.hid hh
  have HL:=Lib.hid hl
  clear hh hl
  go_enter Tryz.func169,Tryz.ntmps169
  go_wp2_with fail
  refine (found_g (hE.get 2 rfl)).mono ?_
  rintro e w1 ⟨rfl,rfl⟩
  go_wp2_with fail
  refine (dropYes_c HH.out 3 4 (by decide) hE rfl rfl HL.out).mono ?_
  rintro e w1 ⟨rfl,k',F',-,hE1⟩
  simp only [zZ,zS] at hE1
  clear hE r
  have r:=hE1.rule 0 rfl
  unfold opC at r
  go_wp2_with fail
  refine (over_o 0 false hE1).mono ?_
  rintro e w1 ⟨rfl,hE2⟩
  go_wp2_with fail
  go_ret
  rw [show dropQ S.hs S.ql=S.ql++[(S.hs,0,0)] from if_neg HH.out]
  exact ⟨rfl,F',k',hE2.sub (.cons_cons _ (.cons _ (.cons _ (List.Sublist.refl _))))⟩
theorem seaInsFound_o (u:Int) (hl:S.ql.length+1<=1048576) (hE:Env w0 (boxI o (opC S.c 1 key val lv nx 0 (.pointer (some ⟨sb,0,none⟩)) er dn)::boxI sb (srC S.c 0 key false (.pointer (some ⟨a,0,none⟩)))::boxI a (laneC S.c 0 key false lnx st x y z W C X wd true pv)::LT S R) w) :
  Calls Tryz.prog 119 #[.pointer (some ⟨o,0,none⟩),.int .i64 u] w fun r w'=>r=.returned (.int .i64 1)/\∃ F' k',Env w0 (boxI o (opC S.c 1 key val lv nx 1 (.pointer (some ⟨sb,0,none⟩)) 0 false)::LT { S with ql:=dropQ S.hs S.ql,hs:=0,F:=F',kq:=k' } R) w':=by
 have r:=hE.rule 0 rfl
 unfold opC at r
 have HR:=Lib.hid (insFound_o hl hE)
 clear hl
 go_enter Tryz.func119,Tryz.ntmps119
 go_wp2_with fail
 refine (lane_g (hE.get 1 rfl)).mono ?_
 rintro e w1 ⟨rfl,rfl⟩
 go_wp2_with fail
 refine HR.out.mono ?_
 rintro e w1 ⟨rfl,F',k',hE2⟩
 go_wp2_with fail
 go_ret
 exact ⟨rfl,F',k',hE2⟩
end
def ndL (c:Nat) (kd key val lv:Int) (o ro FF OV:Nat):List Value:=[.pointer (some ⟨c,0,none⟩),.int .i64 kd,.int .u64 key,.int .u64 val,.int .i64 lv,.pointer (some ⟨o,ro,none⟩),mvL FF o,mvL OV o]
def ndV (c:Nat) (kd key val lv:Int) (o ro FF OV:Nat):Value:=.agg #[.pointer (some ⟨c,0,none⟩),.int .i64 kd,.int .u64 key,.int .u64 val,.int .i64 lv,.pointer (some ⟨o,ro,none⟩),mvL FF o,mvL OV o]
def cmV (c:Nat) (kd key val lv:Int) (o ro FF OV:Nat):Value:=.func (.func 227) #[ndV c kd key val lv o ro FF OV] #[]
section
variable {w0 w:World} {L R:List Item} {c o ro FF OV:Nat} {kd key val lv:Int} {S:ST}
theorem cameOver_n (s:Int) (hs:s=3\/s=4) (hx:∀ (ar:Array Value) (v:World),(callFunc OV ar).run Tryz.prog v=.ok (.enter OV ar) v) (Q:Int->World->Prop) (hE:Env w0 L w) (ho:∀ v,Env w0 L v->Calls Tryz.prog OV #[.pointer (some ⟨o,0,none⟩),.agg #[.int .i64 (s+3),.bool false,.int .u64 0]] v fun e w'=>∃ s2,e=.returned (.int .i64 s2)/\Q s2 w') :
  Calls Tryz.prog 227 #[ndV c kd key val lv o ro FF OV,.int .i64 s] w fun e w'=>∃ s2,e=.returned (.int .i64 s2)/\Q s2 w':=by
 have hE1:=hE.box w.heap.size rfl (ndL c kd key val lv o ro FF OV) 279
 have r:=hE1.rule 0 rfl
 have HO:=Lib.hid (ho _ (hE1.sub (.cons _ (List.Sublist.refl _))))
 unfold ndL at r HO
 unfold ndV
 unfold mvL at r HO ⊢
 clear ho hE hE1
 rcases hs with rfl | rfl
 all_goals
  go_enter Tryz.func227,Tryz.ntmps227
  go_wp2_with fail
  refine HO.out.mono ?_
  rintro e w2 ⟨s2,rfl,hq⟩
  go_wp2_with fail
  go_ret
  exact ⟨s2,rfl,hq⟩
theorem cameFind_n (s:Int) (hs:s=1\/s=2) (hx:∀ (ar:Array Value) (v:World),(callFunc FF ar).run Tryz.prog v=.ok (.enter FF ar) v) (Q:Int->World->Prop) (hE:Env w0 L w) (ho:∀ v,Env w0 L v->Calls Tryz.prog FF #[.pointer (some ⟨o,0,none⟩)] v fun e w'=>∃ s2,e=.returned (.int .i64 s2)/\Q s2 w') :
  Calls Tryz.prog 227 #[ndV c kd key val lv o ro FF OV,.int .i64 s] w fun e w'=>∃ s2,e=.returned (.int .i64 s2)/\Q s2 w':=by
 have hE1:=hE.box w.heap.size rfl (ndL c kd key val lv o ro FF OV) 279
 have r:=hE1.rule 0 rfl
 have HO:=Lib.hid (ho _ (hE1.sub (.cons _ (List.Sublist.refl _))))
 unfold ndL at r HO
 unfold ndV
 unfold mvL at r HO ⊢
 clear ho hE hE1
 rcases hs with rfl | rfl
 all_goals
  go_enter Tryz.func227,Tryz.ntmps227
  go_wp2_with fail
  refine HO.out.mono ?_
  rintro e w2 ⟨s2,rfl,hq⟩
  go_wp2_with fail
  go_ret
  exact ⟨s2,rfl,hq⟩
theorem slotLate_n (hx:∀ (ar:Array Value) (v:World),(callFunc OV ar).run Tryz.prog v=.ok (.enter OV ar) v) (hh:S.hs=0) (hd:decP S.ql S.ce S.cl=0) (Q:Int->World->Prop) (hE:Env w0 (LT S R) w) (ho:∀ v,Env w0 (LT S R) v->Calls Tryz.prog OV #[.pointer (some ⟨o,0,none⟩),.agg #[.int .i64 7,.bool false,.int .u64 0]] v fun e w'=>∃ s2,e=.returned (.int .i64 s2)/\Q s2 w') :
  Calls Tryz.prog 200 #[ndV S.c kd key val lv o ro FF OV] w fun e w'=>∃ s2,e=.returned (.int .i64 s2)/\Q s2 w':=by
 have hE1:=hE.box w.heap.size rfl (ndL S.c kd key val lv o ro FF OV) 279
 have r:=hE1.rule 0 rfl
 have HO:=Lib.hid ho
 have HH:=Lib.hid hh
 have HD:=Lib.hid hd
 have hV:ndV S.c kd key val lv o ro FF OV=.agg #[.pointer (some ⟨S.c,0,none⟩),.int .i64 kd,.int .u64 key,.int .u64 val,.int .i64 lv,.pointer (some ⟨o,ro,none⟩),mvL FF o,mvL OV o]:=rfl
 have HV:=Lib.hid hV
 rw [hV]
 unfold ndL at r hE1
 clear ho hE hV hh hd
 go_enter Tryz.func200,Tryz.ntmps200
 go_wp2_with fail
 generalize w.alloc _=w1 at *
 generalize w.heap.size=Y at *
 have hE2:Env w0 (LT S (boxI Y [.pointer (some ⟨S.c,0,none⟩),.int .i64 kd,.int .u64 key,.int .u64 val,.int .i64 lv,.pointer (some ⟨o,ro,none⟩),mvL FF o,mvL OV o]::R)) w1:=hE1.perm (List.perm_middle (l₁:=[_,_,_,_])).symm
 refine (new_a kd key val lv HH.out hE2).mono ?_
 rintro e w6 hc6
 rcases hc6 with ⟨-,rfl,hE6⟩ | ⟨h9,-⟩
 rotate_left
 ·exact absurd HD.out h9
 clear hE1 hE2 r
 have r:=hE6.rule 4 rfl
 have hE7:=(hE6.perm (List.perm_middle (l₁:=[_,_,_,_]))).sub (.cons _ (List.Sublist.refl _))
 have HC:=Lib.hid (cameOver_n (c:=S.c) (kd:=kd) (key:=key) (val:=val) (lv:=lv) (ro:=ro) (FF:=FF) 4 (.inr rfl) hx Q hE7 HO.out)
 rw [HV.out] at HC
 go_wp2_with fail
 refine HC.out.mono ?_
 rintro e w2 ⟨s2,rfl,hq⟩
 go_wp2_with fail
 go_ret
 exact ⟨s2,rfl,hq⟩
theorem slotAlloc_n {m:Nat} {vs:List Value} (hm:R[m]?=some (boxI o vs)) (hv:ro < vs.length) (hh:S.hs=0) (hd:decP S.ql S.ce S.cl≠0) (hE:Env w0 (LT S R) w) :
  Calls Tryz.prog 200 #[ndV S.c kd key val lv o ro FF OV] w fun e w'=>e=.returned (.int .i64 0)/\∃ b1 b2 l,Env w0 (boxI b1 [mvL 228 l]::boxI b2 [cmV S.c kd key val lv o ro FF OV]::boxI l (av S.c { nx:=nxA l (decP S.ql S.ce S.cl),left:=.slice none 0 0,k:=kd,key:=key,val:=val,lv:=lv,h:=0,n:=0,r:=0,s:=0 })::LT S (R.set m (boxI o (vs.set ro (cvP b1 b2))))) w':=by
 have hmf:=makeF
 have hE1:=hE.box w.heap.size rfl (ndL S.c kd key val lv o ro FF OV) 279
 have r:=hE1.rule 0 rfl
 have HH:=Lib.hid hh
 have HD:=Lib.hid hd
 have HM:=Lib.hid hm
 have HVS:=Lib.hid hv
 have hV:ndV S.c kd key val lv o ro FF OV=.agg #[.pointer (some ⟨S.c,0,none⟩),.int .i64 kd,.int .u64 key,.int .u64 val,.int .i64 lv,.pointer (some ⟨o,ro,none⟩),mvL FF o,mvL OV o]:=rfl
 have HV:=Lib.hid hV
 rw [hV]
 unfold ndL at r hE1
 clear hE hV hh hd hm hv
 go_enter Tryz.func200,Tryz.ntmps200
 go_wp2_with fail
 generalize w.alloc _=w1 at *
 generalize w.heap.size=Y at *
 have hE2:Env w0 (LT S (boxI Y [.pointer (some ⟨S.c,0,none⟩),.int .i64 kd,.int .u64 key,.int .u64 val,.int .i64 lv,.pointer (some ⟨o,ro,none⟩),mvL FF o,mvL OV o]::R)) w1:=hE1.perm (List.perm_middle (l₁:=[_,_,_,_])).symm
 refine (new_a kd key val lv HH.out hE2).mono ?_
 rintro e w6 (⟨h9,-⟩ | ⟨-,l,rfl,hE6⟩)
 ·exact absurd h9 HD.out
 clear hE1 hE2 r
 have r:=hE6.rule 5 rfl
 have HP:=Lib.hid (play_r (a:=o) (o:=ro) (m+6) (.func 228) (.func 227) #[.pointer (some ⟨l,0,none⟩)] #[] #[ndV S.c kd key val lv o ro FF OV] #[] HVS.out hE6 HM.out)
 rw [HV.out] at HP
 go_wp2_with fail
 refine HP.out.mono ?_
 rintro e w2 ⟨rfl,b1,b2,hE7⟩
 go_wp2_with fail
 go_ret
 refine ⟨rfl,b1,b2,l,?_⟩
 rw [<- HV.out] at hE7
 have hE8:Env w0 (boxI b1 [mvL 228 l]::boxI b2 [cmV S.c kd key val lv o ro FF OV]::boxI l (av S.c { nx:=nxA l (decP S.ql S.ce S.cl),left:=.slice none 0 0,k:=kd,key:=key,val:=val,lv:=lv,h:=0,n:=0,r:=0,s:=0 })::LT S (boxI Y [.pointer (some ⟨S.c,0,none⟩),.int .i64 kd,.int .u64 key,.int .u64 val,.int .i64 lv,.pointer (some ⟨o,ro,none⟩),mvL FF o,mvL OV o]::R.set m (boxI o (vs.set ro (cvP b1 b2))))) w2:=hE7
 exact hE8.sub (.cons_cons _ (.cons_cons _ (.cons_cons _ (.cons_cons _ (.cons_cons _ (.cons_cons _ (.cons_cons _ (.cons _ (List.Sublist.refl _)))))))))
end
def OpAny (c:Nat) (kd key val lv:Int) (o sb:Nat) (v:World):Prop:=∃ nx9 st9 er9 dn9,Blk 0 v o (opC c kd key val lv nx9 st9 (.pointer (some ⟨sb,0,none⟩)) er9 dn9)
section
variable {w0 w:World} {L R:List Item} {o sb a c:Nat} {S:ST} {kd key val lv:Int} {nx lnx:Value} {er st x y z W C X wd:Int} {dn pf:Bool} {pv:Int}
theorem Env.sback {b:Item} (h:Env w0 (b::LT S R) w):Env w0 (LT S (b::R)) w:=h.perm (List.perm_middle (l₁:=[_,_,_,_])).symm
theorem insLink_o (hh:S.hs≠0) (hE:Env w0 (boxI o (opC S.c kd key val lv nx 0 (.pointer (some ⟨sb,0,none⟩)) er dn)::boxI sb (srC S.c 0 key false (.pointer (some ⟨a,0,none⟩)))::boxI a (laneC S.c 0 key false lnx st x y z W C X wd false pv)::LT S R) w) :
  Calls Tryz.prog 169 #[.pointer (some ⟨o,0,none⟩),.pointer (some ⟨a,0,none⟩)] w fun r w'=>r=.returned (.int .i64 0)/\∃ b1 b2 l,Env w0 (boxI o (opC S.c kd key val lv (cvP b1 b2) 0 (.pointer (some ⟨sb,0,none⟩)) er dn)::boxI b1 [mvL 25 l]::boxI b2 [mvL 199 o]::boxI l (lkC S.c x y z W C X (mvL 72 l) 0)::LT S R) w':=by
 have hmf:=makeF
 have hb:(S.hs != 0)=true:=by simpa using hh
 have r:=hE.rule 0 rfl
 unfold opC at r
 clear hh
 go_enter Tryz.func169,Tryz.ntmps169
 go_wp2_with fail
 refine (found_g (hE.get 2 rfl)).mono ?_
 rintro e w1 ⟨rfl,rfl⟩
 go_wp2_with fail
 refine (held_c (hE.get 3 rfl)).mono ?_
 rintro e w2 ⟨rfl,hb1⟩
 rw [hb]
 have hE2:=(hE.over hb1).box w2.heap.size rfl [.int .i64 S.hs,.int .i64 0] 61
 clear hb1 hE r hb
 go_wp2_with fail
 replace hE2:=hE2.sub (.cons _ (List.Sublist.refl _))
 obtain ⟨L2,hL2⟩:∃ L2,LT S R=L2:=⟨_,rfl⟩
 rw [hL2] at hE2
 have HL2:=Lib.hid hL2
 clear hL2
 generalize w2.alloc _=w3 at *
 refine Ord3.wp_chain [?_,?_,?_,?_,?_,?_,?_,?_,?_,?_,?_,?_,?_,?_] [8,9,12] (fun w'=>∃ nx9,Blk 0 w' o (opC S.c kd key val lv nx9 0 (.pointer (some ⟨sb,0,none⟩)) er dn)) (Ord3.Stage fun κs=>[Env w0 (boxI o (opC S.c kd key val lv nx 0 (.pointer (some ⟨sb,0,none⟩)) er dn)::boxI sb (srC S.c 0 key false (.pointer (some ⟨a,0,none⟩)))::boxI a (laneC S.c 0 key false lnx st x y z W C X wd false pv)::L2),fun w'=>∃ q,κs.getD 0 undef=.pointer (some ⟨q,0,none⟩)/\Env w0 (boxI q (lkC S.c x y z W C X (mvL 72 q) 0)::boxI o (opC S.c kd key val lv nx 0 (.pointer (some ⟨sb,0,none⟩)) er dn)::boxI sb (srC S.c 0 key false (.pointer (some ⟨a,0,none⟩)))::boxI a (laneC S.c 0 key false lnx st x y z W C X wd false pv)::L2) w',fun w'=>∃ q,κs.getD 1 undef=mvL 25 q/\Env w0 (boxI q (lkC S.c x y z W C X (mvL 72 q) 0)::boxI o (opC S.c kd key val lv nx 0 (.pointer (some ⟨sb,0,none⟩)) er dn)::boxI sb (srC S.c 0 key false (.pointer (some ⟨a,0,none⟩)))::boxI a (laneC S.c 0 key false lnx st x y z W C X wd false pv)::L2) w',fun w'=>∃ b1 b2 q,Env w0 (boxI b1 [mvL 25 q]::boxI b2 [mvL 199 o]::boxI q (lkC S.c x y z W C X (mvL 72 q) 0)::boxI o (opC S.c kd key val lv (cvP b1 b2) 0 (.pointer (some ⟨sb,0,none⟩)) er dn)::boxI sb (srC S.c 0 key false (.pointer (some ⟨a,0,none⟩)))::boxI a (laneC S.c 0 key false lnx st x y z W C X wd false pv)::L2) w']) (by kernel_rfl) (by kernel_rfl) (by kernel_rfl) ⟨nx,hE2.drew.get 0 rfl⟩ ⟨_,rfl,hE2.drew⟩ (fun hT=>?_)
 rotate_left 14
 have hT9:=Lib.hid hT
 clear hT
 repeat (first
  | (focus (refine Ord3.in_value (v:=?_) hT9.out (by decide) ?_ (by rfl) ?_ ?_; rotate_left 2; (focus (intro w5 hS; obtain ⟨nx9,hS9⟩:=hS; have r1:=Blk.rule hS9; unfold opC at r1; go_simp<;>with_reducible rfl)); rotate_right; (focus rfl); (try simp only [Act.put,zA,zZ,zS])))
  | (focus (refine Ord3.in_off hT9.out (by decide) ?_ (by rfl) ?_; (focus rfl); (try simp only [Act.put,zA,zZ,zS]))))
 refine Ord3.in_turn (fun u=>∃ q,u=.pointer (some ⟨q,0,none⟩)) _ ⟨0,rfl⟩ hT9.out rfl (by decide) (by rfl) ?_ (Or.inl rfl) (by rfl) ?_ ?_
 ·rfl
 ·rintro w7 hC7 ⟨P7,hP7,hA7⟩
  cases hP7
  go_simp
  simp only [Ord3.Lands]
  refine (newLink_k 2 rfl hA7).mono ?_
  rintro o8 w8 ⟨r8,rfl,hE8⟩
  exact ⟨_,rfl,⟨r8,rfl⟩,⟨nx,hE8.get 1 rfl⟩,_,rfl,r8,rfl,hE8⟩
 rintro _ ⟨r9,rfl⟩
 (try simp only [Act.put,zA,zZ,zS])
 refine Ord3.in_turn (fun u=>∃ q,u=mvL 25 q) _ ⟨0,rfl⟩ hT9.out rfl (by decide) (by rfl) ?_ (Or.inr ⟨_,8,[],rfl,by kernel_rfl,by kernel_rfl,rfl⟩) (by rfl) ?_ ?_
 ·rfl
 ·rintro w7 hC7 ⟨P7,hP7,hA7⟩
  cases hP7
  obtain ⟨r8,he,hA7⟩:=hA7
  cases he
  go_simp
  simp only [Ord3.Lands]
  exact ⟨⟨_,rfl⟩,hC7,_,rfl,r9,rfl,hA7⟩
 rintro _ ⟨r9,rfl⟩
 (try simp only [Act.put,zA,zZ,zS])
 repeat (first
  | (focus (refine Ord3.in_value (v:=?_) hT9.out (by decide) ?_ (by rfl) ?_ ?_; rotate_left 2; (focus (intro w5 hS; obtain ⟨nx9,hS9⟩:=hS; have r1:=Blk.rule hS9; unfold opC at r1; go_simp<;>with_reducible rfl)); rotate_right; (focus rfl); (try simp only [Act.put,zA,zZ,zS])))
  | (focus (refine Ord3.in_off hT9.out (by decide) ?_ (by rfl) ?_; (focus rfl); (try simp only [Act.put,zA,zZ,zS]))))
 refine Ord3.in_turn (fun u=>u=.int .i64 0) _ rfl hT9.out rfl (by decide) (by rfl) ?_ (Or.inr ⟨_,9,[],rfl,by kernel_rfl,by kernel_rfl,rfl⟩) (by rfl) ?_ ?_
 ·rfl
 ·rintro w7 hC7 ⟨P7,hP7,hA7⟩
  cases hP7
  obtain ⟨r8,he,hA7⟩:=hA7
  cases he
  go_simp
  simp only [Ord3.Lands]
  refine (play_r (o:=5) 1 _ _ _ _ _ _ (by simp [opC]) hA7 rfl).mono ?_
  rintro o8 w8 ⟨rfl,b1,b2,hE8⟩
  exact ⟨_,rfl,rfl,⟨_,hE8.get 3 rfl⟩,_,rfl,b1,b2,r9,hE8⟩
 rintro _ rfl
 (try simp only [Act.put,zA,zZ,zS])
 repeat (first
  | (focus (refine Ord3.in_value (v:=?_) hT9.out (by decide) ?_ (by rfl) ?_ ?_; rotate_left 2; (focus (intro w5 hS; skip; go_simp<;>with_reducible rfl)); rotate_right; (focus rfl); (try simp only [Act.put,zA,zZ,zS])))
  | (focus (refine Ord3.in_off hT9.out (by decide) ?_ (by rfl) ?_; (focus rfl); (try simp only [Act.put,zA,zZ,zS]))))
 refine Ord3.in_nil rfl ?_
 rintro w9 hC9 ⟨P9,hP9,hA9⟩
 cases hP9
 obtain ⟨b1,b2,q,hA9⟩:=hA9
 clear hT9 hC9 hE2
 go_wp2_with fail
 go_ret
 have h3:=HL2.out
 subst h3
 refine ⟨rfl,b1,b2,q,?_⟩
 have h9:=hA9.sub (L':=boxI b1 [mvL 25 q]::boxI b2 [mvL 199 o]::boxI q (lkC S.c x y z W C X (mvL 72 q) 0)::boxI o (opC S.c kd key val lv (cvP b1 b2) 0 (.pointer (some ⟨sb,0,none⟩)) er dn)::LT S R) (.cons_cons _ (.cons_cons _ (.cons_cons _ (.cons_cons _ (.cons _ (.cons _ (List.Sublist.refl _)))))))
 exact h9.perm (List.perm_middle (l₁:=[_,_,_]))
theorem seaInsLink_o (u:Int) (hh:S.hs≠0) (hE:Env w0 (boxI o (opC S.c 1 key val lv nx 0 (.pointer (some ⟨sb,0,none⟩)) er dn)::boxI sb (srC S.c 0 key false (.pointer (some ⟨a,0,none⟩)))::boxI a (laneC S.c 0 key false lnx st x y z W C X wd false pv)::LT S R) w) :
  Calls Tryz.prog 119 #[.pointer (some ⟨o,0,none⟩),.int .i64 u] w fun r w'=>r=.returned (.int .i64 0)/\∃ b1 b2 l,Env w0 (boxI o (opC S.c 1 key val lv (cvP b1 b2) 0 (.pointer (some ⟨sb,0,none⟩)) er dn)::boxI b1 [mvL 25 l]::boxI b2 [mvL 199 o]::boxI l (lkC S.c x y z W C X (mvL 72 l) 0)::LT S R) w':=by
 have r:=hE.rule 0 rfl
 unfold opC at r
 have HR:=Lib.hid (insLink_o hh hE)
 clear hh
 go_enter Tryz.func119,Tryz.ntmps119
 go_wp2_with fail
 refine (lane_g (hE.get 1 rfl)).mono ?_
 rintro e w1 ⟨rfl,rfl⟩
 go_wp2_with fail
 refine HR.out.mono ?_
 rintro e w1 ⟨rfl,b1,b2,l,hE2⟩
 go_wp2_with fail
 go_ret
 exact ⟨rfl,b1,b2,l,hE2⟩
theorem insLate_o (hh:S.hs=0) (hd:decP S.ql S.ce S.cl=0) (hE:Env w0 (boxI o (opC S.c kd key val lv nx 0 (.pointer (some ⟨sb,0,none⟩)) er dn)::boxI sb (srC S.c 0 key false (.pointer (some ⟨a,0,none⟩)))::boxI a (laneC S.c 0 key false lnx st x y z W C X wd false pv)::LT S R) w) :
  Calls Tryz.prog 169 #[.pointer (some ⟨o,0,none⟩),.pointer (some ⟨a,0,none⟩)] w fun r w'=>r=.returned (.int .i64 1)/\Env w0 (boxI o (opC S.c kd key val lv nx 1 (.pointer (some ⟨sb,0,none⟩)) 7 false)::LT S R) w':=by
 have hmf:=makeF
 have hb:(S.hs != 0)=false:=by simpa using hh
 have HH:=Lib.hid hh
 have HD:=Lib.hid hd
 have r:=hE.rule 0 rfl
 unfold opC at r
 clear hh hd
 go_enter Tryz.func169,Tryz.ntmps169
 go_wp2_with fail
 refine (found_g (hE.get 2 rfl)).mono ?_
 rintro e w1 ⟨rfl,rfl⟩
 go_wp2_with fail
 refine (held_c (hE.get 3 rfl)).mono ?_
 rintro e w2 ⟨rfl,hb1⟩
 rw [hb]
 have hE2:=(hE.over hb1).box w2.heap.size rfl [.int .i64 S.hs,.int .i64 0] 61
 clear hb1 hE r hb
 go_wp2_with fail
 replace hE2:=hE2.sub (L':=boxI o (opC S.c kd key val lv nx 0 (.pointer (some ⟨sb,0,none⟩)) er dn)::LT S R) (.cons _ (.cons_cons _ (.cons _ (.cons _ (List.Sublist.refl _)))))
 generalize w2.alloc _=w3 at *
 refine Ord.wp_chain [16] (OpAny S.c kd key val lv o sb) (Stage [Env w0 (boxI o (opC S.c kd key val lv nx 0 (.pointer (some ⟨sb,0,none⟩)) er dn)::LT S R),Env w0 (boxI o (opC S.c kd key val lv nx 1 (.pointer (some ⟨sb,0,none⟩)) 7 false)::LT S R)]) (by kernel_rfl) (by kernel_rfl) (by kernel_rfl) ⟨nx,0,er,dn,hE2.drew.get 0 rfl⟩ ⟨_,rfl,hE2.drew⟩ (fun hT=>?_)
 have hT9:=Lib.hid hT
 clear hT
 repeat (first
  | (refine Ord.ch_value (v:=?_) hT9.out (by decide) (by rfl) ?_ ?_; rotate_left; (focus (intro w5 hS; obtain ⟨nx9,st9,er9,dn9,hS9⟩:=hS; have r:=Blk.rule hS9; unfold opC at r; go_simp<;>with_reducible rfl)); (try simp only [Act.put,zA,zZ,zS]))
  | (refine Ord.ch_off hT9.out (by decide) (by rfl) ?_; (try simp only [Act.put,zA,zZ,zS])))
 refine Ord.ch_turn (v:=.int .i64 1) 0 hT9.out rfl (by decide) (Or.inl rfl) (by rfl) ?_ ?_
 ·rintro w5 hC5 ⟨P5,hP5,hA5⟩
  cases hP5
  go_simp
  simp only [Ord.LandsIn]
  refine (slotLate_n (S:=S) (R:=boxI o (opC S.c kd key val lv nx 0 (.pointer (some ⟨sb,0,none⟩)) er dn)::R) (kd:=kd) (key:=key) (val:=val) (lv:=lv) (o:=o) (ro:=5) (FF:=67) (OV:=171) (fun _ _=>by kernel_rfl) HH.out HD.out (fun s2 v=>s2=1/\Env w0 (boxI o (opC S.c kd key val lv nx 1 (.pointer (some ⟨sb,0,none⟩)) 7 false)::LT S R) v) hA5.sback fun v hv=>(over_o 7 false hv.sfront).mono ?_).mono ?_
  ·rintro e w6 ⟨rfl,hE6⟩
   exact ⟨1,rfl,rfl,hE6⟩
  ·rintro e w6 ⟨s2,rfl,rfl,hE6⟩
   exact ⟨rfl,⟨_,_,_,_,hE6.get 0 rfl⟩,_,rfl,hE6⟩
 (try simp only [Act.put,zA,zZ,zS])
 repeat (first
  | (refine Ord.ch_value (v:=?_) hT9.out (by decide) (by rfl) ?_ ?_; rotate_left; (focus (intro w5 hS; skip; go_simp<;>with_reducible rfl)); (try simp only [Act.put,zA,zZ,zS]))
  | (refine Ord.ch_off hT9.out (by decide) (by rfl) ?_; (try simp only [Act.put,zA,zZ,zS])))
 refine Ord.InText.nil fun w5 hS=>?_
 clear hT9
 obtain ⟨hC9,hA9⟩:=Ord.chain_end hS
 clear hS
 obtain ⟨P9,hP9,hA9⟩:=hA9
 cases hP9
 clear hC9 hE2
 go_wp2_with fail
 go_ret
 exact ⟨rfl,hA9⟩
theorem seaInsLate_o (u:Int) (hh:S.hs=0) (hd:decP S.ql S.ce S.cl=0) (hE:Env w0 (boxI o (opC S.c 1 key val lv nx 0 (.pointer (some ⟨sb,0,none⟩)) er dn)::boxI sb (srC S.c 0 key false (.pointer (some ⟨a,0,none⟩)))::boxI a (laneC S.c 0 key false lnx st x y z W C X wd false pv)::LT S R) w) :
  Calls Tryz.prog 119 #[.pointer (some ⟨o,0,none⟩),.int .i64 u] w fun r w'=>r=.returned (.int .i64 1)/\Env w0 (boxI o (opC S.c 1 key val lv nx 1 (.pointer (some ⟨sb,0,none⟩)) 7 false)::LT S R) w':=by
 have r:=hE.rule 0 rfl
 unfold opC at r
 have HR:=Lib.hid (insLate_o hh hd hE)
 clear hh hd
 go_enter Tryz.func119,Tryz.ntmps119
 go_wp2_with fail
 refine (lane_g (hE.get 1 rfl)).mono ?_
 rintro e w1 ⟨rfl,rfl⟩
 go_wp2_with fail
 refine HR.out.mono ?_
 rintro e w1 ⟨rfl,hE2⟩
 go_wp2_with fail
 go_ret
 exact ⟨rfl,hE2⟩
theorem insAlloc_o (hh:S.hs=0) (hd:decP S.ql S.ce S.cl≠0) (hE:Env w0 (boxI o (opC S.c kd key val lv nx 0 (.pointer (some ⟨sb,0,none⟩)) er dn)::boxI sb (srC S.c 0 key false (.pointer (some ⟨a,0,none⟩)))::boxI a (laneC S.c 0 key false lnx st x y z W C X wd false pv)::LT S R) w) :
  Calls Tryz.prog 169 #[.pointer (some ⟨o,0,none⟩),.pointer (some ⟨a,0,none⟩)] w fun r w'=>r=.returned (.int .i64 0)/\∃ b1 b2 l,Env w0 (boxI o (opC S.c kd key val lv (cvP b1 b2) 0 (.pointer (some ⟨sb,0,none⟩)) er dn)::boxI b1 [mvL 228 l]::boxI b2 [cmV S.c kd key val lv o 5 67 171]::boxI l (av S.c { nx:=nxA l (decP S.ql S.ce S.cl),left:=.slice none 0 0,k:=kd,key:=key,val:=val,lv:=lv,h:=0,n:=0,r:=0,s:=0 })::LT S R) w':=by
 have hmf:=makeF
 have hb:(S.hs != 0)=false:=by simpa using hh
 have HH:=Lib.hid hh
 have HD:=Lib.hid hd
 have r:=hE.rule 0 rfl
 unfold opC at r
 clear hh hd
 go_enter Tryz.func169,Tryz.ntmps169
 go_wp2_with fail
 refine (found_g (hE.get 2 rfl)).mono ?_
 rintro e w1 ⟨rfl,rfl⟩
 go_wp2_with fail
 refine (held_c (hE.get 3 rfl)).mono ?_
 rintro e w2 ⟨rfl,hb1⟩
 rw [hb]
 have hE2:=(hE.over hb1).box w2.heap.size rfl [.int .i64 S.hs,.int .i64 0] 61
 clear hb1 hE r hb
 go_wp2_with fail
 replace hE2:=hE2.sub (L':=boxI o (opC S.c kd key val lv nx 0 (.pointer (some ⟨sb,0,none⟩)) er dn)::LT S R) (.cons _ (.cons_cons _ (.cons _ (.cons _ (List.Sublist.refl _)))))
 generalize w2.alloc _=w3 at *
 refine Ord.wp_chain [16] (OpAny S.c kd key val lv o sb) (Stage [Env w0 (boxI o (opC S.c kd key val lv nx 0 (.pointer (some ⟨sb,0,none⟩)) er dn)::LT S R),fun v=>∃ b1 b2 l,Env w0 (boxI o (opC S.c kd key val lv (cvP b1 b2) 0 (.pointer (some ⟨sb,0,none⟩)) er dn)::boxI b1 [mvL 228 l]::boxI b2 [cmV S.c kd key val lv o 5 67 171]::boxI l (av S.c { nx:=nxA l (decP S.ql S.ce S.cl),left:=.slice none 0 0,k:=kd,key:=key,val:=val,lv:=lv,h:=0,n:=0,r:=0,s:=0 })::LT S R) v]) (by kernel_rfl) (by kernel_rfl) (by kernel_rfl) ⟨nx,0,er,dn,hE2.drew.get 0 rfl⟩ ⟨_,rfl,hE2.drew⟩ (fun hT=>?_)
 have hT9:=Lib.hid hT
 clear hT
 repeat (first
  | (refine Ord.ch_value (v:=?_) hT9.out (by decide) (by rfl) ?_ ?_; rotate_left; (focus (intro w5 hS; obtain ⟨nx9,st9,er9,dn9,hS9⟩:=hS; have r:=Blk.rule hS9; unfold opC at r; go_simp<;>with_reducible rfl)); (try simp only [Act.put,zA,zZ,zS]))
  | (refine Ord.ch_off hT9.out (by decide) (by rfl) ?_; (try simp only [Act.put,zA,zZ,zS])))
 refine Ord.ch_turn (v:=.int .i64 0) 0 hT9.out rfl (by decide) (Or.inl rfl) (by rfl) ?_ ?_
 ·rintro w5 hC5 ⟨P5,hP5,hA5⟩
  cases hP5
  go_simp
  simp only [Ord.LandsIn]
  refine (slotAlloc_n (S:=S) (R:=boxI o (opC S.c kd key val lv nx 0 (.pointer (some ⟨sb,0,none⟩)) er dn)::R) (kd:=kd) (key:=key) (val:=val) (lv:=lv) (o:=o) (ro:=5) (FF:=67) (OV:=171) (m:=0) rfl (by simp [opC]) HH.out HD.out hA5.sback).mono ?_
  rintro e w6 ⟨rfl,b1,b2,l,hE6⟩
  have hE7:Env w0 (boxI o (opC S.c kd key val lv (cvP b1 b2) 0 (.pointer (some ⟨sb,0,none⟩)) er dn)::boxI b1 [mvL 228 l]::boxI b2 [cmV S.c kd key val lv o 5 67 171]::boxI l (av S.c { nx:=nxA l (decP S.ql S.ce S.cl),left:=.slice none 0 0,k:=kd,key:=key,val:=val,lv:=lv,h:=0,n:=0,r:=0,s:=0 })::LT S R) w6:=hE6.perm (List.perm_middle (l₁:=[_,_,_,_,_,_,_]))
  exact ⟨rfl,⟨_,_,_,_,hE7.get 0 rfl⟩,_,rfl,b1,b2,l,hE7⟩
 (try simp only [Act.put,zA,zZ,zS])
 repeat (first
  | (refine Ord.ch_value (v:=?_) hT9.out (by decide) (by rfl) ?_ ?_; rotate_left; (focus (intro w5 hS; skip; go_simp<;>with_reducible rfl)); (try simp only [Act.put,zA,zZ,zS]))
  | (refine Ord.ch_off hT9.out (by decide) (by rfl) ?_; (try simp only [Act.put,zA,zZ,zS])))
 refine Ord.InText.nil fun w5 hS=>?_
 clear hT9
 obtain ⟨hC9,hA9⟩:=Ord.chain_end hS
 clear hS
 obtain ⟨P9,hP9,hA9⟩:=hA9
 cases hP9
 obtain ⟨b1,b2,l,hA9⟩:=hA9
 clear hC9 hE2
 go_wp2_with fail
 go_ret
 exact ⟨rfl,b1,b2,l,hA9⟩
theorem seaInsAlloc_o (u:Int) (hh:S.hs=0) (hd:decP S.ql S.ce S.cl≠0) (hE:Env w0 (boxI o (opC S.c 1 key val lv nx 0 (.pointer (some ⟨sb,0,none⟩)) er dn)::boxI sb (srC S.c 0 key false (.pointer (some ⟨a,0,none⟩)))::boxI a (laneC S.c 0 key false lnx st x y z W C X wd false pv)::LT S R) w) :
  Calls Tryz.prog 119 #[.pointer (some ⟨o,0,none⟩),.int .i64 u] w fun r w'=>r=.returned (.int .i64 0)/\∃ b1 b2 l,Env w0 (boxI o (opC S.c 1 key val lv (cvP b1 b2) 0 (.pointer (some ⟨sb,0,none⟩)) er dn)::boxI b1 [mvL 228 l]::boxI b2 [cmV S.c 1 key val lv o 5 67 171]::boxI l (av S.c { nx:=nxA l (decP S.ql S.ce S.cl),left:=.slice none 0 0,k:=1,key:=key,val:=val,lv:=lv,h:=0,n:=0,r:=0,s:=0 })::LT S R) w':=by
 have r:=hE.rule 0 rfl
 unfold opC at r
 have HR:=Lib.hid (insAlloc_o hh hd hE)
 clear hh hd
 go_enter Tryz.func119,Tryz.ntmps119
 go_wp2_with fail
 refine (lane_g (hE.get 1 rfl)).mono ?_
 rintro e w1 ⟨rfl,rfl⟩
 go_wp2_with fail
 refine HR.out.mono ?_
 rintro e w1 ⟨rfl,b1,b2,l,hE2⟩
 go_wp2_with fail
 go_ret
 exact ⟨rfl,b1,b2,l,hE2⟩
end
structure LaneOk (C:Cf) (L:Lm):Prop where
 (ok:LmOk L)
 (wf:Wf L.p)
 (at9:L.p=(4,0,0)\/∃ c,L.p=(5,c,7))
 (x:6<=L.pc->markB L.X=false)
 (c:3<=L.pc->1<=L.C)
 (sw:slotI L.W<=C.s)
 (sx:slotI L.X<=C.s)
 (cs:L.C<=C.s)
structure SpotOk (C:Cf) (L:Lm):Prop where
 (W:InU L.W)
 (X:InU L.X)
 (wf:Wf L.p)
 (at9:L.p=(4,0,0)\/∃ c,L.p=(5,c,7))
 (Cr:0<=L.C/\L.C<=8388607)
 (fd:L.fd=true->1<=L.C/\markB L.X=false)
 (sw:slotI L.W<=C.s)
 (sx:slotI L.X<=C.s)
 (cs:L.C<=C.s)
def SIt (c sb:Nat) (key:Int) (on:Bool) (L:Lm) (s:Int) (sub:List Item):Prop :=
 (on=false/\s=0/\(sub=[boxI sb (srC c 0 key false (.pointer none))]\/∃ a L' nx wd B1 B2,sub=[boxI sb (srC c 0 key false (.pointer (some ⟨a,0,none⟩))),boxI a (laneV c 0 key false nx 2 wd (pfS 2 L') (pvS 2 L') L'),B1,B2])) \/
 (on=true/\∃ a nx wd B1 B2,(s=0->NxOk a L.pc nx B1 B2/\(L.pc=7->wd=L.K)/\(L.pc=9->wd=L.V))/\sub=[boxI sb (srC c 0 key false (.pointer (some ⟨a,0,none⟩))),boxI a (laneV c 0 key false nx s wd (pfS s L) (pvS s L) L),B1,B2])
section
variable {w0 w:World} {R sub:List Item} {sb:Nat} {S:ST} {key s e r:Int} {on:Bool} {L:Lm} {T:Sm}
theorem SIt.toR (h:SIt S.c sb key on L s sub) (he:S.ce=e) (hr:S.cr=r) (hE:Env w0 (sub++LT S R) w):SrchR w0 R sb 0 key false S s ⟨on,L,e,r⟩ w:=by
 rcases h with ⟨rfl,rfl,rfl | ⟨a,L',nx,wd,B1,B2,rfl⟩⟩ | ⟨rfl,a,nx,wd,B1,B2,hn,rfl⟩
 ·exact ⟨he,hr,.inl ⟨rfl,rfl,.inl hE⟩⟩
 ·exact ⟨he,hr,.inl ⟨rfl,rfl,.inr ⟨a,L',nx,wd,B1,B2,fun h=>absurd h (by decide),hE.perm (List.perm_middle (l₁:=[_,_,_,_,_,_,_])).symm⟩⟩⟩
 ·exact ⟨he,hr,.inr ⟨rfl,a,nx,wd,B1,B2,hn,hE.perm (List.perm_middle (l₁:=[_,_,_,_,_,_,_])).symm⟩⟩
theorem SrchR.toI (h:SrchR w0 R sb 0 key false S s T w):∃ sub,SIt S.c sb key T.on T.L s sub/\Env w0 (sub++LT S R) w:=by
 obtain ⟨-,-,⟨hoff,rfl,hE | ⟨a,L',nx,wd,B1,B2,-,hE⟩⟩ | ⟨hon,a,nx,wd,B1,B2,hn,hE⟩⟩:=h
 ·exact ⟨_,.inl ⟨hoff,rfl,.inl rfl⟩,hE⟩
 ·exact ⟨[_,_,B1,B2],.inl ⟨hoff,rfl,.inr ⟨a,L',nx,wd,B1,B2,rfl⟩⟩,hE.perm (List.perm_middle (l₁:=[_,_,_,_,_,_,_]))⟩
 ·exact ⟨[_,_,B1,B2],.inr ⟨hon,a,nx,wd,B1,B2,hn,rfl⟩,hE.perm (List.perm_middle (l₁:=[_,_,_,_,_,_,_]))⟩
end
def SPK (C:Cf) (X:Tm) (V:Wm) (K:Kt) (f:Mem) (G:Nat->Prop) (qc:Cnt) (n:Nat):ST:=SP C { X with cr:=K.r } V K.T f G qc n
section
variable {w0 w:World} {R sub:List Item} {C:Cf} {X:Tm} {V:Wm} {f:Mem} {G:Nat->Prop} {qc:Cnt} {n sb:Nat} {key:Int} {on:Bool} {L:Lm} {T:Th} {r:Int}
theorem search_I (hT:on=true->LaneOk C L) (hg:Glo w0) (hn:n < maxLen) (hS:SIt X.c sb key on L 0 sub) (hE:Env w0 (sub++LT (SP C { X with cr:=r } V T f G qc n) R) w) :
  Calls Tryz.prog 118 #[.pointer (some ⟨sb,0,none⟩),.iface 26 (.pointer (some ⟨V.p,0,none⟩))] w fun o w'=>o=.returned (.int .i64 (searchM 0 key false ⟨on,L,T.e,r⟩ f).1)/\∃ G' qc' n' sub',Nx n qc n' qc'/\SIt X.c sb key (searchM 0 key false ⟨on,L,T.e,r⟩ f).2.1.on (searchM 0 key false ⟨on,L,T.e,r⟩ f).2.1.L (searchM 0 key false ⟨on,L,T.e,r⟩ f).1 sub'/\Env w0 (sub'++LT (SP C { X with cr:=(searchM 0 key false ⟨on,L,T.e,r⟩ f).2.1.r } V { T with e:=(searchM 0 key false ⟨on,L,T.e,r⟩ f).2.1.e } (searchM 0 key false ⟨on,L,T.e,r⟩ f).2.2 G' qc' n') R) w':=by
 have hR:=hS.toR (S:=SP C { X with cr:=r } V T f G qc n) (e:=T.e) (r:=r) rfl rfl hE
 refine (search_l (S:=SP C { X with cr:=r } V T f G qc n) (T:=⟨on,L,T.e,r⟩) (fun h=>⟨(hT h).ok,(hT h).wf⟩) hg hn hR).mono ?_
 rintro o w1 ⟨rfl,G',hR'⟩
 have hR2:=hR'
 obtain ⟨sub',hS',hE'⟩:=hR'.toI
 refine ⟨rfl,(searchS key false (SP C { X with cr:=r } V T f G qc n) ⟨on,L,T.e,r⟩ G').G,(searchS key false (SP C { X with cr:=r } V T f G qc n) ⟨on,L,T.e,r⟩ G').qc,(searchS key false (SP C { X with cr:=r } V T f G qc n) ⟨on,L,T.e,r⟩ G').m,sub',⟨?_,?_⟩,?_,?_⟩
 ·unfold searchS
  cases on
  ·exact Nat.le_succ n
  ·show (laneS 0 key false (SP C { X with cr:=r } V T f G qc n) L G').m<=n+1
   unfold laneS
   dsimp only
   split
   ·exact Nat.le_refl _
   ·exact Nat.le_succ n
 ·unfold searchS
  cases on
  ·exact Or.inl ⟨rfl,rfl,rfl,rfl⟩
  ·show One qc (laneS 0 key false (SP C { X with cr:=r } V T f G qc n) L G').qc
   unfold laneS laneQ
   dsimp only
   split
   ·unfold swq
    first | exact Or.inr (Or.inr (Or.inl ⟨rfl,rfl,rfl,rfl⟩)) | (split<;>exact Or.inr (Or.inr (Or.inl ⟨rfl,rfl,rfl,rfl⟩)))
   ·exact Or.inl ⟨rfl,rfl,rfl,rfl⟩
 ·cases on<;>exact hS'
 ·cases on<;>exact hE'
end
structure COk (C:Cf):Prop where
 (s:1<=C.s/\C.s<=8388607)
 (l:1<=C.l/\C.l<=1099511627775)
structure OkF (C:Cf) (f:Mem):Prop where
 (u:∀ x,InU (f x))
 (pool:slotI (f (2,0,0))<=C.s)
 (chain:∀ i,slotI (f (5,i,2))<=C.s)
 (ep:f (1,0,0)<=C.l)
structure OkT (C:Cf) (ds:List Dd) (B:Nat) (T:Th):Prop where
 (e:0<=T.e/\T.e<=C.l)
 (w:InU T.ah/\InU T.an/\InU T.ar)
 (hs:0<=T.hs/\T.hs<=C.s)
 (rs:0<=T.rs/\T.rs<=C.s)
 (ql:∀ x∈T.ql,1<=x.1/\x.1<=C.s/\x.2.2=0)
 (nd:T.nd<=ds.length)
 (len:T.ql.length+(ds.length - T.nd)<=B)
 (done:0<=T.done/\T.done<=B)
 (pc:T.pc=0\/T.pc=1\/T.pc=2\/T.pc=3\/T.pc=4)
 (p1:T.pc=1->T.hs=0)
 (nd1:T.pc≠0->1<=T.nd)
 (apc:T.pc=2->T.apc=1\/T.apc=2\/T.apc=3\/T.apc=4\/T.apc=5\/T.apc=6\/10<=T.apc)
 (low:T.pc=2->T.apc<=10->T.hs=0)
 (adv:T.pc=2->T.apc=1->T.e < C.l)
 (born:T.pc=2->T.apc=10->T.ql≠[])
 (pool:T.pc=2->4<=T.apc->T.apc<=6->1<=slotI T.ah/\slotI T.ah<=C.s/\verI T.ah < C.l)
 (an:slotI T.an<=C.s)
 (rpc:T.pc=3->T.rpc=0\/T.rpc=1)
 (rsp:T.pc=3->1<=T.rs)
 (re:0<=T.re/\T.re<=C.l)
 (gpc:T.gpc<=3)
 (give:T.pc=4->1<=T.gpc->T.ql≠[])
 (ghu:InU T.gh)
 (gh:slotI T.gh<=C.s)
 (gv:T.pc=4->2<=T.gpc->verI T.gh < C.l)
theorem no {a b:Nat} {P:Prop} (h:a=b) (hab:(a==b)=false):P:=by
 simp at hab
 exact absurd h hab
theorem slot_next {x s S:Int} (h0:0<=S) (hs:s<=S):slotI (nextW x s)<=S:=by
 have h9:slotI 0=0:=by decide
 unfold nextW
 split
 ·rename_i h
  have:=isS_parts h
  have hv:=verI_in x
  split
  ·omega
  ·rw [slot_word (isL_mk this.1 this.2 (by omega) (by omega))]
   exact hs
 ·omega
theorem slot_link {s S:Int} (h0:0<=S) (hs:s<=S):slotI (wordI false s 0)<=S:=by
 have h9:slotI 0=0:=by decide
 by_cases h:isL s 0=true
 ·rw [slot_word h]; exact hs
 ·rw [wordI_no (by simpa using h)]; omega
theorem epI_of {x l:Int} (hx:InU x) (h:x<=l) (hl:l<=1099511627775):epI x=x/\0<=x:=by
 unfold InU at hx
 unfold epI
 rw [if_pos (by omega)]
 exact ⟨rfl,by omega⟩
theorem swf_at (f:Mem) (x y:Plc) (o v:Int):swf f x o v y=if y=x/\f x=o then v else f y:=by
 unfold swf upd
 by_cases h:f x=o
 ·rw [if_pos h]
  by_cases hy:y=x
  ·rw [if_pos hy,if_pos ⟨hy,h⟩]
  ·rw [if_neg hy,if_neg (fun h2=>hy h2.1)]
 ·rw [if_neg h,if_neg (fun h2=>h h2.2)]
theorem part_ne (ck e key val lv:Int) (k:Nat):((wordsA ck e key val lv).getD k (0,0)).1≠2:=by
 rw [List.getD_eq_getElem?_getD]
 rcases h:(wordsA ck e key val lv)[k]? with _ | ⟨a,b⟩
 ·simp
 ·have hm:(a,b)∈wordsA ck e key val lv:=List.mem_of_getElem? h
  simp only [Option.getD_some]
  unfold wordsA at hm
  split at hm
  ·simp at hm
   rcases hm with ⟨rfl,rfl⟩ | ⟨rfl,rfl⟩ | ⟨rfl,rfl⟩ | ⟨rfl,rfl⟩<;>decide
  ·split at hm
   ·simp at hm
    rcases hm with ⟨rfl,rfl⟩ | ⟨rfl,rfl⟩ | ⟨rfl,rfl⟩ | ⟨rfl,rfl⟩ | ⟨rfl,rfl⟩<;>decide
   ·simp at hm
    rcases hm with ⟨rfl,rfl⟩ | ⟨rfl,rfl⟩ | ⟨rfl,rfl⟩<;>decide
section
variable {C:Cf} {ds:List Dd} {B:Nat} {T:Th} {f:Mem} {d:Dd}
theorem OkT.more (h:OkT C ds B T):OkT C ds (B+1) T :=
 { h with len:=by have:=h.len; omega,done:=by have:=h.done; constructor<;>omega }
theorem OkF.upd (h:OkF C f) {x:Plc} {v:Int} (h1:x≠(1,0,0)) (h2:x≠(2,0,0)) (h3:∀ i,x=(5,i,2)->slotI v<=C.s) (hu:∀ y,InU (Proofs.YthcblagpbkaoaaaGreatDoor.upd f x v y)):OkF C (Proofs.YthcblagpbkaoaaaGreatDoor.upd f x v):=by
 refine ⟨hu,?_,?_,?_⟩
 ·rw [upd_other f v (fun e=>h2 e.symm)]; exact h.pool
 ·intro i
  by_cases hx:(5,i,2)=x
  ·rw [<- hx,upd_same]; exact h3 i hx.symm
  ·rw [upd_other f v hx]; exact h.chain i
 ·rw [upd_other f v (fun e=>h1 e.symm)]; exact h.ep
theorem OkF.swp (h:OkF C f) {o v:Int} (hv:slotI v<=C.s) (hu:∀ y,InU (swf f (2,0,0) o v y)):OkF C (swf f (2,0,0) o v):=by
 refine ⟨hu,?_,?_,?_⟩
 ·rw [swf_at]; split
  ·exact hv
  ·exact h.pool
 ·intro i
  rw [swf_at,if_neg (by simp)]; exact h.chain i
 ·rw [swf_at,if_neg (by simp)]; exact h.ep
theorem OkF.swe (h:OkF C f) {o v:Int} (hv:v<=C.l) (hu:∀ y,InU (swf f (1,0,0) o v y)):OkF C (swf f (1,0,0) o v):=by
 refine ⟨hu,?_,?_,?_⟩
 ·rw [swf_at,if_neg (by simp)]; exact h.pool
 ·intro i
  rw [swf_at,if_neg (by simp)]; exact h.chain i
 ·rw [swf_at]; split
  ·exact hv
  ·exact h.ep
end
end Go.Proofs.YthcblagpbkaoaaaGreatDoor
