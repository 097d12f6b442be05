/- What is proved on the way to the statement, part 13: contracts of the functions, among other things in memory. -/
import Derived.Test.YthcblagpbkaoaaaGreatDoorM12

namespace Go.Proofs.YthcblagpbkaoaaaGreatDoor
open Go.RowKit Go.Maps
set_option maxRecDepth 100000
set_option maxHeartbeats 25600000
section
variable {w0 w:World} {R sub2:List Item} {C:Cf} {X:Tm} {V:Wm} {K:Kt} {d:Dd} {f:Mem} {G:Nat->Prop} {qc:Cnt} {n o l r s2 b1 b2 b3 b4:Nat} {sp:Value}
theorem op4_p (hpc:K.pc=4) (hX:InU K.L.X) (hmk:markB K.L.X=false) (hs0:K.T.hs=0) (hC:In64 K.L.C) (hda:K.err=0/\K.dn=false) (hg:Glo w0) (hn:n < maxLen)
  (hE:Env w0 (boxI o (opC X.c d.ok d.key d.val d.lv (cvP b1 b2) 0 sp 0 false)::boxI b1 [mvL 26 l]::boxI b2 [mvL 199 o]::([boxI l (ukC X.c K.L.p.1 K.L.p.2.1 K.L.p.2.2 K.L.W K.L.C K.L.X 0 d.key (slotI K.L.X) (mvL 73 l) 0)]++LT (SPK C X V K f G qc n) R)) w) :
  Calls Tryz.prog 27 #[.pointer (some ⟨o,0,none⟩),.iface 26 (.pointer (some ⟨V.p,0,none⟩))] w fun e w'=>∃ s,e=.returned (.int .i64 s)/\OutP w0 R C X V d o n qc (opM C d K f) s w':=by
 refine step_o 26 l 199 _ (fun _ _=>by kernel_rfl) (fun _ _=>by kernel_rfl) _ hE ?_
 have hE1:=hE.perm (rest_perm _ _ _ _ _ _)
 refine stepMv_u 73 _ (fun _ _=>by kernel_rfl) _ hE1 ?_
 refine (mark_k (S:=SPK C X V K f G qc n) hX hmk hs0 hC hg hn hE1).mono ?_
 rintro e w1 ⟨rfl,G',nx',hnx,hE2⟩
 by_cases heq:f (5,K.L.C,7)=K.L.X
 ·have heq':(SPK C X V K f G qc n).f (5,K.L.C,7)=K.L.X:=heq
  have hM:opM C d K f=(0,{ K with pc:=5 },swf f (5,K.L.C,7) K.L.X (markM K.L.X K.T.e)):=by
   unfold opM
   rw [if_neg (by omega),if_neg (by omega),if_neg (by omega),if_pos hpc,if_pos heq]
  rw [hM]
  rw [if_pos heq'] at hE2 ⊢
  refine ⟨0,rfl,0,rfl,fun _=>?_,fun h=>absurd rfl h⟩
  have hnx:=hnx heq'
  subst hnx
  exact OutP.go (K:={ K with pc:=5 }) (F:=X.F) (k:=X.kq) (sub:=[_]) ⟨Nat.le_refl _,(by first | exact Or.inl ⟨rfl,rfl,rfl,rfl⟩ | exact Or.inr (Or.inl ⟨rfl,rfl,rfl,rfl⟩) | exact Or.inr (Or.inr (Or.inl ⟨rfl,rfl,rfl,rfl⟩)) | exact Or.inr (Or.inr (Or.inr ⟨rfl,rfl,rfl,rfl⟩)))⟩ (.inr (.inr (.inr (.inl ⟨.inr rfl,l,rfl,rfl,rfl⟩)))) (hE2.perm (rest_perm _ _ _ _ [_] _).symm)
 ·have heq':¬ (SPK C X V K f G qc n).f (5,K.L.C,7)=K.L.X:=heq
  have hM:opM C d K f=(0,findM K,swf f (5,K.L.C,7) K.L.X (markM K.L.X K.T.e)):=by
   unfold opM
   rw [if_neg (by omega),if_neg (by omega),if_neg (by omega),if_pos hpc,if_neg heq]
  rw [hM]
  rw [if_neg heq'] at hE2 ⊢
  refine ⟨2,rfl,2,rfl,fun h=>absurd h (by decide),fun _=>?_⟩
  have hE3:=hE2.perm (rest_perm (boxI o (opC X.c d.ok d.key d.val d.lv (cvP b1 b2) 0 sp 0 false)) (boxI b1 [mvL 26 l]) (boxI b2 [mvL 199 o]) _ [_] R).symm
  refine ⟨hE3.rule 2 rfl 0,?_⟩
  have hE4:=hE3.sub (L':=boxI o (opC X.c d.ok d.key d.val d.lv (cvP b1 b2) 0 sp 0 false)::LT _ R) (.cons_cons _ (.cons _ (.cons _ (.cons _ (List.Sublist.refl _)))))
  refine (changedFind_o hE4).mono ?_
  rintro e w2 ⟨rfl,c1,c2,sb,hE5⟩
  exact ⟨0,rfl,OutP.find (K0:=K) (F:=X.F) (k:=X.kq) hda ⟨Nat.le_refl _,(by first | exact Or.inl ⟨rfl,rfl,rfl,rfl⟩ | exact Or.inr (Or.inl ⟨rfl,rfl,rfl,rfl⟩) | exact Or.inr (Or.inr (Or.inl ⟨rfl,rfl,rfl,rfl⟩)) | exact Or.inr (Or.inr (Or.inr ⟨rfl,rfl,rfl,rfl⟩)))⟩ hE5⟩
theorem op5_p (hpc:K.pc=5) (hwf:Wf K.L.p) (hg:Glo w0) (hn:n < maxLen)
  (hE:Env w0 (boxI o (opC X.c d.ok d.key d.val d.lv (cvP b1 b2) 0 sp 0 false)::boxI b1 [mvL 26 l]::boxI b2 [mvL 199 o]::([boxI l (ukC X.c K.L.p.1 K.L.p.2.1 K.L.p.2.2 K.L.W K.L.C K.L.X 0 d.key (slotI K.L.X) (mvL 136 l) 0)]++LT (SPK C X V K f G qc n) R)) w) :
  Calls Tryz.prog 27 #[.pointer (some ⟨o,0,none⟩),.iface 26 (.pointer (some ⟨V.p,0,none⟩))] w fun e w'=>∃ s,e=.returned (.int .i64 s)/\OutP w0 R C X V d o n qc (opM C d K f) s w':=by
 refine step_o 26 l 199 _ (fun _ _=>by kernel_rfl) (fun _ _=>by kernel_rfl) _ hE ?_
 have hE1:=hE.perm (rest_perm _ _ _ _ _ _)
 refine stepMv_u 136 _ (fun _ _=>by kernel_rfl) _ hE1 ?_
 refine (cut_k (S:=SPK C X V K f G qc n) hwf hg hn hE1).mono ?_
 rintro e w1 ⟨rfl,G',b3,b4,hc⟩
 refine ⟨0,rfl,0,rfl,fun _=>?_,fun h=>absurd rfl h⟩
 rcases hc with ⟨heq,r,hE2⟩ | ⟨heq,sb,hE2⟩
 ·have heq':f K.L.p=K.L.W:=heq
  have hM:opM C d K f=(0,{ K with pc:=7,T:={ K.T with pc:=3,rs:=K.L.C,rpc:=0,re:=0 } },swf f K.L.p K.L.W (wordI false (slotI K.L.X) K.T.e)):=by
   unfold opM
   rw [if_neg (by omega),if_neg (by omega),if_neg (by omega),if_neg (by omega),if_pos hpc,if_pos heq']
  rw [hM]
  exact OutP.go (K:={ K with pc:=7,T:={ K.T with pc:=3,rs:=K.L.C,rpc:=0,re:=0 } }) (F:=X.F) (k:=X.kq) (sub:=[_,_,_,_]) ⟨Nat.le_refl _,(by first | exact Or.inl ⟨rfl,rfl,rfl,rfl⟩ | exact Or.inr (Or.inl ⟨rfl,rfl,rfl,rfl⟩) | exact Or.inr (Or.inr (Or.inl ⟨rfl,rfl,rfl,rfl⟩)) | exact Or.inr (Or.inr (Or.inr ⟨rfl,rfl,rfl,rfl⟩)))⟩ (.inr (.inr (.inr (.inr (.inr ⟨rfl,l,b3,b4,r,rfl,rfl,rfl⟩))))) (hE2.perm (rest_perm _ _ _ _ [_,_,_,_] _).symm)
 ·have heq':¬ f K.L.p=K.L.W:=heq
  have hM:opM C d K f=(0,{ K with pc:=6,on2:=false,L2:=L0 (4,0,0) },swf f K.L.p K.L.W (wordI false (slotI K.L.X) K.T.e)):=by
   unfold opM
   rw [if_neg (by omega),if_neg (by omega),if_neg (by omega),if_neg (by omega),if_pos hpc,if_neg heq']
  rw [hM]
  exact OutP.go (K:={ K with pc:=6,on2:=false,L2:=L0 (4,0,0) }) (F:=X.F) (k:=X.kq) (sub:=[_,_,_,_]) ⟨Nat.le_refl _,(by first | exact Or.inl ⟨rfl,rfl,rfl,rfl⟩ | exact Or.inr (Or.inl ⟨rfl,rfl,rfl,rfl⟩) | exact Or.inr (Or.inr (Or.inl ⟨rfl,rfl,rfl,rfl⟩)) | exact Or.inr (Or.inr (Or.inr ⟨rfl,rfl,rfl,rfl⟩)))⟩ (.inr (.inr (.inr (.inr (.inl ⟨rfl,l,b3,b4,sb,[_],rfl,rfl,.inl ⟨rfl,rfl,.inl rfl⟩,rfl⟩))))) (hE2.perm (rest_perm _ _ _ _ [_,_,_,_] _).symm)
theorem op6_p (hpc:K.pc=6) (hon:K.on2=true->LaneOk C K.L2) (hg:Glo w0) (hn:n < maxLen) (hS:SIt X.c s2 d.key K.on2 K.L2 0 sub2)
  (hE:Env w0 (boxI o (opC X.c d.ok d.key d.val d.lv (cvP b1 b2) 0 sp 0 false)::boxI b1 [mvL 26 l]::boxI b2 [mvL 199 o]::((boxI l (ukC X.c K.L.p.1 K.L.p.2.1 K.L.p.2.2 K.L.W K.L.C K.L.X 0 d.key (slotI K.L.X) (cvP b3 b4) 0)::boxI b3 [mvL 118 s2]::boxI b4 [mvL 176 l]::sub2)++LT (SPK C X V K f G qc n) R)) w) :
  Calls Tryz.prog 27 #[.pointer (some ⟨o,0,none⟩),.iface 26 (.pointer (some ⟨V.p,0,none⟩))] w fun e w'=>∃ s,e=.returned (.int .i64 s)/\OutP w0 R C X V d o n qc (opM C d K f) s w':=by
 have hM:opM C d K f=if (searchM 0 d.key false ⟨K.on2,K.L2,K.T.e,K.r⟩ f).1=1 then (0,{ K with on2:=(searchM 0 d.key false ⟨K.on2,K.L2,K.T.e,K.r⟩ f).2.1.on,L2:=(searchM 0 d.key false ⟨K.on2,K.L2,K.T.e,K.r⟩ f).2.1.L,r:=(searchM 0 d.key false ⟨K.on2,K.L2,K.T.e,K.r⟩ f).2.1.r,pc:=7,T:={ K.T with e:=(searchM 0 d.key false ⟨K.on2,K.L2,K.T.e,K.r⟩ f).2.1.e,pc:=3,rs:=K.L.C,rpc:=0,re:=0 } },(searchM 0 d.key false ⟨K.on2,K.L2,K.T.e,K.r⟩ f).2.2) else (0,{ K with on2:=(searchM 0 d.key false ⟨K.on2,K.L2,K.T.e,K.r⟩ f).2.1.on,L2:=(searchM 0 d.key false ⟨K.on2,K.L2,K.T.e,K.r⟩ f).2.1.L,r:=(searchM 0 d.key false ⟨K.on2,K.L2,K.T.e,K.r⟩ f).2.1.r,T:={ K.T with e:=(searchM 0 d.key false ⟨K.on2,K.L2,K.T.e,K.r⟩ f).2.1.e } },(searchM 0 d.key false ⟨K.on2,K.L2,K.T.e,K.r⟩ f).2.2):=by
  unfold opM
  rw [if_neg (by omega),if_neg (by omega),if_neg (by omega),if_neg (by omega),if_neg (by omega),if_pos hpc]
 rw [hM]
 refine step_o 26 l 199 _ (fun _ _=>by kernel_rfl) (fun _ _=>by kernel_rfl) _ hE ?_
 have hP1:(boxI o (opC X.c d.ok d.key d.val d.lv (cvP b1 b2) 0 sp 0 false)::boxI b1 [mvL 26 l]::boxI b2 [mvL 199 o]::((boxI l (ukC X.c K.L.p.1 K.L.p.2.1 K.L.p.2.2 K.L.W K.L.C K.L.X 0 d.key (slotI K.L.X) (cvP b3 b4) 0)::boxI b3 [mvL 118 s2]::boxI b4 [mvL 176 l]::sub2)++LT (SPK C X V K f G qc n) R)).Perm (boxI l (ukC X.c K.L.p.1 K.L.p.2.1 K.L.p.2.2 K.L.W K.L.C K.L.X 0 d.key (slotI K.L.X) (cvP b3 b4) 0)::boxI b3 [mvL 118 s2]::boxI b4 [mvL 176 l]::(sub2++LT (SPK C X V K f G qc n) (boxI o (opC X.c d.ok d.key d.val d.lv (cvP b1 b2) 0 sp 0 false)::boxI b1 [mvL 26 l]::boxI b2 [mvL 199 o]::R))):=rest_perm _ _ _ _ _ _
 have hE1:=hE.perm hP1
 refine (step_u 118 s2 _ (.pointer (some ⟨l,0,none⟩)) 176 (fun _ _=>by kernel_rfl) (fun _ _=>by kernel_rfl) (fun s w'=>s=0/\OutP w0 R C X V d o n qc _ 0 w') hE1 ?_).mono (fun e w' ⟨s,he,hs,hq⟩=>⟨s,he,fun _=>hq,fun h=>absurd hs h⟩)
 refine (search_I (C:=C) (X:=X) (V:=V) (T:=K.T) (r:=K.r) hon hg hn hS (hE1.perm (rest_perm _ _ _ _ _ _))).mono ?_
 rintro e w1 ⟨rfl,G',qc',n',sub',hn',hS',hE'⟩
 have hst:=search_state 0 d.key false ⟨K.on2,K.L2,K.T.e,K.r⟩ f
 generalize searchM 0 d.key false ⟨K.on2,K.L2,K.T.e,K.r⟩ f=q at *
 obtain ⟨q1,⟨on',L',e',r'⟩,f'⟩:=q
 dsimp only at hst hS' hE' ⊢
 have hE2:=hE'.perm (rest_perm _ _ _ _ _ _).symm
 refine ⟨q1,rfl,fun h0=>⟨rfl,?_⟩,fun h0=>?_⟩
 ·subst h0
  rw [if_neg (by decide)]
  exact OutP.go (K:={ K with on2:=on',L2:=L',r:=r',T:={ K.T with e:=e' } }) (F:=X.F) (k:=X.kq) (sub:=_::_::_::sub') hn' (.inr (.inr (.inr (.inr (.inl ⟨hpc,l,b3,b4,s2,sub',rfl,rfl,hS',rfl⟩))))) (hE2.perm (rest_perm _ _ _ _ (_::_::_::sub') _).symm)
 ·rcases hst with h9 | ⟨h9,h8⟩
  ·exact absurd h9 h0
  ·subst h9
   rw [if_pos rfl]
   refine ⟨hE2.rule 2 rfl 0,?_⟩
   have hE3:=hE2.sub (L':=boxI l (ukC X.c K.L.p.1 K.L.p.2.1 K.L.p.2.2 K.L.W K.L.C K.L.X 0 d.key (slotI K.L.X) (cvP b3 b4) 0)::LT (SP C { X with cr:=r' } V { K.T with e:=e' } f' G' qc' n') (boxI o (opC X.c d.ok d.key d.val d.lv (cvP b1 b2) 0 sp 0 false)::boxI b1 [mvL 26 l]::boxI b2 [mvL 199 o]::R)) (.cons_cons _ (.cons _ (.cons _ (List.sublist_append_right sub' _))))
   refine (retire_k (S:=SP C { X with cr:=r' } V { K.T with e:=e' } f' G' qc' n') 1 hE3).mono ?_
   rintro e2 w2 ⟨rfl,c3,c4,r9,hE4⟩
   refine ⟨0,rfl,rfl,?_⟩
   exact OutP.go (K:={ K with on2:=on',L2:=L',r:=r',pc:=7,T:={ K.T with e:=e',pc:=3,rs:=K.L.C,rpc:=0,re:=0 } }) (F:=X.F) (k:=X.kq) (sub:=[_,_,_,_]) hn' (.inr (.inr (.inr (.inr (.inr ⟨rfl,l,c3,c4,r9,rfl,rfl,rfl⟩))))) (hE4.perm (rest_perm _ _ _ _ [_,_,_,_] _).symm)
theorem op7_p (hpc:K.pc=7) (hl:K.T.ql.length+1<=1000000) (he:InU K.T.re) (hs:In64 K.T.rs) (hr:K.T.rpc=0\/K.T.rpc=1) (hda:K.err=0/\K.dn=false) (hn:n < maxLen)
  (hE:Env w0 (boxI o (opC X.c d.ok d.key d.val d.lv (cvP b1 b2) 0 sp 0 false)::boxI b1 [mvL 26 l]::boxI b2 [mvL 199 o]::([boxI l (ukC X.c K.L.p.1 K.L.p.2.1 K.L.p.2.2 K.L.W K.L.C K.L.X 0 d.key (slotI K.L.X) (cvP b3 b4) 0),boxI b3 [mvL 203 r],boxI b4 [mvE l 17],boxI r (rtv X.c (nxR r K.T.rpc) K.T.rs K.T.re)]++LT (SPK C X V K f G qc n) R)) w) :
  Calls Tryz.prog 27 #[.pointer (some ⟨o,0,none⟩),.iface 26 (.pointer (some ⟨V.p,0,none⟩))] w fun e w'=>∃ s,e=.returned (.int .i64 s)/\OutP w0 R C X V d o n qc (opM C d K f) s w':=by
 have hM:opM C d K f=if (retireM K.T f).1=0 then (0,{ K with T:=(retireM K.T f).2.1 },(retireM K.T f).2.2) else (1,{ K with T:={ (retireM K.T f).2.1 with pc:=0 },dn:=true },(retireM K.T f).2.2):=by
  unfold opM
  rw [if_neg (by omega),if_neg (by omega),if_neg (by omega),if_neg (by omega),if_neg (by omega),if_neg (by omega)]
 rw [hM]
 refine step_o 26 l 199 _ (fun _ _=>by kernel_rfl) (fun _ _=>by kernel_rfl) _ hE ?_
 have hE1:=hE.perm (rest_perm _ _ _ _ [_,_,_,_] _)
 refine (step_u 203 r _ (.pointer (some ⟨l,17,none⟩)) 129 (fun _ _=>by kernel_rfl) (fun _ _=>by kernel_rfl) (fun s w'=>(s=0->OutP w0 R C X V d o n qc _ 0 w')/\(s≠0->w'.cell? ⟨b2,0,none⟩=some (mvL 199 o)/\Calls Tryz.prog 199 #[.pointer (some ⟨o,0,none⟩),.int .i64 s] w' fun e2 w2=>∃ s2,e2=.returned (.int .i64 s2)/\OutP w0 R C X V d o n qc _ s2 w2)) hE1 ?_).mono (fun e w' ⟨s,he,hq⟩=>⟨s,he,hq.1,hq.2⟩)
 have hE2:Env w0 (boxI r (rtv X.c (nxR r K.T.rpc) K.T.rs K.T.re)::LT (SP C { X with cr:=K.r } V K.T f G qc n) (boxI l (ukC X.c K.L.p.1 K.L.p.2.1 K.L.p.2.2 K.L.W K.L.C K.L.X 0 d.key (slotI K.L.X) (cvP b3 b4) 0)::boxI b3 [mvL 203 r]::boxI b4 [mvE l 17]::boxI o (opC X.c d.ok d.key d.val d.lv (cvP b1 b2) 0 sp 0 false)::boxI b1 [mvL 26 l]::boxI b2 [mvL 199 o]::R)) w:=hE1.perm (rest_perm _ _ _ _ [_] _)
 refine (rePx (C:=C) (X:={ X with cr:=K.r }) (V:=V) (T:=K.T) hn hl he hs hE2).mono ?_
 rintro e w1 ⟨rfl,F',k',G',qc',n',hn',hcase⟩
 have hrs:(retireM K.T f).1=0\/(retireM K.T f).1=1:=by
  unfold retireM
  split
  ·exact .inl rfl
  ·exact .inr rfl
 have hkeep:(retireM K.T f).2.1.rs=K.T.rs:=by
  unfold retireM
  split<;>rfl
 generalize retireM K.T f=q at *
 obtain ⟨q1,T',f'⟩:=q
 dsimp only at hrs hcase hkeep ⊢
 refine ⟨q1,rfl,fun h0=>⟨fun _=>?_,fun h=>absurd rfl h⟩,fun h0=>?_⟩
 ·subst h0
  rw [if_pos rfl]
  rcases hcase with ⟨-,hE'⟩ | ⟨h9,-⟩
  ·exact OutP.go (K:={ K with T:=T' }) (F:=F') (k:=k') (sub:=[_,_,_,_]) hn' (.inr (.inr (.inr (.inr (.inr ⟨hpc,l,b3,b4,r,rfl,rfl,rfl⟩))))) ((hE'.perm (rest_perm _ _ _ _ [_] _).symm).perm (rest_perm _ _ _ _ [_,_,_,_] _).symm)
  ·exact absurd rfl h9
 ·rcases hrs with h | h
  ·exact absurd h h0
  subst h
  rcases hcase with ⟨h9,-⟩ | ⟨-,hE'⟩
  ·exact absurd h9 (by decide)
  have hE3:=hE'.perm (L':=boxI l (ukC X.c K.L.p.1 K.L.p.2.1 K.L.p.2.2 K.L.W K.L.C K.L.X 0 d.key (slotI K.L.X) (cvP b3 b4) 0)::boxI b3 [mvL 203 r]::boxI b4 [mvE l 17]::boxI o (opC X.c d.ok d.key d.val d.lv (cvP b1 b2) 0 sp 0 false)::boxI b1 [mvL 26 l]::boxI b2 [mvL 199 o]::LT (SP C { { X with cr:=K.r } with F:=F',kq:=k' } V T' f' G' qc' n') R) (perm_of fun z=>by simp only [LT,List.count_cons]; omega)
  refine ⟨hE3.rule 2 rfl 0,?_⟩
  refine (end_r (o:=17) 0 1 (by simp [ukC]) hE3 rfl).mono ?_
  rintro e2 w2 ⟨rfl,hE4⟩
  refine ⟨1,rfl,fun h=>absurd h (by decide),fun _=>⟨hE4.rule 5 rfl 0,?_⟩⟩
  have hE5:=hE4.sub (L':=boxI o (opC X.c d.ok d.key d.val d.lv (cvP b1 b2) 0 sp 0 false)::LT (SP C { { X with cr:=K.r } with F:=F',kq:=k' } V T' f' G' qc' n') R) (.cons _ (.cons _ (.cons _ (.cons_cons _ (.cons _ (.cons _ (List.Sublist.refl _)))))))
  refine (changedDone_o hE5).mono ?_
  rintro e3 w3 ⟨rfl,hE6⟩
  rw [if_neg (by decide)]
  have h5:opC X.c d.ok d.key d.val d.lv (cvP b1 b2) 1 sp 0 true=opC X.c d.ok d.key d.val d.lv (cvP b1 b2) 1 sp K.err true:=by rw [hda.1]
  rw [h5] at hE6
  exact ⟨1,rfl,OutP.fin (K:={ K with T:={ T' with pc:=0 },dn:=true }) (F:=F') (k:=k') (show (1:Int)≠0 by decide) hn' hE6⟩
structure KcOk (C:Cf) (d:Dd) (K:Kt) (f:Mem) (n:Nat):Prop where
 (pc:1<=K.pc/\K.pc<=7)
 (da:K.err=0/\K.dn=false)
 (dk:InU d.key/\InU d.val)
 (len:K.T.ql.length+1<=1000000)
 (hn:n < maxLen)
 (s1:K.pc=1->K.on=true->LaneOk C K.L)
 (sx:K.pc=1->(searchM 0 d.key false ⟨K.on,K.L,K.T.e,K.r⟩ f).1=1->InU (searchM 0 d.key false ⟨K.on,K.L,K.T.e,K.r⟩ f).2.1.L.X)
 (row:K.pc=2->RowOk C K.T n)
 (hs:In64 K.T.hs)
 (link:K.pc=3->K.T.hs≠0)
 (sp:3<=K.pc->SpotOk C K.L)
 (un:4<=K.pc->markB K.L.X=false/\K.T.hs=0)
 (s2:K.pc=6->K.on2=true->LaneOk C K.L2)
 (re:K.pc=7->InU K.T.re/\In64 K.T.rs/\(K.T.rpc=0\/K.T.rpc=1))
theorem op_p {ps:List Item} (h:KcOk C d K f n) (hg:Glo w0) (hM:PM C X.c d K o ps) (hE:Env w0 (ps++LT (SPK C X V K f G qc n) R) w) :
  Calls Tryz.prog 27 #[.pointer (some ⟨o,0,none⟩),.iface 26 (.pointer (some ⟨V.p,0,none⟩))] w fun e w'=>∃ s,e=.returned (.int .i64 s)/\OutP w0 R C X V d o n qc (opM C d K f) s w':=by
 obtain ⟨b1,b2,F,Y,sp,sub,rfl,hp⟩:=hM
 rcases hp with ⟨hpc,sb,rfl,rfl,rfl,hS⟩ | ⟨hpc,a,left,s,gl,rfl,rfl,hlf,rfl⟩ | ⟨hpc,l,rfl,rfl,rfl⟩ | ⟨hpc,l,rfl,rfl,rfl⟩ | ⟨hpc,l,b3,b4,s2,sub2,rfl,rfl,hS,rfl⟩ | ⟨hpc,l,b3,b4,r,rfl,rfl,rfl⟩
 ·exact op1_p hpc (h.s1 hpc) (h.sx hpc) h.da h.len hg h.hn hS hE
 ·exact op2_p hpc (h.row hpc) h.dk h.da hg hlf hE
 ·exact op3_p hpc (h.link hpc) h.hs (h.sp (by omega)).W (h.sp (by omega)).wf h.da hg h.hn hE
 ·have hC:=(h.sp (by omega)).Cr
  rcases hpc with hpc | hpc
  ·rw [if_pos hpc] at hE
   exact op4_p hpc (h.sp (by omega)).X (h.un (by omega)).1 (h.un (by omega)).2 (by unfold In64; omega) h.da hg h.hn hE
  ·rw [if_neg (by omega)] at hE
   exact op5_p hpc (h.sp (by omega)).wf hg h.hn hE
 ·exact op6_p hpc (h.s2 hpc) hg h.hn hS hE
 ·obtain ⟨h1,h2,h3⟩:=h.re hpc
  exact op7_p hpc h.len h1 h2 h3 h.da h.hn hE
end
section
variable {w0 w:World} {R L:List Item} {q b sb:Nat} {U:SU} {kd key val lv pc er:Int} {ps pa pl pu:Option Addr} {dn:Bool} {x y z lpc W X K V Cc:Int} {fd:Bool}
theorem rfDrop (h0:0<=U.hs) (hl:U.ql.length<=1000000) (hN:0<=U.N/\U.N<=1099511627776) (hE:Env w0 (boxI q (roC 1 key val lv pc (some ⟨sb,0,none⟩) pa pl pu 0 false)::boxI sb (rsC 0 key false true (some ⟨b,0,none⟩))::boxI b (rlC 0 key false x y z lpc W X K V Cc true)::LU U R) w) :
  Calls Tryz.prog 103 #[.pointer (some ⟨q,0,none⟩),.pointer (some ⟨U.u,0,none⟩)] w fun o w'=>o=.returned (.int .i64 1)/\∃ A' c' N',(N'=U.N\/N'=roomN (room0 U.N) (U.ql.length+1))/\Env w0 (boxI q (roC 1 key val lv pc (some ⟨sb,0,none⟩) pa pl pu 0 false)::LU { U with A:=A',c:=c',N:=N',ql:=dropQ U.hs U.ql,hs:=0 } R) w':=by
 have r:=hE.rule 0 rfl
 have rs:=hE.rule 1 rfl
 have rb:=hE.rule 2 rfl
 unfold roC at r
 unfold rsC at rs
 unfold rlC at rb
 by_cases hh:U.hs<=0
 ·have hz:U.hs=0:=by omega
  have HZ:=Lib.hid hz
  have HD:=Lib.hid (rdropNo_c hh (hE.get 3 rfl))
  clear hh h0 hz
  go_enter Tryz.func103,Tryz.ntmps103
  go_wp2_with fail
  refine HD.out.mono ?_
  rintro e w1 ⟨rfl,rfl⟩
  go_wp2_with fail
  go_ret
  have hz:=HZ.out
  rw [show dropQ U.hs U.ql=U.ql from if_pos hz]
  have h9:=hE.sub (L':=boxI q (roC 1 key val lv pc (some ⟨sb,0,none⟩) pa pl pu 0 false)::LU U R) (.cons_cons _ (.cons _ (.cons _ (List.Sublist.refl _))))
  have hl9:LU { U with hs:=0 } R=LU U R:=by simp only [LU,hz]
  rw [<- hl9] at h9
  exact ⟨rfl,U.A,U.c,U.N,.inl rfl,h9⟩
 ·have hz:0 < U.hs:=by omega
  have HZ:=Lib.hid hz
  have HD:=Lib.hid (rdropYes_c (lr:=U.ql) hz 3 hl hN hE rfl rfl)
  clear hh h0 hz hl hN
  go_enter Tryz.func103,Tryz.ntmps103
  go_wp2_with fail
  refine HD.out.mono ?_
  rintro e w1 ⟨rfl,A',c',hE1⟩
  clear r rs rb hE HD
  go_wp2_with fail
  go_ret
  have hz:=HZ.out
  rw [show dropQ U.hs U.ql=U.ql++[(U.hs,0,0)] from if_neg (by omega)]
  have hlen:(U.ql++[(U.hs,(0:Int),(0:Int))]).length=U.ql.length+1:=by simp
  refine ⟨rfl,A',c',roomN (room0 U.N) (U.ql.length+1),.inr rfl,?_⟩
  simp only [LU,hlen]
  exact hE1.sub (.cons_cons _ (.cons _ (.cons _ (List.Sublist.refl _))))
theorem rfIns {u:Nat} (s:Int) (Y:World->Prop) (hE:Env w0 (boxI q (roC 1 key val lv pc (some ⟨sb,0,none⟩) pa pl pu er dn)::boxI sb (rsC 0 key false true (some ⟨b,0,none⟩))::boxI b (rlC 0 key false x y z lpc W X K V Cc false)::L) w)
  (hc:Calls Tryz.prog 151 #[.pointer (some ⟨q,0,none⟩),.pointer (some ⟨u,0,none⟩),.int .i64 0,.bool false] w fun o w'=>o=.returned (.int .i64 s)/\Y w') :
  Calls Tryz.prog 103 #[.pointer (some ⟨q,0,none⟩),.pointer (some ⟨u,0,none⟩)] w fun o w'=>o=.returned (.int .i64 s)/\Y w':=by
 have r:=hE.rule 0 rfl
 have rs:=hE.rule 1 rfl
 have rb:=hE.rule 2 rfl
 unfold roC at r
 unfold rsC at rs
 unfold rlC at rb
 have HC:=Lib.hid hc
 clear hc hE
 go_enter Tryz.func103,Tryz.ntmps103
 go_wp2_with fail
 refine HC.out.mono ?_
 rintro e w1 ⟨rfl,hY⟩
 go_wp2_with fail
 go_ret
 exact ⟨rfl,hY⟩
theorem rfDone {u:Nat} (hk:kd≠1) (hk2:kd≠2\/fd=false) (hE:Env w0 (boxI q (roC kd key val lv pc (some ⟨sb,0,none⟩) pa pl pu er dn)::boxI sb (rsC 0 key false true (some ⟨b,0,none⟩))::boxI b (rlC 0 key false x y z lpc W X K V Cc fd)::L) w) :
  Calls Tryz.prog 103 #[.pointer (some ⟨q,0,none⟩),.pointer (some ⟨u,0,none⟩)] w fun o w'=>o=.returned (.int .i64 1)/\Env w0 (boxI q (roC kd key val lv pc (some ⟨sb,0,none⟩) pa pl pu er fd)::L) w':=by
 have r:=hE.rule 0 rfl
 have rs:=hE.rule 1 rfl
 have rb:=hE.rule 2 rfl
 unfold roC at r
 unfold rsC at rs
 unfold rlC at rb
 have f:=hE.thaw 0 rfl 10 (by simp [roC])
 have hP:=hE.put 0 rfl (j:=10) (by simp [roC]) (.bool fd)
 have h1:(kd==1)=false:=by simpa using hk
 clear hE hk
 by_cases h2:kd=2
 ·have hf:fd=false:=by rcases hk2 with h | h; exact absurd h2 h; exact h
  subst hf
  have h2b:(kd==2)=true:=by simpa using h2
  clear h2 hk2
  go_enter Tryz.func103,Tryz.ntmps103
  go_wp2_with fail
  go_ret
  exact ⟨rfl,hP.sub (.cons_cons _ (.cons _ (.cons _ (List.Sublist.refl _))))⟩
 ·have h2b:(kd==2)=false:=by simpa using h2
  clear h2 hk2
  go_enter Tryz.func103,Tryz.ntmps103
  go_wp2_with fail
  go_ret
  exact ⟨rfl,hP.sub (.cons_cons _ (.cons _ (.cons _ (List.Sublist.refl _))))⟩
theorem rfDel {u:Nat} (hX:InU X) (hE:Env w0 (boxI q (roC 2 key val lv pc (some ⟨sb,0,none⟩) pa pl pu er dn)::boxI sb (rsC 0 key false true (some ⟨b,0,none⟩))::boxI b (rlC 0 key false x y z lpc W X K V Cc true)::L) w) :
  Calls Tryz.prog 103 #[.pointer (some ⟨q,0,none⟩),.pointer (some ⟨u,0,none⟩)] w fun o w'=>o=.returned (.int .i64 0)/\∃ l,Env w0 (boxI q (roC 2 key val lv 4 (some ⟨sb,0,none⟩) pa pl (some ⟨l,0,none⟩) er dn)::boxI l (rnC (some ⟨b,0,none⟩) 0 key (slotI X) 0 none none)::boxI b (rlC 0 key false x y z lpc W X K V Cc true)::L) w':=by
 have r:=hE.rule 0 rfl
 have rs:=hE.rule 1 rfl
 have rb:=hE.rule 2 rfl
 unfold roC at r
 unfold rsC at rs
 unfold rlC at rb
 have hsn:=fun (v:World)=>slot13_any X hX v
 obtain ⟨s,hs⟩:∃ s,slotI X=s:=⟨_,rfl⟩
 rw [hs]
 simp only [hs] at hsn
 have HSN:=Lib.hid hsn
 clear hs hsn hX
 go_enter Tryz.func103,Tryz.ntmps103
 go_wp2_with fail
 clear r rs rb
 refine Ord3.wp_chain [?_,?_,?_,?_,?_,?_,?_,?_,?_,?_,?_,?_,?_,?_,?_,?_,?_] [13,16] (fun w'=>(∃ p9,Blk 0 w' q (roC 2 key val lv pc (some ⟨sb,0,none⟩) pa pl p9 er dn))/\Blk 0 w' b (rlC 0 key false x y z lpc W X K V Cc true)) (Ord3.Stage fun κs=>[Env w0 (boxI q (roC 2 key val lv pc (some ⟨sb,0,none⟩) pa pl pu er dn)::boxI sb (rsC 0 key false true (some ⟨b,0,none⟩))::boxI b (rlC 0 key false x y z lpc W X K V Cc true)::L),fun w'=>∃ l,κs.getD 0 undef=.pointer (some ⟨l,0,none⟩)/\Env w0 (boxI l (rnC (some ⟨b,0,none⟩) 0 key s 0 none none)::boxI q (roC 2 key val lv pc (some ⟨sb,0,none⟩) pa pl pu er dn)::boxI sb (rsC 0 key false true (some ⟨b,0,none⟩))::boxI b (rlC 0 key false x y z lpc W X K V Cc true)::L) w',fun w'=>∃ l,Env w0 (boxI l (rnC (some ⟨b,0,none⟩) 0 key s 0 none none)::boxI q (roC 2 key val lv pc (some ⟨sb,0,none⟩) pa pl (some ⟨l,0,none⟩) er dn)::boxI sb (rsC 0 key false true (some ⟨b,0,none⟩))::boxI b (rlC 0 key false x y z lpc W X K V Cc true)::L) w']) (by kernel_rfl) (by kernel_rfl) (by kernel_rfl) ⟨⟨pu,hE.drew.get 0 rfl⟩,hE.drew.get 2 rfl⟩ ⟨_,rfl,hE.drew⟩ (fun hT=>?_)
 rotate_left 17
 have hT9:=Lib.hid hT
 clear hT
 repeat (first
  | (focus (refine Ord3.in_value (v:=?_) hT9.out (by decide) ?_ (by rfl) ?_ ?_; rotate_left 2; (focus (intro w5 hS; obtain ⟨⟨p9,hS8⟩,hS9⟩:=hS; have r1:=Blk.rule hS8; have r2:=Blk.rule hS9; unfold roC at r1; unfold rlC at r2; go_simp<;>with_reducible rfl)); rotate_right; (focus rfl); (try simp only [Act.put,zA,zZ,zS])))
  | (focus (refine Ord3.in_off hT9.out (by decide) ?_ (by rfl) ?_; (focus rfl); (try simp only [Act.put,zA,zZ,zS])))
  | (focus (refine Ord3.in_call (v:=?_) (f:=?_) (args:=?_) hT9.out (by decide) ?_ (by rfl) ?_ ?_ ?_; rotate_left 4; (focus (intro w5 hS; obtain ⟨⟨p9,hS8⟩,hS9⟩:=hS; have r1:=Blk.rule hS8; have r2:=Blk.rule hS9; unfold roC at r1; unfold rlC at r2; go_simp; constructor<;>with_reducible rfl)); (focus (intro w5 hS; (first | (with_reducible refine (HSN.out _).mono ?_; rintro e w6 ⟨rfl,hb6⟩; constructor; with_reducible rfl; exact ⟨⟨hS.1.elim fun p h=>⟨p,h.under hb6⟩,hS.2.under hb6⟩,fun us h=>Ord3.Stage.three h (fun h=>h.over hb6) (fun h=>h.elim fun a h=>⟨a,h.1,h.2.over hb6⟩) (fun h=>h.elim fun a h=>⟨a,h.over hb6⟩)⟩)))); rotate_right; (focus rfl); (try simp only [Act.put,zA,zZ,zS]))))
 refine Ord3.in_turn (fun u=>∃ q,u=.pointer (some ⟨q,0,none⟩)) _ ⟨0,rfl⟩ hT9.out rfl (by decide) (by rfl) ?_ (Or.inl rfl) (by rfl) ?_ ?_
 ·rfl
 ·rintro w7 hC7 ⟨P7,hP7,hA7⟩
  cases hP7
  go_simp
  simp only [Ord3.Lands]
  have hE8:=hA7.box w7.heap.size rfl (rnC (some ⟨b,0,none⟩) 0 key s 0 none none) 242
  exact ⟨⟨_,rfl⟩,⟨⟨pu,hE8.get 1 rfl⟩,hE8.get 3 rfl⟩,_,rfl,w7.heap.size,rfl,hE8⟩
 rintro _ ⟨l9,rfl⟩
 (try simp only [Act.put,zA,zZ,zS])
 repeat (first
  | (focus (refine Ord3.in_value (v:=?_) hT9.out (by decide) ?_ (by rfl) ?_ ?_; rotate_left 2; (focus (intro w5 hS; skip; go_simp<;>with_reducible rfl)); rotate_right; (focus rfl); (try simp only [Act.put,zA,zZ,zS])))
  | (focus (refine Ord3.in_off hT9.out (by decide) ?_ (by rfl) ?_; (focus rfl); (try simp only [Act.put,zA,zZ,zS]))))
 refine Ord3.in_turn (fun u=>u=undef) _ rfl hT9.out rfl (by decide) (by rfl) ?_ (Or.inr ⟨_,13,[],rfl,by kernel_rfl,by kernel_rfl,rfl⟩) (by rfl) ?_ ?_
 ·rfl
 ·rintro w7 hC7 ⟨P7,hP7,hA7⟩
  cases hP7
  obtain ⟨s8,he,hA7⟩:=hA7
  cases he
  have r:=hA7.rule 1 rfl
  unfold roC at r
  have g:=hA7.thaw 1 rfl 8 (by simp [roC])
  go_simp
  simp only [Ord3.Lands]
  have h9:=hA7.put 1 rfl (j:=8) (by simp [roC]) (.pointer (some ⟨l9,0,none⟩))
  exact ⟨trivial,⟨⟨_,h9.get 1 rfl⟩,h9.get 3 rfl⟩,_,rfl,l9,h9⟩
 rintro _ rfl
 (try simp only [Act.put,zA,zZ,zS])
 refine Ord3.in_nil rfl ?_
 rintro w9 hC9 ⟨P9,hP9,hA9⟩
 cases hP9
 obtain ⟨l,hA9⟩:=hA9
 clear hT9 hC9 hE
 have f4:=hA9.thaw 1 rfl 4 (by simp [roC])
 have r:=hA9.rule 1 rfl
 unfold roC at r
 have hQ:=hA9.put 1 rfl (j:=4) (by simp [roC]) (.int .i64 4)
 go_wp2_with fail
 go_ret
 have hQ2:=hQ.sub (L':=boxI l (rnC (some ⟨b,0,none⟩) 0 key s 0 none none)::boxI q (roC 2 key val lv 4 (some ⟨sb,0,none⟩) pa pl (some ⟨l,0,none⟩) er dn)::boxI b (rlC 0 key false x y z lpc W X K V Cc true)::L) (.cons_cons _ (.cons_cons _ (.cons _ (List.Sublist.refl _))))
 exact ⟨rfl,l,hQ2.perm (List.Perm.swap _ _ _)⟩
theorem rop1 {u m:Nat} (Q:Int->World->Prop) (hE:Env w0 (boxI q (roC kd key val lv 1 (some ⟨sb,0,none⟩) pa pl pu er dn)::L) w)
  (hc:Calls Tryz.prog 102 #[.pointer (some ⟨sb,0,none⟩),.pointer (some ⟨u,0,none⟩),.pointer (some ⟨m,0,none⟩)] w fun o w1=>∃ s,o=.returned (.int .i64 s)/\(s=0\/s=1)/\(s=0->Q 0 w1)/\(s=1->Calls Tryz.prog 103 #[.pointer (some ⟨q,0,none⟩),.pointer (some ⟨u,0,none⟩)] w1 fun o2 w2=>∃ s2,o2=.returned (.int .i64 s2)/\Q s2 w2)) :
  Calls Tryz.prog 54 #[.pointer (some ⟨q,0,none⟩),.pointer (some ⟨u,0,none⟩),.pointer (some ⟨m,0,none⟩)] w fun o w'=>∃ s,o=.returned (.int .i64 s)/\Q s w':=by
 have r:=hE.rule 0 rfl
 unfold roC at r
 have HC:=Lib.hid hc
 clear hc hE
 go_enter Tryz.func54,Tryz.ntmps54
 go_wp2_with fail
 refine HC.out.mono ?_
 rintro e w1 ⟨s,rfl,hs,h0,h1⟩
 rcases hs with rfl | rfl
 ·have hq:=h0 rfl
  clear h0 h1 HC
  go_wp2_with fail
  go_ret
  exact ⟨0,rfl,hq⟩
 ·have HF:=Lib.hid (h1 rfl)
  clear h0 h1 HC
  go_wp2_with fail
  refine HF.out.mono ?_
  rintro e w2 ⟨s2,rfl,hq⟩
  go_wp2_with fail
  go_ret
  exact ⟨s2,rfl,hq⟩
theorem rop0 {u m:Nat} (Q:Int->World->Prop) (hE:Env w0 (boxI q (roC kd key val lv 0 ps pa pl pu er dn)::L) w)
  (hc:∀ sb v,Env w0 (boxI q (roC kd key val lv 1 (some ⟨sb,0,none⟩) pa pl pu er dn)::boxI sb (rsC 0 key false false none)::L) v->Calls Tryz.prog 102 #[.pointer (some ⟨sb,0,none⟩),.pointer (some ⟨u,0,none⟩),.pointer (some ⟨m,0,none⟩)] v fun o w1=>o=.returned (.int .i64 0)/\Q 0 w1) :
  Calls Tryz.prog 54 #[.pointer (some ⟨q,0,none⟩),.pointer (some ⟨u,0,none⟩),.pointer (some ⟨m,0,none⟩)] w fun o w'=>∃ s,o=.returned (.int .i64 s)/\Q s w':=by
 have r:=hE.rule 0 rfl
 unfold roC at r
 have HC:=Lib.hid hc
 have HA:=Lib.hid (ragain hE)
 clear hc hE
 go_enter Tryz.func54,Tryz.ntmps54
 go_wp2_with fail
 refine HA.out.mono ?_
 rintro e w1 ⟨rfl,sb,hE1⟩
 clear r HA
 have r:=hE1.rule 0 rfl
 unfold roC at r
 have HC2:=Lib.hid (HC.out sb _ hE1)
 clear HC hE1
 go_wp2_with fail
 refine HC2.out.mono ?_
 rintro e w2 ⟨rfl,hq⟩
 go_wp2_with fail
 go_ret
 exact ⟨0,rfl,hq⟩
end
section
variable {w0 w:World} {R L:List Item} {q a l u m:Nat} {kd key val lv er:Int} {ps pa pl pu:Option Addr} {dn:Bool}
theorem rop2 (s s2:Int) (A1 A2:World->Prop) (hE:Env w0 (boxI q (roC kd key val lv 2 ps (some ⟨a,0,none⟩) pl pu er dn)::L) w)
  (hq:∀ v,A1 v->Blk 0 v q (roC kd key val lv 2 ps (some ⟨a,0,none⟩) pl pu er dn)) (hq2:∀ v,A2 v->∃ sp9 pc9 e9,Blk 0 v q (roC kd key val lv pc9 sp9 (some ⟨a,0,none⟩) pl pu e9 dn))
  (hc:∀ v,Env w0 (boxI q (roC kd key val lv 2 ps (some ⟨a,0,none⟩) pl pu er dn)::L) v->Calls Tryz.prog 105 #[.pointer (some ⟨a,0,none⟩),.pointer (some ⟨u,0,none⟩),.pointer (some ⟨m,0,none⟩),.agg #[.int .i64 kd,.int .u64 key,.int .u64 val,.int .i64 lv]] v fun o w1=>o=.returned (.int .i64 s)/\A1 w1)
  (hc2:∀ v,A1 v->Calls Tryz.prog 104 #[.pointer (some ⟨q,0,none⟩),.int .i64 s,.int .i64 0,.bool false] v fun o w1=>o=.returned (.int .i64 s2)/\A2 w1) :
  Calls Tryz.prog 54 #[.pointer (some ⟨q,0,none⟩),.pointer (some ⟨u,0,none⟩),.pointer (some ⟨m,0,none⟩)] w fun o w'=>o=.returned (.int .i64 s2)/\A2 w':=by
 have r:=hE.rule 0 rfl
 unfold roC at r
 have HC:=Lib.hid hc
 have HC2:=Lib.hid hc2
 have HQ:=Lib.hid hq
 have HQ2:=Lib.hid hq2
 clear hc hc2 hq hq2
 go_enter Tryz.func54,Tryz.ntmps54
 go_wp2_with fail
 clear r
 refine Ord3.wp_chain [?_,?_,?_,?_,?_,?_,?_,?_,?_,?_,?_,?_,?_,?_] [11,12] (fun w'=>∃ sp9 pc9 e9,Blk 0 w' q (roC kd key val lv pc9 sp9 (some ⟨a,0,none⟩) pl pu e9 dn)) (Ord3.Stage fun κs=>[Env w0 (boxI q (roC kd key val lv 2 ps (some ⟨a,0,none⟩) pl pu er dn)::L),A1,A2]) (by kernel_rfl) (by kernel_rfl) (by kernel_rfl) ⟨ps,2,er,hE.drew.get 0 rfl⟩ ⟨_,rfl,hE.drew⟩ (fun hT=>?_)
 rotate_left 14
 have hT9:=Lib.hid hT
 clear hT
 repeat (first
  | (focus (refine Ord3.in_value (v:=?_) hT9.out (by decide) ?_ (by rfl) ?_ ?_; rotate_left 2; (focus (intro w5 hS; obtain ⟨sp9,pc9,e9,hS9⟩:=hS; have r1:=Blk.rule hS9; unfold roC at r1; go_simp<;>with_reducible rfl)); rotate_right; (focus rfl); (try simp only [Act.put,zA,zZ,zS])))
  | (focus (refine Ord3.in_off hT9.out (by decide) ?_ (by rfl) ?_; (focus rfl); (try simp only [Act.put,zA,zZ,zS]))))
 refine Ord3.in_turn (fun x=>x=.int .i64 s) _ rfl hT9.out rfl (by decide) (by rfl) ?_ (Or.inl rfl) (by rfl) ?_ ?_
 ·rfl
 ·rintro w7 hC7 ⟨P7,hP7,hA7⟩
  cases hP7
  go_simp
  simp only [Ord3.Lands]
  refine (HC.out _ hA7).mono ?_
  rintro o w8 ⟨rfl,hA8⟩
  exact ⟨_,rfl,rfl,⟨_,_,_,HQ.out _ hA8⟩,_,rfl,hA8⟩
 rintro _ rfl
 (try simp only [Act.put,zA,zZ,zS])
 refine Ord3.in_turn (fun x=>x=.int .i64 s2) _ rfl hT9.out rfl (by decide) (by rfl) ?_ (Or.inr ⟨_,11,[],rfl,by kernel_rfl,by kernel_rfl,rfl⟩) (by rfl) ?_ ?_
 ·rfl
 ·rintro w7 hC7 ⟨P7,hP7,hA7⟩
  cases hP7
  go_simp
  simp only [Ord3.Lands]
  refine (HC2.out _ hA7).mono ?_
  rintro o w8 ⟨rfl,hA8⟩
  exact ⟨_,rfl,rfl,HQ2.out _ hA8,_,rfl,hA8⟩
 rintro _ rfl
 (try simp only [Act.put,zA,zZ,zS])
 repeat (first
  | (focus (refine Ord3.in_value (v:=?_) hT9.out (by decide) ?_ (by rfl) ?_ ?_; rotate_left 2; (focus (intro w5 hS; skip; go_simp<;>with_reducible rfl)); rotate_right; (focus rfl); (try simp only [Act.put,zA,zZ,zS])))
  | (focus (refine Ord3.in_off hT9.out (by decide) ?_ (by rfl) ?_; (focus rfl); (try simp only [Act.put,zA,zZ,zS]))))
 refine Ord3.in_nil rfl ?_
 rintro w9 hC9 ⟨P9,hP9,hA9⟩
 cases hP9
 clear hT9 hC9 hE
 have HA:=Lib.hid hA9
 clear hA9
 go_wp2_with fail
 go_ret
 exact ⟨rfl,HA.out⟩
theorem rop3 (s:Int) (hs:s=0\/s=1) (Y:World->Prop) (hE:Env w0 (boxI q (roC kd key val lv 3 ps pa (some ⟨l,0,none⟩) pu er dn)::L) w)
  (hc:Calls Tryz.prog 106 #[.pointer (some ⟨l,0,none⟩),.pointer (some ⟨u,0,none⟩),.pointer (some ⟨m,0,none⟩)] w fun o w1=>o=.returned (.int .i64 s)/\∃ L1,Env w0 (boxI q (roC kd key val lv 3 ps pa (some ⟨l,0,none⟩) pu er dn)::L1) w1/\∀ v,Env w0 (boxI q (roC kd key val lv 3 ps pa (some ⟨l,0,none⟩) pu er (decide (s=1)))::L1) v->Y v) :
  Calls Tryz.prog 54 #[.pointer (some ⟨q,0,none⟩),.pointer (some ⟨u,0,none⟩),.pointer (some ⟨m,0,none⟩)] w fun o w'=>o=.returned (.int .i64 s)/\Y w':=by
 have r:=hE.rule 0 rfl
 unfold roC at r
 have HC:=Lib.hid hc
 clear hc hE
 go_enter Tryz.func54,Tryz.ntmps54
 go_wp2_with fail
 refine HC.out.mono ?_
 rintro e w1 ⟨rfl,L1,hE1,hY⟩
 have HY:=Lib.hid hY
 clear hY HC r
 have r:=hE1.rule 0 rfl
 unfold roC at r
 have f:=hE1.thaw 0 rfl 10 (by simp [roC])
 rcases hs with rfl | rfl
 ·have hP:=hE1.put 0 rfl (j:=10) (by simp [roC]) (.bool false)
  go_wp2_with fail
  go_ret
  exact ⟨rfl,HY.out _ hP⟩
 ·have hP:=hE1.put 0 rfl (j:=10) (by simp [roC]) (.bool true)
  go_wp2_with fail
  go_ret
  exact ⟨rfl,HY.out _ hP⟩
theorem rop3a (Y:World->Prop) (hE:Env w0 (boxI q (roC kd key val lv 3 ps pa (some ⟨l,0,none⟩) pu er dn)::L) w)
  (hc:Calls Tryz.prog 106 #[.pointer (some ⟨l,0,none⟩),.pointer (some ⟨u,0,none⟩),.pointer (some ⟨m,0,none⟩)] w fun o w1=>o=.returned (.int .i64 2)/\Calls Tryz.prog 101 #[.pointer (some ⟨q,0,none⟩),.int .i64 0,.bool false] w1 fun o2 w2=>o2=.returned (.int .i64 0)/\Y w2) :
  Calls Tryz.prog 54 #[.pointer (some ⟨q,0,none⟩),.pointer (some ⟨u,0,none⟩),.pointer (some ⟨m,0,none⟩)] w fun o w'=>o=.returned (.int .i64 0)/\Y w':=by
 have r:=hE.rule 0 rfl
 unfold roC at r
 have HC:=Lib.hid hc
 clear hc hE
 go_enter Tryz.func54,Tryz.ntmps54
 go_wp2_with fail
 refine HC.out.mono ?_
 rintro e w1 ⟨rfl,hA⟩
 have HA:=Lib.hid hA
 clear hA HC r
 go_wp2_with fail
 refine HA.out.mono ?_
 rintro e w2 ⟨rfl,hY⟩
 go_wp2_with fail
 go_ret
 exact ⟨rfl,hY⟩
theorem rop4 (s:Int) (hs:s=0\/s=1) (Y:World->Prop) (hE:Env w0 (boxI q (roC kd key val lv 4 ps pa pl (some ⟨l,0,none⟩) er dn)::L) w)
  (hc:Calls Tryz.prog 107 #[.pointer (some ⟨l,0,none⟩),.pointer (some ⟨u,0,none⟩),.pointer (some ⟨m,0,none⟩)] w fun o w1=>o=.returned (.int .i64 s)/\∃ L1,Env w0 (boxI q (roC kd key val lv 4 ps pa pl (some ⟨l,0,none⟩) er dn)::L1) w1/\∀ v,Env w0 (boxI q (roC kd key val lv 4 ps pa pl (some ⟨l,0,none⟩) er (decide (s=1)))::L1) v->Y v) :
  Calls Tryz.prog 54 #[.pointer (some ⟨q,0,none⟩),.pointer (some ⟨u,0,none⟩),.pointer (some ⟨m,0,none⟩)] w fun o w'=>o=.returned (.int .i64 s)/\Y w':=by
 have r:=hE.rule 0 rfl
 unfold roC at r
 have HC:=Lib.hid hc
 clear hc hE
 go_enter Tryz.func54,Tryz.ntmps54
 go_wp2_with fail
 refine HC.out.mono ?_
 rintro e w1 ⟨rfl,L1,hE1,hY⟩
 have HY:=Lib.hid hY
 clear hY HC r
 have r:=hE1.rule 0 rfl
 unfold roC at r
 have f:=hE1.thaw 0 rfl 10 (by simp [roC])
 rcases hs with rfl | rfl
 ·have hP:=hE1.put 0 rfl (j:=10) (by simp [roC]) (.bool false)
  go_wp2_with fail
  go_ret
  exact ⟨rfl,HY.out _ hP⟩
 ·have hP:=hE1.put 0 rfl (j:=10) (by simp [roC]) (.bool true)
  go_wp2_with fail
  go_ret
  exact ⟨rfl,HY.out _ hP⟩
theorem rop4a (Y:World->Prop) (hE:Env w0 (boxI q (roC kd key val lv 4 ps pa pl (some ⟨l,0,none⟩) er dn)::L) w)
  (hc:Calls Tryz.prog 107 #[.pointer (some ⟨l,0,none⟩),.pointer (some ⟨u,0,none⟩),.pointer (some ⟨m,0,none⟩)] w fun o w1=>o=.returned (.int .i64 2)/\Calls Tryz.prog 101 #[.pointer (some ⟨q,0,none⟩),.int .i64 0,.bool false] w1 fun o2 w2=>o2=.returned (.int .i64 0)/\Y w2) :
  Calls Tryz.prog 54 #[.pointer (some ⟨q,0,none⟩),.pointer (some ⟨u,0,none⟩),.pointer (some ⟨m,0,none⟩)] w fun o w'=>o=.returned (.int .i64 0)/\Y w':=by
 have r:=hE.rule 0 rfl
 unfold roC at r
 have HC:=Lib.hid hc
 clear hc hE
 go_enter Tryz.func54,Tryz.ntmps54
 go_wp2_with fail
 refine HC.out.mono ?_
 rintro e w1 ⟨rfl,hA⟩
 have HA:=Lib.hid hA
 clear hA HC r
 go_wp2_with fail
 refine HA.out.mono ?_
 rintro e w2 ⟨rfl,hY⟩
 go_wp2_with fail
 go_ret
 exact ⟨rfl,hY⟩
end
def SRK (C:Cf) (X:Tm) (V:Wm) (K:Kt) (FU:Nat->Prop) (ml:List OneR):SU:=SR C { X with ro:=K.r } V K.T FU ml
def RSit (sb:Nat) (key:Int) (on:Bool) (L:Lm) (sub:List Item):Prop :=
 (on=false/\∃ lp,sub=[boxI sb (rsC 0 key false false lp)])\/(on=true/\∃ b,sub=[boxI sb (rsC 0 key false true (some ⟨b,0,none⟩)),boxI b (rlV 0 key false L)])
section
variable {w0 w:World} {R sub:List Item} {C:Cf} {X:Tm} {V:Wm} {T:Th} {FU:Nat->Prop} {ml:List OneR} {sb:Nat} {key r:Int} {on:Bool} {L:Lm}
theorem search_R (hT:on=true->LaneOk C L) (he:0<=T.e/\T.e<=9223372036854775807) (hu:∀ x,InU (getL ml x)) (hml:ml.length<=1000000) (hS:RSit sb key on L sub) (hE:Env w0 (sub++LU (SR C { X with ro:=r } V T FU ml) R) w) :
  Calls Tryz.prog 102 #[.pointer (some ⟨sb,0,none⟩),.pointer (some ⟨X.u,0,none⟩),.pointer (some ⟨V.m,0,none⟩)] w fun o w'=>o=.returned (.int .i64 (searchM 0 key false ⟨on,L,T.e,r⟩ (getL ml)).1)/\∃ FU' ml' sub',getL ml'=(searchM 0 key false ⟨on,L,T.e,r⟩ (getL ml)).2.2/\ml'.length<=ml.length+1/\RSit sb key (searchM 0 key false ⟨on,L,T.e,r⟩ (getL ml)).2.1.on (searchM 0 key false ⟨on,L,T.e,r⟩ (getL ml)).2.1.L sub'/\Env w0 (sub'++LU (SR C { X with ro:=(searchM 0 key false ⟨on,L,T.e,r⟩ (getL ml)).2.1.r } V { T with e:=(searchM 0 key false ⟨on,L,T.e,r⟩ (getL ml)).2.1.e } FU' ml') R) w':=by
 obtain ⟨uc,huc⟩:∃ uc:Uc,uc=⟨C.k,C.s,C.b,C.h,C.l,X.A,T.ql.length,X.rc,X.N,T.hs⟩:=⟨_,rfl⟩
 have hR:RSr uc w0 (rrI X.A X.rc T.ql::R) sb X.u V.m 0 key false ⟨on,L,T.e,r⟩ (getL ml) ml.length w:=by
  subst huc
  rcases hS with ⟨rfl,lp,rfl⟩ | ⟨rfl,b,rfl⟩
  ·refine .inl ⟨rfl,lp,FU,ml,rfl,Nat.le_refl _,hE.perm (perm_of fun z=>?_)⟩
   simp only [List.count_append,List.count_cons,List.count_nil,LU,SR,ruC]
   omega
  ·refine .inr ⟨rfl,b,FU,ml,rfl,Nat.le_refl _,hE.perm (perm_of fun z=>?_)⟩
   simp only [List.count_append,List.count_cons,List.count_nil,LU,SR,ruC]
   omega
 refine (rsearch (T:=⟨on,L,T.e,r⟩) (fun h=>⟨(hT h).ok,(hT h).wf⟩) he hu hml hR).mono ?_
 rintro o w1 ⟨rfl,hR'⟩
 subst huc
 rcases hR' with ⟨hoff,lp,F,ml',hf,hl,hE'⟩ | ⟨hon,b,F,ml',hf,hl,hE'⟩
 ·refine ⟨rfl,F,ml',_,hf,hl,.inl ⟨hoff,lp,rfl⟩,hE'.perm (perm_of fun z=>?_)⟩
  simp only [List.count_append,List.count_cons,List.count_nil,LU,SR,ruC]
  omega
 ·refine ⟨rfl,F,ml',_,hf,hl,.inr ⟨hon,b,rfl⟩,hE'.perm (perm_of fun z=>?_)⟩
  simp only [List.count_append,List.count_cons,List.count_nil,LU,SR,ruC]
  omega
end
def RSub (d:Dd) (K:Kt) (q:Nat) (rs:List Item):Prop :=
 (K.pc=1/\∃ sb pa pl pu sub,RSit sb d.key K.on K.L sub/\rs=boxI q (roC d.ok d.key d.val d.lv 1 (some ⟨sb,0,none⟩) pa pl pu 0 false)::sub) \/
 (K.pc=2/\∃ ps a pl pu,rs=[boxI q (roC d.ok d.key d.val d.lv 2 ps (some ⟨a,0,none⟩) pl pu 0 false),boxI a (rav (K.T.apc:Int) K.T.ah K.T.an K.T.ar)]) \/
 (K.pc=3/\∃ ps pa l b pu,rs=[boxI q (roC d.ok d.key d.val d.lv 3 ps pa (some ⟨l,0,none⟩) pu 0 false),boxI l (rkC (some ⟨b,0,none⟩) K.laid),boxI b (rlV 0 d.key false K.L)]) \/
 ((K.pc=4\/K.pc=5)/\∃ ps pa pl l b sp rp,rs=[boxI q (roC d.ok d.key d.val d.lv 4 ps pa pl (some ⟨l,0,none⟩) 0 false),boxI l (rnC (some ⟨b,0,none⟩) 0 d.key (slotI K.L.X) (if K.pc=4 then 0 else 1) sp rp),boxI b (rlV 0 d.key false K.L)]) \/
 (K.pc=6/\∃ ps pa pl l b s2 rb sub2,RSit s2 d.key K.on2 K.L2 sub2/\rs=boxI q (roC d.ok d.key d.val d.lv 4 ps pa pl (some ⟨l,0,none⟩) 0 false)::boxI l (rnC (some ⟨b,0,none⟩) 0 d.key (slotI K.L.X) 2 (some ⟨s2,0,none⟩) (some ⟨rb,0,none⟩))::boxI rb (rrv K.L.C 0 0)::sub2) \/
 (K.pc=7/\∃ ps pa pl l b sp rb,rs=[boxI q (roC d.ok d.key d.val d.lv 4 ps pa pl (some ⟨l,0,none⟩) 0 false),boxI l (rnC (some ⟨b,0,none⟩) 0 d.key (slotI K.L.X) 3 sp (some ⟨rb,0,none⟩)),boxI rb (rrv K.T.rs (K.T.rpc:Int) K.T.re)])
def OutR (w0:World) (R:List Item) (C:Cf) (X:Tm) (V:Wm) (d:Dd) (q:Nat) (ml:List OneR) (z:Int × Kt × Mem) (s:Int) (w':World):Prop :=
 s=z.1/\∃ A' c' N' FU' ml' rs',getL ml'=z.2.2/\ml'.length<=ml.length+1/\0<=N'/\N'<=4000000/\(z.1=0->RSub d z.2.1 q rs')/\(z.1≠0->∃ pc ps pa pl pu,rs'=[boxI q (roC d.ok d.key d.val d.lv pc ps pa pl pu z.2.1.err z.2.1.dn)])/\Env w0 (rs'++LU (SRK C { X with A:=A',rc:=c',N:=N' } V z.2.1 FU' ml') R) w'
section
variable {w0 w:World} {R sub:List Item} {C:Cf} {X:Tm} {V:Wm} {K:Kt} {d:Dd} {q sb b:Nat} {FU:Nat->Prop} {ml ml':List OneR} {A:Option Addr} {c:Nat} {N:Int} {f:Mem} {s:Int}
theorem OutR.fin {pc:Int} {ps pa pl pu:Option Addr} (hf:getL ml'=f) (hl:ml'.length<=ml.length+1) (hN:0<=N/\N<=4000000) (hs:s≠0) (hE:Env w0 (boxI q (roC d.ok d.key d.val d.lv pc ps pa pl pu K.err K.dn)::LU (SRK C { X with A:=A,rc:=c,N:=N } V K FU ml') R) w):OutR w0 R C X V d q ml (s,K,f) s w :=
 ⟨rfl,A,c,N,FU,ml',[_],hf,hl,hN.1,hN.2,fun h=>absurd h hs,fun _=>⟨pc,ps,pa,pl,pu,rfl⟩,hE⟩
theorem OutR.go (hf:getL ml'=f) (hl:ml'.length<=ml.length+1) (hN:0<=N/\N<=4000000) (hp:RSub d K q sub) (hE:Env w0 (sub++LU (SRK C { X with A:=A,rc:=c,N:=N } V K FU ml') R) w):OutR w0 R C X V d q ml (0,K,f) 0 w :=
 ⟨rfl,A,c,N,FU,ml',sub,hf,hl,hN.1,hN.2,fun _=>hp,fun h=>absurd rfl h,hE⟩
theorem OutR.find {pa pl pu:Option Addr} {K0:Kt} (hf:getL ml'=f) (hl:ml'.length<=ml.length+1) (hN:0<=N/\N<=4000000) (hE:Env w0 (boxI q (roC d.ok d.key d.val d.lv 1 (some ⟨sb,0,none⟩) pa pl pu 0 false)::boxI sb (rsC 0 d.key false false none)::LU (SRK C { X with A:=A,rc:=c,N:=N } V K0 FU ml') R) w):OutR w0 R C X V d q ml (0,findM K0,f) 0 w :=
 OutR.go (sub:=[_,_]) (K:=findM K0) hf hl hN (.inl ⟨rfl,sb,pa,pl,pu,[_],.inl ⟨rfl,none,rfl⟩,rfl⟩) hE
theorem found_r (K':Kt) (pa pl pu:Option Addr) (hX:InU K'.L.X) (hda:K'.err=0/\K'.dn=false) (hl0:K'.T.ql.length+1<=1000000) (hN:0<=X.N/\X.N<=4000000) (hhs:0<=K'.T.hs) (hl:ml'.length<=ml.length+1)
  (hE:Env w0 (boxI q (roC d.ok d.key d.val d.lv 1 (some ⟨sb,0,none⟩) pa pl pu 0 false)::boxI sb (rsC 0 d.key false true (some ⟨b,0,none⟩))::boxI b (rlV 0 d.key false K'.L)::LU (SRK C X V K' FU ml') R) w) :
  Calls Tryz.prog 103 #[.pointer (some ⟨q,0,none⟩),.pointer (some ⟨X.u,0,none⟩)] w fun e2 w2=>∃ s2,e2=.returned (.int .i64 s2)/\OutR w0 R C X V d q ml ((foundM C d K').1,(foundM C d K').2,getL ml') s2 w2:=by
 obtain ⟨hd1,hd2⟩:=hda
 obtain ⟨kk,ok,key,val,lv⟩:=d
 obtain ⟨T',pc',on',L',laid',on2',L2',err',dn',r'⟩:=K'
 dsimp only at hd1 hd2 hX hl0 hhs
 subst hd1
 subst hd2
 have drop:∀ {y z9:Item} {M:List Item} {v:World} {t:Item},Env w0 (t::y::z9::M) v->Env w0 (t::M) v:=fun h=>h.sub (.cons_cons _ (.cons _ (.cons _ (List.Sublist.refl _))))
 by_cases h1:ok=1
 ·subst h1
  cases hfd:L'.fd
  ·have hE0:Env w0 (boxI q (roC 1 key val lv 1 (some ⟨sb,0,none⟩) pa pl pu 0 false)::boxI sb (rsC 0 key false true (some ⟨b,0,none⟩))::boxI b (rlC 0 key false L'.p.1 L'.p.2.1 L'.p.2.2 (L'.pc:Int) L'.W L'.X L'.K L'.V L'.C false)::LU (SRK C X V ⟨T',pc',on',L',laid',on2',L2',0,false,r'⟩ FU ml') R) w:=by unfold rlV at hE; rw [hfd] at hE; exact hE
   by_cases hh:T'.hs=0
   ·by_cases hdp:decP T'.ql T'.e C.l=0
    ·have hM:foundM C ⟨kk,1,key,val,lv⟩ ⟨T',pc',on',L',laid',on2',L2',0,false,r'⟩=(1,⟨T',pc',on',L',laid',on2',L2',7,false,r'⟩):=by unfold foundM; rw [if_pos rfl]; dsimp only; rw [hfd,if_neg (by decide),if_pos hh,if_pos hdp]
     rw [hM]
     refine (rfIns 1 _ hE0 (rinsLate (U:=SRK C X V ⟨T',pc',on',L',laid',on2',L2',0,false,r'⟩ FU ml') (show T'.hs<=0 by omega) hdp (drop hE0))).mono ?_
     rintro e w2 ⟨rfl,a,hE2⟩
     exact ⟨1,rfl,OutR.fin (A:=X.A) (c:=X.rc) (N:=X.N) rfl hl hN (show (1:Int)≠0 by decide) hE2⟩
    ·have hM:foundM C ⟨kk,1,key,val,lv⟩ ⟨T',pc',on',L',laid',on2',L2',0,false,r'⟩=(0,⟨{ T' with pc:=2,apc:=decP T'.ql T'.e C.l,ah:=0,an:=0,ar:=0 },2,on',L',laid',on2',L2',0,false,r'⟩):=by unfold foundM; rw [if_pos rfl]; dsimp only; rw [hfd,if_neg (by decide),if_pos hh,if_neg hdp]
     rw [hM]
     refine (rfIns 0 _ hE0 (rinsAlloc (U:=SRK C X V ⟨T',pc',on',L',laid',on2',L2',0,false,r'⟩ FU ml') (show T'.hs<=0 by omega) hdp (drop hE0))).mono ?_
     rintro e w2 ⟨rfl,a,hE2⟩
     exact ⟨0,rfl,OutR.go (A:=X.A) (c:=X.rc) (N:=X.N) (sub:=[_,_]) rfl hl hN (.inr (.inl ⟨rfl,_,a,pl,pu,rfl⟩)) hE2⟩
   ·have hM:foundM C ⟨kk,1,key,val,lv⟩ ⟨T',pc',on',L',laid',on2',L2',0,false,r'⟩=(0,⟨T',3,on',L',false,on2',L2',0,false,r'⟩):=by unfold foundM; rw [if_pos rfl]; dsimp only; rw [hfd,if_neg (by decide),if_neg hh]
    rw [hM]
    refine (rfIns 0 _ hE0 (rinsLink (U:=SRK C X V ⟨T',pc',on',L',laid',on2',L2',0,false,r'⟩ FU ml') (show 0 < T'.hs by omega) hE0)).mono ?_
    rintro e w2 ⟨rfl,l,hE2⟩
    have hE3:=hE2.sub (L':=boxI q (roC 1 key val lv 3 (some ⟨sb,0,none⟩) pa (some ⟨l,0,none⟩) pu 0 false)::boxI l (rkC (some ⟨b,0,none⟩) false)::boxI b (rlC 0 key false L'.p.1 L'.p.2.1 L'.p.2.2 (L'.pc:Int) L'.W L'.X L'.K L'.V L'.C false)::LU (SRK C X V ⟨T',pc',on',L',laid',on2',L2',0,false,r'⟩ FU ml') R) (.cons_cons _ (.cons_cons _ (.cons _ (List.Sublist.refl _))))
    rw [<- hfd] at hE3
    exact ⟨0,rfl,OutR.go (A:=X.A) (c:=X.rc) (N:=X.N) (sub:=[_,_,_]) rfl hl hN (.inr (.inr (.inl ⟨rfl,_,pa,l,b,pu,rfl⟩))) (by rw [<- hfd]; exact hE3)⟩
  ·have hE0:Env w0 (boxI q (roC 1 key val lv 1 (some ⟨sb,0,none⟩) pa pl pu 0 false)::boxI sb (rsC 0 key false true (some ⟨b,0,none⟩))::boxI b (rlC 0 key false L'.p.1 L'.p.2.1 L'.p.2.2 (L'.pc:Int) L'.W L'.X L'.K L'.V L'.C true)::LU (SRK C X V ⟨T',pc',on',L',laid',on2',L2',0,false,r'⟩ FU ml') R) w:=by unfold rlV at hE; rw [hfd] at hE; exact hE
   have hM:foundM C ⟨kk,1,key,val,lv⟩ ⟨T',pc',on',L',laid',on2',L2',0,false,r'⟩=(1,⟨{ T' with ql:=dropQ T'.hs T'.ql,hs:=0 },pc',on',L',laid',on2',L2',0,false,r'⟩):=by unfold foundM; rw [if_pos rfl]; dsimp only; rw [hfd,if_pos rfl]
   rw [hM]
   refine (rfDrop (U:=SRK C X V ⟨T',pc',on',L',laid',on2',L2',0,false,r'⟩ FU ml') hhs (show T'.ql.length<=1000000 by omega) (show 0<=X.N/\X.N<=1099511627776 by omega) hE0).mono ?_
   rintro e w2 ⟨rfl,A',c',N',hN',hE2⟩
   have hNN:0<=N'/\N'<=4000000:=by
    rcases hN' with h | h
    ·rw [h]; exact hN
    ·rw [h]; exact roomN_in hN hl0
   exact ⟨1,rfl,OutR.fin (A:=A') (c:=c') (N:=N') rfl hl hNN (show (1:Int)≠0 by decide) hE2⟩
 ·by_cases h2:ok=2/\L'.fd=true
  ·obtain ⟨h2,hfd⟩:=h2
   subst h2
   have hE0:Env w0 (boxI q (roC 2 key val lv 1 (some ⟨sb,0,none⟩) pa pl pu 0 false)::boxI sb (rsC 0 key false true (some ⟨b,0,none⟩))::boxI b (rlC 0 key false L'.p.1 L'.p.2.1 L'.p.2.2 (L'.pc:Int) L'.W L'.X L'.K L'.V L'.C true)::LU (SRK C X V ⟨T',pc',on',L',laid',on2',L2',0,false,r'⟩ FU ml') R) w:=by unfold rlV at hE; rw [hfd] at hE; exact hE
   have hM:foundM C ⟨kk,2,key,val,lv⟩ ⟨T',pc',on',L',laid',on2',L2',0,false,r'⟩=(0,⟨T',4,on',L',laid',on2',L2',0,false,r'⟩):=by unfold foundM; rw [if_neg h1]; dsimp only; rw [hfd,if_pos ⟨rfl,rfl⟩]
   rw [hM]
   refine (rfDel hX hE0).mono ?_
   rintro e w2 ⟨rfl,l,hE2⟩
   have hE3:Env w0 (boxI q (roC 2 key val lv 4 (some ⟨sb,0,none⟩) pa pl (some ⟨l,0,none⟩) 0 false)::boxI l (rnC (some ⟨b,0,none⟩) 0 key (slotI L'.X) 0 none none)::boxI b (rlV 0 key false L')::LU (SRK C X V ⟨T',pc',on',L',laid',on2',L2',0,false,r'⟩ FU ml') R) w2:=by unfold rlV; rw [hfd]; exact hE2
   exact ⟨0,rfl,OutR.go (A:=X.A) (c:=X.rc) (N:=X.N) (sub:=[_,_,_]) rfl hl hN (.inr (.inr (.inr (.inl ⟨.inl rfl,_,pa,pl,l,b,none,none,rfl⟩)))) hE3⟩
  ·have hM:foundM C ⟨kk,ok,key,val,lv⟩ ⟨T',pc',on',L',laid',on2',L2',0,false,r'⟩=(1,⟨T',pc',on',L',laid',on2',L2',0,L'.fd,r'⟩):=by unfold foundM; rw [if_neg h1,if_neg h2]
   rw [hM]
   have hk2:ok≠2\/L'.fd=false:=by
    by_cases h9:ok=2
    ·exact .inr (by cases hfd:L'.fd; rfl; exact absurd ⟨h9,hfd⟩ h2)
    ·exact .inl h9
   refine (rfDone h1 hk2 hE).mono ?_
   rintro e w2 ⟨rfl,hE2⟩
   exact ⟨1,rfl,OutR.fin (A:=X.A) (c:=X.rc) (N:=X.N) rfl hl hN (show (1:Int)≠0 by decide) hE2⟩
end
theorem lu_perm (x:Item) (U:SU) (sub R:List Item):((x::sub)++LU U R).Perm (sub++LU U (x::R)):=perm_of fun z=>by
 simp only [LU,List.count_append,List.count_cons]
 omega
theorem swL_get (l:List OneR) (x:Plc) (o v:Int):getL (swL l x o v)=swf (getL l) x o v:=by
 unfold swL swf
 split
 ·rw [getL_set]
 ·rfl
section
variable {w0 w:World} {R sub:List Item} {C:Cf} {X:Tm} {V:Wm} {K:Kt} {d:Dd} {q sb b a l:Nat} {FU:Nat->Prop} {ml:List OneR} {ps pa pl pu sp rp:Option Addr}
theorem op1_r (hpc:K.pc=1) (hon:K.on=true->LaneOk C K.L) (hsx:(searchM 0 d.key false ⟨K.on,K.L,K.T.e,K.r⟩ (getL ml)).1=1->InU (searchM 0 d.key false ⟨K.on,K.L,K.T.e,K.r⟩ (getL ml)).2.1.L.X) (hda:K.err=0/\K.dn=false) (hl:K.T.ql.length+1<=1000000) (hhs:0<=K.T.hs) (he:0<=K.T.e/\K.T.e<=9223372036854775807) (hu:∀ x,InU (getL ml x)) (hml:ml.length<=1000000) (hN:0<=X.N/\X.N<=4000000) (hS:RSit sb d.key K.on K.L sub)
  (hE:Env w0 ((boxI q (roC d.ok d.key d.val d.lv 1 (some ⟨sb,0,none⟩) pa pl pu 0 false)::sub)++LU (SRK C X V K FU ml) R) w) :
  Calls Tryz.prog 54 #[.pointer (some ⟨q,0,none⟩),.pointer (some ⟨X.u,0,none⟩),.pointer (some ⟨V.m,0,none⟩)] w fun e w'=>∃ s,e=.returned (.int .i64 s)/\OutR w0 R C X V d q ml (opM C d K (getL ml)) s w':=by
 have hM:opM C d K (getL ml)=if (searchM 0 d.key false ⟨K.on,K.L,K.T.e,K.r⟩ (getL ml)).1=1 then ((foundM C d { K with on:=(searchM 0 d.key false ⟨K.on,K.L,K.T.e,K.r⟩ (getL ml)).2.1.on,L:=(searchM 0 d.key false ⟨K.on,K.L,K.T.e,K.r⟩ (getL ml)).2.1.L,r:=(searchM 0 d.key false ⟨K.on,K.L,K.T.e,K.r⟩ (getL ml)).2.1.r,T:={ K.T with e:=(searchM 0 d.key false ⟨K.on,K.L,K.T.e,K.r⟩ (getL ml)).2.1.e } }).1,(foundM C d { K with on:=(searchM 0 d.key false ⟨K.on,K.L,K.T.e,K.r⟩ (getL ml)).2.1.on,L:=(searchM 0 d.key false ⟨K.on,K.L,K.T.e,K.r⟩ (getL ml)).2.1.L,r:=(searchM 0 d.key false ⟨K.on,K.L,K.T.e,K.r⟩ (getL ml)).2.1.r,T:={ K.T with e:=(searchM 0 d.key false ⟨K.on,K.L,K.T.e,K.r⟩ (getL ml)).2.1.e } }).2,(searchM 0 d.key false ⟨K.on,K.L,K.T.e,K.r⟩ (getL ml)).2.2) else (0,{ K with on:=(searchM 0 d.key false ⟨K.on,K.L,K.T.e,K.r⟩ (getL ml)).2.1.on,L:=(searchM 0 d.key false ⟨K.on,K.L,K.T.e,K.r⟩ (getL ml)).2.1.L,r:=(searchM 0 d.key false ⟨K.on,K.L,K.T.e,K.r⟩ (getL ml)).2.1.r,T:={ K.T with e:=(searchM 0 d.key false ⟨K.on,K.L,K.T.e,K.r⟩ (getL ml)).2.1.e } },(searchM 0 d.key false ⟨K.on,K.L,K.T.e,K.r⟩ (getL ml)).2.2):=by
  unfold opM
  rw [if_pos hpc]
 rw [hM]
 refine rop1 _ hE ?_
 refine (search_R (C:=C) (X:=X) (V:=V) (T:=K.T) (r:=K.r) hon he hu hml hS (hE.perm (lu_perm _ _ _ _))).mono ?_
 rintro e w1 ⟨rfl,FU',ml',sub',hf',hl',hS',hE'⟩
 have hst:=search_state 0 d.key false ⟨K.on,K.L,K.T.e,K.r⟩ (getL ml)
 generalize searchM 0 d.key false ⟨K.on,K.L,K.T.e,K.r⟩ (getL ml)=z at *
 obtain ⟨q1,⟨on',L',e',r'⟩,f'⟩:=z
 dsimp only at hst hS' hE' hsx hf' ⊢
 have hE2:=hE'.perm (lu_perm _ _ _ _).symm
 refine ⟨q1,rfl,by rcases hst with h | h; exact .inl h; exact .inr h.1,fun h0=>?_,fun h1=>?_⟩
 ·subst h0
  rw [if_neg (by decide)]
  exact OutR.go (A:=X.A) (c:=X.rc) (N:=X.N) (sub:=_::sub') hf' hl' hN (.inl ⟨hpc,sb,pa,pl,pu,sub',hS',rfl⟩) hE2
 ·subst h1
  rw [if_pos rfl]
  rcases hst with h9 | ⟨-,h8⟩
  ·exact absurd h9 (by decide)
  subst h8
  rcases hS' with ⟨h7,-⟩ | ⟨-,b',rfl⟩
  ·exact absurd h7 (by decide)
  subst hf'
  exact found_r (C:=C) (X:=X) (V:=V) (d:=d) (ml:=ml) (ml':=ml') { K with on:=true,L:=L',r:=r',T:={ K.T with e:=e' } } pa pl pu (hsx rfl) hda hl hN hhs hl' hE2
theorem op2_r {n:Nat} (hpc:K.pc=2) (hk:RowOk C K.T n) (hda:K.err=0/\K.dn=false) (hml:ml.length<=999999) (hN:0<=X.N/\X.N<=4000000) (hv:K.T.apc=6->verI K.T.ah < 1099511627775) (hfu:∀ x,InU (getL ml x)) (hkk:K.T.apc<=10\/K.T.apc - 10 < (WD C d K.T).length)
  (hE:Env w0 ([boxI q (roC d.ok d.key d.val d.lv 2 ps (some ⟨a,0,none⟩) pl pu 0 false),boxI a (rav (K.T.apc:Int) K.T.ah K.T.an K.T.ar)]++LU (SRK C X V K FU ml) R) w) :
  Calls Tryz.prog 54 #[.pointer (some ⟨q,0,none⟩),.pointer (some ⟨X.u,0,none⟩),.pointer (some ⟨V.m,0,none⟩)] w fun e w'=>∃ s,e=.returned (.int .i64 s)/\OutR w0 R C X V d q ml (opM C d K (getL ml)) s w':=by
 have hM:opM C d K (getL ml)=if (allocM C d K.T (getL ml)).1=0 then (0,{ K with T:=(allocM C d K.T (getL ml)).2.1 },(allocM C d K.T (getL ml)).2.2) else if (allocM C d K.T (getL ml)).1=3 then (1,{ K with T:={ (allocM C d K.T (getL ml)).2.1 with pc:=0 },err:=6 },(allocM C d K.T (getL ml)).2.2) else if (allocM C d K.T (getL ml)).1=4 then (1,{ K with T:={ (allocM C d K.T (getL ml)).2.1 with pc:=0 },err:=7 },(allocM C d K.T (getL ml)).2.2) else (0,findM { K with T:={ (allocM C d K.T (getL ml)).2.1 with pc:=0 } },(allocM C d K.T (getL ml)).2.2):=by
  unfold opM
  rw [if_neg (by omega),if_pos hpc]
 rw [hM]
 have hst:=allocM_state C d K.T (getL ml)
 have hal:=fun (v:World) (hE:Env w0 ([boxI q (roC d.ok d.key d.val d.lv 2 ps (some ⟨a,0,none⟩) pl pu 0 false),boxI a (rav (K.T.apc:Int) K.T.ah K.T.an K.T.ar)]++LU (SRK C X V K FU ml) R) v)=>alR (C:=C) (X:={ X with ro:=K.r }) (V:=V) (T:=K.T) (d:=d) hk hml hN hv hfu hkk (hE.perm (lu_perm _ _ [_] _))
 generalize allocM C d K.T (getL ml)=z at *
 obtain ⟨q1,T',f'⟩:=z
 dsimp only at hst hal ⊢
 have hfin:∀ (s2:Int) (z2:Int × Kt × Mem),(∀ v,(∃ (A':Option Addr) (rc':Nat) (N':Int) (FU':Nat->Prop) (ml':List OneR),getL ml'=f'/\ml'.length<=ml.length+1/\0<=N'/\N'<=4000000/\((q1=0/\Env w0 (boxI a (rav (T'.apc:Int) T'.ah T'.an T'.ar)::LU (SR C { { X with ro:=K.r } with A:=A',rc:=rc',N:=N' } V T' FU' ml') (boxI q (roC d.ok d.key d.val d.lv 2 ps (some ⟨a,0,none⟩) pl pu 0 false)::R)) v)\/(q1≠0/\Env w0 (LU (SR C { { X with ro:=K.r } with A:=A',rc:=rc',N:=N' } V T' FU' ml') (boxI q (roC d.ok d.key d.val d.lv 2 ps (some ⟨a,0,none⟩) pl pu 0 false)::R)) v)))->Calls Tryz.prog 104 #[.pointer (some ⟨q,0,none⟩),.int .i64 q1,.int .i64 0,.bool false] v fun o w1=>o=.returned (.int .i64 s2)/\OutR w0 R C X V d q ml z2 s2 w1/\∃ sp9 pc9 e9,Blk 0 w1 q (roC d.ok d.key d.val d.lv pc9 sp9 (some ⟨a,0,none⟩) pl pu e9 false))->Calls Tryz.prog 54 #[.pointer (some ⟨q,0,none⟩),.pointer (some ⟨X.u,0,none⟩),.pointer (some ⟨V.m,0,none⟩)] w fun e w'=>∃ s,e=.returned (.int .i64 s)/\OutR w0 R C X V d q ml z2 s w':=by
  intro s2 z2 hcame
  refine (rop2 q1 s2 _ (fun v=>OutR w0 R C X V d q ml z2 s2 v/\∃ sp9 pc9 e9,Blk 0 v q (roC d.ok d.key d.val d.lv pc9 sp9 (some ⟨a,0,none⟩) pl pu e9 false)) hE ?_ (fun v h=>h.2) (fun v hv=>hal v hv) hcame).mono (fun e w' h=>⟨s2,h.1,h.2.1⟩)
  rintro v ⟨A',rc',N',FU',ml',-,-,-,-,⟨-,h⟩ | ⟨-,h⟩⟩
  ·exact h.get 4 rfl
  ·exact h.get 3 rfl
 rcases hst with h | h | h | h | h
 ·subst h
  rw [if_pos rfl]
  refine hfin 0 _ ?_
  rintro v ⟨A',rc',N',FU',ml',hf,hl,hN0,hN1,⟨-,h⟩ | ⟨h9,-⟩⟩
  ·have h2:=h.perm (lu_perm (boxI q (roC d.ok d.key d.val d.lv 2 ps (some ⟨a,0,none⟩) pl pu 0 false)) _ [boxI a (rav (T'.apc:Int) T'.ah T'.an T'.ar)] R).symm
   refine (rcameGo h2).mono ?_
   rintro e w2 ⟨rfl,hE2⟩
   exact ⟨rfl,OutR.go (K:={ K with T:=T' }) (A:=A') (c:=rc') (N:=N') (sub:=[_,_]) hf hl ⟨hN0,hN1⟩ (.inr (.inl ⟨hpc,ps,a,pl,pu,rfl⟩)) hE2,ps,2,0,hE2.get 0 rfl⟩
  ·exact absurd rfl h9
 all_goals
  subst h
  rw [if_neg (by decide)]
 ·rw [if_neg (by decide),if_neg (by decide)]
  refine hfin 0 _ ?_
  rintro v ⟨A',rc',N',FU',ml',hf,hl,hN0,hN1,⟨h9,-⟩ | ⟨-,h⟩⟩
  ·exact absurd h9 (by decide)
  have h2:=h.perm (lu_perm (boxI q (roC d.ok d.key d.val d.lv 2 ps (some ⟨a,0,none⟩) pl pu 0 false)) _ [] R).symm
  refine (rcameFind 1 (.inl rfl) h2).mono ?_
  rintro e w2 ⟨rfl,sb,hE2⟩
  exact ⟨rfl,OutR.find (K0:={ K with T:={ T' with pc:=0 } }) (A:=A') (c:=rc') (N:=N') hf hl ⟨hN0,hN1⟩ hE2,_,1,0,hE2.get 0 rfl⟩
 ·rw [if_neg (by decide),if_neg (by decide)]
  refine hfin 0 _ ?_
  rintro v ⟨A',rc',N',FU',ml',hf,hl,hN0,hN1,⟨h9,-⟩ | ⟨-,h⟩⟩
  ·exact absurd h9 (by decide)
  have h2:=h.perm (lu_perm (boxI q (roC d.ok d.key d.val d.lv 2 ps (some ⟨a,0,none⟩) pl pu 0 false)) _ [] R).symm
  refine (rcameFind 2 (.inr rfl) h2).mono ?_
  rintro e w2 ⟨rfl,sb,hE2⟩
  exact ⟨rfl,OutR.find (K0:={ K with T:={ T' with pc:=0 } }) (A:=A') (c:=rc') (N:=N') hf hl ⟨hN0,hN1⟩ hE2,_,1,0,hE2.get 0 rfl⟩
 ·rw [if_pos rfl]
  refine hfin 1 _ ?_
  rintro v ⟨A',rc',N',FU',ml',hf,hl,hN0,hN1,⟨h9,-⟩ | ⟨-,h⟩⟩
  ·exact absurd h9 (by decide)
  have h2:=h.perm (lu_perm (boxI q (roC d.ok d.key d.val d.lv 2 ps (some ⟨a,0,none⟩) pl pu 0 false)) _ [] R).symm
  refine (rcameOver 3 (.inl rfl) h2).mono ?_
  rintro e w2 ⟨rfl,hE2⟩
  have hE3:Env w0 (boxI q (roC d.ok d.key d.val d.lv 2 ps (some ⟨a,0,none⟩) pl pu 6 K.dn)::LU (SR C { { X with ro:=K.r } with A:=A',rc:=rc',N:=N' } V T' FU' ml') R) w2:=by rw [hda.2]; exact hE2
  exact ⟨rfl,OutR.fin (K:={ K with T:={ T' with pc:=0 },err:=6 }) (A:=A') (c:=rc') (N:=N') hf hl ⟨hN0,hN1⟩ (show (1:Int)≠0 by decide) hE3,_,2,_,hE2.get 0 rfl⟩
 ·rw [if_neg (by decide),if_pos rfl]
  refine hfin 1 _ ?_
  rintro v ⟨A',rc',N',FU',ml',hf,hl,hN0,hN1,⟨h9,-⟩ | ⟨-,h⟩⟩
  ·exact absurd h9 (by decide)
  have h2:=h.perm (lu_perm (boxI q (roC d.ok d.key d.val d.lv 2 ps (some ⟨a,0,none⟩) pl pu 0 false)) _ [] R).symm
  refine (rcameOver 4 (.inr rfl) h2).mono ?_
  rintro e w2 ⟨rfl,hE2⟩
  have hE3:Env w0 (boxI q (roC d.ok d.key d.val d.lv 2 ps (some ⟨a,0,none⟩) pl pu 7 K.dn)::LU (SR C { { X with ro:=K.r } with A:=A',rc:=rc',N:=N' } V T' FU' ml') R) w2:=by rw [hda.2]; exact hE2
  exact ⟨rfl,OutR.fin (K:={ K with T:={ T' with pc:=0 },err:=7 }) (A:=A') (c:=rc') (N:=N') hf hl ⟨hN0,hN1⟩ (show (1:Int)≠0 by decide) hE3,_,2,_,hE2.get 0 rfl⟩
end
section
variable {w0 w:World} {R sub2:List Item} {C:Cf} {X:Tm} {V:Wm} {K:Kt} {d:Dd} {q b l s2 rb:Nat} {FU:Nat->Prop} {ml:List OneR} {ps pa pl pu sp rp:Option Addr}
theorem op3_r (hpc:K.pc=3) (hW:InU K.L.W) (hda:K.err=0/\K.dn=false) (hml:ml.length<=999999) (hN:0<=X.N/\X.N<=4000000)
  (hE:Env w0 ([boxI q (roC d.ok d.key d.val d.lv 3 ps pa (some ⟨l,0,none⟩) pu 0 false),boxI l (rkC (some ⟨b,0,none⟩) K.laid),boxI b (rlV 0 d.key false K.L)]++LU (SRK C X V K FU ml) R) w) :
  Calls Tryz.prog 54 #[.pointer (some ⟨q,0,none⟩),.pointer (some ⟨X.u,0,none⟩),.pointer (some ⟨V.m,0,none⟩)] w fun e w'=>∃ s,e=.returned (.int .i64 s)/\OutR w0 R C X V d q ml (opM C d K (getL ml)) s w':=by
 have hE1:=hE.perm (lu_perm _ _ [_,_] _)
 cases hl:K.laid
 ·rw [hl] at hE1
  have hM:opM C d K (getL ml)=(0,{ K with laid:=true },upd (getL ml) (5,K.T.hs,7) (wordI false (slotI K.L.W) K.T.e)):=by
   unfold opM
   rw [if_neg (by omega),if_neg (by omega),if_pos hpc,hl,if_neg (by decide)]
  rw [hM]
  refine (rop3 0 (.inl rfl) (OutR w0 R C X V d q ml (0,{ K with laid:=true },upd (getL ml) (5,K.T.hs,7) (wordI false (slotI K.L.W) K.T.e)) 0) hE ?_).mono (fun e w' h=>⟨0,h.1,h.2⟩)
  refine (rlink0 (U:=SRK C X V K FU ml) hW (show ml.length<=1000000 by omega) hE1).mono ?_
  rintro e w1 ⟨rfl,F5,hE2⟩
  refine ⟨rfl,_,hE2.perm (lu_perm (boxI q (roC d.ok d.key d.val d.lv 3 ps pa (some ⟨l,0,none⟩) pu 0 false)) _ [_,_] _).symm,fun v hv=>?_⟩
  exact OutR.go (K:={ K with laid:=true }) (A:=X.A) (c:=X.rc) (N:=X.N) (sub:=[_,_,_]) (getL_set _ _ _) (setL_length _ _ _) hN (.inr (.inr (.inl ⟨hpc,ps,pa,l,b,pu,rfl⟩))) hv
 ·rw [hl] at hE1
  have hlk:=rlink1 (U:=SRK C X V K FU ml) (show ml.length<=1000000 by omega) hE1
  by_cases heq:getL ml K.L.p=K.L.W
  ·have heq':getL (SRK C X V K FU ml).ml (K.L.p.1,K.L.p.2.1,K.L.p.2.2)=K.L.W:=heq
   have hM:opM C d K (getL ml)=(1,{ K with T:={ K.T with hs:=0 },dn:=true },swf (getL ml) K.L.p K.L.W (wordI false K.T.hs K.T.e)):=by
    unfold opM
    rw [if_neg (by omega),if_neg (by omega),if_pos hpc,hl,if_pos rfl,if_pos heq]
   rw [hM]
   simp only [heq',if_true] at hlk
   refine (rop3 1 (.inr rfl) (OutR w0 R C X V d q ml (1,{ K with T:={ K.T with hs:=0 },dn:=true },swf (getL ml) K.L.p K.L.W (wordI false K.T.hs K.T.e)) 1) hE (hlk.mono ?_)).mono (fun e w' h=>⟨1,h.1,h.2⟩)
   rintro e w1 ⟨rfl,F5,hE2⟩
   refine ⟨rfl,_,hE2.perm (lu_perm (boxI q (roC d.ok d.key d.val d.lv 3 ps pa (some ⟨l,0,none⟩) pu 0 false)) _ [_,_] _).symm,fun v hv=>?_⟩
   have hv2:=hv.sub (L':=boxI q (roC d.ok d.key d.val d.lv 3 ps pa (some ⟨l,0,none⟩) pu 0 true)::LU _ R) (.cons_cons _ (.cons _ (.cons _ (List.Sublist.refl _))))
   rw [<- hda.1] at hv2
   exact OutR.fin (K:={ K with T:={ K.T with hs:=0 },dn:=true }) (A:=X.A) (c:=X.rc) (N:=X.N) (swL_get ml K.L.p _ _) (swL_length _ _ _ _) hN (show (1:Int)≠0 by decide) (by rw [hda.1] at hv2 ⊢; exact hv2)
  ·have heq':¬ getL (SRK C X V K FU ml).ml (K.L.p.1,K.L.p.2.1,K.L.p.2.2)=K.L.W:=heq
   have hM:opM C d K (getL ml)=(0,findM K,swf (getL ml) K.L.p K.L.W (wordI false K.T.hs K.T.e)):=by
    unfold opM
    rw [if_neg (by omega),if_neg (by omega),if_pos hpc,hl,if_pos rfl,if_neg heq]
   rw [hM]
   simp only [heq',if_false] at hlk
   refine (rop3a (OutR w0 R C X V d q ml (0,findM K,swf (getL ml) K.L.p K.L.W (wordI false K.T.hs K.T.e)) 0) hE (hlk.mono ?_)).mono (fun e w' h=>⟨0,h.1,h.2⟩)
   rintro e w1 ⟨rfl,F5,hE2⟩
   have hE3:=hE2.perm (lu_perm (boxI q (roC d.ok d.key d.val d.lv 3 ps pa (some ⟨l,0,none⟩) pu 0 false)) _ [_,_] _).symm
   have hE4:=hE3.sub (L':=boxI q (roC d.ok d.key d.val d.lv 3 ps pa (some ⟨l,0,none⟩) pu 0 false)::LU _ R) (.cons_cons _ (.cons _ (.cons _ (List.Sublist.refl _))))
   refine ⟨rfl,(ragain hE4).mono ?_⟩
   rintro e w2 ⟨rfl,sb,hE5⟩
   exact ⟨rfl,OutR.find (K0:=K) (A:=X.A) (c:=X.rc) (N:=X.N) (swL_get ml K.L.p _ _) (swL_length _ _ _ _) hN hE5⟩
theorem op4_r (hpc:K.pc=4) (hX:InU K.L.X) (hmk:markB K.L.X=false) (hs0:K.T.hs=0) (hml:ml.length<=999999) (hN:0<=X.N/\X.N<=4000000)
  (hE:Env w0 ([boxI q (roC d.ok d.key d.val d.lv 4 ps pa pl (some ⟨l,0,none⟩) 0 false),boxI l (rnC (some ⟨b,0,none⟩) 0 d.key (slotI K.L.X) 0 sp rp),boxI b (rlV 0 d.key false K.L)]++LU (SRK C X V K FU ml) R) w) :
  Calls Tryz.prog 54 #[.pointer (some ⟨q,0,none⟩),.pointer (some ⟨X.u,0,none⟩),.pointer (some ⟨V.m,0,none⟩)] w fun e w'=>∃ s,e=.returned (.int .i64 s)/\OutR w0 R C X V d q ml (opM C d K (getL ml)) s w':=by
 have hE1:=hE.perm (lu_perm _ _ [_,_] _)
 have hlk:=rmark0 (U:=SRK C X V K FU ml) hX hmk hs0 (show ml.length<=1000000 by omega) hE1
 by_cases heq:getL ml (5,K.L.C,7)=K.L.X
 ·have heq':getL (SRK C X V K FU ml).ml (5,K.L.C,7)=K.L.X:=heq
  have hM:opM C d K (getL ml)=(0,{ K with pc:=5 },swf (getL ml) (5,K.L.C,7) K.L.X (markM K.L.X K.T.e)):=by
   unfold opM
   rw [if_neg (by omega),if_neg (by omega),if_neg (by omega),if_pos hpc,if_pos heq]
  rw [hM]
  simp only [heq',if_true] at hlk
  refine (rop4 0 (.inl rfl) (OutR w0 R C X V d q ml (0,{ K with pc:=5 },swf (getL ml) (5,K.L.C,7) K.L.X (markM K.L.X K.T.e)) 0) hE (hlk.mono ?_)).mono (fun e w' h=>⟨0,h.1,h.2⟩)
  rintro e w1 ⟨rfl,F5,hE2⟩
  refine ⟨rfl,_,hE2.perm (lu_perm (boxI q (roC d.ok d.key d.val d.lv 4 ps pa pl (some ⟨l,0,none⟩) 0 false)) _ [_,_] _).symm,fun v hv=>?_⟩
  exact OutR.go (K:={ K with pc:=5 }) (A:=X.A) (c:=X.rc) (N:=X.N) (sub:=[_,_,_]) (swL_get ml _ _ _) (swL_length _ _ _ _) hN (.inr (.inr (.inr (.inl ⟨.inr rfl,ps,pa,pl,l,b,sp,rp,rfl⟩)))) hv
 ·have heq':¬ getL (SRK C X V K FU ml).ml (5,K.L.C,7)=K.L.X:=heq
  have hM:opM C d K (getL ml)=(0,findM K,swf (getL ml) (5,K.L.C,7) K.L.X (markM K.L.X K.T.e)):=by
   unfold opM
   rw [if_neg (by omega),if_neg (by omega),if_neg (by omega),if_pos hpc,if_neg heq]
  rw [hM]
  simp only [heq',if_false] at hlk
  refine (rop4a (OutR w0 R C X V d q ml (0,findM K,swf (getL ml) (5,K.L.C,7) K.L.X (markM K.L.X K.T.e)) 0) hE (hlk.mono ?_)).mono (fun e w' h=>⟨0,h.1,h.2⟩)
  rintro e w1 ⟨rfl,F5,hE2⟩
  have hE3:=hE2.perm (lu_perm (boxI q (roC d.ok d.key d.val d.lv 4 ps pa pl (some ⟨l,0,none⟩) 0 false)) _ [_,_] _).symm
  have hE4:=hE3.sub (L':=boxI q (roC d.ok d.key d.val d.lv 4 ps pa pl (some ⟨l,0,none⟩) 0 false)::LU _ R) (.cons_cons _ (.cons _ (.cons _ (List.Sublist.refl _))))
  refine ⟨rfl,(ragain hE4).mono ?_⟩
  rintro e w2 ⟨rfl,sb,hE5⟩
  exact ⟨rfl,OutR.find (K0:=K) (A:=X.A) (c:=X.rc) (N:=X.N) (swL_get ml _ _ _) (swL_length _ _ _ _) hN hE5⟩
theorem op5_r (hpc:K.pc=5) (hml:ml.length<=999999) (hN:0<=X.N/\X.N<=4000000)
  (hE:Env w0 ([boxI q (roC d.ok d.key d.val d.lv 4 ps pa pl (some ⟨l,0,none⟩) 0 false),boxI l (rnC (some ⟨b,0,none⟩) 0 d.key (slotI K.L.X) 1 sp rp),boxI b (rlV 0 d.key false K.L)]++LU (SRK C X V K FU ml) R) w) :
  Calls Tryz.prog 54 #[.pointer (some ⟨q,0,none⟩),.pointer (some ⟨X.u,0,none⟩),.pointer (some ⟨V.m,0,none⟩)] w fun e w'=>∃ s,e=.returned (.int .i64 s)/\OutR w0 R C X V d q ml (opM C d K (getL ml)) s w':=by
 have hE1:=hE.perm (lu_perm _ _ [_,_] _)
 have hlk:=rcut1 (U:=SRK C X V K FU ml) (show ml.length<=1000000 by omega) hE1
 by_cases heq:getL ml K.L.p=K.L.W
 ·have heq':getL (SRK C X V K FU ml).ml (K.L.p.1,K.L.p.2.1,K.L.p.2.2)=K.L.W:=heq
  have hM:opM C d K (getL ml)=(0,{ K with pc:=7,T:={ K.T with pc:=3,rs:=K.L.C,rpc:=0,re:=0 } },swf (getL ml) K.L.p K.L.W (wordI false (slotI K.L.X) K.T.e)):=by
   unfold opM
   rw [if_neg (by omega),if_neg (by omega),if_neg (by omega),if_neg (by omega),if_pos hpc,if_pos heq]
  rw [hM]
  simp only [heq',if_true] at hlk
  refine (rop4 0 (.inl rfl) (OutR w0 R C X V d q ml (0,{ K with pc:=7,T:={ K.T with pc:=3,rs:=K.L.C,rpc:=0,re:=0 } },swf (getL ml) K.L.p K.L.W (wordI false (slotI K.L.X) K.T.e)) 0) hE (hlk.mono ?_)).mono (fun e w' h=>⟨0,h.1,h.2⟩)
  rintro e w1 ⟨rfl,F5,sb9,rb9,hE2⟩
  refine ⟨rfl,_,hE2.perm (lu_perm (boxI q (roC d.ok d.key d.val d.lv 4 ps pa pl (some ⟨l,0,none⟩) 0 false)) _ [_,_,_,_] _).symm,fun v hv=>?_⟩
  have hv2:=hv.sub (L':=boxI q (roC d.ok d.key d.val d.lv 4 ps pa pl (some ⟨l,0,none⟩) 0 false)::boxI l (rnC (some ⟨b,0,none⟩) 0 d.key (slotI K.L.X) 3 (some ⟨sb9,0,none⟩) (some ⟨rb9,0,none⟩))::boxI rb9 (rrv K.L.C 0 0)::LU _ R) (.cons_cons _ (.cons_cons _ (.cons _ (.cons_cons _ (.cons _ (List.Sublist.refl _))))))
  exact OutR.go (K:={ K with pc:=7,T:={ K.T with pc:=3,rs:=K.L.C,rpc:=0,re:=0 } }) (A:=X.A) (c:=X.rc) (N:=X.N) (sub:=[_,_,_]) (swL_get ml _ _ _) (swL_length _ _ _ _) hN (.inr (.inr (.inr (.inr (.inr ⟨rfl,ps,pa,pl,l,b,some ⟨sb9,0,none⟩,rb9,rfl⟩))))) hv2
 ·have heq':¬ getL (SRK C X V K FU ml).ml (K.L.p.1,K.L.p.2.1,K.L.p.2.2)=K.L.W:=heq
  have hM:opM C d K (getL ml)=(0,{ K with pc:=6,on2:=false,L2:=L0 (4,0,0) },swf (getL ml) K.L.p K.L.W (wordI false (slotI K.L.X) K.T.e)):=by
   unfold opM
   rw [if_neg (by omega),if_neg (by omega),if_neg (by omega),if_neg (by omega),if_pos hpc,if_neg heq]
  rw [hM]
  simp only [heq',if_false] at hlk
  refine (rop4 0 (.inl rfl) (OutR w0 R C X V d q ml (0,{ K with pc:=6,on2:=false,L2:=L0 (4,0,0) },swf (getL ml) K.L.p K.L.W (wordI false (slotI K.L.X) K.T.e)) 0) hE (hlk.mono ?_)).mono (fun e w' h=>⟨0,h.1,h.2⟩)
  rintro e w1 ⟨rfl,F5,sb9,rb9,hE2⟩
  refine ⟨rfl,_,hE2.perm (lu_perm (boxI q (roC d.ok d.key d.val d.lv 4 ps pa pl (some ⟨l,0,none⟩) 0 false)) _ [_,_,_,_] _).symm,fun v hv=>?_⟩
  have hv2:=(hv.perm (L':=boxI q (roC d.ok d.key d.val d.lv 4 ps pa pl (some ⟨l,0,none⟩) 0 false)::boxI l (rnC (some ⟨b,0,none⟩) 0 d.key (slotI K.L.X) 2 (some ⟨sb9,0,none⟩) (some ⟨rb9,0,none⟩))::boxI rb9 (rrv K.L.C 0 0)::boxI sb9 (rsC 0 d.key false false none)::boxI b (rlV 0 d.key false K.L)::LU _ R) (((List.Perm.swap _ _ _).cons _).cons _)).sub (L':=boxI q (roC d.ok d.key d.val d.lv 4 ps pa pl (some ⟨l,0,none⟩) 0 false)::boxI l (rnC (some ⟨b,0,none⟩) 0 d.key (slotI K.L.X) 2 (some ⟨sb9,0,none⟩) (some ⟨rb9,0,none⟩))::boxI rb9 (rrv K.L.C 0 0)::boxI sb9 (rsC 0 d.key false false none)::LU _ R) (.cons_cons _ (.cons_cons _ (.cons_cons _ (.cons_cons _ (.cons _ (List.Sublist.refl _))))))
  exact OutR.go (K:={ K with pc:=6,on2:=false,L2:=L0 (4,0,0) }) (A:=X.A) (c:=X.rc) (N:=X.N) (sub:=[_,_,_,_]) (swL_get ml _ _ _) (swL_length _ _ _ _) hN (.inr (.inr (.inr (.inr (.inl ⟨rfl,ps,pa,pl,l,b,sb9,rb9,[_],.inl ⟨rfl,none,rfl⟩,rfl⟩))))) hv2
theorem op6_r (hpc:K.pc=6) (hon:K.on2=true->LaneOk C K.L2) (he:0<=K.T.e/\K.T.e<=9223372036854775807) (hu:∀ x,InU (getL ml x)) (hml:ml.length<=999999) (hN:0<=X.N/\X.N<=4000000) (hS:RSit s2 d.key K.on2 K.L2 sub2)
  (hE:Env w0 ((boxI q (roC d.ok d.key d.val d.lv 4 ps pa pl (some ⟨l,0,none⟩) 0 false)::boxI l (rnC (some ⟨b,0,none⟩) 0 d.key (slotI K.L.X) 2 (some ⟨s2,0,none⟩) (some ⟨rb,0,none⟩))::boxI rb (rrv K.L.C 0 0)::sub2)++LU (SRK C X V K FU ml) R) w) :
  Calls Tryz.prog 54 #[.pointer (some ⟨q,0,none⟩),.pointer (some ⟨X.u,0,none⟩),.pointer (some ⟨V.m,0,none⟩)] w fun e w'=>∃ s,e=.returned (.int .i64 s)/\OutR w0 R C X V d q ml (opM C d K (getL ml)) s w':=by
 have hM:opM C d K (getL ml)=if (searchM 0 d.key false ⟨K.on2,K.L2,K.T.e,K.r⟩ (getL ml)).1=1 then (0,{ K with on2:=(searchM 0 d.key false ⟨K.on2,K.L2,K.T.e,K.r⟩ (getL ml)).2.1.on,L2:=(searchM 0 d.key false ⟨K.on2,K.L2,K.T.e,K.r⟩ (getL ml)).2.1.L,r:=(searchM 0 d.key false ⟨K.on2,K.L2,K.T.e,K.r⟩ (getL ml)).2.1.r,pc:=7,T:={ K.T with e:=(searchM 0 d.key false ⟨K.on2,K.L2,K.T.e,K.r⟩ (getL ml)).2.1.e,pc:=3,rs:=K.L.C,rpc:=0,re:=0 } },(searchM 0 d.key false ⟨K.on2,K.L2,K.T.e,K.r⟩ (getL ml)).2.2) else (0,{ K with on2:=(searchM 0 d.key false ⟨K.on2,K.L2,K.T.e,K.r⟩ (getL ml)).2.1.on,L2:=(searchM 0 d.key false ⟨K.on2,K.L2,K.T.e,K.r⟩ (getL ml)).2.1.L,r:=(searchM 0 d.key false ⟨K.on2,K.L2,K.T.e,K.r⟩ (getL ml)).2.1.r,T:={ K.T with e:=(searchM 0 d.key false ⟨K.on2,K.L2,K.T.e,K.r⟩ (getL ml)).2.1.e } },(searchM 0 d.key false ⟨K.on2,K.L2,K.T.e,K.r⟩ (getL ml)).2.2):=by
  unfold opM
  rw [if_neg (by omega),if_neg (by omega),if_neg (by omega),if_neg (by omega),if_neg (by omega),if_pos hpc]
 rw [hM]
 have hP:((boxI q (roC d.ok d.key d.val d.lv 4 ps pa pl (some ⟨l,0,none⟩) 0 false)::boxI l (rnC (some ⟨b,0,none⟩) 0 d.key (slotI K.L.X) 2 (some ⟨s2,0,none⟩) (some ⟨rb,0,none⟩))::boxI rb (rrv K.L.C 0 0)::sub2)++LU (SRK C X V K FU ml) R).Perm (sub2++LU (SRK C X V K FU ml) (boxI q (roC d.ok d.key d.val d.lv 4 ps pa pl (some ⟨l,0,none⟩) 0 false)::boxI l (rnC (some ⟨b,0,none⟩) 0 d.key (slotI K.L.X) 2 (some ⟨s2,0,none⟩) (some ⟨rb,0,none⟩))::boxI rb (rrv K.L.C 0 0)::R)):=perm_of fun z=>by
  simp only [LU,List.count_append,List.count_cons]
  omega
 have hsr:=search_R (C:=C) (X:=X) (V:=V) (T:=K.T) (r:=K.r) hon he hu (show ml.length<=1000000 by omega) hS (hE.perm hP)
 have hst:=search_state 0 d.key false ⟨K.on2,K.L2,K.T.e,K.r⟩ (getL ml)
 generalize searchM 0 d.key false ⟨K.on2,K.L2,K.T.e,K.r⟩ (getL ml)=z at *
 obtain ⟨q1,⟨on',L',e',r'⟩,f'⟩:=z
 dsimp only at hst hsr ⊢
 have hq1:q1=0\/q1=1:=by rcases hst with h | h; exact .inl h; exact .inr h.1
 have hbk:∀ (z9:Int × Kt × Mem),(∀ v,(∃ FU' ml' sub',getL ml'=f'/\ml'.length<=ml.length+1/\RSit s2 d.key on' L' sub'/\Env w0 (boxI q (roC d.ok d.key d.val d.lv 4 ps pa pl (some ⟨l,0,none⟩) 0 false)::boxI l (rnC (some ⟨b,0,none⟩) 0 d.key (slotI K.L.X) (if q1=1 then 3 else 2) (some ⟨s2,0,none⟩) (some ⟨rb,0,none⟩))::boxI rb (rrv K.L.C 0 0)::(sub'++LU (SR C { X with ro:=r' } V { K.T with e:=e' } FU' ml') R)) v)->OutR w0 R C X V d q ml z9 0 v)->Calls Tryz.prog 54 #[.pointer (some ⟨q,0,none⟩),.pointer (some ⟨X.u,0,none⟩),.pointer (some ⟨V.m,0,none⟩)] w fun e w'=>∃ s,e=.returned (.int .i64 s)/\OutR w0 R C X V d q ml z9 s w':=by
  intro z9 hz
  refine (rop4 0 (.inl rfl) (OutR w0 R C X V d q ml z9 0) hE ?_).mono (fun e w' h=>⟨0,h.1,h.2⟩)
  have hE9:=hE.perm (L':=boxI l (rnC (some ⟨b,0,none⟩) 0 d.key (slotI K.L.X) 2 (some ⟨s2,0,none⟩) (some ⟨rb,0,none⟩))::boxI q (roC d.ok d.key d.val d.lv 4 ps pa pl (some ⟨l,0,none⟩) 0 false)::boxI rb (rrv K.L.C 0 0)::(sub2++LU (SRK C X V K FU ml) R)) (List.Perm.swap _ _ _)
  refine (rseek2 q1 hq1 s2 (fun v=>∃ L1,Env w0 (boxI q (roC d.ok d.key d.val d.lv 4 ps pa pl (some ⟨l,0,none⟩) 0 false)::L1) v/\∀ v',Env w0 (boxI q (roC d.ok d.key d.val d.lv 4 ps pa pl (some ⟨l,0,none⟩) 0 false)::L1) v'->OutR w0 R C X V d q ml z9 0 v') hE9 (hsr.mono ?_)).mono ?_
  ·rintro e w1 ⟨rfl,FU',ml',sub',hf',hl',hS',hE'⟩
   refine ⟨rfl,boxI q (roC d.ok d.key d.val d.lv 4 ps pa pl (some ⟨l,0,none⟩) 0 false)::boxI rb (rrv K.L.C 0 0)::(sub'++LU (SR C { X with ro:=r' } V { K.T with e:=e' } FU' ml') R),hE'.perm (perm_of fun z=>by simp only [LU,List.count_append,List.count_cons]; omega),fun v hv=>?_⟩
   refine ⟨boxI l (rnC (some ⟨b,0,none⟩) 0 d.key (slotI K.L.X) (if q1=1 then 3 else 2) (some ⟨s2,0,none⟩) (some ⟨rb,0,none⟩))::boxI rb (rrv K.L.C 0 0)::(sub'++LU (SR C { X with ro:=r' } V { K.T with e:=e' } FU' ml') R),hv.perm (List.Perm.swap _ _ _),fun v' hv'=>hz v' ⟨FU',ml',sub',hf',hl',hS',hv'⟩⟩
  ·rintro e w1 ⟨rfl,h⟩
   exact ⟨rfl,h⟩
 rcases hq1 with h | h
 ·subst h
  rw [if_neg (by decide)]
  refine hbk _ ?_
  rintro v ⟨FU',ml',sub',hf',hl',hS',hv⟩
  exact OutR.go (K:={ K with on2:=on',L2:=L',r:=r',T:={ K.T with e:=e' } }) (A:=X.A) (c:=X.rc) (N:=X.N) (sub:=_::_::_::sub') hf' hl' hN (.inr (.inr (.inr (.inr (.inl ⟨hpc,ps,pa,pl,l,b,s2,rb,sub',hS',rfl⟩))))) hv
 ·subst h
  rw [if_pos rfl]
  refine hbk _ ?_
  rintro v ⟨FU',ml',sub',hf',hl',hS',hv⟩
  have hv2:=hv.sub (L':=boxI q (roC d.ok d.key d.val d.lv 4 ps pa pl (some ⟨l,0,none⟩) 0 false)::boxI l (rnC (some ⟨b,0,none⟩) 0 d.key (slotI K.L.X) 3 (some ⟨s2,0,none⟩) (some ⟨rb,0,none⟩))::boxI rb (rrv K.L.C 0 0)::LU _ R) (.cons_cons _ (.cons_cons _ (.cons_cons _ (List.sublist_append_right sub' _))))
  exact OutR.go (K:={ K with on2:=on',L2:=L',r:=r',pc:=7,T:={ K.T with e:=e',pc:=3,rs:=K.L.C,rpc:=0,re:=0 } }) (A:=X.A) (c:=X.rc) (N:=X.N) (sub:=[_,_,_]) hf' hl' hN (.inr (.inr (.inr (.inr (.inr ⟨rfl,ps,pa,pl,l,b,some ⟨s2,0,none⟩,rb,rfl⟩))))) hv2
theorem op7_r (hpc:K.pc=7) (hl:K.T.ql.length+1<=1000000) (hre:InU K.T.re) (hep:K.T.rpc≠0->epI K.T.re=K.T.re) (hr:K.T.rpc=0\/K.T.rpc=1) (hda:K.err=0/\K.dn=false) (hml:ml.length<=999999) (hN:0<=X.N/\X.N<=4000000)
  (hE:Env w0 ([boxI q (roC d.ok d.key d.val d.lv 4 ps pa pl (some ⟨l,0,none⟩) 0 false),boxI l (rnC (some ⟨b,0,none⟩) 0 d.key (slotI K.L.X) 3 sp (some ⟨rb,0,none⟩)),boxI rb (rrv K.T.rs (K.T.rpc:Int) K.T.re)]++LU (SRK C X V K FU ml) R) w) :
  Calls Tryz.prog 54 #[.pointer (some ⟨q,0,none⟩),.pointer (some ⟨X.u,0,none⟩),.pointer (some ⟨V.m,0,none⟩)] w fun e w'=>∃ s,e=.returned (.int .i64 s)/\OutR w0 R C X V d q ml (opM C d K (getL ml)) s w':=by
 have hM:opM C d K (getL ml)=if (retireM K.T (getL ml)).1=0 then (0,{ K with T:=(retireM K.T (getL ml)).2.1 },(retireM K.T (getL ml)).2.2) else (1,{ K with T:={ (retireM K.T (getL ml)).2.1 with pc:=0 },dn:=true },(retireM K.T (getL ml)).2.2):=by
  unfold opM
  rw [if_neg (by omega),if_neg (by omega),if_neg (by omega),if_neg (by omega),if_neg (by omega),if_neg (by omega)]
 rw [hM]
 have hE1:=hE.perm (L':=boxI rb (rrv K.T.rs (K.T.rpc:Int) K.T.re)::LU (SRK C X V K FU ml) (boxI q (roC d.ok d.key d.val d.lv 4 ps pa pl (some ⟨l,0,none⟩) 0 false)::boxI l (rnC (some ⟨b,0,none⟩) 0 d.key (slotI K.L.X) 3 sp (some ⟨rb,0,none⟩))::R)) (perm_of fun z=>by simp only [LU,List.count_append,List.count_cons,List.count_nil]; omega)
 have hrr:=reR (C:=C) (X:={ X with ro:=K.r }) (V:=V) (T:=K.T) hl hre hep hr hml hN hE1
 have hE9:=hE.perm (L':=boxI l (rnC (some ⟨b,0,none⟩) 0 d.key (slotI K.L.X) 3 sp (some ⟨rb,0,none⟩))::boxI q (roC d.ok d.key d.val d.lv 4 ps pa pl (some ⟨l,0,none⟩) 0 false)::boxI rb (rrv K.T.rs (K.T.rpc:Int) K.T.re)::LU (SRK C X V K FU ml) R) (List.Perm.swap _ _ _)
 have hrs:(retireM K.T (getL ml)).1=0\/(retireM K.T (getL ml)).1=1:=by
  unfold retireM
  split
  ·exact .inl rfl
  ·exact .inr rfl
 generalize retireM K.T (getL ml)=z at *
 obtain ⟨q1,T',f'⟩:=z
 dsimp only at hrs hrr ⊢
 rcases hrs with h | h
 ·subst h
  rw [if_pos rfl]
  refine (rop4 0 (.inl rfl) (OutR w0 R C X V d q ml (0,{ K with T:=T' },f') 0) hE ?_).mono (fun e w' h=>⟨0,h.1,h.2⟩)
  refine rret3 rb _ hE9 (hrr.mono ?_)
  rintro e w1 ⟨rfl,A',rc',N',FU',ml',hf',hl',hN0,hN1,⟨-,hE'⟩ | ⟨h9,-⟩⟩
  ·refine ⟨0,rfl,rfl,_,hE'.perm (L':=boxI q (roC d.ok d.key d.val d.lv 4 ps pa pl (some ⟨l,0,none⟩) 0 false)::boxI l (rnC (some ⟨b,0,none⟩) 0 d.key (slotI K.L.X) 3 sp (some ⟨rb,0,none⟩))::boxI rb (rrv T'.rs (T'.rpc:Int) T'.re)::LU (SR C { { X with ro:=K.r } with A:=A',rc:=rc',N:=N' } V T' FU' ml') R) (perm_of fun z=>by simp only [LU,List.count_append,List.count_cons]; omega),fun v hv=>?_⟩
   exact OutR.go (K:={ K with T:=T' }) (A:=A') (c:=rc') (N:=N') (sub:=[_,_,_]) hf' hl' ⟨hN0,hN1⟩ (.inr (.inr (.inr (.inr (.inr ⟨hpc,ps,pa,pl,l,b,sp,rb,rfl⟩))))) hv
  ·exact absurd rfl h9
 ·subst h
  rw [if_neg (by decide)]
  refine (rop4 1 (.inr rfl) (OutR w0 R C X V d q ml (1,{ K with T:={ T' with pc:=0 },dn:=true },f') 1) hE ?_).mono (fun e w' h=>⟨1,h.1,h.2⟩)
  refine rret3 rb _ hE9 (hrr.mono ?_)
  rintro e w1 ⟨rfl,A',rc',N',FU',ml',hf',hl',hN0,hN1,⟨h9,-⟩ | ⟨-,hE'⟩⟩
  ·exact absurd h9 (by decide)
  ·refine ⟨1,rfl,rfl,_,hE'.perm (L':=boxI q (roC d.ok d.key d.val d.lv 4 ps pa pl (some ⟨l,0,none⟩) 0 false)::boxI l (rnC (some ⟨b,0,none⟩) 0 d.key (slotI K.L.X) 3 sp (some ⟨rb,0,none⟩))::LU (SR C { { X with ro:=K.r } with A:=A',rc:=rc',N:=N' } V T' FU' ml') R) (perm_of fun z=>by simp only [LU,List.count_append,List.count_cons]; omega),fun v hv=>?_⟩
   have hv2:Env w0 (boxI q (roC d.ok d.key d.val d.lv 4 ps pa pl (some ⟨l,0,none⟩) K.err true)::LU (SR C { { X with ro:=K.r } with A:=A',rc:=rc',N:=N' } V T' FU' ml') R) v:=by
    rw [hda.1]
    exact hv.sub (.cons_cons _ (.cons _ (List.Sublist.refl _)))
   exact OutR.fin (K:={ K with T:={ T' with pc:=0 },dn:=true }) (A:=A') (c:=rc') (N:=N') hf' hl' ⟨hN0,hN1⟩ (show (1:Int)≠0 by decide) hv2
structure KrOk (C:Cf) (d:Dd) (K:Kt) (ml:List OneR) (N:Int):Prop where
 (mlr:ml.length<=999999)
 (Nr:0<=N/\N<=4000000)
 (hs:0<=K.T.hs)
 (e:0<=K.T.e/\K.T.e<=9223372036854775807)
 (u:∀ x,InU (getL ml x))
 (v:K.pc=2->K.T.apc=6->verI K.T.ah < 1099511627775)
 (kk:K.pc=2->K.T.apc<=10\/K.T.apc - 10 < (WD C d K.T).length)
 (ep:K.pc=7->K.T.rpc≠0->epI K.T.re=K.T.re)
theorem op_r {n:Nat} {rs:List Item} (h:KcOk C d K (getL ml) n) (hr:KrOk C d K ml X.N) (hM:RSub d K q rs) (hE:Env w0 (rs++LU (SRK C X V K FU ml) R) w) :
  Calls Tryz.prog 54 #[.pointer (some ⟨q,0,none⟩),.pointer (some ⟨X.u,0,none⟩),.pointer (some ⟨V.m,0,none⟩)] w fun e w'=>∃ s,e=.returned (.int .i64 s)/\OutR w0 R C X V d q ml (opM C d K (getL ml)) s w':=by
 have hml:=hr.mlr
 rcases hM with ⟨hpc,sb,pa,pl,pu,sub,hS,rfl⟩ | ⟨hpc,ps,a,pl,pu,rfl⟩ | ⟨hpc,ps,pa,l,b,pu,rfl⟩ | ⟨hpc,ps,pa,pl,l,b,sp,rp,rfl⟩ | ⟨hpc,ps,pa,pl,l,b,s2,rb,sub2,hS,rfl⟩ | ⟨hpc,ps,pa,pl,l,b,sp,rb,rfl⟩
 ·exact op1_r hpc (h.s1 hpc) (h.sx hpc) h.da h.len hr.hs hr.e hr.u (by omega) hr.Nr hS hE
 ·exact op2_r hpc (h.row hpc) h.da hml hr.Nr (hr.v hpc) hr.u (hr.kk hpc) hE
 ·exact op3_r hpc (h.sp (by omega)).W h.da hml hr.Nr hE
 ·rcases hpc with hpc | hpc
  ·rw [if_pos hpc] at hE
   exact op4_r hpc (h.sp (by omega)).X (h.un (by omega)).1 (h.un (by omega)).2 hml hr.Nr hE
  ·rw [if_neg (by omega)] at hE
   exact op5_r hpc hml hr.Nr hE
 ·exact op6_r hpc (h.s2 hpc) hr.e hr.u hml hr.Nr hS hE
 ·obtain ⟨h1,h2,h3⟩:=h.re hpc
  exact op7_r hpc h.len h1 (hr.ep hpc) h3 h.da hml hr.Nr hE
end
section
variable {C:Cf} {ds:List Dd} {B:Nat} {T:Th} {d:Dd} {K:Kt} {f:Mem} {n:Nat}
theorem OkT.row (hC:COk C) (hT:OkT C ds B T) (hB:B+1<=1000000) (hn:n < maxLen) (hp:T.pc=2):RowOk C T n:=by
 have hl:=hC.l
 have hs:=hC.s
 refine ⟨by have:=hT.e; constructor<;>omega,hn,by have:=hT.len; omega,by constructor<;>omega,hT.w,hT.apc hp,fun h=>⟨hT.low hp (by omega),?_⟩,by have:=hT.hs; unfold In64; constructor<;>omega⟩
 rcases hq:T.ql with _ | ⟨⟨x,y,z⟩,t⟩
 ·exact absurd hq (hT.born hp h)
 ·have:=hT.ql (x,y,z) (by rw [hq]; simp)
  obtain ⟨h1,h2,rfl⟩:=this
  exact ⟨x,y,t,rfl,h1,h2⟩
theorem KOk.kc (hC:COk C) (hF:OkF C f) (hS:LnkF C f) (h:KOk C ds B d K) (h1:1<=K.pc) (h7:K.pc<=7) (hd:InU d.key/\InU d.val) (hB:B+1<=1000000) (hn:n < maxLen):KcOk C d K f n:=by
 have hl:=hC.l
 have hs:=hC.s
 have hlen:=h.t.len
 refine ⟨⟨h1,h7⟩,h.da h1 h7,hd,by omega,hn,h.s1,fun hp h9=>?_,fun hp=>h.t.row hC hB hn (by have:=h.tp; rw [if_pos hp] at this; exact this),by have:=h.t.hs; unfold In64; constructor<;>omega,h.lk,fun hp=>h.sp hp h7,fun hp=>⟨(h.un hp h7).1,h.hs0 (.inl hp)⟩,h.s2,fun hp=>?_⟩
 ·exact ((search_keep (key:=d.key) (e:=K.T.e) (r:=K.r) (h.s1 hp) hF.u hS (by omega)).2 h9).X
 ·have h3:K.T.pc=3:=by have:=h.tp; rw [if_neg (by omega),if_pos hp] at this; exact this
  have hre:=h.t.re
  have hrs:=h.t.rs
  exact ⟨by unfold InU; constructor<;>omega,by unfold In64; constructor<;>omega,h.t.rpc h3⟩
theorem KOk.kr {ml:List OneR} {N:Int} (hC:COk C) (hF:OkF C (getL ml)) (h:KOk C ds B d K) (hml:ml.length<=999999) (hN:0<=N/\N<=4000000):KrOk C d K ml N:=by
 have hl:=hC.l
 have hs:=hC.s
 refine ⟨hml,hN,h.t.hs.1,by have:=h.t.e; constructor<;>omega,hF.u,fun hp h6=>?_,h.kk,fun hp _=>?_⟩
 ·have h2:K.T.pc=2:=by have:=h.tp; rw [if_pos hp] at this; exact this
  have:=(h.t.pool h2 (by omega) (by omega)).2.2
  omega
 ·have:=h.t.re
  unfold epI
  rw [if_pos (by omega)]
end
section
variable {w0 w:World} {R ps rs:List Item} {C:Cf} {X:Tm} {V:Wm} {K:Kt} {d:Dd} {G FU:Nat->Prop} {qc:Cnt} {ml:List OneR} {n o q:Nat} {nd st:Int} {ph:Value}
def OutK (w0:World) (R:List Item) (C:Cf) (X:Tm) (V:Wm) (d:Dd) (o q n:Nat) (qc:Cnt) (ml:List OneR) (nd:Int) (ph:Value) (r:Int × Kt × Mem) (w':World):Prop :=
 ∃ (X':Tm) (G' FU':Nat->Prop) (qc':Cnt) (n':Nat) (ml':List OneR) (ms':List Item),Same X X'/\getL ml'=r.2.2/\ml'.length<=ml.length+1/\Nx n qc n' qc'/\0<=X'.N/\X'.N<=4000000/\(r.1=0->∃ ps rs,ms'=ps++rs/\PM C X'.c d r.2.1 o ps/\RSub d r.2.1 q rs)/\(r.1≠0->∃ nx sp,ms'=[boxI o (opC X.c d.ok d.key d.val d.lv nx r.1 sp r.2.1.err r.2.1.dn)])/\Env w0 (LT (SPK C X' V r.2.1 (getL ml') G' qc' n') (LU (SRK C X' V r.2.1 FU' ml') (boxI X.thr (thk X.c X.u X.dA X.dn X.dc nd (decide (r.1=0)) (.pointer (some ⟨o,0,none⟩)) (.pointer (some ⟨q,0,none⟩)) (.pointer none) ph r.1)::(ms'++R)))) w'
theorem stepOp_k (hg:Glo w0) (h:KcOk C d K (getL ml) n) (hr:KrOk C d K ml X.N) (hP:PM C X.c d K o ps) (hR:RSub d K q rs)
  (hE:Env w0 (LT (SPK C X V K (getL ml) G qc n) (LU (SRK C X V K FU ml) (boxI X.thr (thk X.c X.u X.dA X.dn X.dc nd true (.pointer (some ⟨o,0,none⟩)) (.pointer (some ⟨q,0,none⟩)) (.pointer none) ph st)::(ps++rs++R)))) w) :
  Calls Tryz.prog 15 #[.pointer (some ⟨X.thr,0,none⟩),.pointer (some ⟨V.p,0,none⟩),.pointer (some ⟨V.m,0,none⟩)] w fun e w'=>e=.returned (.bool true)/\OutK w0 R C X V d o q n qc ml nd ph (opM C d K (getL ml)) w':=by
 obtain ⟨z,hz⟩:∃ z,opM C d K (getL ml)=z:=⟨_,rfl⟩
 obtain ⟨s,K',f'⟩:=z
 have hp:=fun (v:World) (L:List Item) hv=>op_p (w:=v) (R:=L) (V:=V) (G:=G) (qc:=qc) h hg hP hv
 have hq:=fun (v:World) (L:List Item) hv=>op_r (w:=v) (w0:=w0) (R:=L) (V:=V) (FU:=FU) h hr hR hv
 rw [hz] at hp hq ⊢
 refine (stepOp_b (w0:=w0) (s:=s) (p:=V.p) (m:=V.m) (o9:=o) (q9:=q) (thr:=X.thr) (c:=X.c) (u:=X.u) (dA:=X.dA) (dn:=X.dn) (dc:=X.dc) (nd:=nd) (st:=st) (ph:=ph) (L:=ps++LT (SPK C X V K (getL ml) G qc n) (rs++LU (SRK C X V K FU ml) R))
  (Q1:=fun L1=>∃ F' k' G' qc' n' ps',Nx n qc n' qc'/\(s=0->PM C X.c d K' o ps')/\(s≠0->∃ nx sp,ps'=[boxI o (opC X.c d.ok d.key d.val d.lv nx s sp K'.err K'.dn)])/\L1=ps'++LT (SPK C { X with F:=F',kq:=k' } V K' f' G' qc' n') (rs++LU (SRK C X V K FU ml) R))
  (Q2:=fun L2=>∃ F' k' G' qc' n' ps' A' c' N' FU' ml' rs',Nx n qc n' qc'/\(s=0->PM C X.c d K' o ps')/\(s≠0->∃ nx sp,ps'=[boxI o (opC X.c d.ok d.key d.val d.lv nx s sp K'.err K'.dn)])/\getL ml'=f'/\ml'.length<=ml.length+1/\0<=N'/\N'<=4000000/\(s=0->RSub d K' q rs')/\(s≠0->∃ pc pa pb pl pu,rs'=[boxI q (roC d.ok d.key d.val d.lv pc pa pb pl pu K'.err K'.dn)])/\L2=rs'++LU (SRK C { X with A:=A',rc:=c',N:=N' } V K' FU' ml') (ps'++LT (SPK C { X with F:=F',kq:=k' } V K' f' G' qc' n') R))
  ?_ ?_ ?_ ?_).mono ?_
 ·exact hE.perm (perm_of fun z=>by simp only [LT,LU,List.count_append,List.count_cons]; omega)
 ·intro v hv
  refine (hp v (boxI X.thr (thk X.c X.u X.dA X.dn X.dc nd true (.pointer (some ⟨o,0,none⟩)) (.pointer (some ⟨q,0,none⟩)) (.pointer none) ph 0)::(rs++LU (SRK C X V K FU ml) R)) (hv.perm (perm_of fun z=>by simp only [LT,LU,List.count_append,List.count_cons]; omega))).mono ?_
  rintro e v' ⟨s',he,hs',F',k',G',qc',n',ps',h1,h2,h3,h4⟩
  dsimp only at hs' h2 h3 h4
  subst hs'
  refine ⟨he,ps'++LT (SPK C { X with F:=F',kq:=k' } V K' f' G' qc' n') (rs++LU (SRK C X V K FU ml) R),⟨F',k',G',qc',n',ps',h1,h2,h3,rfl⟩,?_⟩
  exact h4.perm (perm_of fun z=>by simp only [LT,LU,List.count_append,List.count_cons]; omega)
 ·rintro L1 v ⟨F',k',G',qc',n',ps',h1,h2,h3,rfl⟩ hv
  refine (hq v (boxI X.thr (thk X.c X.u X.dA X.dn X.dc nd true (.pointer (some ⟨o,0,none⟩)) (.pointer (some ⟨q,0,none⟩)) (.pointer none) ph s)::(ps'++LT (SPK C { X with F:=F',kq:=k' } V K' f' G' qc' n') R)) (hv.perm (perm_of fun z=>by simp only [LT,LU,List.count_append,List.count_cons]; omega))).mono ?_
  rintro e v' ⟨s',he,hs',A',c',N',FU',ml',rs',g1,g2,g3,g4,g5,g6,g7⟩
  dsimp only at hs' g1 g5 g6 g7
  subst hs'
  refine ⟨he,rs'++LU (SRK C { X with A:=A',rc:=c',N:=N' } V K' FU' ml') (ps'++LT (SPK C { X with F:=F',kq:=k' } V K' f' G' qc' n') R),⟨F',k',G',qc',n',ps',A',c',N',FU',ml',rs',h1,h2,h3,g1,g2,g3,g4,g5,g6,rfl⟩,?_⟩
  exact g7.perm (perm_of fun z=>by simp only [LT,LU,List.count_append,List.count_cons]; omega)
 ·rintro L2 ⟨F',k',G',qc',n',ps',A',c',N',FU',ml',rs',h1,h2,h3,g1,g2,g3,g4,g5,g6,rfl⟩ hs
  obtain ⟨nx,sp,rfl⟩:=h3 hs
  obtain ⟨pc,pa,pb,pl,pu,rfl⟩:=g6 hs
  exact ⟨4,0,_,_,_,_,nx,s,sp,pc,pa,pb,pl,pu,_,_,rfl,rfl⟩
 ·rintro e w' ⟨rfl,L2,⟨F',k',G',qc',n',ps',A',c',N',FU',ml',rs',h1,h2,h3,g1,g2,g3,g4,g5,g6,rfl⟩,hF⟩
  refine ⟨rfl,{ X with F:=F',kq:=k',A:=A',rc:=c',N:=N' },G',FU',qc',n',ml',if s=0 then ps'++rs' else ps',⟨rfl,rfl,rfl,rfl,rfl,rfl,rfl⟩,g1,g2,h1,g3,g4,fun h0=>⟨ps',rs',by show (if s=0 then _ else _)=_; rw [if_pos h0],h2 h0,g5 h0⟩,fun h0=>by obtain ⟨nx,sp,h9⟩:=h3 h0; exact ⟨nx,sp,(if_neg h0).trans h9⟩,?_⟩
  have hall:=hF.perm (show List.Perm _ (ps'++rs'++(LT (SPK C { X with F:=F',kq:=k',A:=A',rc:=c',N:=N' } V K' (getL ml') G' qc' n') (LU (SRK C { X with F:=F',kq:=k',A:=A',rc:=c',N:=N' } V K' FU' ml') (boxI X.thr (thk X.c X.u X.dA X.dn X.dc nd (decide (s=0)) (.pointer (some ⟨o,0,none⟩)) (.pointer (some ⟨q,0,none⟩)) (.pointer none) ph s)::R)))) from perm_of fun z=>by
   rw [g1]
   simp only [LT,LU,SPK,SRK,SP,SR,List.count_append,List.count_cons]
   omega)
  by_cases h0:s=0
  ·rw [if_pos h0]
   exact hall.perm (perm_of fun z=>by simp only [LT,LU,List.count_append,List.count_cons]; omega)
  ·rw [if_neg h0]
   have hall2:=hall.perm (show List.Perm _ (rs'++(LT (SPK C { X with F:=F',kq:=k',A:=A',rc:=c',N:=N' } V K' (getL ml') G' qc' n') (LU (SRK C { X with F:=F',kq:=k',A:=A',rc:=c',N:=N' } V K' FU' ml') (boxI X.thr (thk X.c X.u X.dA X.dn X.dc nd (decide (s=0)) (.pointer (some ⟨o,0,none⟩)) (.pointer (some ⟨q,0,none⟩)) (.pointer none) ph s)::(ps'++R))))) from perm_of fun z=>by
    simp only [LT,LU,List.count_append,List.count_cons]
    omega)
   exact hall2.sub (List.sublist_append_right _ _)
end
section
variable {w0 w:World} {L:List Item} {thr c u p m dn dc:Nat} {nd:Int} {dA:Option Addr} {st s:Int} {ph:Value}
theorem stepOpB_b {nd0:Int} {po pq pg:Value} {Q0 Q1 Q2:Nat->Nat->List Item->Prop} (hE:Env w0 (boxI thr (thk c u dA dn dc nd0 false po pq pg ph st)::L) w)
  (hB:∀ v,Env w0 (boxI thr (thk c u dA dn dc nd0 false po pq pg ph 0)::L) v->Calls Tryz.prog 32 #[.pointer (some ⟨thr,0,none⟩)] v fun e v'=>e=.returned (.bool true)/\∃ o9 q9 L0,Q0 o9 q9 L0/\Env w0 (boxI thr (thk c u dA dn dc nd true (.pointer (some ⟨o9,0,none⟩)) (.pointer (some ⟨q9,0,none⟩)) (.pointer none) ph 0)::L0) v')
  (hO:∀ o9 q9 L0 v,Q0 o9 q9 L0->Env w0 (boxI thr (thk c u dA dn dc nd true (.pointer (some ⟨o9,0,none⟩)) (.pointer (some ⟨q9,0,none⟩)) (.pointer none) ph 0)::L0) v->Calls Tryz.prog 27 #[.pointer (some ⟨o9,0,none⟩),.iface 26 (.pointer (some ⟨p,0,none⟩))] v fun e v'=>e=.returned (.int .i64 s)/\∃ L1,Q1 o9 q9 L1/\Env w0 (boxI thr (thk c u dA dn dc nd true (.pointer (some ⟨o9,0,none⟩)) (.pointer (some ⟨q9,0,none⟩)) (.pointer none) ph 0)::L1) v')
  (hQ:∀ o9 q9 L1 v,Q1 o9 q9 L1->Env w0 (boxI thr (thk c u dA dn dc nd true (.pointer (some ⟨o9,0,none⟩)) (.pointer (some ⟨q9,0,none⟩)) (.pointer none) ph s)::L1) v->Calls Tryz.prog 54 #[.pointer (some ⟨q9,0,none⟩),.pointer (some ⟨u,0,none⟩),.pointer (some ⟨m,0,none⟩)] v fun e v'=>e=.returned (.int .i64 s)/\∃ L2,Q2 o9 q9 L2/\Env w0 (boxI thr (thk c u dA dn dc nd true (.pointer (some ⟨o9,0,none⟩)) (.pointer (some ⟨q9,0,none⟩)) (.pointer none) ph s)::L2) v')
  (hA:∀ o9 q9 L2,Q2 o9 q9 L2->s≠0->Ended L2 c o9 q9) :
  Calls Tryz.prog 15 #[.pointer (some ⟨thr,0,none⟩),.pointer (some ⟨p,0,none⟩),.pointer (some ⟨m,0,none⟩)] w fun o w'=>o=.returned (.bool true)/\∃ o9 q9 L2,Q2 o9 q9 L2/\Env w0 (boxI thr (thk c u dA dn dc nd (decide (s=0)) (.pointer (some ⟨o9,0,none⟩)) (.pointer (some ⟨q9,0,none⟩)) (.pointer none) ph s)::L2) w':=by
 have HB:=Lib.hid hB
 have HO:=Lib.hid hO
 have HQ:=Lib.hid hQ
 have HA:=Lib.hid hA
 clear hB hO hQ hA
 unfold thk at *
 have r0:=hE.rule 0 rfl
 have f9:=hE.thaw 0 rfl 9 (by simp)
 have hE1:=hE.put 0 rfl (j:=9) (by simp) (.int .i64 0)
 have r1:=hE1.rule 0 rfl
 clear hE
 refine gen_post fun PP HPP=>?_
 go_enter Tryz.func15,Tryz.ntmps15
 go_wp2_with fail
 refine (HB.out _ hE1).mono ?_
 rintro e v0 ⟨rfl,o9,q9,L0,hq0,hE7⟩
 clear r0 f9 r1 hE1 HB
 have r0:=hE7.rule 0 rfl
 have HO1:=Lib.hid (HO.out o9 q9 L0 _ hq0 hE7)
 clear hE7 HO hq0
 go_wp2_with fail
 refine HO1.out.mono ?_
 rintro e v ⟨rfl,L1,hq1,hE2⟩
 clear r0 HO1
 have r0:=hE2.rule 0 rfl
 have f9:=hE2.thaw 0 rfl 9 (by simp)
 have hE3:=hE2.put 0 rfl (j:=9) (by simp) (.int .i64 s)
 have HQ1:=Lib.hid hq1
 clear hE2 hq1
 go_upto_region 9 with fail
 clear r0 f9
 generalize World.setCell _ _ _=v1 at *
 replace hE3:Env w0 (boxI thr [.pointer (some ⟨c,0,none⟩),.pointer (some ⟨u,0,none⟩),.slice dA dn dc,.int .i64 nd,.bool true,.pointer (some ⟨o9,0,none⟩),.pointer (some ⟨q9,0,none⟩),.pointer none,ph,.int .i64 s]::L1) v1:=hE3
 refine Ord.wp_chain [9] (fun v=>Blk 0 v thr [.pointer (some ⟨c,0,none⟩),.pointer (some ⟨u,0,none⟩),.slice dA dn dc,.int .i64 nd,.bool true,.pointer (some ⟨o9,0,none⟩),.pointer (some ⟨q9,0,none⟩),.pointer none,ph,.int .i64 s]) (fun k v=>if k=0 then Env w0 (boxI thr [.pointer (some ⟨c,0,none⟩),.pointer (some ⟨u,0,none⟩),.slice dA dn dc,.int .i64 nd,.bool true,.pointer (some ⟨o9,0,none⟩),.pointer (some ⟨q9,0,none⟩),.pointer none,ph,.int .i64 s]::L1) v else ∃ L2,Q2 o9 q9 L2/\Env w0 (boxI thr [.pointer (some ⟨c,0,none⟩),.pointer (some ⟨u,0,none⟩),.slice dA dn dc,.int .i64 nd,.bool true,.pointer (some ⟨o9,0,none⟩),.pointer (some ⟨q9,0,none⟩),.pointer none,ph,.int .i64 s]::L2) v) (by kernel_rfl) (by kernel_rfl) (by kernel_rfl) (hE3.drew.get 0 rfl) (by rw [if_pos rfl]; exact hE3.drew) (fun hT=>?_)
 have hT9:=Lib.hid hT
 clear hT
 repeat (first
  | (refine Ord.ch_value (v:=?_) hT9.out (by decide) (by rfl) ?_ ?_; rotate_left; (focus (intro w5 hS; have r:=Blk.rule hS; go_simp<;>with_reducible rfl)); (try simp only [Act.put,zA,zZ,zS]))
  | (refine Ord.ch_off hT9.out (by decide) (by rfl) ?_; (try simp only [Act.put,zA,zZ,zS])))
 refine Ord.ch_turn (v:=.int .i64 s) 0 hT9.out rfl (by decide) (Or.inl rfl) (by rfl) ?_ ?_
 ·rintro w5 hC5 hA5
  rw [if_pos rfl] at hA5
  go_simp
  simp only [Ord.LandsIn]
  refine (HQ.out o9 q9 L1 w5 HQ1.out hA5).mono ?_
  rintro e w6 ⟨rfl,L2,h2,h5⟩
  exact ⟨rfl,h5.get 0 rfl,L2,h2,h5⟩
 (try simp only [Act.put,zA,zZ,zS])
 repeat (first
  | (refine Ord.ch_value (v:=?_) hT9.out (by decide) (by rfl) ?_ ?_; rotate_left; (focus (intro w5 hS; skip; go_simp<;>with_reducible rfl)); (try simp only [Act.put,zA,zZ,zS]))
  | (refine Ord.ch_off hT9.out (by decide) (by rfl) ?_; (try simp only [Act.put,zA,zZ,zS])))
 refine Ord.InText.nil fun w5 hS=>?_
 clear hT9
 obtain ⟨hC9,hA9⟩:=Ord.chain_end hS
 clear hS
 rw [if_neg (by decide)] at hA9
 obtain ⟨L2,hq2,hE4⟩:=hA9
 clear hC9 hE3
 have HQ2:=Lib.hid hq2
 have HA2:=Lib.hid fun h=>HA.out o9 q9 L2 hq2 h
 clear hq2 HQ HA HQ1
 have r0:=hE4.rule 0 rfl
 have b9:(s != s)=false:=by simp
 by_cases hs:s=0
 ·subst hs
  have HE:=Lib.hid hE4
  clear hE4
  go_wp2_with fail
  (try go_ret)
  exact HPP.out _ _ ⟨rfl,o9,q9,L2,HQ2.out,HE.out⟩
 ·have b8:(s==0)=false:=by simpa using hs
  obtain ⟨i,j,kd,key,val,lv,nx,s9,sp,pc,ps,pa,pl,pu,er,dn9,h1,h2⟩:=HA2.out hs
  have hd:decide (s=0)=false:=by simpa using hs
  rw [hd] at HPP
  have f4:=hE4.thaw 0 rfl 4 (by simp)
  have hE5:=hE4.put 0 rfl (j:=4) (by simp) (.bool false)
  clear hE4 hs hd HA2
  have H1:=Lib.hid h1
  have H2:=Lib.hid h2
  clear h1 h2
  go_upto_region 15 with fail
  clear r0 f4
  generalize World.setCell _ _ _=v2 at *
  replace hE5:Env w0 (boxI thr [.pointer (some ⟨c,0,none⟩),.pointer (some ⟨u,0,none⟩),.slice dA dn dc,.int .i64 nd,.bool false,.pointer (some ⟨o9,0,none⟩),.pointer (some ⟨q9,0,none⟩),.pointer none,ph,.int .i64 s]::L2) v2:=hE5
  have HANS:=Lib.hid fun (v:World) (hv:Env w0 (boxI thr [.pointer (some ⟨c,0,none⟩),.pointer (some ⟨u,0,none⟩),.slice dA dn dc,.int .i64 nd,.bool false,.pointer (some ⟨o9,0,none⟩),.pointer (some ⟨q9,0,none⟩),.pointer none,ph,.int .i64 s]::L2) v)=>answer_o (hv.get (i+1) H1.out)
  have HRQ:=Lib.hid fun (v:World) (hv:Env w0 (boxI thr [.pointer (some ⟨c,0,none⟩),.pointer (some ⟨u,0,none⟩),.slice dA dn dc,.int .i64 nd,.bool false,.pointer (some ⟨o9,0,none⟩),.pointer (some ⟨q9,0,none⟩),.pointer none,ph,.int .i64 s]::L2) v)=>(show ∀ k,v.cell? ⟨q9,k,none⟩=[Value.int .i64 kd,.int .u64 key,.int .u64 val,.int .i64 lv,.int .i64 pc,.pointer ps,.pointer pa,.pointer pl,.pointer pu,.int .i64 er,.bool dn9][k]? from hv.rule (j+1) H2.out)
  clear H1 H2
  refine wp_text (S:=(Env w0 (boxI thr [.pointer (some ⟨c,0,none⟩),.pointer (some ⟨u,0,none⟩),.slice dA dn dc,.int .i64 nd,.bool false,.pointer (some ⟨o9,0,none⟩),.pointer (some ⟨q9,0,none⟩),.pointer none,ph,.int .i64 s]::L2))) (by kernel_rfl) (by kernel_rfl) hE5.drew (fun hT=>?_)
  have hT9:=Lib.hid hT
  clear hT
  repeat (first
   | (refine text_value (v:=?_) hT9.out (by rfl) ?_ ?_; rotate_left; (focus (intro w5 hS; have r:=hS.rule 0 rfl; have rq:=HRQ.out _ hS; go_simp<;>with_reducible rfl)); (try simp only [Act.put,zA,zZ,zS]))
   | (refine text_off hT9.out (by rfl) ?_; (try simp only [Act.put,zA,zZ,zS]))
   | (refine text_call (v:=?_) (f:=?_) (args:=?_) hT9.out (by rfl) ?_ ?_ ?_; rotate_left 3; (focus (intro w5 hS; have r:=hS.rule 0 rfl; have rq:=HRQ.out _ hS; go_simp; constructor<;>with_reducible rfl)); (focus (intro w5 hS; (first | (with_reducible refine (HANS.out _ hS).mono ?_; rintro e9 w6 ⟨rfl,hb5⟩; constructor; with_reducible rfl; exact hS.over hb5)))); (try simp only [Act.put,zA,zZ,zS])))
  refine InText.nil fun w5 hS5=>?_
  clear hT9
  clear hE5
  go_wp2_with fail
  (try go_ret)
  exact HPP.out _ _ ⟨rfl,o9,q9,L2,HQ2.out,hS5⟩
end
end Go.Proofs.YthcblagpbkaoaaaGreatDoor
