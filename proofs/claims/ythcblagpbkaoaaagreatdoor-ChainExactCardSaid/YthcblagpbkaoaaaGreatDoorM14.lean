/- What is proved on the way to the statement, part 14: contracts of the functions, among other things in memory. -/
import Derived.Test.YthcblagpbkaoaaaGreatDoorM13
import Derived.OwnWalk
import Derived.LoopIn

namespace Go.Proofs.YthcblagpbkaoaaaGreatDoor
open Go.RowKit Go.Maps
set_option maxRecDepth 100000
set_option maxHeartbeats 25600000
section
variable {w0 w:World} {R:List Item} {C:Cf} {X:Tm} {V:Wm} {K:Kt} {d:Dd} {G FU:Nat->Prop} {qc:Cnt} {ml:List OneR} {n q:Nat} {st:Int} {po pq pg ph:Value} {ds:List Dd}
theorem op0_r (hpc:K.pc=1) (hon:K.on=false) (he:0<=K.T.e/\K.T.e<=9223372036854775807) (hu:∀ x,InU (getL ml x)) (hml:ml.length<=1000000) (hN:0<=X.N/\X.N<=4000000)
  (hE:Env w0 (boxI q (roC d.ok d.key d.val d.lv 0 none none none none 0 false)::LU (SRK C X V K FU ml) R) w) :
  Calls Tryz.prog 54 #[.pointer (some ⟨q,0,none⟩),.pointer (some ⟨X.u,0,none⟩),.pointer (some ⟨V.m,0,none⟩)] w fun e w'=>∃ s,e=.returned (.int .i64 s)/\OutR w0 R C X V d q ml (opM C d K (getL ml)) s w':=by
 have hM:opM C d K (getL ml)=(0,{ K with on:=true,L:=L0 (4,0,0),T:={ K.T with e:=epI (getL ml (1,0,0)) } },getL ml):=by
  unfold opM
  rw [if_pos hpc,hon]
  rfl
 rw [hM]
 refine rop0 (fun s w'=>OutR w0 R C X V d q ml _ s w') hE ?_
 intro sb v hv
 have hv2:Env w0 ([boxI sb (rsC 0 d.key false false none)]++LU (SR C { X with ro:=K.r } V K.T FU ml) (boxI q (roC d.ok d.key d.val d.lv 1 (some ⟨sb,0,none⟩) none none none 0 false)::R)) v:=hv.perm (perm_of fun z=>by
  simp only [LU,SRK,List.count_append,List.count_cons,List.count_nil]
  omega)
 refine (search_R (C:=C) (X:=X) (V:=V) (T:=K.T) (r:=K.r) (on:=false) (L:=L0 (4,0,0)) (fun h=>absurd h (by decide)) he hu hml (.inl ⟨rfl,none,rfl⟩) hv2).mono ?_
 rintro e w1 ⟨rfl,FU',ml',sub',hf',hl',hS',hE'⟩
 refine ⟨rfl,?_⟩
 have hE2:Env w0 ((boxI q (roC d.ok d.key d.val d.lv 1 (some ⟨sb,0,none⟩) none none none 0 false)::sub')++LU (SRK C X V { K with on:=true,L:=L0 (4,0,0),T:={ K.T with e:=epI (getL ml (1,0,0)) } } FU' ml') R) w1:=hE'.perm (perm_of fun z=>by
  have hx:(searchM 0 d.key false ⟨false,L0 (4,0,0),K.T.e,K.r⟩ (getL ml)).2.1=⟨true,L0 (4,0,0),epI (getL ml (1,0,0)),K.r⟩:=rfl
  rw [hx]
  simp only [LU,SRK,List.count_append,List.count_cons]
  omega)
 exact OutR.go (A:=X.A) (c:=X.rc) (N:=X.N) (sub:=_::sub') hf' hl' hN (.inl ⟨hpc,sb,none,none,none,sub',hS',rfl⟩) hE2
theorem stepOpB_k (hg:Glo w0) (h:KcOk C d K (getL ml) n) (hr:KrOk C d K ml X.N) (hpc:K.pc=1) (hon:K.on=false) {nd:Nat} (hos:OsAt w0 R X.dA ds) (hdn:X.dn=ds.length) (hlt:nd < ds.length) (hdl:ds.length<=1000) (hdd:ds.getD nd default=d) (h8:d.ok≠8) (hk1:C.k=1) (h3:opI 1 C.s C.b C.h C.l d.ok d.key d.val d.lv=0)
  (hE:Env w0 (LT (SPK C X V K (getL ml) G qc n) (LU (SRK C X V K FU ml) (boxI X.thr (thk X.c X.u X.dA X.dn X.dc nd false po pq pg ph st)::R))) w) :
  Calls Tryz.prog 15 #[.pointer (some ⟨X.thr,0,none⟩),.pointer (some ⟨V.p,0,none⟩),.pointer (some ⟨V.m,0,none⟩)] w fun e w'=>e=.returned (.bool true)/\∃ o q,OutK w0 R C X V d o q n qc ml ((nd:Int)+1) ph (opM C d K (getL ml)) w':=by
 obtain ⟨z,hz⟩:∃ z,opM C d K (getL ml)=z:=⟨_,rfl⟩
 obtain ⟨s,K',f'⟩:=z
 have hp:=fun (v:World) (L ps:List Item) (o:Nat) hP hv=>op_p (X:=X) (w:=v) (R:=L) (V:=V) (G:=G) (qc:=qc) (ps:=ps) (o:=o) h hg hP hv
 have hq:=fun (v:World) (L:List Item) (q:Nat) hv=>op0_r (X:=X) (w:=v) (w0:=w0) (R:=L) (V:=V) (FU:=FU) (q:=q) (d:=d) (C:=C) (ml:=ml) hpc hon hr.e hr.u (by have:=hr.mlr; omega) hr.Nr hv
 rw [hz] at hp hq ⊢
 have hm:(LT (SPK C X V K (getL ml) G qc n) (LU (SRK C X V K FU ml) R))[0]?=some (coreI X.c 1 C.s C.b C.h C.l K.T.e K.r K.T.hs 0 X.q):=by
  show some (coreI X.c C.k C.s C.b C.h C.l K.T.e K.r K.T.hs 0 X.q)=_
  rw [hk1]
 refine (stepOpB_b (w0:=w0) (s:=s) (p:=V.p) (m:=V.m) (thr:=X.thr) (c:=X.c) (u:=X.u) (dA:=X.dA) (dn:=X.dn) (dc:=X.dc) (nd0:=nd) (nd:=(nd:Int)+1) (st:=st) (po:=po) (pq:=pq) (pg:=pg) (ph:=ph) (L:=LT (SPK C X V K (getL ml) G qc n) (LU (SRK C X V K FU ml) R))
  (Q0:=fun o q L0=>∃ ps,PM C X.c d K o ps/\L0=boxI q (roC d.ok d.key d.val d.lv 0 none none none none 0 false)::(ps++LT (SPK C X V K (getL ml) G qc n) (LU (SRK C X V K FU ml) R)))
  (Q1:=fun o q L1=>∃ F' k' G' qc' n' ps',Nx n qc n' qc'/\(s=0->PM C X.c d K' o ps')/\(s≠0->∃ nx sp,ps'=[boxI o (opC X.c d.ok d.key d.val d.lv nx s sp K'.err K'.dn)])/\L1=boxI q (roC d.ok d.key d.val d.lv 0 none none none none 0 false)::(ps'++LT (SPK C { X with F:=F',kq:=k' } V K' f' G' qc' n') (LU (SRK C X V K FU ml) R)))
  (Q2:=fun o q L2=>∃ F' k' G' qc' n' ps' A' c' N' FU' ml' rs',Nx n qc n' qc'/\(s=0->PM C X.c d K' o ps')/\(s≠0->∃ nx sp,ps'=[boxI o (opC X.c d.ok d.key d.val d.lv nx s sp K'.err K'.dn)])/\getL ml'=f'/\ml'.length<=ml.length+1/\0<=N'/\N'<=4000000/\(s=0->RSub d K' q rs')/\(s≠0->∃ pc pa pb pl pu,rs'=[boxI q (roC d.ok d.key d.val d.lv pc pa pb pl pu K'.err K'.dn)])/\L2=rs'++LU (SRK C { X with A:=A',rc:=c',N:=N' } V K' FU' ml') (ps'++LT (SPK C { X with F:=F',kq:=k' } V K' f' G' qc' n') R))
  ?_ ?_ ?_ ?_ ?_).mono ?_
 ·exact hE.perm (perm_of fun z=>by simp only [LT,LU,List.count_append,List.count_cons]; omega)
 ·intro v hv
  refine (beginYes_b 0 hos (fun a ha=>by simp [LT,LU,ha]) hdn hlt hdl hdd h8 h3 hm hv).mono ?_
  rintro e v' ⟨rfl,o9,b1,b2,sb,q9,hF⟩
  refine ⟨rfl,o9,q9,_,⟨boxI o9 _::boxI b1 _::boxI b2 _::[boxI sb (srC X.c 0 d.key false (.pointer none))],⟨b1,b2,_,_,_,_,rfl,.inl ⟨hpc,sb,rfl,rfl,rfl,by rw [hon]; exact .inl ⟨rfl,rfl,.inl rfl⟩⟩⟩,rfl⟩,?_⟩
  exact hF.perm (perm_of fun z=>by simp only [List.count_append,List.count_cons,List.count_nil]; omega)
 ·rintro o9 q9 L0 v ⟨ps,hP,rfl⟩ hv
  refine (hp v (boxI X.thr (thk X.c X.u X.dA X.dn X.dc ((nd:Int)+1) true (.pointer (some ⟨o9,0,none⟩)) (.pointer (some ⟨q9,0,none⟩)) (.pointer none) ph 0)::boxI q9 (roC d.ok d.key d.val d.lv 0 none none none none 0 false)::LU (SRK C X V K FU ml) R) ps o9 hP (hv.perm (perm_of fun z=>by simp only [LT,LU,List.count_append,List.count_cons]; omega))).mono ?_
  rintro e v' ⟨s',he,hs',F',k',G',qc',n',ps',h1,h2,h3,h4⟩
  dsimp only at hs' h2 h3 h4
  subst hs'
  refine ⟨he,boxI q9 (roC d.ok d.key d.val d.lv 0 none none none none 0 false)::(ps'++LT (SPK C { X with F:=F',kq:=k' } V K' f' G' qc' n') (LU (SRK C X V K FU ml) R)),⟨F',k',G',qc',n',ps',h1,h2,h3,rfl⟩,?_⟩
  exact h4.perm (perm_of fun z=>by simp only [LT,LU,List.count_append,List.count_cons]; omega)
 ·rintro o9 q9 L1 v ⟨F',k',G',qc',n',ps',h1,h2,h3,rfl⟩ hv
  refine (hq v (boxI X.thr (thk X.c X.u X.dA X.dn X.dc ((nd:Int)+1) true (.pointer (some ⟨o9,0,none⟩)) (.pointer (some ⟨q9,0,none⟩)) (.pointer none) ph s)::(ps'++LT (SPK C { X with F:=F',kq:=k' } V K' f' G' qc' n') R)) q9 (hv.perm (perm_of fun z=>by simp only [LT,LU,List.count_append,List.count_cons]; omega))).mono ?_
  rintro e v' ⟨s',he,hs',A',c',N',FU',ml',rs',g1,g2,g3,g4,g5,g6,g7⟩
  dsimp only at hs' g1 g5 g6 g7
  subst hs'
  refine ⟨he,rs'++LU (SRK C { X with A:=A',rc:=c',N:=N' } V K' FU' ml') (ps'++LT (SPK C { X with F:=F',kq:=k' } V K' f' G' qc' n') R),⟨F',k',G',qc',n',ps',A',c',N',FU',ml',rs',h1,h2,h3,g1,g2,g3,g4,g5,g6,rfl⟩,?_⟩
  exact g7.perm (perm_of fun z=>by simp only [LT,LU,List.count_append,List.count_cons]; omega)
 ·rintro o9 q9 L2 ⟨F',k',G',qc',n',ps',A',c',N',FU',ml',rs',h1,h2,h3,g1,g2,g3,g4,g5,g6,rfl⟩ hs
  obtain ⟨nx,sp,rfl⟩:=h3 hs
  obtain ⟨pc,pa,pb,pl,pu,rfl⟩:=g6 hs
  exact ⟨4,0,_,_,_,_,nx,s,sp,pc,pa,pb,pl,pu,_,_,rfl,rfl⟩
 ·rintro e w' ⟨rfl,o,q,L2,⟨F',k',G',qc',n',ps',A',c',N',FU',ml',rs',h1,h2,h3,g1,g2,g3,g4,g5,g6,rfl⟩,hF⟩
  refine ⟨rfl,o,q,{ X with F:=F',kq:=k',A:=A',rc:=c',N:=N' },G',FU',qc',n',ml',if s=0 then ps'++rs' else ps',⟨rfl,rfl,rfl,rfl,rfl,rfl,rfl⟩,g1,g2,h1,g3,g4,fun h0=>⟨ps',rs',by show (if s=0 then _ else _)=_; rw [if_pos h0],h2 h0,g5 h0⟩,fun h0=>by obtain ⟨nx,sp,h9⟩:=h3 h0; exact ⟨nx,sp,(if_neg h0).trans h9⟩,?_⟩
  have hall:=hF.perm (show List.Perm _ (ps'++rs'++(LT (SPK C { X with F:=F',kq:=k',A:=A',rc:=c',N:=N' } V K' (getL ml') G' qc' n') (LU (SRK C { X with F:=F',kq:=k',A:=A',rc:=c',N:=N' } V K' FU' ml') (boxI X.thr (thk X.c X.u X.dA X.dn X.dc ((nd:Int)+1) (decide (s=0)) (.pointer (some ⟨o,0,none⟩)) (.pointer (some ⟨q,0,none⟩)) (.pointer none) ph s)::R)))) from perm_of fun z=>by
   rw [g1]
   simp only [LT,LU,SPK,SRK,SP,SR,List.count_append,List.count_cons]
   omega)
  by_cases h0:s=0
  ·rw [if_pos h0]
   exact hall.perm (perm_of fun z=>by simp only [LT,LU,List.count_append,List.count_cons]; omega)
  ·rw [if_neg h0]
   have hall2:=hall.perm (show List.Perm _ (rs'++(LT (SPK C { X with F:=F',kq:=k',A:=A',rc:=c',N:=N' } V K' (getL ml') G' qc' n') (LU (SRK C { X with F:=F',kq:=k',A:=A',rc:=c',N:=N' } V K' FU' ml') (boxI X.thr (thk X.c X.u X.dA X.dn X.dc ((nd:Int)+1) (decide (s=0)) (.pointer (some ⟨o,0,none⟩)) (.pointer (some ⟨q,0,none⟩)) (.pointer none) ph s)::(ps'++R))))) from perm_of fun z=>by
    simp only [LT,LU,List.count_append,List.count_cons]
    omega)
   exact hall2.sub (List.sublist_append_right _ _)
end
section
variable {w0 w:World} {L:List Item} {thr c u p m o9 q9 dn dc:Nat} {nd:Int} {dA:Option Addr} {st s:Int} {po pq:Value} {Q1 Q2:List Item->Prop}
theorem stepGive_b (hE:Env w0 (boxI thr (thk c u dA dn dc nd true po pq (.pointer (some ⟨o9,0,none⟩)) (.pointer (some ⟨q9,0,none⟩)) st)::L) w)
  (hO:∀ v,Env w0 (boxI thr (thk c u dA dn dc nd true po pq (.pointer (some ⟨o9,0,none⟩)) (.pointer (some ⟨q9,0,none⟩)) 0)::L) v->Calls Tryz.prog 52 #[.pointer (some ⟨o9,0,none⟩),.iface 26 (.pointer (some ⟨p,0,none⟩))] v fun e v'=>e=.returned (.int .i64 s)/\∃ L1,Q1 L1/\Env w0 (boxI thr (thk c u dA dn dc nd true po pq (.pointer (some ⟨o9,0,none⟩)) (.pointer (some ⟨q9,0,none⟩)) 0)::L1) v')
  (hQ:∀ L1 v,Q1 L1->Env w0 (boxI thr (thk c u dA dn dc nd true po pq (.pointer (some ⟨o9,0,none⟩)) (.pointer (some ⟨q9,0,none⟩)) s)::L1) v->Calls Tryz.prog 53 #[.pointer (some ⟨q9,0,none⟩),.pointer (some ⟨u,0,none⟩),.pointer (some ⟨m,0,none⟩)] v fun e v'=>e=.returned (.int .i64 s)/\∃ L2,Q2 L2/\Env w0 (boxI thr (thk c u dA dn dc nd true po pq (.pointer (some ⟨o9,0,none⟩)) (.pointer (some ⟨q9,0,none⟩)) s)::L2) v') :
  Calls Tryz.prog 15 #[.pointer (some ⟨thr,0,none⟩),.pointer (some ⟨p,0,none⟩),.pointer (some ⟨m,0,none⟩)] w fun o w'=>o=.returned (.bool true)/\∃ L2,Q2 L2/\Env w0 (boxI thr (thk c u dA dn dc nd (decide (s=0)) po pq (.pointer (some ⟨o9,0,none⟩)) (.pointer (some ⟨q9,0,none⟩)) s)::L2) w':=by
 have HO:=Lib.hid hO
 have HQ:=Lib.hid hQ
 clear hO hQ
 unfold thk at *
 have r0:=hE.rule 0 rfl
 have f9:=hE.thaw 0 rfl 9 (by simp)
 have hE1:=hE.put 0 rfl (j:=9) (by simp) (.int .i64 0)
 have r1:=hE1.rule 0 rfl
 clear hE
 refine gen_post fun PP HPP=>?_
 go_enter Tryz.func15,Tryz.ntmps15
 go_wp2_with fail
 refine (HO.out _ hE1).mono ?_
 rintro e v ⟨rfl,L1,hq1,hE2⟩
 clear r0 f9 r1 hE1
 have r0:=hE2.rule 0 rfl
 have f9:=hE2.thaw 0 rfl 9 (by simp)
 have hE3:=hE2.put 0 rfl (j:=9) (by simp) (.int .i64 s)
 have HQ1:=Lib.hid hq1
 clear hE2 hq1
 go_upto_region 7 with fail
 clear r0 f9
 generalize World.setCell _ _ _=v1 at *
 replace hE3:Env w0 (boxI thr [.pointer (some ⟨c,0,none⟩),.pointer (some ⟨u,0,none⟩),.slice dA dn dc,.int .i64 nd,.bool true,po,pq,.pointer (some ⟨o9,0,none⟩),.pointer (some ⟨q9,0,none⟩),.int .i64 s]::L1) v1:=hE3
 refine Ord.wp_chain [9] (fun v=>Blk 0 v thr [.pointer (some ⟨c,0,none⟩),.pointer (some ⟨u,0,none⟩),.slice dA dn dc,.int .i64 nd,.bool true,po,pq,.pointer (some ⟨o9,0,none⟩),.pointer (some ⟨q9,0,none⟩),.int .i64 s]) (fun k v=>if k=0 then Env w0 (boxI thr [.pointer (some ⟨c,0,none⟩),.pointer (some ⟨u,0,none⟩),.slice dA dn dc,.int .i64 nd,.bool true,po,pq,.pointer (some ⟨o9,0,none⟩),.pointer (some ⟨q9,0,none⟩),.int .i64 s]::L1) v else ∃ L2,Q2 L2/\Env w0 (boxI thr [.pointer (some ⟨c,0,none⟩),.pointer (some ⟨u,0,none⟩),.slice dA dn dc,.int .i64 nd,.bool true,po,pq,.pointer (some ⟨o9,0,none⟩),.pointer (some ⟨q9,0,none⟩),.int .i64 s]::L2) v) (by kernel_rfl) (by kernel_rfl) (by kernel_rfl) (hE3.drew.get 0 rfl) (by rw [if_pos rfl]; exact hE3.drew) (fun hT=>?_)
 have hT9:=Lib.hid hT
 clear hT
 repeat (first
  | (refine Ord.ch_value (v:=?_) hT9.out (by decide) (by rfl) ?_ ?_; rotate_left; (focus (intro w5 hS; have r:=Blk.rule hS; go_simp<;>with_reducible rfl)); (try simp only [Act.put,zA,zZ,zS]))
  | (refine Ord.ch_off hT9.out (by decide) (by rfl) ?_; (try simp only [Act.put,zA,zZ,zS])))
 refine Ord.ch_turn (v:=.int .i64 s) 0 hT9.out rfl (by decide) (Or.inl rfl) (by rfl) ?_ ?_
 ·rintro w5 hC5 hA5
  rw [if_pos rfl] at hA5
  go_simp
  simp only [Ord.LandsIn]
  refine (HQ.out L1 w5 HQ1.out hA5).mono ?_
  rintro e w6 ⟨rfl,L2,h2,h5⟩
  exact ⟨rfl,h5.get 0 rfl,L2,h2,h5⟩
 (try simp only [Act.put,zA,zZ,zS])
 repeat (first
  | (refine Ord.ch_value (v:=?_) hT9.out (by decide) (by rfl) ?_ ?_; rotate_left; (focus (intro w5 hS; skip; go_simp<;>with_reducible rfl)); (try simp only [Act.put,zA,zZ,zS]))
  | (refine Ord.ch_off hT9.out (by decide) (by rfl) ?_; (try simp only [Act.put,zA,zZ,zS])))
 refine Ord.InText.nil fun w5 hS=>?_
 clear hT9
 obtain ⟨hC9,hA9⟩:=Ord.chain_end hS
 clear hS
 rw [if_neg (by decide)] at hA9
 obtain ⟨L2,hq2,hE4⟩:=hA9
 clear hC9 hE3
 have HQ2:=Lib.hid hq2
 clear hq2 HO HQ HQ1
 have r0:=hE4.rule 0 rfl
 have b9:(s != s)=false:=by simp
 by_cases hs:s=0
 ·subst hs
  have HE:=Lib.hid hE4
  clear hE4
  go_wp2_with fail
  (try go_ret)
  exact HPP.out _ _ ⟨rfl,L2,HQ2.out,HE.out⟩
 ·have b8:(s==0)=false:=by simpa using hs
  have hd:decide (s=0)=false:=by simpa using hs
  rw [hd] at HPP
  have f4:=hE4.thaw 0 rfl 4 (by simp)
  have hE5:=hE4.put 0 rfl (j:=4) (by simp) (.bool false)
  clear hE4 hs hd
  go_upto_region 15 with fail
  clear r0 f4
  generalize World.setCell _ _ _=v2 at *
  replace hE5:Env w0 (boxI thr [.pointer (some ⟨c,0,none⟩),.pointer (some ⟨u,0,none⟩),.slice dA dn dc,.int .i64 nd,.bool false,po,pq,.pointer (some ⟨o9,0,none⟩),.pointer (some ⟨q9,0,none⟩),.int .i64 s]::L2) v2:=hE5
  refine wp_text (S:=(Env w0 (boxI thr [.pointer (some ⟨c,0,none⟩),.pointer (some ⟨u,0,none⟩),.slice dA dn dc,.int .i64 nd,.bool false,po,pq,.pointer (some ⟨o9,0,none⟩),.pointer (some ⟨q9,0,none⟩),.int .i64 s]::L2))) (by kernel_rfl) (by kernel_rfl) hE5.drew (fun hT=>?_)
  have hT9:=Lib.hid hT
  clear hT
  repeat (first
   | (refine text_value (v:=?_) hT9.out (by rfl) ?_ ?_; rotate_left; (focus (intro w5 hS; have r:=hS.rule 0 rfl; go_simp<;>with_reducible rfl)); (try simp only [Act.put,zA,zZ,zS]))
   | (refine text_off hT9.out (by rfl) ?_; (try simp only [Act.put,zA,zZ,zS]))
   | (refine text_call (v:=?_) (f:=?_) (args:=?_) hT9.out (by rfl) ?_ ?_ ?_; rotate_left 3; (focus (intro w5 hS; have r:=hS.rule 0 rfl; go_simp; constructor<;>with_reducible rfl)); (focus (intro w5 hS; (first | fail))); (try simp only [Act.put,zA,zZ,zS])))
  refine InText.nil fun w5 hS5=>?_
  clear hT9
  clear hE5
  go_wp2_with fail
  (try go_ret)
  exact HPP.out _ _ ⟨rfl,L2,HQ2.out,hS5⟩
end
section
variable {w0 w:World} {L:List Item} {thr c u p m dn dc:Nat} {nd:Int} {dA:Option Addr} {st s:Int} {po pq:Value}
theorem stepGiveB_b {nd0:Int} {p0 q0 g0 h0:Value} {Q0 Q1 Q2:Nat->Nat->List Item->Prop} (hE:Env w0 (boxI thr (thk c u dA dn dc nd0 false p0 q0 g0 h0 st)::L) w)
  (hB:∀ v,Env w0 (boxI thr (thk c u dA dn dc nd0 false p0 q0 g0 h0 0)::L) v->Calls Tryz.prog 32 #[.pointer (some ⟨thr,0,none⟩)] v fun e v'=>e=.returned (.bool true)/\∃ o9 q9 L0,Q0 o9 q9 L0/\Env w0 (boxI thr (thk c u dA dn dc nd true po pq (.pointer (some ⟨o9,0,none⟩)) (.pointer (some ⟨q9,0,none⟩)) 0)::L0) v')
  (hO:∀ o9 q9 L0 v,Q0 o9 q9 L0->Env w0 (boxI thr (thk c u dA dn dc nd true po pq (.pointer (some ⟨o9,0,none⟩)) (.pointer (some ⟨q9,0,none⟩)) 0)::L0) v->Calls Tryz.prog 52 #[.pointer (some ⟨o9,0,none⟩),.iface 26 (.pointer (some ⟨p,0,none⟩))] v fun e v'=>e=.returned (.int .i64 s)/\∃ L1,Q1 o9 q9 L1/\Env w0 (boxI thr (thk c u dA dn dc nd true po pq (.pointer (some ⟨o9,0,none⟩)) (.pointer (some ⟨q9,0,none⟩)) 0)::L1) v')
  (hQ:∀ o9 q9 L1 v,Q1 o9 q9 L1->Env w0 (boxI thr (thk c u dA dn dc nd true po pq (.pointer (some ⟨o9,0,none⟩)) (.pointer (some ⟨q9,0,none⟩)) s)::L1) v->Calls Tryz.prog 53 #[.pointer (some ⟨q9,0,none⟩),.pointer (some ⟨u,0,none⟩),.pointer (some ⟨m,0,none⟩)] v fun e v'=>e=.returned (.int .i64 s)/\∃ L2,Q2 o9 q9 L2/\Env w0 (boxI thr (thk c u dA dn dc nd true po pq (.pointer (some ⟨o9,0,none⟩)) (.pointer (some ⟨q9,0,none⟩)) s)::L2) v') :
  Calls Tryz.prog 15 #[.pointer (some ⟨thr,0,none⟩),.pointer (some ⟨p,0,none⟩),.pointer (some ⟨m,0,none⟩)] w fun o w'=>o=.returned (.bool true)/\∃ o9 q9 L2,Q2 o9 q9 L2/\Env w0 (boxI thr (thk c u dA dn dc nd (decide (s=0)) po pq (.pointer (some ⟨o9,0,none⟩)) (.pointer (some ⟨q9,0,none⟩)) s)::L2) w':=by
 have HB:=Lib.hid hB
 have HO:=Lib.hid hO
 have HQ:=Lib.hid hQ
 clear hB hO hQ
 unfold thk at *
 have r0:=hE.rule 0 rfl
 have f9:=hE.thaw 0 rfl 9 (by simp)
 have hE1:=hE.put 0 rfl (j:=9) (by simp) (.int .i64 0)
 have r1:=hE1.rule 0 rfl
 clear hE
 refine gen_post fun PP HPP=>?_
 go_enter Tryz.func15,Tryz.ntmps15
 go_wp2_with fail
 refine (HB.out _ hE1).mono ?_
 rintro e v0 ⟨rfl,o9,q9,L0,hq0,hE7⟩
 clear r0 f9 r1 hE1 HB
 have r0:=hE7.rule 0 rfl
 have HO1:=Lib.hid (HO.out o9 q9 L0 _ hq0 hE7)
 clear hE7 HO hq0
 go_wp2_with fail
 refine HO1.out.mono ?_
 rintro e v ⟨rfl,L1,hq1,hE2⟩
 clear r0 HO1
 have r0:=hE2.rule 0 rfl
 have f9:=hE2.thaw 0 rfl 9 (by simp)
 have hE3:=hE2.put 0 rfl (j:=9) (by simp) (.int .i64 s)
 have HQ1:=Lib.hid hq1
 clear hE2 hq1
 go_upto_region 7 with fail
 clear r0 f9
 generalize World.setCell _ _ _=v1 at *
 replace hE3:Env w0 (boxI thr [.pointer (some ⟨c,0,none⟩),.pointer (some ⟨u,0,none⟩),.slice dA dn dc,.int .i64 nd,.bool true,po,pq,.pointer (some ⟨o9,0,none⟩),.pointer (some ⟨q9,0,none⟩),.int .i64 s]::L1) v1:=hE3
 refine Ord.wp_chain [9] (fun v=>Blk 0 v thr [.pointer (some ⟨c,0,none⟩),.pointer (some ⟨u,0,none⟩),.slice dA dn dc,.int .i64 nd,.bool true,po,pq,.pointer (some ⟨o9,0,none⟩),.pointer (some ⟨q9,0,none⟩),.int .i64 s]) (fun k v=>if k=0 then Env w0 (boxI thr [.pointer (some ⟨c,0,none⟩),.pointer (some ⟨u,0,none⟩),.slice dA dn dc,.int .i64 nd,.bool true,po,pq,.pointer (some ⟨o9,0,none⟩),.pointer (some ⟨q9,0,none⟩),.int .i64 s]::L1) v else ∃ L2,Q2 o9 q9 L2/\Env w0 (boxI thr [.pointer (some ⟨c,0,none⟩),.pointer (some ⟨u,0,none⟩),.slice dA dn dc,.int .i64 nd,.bool true,po,pq,.pointer (some ⟨o9,0,none⟩),.pointer (some ⟨q9,0,none⟩),.int .i64 s]::L2) v) (by kernel_rfl) (by kernel_rfl) (by kernel_rfl) (hE3.drew.get 0 rfl) (by rw [if_pos rfl]; exact hE3.drew) (fun hT=>?_)
 have hT9:=Lib.hid hT
 clear hT
 repeat (first
  | (refine Ord.ch_value (v:=?_) hT9.out (by decide) (by rfl) ?_ ?_; rotate_left; (focus (intro w5 hS; have r:=Blk.rule hS; go_simp<;>with_reducible rfl)); (try simp only [Act.put,zA,zZ,zS]))
  | (refine Ord.ch_off hT9.out (by decide) (by rfl) ?_; (try simp only [Act.put,zA,zZ,zS])))
 refine Ord.ch_turn (v:=.int .i64 s) 0 hT9.out rfl (by decide) (Or.inl rfl) (by rfl) ?_ ?_
 ·rintro w5 hC5 hA5
  rw [if_pos rfl] at hA5
  go_simp
  simp only [Ord.LandsIn]
  refine (HQ.out o9 q9 L1 w5 HQ1.out hA5).mono ?_
  rintro e w6 ⟨rfl,L2,h2,h5⟩
  exact ⟨rfl,h5.get 0 rfl,L2,h2,h5⟩
 (try simp only [Act.put,zA,zZ,zS])
 repeat (first
  | (refine Ord.ch_value (v:=?_) hT9.out (by decide) (by rfl) ?_ ?_; rotate_left; (focus (intro w5 hS; skip; go_simp<;>with_reducible rfl)); (try simp only [Act.put,zA,zZ,zS]))
  | (refine Ord.ch_off hT9.out (by decide) (by rfl) ?_; (try simp only [Act.put,zA,zZ,zS])))
 refine Ord.InText.nil fun w5 hS=>?_
 clear hT9
 obtain ⟨hC9,hA9⟩:=Ord.chain_end hS
 clear hS
 rw [if_neg (by decide)] at hA9
 obtain ⟨L2,hq2,hE4⟩:=hA9
 clear hC9 hE3
 have HQ2:=Lib.hid hq2
 clear hq2 HQ HQ1
 have r0:=hE4.rule 0 rfl
 have b9:(s != s)=false:=by simp
 by_cases hs:s=0
 ·subst hs
  have HE:=Lib.hid hE4
  clear hE4
  go_wp2_with fail
  (try go_ret)
  exact HPP.out _ _ ⟨rfl,o9,q9,L2,HQ2.out,HE.out⟩
 ·have b8:(s==0)=false:=by simpa using hs
  have hd:decide (s=0)=false:=by simpa using hs
  rw [hd] at HPP
  have f4:=hE4.thaw 0 rfl 4 (by simp)
  have hE5:=hE4.put 0 rfl (j:=4) (by simp) (.bool false)
  clear hE4 hs hd
  go_upto_region 15 with fail
  clear r0 f4
  generalize World.setCell _ _ _=v2 at *
  replace hE5:Env w0 (boxI thr [.pointer (some ⟨c,0,none⟩),.pointer (some ⟨u,0,none⟩),.slice dA dn dc,.int .i64 nd,.bool false,po,pq,.pointer (some ⟨o9,0,none⟩),.pointer (some ⟨q9,0,none⟩),.int .i64 s]::L2) v2:=hE5
  refine wp_text (S:=(Env w0 (boxI thr [.pointer (some ⟨c,0,none⟩),.pointer (some ⟨u,0,none⟩),.slice dA dn dc,.int .i64 nd,.bool false,po,pq,.pointer (some ⟨o9,0,none⟩),.pointer (some ⟨q9,0,none⟩),.int .i64 s]::L2))) (by kernel_rfl) (by kernel_rfl) hE5.drew (fun hT=>?_)
  have hT9:=Lib.hid hT
  clear hT
  repeat (first
   | (refine text_value (v:=?_) hT9.out (by rfl) ?_ ?_; rotate_left; (focus (intro w5 hS; have r:=hS.rule 0 rfl; go_simp<;>with_reducible rfl)); (try simp only [Act.put,zA,zZ,zS]))
   | (refine text_off hT9.out (by rfl) ?_; (try simp only [Act.put,zA,zZ,zS]))
   | (refine text_call (v:=?_) (f:=?_) (args:=?_) hT9.out (by rfl) ?_ ?_ ?_; rotate_left 3; (focus (intro w5 hS; have r:=hS.rule 0 rfl; go_simp; constructor<;>with_reducible rfl)); (focus (intro w5 hS; (first | fail))); (try simp only [Act.put,zA,zZ,zS])))
  refine InText.nil fun w5 hS5=>?_
  clear hT9
  clear hE5
  go_wp2_with fail
  (try go_ret)
  exact HPP.out _ _ ⟨rfl,o9,q9,L2,HQ2.out,hS5⟩
theorem stepNo_b {pg ph:Value} (hE:Env w0 (boxI thr (thk c u dA dn dc nd false po pq pg ph st)::L) w)
  (hB:∀ v,Env w0 (boxI thr (thk c u dA dn dc nd false po pq pg ph 0)::L) v->Calls Tryz.prog 32 #[.pointer (some ⟨thr,0,none⟩)] v fun e v'=>e=.returned (.bool false)/\Env w0 (boxI thr (thk c u dA dn dc nd false po pq pg ph 0)::L) v') :
  Calls Tryz.prog 15 #[.pointer (some ⟨thr,0,none⟩),.pointer (some ⟨p,0,none⟩),.pointer (some ⟨m,0,none⟩)] w fun o w'=>o=.returned (.bool true)/\Env w0 (boxI thr (thk c u dA dn dc nd false po pq pg ph 0)::L) w':=by
 have HB:=Lib.hid hB
 clear hB
 unfold thk at *
 have r0:=hE.rule 0 rfl
 have f9:=hE.thaw 0 rfl 9 (by simp)
 have hE1:=hE.put 0 rfl (j:=9) (by simp) (.int .i64 0)
 have r1:=hE1.rule 0 rfl
 clear hE
 go_enter Tryz.func15,Tryz.ntmps15
 go_wp2_with fail
 refine (HB.out _ hE1).mono ?_
 rintro e v0 ⟨rfl,hE7⟩
 clear r0 f9 r1 hE1 HB
 go_wp2_with fail
 (try go_ret)
 exact ⟨rfl,hE7⟩
end
section
variable {w0 w:World} {R:List Item} {C:Cf} {X:Tm} {V:Wm} {K:Kt} {d:Dd} {G FU:Nat->Prop} {qc:Cnt} {ml:List OneR} {n a b:Nat} {nd st:Int} {po pq pg ph:Value} {ds:List Dd}
structure GvOk (C:Cf) (T:Th) (ml:List OneR) (n:Nat) (N:Int):Prop where
 (hn:n < maxLen)
 (gh:InU T.gh)
 (gpc:T.gpc<=3)
 (q:2<=T.gpc->∃ x y t,T.ql=(x,y,0)::t/\0<=x/\x<=8388607)
 (len:T.ql.length+1<=1000000)
 (fu:∀ x,InU (getL ml x))
 (v:T.gpc=3->verI T.gh < 1099511627775)
 (mlr:ml.length<=999999)
 (Nr:0<=N/\N<=4000000)
def OutV (w0:World) (R:List Item) (C:Cf) (X:Tm) (V:Wm) (a b n:Nat) (qc:Cnt) (ml:List OneR) (nd:Int) (po pq:Value) (K:Kt) (r:Int × Th × Mem) (w':World):Prop :=
 ∃ (X':Tm) (G' FU':Nat->Prop) (qc':Cnt) (n':Nat) (ml':List OneR) (ms':List Item),Same X X'/\getL ml'=r.2.2/\ml'.length<=ml.length+1/\Nx n qc n' qc'/\0<=X'.N/\X'.N<=4000000/\(r.1=0->ms'=[boxI a (gvv X.c (nxG a r.2.1.gpc) r.2.1.gh r.2.1.gg),boxI b (rgv (r.2.1.gpc:Int) r.2.1.gh r.2.1.gg)])/\(r.1≠0->ms'=[])/\Env w0 (LT (SPK C X' V { K with T:=r.2.1 } (getL ml') G' qc' n') (LU (SRK C X' V { K with T:=r.2.1 } FU' ml') (boxI X.thr (thk X.c X.u X.dA X.dn X.dc nd (decide (r.1=0)) po pq (.pointer (some ⟨a,0,none⟩)) (.pointer (some ⟨b,0,none⟩)) r.1)::(ms'++R)))) w'
def VQ1 (R:List Item) (C:Cf) (X:Tm) (V:Wm) (K:Kt) (FU:Nat->Prop) (ml:List OneR) (n:Nat) (qc:Cnt) (s:Int) (T':Th) (f':Mem) (a b:Nat) (L1:List Item):Prop :=
 ∃ G' qc' n' nx,Nx n qc n' qc'/\(s=0->nx=nxG a T'.gpc)/\L1=boxI b (rgv (K.T.gpc:Int) K.T.gh K.T.gg)::boxI a (gvv X.c nx T'.gh T'.gg)::LT (SPK C X V { K with T:=T' } f' G' qc' n') (LU (SRK C X V K FU ml) R)
def VQ2 (R:List Item) (C:Cf) (X:Tm) (V:Wm) (K:Kt) (ml:List OneR) (n:Nat) (qc:Cnt) (s:Int) (T':Th) (f':Mem) (a b:Nat) (L2:List Item):Prop :=
 ∃ G' qc' n' nx A' rc' FU' ml' pc',Nx n qc n' qc'/\(s=0->nx=nxG a T'.gpc)/\getL ml'=f'/\ml'.length<=ml.length+1/\(s=0->pc'=(T'.gpc:Int))/\L2=boxI b (rgv pc' T'.gh T'.gg)::boxI a (gvv X.c nx T'.gh T'.gg)::LT (SPK C X V { K with T:=T' } f' G' qc' n') (LU (SRK C { X with A:=A',rc:=rc' } V { K with T:=T' } FU' ml') R)
theorem vO {TH:Item} {s:Int} {T':Th} {f':Mem} (hz:giveM C K.T (getL ml)=(s,T',f')) (hg:Glo w0) (h:GvOk C K.T ml n X.N)
  (hE:Env w0 (TH::boxI b (rgv (K.T.gpc:Int) K.T.gh K.T.gg)::boxI a (gvv X.c (nxG a K.T.gpc) K.T.gh K.T.gg)::LT (SPK C X V K (getL ml) G qc n) (LU (SRK C X V K FU ml) R)) w) :
  Calls Tryz.prog 52 #[.pointer (some ⟨a,0,none⟩),.iface 26 (.pointer (some ⟨V.p,0,none⟩))] w fun e v'=>e=.returned (.int .i64 s)/\∃ L1,VQ1 R C X V K FU ml n qc s T' f' a b L1/\Env w0 (TH::L1) v':=by
 have hp:=gePx (C:=C) (X:={ X with cr:=K.r }) (V:=V) (T:=K.T) (f:=getL ml) (G:=G) (qc:=qc) (n:=n) (r:=a) (R:=TH::boxI b (rgv (K.T.gpc:Int) K.T.gh K.T.gg)::LU (SRK C X V K FU ml) R) hg h.hn h.gh h.gpc (fun h2=>by obtain ⟨x,y,t,h3,h4,h5⟩:=h.q h2; exact ⟨x,y,t,h3,by unfold In64; omega⟩) (hE.perm (perm_of fun z=>by simp only [LT,LU,SPK,List.count_append,List.count_cons]; omega))
 rw [hz] at hp
 refine hp.mono ?_
 rintro e v' ⟨he,G',qc',n',nx,h1,h2,h3⟩
 exact ⟨he,_,⟨G',qc',n',nx,h1,h2,rfl⟩,h3.perm (perm_of fun z=>by simp only [LT,LU,SPK,List.count_append,List.count_cons]; omega)⟩
theorem vQ {TH:Item} {s:Int} {T':Th} {f':Mem} {L1:List Item} (hz:giveM C K.T (getL ml)=(s,T',f')) (h:GvOk C K.T ml n X.N) (h1:VQ1 R C X V K FU ml n qc s T' f' a b L1) (hE:Env w0 (TH::L1) w) :
  Calls Tryz.prog 53 #[.pointer (some ⟨b,0,none⟩),.pointer (some ⟨X.u,0,none⟩),.pointer (some ⟨V.m,0,none⟩)] w fun e v'=>e=.returned (.int .i64 s)/\∃ L2,VQ2 R C X V K ml n qc s T' f' a b L2/\Env w0 (TH::L2) v':=by
 obtain ⟨G',qc',n',nx,h1,h2,rfl⟩:=h1
 have hp:=geR (C:=C) (X:={ X with ro:=K.r }) (V:=V) (T:=K.T) (FU:=FU) (ml:=ml) (b:=b) (R:=TH::boxI a (gvv X.c nx T'.gh T'.gg)::LT (SPK C X V { K with T:=T' } f' G' qc' n') R) h.len h.gh h.fu h.gpc h.q h.v h.mlr h.Nr (hE.perm (perm_of fun z=>by simp only [LT,LU,SRK,List.count_append,List.count_cons]; omega))
 rw [hz] at hp
 refine hp.mono ?_
 rintro e v' ⟨he,A',rc',FU',ml',pc',g1,g2,g3,g4⟩
 exact ⟨he,_,⟨G',qc',n',nx,A',rc',FU',ml',pc',h1,h2,g1,g2,g3,rfl⟩,g4.perm (perm_of fun z=>by simp only [LT,LU,SRK,List.count_append,List.count_cons]; omega)⟩
theorem vEnd {s:Int} {T':Th} {f':Mem} {L2:List Item} (h:GvOk C K.T ml n X.N) (h2:VQ2 R C X V K ml n qc s T' f' a b L2) (hF:Env w0 (boxI X.thr (thk X.c X.u X.dA X.dn X.dc nd (decide (s=0)) po pq (.pointer (some ⟨a,0,none⟩)) (.pointer (some ⟨b,0,none⟩)) s)::L2) w):OutV w0 R C X V a b n qc ml nd po pq K (s,T',f') w:=by
 obtain ⟨G',qc',n',nx,A',rc',FU',ml',pc',h1,h2,g1,g2,g3,rfl⟩:=h2
 refine ⟨{ X with A:=A',rc:=rc' },G',FU',qc',n',ml',if s=0 then [boxI a (gvv X.c (nxG a T'.gpc) T'.gh T'.gg),boxI b (rgv (T'.gpc:Int) T'.gh T'.gg)] else [],⟨rfl,rfl,rfl,rfl,rfl,rfl,rfl⟩,g1,g2,h1,h.Nr.1,h.Nr.2,fun h0=>by show (if s=0 then _ else _)=_; rw [if_pos h0],fun h0=>by show (if s=0 then _ else _)=_; rw [if_neg h0],?_⟩
 have hall:=hF.perm (show List.Perm _ (boxI a (gvv X.c nx T'.gh T'.gg)::boxI b (rgv pc' T'.gh T'.gg)::(LT (SPK C { X with A:=A',rc:=rc' } V { K with T:=T' } (getL ml') G' qc' n') (LU (SRK C { X with A:=A',rc:=rc' } V { K with T:=T' } FU' ml') (boxI X.thr (thk X.c X.u X.dA X.dn X.dc nd (decide (s=0)) po pq (.pointer (some ⟨a,0,none⟩)) (.pointer (some ⟨b,0,none⟩)) s)::R)))) from perm_of fun z=>by
  rw [g1]
  simp only [LT,LU,SPK,SRK,SP,SR,List.count_append,List.count_cons]
  omega)
 by_cases h0:s=0
 ·rw [if_pos h0]
  rw [h2 h0,g3 h0] at hall
  exact hall.perm (perm_of fun z=>by simp only [LT,LU,List.count_append,List.count_cons,List.count_nil]; omega)
 ·rw [if_neg h0]
  exact hall.sub (.cons _ (.cons _ (List.Sublist.refl _)))
theorem stepGive_k (hg:Glo w0) (h:GvOk C K.T ml n X.N)
  (hE:Env w0 (LT (SPK C X V K (getL ml) G qc n) (LU (SRK C X V K FU ml) (boxI X.thr (thk X.c X.u X.dA X.dn X.dc nd true po pq (.pointer (some ⟨a,0,none⟩)) (.pointer (some ⟨b,0,none⟩)) st)::boxI a (gvv X.c (nxG a K.T.gpc) K.T.gh K.T.gg)::boxI b (rgv (K.T.gpc:Int) K.T.gh K.T.gg)::R))) w) :
  Calls Tryz.prog 15 #[.pointer (some ⟨X.thr,0,none⟩),.pointer (some ⟨V.p,0,none⟩),.pointer (some ⟨V.m,0,none⟩)] w fun e w'=>e=.returned (.bool true)/\OutV w0 R C X V a b n qc ml nd po pq K (giveM C K.T (getL ml)) w':=by
 obtain ⟨z,hz⟩:∃ z,giveM C K.T (getL ml)=z:=⟨_,rfl⟩
 obtain ⟨s,T',f'⟩:=z
 rw [hz]
 refine (stepGive_b (w0:=w0) (s:=s) (p:=V.p) (m:=V.m) (o9:=a) (q9:=b) (thr:=X.thr) (c:=X.c) (u:=X.u) (dA:=X.dA) (dn:=X.dn) (dc:=X.dc) (nd:=nd) (st:=st) (po:=po) (pq:=pq) (L:=boxI b (rgv (K.T.gpc:Int) K.T.gh K.T.gg)::boxI a (gvv X.c (nxG a K.T.gpc) K.T.gh K.T.gg)::LT (SPK C X V K (getL ml) G qc n) (LU (SRK C X V K FU ml) R)) (Q1:=VQ1 R C X V K FU ml n qc s T' f' a b) (Q2:=VQ2 R C X V K ml n qc s T' f' a b) ?_ ?_ ?_).mono ?_
 ·exact hE.perm (perm_of fun z=>by simp only [LT,LU,List.count_append,List.count_cons]; omega)
 ·intro v hv
  exact vO hz hg h hv
 ·intro L1 v h1 hv
  exact vQ hz h h1 hv
 ·rintro e w' ⟨he,L2,h2,hF⟩
  exact ⟨he,vEnd h h2 hF⟩
theorem stepGiveB_k (hg:Glo w0) (h:GvOk C K.T ml n X.N) (h0:K.T.gpc=0/\K.T.gh=0/\K.T.gg=0) {nd:Nat} (hos:OsAt w0 R X.dA ds) (hdn:X.dn=ds.length) (hlt:nd < ds.length) (hdl:ds.length<=1000) (hdd:ds.getD nd default=d) (h8:d.ok=8)
  (hE:Env w0 (LT (SPK C X V K (getL ml) G qc n) (LU (SRK C X V K FU ml) (boxI X.thr (thk X.c X.u X.dA X.dn X.dc nd false po pq pg ph st)::R))) w) :
  Calls Tryz.prog 15 #[.pointer (some ⟨X.thr,0,none⟩),.pointer (some ⟨V.p,0,none⟩),.pointer (some ⟨V.m,0,none⟩)] w fun e w'=>e=.returned (.bool true)/\∃ a b,OutV w0 R C X V a b n qc ml ((nd:Int)+1) (.pointer none) pq K (giveM C K.T (getL ml)) w':=by
 obtain ⟨z,hz⟩:∃ z,giveM C K.T (getL ml)=z:=⟨_,rfl⟩
 obtain ⟨s,T',f'⟩:=z
 rw [hz]
 refine (stepGiveB_b (w0:=w0) (s:=s) (p:=V.p) (m:=V.m) (thr:=X.thr) (c:=X.c) (u:=X.u) (dA:=X.dA) (dn:=X.dn) (dc:=X.dc) (nd0:=nd) (nd:=(nd:Int)+1) (st:=st) (po:=.pointer none) (pq:=pq) (p0:=po) (q0:=pq) (g0:=pg) (h0:=ph) (L:=LT (SPK C X V K (getL ml) G qc n) (LU (SRK C X V K FU ml) R)) (Q0:=fun a b L0=>L0=boxI b (rgv (K.T.gpc:Int) K.T.gh K.T.gg)::boxI a (gvv X.c (nxG a K.T.gpc) K.T.gh K.T.gg)::LT (SPK C X V K (getL ml) G qc n) (LU (SRK C X V K FU ml) R)) (Q1:=fun a b=>VQ1 R C X V K FU ml n qc s T' f' a b) (Q2:=fun a b=>VQ2 R C X V K ml n qc s T' f' a b) ?_ ?_ ?_ ?_).mono ?_
 ·exact hE.perm (perm_of fun z=>by simp only [LT,LU,List.count_append,List.count_cons]; omega)
 ·intro v hv
  refine (beginGive_b hos (fun a ha=>by simp [LT,LU,ha]) hdn hlt hdl hdd h8 hv).mono ?_
  rintro e v' ⟨he,x,y,hF⟩
  refine ⟨he,x,y,_,rfl,?_⟩
  rw [h0.1,h0.2.1,h0.2.2,show ((0:Nat):Int)=0 from rfl]
  exact hF.perm (perm_of fun z=>by simp only [List.count_cons]; omega)
 ·rintro a b L0 v rfl hv
  exact vO hz hg h hv
 ·intro a b L1 v h1 hv
  exact vQ hz h h1 hv
 ·rintro e w' ⟨he,a,b,L2,h2,hF⟩
  exact ⟨he,a,b,vEnd h h2 hF⟩
end
def MchK (C:Cf) (d:Dd) (c:Nat) (K:Kt) (po pq pg ph:Value) (st:Int) (ms:List Item):Prop :=
 (K.pc=0/\(st=0->ms=[])/\(st≠0->d.ok≠8->∃ o nx sp,po=.pointer (some ⟨o,0,none⟩)/\ms=[boxI o (opC c d.ok d.key d.val d.lv nx st sp K.err K.dn)])) \/
 (1<=K.pc/\K.pc<=7/\∃ o q ps rs,po=.pointer (some ⟨o,0,none⟩)/\pq=.pointer (some ⟨q,0,none⟩)/\pg=.pointer none/\ms=ps++rs/\PM C c d K o ps/\RSub d K q rs) \/
 (K.pc=8/\d.ok=8/\∃ a b,pg=.pointer (some ⟨a,0,none⟩)/\ph=.pointer (some ⟨b,0,none⟩)/\ms=[boxI a (gvv c (nxG a K.T.gpc) K.T.gh K.T.gg),boxI b (rgv (K.T.gpc:Int) K.T.gh K.T.gg)])
section
variable {w0 w:World} {R ms:List Item} {C:Cf} {X:Tm} {V:Wm} {K:Kt} {G FU:Nat->Prop} {qc:Cnt} {ml:List OneR} {n B:Nat} {st:Int} {po pq pg ph:Value} {ds:List Dd}
def OutT (w0:World) (R:List Item) (C:Cf) (X:Tm) (V:Wm) (d:Dd) (n:Nat) (qc:Cnt) (id:Bool) (ml:List OneR) (r:Int × Kt × Mem) (w':World):Prop :=
 ∃ (X':Tm) (G' FU':Nat->Prop) (qc':Cnt) (n':Nat) (ml':List OneR) (ms':List Item) (po pq pg ph:Value),Same X X'/\getL ml'=r.2.2/\ml'.length<=ml.length+1/\(n'<=n+1/\(id=false->One qc qc')/\(id=true->qc'=qc))/\0<=X'.N/\X'.N<=4000000/\MchK C d X.c r.2.1 po pq pg ph r.1 ms'/\Env w0 (LT (SPK C X' V r.2.1 (getL ml') G' qc' n') (LU (SRK C X' V r.2.1 FU' ml') (boxI X.thr (thk X.c X.u X.dA X.dn X.dc r.2.1.T.nd (decide (r.2.1.pc≠0)) po pq pg ph r.1)::(ms'++R)))) w'
theorem OutK.toT {d:Dd} {o q:Nat} {nd:Int} {r:Int × Kt × Mem} (h:OutK w0 R C X V d o q n qc ml nd ph r w) (hpc:r.1=0->1<=r.2.1.pc/\r.2.1.pc<=7) (hnd:(r.2.1.T.nd:Int)=nd):OutT w0 R C X V d n qc false ml (r.1,{ r.2.1 with pc:=if r.1=0 then r.2.1.pc else 0 },r.2.2) w:=by
 obtain ⟨X',G',FU',qc',n',ml',ms',h1,h2,h3,h4,h5,h6,h7,h8,h9⟩:=h
 obtain ⟨s,K',f'⟩:=r
 dsimp only at *
 subst hnd
 have hc:=h1.2.1
 refine ⟨X',G',FU',qc',n',ml',ms',.pointer (some ⟨o,0,none⟩),.pointer (some ⟨q,0,none⟩),.pointer none,ph,h1,h2,h3,⟨h4.le,fun _=>h4.one,fun h=>absurd h (by decide)⟩,h5,h6,?_,?_⟩
 ·by_cases h0:s=0
  ·obtain ⟨ps,rs,g1,g2,g3⟩:=h7 h0
   rw [hc] at g2
   rw [if_pos h0]
   exact .inr (.inl ⟨(hpc h0).1,(hpc h0).2,o,q,ps,rs,rfl,rfl,rfl,g1,g2,g3⟩)
  ·obtain ⟨nx,sp,g1⟩:=h8 h0
   rw [if_neg h0]
   exact .inl ⟨rfl,fun h=>absurd h h0,fun _ _=>⟨o,nx,sp,rfl,g1⟩⟩
 ·have hb:decide ((if s=0 then K'.pc else 0)≠0)=decide (s=0):=by
   by_cases h0:s=0
   ·have:=(hpc h0).1
    rw [if_pos h0]
    simp [h0]
    omega
   ·rw [if_neg h0]
    simp [h0]
  show Env w0 (LT _ (LU _ (boxI X.thr (thk X.c X.u X.dA X.dn X.dc K'.T.nd (decide ((if s=0 then K'.pc else 0)≠0)) _ _ _ _ s)::_))) w
  rw [hb]
  exact h9
theorem OutV.toT {d:Dd} {a b:Nat} {nd:Int} {r:Int × Th × Mem} (h:OutV w0 R C X V a b n qc ml nd po pq K r w) (h8:K.pc=8) (hd:d.ok=8) (hnd:(r.2.1.nd:Int)=nd):OutT w0 R C X V d n qc false ml (if r.1=0 then (0,{ K with T:=r.2.1 },r.2.2) else (r.1,{ K with T:={ r.2.1 with pc:=0 },pc:=0 },r.2.2)) w:=by
 obtain ⟨X',G',FU',qc',n',ml',ms',h1,h2,h3,h4,h5,h6,h7,h9,hE⟩:=h
 obtain ⟨s,T',f'⟩:=r
 dsimp only at *
 subst hnd
 by_cases h0:s=0
 ·rw [if_pos h0]
  subst h0
  have hb:decide (K.pc≠0)=decide ((0:Int)=0):=by rw [h8]; rfl
  refine ⟨X',G',FU',qc',n',ml',ms',po,pq,.pointer (some ⟨a,0,none⟩),.pointer (some ⟨b,0,none⟩),h1,h2,h3,⟨h4.le,fun _=>h4.one,fun h=>absurd h (by decide)⟩,h5,h6,.inr (.inr ⟨h8,hd,a,b,rfl,rfl,h7 rfl⟩),?_⟩
  show Env w0 (LT _ (LU _ (boxI X.thr (thk X.c X.u X.dA X.dn X.dc T'.nd (decide (K.pc≠0)) _ _ _ _ 0)::_))) w
  rw [hb]
  exact hE
 ·rw [if_neg h0]
  have hb:decide (s=0)=decide ((0:Nat)≠0):=by simp [h0]
  rw [hb] at hE
  exact ⟨X',G',FU',qc',n',ml',ms',po,pq,.pointer (some ⟨a,0,none⟩),.pointer (some ⟨b,0,none⟩),h1,h2,h3,⟨h4.le,fun _=>h4.one,fun h=>absurd h (by decide)⟩,h5,h6,.inl ⟨rfl,fun h=>absurd h h0,fun _ h=>absurd hd h⟩,hE⟩
end
theorem foundM_nd (C:Cf) (d:Dd) (K:Kt):(foundM C d K).2.T.nd=K.T.nd:=by
 unfold foundM
 repeat' split
 all_goals rfl
theorem opM_nd (C:Cf) (d:Dd) (K:Kt) (f:Mem):(opM C d K f).2.1.T.nd=K.T.nd:=by
 unfold opM
 dsimp only
 repeat' split
 all_goals first
  | rfl
  | exact foundM_nd _ _ _
  | exact (allocM_keep C d K.T f).2.1
  | exact (retireM_keep (T:=K.T) (f:=f)).2.1
def idleK (ds:List Dd) (K:Kt):Bool:=decide (K.pc=0) && !decide (K.T.nd < ds.length)
section
variable {w0 w:World} {R ms:List Item} {C:Cf} {X:Tm} {V:Wm} {K:Kt} {G FU:Nat->Prop} {qc:Cnt} {ml:List OneR} {n B:Nat} {st:Int} {po pq pg ph:Value} {ds:List Dd}
theorem PM.pcs {c:Nat} {d:Dd} {o:Nat} {ps:List Item} (h:PM C c d K o ps):1<=K.pc/\K.pc<=7:=by
 obtain ⟨b1,b2,F,Y,sp,sub,-,h⟩:=h
 rcases h with ⟨h,-⟩ | ⟨h,-⟩ | ⟨h,-⟩ | ⟨h,-⟩ | ⟨h,-⟩ | ⟨h,-⟩<;>omega
theorem OutK.pcs {d:Dd} {o q:Nat} {nd:Int} {r:Int × Kt × Mem} (h:OutK w0 R C X V d o q n qc ml nd ph r w) (h0:r.1=0):1<=r.2.1.pc/\r.2.1.pc<=7:=by
 obtain ⟨X',G',FU',qc',n',ml',ms',h1,h2,h3,h4,h5,h6,h7,h8,h9⟩:=h
 obtain ⟨ps,rs,-,g2,-⟩:=h7 h0
 exact g2.pcs
theorem act_op (d:Dd) (f:Mem) (h8:K.pc≠8):actK C d K f=((opM C d K f).1,{ (opM C d K f).2.1 with pc:=if (opM C d K f).1=0 then (opM C d K f).2.1.pc else 0 },(opM C d K f).2.2):=by
 unfold actK
 rw [if_neg h8]
theorem act_give (d:Dd) (f:Mem) (h8:K.pc=8):actK C d K f=(if (giveM C K.T f).1=0 then (0,{ K with T:=(giveM C K.T f).2.1 },(giveM C K.T f).2.2) else ((giveM C K.T f).1,{ K with T:={ (giveM C K.T f).2.1 with pc:=0 },pc:=0 },(giveM C K.T f).2.2)):=by
 unfold actK
 rw [if_pos h8]
theorem KOk.gv {d:Dd} {N:Int} (hC:COk C) (hF:OkF C (getL ml)) (h:KOk C ds B d K) (h8:K.pc=8) (hB:B+1<=1000000) (hn:n < maxLen) (hml:ml.length<=999999) (hN:0<=N/\N<=4000000):GvOk C K.T ml n N:=by
 have h4:K.T.pc=4:=by have:=h.tp; rw [if_neg (by omega),if_neg (by omega),if_pos h8] at this; exact this
 have hl:=hC.l
 have hs:=hC.s
 have hlen:=h.t.len
 refine ⟨hn,h.t.ghu,h.t.gpc,fun h2=>?_,by omega,hF.u,fun h3=>by have:=h.t.gv h4 (by omega); omega,hml,hN⟩
 rcases hq:K.T.ql with _ | ⟨⟨x,y,z⟩,t⟩
 ·exact absurd hq (h.t.give h4 (by omega))
 ·have:=h.t.ql (x,y,z) (by rw [hq]; simp)
  obtain ⟨h1,h2,rfl⟩:=this
  dsimp only at h1 h2
  exact ⟨x,y,t,rfl,by omega,by omega⟩
theorem step_K (hg:Glo w0) (hC:COk C) (hF:OkF C (getL ml)) (hS:LnkF C (getL ml)) (h:KOk C ds B (lastD ds K) K) (hB:B+1<=1000000) (hos:OsAt w0 R X.dA ds) (hdn:X.dn=ds.length) (hdl:ds.length<=1000) (hdI:∀ i,i < ds.length->InU (ds.getD i default).key/\InU (ds.getD i default).val) (hk1:C.k=1) (hop:∀ i,i < ds.length->(ds.getD i default).ok=8\/opI 1 C.s C.b C.h C.l (ds.getD i default).ok (ds.getD i default).key (ds.getD i default).val (ds.getD i default).lv=0) (hn:n < maxLen) (hml:ml.length<=999999) (hN:0<=X.N/\X.N<=4000000)
  (hM:MchK C (lastD ds K) X.c K po pq pg ph st ms)
  (hE:Env w0 (LT (SPK C X V K (getL ml) G qc n) (LU (SRK C X V K FU ml) (boxI X.thr (thk X.c X.u X.dA X.dn X.dc K.T.nd (decide (K.pc≠0)) po pq pg ph st)::(ms++R)))) w) :
  Calls Tryz.prog 15 #[.pointer (some ⟨X.thr,0,none⟩),.pointer (some ⟨V.p,0,none⟩),.pointer (some ⟨V.m,0,none⟩)] w fun e w'=>e=.returned (.bool true)/\OutT w0 R C X V (lastD ds (stepK C ds K (getL ml)).2.1) n qc (idleK ds K) ml (stepK C ds K (getL ml)) w':=by
 have hgd:∀ i,i < ds.length->ds.getD i ⟨0,0,0,0,0⟩=ds.getD i default:=fun i hi=>by
  simp [List.getD_eq_getElem?_getD,List.getElem?_eq_getElem hi]
 by_cases h0:K.pc=0
 ·have hb:decide (K.pc≠0)=false:=by simp [h0]
  rw [hb] at hE
  have hE1:Env w0 (LT (SPK C X V K (getL ml) G qc n) (LU (SRK C X V K FU ml) (boxI X.thr (thk X.c X.u X.dA X.dn X.dc K.T.nd false po pq pg ph st)::R))) w:=(hE.perm (show List.Perm _ (ms++_) from perm_of fun z=>by simp only [LT,LU,List.count_append,List.count_cons]; omega)).sub (List.sublist_append_right ms _)
  by_cases hlt:K.T.nd < ds.length
  ·obtain ⟨d,hd⟩:∃ d,ds.getD K.T.nd default=d:=⟨_,rfl⟩
   have hst:stepK C ds K (getL ml)=actK C d (beginK d K) (getL ml):=by
    unfold stepK
    rw [if_pos h0,if_pos hlt,hgd _ hlt,hd]
   have hb:=begin_keep hC h h0 hlt d
   have hdi:=hdI _ hlt
   have hoi:=hop _ hlt
   rw [hd] at hdi hoi
   rw [hst,show idleK ds K=false by unfold idleK; simp [hlt]]
   have hl9:∀ K9:Kt,K9.T.nd=K.T.nd+1->lastD ds K9=d:=fun K9 h9=>by
    unfold lastD
    rw [h9,Nat.add_sub_cancel,hgd _ hlt,hd]
   by_cases h8:d.ok=8
   ·have hbk:beginK d K={ K with pc:=8,T:={ K.T with pc:=4,nd:=K.T.nd+1,gpc:=0,gh:=0,gg:=0 } }:=by unfold beginK; rw [if_pos h8]
    have hpc:(beginK d K).pc=8:=by rw [hbk]
    have hl:=hl9 (actK C d (beginK d K) (getL ml)).2.1 (by rw [act_give d _ hpc]; split<;>exact (giveM_keep (C:=C) (T:=(beginK d K).T) (f:=getL ml)).2.1.trans hb.2.2)
    rw [hl,act_give d _ hpc]
    have hE2:Env w0 (LT (SPK C X V (beginK d K) (getL ml) G qc n) (LU (SRK C X V (beginK d K) FU ml) (boxI X.thr (thk X.c X.u X.dA X.dn X.dc K.T.nd false po pq pg ph st)::R))) w:=by rw [hbk]; exact hE1
    refine (stepGiveB_k (K:=beginK d K) hg (hb.1.gv hC hF hpc hB hn hml hN) (by rw [hbk]; exact ⟨rfl,rfl,rfl⟩) hos hdn hlt hdl hd h8 hE2).mono ?_
    rintro e w' ⟨he,a,b,ho⟩
    exact ⟨he,ho.toT hpc h8 (by rw [(giveM_keep (C:=C) (T:=(beginK d K).T) (f:=getL ml)).2.1,hb.2.2]; rfl)⟩
   ·have hbk:beginK d K={ findM K with T:={ K.T with nd:=K.T.nd+1 },err:=0,dn:=false }:=by unfold beginK; rw [if_neg h8]
    have hpc:(beginK d K).pc=1:=by rw [hbk]; rfl
    have hon:(beginK d K).on=false:=by rw [hbk]; rfl
    have hl:=hl9 (actK C d (beginK d K) (getL ml)).2.1 (by rw [act_op d _ (by omega)]; exact (opM_nd C d (beginK d K) (getL ml)).trans hb.2.2)
    rw [hl,act_op d _ (by omega)]
    have hE2:Env w0 (LT (SPK C X V (beginK d K) (getL ml) G qc n) (LU (SRK C X V (beginK d K) FU ml) (boxI X.thr (thk X.c X.u X.dA X.dn X.dc K.T.nd false po pq pg ph st)::R))) w:=by rw [hbk]; exact hE1
    refine (stepOpB_k (K:=beginK d K) hg (hb.1.kc hC hF hS (by omega) (by omega) hdi hB hn) (hb.1.kr hC hF hml hN) hpc hon hos hdn hlt hdl hd h8 hk1 (hoi.resolve_left h8) hE2).mono ?_
    rintro e w' ⟨he,o,q,ho⟩
    exact ⟨he,ho.toT ho.pcs (by rw [opM_nd,hb.2.2]; rfl)⟩
  ·have hst:stepK C ds K (getL ml)=(0,K,getL ml):=by
    unfold stepK
    rw [if_pos h0,if_neg hlt]
   rw [hst]
   refine (stepNo_b (p:=V.p) (m:=V.m) (thr:=X.thr) (c:=X.c) (u:=X.u) (dA:=X.dA) (dn:=X.dn) (dc:=X.dc) (nd:=K.T.nd) (po:=po) (pq:=pq) (pg:=pg) (ph:=ph) (st:=st) (L:=LT (SPK C X V K (getL ml) G qc n) (LU (SRK C X V K FU ml) R)) (hE1.perm (perm_of fun z=>by simp only [LT,LU,List.count_append,List.count_cons]; omega)) (fun v hv=>beginNo_b (by omega) hv)).mono ?_
   rintro e w' ⟨he,hF9⟩
   refine ⟨he,X,G,FU,qc,n,ml,[],po,pq,pg,ph,⟨rfl,rfl,rfl,rfl,rfl,rfl,rfl⟩,rfl,by omega,⟨by omega,fun h=>by unfold idleK at h; simp [h0,hlt] at h,fun _=>rfl⟩,hN.1,hN.2,.inl ⟨h0,fun _=>rfl,fun h9=>absurd rfl h9⟩,?_⟩
   show Env w0 (LT _ (LU _ (boxI X.thr (thk X.c X.u X.dA X.dn X.dc K.T.nd (decide (K.pc≠0)) po pq pg ph 0)::([]++R)))) w'
   rw [hb]
   exact hF9.perm (perm_of fun z=>by simp only [LT,LU,List.nil_append,List.count_append,List.count_cons]; omega)
 ·have hnd:=h.nd h0
  have hlt:K.T.nd - 1 < ds.length:=by have:=h.t.nd; omega
  have hb:decide (K.pc≠0)=true:=by simp [h0]
  rw [hb] at hE
  have hst:stepK C ds K (getL ml)=actK C (lastD ds K) K (getL ml):=by
   unfold stepK
   rw [if_neg h0]
   rfl
  have hdi:InU (lastD ds K).key/\InU (lastD ds K).val:=by unfold lastD; rw [hgd _ hlt]; exact hdI _ hlt
  have hl9:∀ K9:Kt,K9.T.nd=K.T.nd->lastD ds K9=lastD ds K:=fun K9 h9=>by
   unfold lastD
   rw [h9]
  rw [hst,show idleK ds K=false by unfold idleK; simp [h0]]
  rcases hM with ⟨h9,-⟩ | ⟨h1,h7,o,q,ps,rs,rfl,rfl,rfl,rfl,hP,hR⟩ | ⟨h8,hd8,a,b,rfl,rfl,rfl⟩
  ·exact absurd h9 h0
  ·have hl:=hl9 (actK C (lastD ds K) K (getL ml)).2.1 (by rw [act_op _ _ (by omega)]; exact opM_nd C _ K (getL ml))
   rw [hl,act_op _ _ (by omega)]
   refine (stepOp_k hg (h.kc hC hF hS h1 h7 hdi hB hn) (h.kr hC hF hml hN) hP hR hE).mono ?_
   rintro e w' ⟨he,ho⟩
   exact ⟨he,ho.toT ho.pcs (by rw [opM_nd])⟩
  ·have hl:=hl9 (actK C (lastD ds K) K (getL ml)).2.1 (by rw [act_give _ _ h8]; split<;>exact (giveM_keep (C:=C) (T:=K.T) (f:=getL ml)).2.1)
   rw [hl,act_give _ _ h8]
   refine (stepGive_k hg (h.gv hC hF h8 hB hn hml hN) hE).mono ?_
   rintro e w' ⟨he,ho⟩
   exact ⟨he,ho.toT h8 hd8 (by rw [(giveM_keep (C:=C) (T:=K.T) (f:=getL ml)).2.1])⟩
end
section
variable {w:World} {c q:Nat} {k s b h l e r hs hi:Int}
theorem rolls_c (hb:Blk 0 w c (crv k s b h l e r hs hi q)):Calls Tryz.prog 59 #[.pointer (some ⟨c,0,none⟩)] w fun o w'=>o=.returned (.int .i64 r)/\w'=w:=by
 have r1:=hb.rule
 unfold crv at r1
 go_enter Tryz.func59,Tryz.ntmps59
 go_wp2
 go_ret
 exact ⟨rfl,rfl⟩
end
theorem list_any {w:World} {q k:Nat} {F:Nat->Prop} {l:List Trip} (hQ:IsQ w q F l k) :
  Calls Tryz.prog 56 #[.pointer (some ⟨q,0,none⟩)] w fun e w'=>∃ b,e=.returned (.slice (some ⟨b,0,none⟩) l.length l.length)/\Blk 0 w' b (flat3 l)/\w.heap.size<=b/\Below w.heap.size w w':=by
 obtain ⟨hl1,hl2,hk2,hk⟩:=hQ.len
 have hQ0:=Lib.hid hQ
 obtain ⟨R,g,r,hq,hr,hring,_,_,hne,hF⟩:=hQ
 have hrl:=hring.1
 have h4:=pow_four hk2
 have HA:=Lib.hid fun j w'=>at_any R k (g+j) w' hk
 have hcell:∀ j,j < l.length->∀ w',Blk 0 w' R (flat3 r)->w'.cell? ⟨R,(g+j) % 2 ^ k * 3,none⟩=some (.int .i64 (l.getD j t0).1)/\w'.cell? ⟨R,(g+j) % 2 ^ k * 3+1,none⟩=some (.int .i64 (l.getD j t0).2.1)/\w'.cell? ⟨R,(g+j) % 2 ^ k * 3+2,none⟩=some (.int .i64 (l.getD j t0).2.2):=fun j hj w' h=>by
  have hlt:(g+j) % 2 ^ k < 2 ^ k:=Nat.mod_lt _ (by omega)
  have e:=fun c hc=>(h.rule ((g+j) % 2 ^ k * 3+c)).trans (flat3_get r ((g+j) % 2 ^ k) c (by omega) hc)
  rw [hring.at j hj] at e
  exact ⟨e 0 (by omega),e 1 (by omega),e 2 (by omega)⟩
 have HC:=Lib.hid hcell
 have HG:=Lib.hid (round_up g)
 have HQB:=Lib.hid (And.intro hq hr)
 have hlz:=fill3_zero l
 clear hcell hq hr hring hF hrl h4
 go_enter Tryz.func56,Tryz.ntmps56
 go_wp2_with fail
 refine (len_any hQ0.out).mono ?_
 rintro e w1 ⟨rfl,hb⟩
 clear hQ0
 go_wp2_with (refine wpList_make3 _ rfl _ _ 122 rfl 130 Tryz.underlying122 infoEnt .i64 .i64 _ _ l.length rfl rfl rfl rfl (by omega) ?_)
 have hB0:=Blk.new 0 w1 (flat3 (List.replicate l.length t0)) 130
 have hE0:=hb.alloc hb.size (.cells (flat3 (List.replicate l.length t0)).toArray 130)
 have hs0:=hb.size
 clear hb
 generalize hb1:w1.heap.size=b at *
 clear hb1
 generalize w1.alloc (.cells (flat3 (List.replicate l.length t0)).toArray 130)=w2 at *
 rw [<- hlz] at hB0
 clear hlz
 go_loopw [4,10] (fun _ i wr=>∃ j:Nat,j<=l.length/\i=.int .i64 j/\Blk 0 wr b (flat3 (fill3 l j))/\Below w.heap.size w wr) (fun _ i _=>l.length - (intOf i).toNat)
 case atStart=>exact ⟨0,by omega,rfl,hB0,hE0⟩
 case round =>
  obtain ⟨j,hj,rfl,hf,hB⟩:=hrel
  clear hB0 hE0
  by_cases hlt:j < l.length
  ·have hc:=HC.out j hlt
   have hw:=round_nat j (by omega)
   have hg:=HG.out j
   have HAj:=Lib.hid (HA.out j)
   have hq5:Blk 0 wr q _:=HQB.out.1.kept hB.size (hB.block _ HQB.out.1.1)
   have hr5:Blk 0 wr R _:=HQB.out.2.kept hB.size (hB.block _ HQB.out.2.1)
   have hqb:q≠b/\R≠b:=⟨by have:=HQB.out.1.1; omega,by have:=HQB.out.2.1; omega⟩
   have hnx:=hf
   have HNX:=Lib.hid (And.intro (fill3_next l hlt) (fill3_length l hj))
   clear HC HG HA HQB hnx
   unfold qv at hq5
   generalize l.getD j t0=xx at *
   generalize (cnt g)=G at *
   generalize (cnt (g+j))=GJ at *
   generalize (cnt (g+l.length))=C at *
   generalize (g+j) % 2 ^ k=p at *
   generalize 2 ^ k=N at *
   obtain ⟨x,y,z⟩:=xx
   simp only at hc
   have HC:=Lib.hid hc
   clear hc
   generalize hLN:l.length=ln at *
   have HLN:=Lib.hid hLN
   clear hLN
   go_wp2_with fail
   refine Ord.wp_chain [17] (fun w'=>Blk 0 w' q [.slice (some ⟨R,0,none⟩) N N,.int .u64 G,.int .u64 C]/\Blk 0 w' R (flat3 r)) (fun m w'=>w.heap.size<=w'.heap.size/\Below w.heap.size w w'/\Blk 0 w' b (flat3 (if m=0 then fill3 l j else (fill3 l j).set j (x,y,z)))) (by kernel_rfl) (by kernel_rfl) (by kernel_rfl) ⟨hq5.drew,hr5.drew⟩ ⟨hB.size,hB.drew,hf.drew⟩ (fun hT=>?_)
   have hT9:=Lib.hid hT
   clear hT
   repeat (first
    | (refine Ord.ch_value (v:=?_) hT9.out (by decide) (by rfl) ?_ ?_; rotate_left; (focus (intro w5 hS; have r:=Blk.rule hS.1; obtain ⟨c0,c1,c2⟩:=HC.out _ hS.2; go_simp<;>with_reducible rfl)); (try simp only [Act.put,zA,zZ,zS]))
    | (refine Ord.ch_off hT9.out (by decide) (by rfl) ?_; (try simp only [Act.put,zA,zZ,zS]))
    | (refine Ord.ch_call (v:=?_) (f:=?_) (args:=?_) hT9.out (by decide) (by rfl) ?_ ?_ ?_; rotate_left 3; (focus (intro w5 hS; have r:=Blk.rule hS.1; obtain ⟨c0,c1,c2⟩:=HC.out _ hS.2; go_simp; constructor<;>with_reducible rfl)); (focus (intro w5 hS; (first | (with_reducible refine (HAj.out w5).mono ?_; rintro e w6 ⟨rfl,rfl⟩; constructor; with_reducible rfl; exact ⟨hS,fun _ h=>h⟩)))); (try simp only [Act.put,zA,zZ,zS])))
   refine Ord.ch_turn (v:=undef) 0 hT9.out rfl (by decide) (Or.inl rfl) (by rfl) ?_ ?_
   ·rintro w5 hS ⟨hA0,hA1,hA2⟩
    simp only [if_true] at hA2
    have hcells:=fun c hc=>(hA2.rule (j * 3+c)).trans (flat3_get _ j c (by rw [HNX.out.2]; exact hlt) hc)
    have r0:=hcells 0 (by omega)
    have r1:=hcells 1 (by omega)
    have r2:=hcells 2 (by omega)
    simp only [Nat.add_zero,enc3,List.getElem?_cons_zero,List.getElem?_cons_succ] at r0 r1 r2
    have hfl:=flat3_length (fill3 l j)
    rw [HNX.out.2] at hfl
    have f0:=hA2.thaw (j * 3) (by omega)
    have f1:=hA2.thaw (j * 3+1) (by omega)
    have f2:=hA2.thaw (j * 3+2) (by omega)
    clear hcells
    go_simp
    refine ⟨rfl,⟨((hS.1.off hqb.1 _).off hqb.1 _).off hqb.1 _,((hS.2.off hqb.2 _).off hqb.2 _).off hqb.2 _⟩,by simpa using hA0,?_,?_⟩
    ·exact below_set (below_set (below_set hA1 (by omega) hs0 _) (by simp; omega) hs0 _) (by simp; omega) hs0 _
    ·exact Blk.set3 hA2 (by rw [HNX.out.2]; exact hlt) (x,y,z)
   (try simp only [Act.put,zA,zZ,zS])
   repeat (first
    | (refine Ord.ch_value (v:=?_) hT9.out (by decide) (by rfl) ?_ ?_; rotate_left; (focus (intro w5 hS; skip; go_simp<;>with_reducible rfl)); (try simp only [Act.put,zA,zZ,zS]))
    | (refine Ord.ch_off hT9.out (by decide) (by rfl) ?_; (try simp only [Act.put,zA,zZ,zS])))
   refine Ord.InText.nil fun w5 hS=>?_
   clear hT9
   obtain ⟨hC9,hA9⟩:=Ord.chain_end hS
   clear hS
   obtain ⟨hA0,hA1,hA2⟩:=hA9
   rw [if_neg (by decide),HNX.out.1] at hA2
   go_wp2_with fail
   exact ⟨⟨j+1,by omega,by simp,hA2,hA1⟩,by simp [intOf]; omega⟩
  ·go_wp2_with fail
   have:j=l.length:=by omega
   subst this
   rw [fill3_all] at hf
   go_ret
   exact ⟨b,rfl,hf,hs0,hB⟩
section
variable {w0 w:World} {R:List Item} {C:Cf} {X:Tm} {V:Wm} {K:Kt} {nd st:Int} {bz:Bool} {po pq pg ph:Value} {G FU:Nat->Prop} {qc:Cnt} {n:Nat} {f:Mem} {ml:List OneR}
theorem same_k (hq:K.T.ql.length<=1000000) (hE:Env w0 (LT (SPK C X V K f G qc n) (LU (SRK C X V K FU ml) (boxI X.thr (thk X.c X.u X.dA X.dn X.dc nd bz po pq pg ph st)::R))) w) :
  Calls Tryz.prog 16 #[.pointer (some ⟨X.thr,0,none⟩)] w fun o w'=>o=.returned (.bool true)/\Env w0 (LT (SPK C X V K f G qc n) (LU (SRK C X V K FU ml) (boxI X.thr (thk X.c X.u X.dA X.dn X.dc nd bz po pq pg ph st)::R))) w':=by
 have r7:=hE.rule 7 rfl
 unfold thk at r7
 have hb0:Blk 0 w X.c (crv C.k C.s C.b C.h C.l K.T.e K.r K.T.hs 0 X.q):=hE.get 0 rfl
 have hq0:IsQ w X.q X.F K.T.ql X.kq:=hE.queue 1 rfl
 go_enter Tryz.func16,Tryz.ntmps16
 go_wp2_with fail
 refine (queue_c hb0).mono ?_
 rintro o w1 ⟨rfl,rfl⟩
 go_wp2_with fail
 refine (list_any hq0).mono ?_
 rintro o w2 ⟨bL,rfl,hL,hbL,hb⟩
 replace hE:=hE.add (boxI bL (flat3 K.T.ql)) hb hL (fun y hy=>by cases hy; exact ⟨hbL,hL.1⟩)
 clear hb hL hbL r7 hb0 hq0
 have hb0:Blk 0 w2 X.c (crv C.k C.s C.b C.h C.l K.T.e K.r K.T.hs 0 X.q):=hE.get 1 rfl
 have r7:=hE.rule 8 rfl
 unfold thk at r7
 go_wp2_with fail
 refine (held_c hb0).mono ?_
 rintro o w3 ⟨rfl,hb⟩
 replace hE:=hE.over hb
 replace hE:=hE.box w3.heap.size rfl [.int .i64 K.T.hs,.int .i64 0] 61
 clear hb r7 hb0
 go_wp2_with fail
 generalize w3.alloc _=w4 at *
 generalize w3.heap.size=Z at *
 replace hE:Env w0 (boxI bL (flat3 K.T.ql)::boxI Z [.int .i64 K.T.hs,.int .i64 0]::LT (SPK C X V K f G qc n) (LU (SRK C X V K FU ml) (boxI X.thr (thk X.c X.u X.dA X.dn X.dc nd bz po pq pg ph st)::R))) w4:=hE.perm (List.Perm.swap _ _ _)
 have HCU:Hid (∀ y,Env w0 (boxI bL (flat3 K.T.ql)::boxI Z [.int .i64 K.T.hs,.int .i64 0]::LT (SPK C X V K f G qc n) (LU (SRK C X V K FU ml) (boxI X.thr (thk X.c X.u X.dA X.dn X.dc nd bz po pq pg ph st)::R))) y->y.cell? ⟨X.u,6,none⟩=some (.slice X.A K.T.ql.length X.rc)/\y.cell? ⟨X.u,8,none⟩=some (.int .i64 K.T.hs)/\y.cell? ⟨X.u,5,none⟩=some (.int .i64 K.T.e)/\y.cell? ⟨X.u,9,none⟩=some (.int .i64 K.r)):=Lib.hid fun y hy=>⟨hy.rule 6 rfl 6,hy.rule 6 rfl 8,hy.rule 6 rfl 5,hy.rule 6 rfl 9⟩
 have HEP:Hid (∀ y,Env w0 (boxI bL (flat3 K.T.ql)::boxI Z [.int .i64 K.T.hs,.int .i64 0]::LT (SPK C X V K f G qc n) (LU (SRK C X V K FU ml) (boxI X.thr (thk X.c X.u X.dA X.dn X.dc nd bz po pq pg ph st)::R))) y->Calls Tryz.prog 58 #[.pointer (some ⟨X.c,0,none⟩)] y fun o w'=>o=.returned (.int .i64 K.T.e)/\w'=y):=Lib.hid fun y hy=>epoch_c (show Blk 0 y X.c (crv C.k C.s C.b C.h C.l K.T.e K.r K.T.hs 0 X.q) from hy.get 2 rfl)
 have HRO:Hid (∀ y,Env w0 (boxI bL (flat3 K.T.ql)::boxI Z [.int .i64 K.T.hs,.int .i64 0]::LT (SPK C X V K f G qc n) (LU (SRK C X V K FU ml) (boxI X.thr (thk X.c X.u X.dA X.dn X.dc nd bz po pq pg ph st)::R))) y->Calls Tryz.prog 59 #[.pointer (some ⟨X.c,0,none⟩)] y fun o w'=>o=.returned (.int .i64 K.r)/\w'=y):=Lib.hid fun y hy=>rolls_c (show Blk 0 y X.c (crv C.k C.s C.b C.h C.l K.T.e K.r K.T.hs 0 X.q) from hy.get 2 rfl)
 refine wp_text (S:=(Env w0 (boxI bL (flat3 K.T.ql)::boxI Z [.int .i64 K.T.hs,.int .i64 0]::LT (SPK C X V K f G qc n) (LU (SRK C X V K FU ml) (boxI X.thr (thk X.c X.u X.dA X.dn X.dc nd bz po pq pg ph st)::R))))) (by kernel_rfl) (by kernel_rfl) hE.drew (fun hT=>?_)
 have hT9:=Lib.hid hT
 clear hT
 repeat (first
  | (refine text_value (v:=?_) hT9.out (by rfl) ?_ ?_; rotate_left; (focus (intro w5 hS; obtain ⟨q6,q8,q5,q9⟩:=HCU.out _ hS; have r1:=hS.rule 1 rfl; have r9:=hS.rule 9 rfl; unfold thk at r9; go_simp<;>with_reducible rfl)); (try simp only [Act.put,zA,zZ,zS]))
  | (refine text_off hT9.out (by rfl) ?_; (try simp only [Act.put,zA,zZ,zS]))
  | (refine text_call (v:=?_) (f:=?_) (args:=?_) hT9.out (by rfl) ?_ ?_ ?_; rotate_left 3; (focus (intro w5 hS; obtain ⟨q6,q8,q5,q9⟩:=HCU.out _ hS; have r1:=hS.rule 1 rfl; have r9:=hS.rule 9 rfl; unfold thk at r9; go_simp; constructor<;>with_reducible rfl)); (focus (intro w5 hS; (first | (with_reducible refine (HEP.out _ hS).mono ?_; rintro o w6 ⟨rfl,rfl⟩; constructor; with_reducible rfl; exact hS) | (with_reducible refine (HRO.out _ hS).mono ?_; rintro o w6 ⟨rfl,rfl⟩; constructor; with_reducible rfl; exact hS)))); (try simp only [Act.put,zA,zZ,zS])))
 refine InText.nil fun w5 hS5=>?_
 clear hT9
 clear hE HEP HRO HCU
 go_wp2_with fail
 generalize (K.T.hs != 0)=bh at *
 have hE5:=hS5
 clear hS5
 go_loopw [6] (fun kv v=>∃ z:Nat,z<=K.T.ql.length/\kv=.int .i64 z/\Env w0 (boxI bL (flat3 K.T.ql)::boxI Z [.int .i64 K.T.hs,.int .i64 0]::LT (SPK C X V K f G qc n) (LU (SRK C X V K FU ml) (boxI X.thr (thk X.c X.u X.dA X.dn X.dc nd bz po pq pg ph st)::R))) v) (fun kv _=>K.T.ql.length - (intOf kv).toNat)
 case atStart=>exact ⟨0,Nat.zero_le _,rfl,hE5⟩
 case round =>
  clear hE5
  obtain ⟨z,hz,rfl,hE5⟩:=hrel
  by_cases hzl:z < K.T.ql.length
  ·have hb3:decide ((z:Int) < K.T.ql.length)=true:=by simp; omega
   have hz1:(z:Int) < (K.T.ql.length:Int):=by omega
   rcases hE5.cells3 7 rfl rfl with h0 | ⟨g,off2,hA,-,-⟩
   ·have h0':K.T.ql=[]:=h0
    rw [h0'] at hzl
    simp at hzl
   have hA9:X.A=some ⟨g,off2,none⟩:=hA
   obtain ⟨⟨ex,ey,ez⟩,he⟩:∃ t,K.T.ql.getD z t0=t:=⟨_,rfl⟩
   have HC2:Hid (∀ y,Env w0 (boxI bL (flat3 K.T.ql)::boxI Z [.int .i64 K.T.hs,.int .i64 0]::LT (SPK C X V K f G qc n) (LU (SRK C X V K FU ml) (boxI X.thr (thk X.c X.u X.dA X.dn X.dc nd bz po pq pg ph st)::R))) y->y.cell? ⟨X.u,6,none⟩=some (.slice (some ⟨g,off2,none⟩) K.T.ql.length X.rc)/\y.cell? ⟨g,off2+z * 3,none⟩=some (.int .i64 ex)/\y.cell? ⟨g,off2+z * 3+1,none⟩=some (.int .i64 ey)/\y.cell? ⟨bL,z * 3,none⟩=some (.int .i64 ex)/\y.cell? ⟨bL,z * 3+1,none⟩=some (.int .i64 ey)):=Lib.hid fun y hy=>by
    refine ⟨by rw [<- hA9]; exact hy.rule 6 rfl 6,?_,?_,?_,?_⟩
    ·rcases hy.cells3 7 rfl rfl with h0 | ⟨g',off',hA',-,hc⟩
     ·have h0':K.T.ql=[]:=h0
      rw [h0'] at hzl
      simp at hzl
     ·rw [hA] at hA'
      cases hA'
      have h9:CellsAt y g (off2+z * 3) (enc3 (ex,ey,ez)):=by
       have:=hc z hzl
       rw [show (SRK C X V K FU ml).ql.getD z default=(ex,ey,ez) from he] at this
       exact this
      exact (at3 h9).1
    ·rcases hy.cells3 7 rfl rfl with h0 | ⟨g',off',hA',-,hc⟩
     ·have h0':K.T.ql=[]:=h0
      rw [h0'] at hzl
      simp at hzl
     ·rw [hA] at hA'
      cases hA'
      have h9:CellsAt y g (off2+z * 3) (enc3 (ex,ey,ez)):=by
       have:=hc z hzl
       rw [show (SRK C X V K FU ml).ql.getD z default=(ex,ey,ez) from he] at this
       exact this
      exact (at3 h9).2.1
    ·have:=(hy.rule 0 rfl (z * 3+0)).trans (flat3_get K.T.ql z 0 hzl (by omega))
     rw [he] at this
     simpa [enc3] using this
    ·have:=(hy.rule 0 rfl (z * 3+1)).trans (flat3_get K.T.ql z 1 hzl (by omega))
     rw [he] at this
     simpa [enc3] using this
   clear hA hA9 he
   go_wp2_with fail
   refine wp_text (S:=(Env w0 (boxI bL (flat3 K.T.ql)::boxI Z [.int .i64 K.T.hs,.int .i64 0]::LT (SPK C X V K f G qc n) (LU (SRK C X V K FU ml) (boxI X.thr (thk X.c X.u X.dA X.dn X.dc nd bz po pq pg ph st)::R))))) (by kernel_rfl) (by kernel_rfl) hE5.drew (fun hT=>?_)
   have hT9:=Lib.hid hT
   clear hT
   repeat (first
    | (refine text_value (v:=?_) hT9.out (by rfl) ?_ ?_; rotate_left; (focus (intro w5 hS; obtain ⟨q6,q7,q8,q9,q10⟩:=HC2.out _ hS; have r9:=hS.rule 9 rfl; unfold thk at r9; go_simp<;>with_reducible rfl)); (try simp only [Act.put,zA,zZ,zS]))
    | (refine text_off hT9.out (by rfl) ?_; (try simp only [Act.put,zA,zZ,zS]))
    | (refine text_call (v:=?_) (f:=?_) (args:=?_) hT9.out (by rfl) ?_ ?_ ?_; rotate_left 3; (focus (intro w5 hS; obtain ⟨q6,q7,q8,q9,q10⟩:=HC2.out _ hS; have r9:=hS.rule 9 rfl; unfold thk at r9; go_simp; constructor<;>with_reducible rfl)); (focus (intro w5 hS; (first | fail))); (try simp only [Act.put,zA,zZ,zS])))
   refine InText.nil fun w5 hS5=>?_
   clear hT9
   clear hE5 HC2
   go_wp2_with fail
   exact ⟨⟨z+1,by omega,by simp,hS5⟩,by simp [intOf]; omega⟩
  ·have hb3:decide ((z:Int) < K.T.ql.length)=false:=by simp; omega
   go_wp2_with fail
   go_ret
   exact ⟨rfl,hE5.sub (.cons _ (.cons _ (List.Sublist.refl _)))⟩
end
def tps (cs:List Nat):List Value:=cs.map fun c=>.pointer (some ⟨c,0,none⟩)
theorem tps_append (a b:List Nat):tps (a++b)=tps a++tps b:=by simp [tps]
def tpsI (v:Value) (cs:List Nat):Item:=rowI v 31 1 cs.length (tps cs)
theorem infoTp:(Tryz.prog.info? 31).map (fun i=>(i.zero,i.size,i.bytes))=some (some (.pointer none),1,8):=by kernel_rfl
section
variable {w0 w w':World} {L:List Item}
theorem Env.tpRow (h:Env w0 L w) (i:Nat) {v:Value} {cs:List Nat} (hi:L[i]?=some (tpsI v cs)):w.ownsRow 0 31 1 v cs.length (tps cs):=h.get i hi
theorem Env.tpAt (h:Env w0 L w) (i:Nat) {g n cap:Nat} {cs:List Nat} (hi:L[i]?=some (tpsI (.slice (some ⟨g,0,none⟩) n cap) cs)) (j:Nat) (hj:j < cs.length):w.cell? ⟨g,j,none⟩=some (.pointer (some ⟨cs.getD j 0,0,none⟩)):=by
 have ho:=h.tpRow i hi
 rcases ho.2 with ⟨_,h0⟩ | ⟨g',cap',cur,hv,_,hg,hn,hc,hcs,htk⟩
 ·omega
 ·simp only [Value.slice.injEq,Option.some.injEq,Addr.mk.injEq] at hv
  obtain ⟨⟨rfl,-⟩,-,rfl⟩:=hv
  have h1:(tps cs)[j]?=some (.pointer (some ⟨cs.getD j 0,0,none⟩)):=by simp [tps,hj]
  rw [<- h1,<- htk,List.getElem?_take_of_lt (by omega)]
  simp [World.cell?,hg]
theorem Env.tpEmpty (h:Env w0 L w) (n:Nat) (hn:w.heap.size=n):Env w0 (tpsI (.slice (some ⟨n,0,none⟩) 0 0) []::L) (w.alloc (.cells #[] 31)):=by
 subst hn
 have ho:(w.alloc (.cells #[] 31)).ownsRow w.heap.size 31 1 (.slice (some ⟨w.heap.size,0,none⟩) 0 0) 0 []:=⟨rfl,.inr ⟨w.heap.size,0,#[],rfl,Nat.le_refl _,heap_alloc_new w _,Nat.le_refl _,Nat.zero_le _,rfl,rfl⟩⟩
 exact h.add (tpsI (.slice (some ⟨w.heap.size,0,none⟩) 0 0) []) ((Below.refl _ _).alloc (Nat.le_refl _) _) (ownsRow_base ho (Nat.zero_le _)) fun k hk=>ho.lt k hk
end
structure Pk where
 (X:Tm)
 (K:Kt)
 (po pq pg ph:Value)
 (st:Int)
 (ms:List Item)
def Pk.box (p:Pk):Item:=boxI p.X.thr (thk p.X.c p.X.u p.X.dA p.X.dn p.X.dc p.K.T.nd (decide (p.K.pc≠0)) p.po p.pq p.pg p.ph p.st)
def Pk.its (C:Cf) (p:Pk):List Item :=
 coreI p.X.c C.k C.s C.b C.h C.l p.K.T.e p.K.r p.K.T.hs 0 p.X.q::queueI p.X.q p.X.F p.K.T.ql p.X.kq::boxI p.X.u (urv C.k C.s C.b C.h C.l p.K.T.e p.X.A p.K.T.ql.length p.X.rc p.X.N p.K.T.hs p.K.r)::rrI p.X.A p.X.rc p.K.T.ql::p.box::p.ms
def T0:Th:=⟨0,[],0,0,0,0,0,0,0,0,0,0,0,0,0,0,false⟩
def K0:Kt:=⟨T0,0,false,L0 (4,0,0),false,false,L0 (4,0,0),0,false,0⟩
def New0 (p:Pk) (r:Rw):Prop:=p.X.dA=r.A/\p.X.dn=r.ds.length/\p.K=K0/\p.ms=[]/\p.st=0/\0<=p.X.N/\p.X.N<=4000000/\p.X.dc=r.cap
structure GS where
 (ps:List Pk)
 (G FU:Nat->Prop)
 (qc:Cnt)
 (n:Nat)
 (ml:List OneR)
def EL (C:Cf) (sl:Value) (p cc m:Nat) (S:GS) (L:List Item):List Item :=
 tpsI sl (S.ps.map fun q=>q.X.thr)::wbox p cc::cellI cc S.G (getL S.ml) S.qc S.n::refI m S.FU S.ml::(S.ps.flatMap (Pk.its C)++L)
def vm (p cc m:Nat):Wm:=⟨p,cc,m,fun _=>False,fun _=>False,⟨0,0,0,0,0⟩,0,[]⟩
def RL (C:Cf) (sl:Value) (S:GS) (i:Nat) (L:List Item):List Item:=tpsI sl (S.ps.map fun q=>q.X.thr)::((S.ps.eraseIdx i).flatMap (Pk.its C)++L)
def TL (C:Cf) (p cc m:Nat) (S:GS) (q:Pk) (R:List Item):List Item :=
 LT (SPK C q.X (vm p cc m) q.K (getL S.ml) S.G S.qc S.n) (LU (SRK C q.X (vm p cc m) q.K S.FU S.ml) (q.box::(q.ms++R)))
theorem idx_perm {α:Type} {q:α}:∀ {l:List α} {i:Nat},l[i]?=some q->l.Perm (q::l.eraseIdx i)
 | [],_,h=>by simp at h
 | a::l,0,h=>by
  simp at h
  subst h
  exact List.Perm.refl _
 | a::l,i+1,h=>by
  have h':l[i]?=some q:=by simpa using h
  exact ((idx_perm h').cons a).trans (List.Perm.swap _ _ _)
theorem EL_perm {C:Cf} {sl:Value} {p cc m:Nat} {S:GS} {L:List Item} {i:Nat} {q:Pk} (hi:S.ps[i]?=some q):(EL C sl p cc m S L).Perm (TL C p cc m S q (RL C sl S i L)):=by
 have h:=(idx_perm hi).flatMap_right (Pk.its C)
 refine perm_of fun z=>?_
 have hc:=h.count_eq z
 simp only [EL,TL,RL,LT,LU,SPK,SRK,SP,SR,vm,Pk.its,List.flatMap_cons,List.count_cons,List.count_append] at hc ⊢
 omega
structure OkP (C:Cf) (B:Nat) (q:Pk) (r:Rw):Prop where
 (t:KOk C r.ds B (lastD r.ds q.K) q.K)
 (m:MchK C (lastD r.ds q.K) q.X.c q.K q.po q.pq q.pg q.ph q.st q.ms)
 (dA:q.X.dA=r.A)
 (dn:q.X.dn=r.ds.length)
 (N:0<=q.X.N/\q.X.N<=4000000)
structure OkD (w0:World) (L:List Item) (C:Cf) (r:Rw):Prop where
 (row:OsAt w0 L r.A r.ds)
 (len:r.ds.length<=1000)
 (ins:∀ i,i < r.ds.length->InU (r.ds.getD i default).key/\InU (r.ds.getD i default).val)
 (op:∀ i,i < r.ds.length->(r.ds.getD i default).ok=8\/opI 1 C.s C.b C.h C.l (r.ds.getD i default).ok (r.ds.getD i default).key (r.ds.getD i default).val (r.ds.getD i default).lv=0)
structure GOk (C:Cf) (rs:List Rw) (B:Nat) (S:GS):Prop where
 (f:OkF C (getL S.ml))
 (k:LnkF C (getL S.ml))
 (n:S.n<=B)
 (ml:S.ml.length<=B)
 (len:S.ps.length=rs.length)
 (ps:∀ i,i < rs.length->∃ q,S.ps[i]?=some q/\OkP C B q (rs.getD i default))
theorem OkP.more {C:Cf} {B:Nat} {q:Pk} {r:Rw} (h:OkP C B q r):OkP C (B+1) q r:={ h with t:=h.t.more }
theorem OsAt.sub {w0:World} {L R:List Item} {A:Option Addr} {ds:List Dd} (hd:OsAt w0 L A ds) (hR:∀ a∈L,a∈R):OsAt w0 R A ds:=by
 rcases hd with h | ⟨g,off,hA,hc⟩
 ·exact .inl h
 ·exact .inr ⟨g,off,hA,fun i hi v hv=>hc i hi v (hv.sub hR)⟩
theorem OsAt.of_row {w0:World} {R:List Item} {A:Option Addr} {ds:List Dd} (hd:RowX encOp 4 w0 A ds):OsAt w0 R A ds:=by
 rcases hd with h | ⟨b,off,hA,hl,hc⟩
 ·exact .inl h
 ·exact .inr ⟨b,off,hA,fun i hi v hv=>(hc i hi).below hv.1 hl⟩
section
variable {w0 w:World} {C:Cf} {sl:Value} {p cc m:Nat} {S:GS} {L:List Item} {rs:List Rw} {B:Nat}
theorem Env.toT {i:Nat} {q:Pk} (h:Env w0 (EL C sl p cc m S L) w) (hi:S.ps[i]?=some q):Env w0 (TL C p cc m S q (RL C sl S i L)) w:=h.perm (EL_perm hi)
theorem Env.toE {i:Nat} {q:Pk} (h:Env w0 (TL C p cc m S q (RL C sl S i L)) w) (hi:S.ps[i]?=some q):Env w0 (EL C sl p cc m S L) w:=h.perm (EL_perm hi).symm
structure Stp (C:Cf) (ds:List Dd) (S S':GS) (i:Nat) (q q':Pk):Prop where
 (ps:S'.ps=S.ps.set i q')
 (thr:q'.X.thr=q.X.thr)
 (dc:q'.X.dc=q.X.dc)
 (c:q'.X.c=q.X.c)
 (K:q'.K=(stepK C ds q.K (getL S.ml)).2.1)
 (st:q'.st=(stepK C ds q.K (getL S.ml)).1)
 (ml:getL S'.ml=(stepK C ds q.K (getL S.ml)).2.2)
 (qc:(idleK ds q.K=false->One S.qc S'.qc)/\(idleK ds q.K=true->S'.qc=S.qc))
theorem EL_cons {a:Item}:(a::EL C sl p cc m S L).Perm (EL C sl p cc m S (a::L)):=by
 refine perm_of fun z=>?_
 simp only [EL,List.count_cons,List.count_append]
 omega
theorem Env.inE {a:Item} (h:Env w0 (a::EL C sl p cc m S L) w):Env w0 (EL C sl p cc m S (a::L)) w:=h.perm EL_cons
theorem Env.outE {a:Item} (h:Env w0 (EL C sl p cc m S (a::L)) w):Env w0 (a::EL C sl p cc m S L) w:=h.perm EL_cons.symm
theorem Env.dropE {a:Item} (h:Env w0 (EL C sl p cc m S (a::L)) w):Env w0 (EL C sl p cc m S L) w:=h.outE.sub (.cons _ (List.Sublist.refl _))
theorem Env.thrE {i:Nat} {q:Pk} (h:Env w0 (EL C sl p cc m S L) w) (hq:S.ps[i]?=some q):∀ j,w.cell? ⟨q.X.thr,j,none⟩=(thk q.X.c q.X.u q.X.dA q.X.dn q.X.dc q.K.T.nd (decide (q.K.pc≠0)) q.po q.pq q.pg q.ph q.st)[j]?:=(h.toT hq).rule 7 rfl
theorem mem_getD {α:Type} [Inhabited α] {l:List α} {i:Nat} (h:i < l.length):l.getD i default∈l:=by
 rw [List.getD_eq_getElem?_getD,List.getElem?_eq_getElem h]
 exact List.getElem_mem h
theorem chk_ls {s l:Int} (h1:1<=s/\s<=8388607) (h2:2<=l/\l<=1099511627775):chkI 1 s 0 1 l=0:=by
 unfold chkI
 rw [if_pos ((kindB_iff 1).2 (by omega)),if_pos ((cfg_iff 1 s 0 1 l).2 ⟨h1,h2,.inr ⟨by decide,rfl⟩,.inr ⟨by decide,rfl⟩⟩)]
def QB (B:Nat) (q:Cnt):Prop:=(0<=q.l/\q.l<=B)/\(0<=q.s/\q.s<=B)/\(0<=q.w/\q.w<=B)/\(0<=q.a/\q.a<=B)
theorem QB.one {q q':Cnt} {B:Nat} (h:QB B q) (ho:One q q') (hB:B<=1000000):QB (B+1) q'/\q'.l+q'.s+q'.w+q'.a=q.l+q.s+q.w+q.a+1:=by
 obtain ⟨⟨a1,a2⟩,⟨b1,b2⟩,⟨c1,c2⟩,d1,d2⟩:=h
 have hw:∀ x:Int,0<=x->x<=1000000->wrap64 (x+1)=x+1:=fun x h1 h2=>w64 _ (by omega)
 unfold QB
 rcases ho with ⟨h1,h2,h3,h4⟩ | ⟨h1,h2,h3,h4⟩ | ⟨h1,h2,h3,h4⟩ | ⟨h1,h2,h3,h4⟩
 ·rw [hw _ a1 (by omega)] at h1; omega
 ·rw [hw _ b1 (by omega)] at h2; omega
 ·rw [hw _ c1 (by omega)] at h3; omega
 ·rw [hw _ d1 (by omega)] at h4; omega
theorem step_pk (hg:Glo w0) (hC:COk C) (hk1:C.k=1) {i:Nat} (hr:OkD w0 L C (rs.getD i default)) (hS:GOk C rs B S) (hB:B+1<=900000) (hi:i < rs.length) {q:Pk} (hq:S.ps[i]?=some q) (hE:Env w0 (EL C sl p cc m S L) w) :
  Calls Tryz.prog 15 #[.pointer (some ⟨q.X.thr,0,none⟩),.pointer (some ⟨p,0,none⟩),.pointer (some ⟨m,0,none⟩)] w fun o w'=>o=.returned (.bool true)/\∃ (S':GS) (q':Pk),Stp C (rs.getD i default).ds S S' i q q'/\GOk C rs (B+1) S'/\Env w0 (EL C sl p cc m S' L) w':=by
 obtain ⟨q0,hq0,hP⟩:=hS.ps i hi
 obtain rfl:q0=q:=by rw [hq] at hq0; exact (Option.some.inj hq0).symm
 have hE1:=hE.toT hq
 refine (step_K (X:=q0.X) (V:=vm p cc m) (K:=q0.K) (G:=S.G) (FU:=S.FU) (qc:=S.qc) (n:=S.n) (ml:=S.ml) (R:=RL C sl S i L) (ds:=(rs.getD i default).ds) (B:=B) (ms:=q0.ms) hg hC hS.f hS.k hP.t (by omega) (by rw [hP.dA]; exact hr.row.sub (fun a ha=>by simp [RL,ha])) hP.dn hr.len hr.ins hk1 hr.op (by have:=hS.n; unfold maxLen; omega) (by have:=hS.ml; omega) hP.N hP.m hE1).mono ?_
 rintro o w' ⟨ho,X',G',FU',qc',n',ml',ms',po',pq',pg',ph',hsame,hml',hl',⟨hn',hqc'⟩,hN0,hN1,hM',hE'⟩
 obtain ⟨hx1,hx2,hx3,hx4,hx5,hx6,hx7⟩:=hsame
 obtain ⟨K',hK'⟩:∃ K',K'=(stepK C (rs.getD i default).ds q0.K (getL S.ml)).2.1:=⟨_,rfl⟩
 obtain ⟨st',hst'⟩:∃ s,s=(stepK C (rs.getD i default).ds q0.K (getL S.ml)).1:=⟨_,rfl⟩
 rw [<- hK',<- hst'] at hM' hE'
 obtain ⟨q',hqq⟩:∃ q',q'=(⟨X',K',po',pq',pg',ph',st',ms'⟩:Pk):=⟨_,rfl⟩
 have hil:i < S.ps.length:=by rw [hS.len]; exact hi
 have hq':(S.ps.set i q')[i]?=some q':=by simp [hil]
 have hmap:(S.ps.set i q').map (fun q=>q.X.thr)=S.ps.map fun q=>q.X.thr:=by
  apply List.ext_getElem?
  intro k
  simp only [List.getElem?_map]
  by_cases hk:k=i
  ·subst hk
   rw [hq',hq]
   simp only [Option.map_some]
   rw [hqq]
   show some X'.thr=_
   rw [hx1]
  ·rw [List.getElem?_set_ne (fun e=>hk e.symm)]
 have hE2:Env w0 (EL C sl p cc m ⟨S.ps.set i q',G',FU',qc',n',ml'⟩ L) w':=by
  refine Env.toE (i:=i) (q:=q') ?_ hq'
  show Env w0 (LT _ (LU _ (_::(q'.ms++(tpsI sl ((S.ps.set i q').map fun q=>q.X.thr)::(((S.ps.set i q').eraseIdx i).flatMap (Pk.its C)++L)))))) w'
  rw [hmap,List.eraseIdx_set_eq]
  unfold Pk.box
  rw [hqq]
  dsimp only
  rw [hx1,hx2,hx4,hx5,hx6,hx7]
  exact hE'
 have hu:∀ x,InU ((stepK C (rs.getD i default).ds q0.K (getL S.ml)).2.2 x):=fun x=>by
  rw [<- hml']
  exact (hE'.cell 3 rfl).words.1 x
 have hok:=step_keep hC hS.f hS.k hP.t hu
 refine ⟨ho,⟨S.ps.set i q',G',FU',qc',n',ml'⟩,q',⟨rfl,by rw [hqq]; exact hx1,by rw [hqq]; exact hx7,by rw [hqq]; exact hx2,by rw [hqq]; exact hK',by rw [hqq]; exact hst',hml',hqc'⟩,⟨?_,?_,?_,?_,?_,?_⟩,hE2⟩
 ·show OkF C (getL ml')
  rw [hml']
  exact hok.1
 ·show LnkF C (getL ml')
  rw [hml']
  exact hok.2.1
 ·have:=hS.n
  show n'<=B+1
  omega
 ·have:=hS.ml
  show ml'.length<=B+1
  omega
 ·show (S.ps.set i q').length=rs.length
  rw [List.length_set]
  exact hS.len
 ·intro k hk
  by_cases he:k=i
  ·subst he
   refine ⟨_,hq',?_⟩
   rw [hqq]
   have h3:=hok.2.2
   rw [<- hK'] at h3
   exact ⟨h3,by show MchK C _ X'.c K' _ _ _ _ _ ms'; rw [hx2]; exact hM',by show X'.dA=_; rw [hx5]; exact hP.dA,by show X'.dn=_; rw [hx6]; exact hP.dn,⟨hN0,hN1⟩⟩
  ·obtain ⟨q9,h1,h2⟩:=hS.ps k hk
   exact ⟨q9,by show (S.ps.set i _)[k]?=_; rw [List.getElem?_set_ne (fun e=>he e.symm)]; exact h1,h2.more⟩
theorem same_pk (hS:GOk C rs B S) (hB:B<=900000) {i:Nat} (hi:i < rs.length) {q:Pk} (hq:S.ps[i]?=some q) (hE:Env w0 (EL C sl p cc m S L) w) :
  Calls Tryz.prog 16 #[.pointer (some ⟨q.X.thr,0,none⟩)] w fun o w'=>o=.returned (.bool true)/\Env w0 (EL C sl p cc m S L) w':=by
 obtain ⟨q0,hq0,hP⟩:=hS.ps i hi
 obtain rfl:q0=q:=by rw [hq] at hq0; exact (Option.some.inj hq0).symm
 refine (same_k (X:=q0.X) (V:=vm p cc m) (K:=q0.K) (f:=getL S.ml) (G:=S.G) (FU:=S.FU) (qc:=S.qc) (n:=S.n) (ml:=S.ml) (R:=q0.ms++RL C sl S i L) (by have:=hP.t.t.len; omega) (hE.toT hq)).mono ?_
 rintro o w' ⟨ho,hE'⟩
 exact ⟨ho,Env.toE hE' hq⟩
theorem T0_ok (hC:COk C) {ds:List Dd} (hd:ds.length<=B):OkT C ds B T0:=by
 have hs:=hC.s
 have hl:=hC.l
 have hz:slotI 0=0:=by decide
 have hu0:InU 0:=by unfold InU; omega
 exact { e:=(by show (0:Int)<=0/\(0:Int)<=C.l; omega),w:=⟨hu0,hu0,hu0⟩,hs:=(by show (0:Int)<=0/\(0:Int)<=C.s; omega),rs:=(by show (0:Int)<=0/\(0:Int)<=C.s; omega),ql:=(by intro x hx; cases hx),nd:=Nat.zero_le _,len:=(by show 0+(ds.length - 0)<=B; omega),done:=(by show (0:Int)<=0/\(0:Int)<=B; omega),pc:=.inl rfl,p1:=fun h=>no h rfl,nd1:=fun h=>absurd rfl h,apc:=fun h=>no h rfl,low:=fun h=>no h rfl,adv:=fun h=>no h rfl,born:=fun h=>no h rfl,pool:=fun h=>no h rfl,an:=(by show slotI 0<=C.s; omega),rpc:=fun h=>no h rfl,rsp:=fun h=>no h rfl,re:=(by show (0:Int)<=0/\(0:Int)<=C.l; omega),gpc:=Nat.zero_le 3,give:=fun h=>no h rfl,ghu:=hu0,gh:=(by show slotI 0<=C.s; omega),gv:=fun h=>no h rfl }
theorem K0_ok (hC:COk C) {ds:List Dd} {d:Dd} (hd:ds.length<=B):KOk C ds B d K0 :=
 { t:=T0_ok hC hd,tp:=rfl,pc:=Nat.zero_le 8,da:=fun h=>absurd h (by decide),s1:=fun h=>no h rfl,s2:=fun h=>no h rfl,sp:=fun h=>absurd h (by decide),un:=fun h=>absurd h (by decide),ins:=fun h=>by rcases h with h | h<;>exact no h rfl,lk:=fun h=>no h rfl,ho:=fun h=>absurd rfl h,kk:=fun h=>no h rfl,nd:=fun h=>absurd rfl h }
def ml0:List OneR:=setL [] (1,0,0) 1
theorem ml0_at (x:Plc):getL ml0 x=if x=(1,0,0) then 1 else 0:=by
 show getL [((1,0,0),1)] x=_
 simp only [getL]
 by_cases hx:x=(1,0,0)
 ·rw [if_pos hx.symm,if_pos hx]
 ·rw [if_neg (fun e=>hx e.symm),if_neg hx]
theorem ml0_ok (hC:COk C):OkF C (getL ml0)/\LnkF C (getL ml0):=by
 have hs:=hC.s
 have hl:=hC.l
 have hz:slotI 0=0:=by decide
 refine ⟨⟨fun x=>?_,?_,fun i=>?_,?_⟩,⟨?_,fun i=>?_⟩⟩
 ·rw [ml0_at]
  split<;>(unfold InU; omega)
 ·rw [ml0_at,if_neg (by decide)]; omega
 ·rw [ml0_at,if_neg (by simp)]; omega
 ·rw [ml0_at,if_pos rfl]; omega
 ·rw [ml0_at,if_neg (by decide)]; omega
 ·rw [ml0_at,if_neg (by simp)]; omega
theorem start_ok (hC:COk C) (hR:∀ i,i < rs.length->(rs.getD i default).ds.length<=30) (hlen:S.ps.length=rs.length) (hps:∀ i,i < rs.length->∃ q,S.ps[i]?=some q/\New0 q (rs.getD i default)) (hml:S.ml=ml0) (hn:S.n<=1):GOk C rs 40 S:=by
 refine ⟨by rw [hml]; exact (ml0_ok hC).1,by rw [hml]; exact (ml0_ok hC).2,by omega,by rw [hml]; decide,hlen,fun i hi=>?_⟩
 obtain ⟨q,h1,h2,h3,h4,h5,h6,h7,h8,-⟩:=hps i hi
 refine ⟨q,h1,?_,?_,h2,h3,⟨h7,h8⟩⟩
 ·rw [h4]
  exact K0_ok hC (by have:=hR i hi; omega)
 ·rw [h4,h5,h6]
  exact .inl ⟨rfl,fun _=>rfl,fun h=>absurd rfl h⟩
end
theorem list_k (s l:Int) (w:World):Calls Tryz.prog 21 #[.int .i64 s,.int .i64 l] w fun e w'=>e=.returned (.agg #[.int .i64 1,.int .i64 s,.int .i64 0,.int .i64 1,.int .i64 l])/\Below w.heap.size w w':=by
 go_enter Tryz.func21,Tryz.ntmps21
 go_wp2
 exact bodyPost_ret (v:=.agg #[.int .i64 1,.int .i64 s,.int .i64 0,.int .i64 1,.int .i64 l]) (by simp [results,Tryz.results21,go_sem]) rfl ⟨rfl,(Below.refl _ _).alloc (Nat.le_refl _) _⟩
theorem Env.appendB {w0 w:World} {L:List Item} (h:Env w0 L w) (i k:Nat) {v:Value} {cs:List Nat} {n c:Nat} (hi:L[i]?=some (tpsI v cs)) (hk:L[k]?=some (boxI n [.pointer (some ⟨c,0,none⟩)])) (hz:cs.length<=1000000) :
  ∃ g cap w',(Builtin.append_ #[28,28] 28 #[v,.slice (some ⟨n,0,none⟩) 1 1]).run Tryz.prog w=.ok (.slice (some ⟨g,0,none⟩) (cs.length+1) cap) w' /\
   Env w0 (L.set i (tpsI (.slice (some ⟨g,0,none⟩) (cs.length+1) cap) (cs++[c]))) w':=by
 obtain ⟨i0,hi0,hz0,hz1,hz2⟩:=info_parts infoTp
 have hown:=h.tpRow i hi
 have hr:=h.rule k hk
 have hn9:∀ j u,[Value.pointer (some ⟨c,0,none⟩)][j]?=some u->w.cell? ((⟨n,0,none⟩:Addr).add j)=some u:=fun j u hj=>by
  have e:(⟨n,0,none⟩:Addr).add j=⟨n,j,none⟩:=by unfold Addr.add; split<;>simp_all
  rw [e,hr j]
  exact hj
 obtain ⟨g,cap,w',hrun,ho,hgr,hg,hgl⟩:=run_append_lies (P:=Tryz.prog) w 28 28 0 31 i0 (.pointer none) 1 8 Tryz.underlying28 hi0 hz0 hz1 hz2 rfl (by decide) v cs.length (tps cs) hown
  ⟨n,0,none⟩ 1 1 [.pointer (some ⟨c,0,none⟩)] rfl hn9 (by simp [Value.oneCell']) (by omega) (by simp [maxLen]; omega) (by omega) (by simp) _ rfl
 have hst:Step (fun k=>v.ownBlock=some k) (fun k=>k=g) w w':=⟨(Turn.refl _ w).grown hgr fun k _ e=>e,fun k hk=>by
  subst hk
  rcases hg with e | e
  ·exact .inl e
  ·right; rw [e]; simp⟩
 refine ⟨g,cap,w',hrun,?_⟩
 refine h.step i (tpsI (.slice (some ⟨g,0,none⟩) (cs.length+1) cap) (cs++[c])) hi ⟨hst.turn,fun k hk=>hst.from' k (by cases hk; rfl)⟩ ?_ fun k hk=>by cases hk; exact hgl
 have e1:(cs++[c]).length=cs.length+1:=by simp
 show w'.ownsRow 0 31 1 _ (cs++[c]).length (tps (cs++[c]))
 rw [e1,tps_append]
 exact ho
def ruN (k s b h l:Int):List Value:=[.int .i64 k,.int .i64 s,.int .i64 b,.int .i64 h,.int .i64 l,.int .i64 0,.slice none 0 0,.int .i64 0,.int .i64 0,.int .i64 0]
def ThA (w0:World) (s l:Int) (r:Rw) (v:Value) (cs:List Nat) (M:List Item) (κs:List Value) (fo:Option Value) (w:World):Prop :=
 (κs=[]/\((fo=none/\Env w0 (tpsI v cs::M) w)\/∃ n,fo=some (.pointer (some ⟨n,0,none⟩))/\Env w0 (boxI n (ruN 1 s 0 1 l)::tpsI v cs::M) w)) \/
 (∃ c q F,κs=[.pointer (some ⟨c,0,none⟩)]/\((fo=none/\Env w0 (coreI c 1 s 0 1 l 0 0 0 0 q::queueI q F [] 2::tpsI v cs::M) w)\/∃ n,fo=some (.pointer (some ⟨n,0,none⟩))/\Env w0 (boxI n (ruN 1 s 0 1 l)::coreI c 1 s 0 1 l 0 0 0 0 q::queueI q F [] 2::tpsI v cs::M) w)) \/
 (∃ c q F n,κs=[.pointer (some ⟨c,0,none⟩),Value.agg #[.pointer (some ⟨c,0,none⟩),.pointer (some ⟨n,0,none⟩),.slice r.A r.ds.length r.cap,.int .i64 0,.bool false,.pointer none,.pointer none,.pointer none,.pointer none,.int .i64 0]]/\fo=some (.pointer (some ⟨n,0,none⟩))/\Env w0 (boxI n (ruN 1 s 0 1 l)::coreI c 1 s 0 1 l 0 0 0 0 q::queueI q F [] 2::tpsI v cs::M) w) \/
 (∃ c q F n t,κs=[.pointer (some ⟨c,0,none⟩),Value.agg #[.pointer (some ⟨c,0,none⟩),.pointer (some ⟨n,0,none⟩),.slice r.A r.ds.length r.cap,.int .i64 0,.bool false,.pointer none,.pointer none,.pointer none,.pointer none,.int .i64 0],.pointer (some ⟨t,0,none⟩)]/\fo=some (.pointer (some ⟨n,0,none⟩))/\Env w0 (boxI t [.pointer (some ⟨c,0,none⟩),.pointer (some ⟨n,0,none⟩),.slice r.A r.ds.length r.cap,.int .i64 0,.bool false,.pointer none,.pointer none,.pointer none,.pointer none,.int .i64 0]::boxI n (ruN 1 s 0 1 l)::coreI c 1 s 0 1 l 0 0 0 0 q::queueI q F [] 2::tpsI v cs::M) w) \/
 (∃ c q F n t z,κs=[.pointer (some ⟨c,0,none⟩),Value.agg #[.pointer (some ⟨c,0,none⟩),.pointer (some ⟨n,0,none⟩),.slice r.A r.ds.length r.cap,.int .i64 0,.bool false,.pointer none,.pointer none,.pointer none,.pointer none,.int .i64 0],.pointer (some ⟨t,0,none⟩),.slice (some ⟨z,0,none⟩) 1 1]/\fo=some (.pointer (some ⟨n,0,none⟩))/\Env w0 (boxI z [.pointer (some ⟨t,0,none⟩)]::boxI t [.pointer (some ⟨c,0,none⟩),.pointer (some ⟨n,0,none⟩),.slice r.A r.ds.length r.cap,.int .i64 0,.bool false,.pointer none,.pointer none,.pointer none,.pointer none,.int .i64 0]::boxI n (ruN 1 s 0 1 l)::coreI c 1 s 0 1 l 0 0 0 0 q::queueI q F [] 2::tpsI v cs::M) w) \/
 (∃ c q F n t z g cp,κs=[.pointer (some ⟨c,0,none⟩),Value.agg #[.pointer (some ⟨c,0,none⟩),.pointer (some ⟨n,0,none⟩),.slice r.A r.ds.length r.cap,.int .i64 0,.bool false,.pointer none,.pointer none,.pointer none,.pointer none,.int .i64 0],.pointer (some ⟨t,0,none⟩),.slice (some ⟨z,0,none⟩) 1 1,.slice (some ⟨g,0,none⟩) (cs.length+1) cp]/\fo=some (.pointer (some ⟨n,0,none⟩))/\Env w0 (boxI z [.pointer (some ⟨t,0,none⟩)]::boxI t [.pointer (some ⟨c,0,none⟩),.pointer (some ⟨n,0,none⟩),.slice r.A r.ds.length r.cap,.int .i64 0,.bool false,.pointer none,.pointer none,.pointer none,.pointer none,.int .i64 0]::boxI n (ruN 1 s 0 1 l)::coreI c 1 s 0 1 l 0 0 0 0 q::queueI q F [] 2::tpsI (.slice (some ⟨g,0,none⟩) (cs.length+1) cp) (cs++[t])::M) w) \/
 (∃ c q F n t z g cp,κs=[.pointer (some ⟨c,0,none⟩),Value.agg #[.pointer (some ⟨c,0,none⟩),.pointer (some ⟨n,0,none⟩),.slice r.A r.ds.length r.cap,.int .i64 0,.bool false,.pointer none,.pointer none,.pointer none,.pointer none,.int .i64 0],.pointer (some ⟨t,0,none⟩),.slice (some ⟨z,0,none⟩) 1 1,.slice (some ⟨g,0,none⟩) (cs.length+1) cp,.slice (some ⟨g,0,none⟩) (cs.length+1) cp]/\fo=some (.pointer (some ⟨n,0,none⟩))/\Env w0 (boxI z [.pointer (some ⟨t,0,none⟩)]::boxI t [.pointer (some ⟨c,0,none⟩),.pointer (some ⟨n,0,none⟩),.slice r.A r.ds.length r.cap,.int .i64 0,.bool false,.pointer none,.pointer none,.pointer none,.pointer none,.int .i64 0]::boxI n (ruN 1 s 0 1 l)::coreI c 1 s 0 1 l 0 0 0 0 q::queueI q F [] 2::tpsI (.slice (some ⟨g,0,none⟩) (cs.length+1) cp) (cs++[t])::M) w)
theorem ThA.over {w0 w w':World} {s l:Int} {r:Rw} {v:Value} {cs:List Nat} {M:List Item} {κs:List Value} {fo:Option Value} (h:ThA w0 s l r v cs M κs fo w) (hb:Below w.heap.size w w'):ThA w0 s l r v cs M κs fo w':=by
 rcases h with ⟨h1,⟨h2,h3⟩ | ⟨n,h2,h3⟩⟩ | ⟨c,q,F,h1,⟨h2,h3⟩ | ⟨n,h2,h3⟩⟩ | ⟨c,q,F,n,h1,h2,h3⟩ | ⟨c,q,F,n,t,h1,h2,h3⟩ | ⟨c,q,F,n,t,z,h1,h2,h3⟩ | ⟨c,q,F,n,t,z,g,cp,h1,h2,h3⟩ | ⟨c,q,F,n,t,z,g,cp,h1,h2,h3⟩
 ·exact .inl ⟨h1,.inl ⟨h2,h3.over hb⟩⟩
 ·exact .inl ⟨h1,.inr ⟨n,h2,h3.over hb⟩⟩
 ·exact .inr (.inl ⟨c,q,F,h1,.inl ⟨h2,h3.over hb⟩⟩)
 ·exact .inr (.inl ⟨c,q,F,h1,.inr ⟨n,h2,h3.over hb⟩⟩)
 ·exact .inr (.inr (.inl ⟨c,q,F,n,h1,h2,h3.over hb⟩))
 ·exact .inr (.inr (.inr (.inl ⟨c,q,F,n,t,h1,h2,h3.over hb⟩)))
 ·exact .inr (.inr (.inr (.inr (.inl ⟨c,q,F,n,t,z,h1,h2,h3.over hb⟩))))
 ·exact .inr (.inr (.inr (.inr (.inr (.inl ⟨c,q,F,n,t,z,g,cp,h1,h2,h3.over hb⟩)))))
 ·exact .inr (.inr (.inr (.inr (.inr (.inr ⟨c,q,F,n,t,z,g,cp,h1,h2,h3.over hb⟩)))))
section
variable {w0 w:World} {L:List Item}
theorem begun_k (s l:Int) (A:Option Addr) (cap:Nat) (rs:List Rw) (hrs:rs.length<=4) (hrow:RowX encRw 1 w0 A rs) (hc:chkI 1 s 0 1 l=0) (hE:Env w0 L w) :
  Calls Tryz.prog 13 #[.int .i64 s,.int .i64 l,.slice A rs.length cap] w fun o w'=>∃ (p cc m g cp:Nat) (S:GS),o=.returned (.tuple #[.pointer (some ⟨p,0,none⟩),.pointer (some ⟨m,0,none⟩),.slice (some ⟨g,0,none⟩) rs.length cp])/\S.ps.length=rs.length/\(∀ i,i < rs.length->∃ q,S.ps[i]?=some q/\New0 q (rs.getD i default))/\S.ml=ml0/\S.n<=1/\QB 2 S.qc/\Env w0 (EL ⟨1,s,0,1,l⟩ (.slice (some ⟨g,0,none⟩) rs.length cp) p cc m S L) w':=by
 have HROW:=Lib.hid hrow
 have HC:=Lib.hid hc
 have HRS:=Lib.hid hrs
 have HLK:=Lib.hid fun v=>list_k s l v
 clear hrow hc
 go_enter Tryz.func13,Tryz.ntmps13
 go_wp2_with fail
 refine (new_w hE).mono ?_
 rintro o w3 ⟨p,cc,rfl,hE3,hb⟩
 clear hb hE
 go_wp2_with fail
 refine (start_w 0 1 (by decide) (by unfold maxLen; omega) hE3 rfl rfl).mono ?_
 rintro o w4 ⟨rfl,F4,hE4⟩
 simp only [zS,zZ] at hE4
 clear hE3
 generalize hq4:({ l:=_,s:=_,w:=_,f:=_,a:=_ }:Cnt)=q4 at hE4
 have hqb:QB 2 q4:=by
  rw [<- hq4]
  have h1:=w64 (0+1) (by omega)
  unfold QB
  dsimp only
  rw [h1]
  omega
 have HQB:=Lib.hid hqb
 clear hq4 hqb
 replace hE4:=hE4.newU w4.heap.size rfl 105
 go_wp2_with fail
 refine (epoch13_any _).mono ?_
 rintro o w5 ⟨rfl,hb⟩
 replace hE4:=hE4.over hb
 clear hb
 generalize w4.heap.size=m at *
 go_wp2_with fail
 refine (refSet_any 1 0 0 1 (by simp) (hE4.ref 0 rfl)).mono ?_
 rintro o w6 ⟨rfl,F6,hU,hs⟩
 replace hE4:=hE4.turnU 0 rfl hU hs
 simp only [zZ] at hE4
 clear hU hs
 have hE5:=hE4.tpEmpty w6.heap.size rfl
 clear hE4
 obtain ⟨g0,hg0⟩:∃ g0,w6.heap.size=g0:=⟨_,rfl⟩
 obtain ⟨M0,hM0⟩:∃ M0,M0=refI m F6 (setL [] (1,0,0) 1)::wbox p cc::cellI cc F4 (upd (fun _=>0) (1,0,0) 1) q4 (0+1)::L:=⟨_,rfl⟩
 have HM0:=Lib.hid hM0
 rw [<- hM0] at hE5
 clear hM0
 go_wp2_with fail
 rw [hg0] at hE5
 clear hg0
 go_loopw [11,12] (fun ov iv wr=>∃ (j g cp:Nat) (ps:List Pk),j<=rs.length/\iv=.int .i64 j/\ps.length=j/\ov=.slice (some ⟨g,0,none⟩) j cp/\Hid (∀ i,i < j->∃ p,ps[i]?=some p/\New0 p (rs.getD i default))/\Env w0 (tpsI ov (ps.map fun p=>p.X.thr)::(ps.flatMap (Pk.its ⟨1,s,0,1,l⟩)++M0)) wr) (fun _ iv _=>rs.length - (intOf iv).toNat)
 case atStart=>exact ⟨0,_,0,[],Nat.zero_le _,rfl,rfl,rfl,Lib.hid (fun i hi=>absurd hi (Nat.not_lt_zero _)),hE5⟩
 case round =>
  clear hE5
  obtain ⟨j,g,cp,ps,hj,rfl,hpl,rfl,hall,hE⟩:=hrel
  have HPL:=Lib.hid hpl
  clear hpl
  by_cases hlt:j < rs.length
  ·have hb1:decide ((j:Int) < (rs.length:Int))=true:=by simp; omega
   have hlt1:(j:Int) < (rs.length:Int):=by omega
   obtain ⟨g9,off,hA,hc⟩:=rowRw HROW.out (Below.refl _ _) j hlt
   have HA9:=Lib.hid hA
   subst hA
   have HCC:=Lib.hid hc
   obtain ⟨r,hr⟩:∃ r,rs.getD j default=r:=⟨_,rfl⟩
   rw [hr] at HCC
   have HR:=Lib.hid hr
   clear hc hr
   obtain ⟨M,hM⟩:∃ M,M=(ps.flatMap (Pk.its ⟨1,s,0,1,l⟩)++M0):=⟨_,rfl⟩
   rw [<- hM] at hE
   obtain ⟨v,hv⟩:∃ v,v=Value.slice (some ⟨g,0,none⟩) j cp:=⟨_,rfl⟩
   obtain ⟨cs,hcs⟩:∃ cs,cs=ps.map fun p=>p.X.thr:=⟨_,rfl⟩
   rw [<- hv,<- hcs] at hE
   have hcl:cs.length=j:=by rw [hcs,List.length_map]; exact HPL.out
   have HM:=Lib.hid hM
   have HCS:=Lib.hid hcs
   have HCL:=Lib.hid hcl
   have HLT:=Lib.hid hlt
   clear hM hcs hcl hlt
   go_upto_region 9 with fail
   subst hv
   refine OrdF.wp_float [?_,?_,?_,?_,?_,?_,?_,?_,?_,OrdF.Ptr,?_,?_,?_,?_,?_,?_,?_,?_,?_] [4,14,15,16,17,18] 9 (fun v=>Below w0.heap.size w0 v) (ThA w0 s l r (.slice (some ⟨g,0,none⟩) j cp) cs M) (by kernel_rfl) (by kernel_rfl) (by kernel_rfl) (hE.drew.below) (.inl ⟨rfl,.inl ⟨rfl,hE.drew⟩⟩) (fun hT=>?_)
   rotate_left 18
   have hT9:=Lib.hid hT
   clear hT
   repeat (first
    | (focus (refine OrdF.in_value (v:=?_) hT9.out (by decide) (by decide) ?_ (by rfl) ?_ ?_; rotate_left 2; (focus (intro w5 hS; have c0:=HCC.out _ hS; go_simp<;>with_reducible rfl)); rotate_right; (focus rfl); (try simp only [Act.put,zA,zZ,zS])))
    | (focus (refine OrdF.in_off hT9.out (by decide) (by decide) ?_ (by rfl) ?_; (focus rfl); (try simp only [Act.put,zA,zZ,zS]))))
   focus (refine OrdF.in_call (v:=.agg #[.int .i64 1,.int .i64 s,.int .i64 0,.int .i64 1,.int .i64 l]) (f:=?_) (args:=?_) hT9.out (by decide) (by decide) ?_ (by rfl) ?_ ?_ ?_; rotate_left 2; (focus rfl); (focus (intro w5 hS; skip; go_simp; constructor<;>with_reducible rfl)); (focus (intro w5 hS; refine (HLK.out _).mono ?_; rintro e w6 ⟨rfl,hb6⟩; exact ⟨rfl,hS.trans (hb6.mono hS.size),fun _ _ h=>h.over hb6⟩)); (try simp only [Act.put,zA,zZ,zS]))
   repeat (first
    | (focus (refine OrdF.in_value (v:=?_) hT9.out (by decide) (by decide) ?_ (by rfl) ?_ ?_; rotate_left 2; (focus (intro w5 hS; have c0:=HCC.out _ hS; go_simp<;>with_reducible rfl)); rotate_right; (focus rfl); (try simp only [Act.put,zA,zZ,zS])))
    | (focus (refine OrdF.in_off hT9.out (by decide) (by decide) ?_ (by rfl) ?_; (focus rfl); (try simp only [Act.put,zA,zZ,zS]))))
   refine OrdF.in_turn OrdF.Ptr rfl (fun u=>∃ z,u=.pointer (some ⟨z,0,none⟩)) _ ⟨0,rfl⟩ hT9.out rfl (by decide) (by decide) (by rfl) ?_ (Or.inl rfl) (by rfl) ?_ ?_
   ·rfl
   ·rintro fo5 w5 - hC5 hA5
    rcases hA5 with ⟨h,hA5⟩ | ⟨c,q,F,h,hA5⟩ | ⟨c,q,F,n,h,hf,hA5⟩ | ⟨c,q,F,n,t,h,hf,hA5⟩ | ⟨c,q,F,n,t,z,h,hf,hA5⟩ | ⟨c,q,F,n,t,z,g9,cp9,h,hf,hA5⟩ | ⟨c,q,F,n,t,z,g9,cp9,h,hf,hA5⟩<;>cases h
    go_simp
    simp only [Ord3.Lands]
    rcases hA5 with ⟨rfl,hE5⟩ | ⟨n5,rfl,hE5⟩
    ·refine (newYes_c 1 s 0 1 l HC.out hE5).mono ?_
     rintro o w6 ⟨c,q,F,rfl,hE6⟩
     exact ⟨_,rfl,⟨_,rfl⟩,hE6.below,.inr (.inl ⟨c,q,F,rfl,.inl ⟨rfl,hE6⟩⟩)⟩
    ·refine (newYes_c 1 s 0 1 l HC.out hE5).mono ?_
     rintro o w6 ⟨c,q,F,rfl,hE6⟩
     exact ⟨_,rfl,⟨_,rfl⟩,hE6.below,.inr (.inl ⟨c,q,F,rfl,.inr ⟨n5,rfl,hE6.perm (List.perm_middle (l₁:=[_,_]))⟩⟩)⟩
   rintro _ ⟨z1,rfl⟩
   (try simp only [Act.put,zA,zZ,zS])
   repeat (first
    | (focus (refine OrdF.in_value (v:=?_) hT9.out (by decide) (by decide) ?_ (by rfl) ?_ ?_; rotate_left 2; (focus (intro w5 hS; have c0:=HCC.out _ hS; go_simp<;>with_reducible rfl)); rotate_right; (focus rfl); (try simp only [Act.put,zA,zZ,zS])))
    | (focus (refine OrdF.in_off hT9.out (by decide) (by decide) ?_ (by rfl) ?_; (focus rfl); (try simp only [Act.put,zA,zZ,zS]))))
   focus (refine OrdF.in_call (v:=.agg #[.int .i64 1,.int .i64 s,.int .i64 0,.int .i64 1,.int .i64 l]) (f:=?_) (args:=?_) hT9.out (by decide) (by decide) ?_ (by rfl) ?_ ?_ ?_; rotate_left 2; (focus rfl); (focus (intro w5 hS; skip; go_simp; constructor<;>with_reducible rfl)); (focus (intro w5 hS; refine (HLK.out _).mono ?_; rintro e w6 ⟨rfl,hb6⟩; exact ⟨rfl,hS.trans (hb6.mono hS.size),fun _ _ h=>h.over hb6⟩)); (try simp only [Act.put,zA,zZ,zS]))
   repeat (first
    | (focus (refine OrdF.in_value (v:=?_) hT9.out (by decide) (by decide) ?_ (by rfl) ?_ ?_; rotate_left 2; (focus (intro w5 hS; have c0:=HCC.out _ hS; go_simp<;>with_reducible rfl)); rotate_right; (focus rfl); (try simp only [Act.put,zA,zZ,zS])))
    | (focus (refine OrdF.in_off hT9.out (by decide) (by decide) ?_ (by rfl) ?_; (focus rfl); (try simp only [Act.put,zA,zZ,zS]))))
   refine OrdF.in_float OrdF.Ptr (.pointer (some ⟨0,0,none⟩)) ⟨0,rfl⟩ hT9.out rfl (by decide) ?_ (by rfl) ?_ ?_
   ·rfl
   ·intro w5 κs5 hC5 hA5
    rcases hA5 with ⟨h,hA5⟩ | ⟨c,q,F,h,hA5⟩ | ⟨c,q,F,n,h,hf,hA5⟩ | ⟨c,q,F,n,t,h,hf,hA5⟩ | ⟨c,q,F,n,t,z,h,hf,hA5⟩ | ⟨c,q,F,n,t,z,g9,cp9,h,hf,hA5⟩ | ⟨c,q,F,n,t,z,g9,cp9,h,hf,hA5⟩
    ·rcases hA5 with ⟨-,hE5⟩ | ⟨n5,h5,-⟩
     ·subst h
      go_simp
      simp only [Ord3.Lands]
      have hE6:=hE5.box w5.heap.size rfl (ruN 1 s 0 1 l) 112
      exact ⟨⟨_,rfl⟩,hE6.below,.inl ⟨rfl,.inr ⟨_,rfl,hE6⟩⟩⟩
     ·cases h5
    ·rcases hA5 with ⟨-,hE5⟩ | ⟨n5,h5,-⟩
     ·subst h
      go_simp
      simp only [Ord3.Lands]
      have hE6:=hE5.box w5.heap.size rfl (ruN 1 s 0 1 l) 112
      exact ⟨⟨_,rfl⟩,hE6.below,.inr (.inl ⟨c,q,F,rfl,.inr ⟨_,rfl,hE6⟩⟩)⟩
     ·cases h5
    all_goals cases hf
   rintro _ ⟨n1,rfl⟩
   (try simp only [Act.put,zA,zZ,zS])
   repeat (first
    | (focus (refine OrdF.in_value (v:=?_) hT9.out (by decide) (by decide) ?_ (by rfl) ?_ ?_; rotate_left 2; (focus (intro w5 hS; have c0:=HCC.out _ hS; go_simp<;>with_reducible rfl)); rotate_right; (focus rfl); (try simp only [Act.put,zA,zZ,zS])))
    | (focus (refine OrdF.in_off hT9.out (by decide) (by decide) ?_ (by rfl) ?_; (focus rfl); (try simp only [Act.put,zA,zZ,zS]))))
   refine OrdF.in_turn_late (by kernel_rfl) (by decide) (by decide) (fun u=>∃ c n,u=Value.agg #[.pointer (some ⟨c,0,none⟩),.pointer (some ⟨n,0,none⟩),.slice r.A r.ds.length r.cap,.int .i64 0,.bool false,.pointer none,.pointer none,.pointer none,.pointer none,.int .i64 0]) _ ⟨0,0,rfl⟩ hT9.out rfl (by decide) (by rfl) ?_ (Or.inr ⟨_,4,[],rfl,by kernel_rfl,by kernel_rfl,rfl⟩) (by rfl) ?_ ?_
   ·rfl
   ·rintro w5 hC5 hA5
    rcases hA5 with ⟨h,hA5⟩ | ⟨c,q,F,h,hA5⟩ | ⟨c,q,F,n,h,hf,hA5⟩ | ⟨c,q,F,n,t,h,hf,hA5⟩ | ⟨c,q,F,n,t,z,h,hf,hA5⟩ | ⟨c,q,F,n,t,z,g9,cp9,h,hf,hA5⟩ | ⟨c,q,F,n,t,z,g9,cp9,h,hf,hA5⟩<;>cases h
    rcases hA5 with ⟨hn,-⟩ | ⟨n5,hn,hE5⟩
    ·cases hn
    cases hn
    go_simp
    simp only [Ord3.Lands]
    exact ⟨⟨_,_,rfl⟩,hC5,.inr (.inr (.inl ⟨_,q,F,_,rfl,rfl,hE5⟩))⟩
   rintro _ ⟨c2,n2,rfl⟩
   (try simp only [Act.put,zA,zZ,zS])
   refine OrdF.in_turn OrdF.Ptr rfl (fun u=>∃ z,u=.pointer (some ⟨z,0,none⟩)) _ ⟨0,rfl⟩ hT9.out rfl (by decide) (by decide) (by rfl) ?_ (Or.inr ⟨_,14,[],rfl,by kernel_rfl,by kernel_rfl,rfl⟩) (by rfl) ?_ ?_
   ·rfl
   ·rintro fo5 w5 - hC5 hA5
    rcases hA5 with ⟨h,hA5⟩ | ⟨c,q,F,h,hA5⟩ | ⟨c,q,F,n,h,hf,hA5⟩ | ⟨c,q,F,n,t,h,hf,hA5⟩ | ⟨c,q,F,n,t,z,h,hf,hA5⟩ | ⟨c,q,F,n,t,z,g9,cp9,h,hf,hA5⟩ | ⟨c,q,F,n,t,z,g9,cp9,h,hf,hA5⟩<;>cases h
    subst hf
    go_simp
    simp only [Ord3.Lands]
    have hE6:=hA5.box w5.heap.size rfl [.pointer (some ⟨z1,0,none⟩),.pointer (some ⟨n2,0,none⟩),.slice r.A r.ds.length r.cap,.int .i64 0,.bool false,.pointer none,.pointer none,.pointer none,.pointer none,.int .i64 0] 45
    exact ⟨⟨_,rfl⟩,hE6.below,.inr (.inr (.inr (.inl ⟨_,q,F,_,_,rfl,rfl,hE6⟩)))⟩
   rintro _ ⟨t3,rfl⟩
   (try simp only [Act.put,zA,zZ,zS])
   refine OrdF.in_turn OrdF.Ptr rfl (fun u=>∃ z,u=.slice (some ⟨z,0,none⟩) 1 1) _ ⟨0,rfl⟩ hT9.out rfl (by decide) (by decide) (by rfl) ?_ (Or.inr ⟨_,15,[],rfl,by kernel_rfl,by kernel_rfl,rfl⟩) (by rfl) ?_ ?_
   ·rfl
   ·rintro fo5 w5 - hC5 hA5
    rcases hA5 with ⟨h,hA5⟩ | ⟨c,q,F,h,hA5⟩ | ⟨c,q,F,n,h,hf,hA5⟩ | ⟨c,q,F,n,t,h,hf,hA5⟩ | ⟨c,q,F,n,t,z,h,hf,hA5⟩ | ⟨c,q,F,n,t,z,g9,cp9,h,hf,hA5⟩ | ⟨c,q,F,n,t,z,g9,cp9,h,hf,hA5⟩<;>cases h
    subst hf
    go_simp
    simp only [Ord3.Lands]
    have hE6:=hA5.box w5.heap.size rfl [.pointer (some ⟨t3,0,none⟩)] 31
    exact ⟨⟨_,rfl⟩,hE6.below,.inr (.inr (.inr (.inr (.inl ⟨_,q,F,_,_,_,rfl,rfl,hE6⟩))))⟩
   rintro _ ⟨z4,rfl⟩
   (try simp only [Act.put,zA,zZ,zS])
   refine OrdF.in_turn OrdF.Ptr rfl (fun u=>∃ g9 cp9,u=.slice (some ⟨g9,0,none⟩) (cs.length+1) cp9) _ ⟨0,0,rfl⟩ hT9.out rfl (by decide) (by decide) (by rfl) ?_ (Or.inr ⟨_,16,[],rfl,by kernel_rfl,by kernel_rfl,rfl⟩) (by rfl) ?_ ?_
   ·rfl
   ·rintro fo5 w5 - hC5 hA5
    rcases hA5 with ⟨h,hA5⟩ | ⟨c,q,F,h,hA5⟩ | ⟨c,q,F,n,h,hf,hA5⟩ | ⟨c,q,F,n,t,h,hf,hA5⟩ | ⟨c,q,F,n,t,z,h,hf,hA5⟩ | ⟨c,q,F,n,t,z,g9,cp9,h,hf,hA5⟩ | ⟨c,q,F,n,t,z,g9,cp9,h,hf,hA5⟩<;>cases h
    obtain ⟨g9,cp9,w6,hrun,hE6⟩:=hA5.appendB 5 0 rfl rfl (by have:=HCL.out; have:=HRS.out; omega)
    subst hf
    rw [run_call_append (.tmp 29) (.tmp 45) 28 rfl (by rfl) (by rfl) hrun]
    simp only [Ord3.Lands]
    exact ⟨⟨_,_,rfl⟩,hE6.below,.inr (.inr (.inr (.inr (.inr (.inl ⟨_,q,F,_,_,_,g9,cp9,rfl,rfl,hE6⟩)))))⟩
   rintro _ ⟨g5,cp5,rfl⟩
   (try simp only [Act.put,zA,zZ,zS])
   refine OrdF.in_turn OrdF.Ptr rfl (fun u=>∃ g9 cp9,u=.slice (some ⟨g9,0,none⟩) (cs.length+1) cp9) _ ⟨0,0,rfl⟩ hT9.out rfl (by decide) (by decide) (by rfl) ?_ (Or.inr ⟨_,17,[],rfl,by kernel_rfl,by kernel_rfl,rfl⟩) (by rfl) ?_ ?_
   ·rfl
   ·rintro fo5 w5 - hC5 hA5
    rcases hA5 with ⟨h,hA5⟩ | ⟨c,q,F,h,hA5⟩ | ⟨c,q,F,n,h,hf,hA5⟩ | ⟨c,q,F,n,t,h,hf,hA5⟩ | ⟨c,q,F,n,t,z,h,hf,hA5⟩ | ⟨c,q,F,n,t,z,g9,cp9,h,hf,hA5⟩ | ⟨c,q,F,n,t,z,g9,cp9,h,hf,hA5⟩<;>cases h
    subst hf
    go_simp
    simp only [Ord3.Lands]
    exact ⟨⟨_,_,rfl⟩,hC5,.inr (.inr (.inr (.inr (.inr (.inr ⟨_,q,F,_,_,_,_,_,rfl,rfl,hA5⟩)))))⟩
   rintro _ ⟨g6,cp6,rfl⟩
   (try simp only [Act.put,zA,zZ,zS])
   refine OrdF.in_nil rfl (by decide) (by decide) ?_
   rintro w5 hC5 hA5
   rcases hA5 with ⟨h,hA5⟩ | ⟨c,q,F,h,hA5⟩ | ⟨c,q,F,n,h,hf,hA5⟩ | ⟨c,q,F,n,t,h,hf,hA5⟩ | ⟨c,q,F,n,t,z,h,hf,hA5⟩ | ⟨c,q,F,n,t,z,g9,cp9,h,hf,hA5⟩ | ⟨c,q,F,n,t,z,g9,cp9,h,hf,hA5⟩<;>cases h
   clear hT9 hC5 hf hb1 hlt1 HCC
   obtain ⟨p9,hp9⟩:∃ p9:Pk,p9=⟨{ thr:=t3,c:=z1,q:=q,u:=n2,F:=F,kq:=2,A:=none,rc:=0,N:=0,cr:=0,ro:=0,dA:=r.A,dn:=r.ds.length,dc:=r.cap,pa:=.pointer none,pb:=.pointer none,pr:=.pointer none,pq:=.pointer none,pg:=.pointer none,ph:=.pointer none },K0,.pointer none,.pointer none,.pointer none,.pointer none,0,[]⟩:=⟨_,rfl⟩
   have hits:Pk.its ⟨1,s,0,1,l⟩ p9=[coreI z1 1 s 0 1 l 0 0 0 0 q,queueI q F [] 2,boxI n2 (ruN 1 s 0 1 l),rrI none 0 [],boxI t3 [.pointer (some ⟨z1,0,none⟩),.pointer (some ⟨n2,0,none⟩),.slice r.A r.ds.length r.cap,.int .i64 0,.bool false,.pointer none,.pointer none,.pointer none,.pointer none,.int .i64 0]]:=by
    rw [hp9]
    rfl
   have hn9:New0 p9 r/\p9.X.thr=t3:=by
    rw [hp9]
    exact ⟨⟨rfl,rfl,rfl,rfl,rfl,Int.le_refl _,(by show (0:Int)<=4000000; decide),rfl⟩,rfl⟩
   have hE7:=(hA5.sub (.cons _ (List.Sublist.refl _))).addNone3 131
   have hE8:Env w0 (tpsI (.slice (some ⟨g5,0,none⟩) (j+1) cp5) ((ps++[p9]).map fun p=>p.X.thr)::((ps++[p9]).flatMap (Pk.its ⟨1,s,0,1,l⟩)++M0)) w5:=by
    have e1:(ps++[p9]).map (fun p=>p.X.thr)=cs++[t3]:=by rw [List.map_append,HCS.out]; simp [hn9.2]
    rw [e1,<- HCL.out]
    refine hE7.perm (perm_of fun z=>?_)
    rw [HM.out]
    simp only [List.flatMap_append,List.flatMap_cons,List.flatMap_nil,hits,rrI,List.length_nil,List.count_append,List.count_cons,List.count_nil]
    omega
   have HE8:=Lib.hid hE8
   have HN9:=Lib.hid hn9
   clear hE8 hE7 hA5 hn9 hits hp9
   go_wp2_with fail
   have hlt:=HLT.out
   have hpl:=HPL.out
   refine ⟨⟨j+1,g5,cp5,ps++[p9],by omega,by simp,by simp [hpl],by simp [HCL.out],Lib.hid ?_,?_⟩,?_⟩
   ·intro i hi
    by_cases he:i < j
    ·obtain ⟨p,h1,h2⟩:=hall.out i he
     exact ⟨p,by rw [List.getElem?_append_left (by omega)]; exact h1,h2⟩
    ·have he:i=j:=by omega
     subst he
     refine ⟨p9,?_,by rw [HR.out]; exact HN9.out.1⟩
     rw [List.getElem?_append_right (by omega)]
     simp [hpl]
   ·have:=HE8.out
    rw [HCL.out]
    exact this
   ·simp only [intOf]
    omega
  ·have hb1:decide ((j:Int) < (rs.length:Int))=false:=by simp; omega
   have HLT:=Lib.hid hlt
   clear hlt
   go_wp2_with fail
   have hlt:=HLT.out
   have hjr:j=rs.length:=by omega
   subst hjr
   have hf0:upd (fun _=>0) (1,0,0) 1=getL ml0:=by
    funext x
    rw [ml0_at]
    unfold upd
    by_cases hx:x=(1,0,0)
    ·simp [hx]
    ·simp [hx]
   refine bodyPost_ret (v:=.tuple #[.pointer (some ⟨p,0,none⟩),.pointer (some ⟨m,0,none⟩),.slice (some ⟨g,0,none⟩) rs.length cp]) (by simp [results,Tryz.results13,go_sem]) rfl ⟨p,cc,m,g,cp,⟨ps,F4,F6,q4,0+1,ml0⟩,rfl,HPL.out,hall.out,rfl,Nat.le_refl 1,HQB.out,hE.perm (perm_of fun z=>?_)⟩
   rw [HM0.out,hf0]
   simp only [EL,ml0,List.count_append,List.count_cons]
   omega
end
end Go.Proofs.YthcblagpbkaoaaaGreatDoor
