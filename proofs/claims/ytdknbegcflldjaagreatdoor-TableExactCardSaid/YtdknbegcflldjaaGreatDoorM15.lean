/- What is proved on the way to the statement, part 15: contracts of the functions, among other things in memory. -/
import Derived.Test.YtdknbegcflldjaaGreatDoorM14
import Derived.OwnWalk
import Derived.LoopIn
import Derived.Great.BuildSlice
import Derived.Great.Walk

open _root_.Go.Proofs.Tryz
set_option maxRecDepth 100000
set_option maxHeartbeats 25600000
namespace Go.Proofs.YtdknbegcflldjaaGreatDoor
section
open Go.RowKit Go.Maps
section
variable {w0 w:World} {L:List Item} {thr c u p m dn dc:Nat} {nd:Int} {dA:Option Addr} {st s:Int} {ph:Value}
theorem stepOpB_b {nd0:Int} {po pq pg:Value} {Q0 Q1 Q2:Nat->Nat->List Item->Prop} (hE:Env w0 (boxI thr (thk c u dA dn dc nd0 false po pq pg ph st)::L) w)
  (hB:∀ v,Env w0 (boxI thr (thk c u dA dn dc nd0 false po pq pg ph 0)::L) v->Calls prog 38 #[.pointer (some ⟨thr,0,none⟩)] v fun e v'=>e=.returned (.bool true)/\∃ o9 q9 L0,Q0 o9 q9 L0/\Env w0 (boxI thr (thk c u dA dn dc nd true (.pointer (some ⟨o9,0,none⟩)) (.pointer (some ⟨q9,0,none⟩)) (.pointer none) ph 0)::L0) v')
  (hO:∀ o9 q9 L0 v,Q0 o9 q9 L0->Env w0 (boxI thr (thk c u dA dn dc nd true (.pointer (some ⟨o9,0,none⟩)) (.pointer (some ⟨q9,0,none⟩)) (.pointer none) ph 0)::L0) v->Calls prog 33 #[.pointer (some ⟨o9,0,none⟩),.iface 26 (.pointer (some ⟨p,0,none⟩))] v fun e v'=>e=.returned (.int .i64 s)/\∃ L1,Q1 o9 q9 L1/\Env w0 (boxI thr (thk c u dA dn dc nd true (.pointer (some ⟨o9,0,none⟩)) (.pointer (some ⟨q9,0,none⟩)) (.pointer none) ph 0)::L1) v')
  (hQ:∀ o9 q9 L1 v,Q1 o9 q9 L1->Env w0 (boxI thr (thk c u dA dn dc nd true (.pointer (some ⟨o9,0,none⟩)) (.pointer (some ⟨q9,0,none⟩)) (.pointer none) ph s)::L1) v->Calls prog 71 #[.pointer (some ⟨q9,0,none⟩),.pointer (some ⟨u,0,none⟩),.pointer (some ⟨m,0,none⟩)] v fun e v'=>e=.returned (.int .i64 s)/\∃ L2,Q2 o9 q9 L2/\Env w0 (boxI thr (thk c u dA dn dc nd true (.pointer (some ⟨o9,0,none⟩)) (.pointer (some ⟨q9,0,none⟩)) (.pointer none) ph s)::L2) v')
  (hA:∀ o9 q9 L2,Q2 o9 q9 L2->s≠0->Ended L2 c o9 q9) :
  Calls prog 28 #[.pointer (some ⟨thr,0,none⟩),.pointer (some ⟨p,0,none⟩),.pointer (some ⟨m,0,none⟩)] w fun o w'=>o=.returned (.bool true)/\∃ o9 q9 L2,Q2 o9 q9 L2/\Env w0 (boxI thr (thk c u dA dn dc nd (decide (s=0)) (.pointer (some ⟨o9,0,none⟩)) (.pointer (some ⟨q9,0,none⟩)) (.pointer none) ph s)::L2) w':=by
 have HB:=zH hB;have HO:=zH hO;have HQ:=zH hQ;have HA:=zH hA;clear hB hO hQ hA;unfold thk at *;have r0:=hE.rule 0 rfl;have f9:=hE.thaw 0 rfl 9 (by simp);have hE1:=hE.put 0 rfl (j:=9) (by simp) (.int .i64 0);have r1:=hE1.rule 0 rfl;clear hE;refine gen_post fun PP HPP=>?_;go_enter func28,ntmps28;go_wp2_with fail;refine (HB.out _ hE1).mono ?_;rintro e v0 ⟨rfl,o9,q9,L0,hq0,hE7⟩;clear r0 f9 r1 hE1 HB;have r0:=hE7.rule 0 rfl;have HO1:=zH (HO.out o9 q9 L0 _ hq0 hE7);clear hE7 HO hq0;go_wp2_with fail;refine HO1.out.mono ?_;rintro e v ⟨rfl,L1,hq1,hE2⟩;clear r0 HO1;have r0:=hE2.rule 0 rfl;have f9:=hE2.thaw 0 rfl 9 (by simp);have hE3:=hE2.put 0 rfl (j:=9) (by simp) (.int .i64 s);have HQ1:=zH hq1;clear hE2 hq1
 go_upto_region 9 with fail
 clear r0 f9;generalize World.setCell _ _ _=v1 at *;replace hE3:Env w0 (boxI thr [.pointer (some ⟨c,0,none⟩),.pointer (some ⟨u,0,none⟩),.slice dA dn dc,.int .i64 nd,.bool true,.pointer (some ⟨o9,0,none⟩),.pointer (some ⟨q9,0,none⟩),.pointer none,ph,.int .i64 s]::L1) v1:=hE3;refine Ord.wc [9] (fun v=>Blk 0 v thr [.pointer (some ⟨c,0,none⟩),.pointer (some ⟨u,0,none⟩),.slice dA dn dc,.int .i64 nd,.bool true,.pointer (some ⟨o9,0,none⟩),.pointer (some ⟨q9,0,none⟩),.pointer none,ph,.int .i64 s]) (fun k v=>if k=0 then Env w0 (boxI thr [.pointer (some ⟨c,0,none⟩),.pointer (some ⟨u,0,none⟩),.slice dA dn dc,.int .i64 nd,.bool true,.pointer (some ⟨o9,0,none⟩),.pointer (some ⟨q9,0,none⟩),.pointer none,ph,.int .i64 s]::L1) v else ∃ L2,Q2 o9 q9 L2/\Env w0 (boxI thr [.pointer (some ⟨c,0,none⟩),.pointer (some ⟨u,0,none⟩),.slice dA dn dc,.int .i64 nd,.bool true,.pointer (some ⟨o9,0,none⟩),.pointer (some ⟨q9,0,none⟩),.pointer none,ph,.int .i64 s]::L2) v) (hE3.drew.get 0 rfl) (by rw [if_pos rfl]; exact hE3.drew) fun hT9=>?_
 repeat ((first
  | (refine Ord.cv ?_ hT9.o ?_ ?_; rotate_left; (intro w5 hS; have r:=Blk.rule hS; go_simp<;>rfl))
  | (refine Ord.co hT9.o ?_));try simp only [Act.put,zA,zZ,zS])
 refine Ord.ch_turn (v:=.int .i64 s) 0 hT9.o rfl (by decide) (Or.inl rfl) (by rfl) ?_ ?_
 ·rintro w5 hC5 hA5;rw [if_pos rfl] at hA5;go_simp;simp only [Ord.LandsIn];refine (HQ.out o9 q9 L1 w5 HQ1.out hA5).mono ?_;rintro e w6 ⟨rfl,L2,h2,h5⟩;exact ⟨rfl,h5.get 0 rfl,L2,h2,h5⟩
 try simp only [Act.put,zA,zZ,zS]
 repeat ((first
  | (refine Ord.cv ?_ hT9.o ?_ ?_; rotate_left; (intro w5 hS; skip; go_simp<;>rfl))
  | (refine Ord.co hT9.o ?_));try simp only [Act.put,zA,zZ,zS])
 refine Ord.InText.nil fun w5 hS=>?_;clear hT9;obtain ⟨hC9,hA9⟩:=Ord.chain_end hS;clear hS;rw [if_neg (by decide)] at hA9;obtain ⟨L2,hq2,hE4⟩:=hA9;clear hC9 hE3;have HQ2:=zH hq2;have HA2:=zH fun h=>HA.out o9 q9 L2 hq2 h;clear hq2 HQ HA HQ1;have r0:=hE4.rule 0 rfl;have b9:(s != s)=false:=by simp
 by_cases hs:s=0
 ·subst hs;have HE:=zH hE4;clear hE4;go_wp2_with fail
  (try go_ret)
  exact HPP.out _ _ ⟨rfl,o9,q9,L2,HQ2.out,HE.out⟩
 ·have b8:(s==0)=false:=by simpa using hs
  obtain ⟨i,j,kd,key,val,lv,rt,nx,s9,sp,pc,ps,pa,pl,pu,er,dn9,vl,h1,h2⟩:=HA2.out hs;have hd:decide (s=0)=false:=by simpa using hs
  rw [hd] at HPP;have f4:=hE4.thaw 0 rfl 4 (by simp);have hE5:=hE4.put 0 rfl (j:=4) (by simp) (.bool false);clear hE4 hs hd HA2;have H1:=zH h1;have H2:=zH h2;clear h1 h2
  go_upto_region 15 with fail
  clear r0 f4;generalize World.setCell _ _ _=v2 at *;replace hE5:Env w0 (boxI thr [.pointer (some ⟨c,0,none⟩),.pointer (some ⟨u,0,none⟩),.slice dA dn dc,.int .i64 nd,.bool false,.pointer (some ⟨o9,0,none⟩),.pointer (some ⟨q9,0,none⟩),.pointer none,ph,.int .i64 s]::L2) v2:=hE5;have HANS:=zH fun (v:World) (hv:Env w0 (boxI thr [.pointer (some ⟨c,0,none⟩),.pointer (some ⟨u,0,none⟩),.slice dA dn dc,.int .i64 nd,.bool false,.pointer (some ⟨o9,0,none⟩),.pointer (some ⟨q9,0,none⟩),.pointer none,ph,.int .i64 s]::L2) v)=>answer_t (hv.get (i+1) H1.out);have HRQ:=zH fun (v:World) (hv:Env w0 (boxI thr [.pointer (some ⟨c,0,none⟩),.pointer (some ⟨u,0,none⟩),.slice dA dn dc,.int .i64 nd,.bool false,.pointer (some ⟨o9,0,none⟩),.pointer (some ⟨q9,0,none⟩),.pointer none,ph,.int .i64 s]::L2) v)=>(show ∀ k,v.cell? ⟨q9,k,none⟩=[Value.int .i64 kd,.int .u64 key,.int .u64 val,.int .i64 lv,.int .i64 pc,.pointer ps,.pointer pa,.pointer pl,.pointer pu,.int .i64 er,.bool dn9,.int .u64 vl][k]? from hv.rule (j+1) H2.out);clear H1 H2;refine wp_text (S:=(Env w0 (boxI thr [.pointer (some ⟨c,0,none⟩),.pointer (some ⟨u,0,none⟩),.slice dA dn dc,.int .i64 nd,.bool false,.pointer (some ⟨o9,0,none⟩),.pointer (some ⟨q9,0,none⟩),.pointer none,ph,.int .i64 s]::L2))) (by kernel_rfl) (by kernel_rfl) hE5.drew (fun hT=>?_);have hT9:=zH hT;clear hT
  repeat ((first
   | (refine text_value (v:=?_) hT9.o (by rfl) ?_ ?_; rotate_left; (intro w5 hS; have r:=hS.rule 0 rfl; have rq:=HRQ.out _ hS; go_simp<;>rfl))
   | (refine text_off hT9.o (by rfl) ?_)
   | (refine text_call (v:=?_) (f:=?_) (args:=?_) hT9.o (by rfl) ?_ ?_ ?_; rotate_left 3; (intro w5 hS; have r:=hS.rule 0 rfl; have rq:=HRQ.out _ hS; go_simp; constructor<;>rfl); (intro w5 hS; (first | (with_reducible refine kp (HANS.out _ hS) ?_ ?_; rfl; exact fun w6 hb5=>hS.over hb5)))));try simp only [Act.put,zA,zZ,zS])
  refine InText.nil fun w5 hS5=>?_;clear hT9;clear hE5;go_wp2_with fail
  (try go_ret)
  exact HPP.out _ _ ⟨rfl,o9,q9,L2,HQ2.out,hS5⟩
end
section
variable {w0 w:World} {R:List Item} {C:Cf} {X:Tm} {V:Wm} {K:Kt} {d:Dd} {G FU:Nat->Prop} {qc:Cnt} {ml:List OneR} {n q:Nat} {st:Int} {po pq pg ph:Value} {ds:List Dd}
theorem op0_r (hky:InU d.key) (hcb:1<=C.b/\C.b<=64) (hpc:K.pc=1) (hon:K.on=false) (he:0<=K.T.e/\K.T.e<=9223372036854775807) (hu:∀ x,InU (getL ml x)) (hml:ml.length<=1000000) (hN:0<=X.N/\X.N<=4000000)
  (hE:Env w0 (boxI q (rtC d.ok d.key d.val d.lv 0 none none none none 0 false 0)::LU (SRK C X V K FU ml) R) w) :
  Calls prog 71 #[.pointer (some ⟨q,0,none⟩),.pointer (some ⟨X.u,0,none⟩),.pointer (some ⟨V.m,0,none⟩)] w fun e w'=>∃ s,e=.returned (.int .i64 s)/\OutR w0 R C X V d q ml (opM C d K (getL ml)) s w':=by
 have hM:opM C d K (getL ml)=(0,{ K with on:=true,L:=L0 (4,0,rtM C d),T:={ K.T with e:=epI (getL ml (1,0,0)) } },getL ml):=by
  unfold opM;rw [if_pos hpc,hon];rfl
 rw [hM];refine rt0 (U:=SRK C X V K FU ml) (rt:=rtM C d) hky hcb rfl (fun s w'=>OutR w0 R C X V d q ml _ s w') hE ?_;intro sb v hv;have hv2:Env w0 ([boxI sb (rsC (rtM C d) d.key true false none)]++LU (SR C { X with ro:=K.r } V K.T FU ml) (boxI q (rtC d.ok d.key d.val d.lv 1 (some ⟨sb,0,none⟩) none none none 0 false 0)::R)) v:=hv.perm (perm_of fun z=>by
  simp only [LU,SRK,List.count_append,List.count_cons,List.count_nil];omega)
 refine (search_R (C:=C) (X:=X) (V:=V) (T:=K.T) (r:=K.r) (on:=false) (L:=L0 (4,0,rtM C d)) (fun h=>absurd h (by decide)) he hu hml (.inl ⟨rfl,none,rfl⟩) hv2).mono ?_;rintro e w1 ⟨rfl,FU',ml',sub',hf',hl',hS',hE'⟩;refine ⟨rfl,?_⟩;have hE2:Env w0 ((boxI q (rtC d.ok d.key d.val d.lv 1 (some ⟨sb,0,none⟩) none none none 0 false 0)::sub')++LU (SRK C X V { K with on:=true,L:=L0 (4,0,rtM C d),T:={ K.T with e:=epI (getL ml (1,0,0)) } } FU' ml') R) w1:=hE'.perm (perm_of fun z=>by
  have hx:(searchM (rtM C d) d.key true ⟨false,L0 (4,0,rtM C d),K.T.e,K.r⟩ (getL ml)).2.1=⟨true,L0 (4,0,rtM C d),epI (getL ml (1,0,0)),K.r⟩:=rfl;rw [hx];simp only [LU,SRK,List.count_append,List.count_cons];omega)
 exact OutR.go (A:=X.A) (c:=X.rc) (N:=X.N) (sub:=_::sub') hf' hl' hN (.inl ⟨hpc,sb,none,none,none,sub',hS',rfl⟩) hE2
theorem stepOpB_k (hg:Glo w0) (h:KcOk C d K (getL ml) n) (hr:KrOk C d K ml X.N) (hpc:K.pc=1) (hon:K.on=false) {nd:Nat} (hos:OsAt w0 R X.dA ds) (hdn:X.dn=ds.length) (hlt:nd < ds.length) (hdl:ds.length<=1000) (hdd:ds.getD nd default=d) (h8:d.ok≠8) (hk1:C.k=2) (hcb:chkI 2 C.s C.b C.h C.l=0) (h3:opI 2 C.s C.b C.h C.l d.ok d.key d.val d.lv=0)
  (hE:Env w0 (LT (SPK C X V K (getL ml) G qc n) (LU (SRK C X V K FU ml) (boxI X.thr (thk X.c X.u X.dA X.dn X.dc nd false po pq pg ph st)::R))) w) :
  Calls prog 28 #[.pointer (some ⟨X.thr,0,none⟩),.pointer (some ⟨V.p,0,none⟩),.pointer (some ⟨V.m,0,none⟩)] w fun e w'=>e=.returned (.bool true)/\∃ o q,OutK w0 R C X V d o q n qc ml ((nd:Int)+1) ph (opM C d K (getL ml)) w':=by
 obtain ⟨z,hz⟩:∃ z,opM C d K (getL ml)=z:=⟨_,rfl⟩;obtain ⟨s,K',f'⟩:=z;have hp:=fun (v:World) (L ps:List Item) (o:Nat) hP hv=>op_p (X:=X) (w:=v) (R:=L) (V:=V) (G:=G) (qc:=qc) (ps:=ps) (o:=o) h hg hP hv;have hq:=fun (v:World) (L:List Item) (q:Nat) hv=>op0_r (X:=X) (w:=v) (w0:=w0) (R:=L) (V:=V) (FU:=FU) (q:=q) (d:=d) (C:=C) (ml:=ml) hr.ky hr.cb hpc hon hr.e hr.u (by have:=hr.mlr; omega) hr.Nr hv;rw [hz] at hp hq ⊢;have hm:(LT (SPK C X V K (getL ml) G qc n) (LU (SRK C X V K FU ml) R))[0]?=some (coreI X.c 2 C.s C.b C.h C.l K.T.e K.r K.T.hs 0 X.q):=by
  show some (coreI X.c C.k C.s C.b C.h C.l K.T.e K.r K.T.hs 0 X.q)=_;rw [hk1]
 refine (stepOpB_b (w0:=w0) (s:=s) (p:=V.p) (m:=V.m) (thr:=X.thr) (c:=X.c) (u:=X.u) (dA:=X.dA) (dn:=X.dn) (dc:=X.dc) (nd0:=nd) (nd:=(nd:Int)+1) (st:=st) (po:=po) (pq:=pq) (pg:=pg) (ph:=ph) (L:=LT (SPK C X V K (getL ml) G qc n) (LU (SRK C X V K FU ml) R))
  (Q0:=fun o q L0=>∃ ps,PM C X.c d K o ps/\L0=boxI q (rtC d.ok d.key d.val d.lv 0 none none none none 0 false 0)::(ps++LT (SPK C X V K (getL ml) G qc n) (LU (SRK C X V K FU ml) R)))
  (Q1:=fun o q L1=>∃ F' k' G' qc' n' ps',Nx n qc n' qc'/\(s=0->PM C X.c d K' o ps')/\(s≠0->∃ nx sp,ps'=[boxI o (opT X.c d.ok d.key d.val d.lv (rtM C d) nx s sp K'.err K'.dn K'.vl)])/\L1=boxI q (rtC d.ok d.key d.val d.lv 0 none none none none 0 false 0)::(ps'++LT (SPK C { X with F:=F',kq:=k' } V K' f' G' qc' n') (LU (SRK C X V K FU ml) R)))
  (Q2:=fun o q L2=>∃ F' k' G' qc' n' ps' A' c' N' FU' ml' rs',Nx n qc n' qc'/\(s=0->PM C X.c d K' o ps')/\(s≠0->∃ nx sp,ps'=[boxI o (opT X.c d.ok d.key d.val d.lv (rtM C d) nx s sp K'.err K'.dn K'.vl)])/\getL ml'=f'/\ml'.length<=ml.length+1/\0<=N'/\N'<=4000000/\(s=0->RSub C d K' q rs')/\(s≠0->∃ pc pa pb pl pu,rs'=[boxI q (rtC d.ok d.key d.val d.lv pc pa pb pl pu K'.err K'.dn K'.vl)])/\L2=rs'++LU (SRK C { X with A:=A',rc:=c',N:=N' } V K' FU' ml') (ps'++LT (SPK C { X with F:=F',kq:=k' } V K' f' G' qc' n') R))
  ?_ ?_ ?_ ?_ ?_).mono ?_
 ·exact hE.perm (perm_of fun z=>by simp only [LT,LU,List.count_append,List.count_cons]; omega)
 ·intro v hv;refine (beginYes_b (rt:=rtM C d) 0 hos (fun a ha=>by simp [LT,LU,ha]) hdn hlt hdl hdd h8 h.dk.1 (bkI_yes rfl hcb) h3 hm hv).mono ?_;rintro e v' ⟨rfl,o9,b1,b2,sb,q9,hF⟩;refine ⟨rfl,o9,q9,_,⟨boxI o9 _::boxI b1 _::boxI b2 _::[boxI sb (srC X.c (rtM C d) d.key true (.pointer none))],.inl ⟨b1,b2,_,_,_,_,rfl,.inl ⟨hpc,sb,rfl,rfl,rfl,by rw [hon]; exact .inl ⟨rfl,rfl,.inl rfl⟩⟩⟩,rfl⟩,?_⟩;exact hF.perm (perm_of fun z=>by simp only [List.count_append,List.count_cons,List.count_nil]; omega)
 ·rintro o9 q9 L0 v ⟨ps,hP,rfl⟩ hv;refine (hp v (boxI X.thr (thk X.c X.u X.dA X.dn X.dc ((nd:Int)+1) true (.pointer (some ⟨o9,0,none⟩)) (.pointer (some ⟨q9,0,none⟩)) (.pointer none) ph 0)::boxI q9 (rtC d.ok d.key d.val d.lv 0 none none none none 0 false 0)::LU (SRK C X V K FU ml) R) ps o9 hP (hv.perm (perm_of fun z=>by simp only [LT,LU,List.count_append,List.count_cons]; omega))).mono ?_;rintro e v' ⟨s',he,hs',F',k',G',qc',n',ps',h1,h2,h3,h4⟩;dsimp only at hs' h2 h3 h4;subst hs';refine ⟨he,boxI q9 (rtC d.ok d.key d.val d.lv 0 none none none none 0 false 0)::(ps'++LT (SPK C { X with F:=F',kq:=k' } V K' f' G' qc' n') (LU (SRK C X V K FU ml) R)),⟨F',k',G',qc',n',ps',h1,h2,h3,rfl⟩,?_⟩;exact h4.perm (perm_of fun z=>by simp only [LT,LU,List.count_append,List.count_cons]; omega)
 ·rintro o9 q9 L1 v ⟨F',k',G',qc',n',ps',h1,h2,h3,rfl⟩ hv;refine (hq v (boxI X.thr (thk X.c X.u X.dA X.dn X.dc ((nd:Int)+1) true (.pointer (some ⟨o9,0,none⟩)) (.pointer (some ⟨q9,0,none⟩)) (.pointer none) ph s)::(ps'++LT (SPK C { X with F:=F',kq:=k' } V K' f' G' qc' n') R)) q9 (hv.perm (perm_of fun z=>by simp only [LT,LU,List.count_append,List.count_cons]; omega))).mono ?_;rintro e v' ⟨s',he,hs',A',c',N',FU',ml',rs',g1,g2,g3,g4,g5,g6,g7⟩;dsimp only at hs' g1 g5 g6 g7;subst hs';refine ⟨he,rs'++LU (SRK C { X with A:=A',rc:=c',N:=N' } V K' FU' ml') (ps'++LT (SPK C { X with F:=F',kq:=k' } V K' f' G' qc' n') R),⟨F',k',G',qc',n',ps',A',c',N',FU',ml',rs',h1,h2,h3,g1,g2,g3,g4,g5,g6,rfl⟩,?_⟩;exact g7.perm (perm_of fun z=>by simp only [LT,LU,List.count_append,List.count_cons]; omega)
 ·rintro o9 q9 L2 ⟨F',k',G',qc',n',ps',A',c',N',FU',ml',rs',h1,h2,h3,g1,g2,g3,g4,g5,g6,rfl⟩ hs;obtain ⟨nx,sp,rfl⟩:=h3 hs;obtain ⟨pc,pa,pb,pl,pu,rfl⟩:=g6 hs;exact ⟨4,0,_,_,_,_,_,nx,s,sp,pc,pa,pb,pl,pu,_,_,_,rfl,rfl⟩
 ·rintro e w' ⟨rfl,o,q,L2,⟨F',k',G',qc',n',ps',A',c',N',FU',ml',rs',h1,h2,h3,g1,g2,g3,g4,g5,g6,rfl⟩,hF⟩;refine ⟨rfl,o,q,{ X with F:=F',kq:=k',A:=A',rc:=c',N:=N' },G',FU',qc',n',ml',if s=0 then ps'++rs' else ps',⟨rfl,rfl,rfl,rfl,rfl,rfl,rfl⟩,g1,g2,h1,g3,g4,fun h0=>⟨ps',rs',by show (if s=0 then _ else _)=_; rw [if_pos h0],h2 h0,g5 h0⟩,fun h0=>by obtain ⟨nx,sp,h9⟩:=h3 h0; exact ⟨nx,sp,(if_neg h0).trans h9⟩,?_⟩;have hall:=hF.perm (show List.Perm _ (ps'++rs'++(LT (SPK C { X with F:=F',kq:=k',A:=A',rc:=c',N:=N' } V K' (getL ml') G' qc' n') (LU (SRK C { X with F:=F',kq:=k',A:=A',rc:=c',N:=N' } V K' FU' ml') (boxI X.thr (thk X.c X.u X.dA X.dn X.dc ((nd:Int)+1) (decide (s=0)) (.pointer (some ⟨o,0,none⟩)) (.pointer (some ⟨q,0,none⟩)) (.pointer none) ph s)::R)))) from perm_of fun z=>by
   rw [g1];simp only [LT,LU,SPK,SRK,SP,SR,List.count_append,List.count_cons];omega)
  by_cases h0:s=0
  ·rw [if_pos h0];exact hall.perm (perm_of fun z=>by simp only [LT,LU,List.count_append,List.count_cons]; omega)
  ·rw [if_neg h0];have hall2:=hall.perm (show List.Perm _ (rs'++(LT (SPK C { X with F:=F',kq:=k',A:=A',rc:=c',N:=N' } V K' (getL ml') G' qc' n') (LU (SRK C { X with F:=F',kq:=k',A:=A',rc:=c',N:=N' } V K' FU' ml') (boxI X.thr (thk X.c X.u X.dA X.dn X.dc ((nd:Int)+1) (decide (s=0)) (.pointer (some ⟨o,0,none⟩)) (.pointer (some ⟨q,0,none⟩)) (.pointer none) ph s)::(ps'++R))))) from perm_of fun z=>by
    simp only [LT,LU,List.count_append,List.count_cons];omega)
   exact hall2.sub (List.sublist_append_right _ _)
end
section
variable {w0 w:World} {L:List Item} {thr c u p m o9 q9 dn dc:Nat} {nd:Int} {dA:Option Addr} {st s:Int} {po pq:Value} {Q1 Q2:List Item->Prop}
theorem stepGive_b (hE:Env w0 (boxI thr (thk c u dA dn dc nd true po pq (.pointer (some ⟨o9,0,none⟩)) (.pointer (some ⟨q9,0,none⟩)) st)::L) w)
  (hO:∀ v,Env w0 (boxI thr (thk c u dA dn dc nd true po pq (.pointer (some ⟨o9,0,none⟩)) (.pointer (some ⟨q9,0,none⟩)) 0)::L) v->Calls prog 58 #[.pointer (some ⟨o9,0,none⟩),.iface 26 (.pointer (some ⟨p,0,none⟩))] v fun e v'=>e=.returned (.int .i64 s)/\∃ L1,Q1 L1/\Env w0 (boxI thr (thk c u dA dn dc nd true po pq (.pointer (some ⟨o9,0,none⟩)) (.pointer (some ⟨q9,0,none⟩)) 0)::L1) v')
  (hQ:∀ L1 v,Q1 L1->Env w0 (boxI thr (thk c u dA dn dc nd true po pq (.pointer (some ⟨o9,0,none⟩)) (.pointer (some ⟨q9,0,none⟩)) s)::L1) v->Calls prog 59 #[.pointer (some ⟨q9,0,none⟩),.pointer (some ⟨u,0,none⟩),.pointer (some ⟨m,0,none⟩)] v fun e v'=>e=.returned (.int .i64 s)/\∃ L2,Q2 L2/\Env w0 (boxI thr (thk c u dA dn dc nd true po pq (.pointer (some ⟨o9,0,none⟩)) (.pointer (some ⟨q9,0,none⟩)) s)::L2) v') :
  Calls prog 28 #[.pointer (some ⟨thr,0,none⟩),.pointer (some ⟨p,0,none⟩),.pointer (some ⟨m,0,none⟩)] w fun o w'=>o=.returned (.bool true)/\∃ L2,Q2 L2/\Env w0 (boxI thr (thk c u dA dn dc nd (decide (s=0)) po pq (.pointer (some ⟨o9,0,none⟩)) (.pointer (some ⟨q9,0,none⟩)) s)::L2) w':=by
 have HO:=zH hO;have HQ:=zH hQ;clear hO hQ;unfold thk at *;have r0:=hE.rule 0 rfl;have f9:=hE.thaw 0 rfl 9 (by simp);have hE1:=hE.put 0 rfl (j:=9) (by simp) (.int .i64 0);have r1:=hE1.rule 0 rfl;clear hE;refine gen_post fun PP HPP=>?_;go_enter func28,ntmps28;go_wp2_with fail;refine (HO.out _ hE1).mono ?_;rintro e v ⟨rfl,L1,hq1,hE2⟩;clear r0 f9 r1 hE1;have r0:=hE2.rule 0 rfl;have f9:=hE2.thaw 0 rfl 9 (by simp);have hE3:=hE2.put 0 rfl (j:=9) (by simp) (.int .i64 s);have HQ1:=zH hq1;clear hE2 hq1
 go_upto_region 7 with fail
 clear r0 f9;generalize World.setCell _ _ _=v1 at *;replace hE3:Env w0 (boxI thr [.pointer (some ⟨c,0,none⟩),.pointer (some ⟨u,0,none⟩),.slice dA dn dc,.int .i64 nd,.bool true,po,pq,.pointer (some ⟨o9,0,none⟩),.pointer (some ⟨q9,0,none⟩),.int .i64 s]::L1) v1:=hE3;refine Ord.wc [9] (fun v=>Blk 0 v thr [.pointer (some ⟨c,0,none⟩),.pointer (some ⟨u,0,none⟩),.slice dA dn dc,.int .i64 nd,.bool true,po,pq,.pointer (some ⟨o9,0,none⟩),.pointer (some ⟨q9,0,none⟩),.int .i64 s]) (fun k v=>if k=0 then Env w0 (boxI thr [.pointer (some ⟨c,0,none⟩),.pointer (some ⟨u,0,none⟩),.slice dA dn dc,.int .i64 nd,.bool true,po,pq,.pointer (some ⟨o9,0,none⟩),.pointer (some ⟨q9,0,none⟩),.int .i64 s]::L1) v else ∃ L2,Q2 L2/\Env w0 (boxI thr [.pointer (some ⟨c,0,none⟩),.pointer (some ⟨u,0,none⟩),.slice dA dn dc,.int .i64 nd,.bool true,po,pq,.pointer (some ⟨o9,0,none⟩),.pointer (some ⟨q9,0,none⟩),.int .i64 s]::L2) v) (hE3.drew.get 0 rfl) (by rw [if_pos rfl]; exact hE3.drew) fun hT9=>?_
 repeat ((first
  | (refine Ord.cv ?_ hT9.o ?_ ?_; rotate_left; (intro w5 hS; have r:=Blk.rule hS; go_simp<;>rfl))
  | (refine Ord.co hT9.o ?_));try simp only [Act.put,zA,zZ,zS])
 refine Ord.ch_turn (v:=.int .i64 s) 0 hT9.o rfl (by decide) (Or.inl rfl) (by rfl) ?_ ?_
 ·rintro w5 hC5 hA5;rw [if_pos rfl] at hA5;go_simp;simp only [Ord.LandsIn];refine (HQ.out L1 w5 HQ1.out hA5).mono ?_;rintro e w6 ⟨rfl,L2,h2,h5⟩;exact ⟨rfl,h5.get 0 rfl,L2,h2,h5⟩
 try simp only [Act.put,zA,zZ,zS]
 repeat ((first
  | (refine Ord.cv ?_ hT9.o ?_ ?_; rotate_left; (intro w5 hS; skip; go_simp<;>rfl))
  | (refine Ord.co hT9.o ?_));try simp only [Act.put,zA,zZ,zS])
 refine Ord.InText.nil fun w5 hS=>?_;clear hT9;obtain ⟨hC9,hA9⟩:=Ord.chain_end hS;clear hS;rw [if_neg (by decide)] at hA9;obtain ⟨L2,hq2,hE4⟩:=hA9;clear hC9 hE3;have HQ2:=zH hq2;clear hq2 HO HQ HQ1;have r0:=hE4.rule 0 rfl;have b9:(s != s)=false:=by simp
 by_cases hs:s=0
 ·subst hs;have HE:=zH hE4;clear hE4;go_wp2_with fail
  (try go_ret)
  exact HPP.out _ _ ⟨rfl,L2,HQ2.out,HE.out⟩
 ·have b8:(s==0)=false:=by simpa using hs
  have hd:decide (s=0)=false:=by simpa using hs
  rw [hd] at HPP;have f4:=hE4.thaw 0 rfl 4 (by simp);have hE5:=hE4.put 0 rfl (j:=4) (by simp) (.bool false);clear hE4 hs hd
  go_upto_region 15 with fail
  clear r0 f4;generalize World.setCell _ _ _=v2 at *;replace hE5:Env w0 (boxI thr [.pointer (some ⟨c,0,none⟩),.pointer (some ⟨u,0,none⟩),.slice dA dn dc,.int .i64 nd,.bool false,po,pq,.pointer (some ⟨o9,0,none⟩),.pointer (some ⟨q9,0,none⟩),.int .i64 s]::L2) v2:=hE5;refine wp_text (S:=(Env w0 (boxI thr [.pointer (some ⟨c,0,none⟩),.pointer (some ⟨u,0,none⟩),.slice dA dn dc,.int .i64 nd,.bool false,po,pq,.pointer (some ⟨o9,0,none⟩),.pointer (some ⟨q9,0,none⟩),.int .i64 s]::L2))) (by kernel_rfl) (by kernel_rfl) hE5.drew (fun hT=>?_);have hT9:=zH hT;clear hT
  repeat ((first
   | (refine text_value (v:=?_) hT9.o (by rfl) ?_ ?_; rotate_left; (intro w5 hS; have r:=hS.rule 0 rfl; go_simp<;>rfl))
   | (refine text_off hT9.o (by rfl) ?_)
   | (refine text_call (v:=?_) (f:=?_) (args:=?_) hT9.o (by rfl) ?_ ?_ ?_; rotate_left 3; (intro w5 hS; have r:=hS.rule 0 rfl; go_simp; constructor<;>rfl); (intro w5 hS; (first | fail))));try simp only [Act.put,zA,zZ,zS])
  refine InText.nil fun w5 hS5=>?_;clear hT9;clear hE5;go_wp2_with fail
  (try go_ret)
  exact HPP.out _ _ ⟨rfl,L2,HQ2.out,hS5⟩
end
section
variable {w0 w:World} {L:List Item} {thr c u p m dn dc:Nat} {nd:Int} {dA:Option Addr} {st s:Int} {po pq:Value}
theorem stepGiveB_b {nd0:Int} {p0 q0 g0 h0:Value} {Q0 Q1 Q2:Nat->Nat->List Item->Prop} (hE:Env w0 (boxI thr (thk c u dA dn dc nd0 false p0 q0 g0 h0 st)::L) w)
  (hB:∀ v,Env w0 (boxI thr (thk c u dA dn dc nd0 false p0 q0 g0 h0 0)::L) v->Calls prog 38 #[.pointer (some ⟨thr,0,none⟩)] v fun e v'=>e=.returned (.bool true)/\∃ o9 q9 L0,Q0 o9 q9 L0/\Env w0 (boxI thr (thk c u dA dn dc nd true po pq (.pointer (some ⟨o9,0,none⟩)) (.pointer (some ⟨q9,0,none⟩)) 0)::L0) v')
  (hO:∀ o9 q9 L0 v,Q0 o9 q9 L0->Env w0 (boxI thr (thk c u dA dn dc nd true po pq (.pointer (some ⟨o9,0,none⟩)) (.pointer (some ⟨q9,0,none⟩)) 0)::L0) v->Calls prog 58 #[.pointer (some ⟨o9,0,none⟩),.iface 26 (.pointer (some ⟨p,0,none⟩))] v fun e v'=>e=.returned (.int .i64 s)/\∃ L1,Q1 o9 q9 L1/\Env w0 (boxI thr (thk c u dA dn dc nd true po pq (.pointer (some ⟨o9,0,none⟩)) (.pointer (some ⟨q9,0,none⟩)) 0)::L1) v')
  (hQ:∀ o9 q9 L1 v,Q1 o9 q9 L1->Env w0 (boxI thr (thk c u dA dn dc nd true po pq (.pointer (some ⟨o9,0,none⟩)) (.pointer (some ⟨q9,0,none⟩)) s)::L1) v->Calls prog 59 #[.pointer (some ⟨q9,0,none⟩),.pointer (some ⟨u,0,none⟩),.pointer (some ⟨m,0,none⟩)] v fun e v'=>e=.returned (.int .i64 s)/\∃ L2,Q2 o9 q9 L2/\Env w0 (boxI thr (thk c u dA dn dc nd true po pq (.pointer (some ⟨o9,0,none⟩)) (.pointer (some ⟨q9,0,none⟩)) s)::L2) v') :
  Calls prog 28 #[.pointer (some ⟨thr,0,none⟩),.pointer (some ⟨p,0,none⟩),.pointer (some ⟨m,0,none⟩)] w fun o w'=>o=.returned (.bool true)/\∃ o9 q9 L2,Q2 o9 q9 L2/\Env w0 (boxI thr (thk c u dA dn dc nd (decide (s=0)) po pq (.pointer (some ⟨o9,0,none⟩)) (.pointer (some ⟨q9,0,none⟩)) s)::L2) w':=by
 have HB:=zH hB;have HO:=zH hO;have HQ:=zH hQ;clear hB hO hQ;unfold thk at *;have r0:=hE.rule 0 rfl;have f9:=hE.thaw 0 rfl 9 (by simp);have hE1:=hE.put 0 rfl (j:=9) (by simp) (.int .i64 0);have r1:=hE1.rule 0 rfl;clear hE;refine gen_post fun PP HPP=>?_;go_enter func28,ntmps28;go_wp2_with fail;refine (HB.out _ hE1).mono ?_;rintro e v0 ⟨rfl,o9,q9,L0,hq0,hE7⟩;clear r0 f9 r1 hE1 HB;have r0:=hE7.rule 0 rfl;have HO1:=zH (HO.out o9 q9 L0 _ hq0 hE7);clear hE7 HO hq0;go_wp2_with fail;refine HO1.out.mono ?_;rintro e v ⟨rfl,L1,hq1,hE2⟩;clear r0 HO1;have r0:=hE2.rule 0 rfl;have f9:=hE2.thaw 0 rfl 9 (by simp);have hE3:=hE2.put 0 rfl (j:=9) (by simp) (.int .i64 s);have HQ1:=zH hq1;clear hE2 hq1
 go_upto_region 7 with fail
 clear r0 f9;generalize World.setCell _ _ _=v1 at *;replace hE3:Env w0 (boxI thr [.pointer (some ⟨c,0,none⟩),.pointer (some ⟨u,0,none⟩),.slice dA dn dc,.int .i64 nd,.bool true,po,pq,.pointer (some ⟨o9,0,none⟩),.pointer (some ⟨q9,0,none⟩),.int .i64 s]::L1) v1:=hE3;refine Ord.wc [9] (fun v=>Blk 0 v thr [.pointer (some ⟨c,0,none⟩),.pointer (some ⟨u,0,none⟩),.slice dA dn dc,.int .i64 nd,.bool true,po,pq,.pointer (some ⟨o9,0,none⟩),.pointer (some ⟨q9,0,none⟩),.int .i64 s]) (fun k v=>if k=0 then Env w0 (boxI thr [.pointer (some ⟨c,0,none⟩),.pointer (some ⟨u,0,none⟩),.slice dA dn dc,.int .i64 nd,.bool true,po,pq,.pointer (some ⟨o9,0,none⟩),.pointer (some ⟨q9,0,none⟩),.int .i64 s]::L1) v else ∃ L2,Q2 o9 q9 L2/\Env w0 (boxI thr [.pointer (some ⟨c,0,none⟩),.pointer (some ⟨u,0,none⟩),.slice dA dn dc,.int .i64 nd,.bool true,po,pq,.pointer (some ⟨o9,0,none⟩),.pointer (some ⟨q9,0,none⟩),.int .i64 s]::L2) v) (hE3.drew.get 0 rfl) (by rw [if_pos rfl]; exact hE3.drew) fun hT9=>?_
 repeat ((first
  | (refine Ord.cv ?_ hT9.o ?_ ?_; rotate_left; (intro w5 hS; have r:=Blk.rule hS; go_simp<;>rfl))
  | (refine Ord.co hT9.o ?_));try simp only [Act.put,zA,zZ,zS])
 refine Ord.ch_turn (v:=.int .i64 s) 0 hT9.o rfl (by decide) (Or.inl rfl) (by rfl) ?_ ?_
 ·rintro w5 hC5 hA5;rw [if_pos rfl] at hA5;go_simp;simp only [Ord.LandsIn];refine (HQ.out o9 q9 L1 w5 HQ1.out hA5).mono ?_;rintro e w6 ⟨rfl,L2,h2,h5⟩;exact ⟨rfl,h5.get 0 rfl,L2,h2,h5⟩
 try simp only [Act.put,zA,zZ,zS]
 repeat ((first
  | (refine Ord.cv ?_ hT9.o ?_ ?_; rotate_left; (intro w5 hS; skip; go_simp<;>rfl))
  | (refine Ord.co hT9.o ?_));try simp only [Act.put,zA,zZ,zS])
 refine Ord.InText.nil fun w5 hS=>?_;clear hT9;obtain ⟨hC9,hA9⟩:=Ord.chain_end hS;clear hS;rw [if_neg (by decide)] at hA9;obtain ⟨L2,hq2,hE4⟩:=hA9;clear hC9 hE3;have HQ2:=zH hq2;clear hq2 HQ HQ1;have r0:=hE4.rule 0 rfl;have b9:(s != s)=false:=by simp
 by_cases hs:s=0
 ·subst hs;have HE:=zH hE4;clear hE4;go_wp2_with fail
  (try go_ret)
  exact HPP.out _ _ ⟨rfl,o9,q9,L2,HQ2.out,HE.out⟩
 ·have b8:(s==0)=false:=by simpa using hs
  have hd:decide (s=0)=false:=by simpa using hs
  rw [hd] at HPP;have f4:=hE4.thaw 0 rfl 4 (by simp);have hE5:=hE4.put 0 rfl (j:=4) (by simp) (.bool false);clear hE4 hs hd
  go_upto_region 15 with fail
  clear r0 f4;generalize World.setCell _ _ _=v2 at *;replace hE5:Env w0 (boxI thr [.pointer (some ⟨c,0,none⟩),.pointer (some ⟨u,0,none⟩),.slice dA dn dc,.int .i64 nd,.bool false,po,pq,.pointer (some ⟨o9,0,none⟩),.pointer (some ⟨q9,0,none⟩),.int .i64 s]::L2) v2:=hE5;refine wp_text (S:=(Env w0 (boxI thr [.pointer (some ⟨c,0,none⟩),.pointer (some ⟨u,0,none⟩),.slice dA dn dc,.int .i64 nd,.bool false,po,pq,.pointer (some ⟨o9,0,none⟩),.pointer (some ⟨q9,0,none⟩),.int .i64 s]::L2))) (by kernel_rfl) (by kernel_rfl) hE5.drew (fun hT=>?_);have hT9:=zH hT;clear hT
  repeat ((first
   | (refine text_value (v:=?_) hT9.o (by rfl) ?_ ?_; rotate_left; (intro w5 hS; have r:=hS.rule 0 rfl; go_simp<;>rfl))
   | (refine text_off hT9.o (by rfl) ?_)
   | (refine text_call (v:=?_) (f:=?_) (args:=?_) hT9.o (by rfl) ?_ ?_ ?_; rotate_left 3; (intro w5 hS; have r:=hS.rule 0 rfl; go_simp; constructor<;>rfl); (intro w5 hS; (first | fail))));try simp only [Act.put,zA,zZ,zS])
  refine InText.nil fun w5 hS5=>?_;clear hT9;clear hE5;go_wp2_with fail
  (try go_ret)
  exact HPP.out _ _ ⟨rfl,o9,q9,L2,HQ2.out,hS5⟩
theorem stepNo_b {pg ph:Value} (hE:Env w0 (boxI thr (thk c u dA dn dc nd false po pq pg ph st)::L) w)
  (hB:∀ v,Env w0 (boxI thr (thk c u dA dn dc nd false po pq pg ph 0)::L) v->Calls prog 38 #[.pointer (some ⟨thr,0,none⟩)] v fun e v'=>e=.returned (.bool false)/\Env w0 (boxI thr (thk c u dA dn dc nd false po pq pg ph 0)::L) v') :
  Calls prog 28 #[.pointer (some ⟨thr,0,none⟩),.pointer (some ⟨p,0,none⟩),.pointer (some ⟨m,0,none⟩)] w fun o w'=>o=.returned (.bool true)/\Env w0 (boxI thr (thk c u dA dn dc nd false po pq pg ph 0)::L) w':=by
 have HB:=zH hB;clear hB;unfold thk at *;have r0:=hE.rule 0 rfl;have f9:=hE.thaw 0 rfl 9 (by simp);have hE1:=hE.put 0 rfl (j:=9) (by simp) (.int .i64 0);have r1:=hE1.rule 0 rfl;clear hE;go_enter func28,ntmps28;go_wp2_with fail;refine (HB.out _ hE1).mono ?_;rintro e v0 ⟨rfl,hE7⟩;clear r0 f9 r1 hE1 HB;go_wp2_with fail
 (try go_ret)
 exact ⟨rfl,hE7⟩
end
section
variable {w0 w:World} {R:List Item} {C:Cf} {X:Tm} {V:Wm} {K:Kt} {d:Dd} {G FU:Nat->Prop} {qc:Cnt} {ml:List OneR} {n a b:Nat} {nd st:Int} {po pq pg ph:Value} {ds:List Dd}
structure GvOk (C:Cf) (T:Th) (ml:List OneR) (n:Nat) (N:Int):Prop where
 (hn:n < maxLen)
 (gh:InU T.gh)
 (gpc:T.gpc<=3)
 (q:2<=T.gpc->∃ x y t,T.ql=(x,y,0)::t/\0<=x/\x<=8388607)
 (len:T.ql.length+1<=1000000)
 (fu:∀ x,InU (getL ml x))
 (v:T.gpc=3->verI T.gh < 1099511627775)
 (mlr:ml.length<=999999)
 (Nr:0<=N/\N<=4000000)
def OutV (w0:World) (R:List Item) (C:Cf) (X:Tm) (V:Wm) (a b n:Nat) (qc:Cnt) (ml:List OneR) (nd:Int) (po pq:Value) (K:Kt) (r:Int × Th × Mem) (w':World):Prop :=
 ∃ (X':Tm) (G' FU':Nat->Prop) (qc':Cnt) (n':Nat) (ml':List OneR) (ms':List Item),Same X X'/\getL ml'=r.2.2/\ml'.length<=ml.length+1/\Nx n qc n' qc'/\0<=X'.N/\X'.N<=4000000/\(r.1=0->ms'=[boxI a (gvv X.c (nxG a r.2.1.gpc) r.2.1.gh r.2.1.gg),boxI b (rgv (r.2.1.gpc:Int) r.2.1.gh r.2.1.gg)])/\(r.1≠0->ms'=[])/\Env w0 (LT (SPK C X' V { K with T:=r.2.1 } (getL ml') G' qc' n') (LU (SRK C X' V { K with T:=r.2.1 } FU' ml') (boxI X.thr (thk X.c X.u X.dA X.dn X.dc nd (decide (r.1=0)) po pq (.pointer (some ⟨a,0,none⟩)) (.pointer (some ⟨b,0,none⟩)) r.1)::(ms'++R)))) w'
def VQ1 (R:List Item) (C:Cf) (X:Tm) (V:Wm) (K:Kt) (FU:Nat->Prop) (ml:List OneR) (n:Nat) (qc:Cnt) (s:Int) (T':Th) (f':Mem) (a b:Nat) (L1:List Item):Prop :=
 ∃ G' qc' n' nx,Nx n qc n' qc'/\(s=0->nx=nxG a T'.gpc)/\L1=boxI b (rgv (K.T.gpc:Int) K.T.gh K.T.gg)::boxI a (gvv X.c nx T'.gh T'.gg)::LT (SPK C X V { K with T:=T' } f' G' qc' n') (LU (SRK C X V K FU ml) R)
def VQ2 (R:List Item) (C:Cf) (X:Tm) (V:Wm) (K:Kt) (ml:List OneR) (n:Nat) (qc:Cnt) (s:Int) (T':Th) (f':Mem) (a b:Nat) (L2:List Item):Prop :=
 ∃ G' qc' n' nx A' rc' FU' ml' pc',Nx n qc n' qc'/\(s=0->nx=nxG a T'.gpc)/\getL ml'=f'/\ml'.length<=ml.length+1/\(s=0->pc'=(T'.gpc:Int))/\L2=boxI b (rgv pc' T'.gh T'.gg)::boxI a (gvv X.c nx T'.gh T'.gg)::LT (SPK C X V { K with T:=T' } f' G' qc' n') (LU (SRK C { X with A:=A',rc:=rc' } V { K with T:=T' } FU' ml') R)
theorem vO {TH:Item} {s:Int} {T':Th} {f':Mem} (hz:giveM C K.T (getL ml)=(s,T',f')) (hg:Glo w0) (h:GvOk C K.T ml n X.N)
  (hE:Env w0 (TH::boxI b (rgv (K.T.gpc:Int) K.T.gh K.T.gg)::boxI a (gvv X.c (nxG a K.T.gpc) K.T.gh K.T.gg)::LT (SPK C X V K (getL ml) G qc n) (LU (SRK C X V K FU ml) R)) w) :
  Calls prog 58 #[.pointer (some ⟨a,0,none⟩),.iface 26 (.pointer (some ⟨V.p,0,none⟩))] w fun e v'=>e=.returned (.int .i64 s)/\∃ L1,VQ1 R C X V K FU ml n qc s T' f' a b L1/\Env w0 (TH::L1) v':=by
 have hp:=gePx (C:=C) (X:={ X with cr:=K.r }) (V:=V) (T:=K.T) (f:=getL ml) (G:=G) (qc:=qc) (n:=n) (r:=a) (R:=TH::boxI b (rgv (K.T.gpc:Int) K.T.gh K.T.gg)::LU (SRK C X V K FU ml) R) hg h.hn h.gh h.gpc (fun h2=>by obtain ⟨x,y,t,h3,h4,h5⟩:=h.q h2; exact ⟨x,y,t,h3,by unfold In64; omega⟩) (hE.perm (perm_of fun z=>by simp only [LT,LU,SPK,List.count_append,List.count_cons]; omega));rw [hz] at hp;refine hp.mono ?_;rintro e v' ⟨he,G',qc',n',nx,h1,h2,h3⟩;exact ⟨he,_,⟨G',qc',n',nx,h1,h2,rfl⟩,h3.perm (perm_of fun z=>by simp only [LT,LU,SPK,List.count_append,List.count_cons]; omega)⟩
theorem vQ {TH:Item} {s:Int} {T':Th} {f':Mem} {L1:List Item} (hz:giveM C K.T (getL ml)=(s,T',f')) (h:GvOk C K.T ml n X.N) (h1:VQ1 R C X V K FU ml n qc s T' f' a b L1) (hE:Env w0 (TH::L1) w) :
  Calls prog 59 #[.pointer (some ⟨b,0,none⟩),.pointer (some ⟨X.u,0,none⟩),.pointer (some ⟨V.m,0,none⟩)] w fun e v'=>e=.returned (.int .i64 s)/\∃ L2,VQ2 R C X V K ml n qc s T' f' a b L2/\Env w0 (TH::L2) v':=by
 obtain ⟨G',qc',n',nx,h1,h2,rfl⟩:=h1;have hp:=geR (C:=C) (X:={ X with ro:=K.r }) (V:=V) (T:=K.T) (FU:=FU) (ml:=ml) (b:=b) (R:=TH::boxI a (gvv X.c nx T'.gh T'.gg)::LT (SPK C X V { K with T:=T' } f' G' qc' n') R) h.len h.gh h.fu h.gpc h.q h.v h.mlr h.Nr (hE.perm (perm_of fun z=>by simp only [LT,LU,SRK,List.count_append,List.count_cons]; omega));rw [hz] at hp;refine hp.mono ?_;rintro e v' ⟨he,A',rc',FU',ml',pc',g1,g2,g3,g4⟩;exact ⟨he,_,⟨G',qc',n',nx,A',rc',FU',ml',pc',h1,h2,g1,g2,g3,rfl⟩,g4.perm (perm_of fun z=>by simp only [LT,LU,SRK,List.count_append,List.count_cons]; omega)⟩
theorem vEnd {s:Int} {T':Th} {f':Mem} {L2:List Item} (h:GvOk C K.T ml n X.N) (h2:VQ2 R C X V K ml n qc s T' f' a b L2) (hF:Env w0 (boxI X.thr (thk X.c X.u X.dA X.dn X.dc nd (decide (s=0)) po pq (.pointer (some ⟨a,0,none⟩)) (.pointer (some ⟨b,0,none⟩)) s)::L2) w):OutV w0 R C X V a b n qc ml nd po pq K (s,T',f') w:=by
 obtain ⟨G',qc',n',nx,A',rc',FU',ml',pc',h1,h2,g1,g2,g3,rfl⟩:=h2;refine ⟨{ X with A:=A',rc:=rc' },G',FU',qc',n',ml',if s=0 then [boxI a (gvv X.c (nxG a T'.gpc) T'.gh T'.gg),boxI b (rgv (T'.gpc:Int) T'.gh T'.gg)] else [],⟨rfl,rfl,rfl,rfl,rfl,rfl,rfl⟩,g1,g2,h1,h.Nr.1,h.Nr.2,fun h0=>by show (if s=0 then _ else _)=_; rw [if_pos h0],fun h0=>by show (if s=0 then _ else _)=_; rw [if_neg h0],?_⟩;have hall:=hF.perm (show List.Perm _ (boxI a (gvv X.c nx T'.gh T'.gg)::boxI b (rgv pc' T'.gh T'.gg)::(LT (SPK C { X with A:=A',rc:=rc' } V { K with T:=T' } (getL ml') G' qc' n') (LU (SRK C { X with A:=A',rc:=rc' } V { K with T:=T' } FU' ml') (boxI X.thr (thk X.c X.u X.dA X.dn X.dc nd (decide (s=0)) po pq (.pointer (some ⟨a,0,none⟩)) (.pointer (some ⟨b,0,none⟩)) s)::R)))) from perm_of fun z=>by
  rw [g1];simp only [LT,LU,SPK,SRK,SP,SR,List.count_append,List.count_cons];omega)
 by_cases h0:s=0
 ·rw [if_pos h0];rw [h2 h0,g3 h0] at hall;exact hall.perm (perm_of fun z=>by simp only [LT,LU,List.count_append,List.count_cons,List.count_nil]; omega)
 ·rw [if_neg h0];exact hall.sub (.cons _ (.cons _ (List.Sublist.refl _)))
theorem stepGive_k (hg:Glo w0) (h:GvOk C K.T ml n X.N)
  (hE:Env w0 (LT (SPK C X V K (getL ml) G qc n) (LU (SRK C X V K FU ml) (boxI X.thr (thk X.c X.u X.dA X.dn X.dc nd true po pq (.pointer (some ⟨a,0,none⟩)) (.pointer (some ⟨b,0,none⟩)) st)::boxI a (gvv X.c (nxG a K.T.gpc) K.T.gh K.T.gg)::boxI b (rgv (K.T.gpc:Int) K.T.gh K.T.gg)::R))) w) :
  Calls prog 28 #[.pointer (some ⟨X.thr,0,none⟩),.pointer (some ⟨V.p,0,none⟩),.pointer (some ⟨V.m,0,none⟩)] w fun e w'=>e=.returned (.bool true)/\OutV w0 R C X V a b n qc ml nd po pq K (giveM C K.T (getL ml)) w':=by
 obtain ⟨z,hz⟩:∃ z,giveM C K.T (getL ml)=z:=⟨_,rfl⟩;obtain ⟨s,T',f'⟩:=z;rw [hz];refine (stepGive_b (w0:=w0) (s:=s) (p:=V.p) (m:=V.m) (o9:=a) (q9:=b) (thr:=X.thr) (c:=X.c) (u:=X.u) (dA:=X.dA) (dn:=X.dn) (dc:=X.dc) (nd:=nd) (st:=st) (po:=po) (pq:=pq) (L:=boxI b (rgv (K.T.gpc:Int) K.T.gh K.T.gg)::boxI a (gvv X.c (nxG a K.T.gpc) K.T.gh K.T.gg)::LT (SPK C X V K (getL ml) G qc n) (LU (SRK C X V K FU ml) R)) (Q1:=VQ1 R C X V K FU ml n qc s T' f' a b) (Q2:=VQ2 R C X V K ml n qc s T' f' a b) ?_ ?_ ?_).mono ?_
 ·exact hE.perm (perm_of fun z=>by simp only [LT,LU,List.count_append,List.count_cons]; omega)
 ·intro v hv;exact vO hz hg h hv
 ·intro L1 v h1 hv;exact vQ hz h h1 hv
 ·rintro e w' ⟨he,L2,h2,hF⟩;exact ⟨he,vEnd h h2 hF⟩
theorem stepGiveB_k (hg:Glo w0) (h:GvOk C K.T ml n X.N) (h0:K.T.gpc=0/\K.T.gh=0/\K.T.gg=0) {nd:Nat} (hos:OsAt w0 R X.dA ds) (hdn:X.dn=ds.length) (hlt:nd < ds.length) (hdl:ds.length<=1000) (hdd:ds.getD nd default=d) (h8:d.ok=8)
  (hE:Env w0 (LT (SPK C X V K (getL ml) G qc n) (LU (SRK C X V K FU ml) (boxI X.thr (thk X.c X.u X.dA X.dn X.dc nd false po pq pg ph st)::R))) w) :
  Calls prog 28 #[.pointer (some ⟨X.thr,0,none⟩),.pointer (some ⟨V.p,0,none⟩),.pointer (some ⟨V.m,0,none⟩)] w fun e w'=>e=.returned (.bool true)/\∃ a b,OutV w0 R C X V a b n qc ml ((nd:Int)+1) (.pointer none) pq K (giveM C K.T (getL ml)) w':=by
 obtain ⟨z,hz⟩:∃ z,giveM C K.T (getL ml)=z:=⟨_,rfl⟩;obtain ⟨s,T',f'⟩:=z;rw [hz];refine (stepGiveB_b (w0:=w0) (s:=s) (p:=V.p) (m:=V.m) (thr:=X.thr) (c:=X.c) (u:=X.u) (dA:=X.dA) (dn:=X.dn) (dc:=X.dc) (nd0:=nd) (nd:=(nd:Int)+1) (st:=st) (po:=.pointer none) (pq:=pq) (p0:=po) (q0:=pq) (g0:=pg) (h0:=ph) (L:=LT (SPK C X V K (getL ml) G qc n) (LU (SRK C X V K FU ml) R)) (Q0:=fun a b L0=>L0=boxI b (rgv (K.T.gpc:Int) K.T.gh K.T.gg)::boxI a (gvv X.c (nxG a K.T.gpc) K.T.gh K.T.gg)::LT (SPK C X V K (getL ml) G qc n) (LU (SRK C X V K FU ml) R)) (Q1:=fun a b=>VQ1 R C X V K FU ml n qc s T' f' a b) (Q2:=fun a b=>VQ2 R C X V K ml n qc s T' f' a b) ?_ ?_ ?_ ?_).mono ?_
 ·exact hE.perm (perm_of fun z=>by simp only [LT,LU,List.count_append,List.count_cons]; omega)
 ·intro v hv;refine (beginGive_b hos (fun a ha=>by simp [LT,LU,ha]) hdn hlt hdl hdd h8 hv).mono ?_;rintro e v' ⟨he,x,y,hF⟩;refine ⟨he,x,y,_,rfl,?_⟩;rw [h0.1,h0.2.1,h0.2.2,show ((0:Nat):Int)=0 from rfl];exact hF.perm (perm_of fun z=>by simp only [List.count_cons]; omega)
 ·rintro a b L0 v rfl hv;exact vO hz hg h hv
 ·intro a b L1 v h1 hv;exact vQ hz h h1 hv
 ·rintro e w' ⟨he,a,b,L2,h2,hF⟩;exact ⟨he,a,b,vEnd h h2 hF⟩
end
def MchK (C:Cf) (d:Dd) (c:Nat) (K:Kt) (po pq pg ph:Value) (st:Int) (ms:List Item):Prop :=
 (K.pc=0/\(st=0->ms=[])/\(st≠0->d.ok≠8->∃ o nx sp,po=.pointer (some ⟨o,0,none⟩)/\ms=[boxI o (opT c d.ok d.key d.val d.lv (rtM C d) nx st sp K.err K.dn K.vl)])) \/
 (1<=K.pc/\K.pc≠8/\d.ok≠8/\∃ o q ps rs,po=.pointer (some ⟨o,0,none⟩)/\pq=.pointer (some ⟨q,0,none⟩)/\pg=.pointer none/\ms=ps++rs/\PM C c d K o ps/\RSub C d K q rs) \/
 (K.pc=8/\d.ok=8/\∃ a b,pg=.pointer (some ⟨a,0,none⟩)/\ph=.pointer (some ⟨b,0,none⟩)/\ms=[boxI a (gvv c (nxG a K.T.gpc) K.T.gh K.T.gg),boxI b (rgv (K.T.gpc:Int) K.T.gh K.T.gg)])
section
variable {w0 w:World} {R ms:List Item} {C:Cf} {X:Tm} {V:Wm} {K:Kt} {G FU:Nat->Prop} {qc:Cnt} {ml:List OneR} {n B:Nat} {st:Int} {po pq pg ph:Value} {ds:List Dd}
def OutT (w0:World) (R:List Item) (C:Cf) (X:Tm) (V:Wm) (d:Dd) (n:Nat) (qc:Cnt) (id:Bool) (ml:List OneR) (r:Int × Kt × Mem) (w':World):Prop :=
 ∃ (X':Tm) (G' FU':Nat->Prop) (qc':Cnt) (n':Nat) (ml':List OneR) (ms':List Item) (po pq pg ph:Value),Same X X'/\getL ml'=r.2.2/\ml'.length<=ml.length+1/\(n'<=n+1/\(id=false->One qc qc')/\(id=true->qc'=qc))/\0<=X'.N/\X'.N<=4000000/\MchK C d X.c r.2.1 po pq pg ph r.1 ms'/\Env w0 (LT (SPK C X' V r.2.1 (getL ml') G' qc' n') (LU (SRK C X' V r.2.1 FU' ml') (boxI X.thr (thk X.c X.u X.dA X.dn X.dc r.2.1.T.nd (decide (r.2.1.pc≠0)) po pq pg ph r.1)::(ms'++R)))) w'
theorem OutK.toT {d:Dd} {o q:Nat} {nd:Int} {r:Int × Kt × Mem} (h:OutK w0 R C X V d o q n qc ml nd ph r w) (hd8:d.ok≠8) (hpc:r.1=0->1<=r.2.1.pc/\r.2.1.pc≠8) (hnd:(r.2.1.T.nd:Int)=nd):OutT w0 R C X V d n qc false ml (r.1,{ r.2.1 with pc:=if r.1=0 then r.2.1.pc else 0 },r.2.2) w:=by
 obtain ⟨X',G',FU',qc',n',ml',ms',h1,h2,h3,h4,h5,h6,h7,h8,h9⟩:=h;obtain ⟨s,K',f'⟩:=r;dsimp only at *;subst hnd;have hc:=h1.2.1;refine ⟨X',G',FU',qc',n',ml',ms',.pointer (some ⟨o,0,none⟩),.pointer (some ⟨q,0,none⟩),.pointer none,ph,h1,h2,h3,⟨h4.le,fun _=>h4.one,fun h=>absurd h (by decide)⟩,h5,h6,?_,?_⟩
 ·by_cases h0:s=0
  ·obtain ⟨ps,rs,g1,g2,g3⟩:=h7 h0;rw [hc] at g2;rw [if_pos h0];exact .inr (.inl ⟨(hpc h0).1,(hpc h0).2,hd8,o,q,ps,rs,rfl,rfl,rfl,g1,g2,g3⟩)
  ·obtain ⟨nx,sp,g1⟩:=h8 h0;rw [if_neg h0];exact .inl ⟨rfl,fun h=>absurd h h0,fun _ _=>⟨o,nx,sp,rfl,g1⟩⟩
 ·have hb:decide ((if s=0 then K'.pc else 0)≠0)=decide (s=0):=by
   by_cases h0:s=0
   ·have:=(hpc h0).1;rw [if_pos h0];simp [h0];omega
   ·rw [if_neg h0];simp [h0]
  show Env w0 (LT _ (LU _ (boxI X.thr (thk X.c X.u X.dA X.dn X.dc K'.T.nd (decide ((if s=0 then K'.pc else 0)≠0)) _ _ _ _ s)::_))) w;rw [hb];exact h9
theorem OutV.toT {d:Dd} {a b:Nat} {nd:Int} {r:Int × Th × Mem} (h:OutV w0 R C X V a b n qc ml nd po pq K r w) (h8:K.pc=8) (hd:d.ok=8) (hnd:(r.2.1.nd:Int)=nd):OutT w0 R C X V d n qc false ml (if r.1=0 then (0,{ K with T:=r.2.1 },r.2.2) else (r.1,{ K with T:={ r.2.1 with pc:=0 },pc:=0 },r.2.2)) w:=by
 obtain ⟨X',G',FU',qc',n',ml',ms',h1,h2,h3,h4,h5,h6,h7,h9,hE⟩:=h;obtain ⟨s,T',f'⟩:=r;dsimp only at *;subst hnd
 by_cases h0:s=0
 ·rw [if_pos h0];subst h0;have hb:decide (K.pc≠0)=decide ((0:Int)=0):=by rw [h8]; rfl
  refine ⟨X',G',FU',qc',n',ml',ms',po,pq,.pointer (some ⟨a,0,none⟩),.pointer (some ⟨b,0,none⟩),h1,h2,h3,⟨h4.le,fun _=>h4.one,fun h=>absurd h (by decide)⟩,h5,h6,.inr (.inr ⟨h8,hd,a,b,rfl,rfl,h7 rfl⟩),?_⟩;show Env w0 (LT _ (LU _ (boxI X.thr (thk X.c X.u X.dA X.dn X.dc T'.nd (decide (K.pc≠0)) _ _ _ _ 0)::_))) w;rw [hb];exact hE
 ·rw [if_neg h0];have hb:decide (s=0)=decide ((0:Nat)≠0):=by simp [h0]
  rw [hb] at hE;exact ⟨X',G',FU',qc',n',ml',ms',po,pq,.pointer (some ⟨a,0,none⟩),.pointer (some ⟨b,0,none⟩),h1,h2,h3,⟨h4.le,fun _=>h4.one,fun h=>absurd h (by decide)⟩,h5,h6,.inl ⟨rfl,fun h=>absurd h h0,fun _ h=>absurd hd h⟩,hE⟩
end
theorem foundM_nd (C:Cf) (d:Dd) (K:Kt):(foundM C d K).2.T.nd=K.T.nd:=by
 unfold foundM takeM
 repeat' split
 all_goals rfl
theorem opM_nd (C:Cf) (d:Dd) (K:Kt) (f:Mem):(opM C d K f).2.1.T.nd=K.T.nd:=by
 unfold opM;dsimp only
 repeat' split
 all_goals first
  | rfl
  | exact foundM_nd _ _ _
  | exact (allocM_keep C d K.T f).2.1
  | exact (retireM_keep (T:=K.T) (f:=f)).2.1
def idleK (ds:List Dd) (K:Kt):Bool:=decide (K.pc=0) && !decide (K.T.nd < ds.length)
section
variable {w0 w:World} {R ms:List Item} {C:Cf} {X:Tm} {V:Wm} {K:Kt} {G FU:Nat->Prop} {qc:Cnt} {ml:List OneR} {n B:Nat} {st:Int} {po pq pg ph:Value} {ds:List Dd}
theorem PM.pcs {c:Nat} {d:Dd} {o:Nat} {ps:List Item} (h:PM C c d K o ps):1<=K.pc/\K.pc≠8:=by
 rcases h with ⟨b1,b2,F,Y,sp,sub,-,h⟩ | ⟨h,-⟩
 rotate_left
 ·omega
 rcases h with ⟨h,-⟩ | ⟨h,-⟩ | ⟨h,-⟩ | ⟨h,-⟩ | ⟨h,-⟩ | ⟨h,-⟩<;>omega
theorem OutK.pcs {d:Dd} {o q:Nat} {nd:Int} {r:Int × Kt × Mem} (h:OutK w0 R C X V d o q n qc ml nd ph r w) (h0:r.1=0):1<=r.2.1.pc/\r.2.1.pc≠8:=by
 obtain ⟨X',G',FU',qc',n',ml',ms',h1,h2,h3,h4,h5,h6,h7,h8,h9⟩:=h;obtain ⟨ps,rs,-,g2,-⟩:=h7 h0;exact g2.pcs
theorem act_op (d:Dd) (f:Mem) (h8:K.pc≠8):actK C d K f=((opM C d K f).1,{ (opM C d K f).2.1 with pc:=if (opM C d K f).1=0 then (opM C d K f).2.1.pc else 0 },(opM C d K f).2.2):=by
 unfold actK;rw [if_neg h8]
theorem act_give (d:Dd) (f:Mem) (h8:K.pc=8):actK C d K f=(if (giveM C K.T f).1=0 then (0,{ K with T:=(giveM C K.T f).2.1 },(giveM C K.T f).2.2) else ((giveM C K.T f).1,{ K with T:={ (giveM C K.T f).2.1 with pc:=0 },pc:=0 },(giveM C K.T f).2.2)):=by
 unfold actK;rw [if_pos h8]
theorem KOk.gv {d:Dd} {N:Int} (hC:COk C) (hF:OkF C (getL ml)) (h:KOk C ds B d K) (h8:K.pc=8) (hB:B+1<=1000000) (hn:n < maxLen) (hml:ml.length<=999999) (hN:0<=N/\N<=4000000):GvOk C K.T ml n N:=by
 have h4:K.T.pc=4:=by have:=h.tp; rw [if_neg (by omega),if_neg (by omega),if_pos h8] at this; exact this
 have hl:=hC.l;have hs:=hC.s;have hlen:=h.t.len;refine ⟨hn,h.t.ghu,h.t.gpc,fun h2=>?_,by omega,hF.u,fun h3=>by have:=h.t.gv h4 (by omega); omega,hml,hN⟩
 rcases hq:K.T.ql with _ | ⟨⟨x,y,z⟩,t⟩
 ·exact absurd hq (h.t.give h4 (by omega))
 ·have:=h.t.ql (x,y,z) (by rw [hq]; simp);obtain ⟨h1,h2,rfl⟩:=this;dsimp only at h1 h2;exact ⟨x,y,t,rfl,by omega,by omega⟩
theorem step_K (hg:Glo w0) (hC:COk C) (hF:OkF C (getL ml)) (hS:LnkF C (getL ml)) (h:KOk C ds B (lastD ds K) K) (hB:B+1<=1000000) (hos:OsAt w0 R X.dA ds) (hdn:X.dn=ds.length) (hdl:ds.length<=1000) (hdI:∀ i,i < ds.length->InU (ds.getD i default).key/\InU (ds.getD i default).val) (hk1:C.k=2) (hcb:chkI 2 C.s C.b C.h C.l=0) (hR9:∀ d,In64 (rtM C d)) (hop:∀ i,i < ds.length->(ds.getD i default).ok=8\/opI 2 C.s C.b C.h C.l (ds.getD i default).ok (ds.getD i default).key (ds.getD i default).val (ds.getD i default).lv=0) (hn:n < maxLen) (hml:ml.length<=999999) (hN:0<=X.N/\X.N<=4000000)
  (hM:MchK C (lastD ds K) X.c K po pq pg ph st ms)
  (hE:Env w0 (LT (SPK C X V K (getL ml) G qc n) (LU (SRK C X V K FU ml) (boxI X.thr (thk X.c X.u X.dA X.dn X.dc K.T.nd (decide (K.pc≠0)) po pq pg ph st)::(ms++R)))) w) :
  Calls prog 28 #[.pointer (some ⟨X.thr,0,none⟩),.pointer (some ⟨V.p,0,none⟩),.pointer (some ⟨V.m,0,none⟩)] w fun e w'=>e=.returned (.bool true)/\OutT w0 R C X V (lastD ds (stepK C ds K (getL ml)).2.1) n qc (idleK ds K) ml (stepK C ds K (getL ml)) w':=by
 have hgd:∀ i,i < ds.length->ds.getD i ⟨0,0,0,0,0⟩=ds.getD i default:=fun i hi=>by
  simp [List.getD_eq_getElem?_getD,List.getElem?_eq_getElem hi]
 by_cases h0:K.pc=0
 ·have hb:decide (K.pc≠0)=false:=by simp [h0]
  rw [hb] at hE;have hE1:Env w0 (LT (SPK C X V K (getL ml) G qc n) (LU (SRK C X V K FU ml) (boxI X.thr (thk X.c X.u X.dA X.dn X.dc K.T.nd false po pq pg ph st)::R))) w:=(hE.perm (show List.Perm _ (ms++_) from perm_of fun z=>by simp only [LT,LU,List.count_append,List.count_cons]; omega)).sub (List.sublist_append_right ms _)
  by_cases hlt:K.T.nd < ds.length
  ·obtain ⟨d,hd⟩:∃ d,ds.getD K.T.nd default=d:=⟨_,rfl⟩;have hst:stepK C ds K (getL ml)=actK C d (beginK C d K) (getL ml):=by
    unfold stepK;rw [if_pos h0,if_pos hlt,hgd _ hlt,hd]
   have hb:=begin_keep hC h h0 hlt d;have hdi:=hdI _ hlt;have hoi:=hop _ hlt;rw [hd] at hdi hoi;rw [hst,show idleK ds K=false by unfold idleK; simp [hlt]];have hl9:∀ K9:Kt,K9.T.nd=K.T.nd+1->lastD ds K9=d:=fun K9 h9=>by
    unfold lastD;rw [h9,Nat.add_sub_cancel,hgd _ hlt,hd]
   by_cases h8:d.ok=8
   ·have hbk:beginK C d K={ K with pc:=8,T:={ K.T with pc:=4,nd:=K.T.nd+1,gpc:=0,gh:=0,gg:=0 } }:=by unfold beginK; rw [if_pos h8]
    have hpc:(beginK C d K).pc=8:=by rw [hbk]
    have hl:=hl9 (actK C d (beginK C d K) (getL ml)).2.1 (by rw [act_give d _ hpc]; split<;>exact (giveM_keep (C:=C) (T:=(beginK C d K).T) (f:=getL ml)).2.1.trans hb.2.2);rw [hl,act_give d _ hpc];have hE2:Env w0 (LT (SPK C X V (beginK C d K) (getL ml) G qc n) (LU (SRK C X V (beginK C d K) FU ml) (boxI X.thr (thk X.c X.u X.dA X.dn X.dc K.T.nd false po pq pg ph st)::R))) w:=by rw [hbk]; exact hE1
    refine (stepGiveB_k (K:=beginK C d K) hg (hb.1.gv hC hF hpc hB hn hml hN) (by rw [hbk]; exact ⟨rfl,rfl,rfl⟩) hos hdn hlt hdl hd h8 hE2).mono ?_;rintro e w' ⟨he,a,b,ho⟩;exact ⟨he,ho.toT hpc h8 (by rw [(giveM_keep (C:=C) (T:=(beginK C d K).T) (f:=getL ml)).2.1,hb.2.2]; rfl)⟩
   ·have hbk:beginK C d K={ findM C d K with T:={ K.T with nd:=K.T.nd+1 },err:=0,dn:=false,vl:=0 }:=by unfold beginK; rw [if_neg h8]
    have hpc:(beginK C d K).pc=1:=by rw [hbk]; rfl
    have hon:(beginK C d K).on=false:=by rw [hbk]; rfl
    have hl:=hl9 (actK C d (beginK C d K) (getL ml)).2.1 (by rw [act_op d _ (by omega)]; exact (opM_nd C d (beginK C d K) (getL ml)).trans hb.2.2);rw [hl,act_op d _ (by omega)];have hE2:Env w0 (LT (SPK C X V (beginK C d K) (getL ml) G qc n) (LU (SRK C X V (beginK C d K) FU ml) (boxI X.thr (thk X.c X.u X.dA X.dn X.dc K.T.nd false po pq pg ph st)::R))) w:=by rw [hbk]; exact hE1
    refine (stepOpB_k (K:=beginK C d K) hg (hb.1.kc hC (hR9 _) hF hS (by omega) (by omega) hdi hB hn) (hb.1.kr hC hF hml hN (kinds2 h8 (hoi.resolve_left h8)) (cb_of hcb) hdi.1) hpc hon hos hdn hlt hdl hd h8 hk1 hcb (hoi.resolve_left h8) hE2).mono ?_;rintro e w' ⟨he,o,q,ho⟩;exact ⟨he,ho.toT h8 ho.pcs (by rw [opM_nd,hb.2.2]; rfl)⟩
  ·have hst:stepK C ds K (getL ml)=(0,K,getL ml):=by
    unfold stepK;rw [if_pos h0,if_neg hlt]
   rw [hst];refine (stepNo_b (p:=V.p) (m:=V.m) (thr:=X.thr) (c:=X.c) (u:=X.u) (dA:=X.dA) (dn:=X.dn) (dc:=X.dc) (nd:=K.T.nd) (po:=po) (pq:=pq) (pg:=pg) (ph:=ph) (st:=st) (L:=LT (SPK C X V K (getL ml) G qc n) (LU (SRK C X V K FU ml) R)) (hE1.perm (perm_of fun z=>by simp only [LT,LU,List.count_append,List.count_cons]; omega)) (fun v hv=>beginNo_b (by omega) hv)).mono ?_;rintro e w' ⟨he,hF9⟩;refine ⟨he,X,G,FU,qc,n,ml,[],po,pq,pg,ph,⟨rfl,rfl,rfl,rfl,rfl,rfl,rfl⟩,rfl,by omega,⟨by omega,fun h=>by unfold idleK at h; simp [h0,hlt] at h,fun _=>rfl⟩,hN.1,hN.2,.inl ⟨h0,fun _=>rfl,fun h9=>absurd rfl h9⟩,?_⟩;show Env w0 (LT _ (LU _ (boxI X.thr (thk X.c X.u X.dA X.dn X.dc K.T.nd (decide (K.pc≠0)) po pq pg ph 0)::([]++R)))) w';rw [hb];exact hF9.perm (perm_of fun z=>by simp only [LT,LU,List.nil_append,List.count_append,List.count_cons]; omega)
 ·have hnd:=h.nd h0;have hlt:K.T.nd - 1 < ds.length:=by have:=h.t.nd; omega
  have hb:decide (K.pc≠0)=true:=by simp [h0]
  rw [hb] at hE;have hst:stepK C ds K (getL ml)=actK C (lastD ds K) K (getL ml):=by
   unfold stepK;rw [if_neg h0];rfl
  have hdi:InU (lastD ds K).key/\InU (lastD ds K).val:=by unfold lastD; rw [hgd _ hlt]; exact hdI _ hlt
  have hl9:∀ K9:Kt,K9.T.nd=K.T.nd->lastD ds K9=lastD ds K:=fun K9 h9=>by
   unfold lastD;rw [h9]
  rw [hst,show idleK ds K=false by unfold idleK; simp [h0]];have hop9:(lastD ds K).ok=8\/opI 2 C.s C.b C.h C.l (lastD ds K).ok (lastD ds K).key (lastD ds K).val (lastD ds K).lv=0:=by unfold lastD; rw [hgd _ hlt]; exact hop _ hlt
  rcases hM with ⟨h9,-⟩ | ⟨h1,h7,h88,o,q,ps,rs,rfl,rfl,rfl,rfl,hP,hR⟩ | ⟨h8,hd8,a,b,rfl,rfl,rfl⟩
  ·exact absurd h9 h0
  ·have hl:=hl9 (actK C (lastD ds K) K (getL ml)).2.1 (by rw [act_op _ _ (by omega)]; exact opM_nd C _ K (getL ml));rw [hl,act_op _ _ (by omega)];refine (stepOp_k hg (h.kc hC (hR9 _) hF hS h1 h7 hdi hB hn) (h.kr hC hF hml hN (kinds2 h88 (hop9.resolve_left h88)) (cb_of hcb) hdi.1) hP hR hE).mono ?_;rintro e w' ⟨he,ho⟩;exact ⟨he,ho.toT h88 ho.pcs (by rw [opM_nd])⟩
  ·have hl:=hl9 (actK C (lastD ds K) K (getL ml)).2.1 (by rw [act_give _ _ h8]; split<;>exact (giveM_keep (C:=C) (T:=K.T) (f:=getL ml)).2.1);rw [hl,act_give _ _ h8];refine (stepGive_k hg (h.gv hC hF h8 hB hn hml hN) hE).mono ?_;rintro e w' ⟨he,ho⟩;exact ⟨he,ho.toT h8 hd8 (by rw [(giveM_keep (C:=C) (T:=K.T) (f:=getL ml)).2.1])⟩
end
theorem list_any {w:World} {q k:Nat} {F:Nat->Prop} {l:List Trip} (hQ:IsQ w q F l k) :
  Calls prog 73 #[.pointer (some ⟨q,0,none⟩)] w fun e w'=>∃ b,e=.returned (.slice (some ⟨b,0,none⟩) l.length l.length)/\Blk 0 w' b (flat3 l)/\w.heap.size<=b/\Below w.heap.size w w':=by
 obtain ⟨hl1,hl2,hk2,hk⟩:=hQ.len;have hQ0:=zH hQ;obtain ⟨R,g,r,hq,hr,hring,_,_,hne,hF⟩:=hQ;have hrl:=hring.1;have h4:=pow_four hk2;have HA:=zH fun j w'=>at_any R k (g+j) w' hk;have hcell:∀ j,j < l.length->∀ w',Blk 0 w' R (flat3 r)->w'.cell? ⟨R,(g+j) % 2 ^ k * 3,none⟩=some (.int .i64 (l.getD j t0).1)/\w'.cell? ⟨R,(g+j) % 2 ^ k * 3+1,none⟩=some (.int .i64 (l.getD j t0).2.1)/\w'.cell? ⟨R,(g+j) % 2 ^ k * 3+2,none⟩=some (.int .i64 (l.getD j t0).2.2):=fun j hj w' h=>by
  have hlt:(g+j) % 2 ^ k < 2 ^ k:=Nat.mod_lt _ (by omega);have e:=fun c hc=>(h.rule ((g+j) % 2 ^ k * 3+c)).trans (flat3_get r ((g+j) % 2 ^ k) c (by omega) hc);rw [hring.at j hj] at e;exact ⟨e 0 (by omega),e 1 (by omega),e 2 (by omega)⟩
 have HC:=zH hcell;have HG:=zH (round_up g);have HQB:=zH (And.intro hq hr);have hlz:=fill3_zero l;clear hcell hq hr hring hF hrl h4;go_enter func73,ntmps73;go_wp2_with fail;refine (len_any hQ0.out).mono ?_;rintro e w1 ⟨rfl,hb⟩;clear hQ0;go_wp2_with (refine wpList_make3 _ rfl _ _ 151 rfl 158 Tryz.underlying151 infoEnt .i64 .i64 _ _ l.length rfl rfl rfl rfl (by omega) ?_);have hB0:=Blk.new 0 w1 (flat3 (List.replicate l.length t0)) 158;have hE0:=hb.alloc hb.size (.cells (flat3 (List.replicate l.length t0)).toArray 158);have hs0:=hb.size;clear hb;generalize hb1:w1.heap.size=b at *;clear hb1;generalize w1.alloc (.cells (flat3 (List.replicate l.length t0)).toArray 158)=w2 at *;rw [<- hlz] at hB0;clear hlz
 go_loopw [4,10] (fun _ i wr=>∃ j:Nat,j<=l.length/\i=.int .i64 j/\Blk 0 wr b (flat3 (fill3 l j))/\Below w.heap.size w wr) (fun _ i _=>l.length - (intOf i).toNat)
 case atStart=>exact ⟨0,by omega,rfl,hB0,hE0⟩
 case round =>
  obtain ⟨j,hj,rfl,hf,hB⟩:=hrel;clear hB0 hE0
  by_cases hlt:j < l.length
  ·have hc:=HC.out j hlt;have hw:=round_nat j (by omega);have hg:=HG.out j;have HAj:=zH (HA.out j);have hq5:Blk 0 wr q _:=HQB.out.1.kept hB.size (hB.block _ HQB.out.1.1);have hr5:Blk 0 wr R _:=HQB.out.2.kept hB.size (hB.block _ HQB.out.2.1);have hqb:q≠b/\R≠b:=⟨by have:=HQB.out.1.1; omega,by have:=HQB.out.2.1; omega⟩;have hnx:=hf;have HNX:=zH (And.intro (fill3_next l hlt) (fill3_length l hj));clear HC HG HA HQB hnx;unfold qv at hq5;generalize l.getD j t0=xx at *;generalize (cnt g)=G at *;generalize (cnt (g+j))=GJ at *;generalize (cnt (g+l.length))=C at *;generalize (g+j) % 2 ^ k=p at *;generalize 2 ^ k=N at *;obtain ⟨x,y,z⟩:=xx;simp only at hc;have HC:=zH hc;clear hc;generalize hLN:l.length=ln at *;have HLN:=zH hLN;clear hLN;go_wp2_with fail;refine Ord.wc [17] (fun w'=>Blk 0 w' q [.slice (some ⟨R,0,none⟩) N N,.int .u64 G,.int .u64 C]/\Blk 0 w' R (flat3 r)) (fun m w'=>w.heap.size<=w'.heap.size/\Below w.heap.size w w'/\Blk 0 w' b (flat3 (if m=0 then fill3 l j else (fill3 l j).set j (x,y,z)))) ⟨hq5.drew,hr5.drew⟩ ⟨hB.size,hB.drew,hf.drew⟩ fun hT9=>?_
   repeat ((first
    | (refine Ord.cv ?_ hT9.o ?_ ?_; rotate_left; (intro w5 hS; have r:=Blk.rule hS.1; obtain ⟨c0,c1,c2⟩:=HC.out _ hS.2; go_simp<;>rfl))
    | (refine Ord.co hT9.o ?_)
    | (refine Ord.cc ?_ ?_ ?_ hT9.o ?_ ?_ ?_; rotate_left 3; (intro w5 hS; have r:=Blk.rule hS.1; obtain ⟨c0,c1,c2⟩:=HC.out _ hS.2; go_simp; constructor<;>rfl); (intro w5 hS; (first | (with_reducible refine (HAj.out w5).mono ?_; rintro e w6 ⟨rfl,rfl⟩; constructor; rfl; exact ⟨hS,fun _ h=>h⟩)))));try simp only [Act.put,zA,zZ,zS])
   refine Ord.ch_turn (v:=undef) 0 hT9.o rfl (by decide) (Or.inl rfl) (by rfl) ?_ ?_
   ·rintro w5 hS ⟨hA0,hA1,hA2⟩;simp only [if_true] at hA2;have hcells:=fun c hc=>(hA2.rule (j * 3+c)).trans (flat3_get _ j c (by rw [HNX.out.2]; exact hlt) hc);have r0:=hcells 0 (by omega);have r1:=hcells 1 (by omega);have r2:=hcells 2 (by omega);simp only [Nat.add_zero,enc3,List.getElem?_cons_zero,List.getElem?_cons_succ] at r0 r1 r2;have hfl:=flat3_length (fill3 l j);rw [HNX.out.2] at hfl;have f0:=hA2.thaw (j * 3) (by omega);have f1:=hA2.thaw (j * 3+1) (by omega);have f2:=hA2.thaw (j * 3+2) (by omega);clear hcells;go_simp;refine ⟨rfl,⟨((hS.1.off hqb.1 _).off hqb.1 _).off hqb.1 _,((hS.2.off hqb.2 _).off hqb.2 _).off hqb.2 _⟩,by simpa using hA0,?_,?_⟩
    ·exact below_set (below_set (below_set hA1 (by omega) hs0 _) (by simp; omega) hs0 _) (by simp; omega) hs0 _
    ·exact Blk.set3 hA2 (by rw [HNX.out.2]; exact hlt) (x,y,z)
   try simp only [Act.put,zA,zZ,zS]
   repeat ((first
    | (refine Ord.cv ?_ hT9.o ?_ ?_; rotate_left; (intro w5 hS; skip; go_simp<;>rfl))
    | (refine Ord.co hT9.o ?_));try simp only [Act.put,zA,zZ,zS])
   refine Ord.InText.nil fun w5 hS=>?_;clear hT9;obtain ⟨hC9,hA9⟩:=Ord.chain_end hS;clear hS;obtain ⟨hA0,hA1,hA2⟩:=hA9;rw [if_neg (by decide),HNX.out.1] at hA2;go_wp2_with fail;exact ⟨⟨j+1,by omega,by simp,hA2,hA1⟩,by simp [intOf]; omega⟩
  ·go_wp2_with fail;have:j=l.length:=by omega
   subst this;rw [fill3_all] at hf;go_ret;exact ⟨b,rfl,hf,hs0,hB⟩
section
variable {w0 w:World} {R:List Item} {C:Cf} {X:Tm} {V:Wm} {K:Kt} {nd st:Int} {bz:Bool} {po pq pg ph:Value} {G FU:Nat->Prop} {qc:Cnt} {n:Nat} {f:Mem} {ml:List OneR}
theorem same_k (hq:K.T.ql.length<=1000000) (hE:Env w0 (LT (SPK C X V K f G qc n) (LU (SRK C X V K FU ml) (boxI X.thr (thk X.c X.u X.dA X.dn X.dc nd bz po pq pg ph st)::R))) w) :
  Calls prog 29 #[.pointer (some ⟨X.thr,0,none⟩)] w fun o w'=>o=.returned (.bool true)/\Env w0 (LT (SPK C X V K f G qc n) (LU (SRK C X V K FU ml) (boxI X.thr (thk X.c X.u X.dA X.dn X.dc nd bz po pq pg ph st)::R))) w':=by
 have r7:=hE.rule 7 rfl;unfold thk at r7;have hb0:Blk 0 w X.c (crv C.k C.s C.b C.h C.l K.T.e K.r K.T.hs 0 X.q):=hE.get 0 rfl;have hq0:IsQ w X.q X.F K.T.ql X.kq:=hE.queue 1 rfl;go_enter func29,ntmps29;go_wp2_with fail;refine (queue_c hb0).mono ?_;rintro o w1 ⟨rfl,rfl⟩;go_wp2_with fail;refine (list_any hq0).mono ?_;rintro o w2 ⟨bL,rfl,hL,hbL,hb⟩;replace hE:=hE.add (boxI bL (flat3 K.T.ql)) hb hL (fun y hy=>by cases hy; exact ⟨hbL,hL.1⟩);clear hb hL hbL r7 hb0 hq0;have hb0:Blk 0 w2 X.c (crv C.k C.s C.b C.h C.l K.T.e K.r K.T.hs 0 X.q):=hE.get 1 rfl;have r7:=hE.rule 8 rfl;unfold thk at r7;go_wp2_with fail;refine (held_c hb0).mono ?_;rintro o w3 ⟨rfl,hb⟩;replace hE:=hE.over hb;replace hE:=hE.box w3.heap.size rfl [.int .i64 K.T.hs,.int .i64 0] 136;clear hb r7 hb0;go_wp2_with fail;generalize w3.alloc _=w4 at *;generalize w3.heap.size=Z at *;replace hE:Env w0 (boxI bL (flat3 K.T.ql)::boxI Z [.int .i64 K.T.hs,.int .i64 0]::LT (SPK C X V K f G qc n) (LU (SRK C X V K FU ml) (boxI X.thr (thk X.c X.u X.dA X.dn X.dc nd bz po pq pg ph st)::R))) w4:=hE.perm (List.Perm.swap _ _ _);have HCU:Hid (∀ y,Env w0 (boxI bL (flat3 K.T.ql)::boxI Z [.int .i64 K.T.hs,.int .i64 0]::LT (SPK C X V K f G qc n) (LU (SRK C X V K FU ml) (boxI X.thr (thk X.c X.u X.dA X.dn X.dc nd bz po pq pg ph st)::R))) y->y.cell? ⟨X.u,6,none⟩=some (.slice X.A K.T.ql.length X.rc)/\y.cell? ⟨X.u,8,none⟩=some (.int .i64 K.T.hs)/\y.cell? ⟨X.u,5,none⟩=some (.int .i64 K.T.e)/\y.cell? ⟨X.u,9,none⟩=some (.int .i64 K.r)):=zH fun y hy=>⟨hy.rule 6 rfl 6,hy.rule 6 rfl 8,hy.rule 6 rfl 5,hy.rule 6 rfl 9⟩;have HEP:Hid (∀ y,Env w0 (boxI bL (flat3 K.T.ql)::boxI Z [.int .i64 K.T.hs,.int .i64 0]::LT (SPK C X V K f G qc n) (LU (SRK C X V K FU ml) (boxI X.thr (thk X.c X.u X.dA X.dn X.dc nd bz po pq pg ph st)::R))) y->Calls prog 75 #[.pointer (some ⟨X.c,0,none⟩)] y fun o w'=>o=.returned (.int .i64 K.T.e)/\w'=y):=zH fun y hy=>epoch_c (show Blk 0 y X.c (crv C.k C.s C.b C.h C.l K.T.e K.r K.T.hs 0 X.q) from hy.get 2 rfl);have HRO:Hid (∀ y,Env w0 (boxI bL (flat3 K.T.ql)::boxI Z [.int .i64 K.T.hs,.int .i64 0]::LT (SPK C X V K f G qc n) (LU (SRK C X V K FU ml) (boxI X.thr (thk X.c X.u X.dA X.dn X.dc nd bz po pq pg ph st)::R))) y->Calls prog 76 #[.pointer (some ⟨X.c,0,none⟩)] y fun o w'=>o=.returned (.int .i64 K.r)/\w'=y):=zH fun y hy=>rolls_c (show Blk 0 y X.c (crv C.k C.s C.b C.h C.l K.T.e K.r K.T.hs 0 X.q) from hy.get 2 rfl);refine wp_text (S:=(Env w0 (boxI bL (flat3 K.T.ql)::boxI Z [.int .i64 K.T.hs,.int .i64 0]::LT (SPK C X V K f G qc n) (LU (SRK C X V K FU ml) (boxI X.thr (thk X.c X.u X.dA X.dn X.dc nd bz po pq pg ph st)::R))))) (by kernel_rfl) (by kernel_rfl) hE.drew (fun hT=>?_);have hT9:=zH hT;clear hT
 repeat ((first
  | (refine text_value (v:=?_) hT9.o (by rfl) ?_ ?_; rotate_left; (intro w5 hS; obtain ⟨q6,q8,q5,q9⟩:=HCU.out _ hS; have r1:=hS.rule 1 rfl; have r9:=hS.rule 9 rfl; unfold thk at r9; go_simp<;>rfl))
  | (refine text_off hT9.o (by rfl) ?_)
  | (refine text_call (v:=?_) (f:=?_) (args:=?_) hT9.o (by rfl) ?_ ?_ ?_; rotate_left 3; (intro w5 hS; obtain ⟨q6,q8,q5,q9⟩:=HCU.out _ hS; have r1:=hS.rule 1 rfl; have r9:=hS.rule 9 rfl; unfold thk at r9; go_simp; constructor<;>rfl); (intro w5 hS; (first | (with_reducible refine (HEP.out _ hS).mono ?_; rintro o w6 ⟨rfl,rfl⟩; constructor; rfl; exact hS) | (with_reducible refine (HRO.out _ hS).mono ?_; rintro o w6 ⟨rfl,rfl⟩; constructor; rfl; exact hS)))));try simp only [Act.put,zA,zZ,zS])
 refine InText.nil fun w5 hS5=>?_;clear hT9;clear hE HEP HRO HCU;go_wp2_with fail;generalize (K.T.hs != 0)=bh at *;have hE5:=hS5;clear hS5
 go_loopw [6] (fun kv v=>∃ z:Nat,z<=K.T.ql.length/\kv=.int .i64 z/\Env w0 (boxI bL (flat3 K.T.ql)::boxI Z [.int .i64 K.T.hs,.int .i64 0]::LT (SPK C X V K f G qc n) (LU (SRK C X V K FU ml) (boxI X.thr (thk X.c X.u X.dA X.dn X.dc nd bz po pq pg ph st)::R))) v) (fun kv _=>K.T.ql.length - (intOf kv).toNat)
 case atStart=>exact ⟨0,Nat.zero_le _,rfl,hE5⟩
 case round =>
  clear hE5;obtain ⟨z,hz,rfl,hE5⟩:=hrel
  by_cases hzl:z < K.T.ql.length
  ·have hb3:decide ((z:Int) < K.T.ql.length)=true:=by simp; omega
   have hz1:(z:Int) < (K.T.ql.length:Int):=by omega
   rcases hE5.cells3 7 rfl rfl with h0 | ⟨g,off2,hA,-,-⟩
   ·have h0':K.T.ql=[]:=h0;rw [h0'] at hzl;simp at hzl
   have hA9:X.A=some ⟨g,off2,none⟩:=hA;obtain ⟨⟨ex,ey,ez⟩,he⟩:∃ t,K.T.ql.getD z t0=t:=⟨_,rfl⟩;have HC2:Hid (∀ y,Env w0 (boxI bL (flat3 K.T.ql)::boxI Z [.int .i64 K.T.hs,.int .i64 0]::LT (SPK C X V K f G qc n) (LU (SRK C X V K FU ml) (boxI X.thr (thk X.c X.u X.dA X.dn X.dc nd bz po pq pg ph st)::R))) y->y.cell? ⟨X.u,6,none⟩=some (.slice (some ⟨g,off2,none⟩) K.T.ql.length X.rc)/\y.cell? ⟨g,off2+z * 3,none⟩=some (.int .i64 ex)/\y.cell? ⟨g,off2+z * 3+1,none⟩=some (.int .i64 ey)/\y.cell? ⟨bL,z * 3,none⟩=some (.int .i64 ex)/\y.cell? ⟨bL,z * 3+1,none⟩=some (.int .i64 ey)):=zH fun y hy=>by
    refine ⟨by rw [<- hA9]; exact hy.rule 6 rfl 6,?_,?_,?_,?_⟩
    ·rcases hy.cells3 7 rfl rfl with h0 | ⟨g',off',hA',-,hc⟩
     ·have h0':K.T.ql=[]:=h0;rw [h0'] at hzl;simp at hzl
     ·rw [hA] at hA';cases hA';have h9:CellsAt y g (off2+z * 3) (enc3 (ex,ey,ez)):=by
       have:=hc z hzl;rw [show (SRK C X V K FU ml).ql.getD z default=(ex,ey,ez) from he] at this;exact this
      exact (at3 h9).1
    ·rcases hy.cells3 7 rfl rfl with h0 | ⟨g',off',hA',-,hc⟩
     ·have h0':K.T.ql=[]:=h0;rw [h0'] at hzl;simp at hzl
     ·rw [hA] at hA';cases hA';have h9:CellsAt y g (off2+z * 3) (enc3 (ex,ey,ez)):=by
       have:=hc z hzl;rw [show (SRK C X V K FU ml).ql.getD z default=(ex,ey,ez) from he] at this;exact this
      exact (at3 h9).2.1
    ·have:=(hy.rule 0 rfl (z * 3+0)).trans (flat3_get K.T.ql z 0 hzl (by omega));rw [he] at this
     simpa [enc3] using this
    ·have:=(hy.rule 0 rfl (z * 3+1)).trans (flat3_get K.T.ql z 1 hzl (by omega));rw [he] at this
     simpa [enc3] using this
   clear hA hA9 he;go_wp2_with fail;refine wp_text (S:=(Env w0 (boxI bL (flat3 K.T.ql)::boxI Z [.int .i64 K.T.hs,.int .i64 0]::LT (SPK C X V K f G qc n) (LU (SRK C X V K FU ml) (boxI X.thr (thk X.c X.u X.dA X.dn X.dc nd bz po pq pg ph st)::R))))) (by kernel_rfl) (by kernel_rfl) hE5.drew (fun hT=>?_);have hT9:=zH hT;clear hT
   repeat ((first
    | (refine text_value (v:=?_) hT9.o (by rfl) ?_ ?_; rotate_left; (intro w5 hS; obtain ⟨q6,q7,q8,q9,q10⟩:=HC2.out _ hS; have r9:=hS.rule 9 rfl; unfold thk at r9; go_simp<;>rfl))
    | (refine text_off hT9.o (by rfl) ?_)
    | (refine text_call (v:=?_) (f:=?_) (args:=?_) hT9.o (by rfl) ?_ ?_ ?_; rotate_left 3; (intro w5 hS; obtain ⟨q6,q7,q8,q9,q10⟩:=HC2.out _ hS; have r9:=hS.rule 9 rfl; unfold thk at r9; go_simp; constructor<;>rfl); (intro w5 hS; (first | fail))));try simp only [Act.put,zA,zZ,zS])
   refine InText.nil fun w5 hS5=>?_;clear hT9;clear hE5 HC2;go_wp2_with fail;exact ⟨⟨z+1,by omega,by simp,hS5⟩,by simp [intOf]; omega⟩
  ·have hb3:decide ((z:Int) < K.T.ql.length)=false:=by simp; omega
   go_wp2_with fail;go_ret;exact ⟨rfl,hE5.sub (.cons _ (.cons _ (List.Sublist.refl _)))⟩
end
def tps (cs:List Nat):List Value:=cs.map fun c=>.pointer (some ⟨c,0,none⟩)
theorem tps_append (a b:List Nat):tps (a++b)=tps a++tps b:=by simp [tps]
def tpsI (v:Value) (cs:List Nat):Item:=rowI v 68 1 cs.length (tps cs)
theorem infoTp:(prog.info? 68).map (fun i=>(i.zero,i.size,i.bytes))=some (some (.pointer none),1,8):=by kernel_rfl
section
variable {w0 w w':World} {L:List Item}
theorem Env.tpRow (h:Env w0 L w) (i:Nat) {v:Value} {cs:List Nat} (hi:L[i]?=some (tpsI v cs)):w.ownsRow 0 68 1 v cs.length (tps cs):=h.get i hi
theorem Env.tpAt (h:Env w0 L w) (i:Nat) {g n cap:Nat} {cs:List Nat} (hi:L[i]?=some (tpsI (.slice (some ⟨g,0,none⟩) n cap) cs)) (j:Nat) (hj:j < cs.length):w.cell? ⟨g,j,none⟩=some (.pointer (some ⟨cs.getD j 0,0,none⟩)):=by
 have ho:=h.tpRow i hi
 rcases ho.2 with ⟨_,h0⟩ | ⟨g',cap',cur,hv,_,hg,hn,hc,hcs,htk⟩
 ·omega
 ·simp only [Value.slice.injEq,Option.some.injEq,Addr.mk.injEq] at hv;obtain ⟨⟨rfl,-⟩,-,rfl⟩:=hv;have h1:(tps cs)[j]?=some (.pointer (some ⟨cs.getD j 0,0,none⟩)):=by simp [tps,hj]
  rw [<- h1,<- htk,List.getElem?_take_of_lt (by omega)];simp [World.cell?,hg]
theorem Env.tpEmpty (h:Env w0 L w) (n:Nat) (hn:w.heap.size=n):Env w0 (tpsI (.slice (some ⟨n,0,none⟩) 0 0) []::L) (w.alloc (.cells #[] 68)):=by
 subst hn;have ho:(w.alloc (.cells #[] 68)).ownsRow w.heap.size 68 1 (.slice (some ⟨w.heap.size,0,none⟩) 0 0) 0 []:=⟨rfl,.inr ⟨w.heap.size,0,#[],rfl,Nat.le_refl _,heap_alloc_new w _,Nat.le_refl _,Nat.zero_le _,rfl,rfl⟩⟩;exact h.add (tpsI (.slice (some ⟨w.heap.size,0,none⟩) 0 0) []) ((Below.refl _ _).alloc (Nat.le_refl _) _) (ownsRow_base ho (Nat.zero_le _)) fun k hk=>ho.lt k hk
end
def C9:Cf:=⟨2,4,3,1,9⟩
def d17 (i:Nat):Dd:=⟨0,if i<=1 then 4 else if i=2 then 5 else if i=3 then 7 else if i=4 then 6 else 5,5,if i<=2 then (i:Int)+1 else if i=5 then 4 else 0,0⟩
def T0:Th:=⟨0,[],0,0,0,0,0,0,0,0,0,0,0,0,0,0,false⟩
def K0:Kt:=⟨T0,0,false,L0 (4,0,0),false,false,L0 (4,0,0),0,false,0,0,0⟩
def f0:Mem:=fun x=>if x=(1,0,0) then 1 else 0
def runJ (d:Dd) (K:Kt) (f:Mem):Nat->Int × Kt × Mem
 | 0=>(0,K,f)
 | n+1=>opM C9 d (runJ d K f n).2.1 (runJ d K f n).2.2
def endK (r:Int × Kt × Mem):Kt:={ r.2.1 with pc:=0 }
def s17 (i:Nat):Nat:=if i=0 then 13 else if i=1 then 28 else if i=2 then 9 else if i=3 then 9 else if i=4 then 13 else 16
def r17 (i:Nat):Bool:=i==1 || i==3 || i==4 || i==5
def v17 (i:Nat):Int:=if i=1 then 1 else if i=2\/i=3\/i=4 then 2 else 0
def at17:Nat->Kt × Mem
 | 0=>(K0,f0)
 | i+1=>(endK (runJ (d17 i) (beginK C9 (d17 i) (at17 i).1) (at17 i).2 (s17 i)),(runJ (d17 i) (beginK C9 (d17 i) (at17 i).1) (at17 i).2 (s17 i)).2.2)
def run17 (i j:Nat):Int × Kt × Mem:=runJ (d17 i) (beginK C9 (d17 i) (at17 i).1) (at17 i).2 j
set_option maxRecDepth 100000 in
theorem busy17:∀ i,i < 6->∀ j,j < s17 i->(run17 i j).1=0/\1<=(run17 i j).2.1.pc/\(run17 i j).2.1.pc≠8:=by decide +kernel
set_option maxRecDepth 100000 in
theorem done17:∀ i,i < 6->(run17 i (s17 i)).1=1/\(run17 i (s17 i)).2.1.err=0/\(run17 i (s17 i)).2.1.dn=r17 i/\(run17 i (s17 i)).2.1.vl=v17 i:=by decide +kernel
set_option maxRecDepth 100000 in
theorem at17_nd:∀ i,i < 7->(at17 i).1.T.nd=i/\(at17 i).1.pc=0:=by decide +kernel
theorem rt17:∀ i,i < 6->rtM C9 (d17 i)=buI 3 5:=by decide +kernel
theorem bu17:0<=buI 3 5/\buI 3 5 < 3:=buI_in 5 (by omega)
theorem setRow_alloc (w:World) (g:Nat) (old cs:Array Value) (t:TypeId) (hg:g=w.heap.size):(w.alloc (.cells old t)).setRow g cs=w.alloc (.cells cs t):=by
 subst hg;have h9:(w.heap.push (Obj.cells old t)).modify w.heap.size (fun o=>match o with | .cells _ elem frozen=>.cells cs elem frozen | o=>o)=w.heap.push (.cells cs t):=by
  apply Array.ext
  ·simp
  ·intro i h1 h2;rw [Array.getElem_modify]
   by_cases hi:w.heap.size=i
   ·subst hi; simp
   ·rw [if_neg hi]; simp at h2; rw [Array.getElem_push_lt (by omega),Array.getElem_push_lt (by omega)]
 show ({ w.alloc (.cells old t) with heap:=(w.heap.push (Obj.cells old t)).modify w.heap.size _ }:World)=_;exact congrArg (fun h=>({ w.alloc (.cells old t) with heap:=h }:World)) h9
theorem alloc_last (w:World) (o:Obj):(w.alloc o).heap[w.heap.size]?=some o:=by show (w.heap.push o)[w.heap.size]?=some o; exact Array.getElem?_push_size
theorem hash_t (s b l:Int) (w:World):Calls prog 68 #[.int .i64 s,.int .i64 b,.int .i64 l] w fun e w'=>e=.returned (.agg #[.int .i64 2,.int .i64 s,.int .i64 b,.int .i64 1,.int .i64 l])/\Below w.heap.size w w':=by
 go_enter func68,ntmps68
 go_wp2
 exact bodyPost_ret (v:=.agg #[.int .i64 2,.int .i64 s,.int .i64 b,.int .i64 1,.int .i64 l]) (by simp [results,results68,go_sem]) rfl ⟨rfl,(Below.refl _ _).alloc (Nat.le_refl _) _⟩
section
variable {C:Cf} {B:Nat}
theorem T0_ok (hC:COk C) {ds:List Dd} (hd:ds.length<=B):OkT C ds B T0:=by
 have hs:=hC.s;have hl:=hC.l;have hz:slotI 0=0:=by decide
 have hu0:InU 0:=by unfold InU; omega
 exact { e:=(by show (0:Int)<=0/\(0:Int)<=C.l; omega),w:=⟨hu0,hu0,hu0⟩,hs:=(by show (0:Int)<=0/\(0:Int)<=C.s; omega),rs:=(by show (0:Int)<=0/\(0:Int)<=C.s; omega),ql:=(by intro x hx; cases hx),nd:=Nat.zero_le _,len:=(by show 0+(ds.length - 0)<=B; omega),done:=(by show (0:Int)<=0/\(0:Int)<=B; omega),pc:=.inl rfl,p1:=fun h=>no h rfl,nd1:=fun h=>absurd rfl h,apc:=fun h=>no h rfl,low:=fun h=>no h rfl,adv:=fun h=>no h rfl,born:=fun h=>no h rfl,pool:=fun h=>no h rfl,an:=(by show slotI 0<=C.s; omega),rpc:=fun h=>no h rfl,rsp:=fun h=>no h rfl,re:=(by show (0:Int)<=0/\(0:Int)<=C.l; omega),gpc:=Nat.zero_le 3,give:=fun h=>no h rfl,ghu:=hu0,gh:=(by show slotI 0<=C.s; omega),gv:=fun h=>no h rfl }
theorem K0_ok (hC:COk C) {ds:List Dd} {d:Dd} (hd:ds.length<=B):KOk C ds B d K0 :=
 { t:=T0_ok hC hd,tp:=rfl,pc:=Nat.zero_le 9,da:=fun h=>absurd h (by decide),s1:=fun h=>no h rfl,s2:=fun h=>no h rfl,sp:=fun h=>absurd h (by decide),un:=fun h=>absurd h (by decide),to:=fun h=>absurd h (by decide),ins:=fun h=>by rcases h with h | h<;>exact no h rfl,pu:=fun h=>no h rfl,lk:=fun h=>by rcases h with h | h<;>exact no h rfl,ho:=fun h=>absurd rfl h,kk:=fun h=>no h rfl,nd:=fun h=>absurd rfl h }
theorem f0_ok (hC:COk C):OkF C f0/\LnkF C f0:=by
 have hs:=hC.s;have hl:=hC.l;have hz:slotI 0=0:=by decide
 refine ⟨⟨fun x=>?_,?_,fun i=>?_,?_⟩,⟨fun r=>?_,fun i=>?_⟩⟩<;>unfold f0
 ·split<;>(unfold InU; omega)
 ·rw [if_neg (by decide)]; omega
 ·rw [if_neg (by simp)]; omega
 ·rw [if_pos rfl]; omega
 ·rw [if_neg (by simp)]; omega
 ·rw [if_neg (by simp)]; omega
end
theorem ok9:COk C9:=⟨by decide,by decide⟩
def ds17:List Dd:=[⟨0,4,5,1,0⟩,⟨0,4,5,2,0⟩,⟨0,5,5,3,0⟩,⟨0,7,5,0,0⟩,⟨0,6,5,0,0⟩,⟨0,5,5,4,0⟩]
def rowO17:List Value:=[.int .i64 4,.int .u64 5,.int .u64 1,.int .i64 0,.int .i64 4,.int .u64 5,.int .u64 2,.int .i64 0,.int .i64 5,.int .u64 5,.int .u64 3,.int .i64 0,.int .i64 7,.int .u64 5,.int .u64 0,.int .i64 0,.int .i64 6,.int .u64 5,.int .u64 0,.int .i64 0,.int .i64 5,.int .u64 5,.int .u64 4,.int .i64 0]
def rowW17:List Value:=[.int .i64 0,.bool false,.int .u64 0,.int .i64 0,.bool true,.int .u64 1,.int .i64 0,.bool false,.int .u64 2,.int .i64 0,.bool true,.int .u64 2,.int .i64 0,.bool true,.int .u64 2,.int .i64 0,.bool true,.int .u64 0]
def vm (p cc m:Nat):Wm:=⟨p,cc,m,fun _=>False,fun _=>False,⟨0,0,0,0,0⟩,0,[]⟩
def tm0 (c q:Nat):Tm:={ thr:=0,c:=c,q:=q,u:=0,F:=fun _=>False,kq:=2,A:=none,rc:=0,N:=0,cr:=0,ro:=0,dA:=none,dn:=0,dc:=0,pa:=.pointer none,pb:=.pointer none,pr:=.pointer none,pq:=.pointer none,pg:=.pointer none,ph:=.pointer none }
structure RunOk (A:Nat->Kt × Mem) (Rn:Nat->Nat->Int × Kt × Mem):Prop where
 (a0:A 0=(K0,f0))
 (an:∀ i,A (i+1)=(endK (Rn i (s17 i)),(Rn i (s17 i)).2.2))
 (r0:∀ i,Rn i 0=(0,beginK C9 (d17 i) (A i).1,(A i).2))
 (rs:∀ i j,Rn i (j+1)=opM C9 (d17 i) (Rn i j).2.1 (Rn i j).2.2)
 (busy:∀ i,i < 6->∀ j,j < s17 i->(Rn i j).1=0/\1<=(Rn i j).2.1.pc/\(Rn i j).2.1.pc≠8)
 (done:∀ i,i < 6->(Rn i (s17 i)).1=1/\(Rn i (s17 i)).2.1.err=0/\(Rn i (s17 i)).2.1.dn=r17 i/\(Rn i (s17 i)).2.1.vl=v17 i)
 (nd:∀ i,i < 7->(A i).1.T.nd=i/\(A i).1.pc=0)
theorem awake_run (A:Nat->Kt × Mem) (Rn:Nat->Nat->Int × Kt × Mem) (hr:RunOk A Rn) (w:World) (hg:Glo w):Calls prog 24 #[] w fun o w'=>o=.returned (.bool true)/\Below w.heap.size w w':=by
 have hE:=Env.start w;have HG:=zH hg;have HC:=zH (show chkI 2 4 3 1 9=0 by decide);clear hg;go_enter func24,ntmps24;go_wp2_with fail;refine (new_w hE).mono ?_;rintro o w3 ⟨p,cc,rfl,hE3,hb⟩;clear hb hE;go_wp2_with fail;refine (start_w 0 1 (by decide) (by unfold maxLen; omega) hE3 rfl rfl).mono ?_;rintro o w4 ⟨rfl,F4,hE4⟩;simp only [zS,zZ] at hE4;clear hE3;generalize ({ l:=_,s:=_,w:=_,f:=_,a:=_ }:Cnt)=q4 at hE4;go_wp2_with fail;refine (hash_t 4 3 9 _).mono ?_;rintro o w5 ⟨rfl,hb⟩;replace hE4:=hE4.over hb;clear hb;go_wp2_with fail;refine (newYes_c 2 4 3 1 9 HC.out hE4).mono ?_;rintro o w6 ⟨c,q,F,rfl,hE6⟩;clear hE4
 go_upto_region 4 with fail
 apply wp_region_lit;refine wpList_buildTo rfl 50 _ rfl (some 15) rfl #[.int .i64 4,.int .u64 5,.int .u64 1,.int .i64 0] (by as_aux_lemma=>kernel_rfl) ?_;refine wpList_buildTo rfl 50 _ rfl (some 16) rfl #[.int .i64 4,.int .u64 5,.int .u64 2,.int .i64 0] (by as_aux_lemma=>kernel_rfl) ?_;refine wpList_buildTo rfl 50 _ rfl (some 17) rfl #[.int .i64 5,.int .u64 5,.int .u64 3,.int .i64 0] (by as_aux_lemma=>kernel_rfl) ?_;refine wpList_buildTo rfl 50 _ rfl (some 18) rfl #[.int .i64 7,.int .u64 5,.int .u64 0,.int .i64 0] (by as_aux_lemma=>kernel_rfl) ?_;refine wpList_buildTo rfl 50 _ rfl (some 19) rfl #[.int .i64 6,.int .u64 5,.int .u64 0,.int .i64 0] (by as_aux_lemma=>kernel_rfl) ?_;refine wpList_buildTo rfl 50 _ rfl (some 20) rfl #[.int .i64 5,.int .u64 5,.int .u64 4,.int .i64 0] (by as_aux_lemma=>kernel_rfl) ?_;refine wpList_buildTo rfl 145 _ rfl (some 21) rfl #[.int .i64 4,.int .u64 5,.int .u64 1,.int .i64 0,.int .i64 4,.int .u64 5,.int .u64 2,.int .i64 0,.int .i64 5,.int .u64 5,.int .u64 3,.int .i64 0,.int .i64 7,.int .u64 5,.int .u64 0,.int .i64 0,.int .i64 6,.int .u64 5,.int .u64 0,.int .i64 0,.int .i64 5,.int .u64 5,.int .u64 4,.int .i64 0] (by kernel_rfl) ?_;refine Go.Great.wpList_allocTo rfl (some 3) rfl (.pointer (some ⟨w6.heap.size,0,none⟩)) (.cells #[.int .i64 0,.int .u64 0,.int .u64 0,.int .i64 0,.int .i64 0,.int .u64 0,.int .u64 0,.int .i64 0,.int .i64 0,.int .u64 0,.int .u64 0,.int .i64 0,.int .i64 0,.int .u64 0,.int .u64 0,.int .i64 0,.int .i64 0,.int .u64 0,.int .u64 0,.int .i64 0,.int .i64 0,.int .u64 0,.int .u64 0,.int .i64 0] 145) (by kernel_rfl) ?_;refine wpList_store_rowTo rfl 145 _ _ rfl rfl (w6.heap.size) #[.int .i64 4,.int .u64 5,.int .u64 1,.int .i64 0,.int .i64 4,.int .u64 5,.int .u64 2,.int .i64 0,.int .i64 5,.int .u64 5,.int .u64 3,.int .i64 0,.int .i64 7,.int .u64 5,.int .u64 0,.int .i64 0,.int .i64 6,.int .u64 5,.int .u64 0,.int .i64 0,.int .i64 5,.int .u64 5,.int .u64 4,.int .i64 0] (by kernel_rfl) (by kernel_rfl) 145 #[.int .i64 0,.int .u64 0,.int .u64 0,.int .i64 0,.int .i64 0,.int .u64 0,.int .u64 0,.int .i64 0,.int .i64 0,.int .u64 0,.int .u64 0,.int .i64 0,.int .i64 0,.int .u64 0,.int .u64 0,.int .i64 0,.int .i64 0,.int .u64 0,.int .u64 0,.int .i64 0,.int .i64 0,.int .u64 0,.int .u64 0,.int .i64 0] (alloc_last _ _) (by as_aux_lemma=>kernel_rfl) (by as_aux_lemma=>kernel_rfl) (by as_aux_lemma=>kernel_rfl) ?_;apply wpList_nil;rw [setRow_alloc _ _ _ _ _ rfl];rename_i aK4;refine aK4 _ _ ?_;clear aK4;have hE66:=hE6.box w6.heap.size rfl [.int .i64 4,.int .u64 5,.int .u64 1,.int .i64 0,.int .i64 4,.int .u64 5,.int .u64 2,.int .i64 0,.int .i64 5,.int .u64 5,.int .u64 3,.int .i64 0,.int .i64 7,.int .u64 5,.int .u64 0,.int .i64 0,.int .i64 6,.int .u64 5,.int .u64 0,.int .i64 0,.int .i64 5,.int .u64 5,.int .u64 4,.int .i64 0] 145;generalize World.alloc w6 _=w66 at *;clear hE6;generalize w6.heap.size=Z3 at *
 go_upto_region 5 with fail
 apply wp_region_lit;refine wpList_buildTo rfl 54 _ rfl (some 22) rfl #[.int .i64 0,.bool false,.int .u64 0] (by as_aux_lemma=>kernel_rfl) ?_;refine wpList_buildTo rfl 54 _ rfl (some 23) rfl #[.int .i64 0,.bool true,.int .u64 1] (by as_aux_lemma=>kernel_rfl) ?_;refine wpList_buildTo rfl 54 _ rfl (some 24) rfl #[.int .i64 0,.bool false,.int .u64 2] (by as_aux_lemma=>kernel_rfl) ?_;refine wpList_buildTo rfl 54 _ rfl (some 25) rfl #[.int .i64 0,.bool true,.int .u64 2] (by as_aux_lemma=>kernel_rfl) ?_;refine wpList_buildTo rfl 54 _ rfl (some 26) rfl #[.int .i64 0,.bool true,.int .u64 2] (by as_aux_lemma=>kernel_rfl) ?_;refine wpList_buildTo rfl 54 _ rfl (some 27) rfl #[.int .i64 0,.bool true,.int .u64 0] (by as_aux_lemma=>kernel_rfl) ?_;refine wpList_buildTo rfl 146 _ rfl (some 28) rfl #[.int .i64 0,.bool false,.int .u64 0,.int .i64 0,.bool true,.int .u64 1,.int .i64 0,.bool false,.int .u64 2,.int .i64 0,.bool true,.int .u64 2,.int .i64 0,.bool true,.int .u64 2,.int .i64 0,.bool true,.int .u64 0] (by kernel_rfl) ?_;refine Go.Great.wpList_allocTo rfl (some 4) rfl (.pointer (some ⟨w66.heap.size,0,none⟩)) (.cells #[.int .i64 0,.bool false,.int .u64 0,.int .i64 0,.bool false,.int .u64 0,.int .i64 0,.bool false,.int .u64 0,.int .i64 0,.bool false,.int .u64 0,.int .i64 0,.bool false,.int .u64 0,.int .i64 0,.bool false,.int .u64 0] 146) (by kernel_rfl) ?_;refine wpList_store_rowTo rfl 146 _ _ rfl rfl (w66.heap.size) #[.int .i64 0,.bool false,.int .u64 0,.int .i64 0,.bool true,.int .u64 1,.int .i64 0,.bool false,.int .u64 2,.int .i64 0,.bool true,.int .u64 2,.int .i64 0,.bool true,.int .u64 2,.int .i64 0,.bool true,.int .u64 0] (by kernel_rfl) (by kernel_rfl) 146 #[.int .i64 0,.bool false,.int .u64 0,.int .i64 0,.bool false,.int .u64 0,.int .i64 0,.bool false,.int .u64 0,.int .i64 0,.bool false,.int .u64 0,.int .i64 0,.bool false,.int .u64 0,.int .i64 0,.bool false,.int .u64 0] (alloc_last _ _) (by as_aux_lemma=>kernel_rfl) (by as_aux_lemma=>kernel_rfl) (by as_aux_lemma=>kernel_rfl) ?_;apply wpList_nil;rw [setRow_alloc _ _ _ _ _ rfl];rename_i aK5;refine aK5 _ _ ?_;clear aK5;have hE7:=hE66.box w66.heap.size rfl [.int .i64 0,.bool false,.int .u64 0,.int .i64 0,.bool true,.int .u64 1,.int .i64 0,.bool false,.int .u64 2,.int .i64 0,.bool true,.int .u64 2,.int .i64 0,.bool true,.int .u64 2,.int .i64 0,.bool true,.int .u64 0] 146;generalize World.alloc w66 _=w7 at *;clear hE66;generalize w66.heap.size=Z4 at *;go_wp2_with fail;have HRO:Hid (∀ (S:ST) (ps:List Item) (v:World),Env w (ps++LT S [boxI Z4 rowW17,boxI Z3 rowO17]) v->(∀ j,v.cell? ⟨Z4,j,none⟩=rowW17[j]?)/\∀ j,v.cell? ⟨Z3,j,none⟩=rowO17[j]?):=zH fun S ps v hv=>⟨Blk.rule ((hv.2.2 (boxI Z4 rowW17) (by simp [LT])).1),Blk.rule ((hv.2.2 (boxI Z3 rowO17) (by simp [LT])).1)⟩;have hf0:upd (fun _=>0) (1,0,0) 1=(A 0).2:=by
  rw [hr.a0]
  funext x
  show _=f0 x;unfold upd f0
  by_cases hx:x=(1,0,0)<;>simp [hx]
 have hE8:Env w (LT (SPK C9 { tm0 c q with F:=F,kq:=2 } (vm p cc 0) (A 0).1 (A 0).2 F4 q4 (0+1)) [boxI Z4 rowW17,boxI Z3 rowO17]) w7:=by
  rw [<- hf0,hr.a0];exact hE7.perm (List.perm_append_comm (l₁:=[_,_]))
 clear hE7 hf0;have HK0:Hid (KOk C9 ds17 6 (d17 0) (A 0).1/\OkF C9 (A 0).2/\LnkF C9 (A 0).2):=zH (by rw [hr.a0]; exact ⟨K0_ok ok9 (by decide),f0_ok ok9⟩)
 go_loopw [5] (fun iv wr=>∃ (i B n k:Nat) (F G:Nat->Prop) (qc:Cnt),i<=6/\iv=.int .i64 i/\B<=6+28 * i/\n<=2+28 * i/\Hid (∀ d,KOk C9 ds17 B d (A i).1)/\Hid (OkF C9 (A i).2/\LnkF C9 (A i).2)/\Env w (LT (SPK C9 { tm0 c q with F:=F,kq:=k } (vm p cc 0) (A i).1 (A i).2 G qc n) [boxI Z4 rowW17,boxI Z3 rowO17]) wr) (fun iv _=>6 - (intOf iv).toNat)
 case atStart=>exact ⟨0,6,0+1,2,F,F4,q4,by omega,rfl,by omega,by omega,zH fun d=>HK0.out.1.any (by rw [hr.a0]; rfl),zH HK0.out.2,hE8⟩
 case round =>
  clear hE8 HK0;obtain ⟨i,B,n,k,F,G,qc,hi,rfl,hB,hn,hK,hF,hE⟩:=hrel
  by_cases hlt:i < 6
  ·as_aux_lemma =>
    have hb1:decide ((i:Int) < 6)=true:=by simp; omega
    have hb2:(i:Int) < 6:=by omega
    have hrt:=rt17 i hlt;have HRT:=zH hrt;have HNW:=zH fun (v:World) (hv:Env w (LT (SPK C9 { tm0 c q with F:=F,kq:=k } (vm p cc 0) (A i).1 (A i).2 G qc n) [boxI Z4 rowW17,boxI Z3 rowO17]) v)=>newYes_t (c:=c) (e:=(A i).1.T.e) (r:=(A i).1.r) (hs:=(A i).1.T.hs) (hi:=0) (q:=q) (s:=4) (b:=3) (h:=1) (l:=9) 0 (d17 i).ok (d17 i).key (d17 i).val (d17 i).lv (by show InU 5; unfold InU; omega) (by rcases (show i=0\/i=1\/i=2\/i=3\/i=4\/i=5 by omega) with rfl | rfl | rfl | rfl | rfl | rfl<;>decide) (by rcases (show i=0\/i=1\/i=2\/i=3\/i=4\/i=5 by omega) with rfl | rfl | rfl | rfl | rfl | rfl<;>decide) rfl hv;rw [show bkI 2 4 3 1 9 (d17 i).key=rtM C9 (d17 i) from (bkI_yes rfl (by decide)).trans hrt.symm] at HNW;clear hrt;have hc9:∀ j,wr.cell? ⟨Z3,j,none⟩=rowO17[j]?:=(HRO.out _ [] _ hE).2;have c0:wr.cell? ⟨Z3,i * 4,none⟩=some (.int .i64 (d17 i).ok):=by rw [hc9]; rcases (show i=0\/i=1\/i=2\/i=3\/i=4\/i=5 by omega) with rfl | rfl | rfl | rfl | rfl | rfl<;>rfl
    have c1:wr.cell? ⟨Z3,i * 4+1,none⟩=some (.int .u64 (d17 i).key):=by rw [hc9]; rcases (show i=0\/i=1\/i=2\/i=3\/i=4\/i=5 by omega) with rfl | rfl | rfl | rfl | rfl | rfl<;>rfl
    have c2:wr.cell? ⟨Z3,i * 4+2,none⟩=some (.int .u64 (d17 i).val):=by rw [hc9]; rcases (show i=0\/i=1\/i=2\/i=3\/i=4\/i=5 by omega) with rfl | rfl | rfl | rfl | rfl | rfl<;>rfl
    have c3:wr.cell? ⟨Z3,i * 4+3,none⟩=some (.int .i64 (d17 i).lv):=by rw [hc9]; rcases (show i=0\/i=1\/i=2\/i=3\/i=4\/i=5 by omega) with rfl | rfl | rfl | rfl | rfl | rfl<;>rfl
    have HLT:=zH hlt;clear hc9 hlt hi;go_wp2_with fail;refine (HNW.out _ hE).mono ?_;rintro e w8 ⟨o,b1,b2,sb,rfl,hE8⟩;clear hE HNW c0 c1 c2 c3;have hnd:=hr.nd i (by have:=HLT.out; omega);have hbg:=begin_keep (ds:=ds17) (B:=B) ok9 (hK.out (d17 i)) hnd.2 (by rw [hnd.1]; exact HLT.out) (d17 i);have hbk:beginK C9 (d17 i) (A i).1={ findM C9 (d17 i) (A i).1 with T:={ (A i).1.T with nd:=(A i).1.T.nd+1 },err:=0,dn:=false,vl:=0 }:=by unfold beginK; rw [if_neg (by have:=HLT.out; rcases (show i=0\/i=1\/i=2\/i=3\/i=4\/i=5 by omega) with rfl | rfl | rfl | rfl | rfl | rfl<;>decide)]
    have hE9:Env w ([boxI o (opT c (d17 i).ok (d17 i).key (d17 i).val (d17 i).lv (rtM C9 (d17 i)) (cvP b1 b2) 0 (.pointer (some ⟨sb,0,none⟩)) 0 false 0),boxI b1 [mvL 132 sb],boxI b2 [mvL 133 o],boxI sb (srC c (rtM C9 (d17 i)) (d17 i).key true (.pointer none))]++LT (SPK C9 { tm0 c q with F:=F,kq:=k } (vm p cc 0) (Rn i 0).2.1 (Rn i 0).2.2 G qc n) [boxI Z4 rowW17,boxI Z3 rowO17]) w8:=by
     rw [hr.r0];show Env w ([_,_,_,_]++LT (SPK C9 { tm0 c q with F:=F,kq:=k } (vm p cc 0) (beginK C9 (d17 i) (A i).1) (A i).2 G qc n) [boxI Z4 rowW17,boxI Z3 rowO17]) w8;rw [hbk];exact hE8
    have HPM:Hid (PM C9 c (d17 i) (Rn i 0).2.1 o [boxI o (opT c (d17 i).ok (d17 i).key (d17 i).val (d17 i).lv (rtM C9 (d17 i)) (cvP b1 b2) 0 (.pointer (some ⟨sb,0,none⟩)) 0 false 0),boxI b1 [mvL 132 sb],boxI b2 [mvL 133 o],boxI sb (srC c (rtM C9 (d17 i)) (d17 i).key true (.pointer none))]):=zH (by
     rw [hr.r0];show PM C9 c (d17 i) (beginK C9 (d17 i) (A i).1) o _;rw [hbk];exact (.inl ⟨b1,b2,_,_,_,[_],rfl,.inl ⟨rfl,sb,rfl,rfl,rfl,.inl ⟨rfl,rfl,.inl rfl⟩⟩⟩))
    have HBG:Hid (KOk C9 ds17 B (d17 i) (Rn i 0).2.1):=zH (by rw [hr.r0]; exact hbg.1);have HF:Hid (OkF C9 (Rn i 0).2.2/\LnkF C9 (Rn i 0).2.2):=zH (by rw [hr.r0]; exact hF.out);clear hE8 hbk hbg hnd hK hF;have hs12:s17 i<=28:=by unfold s17; (repeat' split)<;>omega
    have hs1:1<=s17 i:=by unfold s17; (repeat' split)<;>omega
    go_wp2_with fail
    go_loopw [7,8] (fun nv sv wr=>∃ (j B n k:Nat) (st:Int) (F G:Nat->Prop) (qc:Cnt) (ps:List Item),j<=s17 i/\nv=.int .i64 j/\sv=.int .i64 st/\B<=6+28 * i+j/\n<=2+28 * i+j/\Hid (st=(Rn i j).1)/\Hid (st=0->PM C9 c (d17 i) (Rn i j).2.1 o ps/\KOk C9 ds17 B (d17 i) (Rn i j).2.1)/\Hid (st≠0->(∃ nx sp,ps=[boxI o (opT c (d17 i).ok (d17 i).key (d17 i).val (d17 i).lv (rtM C9 (d17 i)) nx st sp (Rn i j).2.1.err (Rn i j).2.1.dn (Rn i j).2.1.vl)])/\KOk C9 ds17 B (d17 i) (endK (Rn i j)))/\Hid (OkF C9 (Rn i j).2.2/\LnkF C9 (Rn i j).2.2)/\Env w (ps++LT (SPK C9 { tm0 c q with F:=F,kq:=k } (vm p cc 0) (Rn i j).2.1 (Rn i j).2.2 G qc n) [boxI Z4 rowW17,boxI Z3 rowO17]) wr) (fun nv _ _=>60 - (intOf nv).toNat)
    case atStart=>exact ⟨0,B,n,k,0,F,G,qc,_,Nat.zero_le _,rfl,rfl,by omega,by omega,zH (by rw [hr.r0]),zH (fun _=>⟨HPM.out,HBG.out⟩),zH (fun h=>absurd rfl h),HF,hE9⟩
    case round =>
     clear hE9 HPM HBG HF;obtain ⟨j,B9,n9,k9,st,F9,G9,qc9,ps,hj,rfl,rfl,hB9,hn9,hst,hP,hQ,hF,hE⟩:=hrel
     by_cases hjl:j < s17 i
     ·as_aux_lemma =>
       have hby:=hr.busy i HLT.out j hjl;have h0:st=0:=by rw [hst.out]; exact hby.1
       subst h0;have hb3:decide ((j:Int) < 60)=true:=by simp; omega
       have hP:=(hP.out rfl);have hi4:=HLT.out;have hkc:=hP.2.kc (n:=n9) ok9 (by rw [HRT.out]; have:=bu17; unfold In64; omega) hF.out.1 hF.out.2 hby.2.1 hby.2.2 (by show InU 5/\InU (d17 i).val; unfold InU; rcases (show i=0\/i=1\/i=2\/i=3\/i=4\/i=5 by omega) with rfl | rfl | rfl | rfl | rfl | rfl<;>decide) (by omega) (by unfold maxLen; omega);have HST:=zH (op_p (R:=[boxI Z4 rowW17,boxI Z3 rowO17]) (X:={ tm0 c q with F:=F9,kq:=k9 }) (V:=vm p cc 0) hkc HG.out hP.1 hE);have HKE:=zH fun hu=>op_keep ok9 (by rw [HRT.out]; have:=bu17; unfold In64; omega) hF.out.1 hF.out.2 hP.2 hby.2.1 hby.2.2 hu;have HNX:Hid (opM C9 (d17 i) (Rn i j).2.1 (Rn i j).2.2=Rn i (j+1)):=zH (hr.rs i j).symm;rw [HNX.out] at HST HKE;clear hkc hby hst hP hQ hE hF hi4 HNX;go_wp2_with fail;refine HST.out.mono ?_;rintro e w9 ⟨s9,rfl,hs9,F',k',G',qc',n',ps',⟨hn',-⟩,h0,h1,hE'⟩;have hu:∀ x,InU ((Rn i (j+1)).2.2 x):=fun x=>by
        have h9:Blk 0 w9 0 []\/True:=.inr trivial;exact (hE'.perm (List.perm_append_comm)).cell 3 rfl |>.words.1 x
       have hke:=HKE.out hu;clear HST HKE;subst hs9;go_wp2_with fail;refine ⟨⟨j+1,B9+1,n',k',_,F',G',qc',ps',hjl,by simp,rfl,by omega,by omega,zH rfl,zH fun h=>⟨h0 h,?_⟩,zH fun h=>⟨h1 h,?_⟩,zH ⟨hke.f,hke.l⟩,hE'⟩,by simp [intOf]; omega⟩
       ·have:=hke.k;rw [if_pos h] at this;exact this
       ·have:=hke.k;rw [if_neg h] at this;exact this
     ·as_aux_lemma =>
       have hjs:j=s17 i:=by omega
       subst hjs;have hdn:=hr.done i HLT.out;have h1:st=1:=by rw [hst.out]; exact hdn.1
       subst h1;obtain ⟨⟨nx,sp,rfl⟩,hK⟩:=hQ.out (by decide);rw [hdn.2.1,hdn.2.2.1,hdn.2.2.2] at hE;have HK:=zH hK;clear hP hQ hdn hst hK;have hb3:decide (((s17 i:Nat):Int) < 60)=true:=by simp; omega
       go_wp2_with fail;have HAN:Hid (∀ v,Env w ([boxI o (opT c (d17 i).ok (d17 i).key (d17 i).val (d17 i).lv (rtM C9 (d17 i)) nx 1 sp 0 (r17 i) (v17 i))]++LT (SPK C9 { tm0 c q with F:=F9,kq:=k9 } (vm p cc 0) (Rn i (s17 i)).2.1 (Rn i (s17 i)).2.2 G9 qc9 n9) [boxI Z4 rowW17,boxI Z3 rowO17]) v->Calls prog 34 #[.pointer (some ⟨o,0,none⟩)] v fun p w'=>p=.returned (.agg #[.int .i64 0,.bool (r17 i),.int .u64 (v17 i)])/\Below v.heap.size v w'):=zH fun v hv=>answer_t (hv.get 0 rfl);have HCE:Hid (∀ v,Env w ([boxI o (opT c (d17 i).ok (d17 i).key (d17 i).val (d17 i).lv (rtM C9 (d17 i)) nx 1 sp 0 (r17 i) (v17 i))]++LT (SPK C9 { tm0 c q with F:=F9,kq:=k9 } (vm p cc 0) (Rn i (s17 i)).2.1 (Rn i (s17 i)).2.2 G9 qc9 n9) [boxI Z4 rowW17,boxI Z3 rowO17]) v->v.cell? ⟨Z4,i * 3,none⟩=some (.int .i64 0)/\v.cell? ⟨Z4,i * 3+1,none⟩=some (.bool (r17 i))/\v.cell? ⟨Z4,i * 3+2,none⟩=some (.int .u64 (v17 i))):=zH fun v hv=>by
        have h9:=(HRO.out _ _ _ hv).1;have hi4:=HLT.out;rw [h9,h9,h9]
        rcases (show i=0\/i=1\/i=2\/i=3\/i=4\/i=5 by omega) with rfl | rfl | rfl | rfl | rfl | rfl<;>exact ⟨rfl,rfl,rfl⟩
       have hi4:(i:Int) < 6:=by have:=HLT.out; omega
       refine wp_text (S:=(Env w ([boxI o (opT c (d17 i).ok (d17 i).key (d17 i).val (d17 i).lv (rtM C9 (d17 i)) nx 1 sp 0 (r17 i) (v17 i))]++LT (SPK C9 { tm0 c q with F:=F9,kq:=k9 } (vm p cc 0) (Rn i (s17 i)).2.1 (Rn i (s17 i)).2.2 G9 qc9 n9) [boxI Z4 rowW17,boxI Z3 rowO17]))) (by kernel_rfl) (by kernel_rfl) hE.drew (fun hT=>?_);have hT9:=zH hT;clear hT
       repeat ((first
        | (refine text_value (v:=?_) hT9.o (by rfl) ?_ ?_; rotate_left; (intro w5 hS; obtain ⟨e1,e2,e3⟩:=HCE.out _ hS; go_simp<;>rfl))
        | (refine text_off hT9.o (by rfl) ?_)
        | (refine text_call (v:=?_) (f:=?_) (args:=?_) hT9.o (by rfl) ?_ ?_ ?_; rotate_left 3; (intro w5 hS; obtain ⟨e1,e2,e3⟩:=HCE.out _ hS; go_simp; constructor<;>rfl); (intro w5 hS; (first | (with_reducible refine kp (HAN.out _ hS) ?_ ?_; rfl; exact fun w6 hb5=>hS.over hb5)))));try simp only [Act.put,zA,zZ,zS])
       refine InText.nil fun w5 hS5=>?_;clear hT9;clear hE HAN HCE;go_wp2_with fail;have hi4:=HLT.out;exact ⟨⟨i+1,B9,n9,k9,F9,G9,qc9,by omega,by simp,by omega,by omega,zH fun d=>(by rw [hr.an]; exact HK.out.any rfl),zH (by rw [hr.an]; exact hF.out),(by rw [hr.an]; exact hS5.sub (.cons _ (List.Sublist.refl _)))⟩,by simp [intOf]; omega⟩
  ·as_aux_lemma =>
    have hb1:decide ((i:Int) < 6)=false:=by simp; omega
    have hn:=HC.out;go_wp2_with fail;have hE9:=hE;refine (newNo_t (c:=c) (k:=2) (s:=4) (b:=3) (h:=1) (l:=9) (q:=q) 0 8 0 0 0 (.inr (.inl rfl)) rfl hE).mono ?_;rintro e w9 ⟨rfl,hE10⟩;go_wp2_with fail;go_ret;exact ⟨rfl,hE10.below⟩
theorem run_ok:RunOk at17 run17:=⟨by rw [at17],fun i=>by unfold run17; rw [at17],fun i=>by unfold run17; rw [runJ],fun i j=>by unfold run17; rw [runJ],busy17,done17,at17_nd⟩
theorem awake_t (w:World) (hg:Glo w):Calls prog 24 #[] w fun o w'=>o=.returned (.bool true)/\Below w.heap.size w w':=awake_run at17 run17 run_ok w hg
end
end Go.Proofs.YtdknbegcflldjaaGreatDoor
