/- What is proved on the way to the statement, part 16: contracts of the functions, among other things in memory. -/
import Derived.Test.YthcblagpbkaoaaaGreatDoorM15
import Derived.SevenTiedAt

namespace Go.Proofs.YthcblagpbkaoaaaGreatDoor.chainExact
open Go.ChangeShapes Go.WideShapes Go.ChangeAt Go.RowKit Go.Joins Go.Maps
set_option maxRecDepth 100000
set_option maxHeartbeats 25600000
theorem walk (s l:Int) (rs:List Rw) (A:Option Addr) (cap:Nat) (hl0:rs.length<=2 ^ 63 - 1) (zs:List Int) (A2:Option Addr) (cap2:Nat) (hz0:zs.length<=2 ^ 63 - 1) (W:World) (hok:∀ r∈rs,OkRw W r) (hrow:RowX encRw 1 W A rs)
  (hrow2:zs=[]\/∃ b off,A2=some ⟨b,off,none⟩/\b < W.heap.size/\∀ i,i < zs.length->W.cell? ⟨b,off+i,none⟩=some (.int .i64 (zs.getD i 0))) (hg:Glo W) :
  Calls Tryz.prog 3 #[.int .i64 s,.int .i64 l,.slice A rs.length cap,.slice A2 zs.length cap2] W fun e w'=>e=.returned (.bool true)/\Below W.heap.size W w':=by
 have hE:=Env.start W
 have HG:=Lib.hid hg
 have HROW:=Lib.hid hrow
 have HROW2:=Lib.hid hrow2
 have HOK:=Lib.hid hok
 have hl:rs.length<=9223372036854775807:=by omega
 have hz:zs.length<=9223372036854775807:=by omega
 have hlen9:∀ r∈rs,r.ds.length<=9223372036854775807:=fun r hr=>by have:=(hok r hr).1; unfold maxLen at this; omega
 have HLEN:=Lib.hid hlen9
 clear hg hrow hrow2 hok hl0 hz0 hlen9
 go_enter Tryz.func3,Tryz.ntmps3
 go_wp2_with fail
 refine (awake_k _ HG.out).mono ?_
 rintro o w1 ⟨rfl,hb⟩
 replace hE:=hE.over hb
 clear hb
 generalize hX:W.heap.size=X at *
 have HX:=Lib.hid hX
 clear hX
 go_wp2_with fail
 refine (great_k s l A A2 cap cap2 zs.length rs hl hz HROW.out HLEN.out (fun r hr=>(HOK.out r hr).2.2) _ hE.below).mono ?_
 rintro o w2 ⟨hb,rfl | ⟨rfl,hgd,hops⟩⟩
 ·replace hE:=hE.over hb
  go_wp2_with fail
  go_ret
  exact ⟨rfl,hE.below⟩
 replace hE:=hE.over hb
 clear hb
 have HC:=Lib.hid (show chkI 1 s 0 1 l=0 from chk_ls (by omega) (by omega))
 have hr1:1<=rs.length:=by omega
 have hr4:rs.length<=4:=by omega
 have hz4:zs.length<=1000:=by omega
 have hCk:COk ⟨1,s,0,1,l⟩:=by
  refine ⟨?_,?_,?_⟩<;>(dsimp only; omega)
 have HGD:=Lib.hid hgd
 have HR1:=Lib.hid hr1
 have HR4:=Lib.hid hr4
 have HCK:=Lib.hid hCk
 have hR:∀ (L:List Item) i,i < rs.length->OkD W L ⟨1,s,0,1,l⟩ (rs.getD i default):=fun L i hi=>by
  have hm:rs.getD i default∈rs:=by rw [List.getD_eq_getElem?_getD,List.getElem?_eq_getElem hi]; exact List.getElem_mem hi
  obtain ⟨h1,h2,h3⟩:=HOK.out _ hm
  exact ⟨OsAt.of_row h3,by have:=(hops i hi).1; omega,fun k hk=>h2 _ (mem_getD hk),fun k hk=>.inr ((hops i hi).2 k hk)⟩
 have HR:=Lib.hid hR
 have HOPS:=Lib.hid hops
 clear hgd hr1 hr4 hops hCk hR
 go_wp2_with fail
 refine (begun_k s l A cap rs HR4.out HROW.out HC.out hE).mono ?_
 rintro o w7 ⟨p,cc,m,g,cp,S0,rfl,hpl,hps,hml,hn,hqb,hE8⟩
 clear hE
 have hgo:=start_ok HCK.out (fun i hi=>(HOPS.out i hi).1) hpl hps hml hn
 clear hps hpl hml hn
 have HGO:=Lib.hid hgo
 have HQB:=Lib.hid hqb
 clear hgo hqb
 go_wp2_with fail
 go_loopw [12] (fun iv wr=>∃ (j:Nat) (S:GS),j<=zs.length/\iv=.int .i64 j/\Hid (GOk ⟨1,s,0,1,l⟩ rs (40+j) S)/\Hid (QB (2+j) S.qc)/\Env W (EL ⟨1,s,0,1,l⟩ (.slice (some ⟨g,0,none⟩) rs.length cp) p cc m S []) wr) (fun iv _=>zs.length - (intOf iv).toNat)
 case atStart=>exact ⟨0,S0,Nat.zero_le _,rfl,HGO,HQB,hE8⟩
 case round =>
  clear hE8 HGO HQB
  obtain ⟨j,S,hj,rfl,hgo,hqb,hE⟩:=hrel
  by_cases hlt:j < zs.length
  ·have hb1:decide ((j:Int) < (zs.length:Int))=true:=by simp; omega
   have hlti:(j:Int) < (zs.length:Int):=by omega
   rcases HROW2.out with h0 | ⟨bb,off,rfl,hbl,hc⟩
   ·rw [h0] at hlt; simp at hlt
   obtain ⟨z,hz9⟩:∃ z,zs.getD j 0=z:=⟨_,rfl⟩
   have hd0:wr.cell? ⟨bb,off+j,none⟩=some (.int .i64 z):=by rw [hE.below.cell (p:=⟨bb,off+j,none⟩) (by rw [HX.out]; exact hbl),hc j hlt,hz9]
   have hr1:=HR1.out
   have hr4:=HR4.out
   have hwl:IntKind.u64.wrap (rs.length:Int)=(rs.length:Int):=by rw [IntKind.wrap_u64]; omega
   obtain ⟨t,ht,htl⟩:∃ t:Nat,(IntKind.u64.wrap z).tmod (rs.length:Int)=(t:Int)/\t < rs.length:=by
    have h0:0<=IntKind.u64.wrap z:=by rw [IntKind.wrap_u64]; omega
    refine ⟨((IntKind.u64.wrap z) % (rs.length:Int)).toNat,?_,?_⟩
    ·rw [Int.tmod_eq_emod_of_nonneg h0,Int.toNat_of_nonneg (Int.emod_nonneg _ (by omega))]
    ·have:=Int.emod_lt_of_pos (IntKind.u64.wrap z) (show 0 < (rs.length:Int) by omega)
     have:=Int.emod_nonneg (IntKind.u64.wrap z) (show (rs.length:Int)≠0 by omega)
     omega
   obtain ⟨q,hq,hQ⟩:=hgo.out.ps t htl
   have htq:wr.cell? ⟨g,t,none⟩=some (.pointer (some ⟨q.X.thr,0,none⟩)):=by
    have:=hE.tpAt 0 rfl t (by rw [List.length_map,hgo.out.len]; exact htl)
    rw [this]
    simp [List.getD_eq_getElem?_getD,hq]
   have htl':(t:Int) < (rs.length:Int):=by omega
   have hnz:(rs.length:Int)≠0:=by omega
   have hj9:j<=1000:=by omega
   go_upto_region 10 with fail
   clear hd0 hc hz9 htq ht hwl
   go_wp2_with fail
   refine (count_w 1 2 hE rfl rfl).mono ?_
   rintro o w8 ⟨rfl,hb⟩
   replace hE:=hE.over hb
   clear hb
   go_wp2_with fail
   have hE2:=(hE.box w8.heap.size rfl [.int .i64 S.qc.l,.int .i64 S.qc.s,.int .i64 S.qc.w,.int .i64 S.qc.f,.int .i64 S.qc.a] 34).inE
   clear hE
   generalize w8.alloc _=w9 at *
   generalize w8.heap.size=Y at *
   rcases (show (q.K.pc≠0)\/(q.K.pc=0/\q.K.T.nd < (rs.getD t default).ds.length)\/(q.K.pc=0/\¬ q.K.T.nd < (rs.getD t default).ds.length) by omega) with hpc | ⟨hpc,hnd⟩ | ⟨hpc,hnd⟩
   ·have hb3:decide (q.K.pc≠0)=true:=by simp [hpc]
    have hid:idleK (rs.getD t default).ds q.K=false:=by unfold idleK; rw [decide_eq_false hpc]; rfl
    have HTH:Hid (∀ v,Env W (EL ⟨1,s,0,1,l⟩ (.slice (some ⟨g,0,none⟩) rs.length cp) p cc m S [boxI Y [.int .i64 S.qc.l,.int .i64 S.qc.s,.int .i64 S.qc.w,.int .i64 S.qc.f,.int .i64 S.qc.a]]) v->v.cell? ⟨q.X.thr,4,none⟩=some (.bool true)/\v.cell? ⟨q.X.thr,3,none⟩=some (.int .i64 (q.K.T.nd:Int))/\v.cell? ⟨q.X.thr,2,none⟩=some (.slice q.X.dA q.X.dn q.X.dc)):=Lib.hid fun v hv=>by
     have h9:=hv.thrE hq
     exact ⟨by rw [h9 4,<- hb3]; rfl,h9 3,h9 2⟩
    have HID:=Lib.hid hid
    clear hb3 hpc hQ hid
    refine wp_text (S:=(Env W (EL ⟨1,s,0,1,l⟩ (.slice (some ⟨g,0,none⟩) rs.length cp) p cc m S [boxI Y [.int .i64 S.qc.l,.int .i64 S.qc.s,.int .i64 S.qc.w,.int .i64 S.qc.f,.int .i64 S.qc.a]]))) (by kernel_rfl) (by kernel_rfl) hE2.drew (fun hT=>?_)
    have hT9:=Lib.hid hT
    clear hT
    repeat (first
     | (refine text_value (v:=?_) hT9.out (by rfl) ?_ ?_; rotate_left; (focus (intro w5 hS; obtain ⟨r4,r3,r2⟩:=HTH.out _ hS; go_simp<;>with_reducible rfl)); (try simp only [Act.put,zA,zZ,zS]))
     | (refine text_off hT9.out (by rfl) ?_; (try simp only [Act.put,zA,zZ,zS]))
     | (refine text_call (v:=?_) (f:=?_) (args:=?_) hT9.out (by rfl) ?_ ?_ ?_; rotate_left 3; (focus (intro w5 hS; obtain ⟨r4,r3,r2⟩:=HTH.out _ hS; go_simp; constructor<;>with_reducible rfl)); (focus (intro w5 hS; (first | fail))); (try simp only [Act.put,zA,zZ,zS])))
    refine InText.nil fun w5 hS5=>?_
    clear hT9
    clear hE2 HTH
    go_wp2_with fail
    refine (step_pk HG.out HCK.out rfl (HR.out _ t htl) hgo.out (by omega) htl hq hS5).mono ?_
    rintro o w9 ⟨rfl,S',q',hst,hgo',hE'⟩
    have hsl:S.ps.length=rs.length:=hgo.out.len
    have hq':S'.ps[t]?=some q':=by rw [hst.ps]; simp [hsl,htl]
    have hid:=HID.out
    have hqb':=hqb.out.one (hst.qc.1 hid) (by omega)
    have HQB':Hid (QB (2+(j+1)) S'.qc):=Lib.hid hqb'.1
    have hsum:=hqb'.2
    clear hqb'
    have HGO':Hid (GOk ⟨1,s,0,1,l⟩ rs (40+(j+1)) S'):=Lib.hid hgo'
    have hthr:=hst.thr
    clear hS5 hst hid
    go_wp2_with fail
    rw [<- hthr]
    refine (same_pk hgo' (by omega) htl hq' hE').mono ?_
    rintro o w10 ⟨rfl,hE6⟩
    clear hE'
    have hmem:∀ v,Env W (EL ⟨1,s,0,1,l⟩ (.slice (some ⟨g,0,none⟩) rs.length cp) p cc m S' [boxI Y [.int .i64 S.qc.l,.int .i64 S.qc.s,.int .i64 S.qc.w,.int .i64 S.qc.f,.int .i64 S.qc.a]]) v->Calls Tryz.prog 17 #[.pointer (some ⟨p,0,none⟩),.pointer (some ⟨m,0,none⟩)] v fun o w'=>o=.returned (.bool true)/\Env W (EL ⟨1,s,0,1,l⟩ (.slice (some ⟨g,0,none⟩) rs.length cp) p cc m S' [boxI Y [.int .i64 S.qc.l,.int .i64 S.qc.s,.int .i64 S.qc.w,.int .i64 S.qc.f,.int .i64 S.qc.a]]) w':=fun v hv=>by
     refine (memory_t (R:=tpsI (.slice (some ⟨g,0,none⟩) rs.length cp) (S'.ps.map fun q=>q.X.thr)::(S'.ps.flatMap (Pk.its ⟨1,s,0,1,l⟩)++[boxI Y [.int .i64 S.qc.l,.int .i64 S.qc.s,.int .i64 S.qc.w,.int .i64 S.qc.f,.int .i64 S.qc.a]])) (by have:=HGO'.out.ml; omega) (by have:=HGO'.out.n; omega) (hv.perm (List.perm_append_comm_assoc [_] [_,_,_] _))).mono ?_
     rintro o w11 ⟨rfl,hE7⟩
     exact ⟨rfl,hE7.perm (List.perm_append_comm_assoc [_,_,_] [_] _)⟩
    have HMEM:=Lib.hid hmem
    have hqs:=hqb.out
    unfold QB at hqs
    have hqs':=HQB'.out
    unfold QB at hqs'
    clear hmem hq' hgo'
    go_wp2_with fail
    all_goals first
     | (refine (count_w 1 2 hE6 rfl rfl).mono ?_; rintro o w14 ⟨rfl,hb⟩; have hEF:=hE6; clear hE6)
     | (refine (HMEM.out _ hE6).mono ?_; rintro o w11 ⟨rfl,hE7⟩; clear hE6; go_wp2_with fail; refine (count_w 1 2 hE7 rfl rfl).mono ?_; rintro o w14 ⟨rfl,hb⟩; have hEF:=hE7; clear hE7)
    all_goals
     replace hEF:=hEF.over hb
     clear hb
     go_upto_region 15 with fail
     have hEG:=(hEF.box w14.heap.size rfl [.int .i64 S'.qc.l,.int .i64 S'.qc.s,.int .i64 S'.qc.w,.int .i64 S'.qc.f,.int .i64 S'.qc.a] 34)
     clear hEF
     generalize w14.alloc _=w15 at *
     generalize w14.heap.size=Y2 at *
     have r0:=hEG.rule 0 rfl
     have rY:∀ j,w15.cell? ⟨Y,j,none⟩=[Value.int .i64 S.qc.l,.int .i64 S.qc.s,.int .i64 S.qc.w,.int .i64 S.qc.f,.int .i64 S.qc.a][j]?:=Blk.rule ((hEG.2.2 (boxI Y [.int .i64 S.qc.l,.int .i64 S.qc.s,.int .i64 S.qc.w,.int .i64 S.qc.f,.int .i64 S.qc.a]) (by simp [EL])).1)
     have hEH:=(hEG.sub (.cons _ (List.Sublist.refl _))).dropE
     have HEH:=Lib.hid hEH
     clear hEG hEH
     generalize S'.qc.l=a1 at *
     generalize S'.qc.s=a2 at *
     generalize S'.qc.w=a3 at *
     generalize S'.qc.a=a4 at *
     generalize S.qc.l=n1 at *
     generalize S.qc.s=n2 at *
     generalize S.qc.w=n3 at *
     generalize S.qc.a=n4 at *
     have hw1:wrap64 (a1+a2)=a1+a2:=w64 _ (by omega)
     have hw2:wrap64 (a1+a2+a3)=a1+a2+a3:=w64 _ (by omega)
     have hw3:wrap64 (a1+a2+a3+a4)=a1+a2+a3+a4:=w64 _ (by omega)
     have hw4:wrap64 (a1+a2+a3+a4 - n1)=a1+a2+a3+a4 - n1:=w64 _ (by omega)
     have hw5:wrap64 (a1+a2+a3+a4 - n1 - n2)=a1+a2+a3+a4 - n1 - n2:=w64 _ (by omega)
     have hw6:wrap64 (a1+a2+a3+a4 - n1 - n2 - n3)=a1+a2+a3+a4 - n1 - n2 - n3:=w64 _ (by omega)
     have hw7:wrap64 (a1+a2+a3+a4 - n1 - n2 - n3 - n4)=1:=by rw [w64 _ (by omega)]; omega
     have hw8:a1+a2+a3+a4 - n1 - n2 - n3 - n4=1:=by omega
     clear hsum
     go_wp2_with fail
     exact ⟨⟨j+1,S',by omega,by first | (simp; done) | (simp; omega),HGO'.out,HQB'.out,HEH.out⟩,by first | (simp [intOf]; done) | (simp [intOf]; omega)⟩
   ·have hb3:decide (q.K.pc≠0)=false:=by simp [hpc]
    have hb4:decide (((q.X.dn:Nat):Int)<=(q.K.T.nd:Int))=false:=by rw [hQ.dn]; exact decide_eq_false (by omega)
    have hb5:¬ ((q.X.dn:Nat):Int)<=(q.K.T.nd:Int):=by rw [hQ.dn]; omega
    have hid:idleK (rs.getD t default).ds q.K=false:=by unfold idleK; rw [decide_eq_true hpc,decide_eq_true hnd]; rfl
    have HTH:Hid (∀ v,Env W (EL ⟨1,s,0,1,l⟩ (.slice (some ⟨g,0,none⟩) rs.length cp) p cc m S [boxI Y [.int .i64 S.qc.l,.int .i64 S.qc.s,.int .i64 S.qc.w,.int .i64 S.qc.f,.int .i64 S.qc.a]]) v->v.cell? ⟨q.X.thr,4,none⟩=some (.bool false)/\v.cell? ⟨q.X.thr,3,none⟩=some (.int .i64 (q.K.T.nd:Int))/\v.cell? ⟨q.X.thr,2,none⟩=some (.slice q.X.dA q.X.dn q.X.dc)):=Lib.hid fun v hv=>by
     have h9:=hv.thrE hq
     exact ⟨by rw [h9 4,<- hb3]; rfl,h9 3,h9 2⟩
    have HID:=Lib.hid hid
    clear hb3 hpc hQ hid
    refine wp_text (S:=(Env W (EL ⟨1,s,0,1,l⟩ (.slice (some ⟨g,0,none⟩) rs.length cp) p cc m S [boxI Y [.int .i64 S.qc.l,.int .i64 S.qc.s,.int .i64 S.qc.w,.int .i64 S.qc.f,.int .i64 S.qc.a]]))) (by kernel_rfl) (by kernel_rfl) hE2.drew (fun hT=>?_)
    have hT9:=Lib.hid hT
    clear hT
    repeat (first
     | (refine text_value (v:=?_) hT9.out (by rfl) ?_ ?_; rotate_left; (focus (intro w5 hS; obtain ⟨r4,r3,r2⟩:=HTH.out _ hS; go_simp<;>with_reducible rfl)); (try simp only [Act.put,zA,zZ,zS]))
     | (refine text_off hT9.out (by rfl) ?_; (try simp only [Act.put,zA,zZ,zS]))
     | (refine text_call (v:=?_) (f:=?_) (args:=?_) hT9.out (by rfl) ?_ ?_ ?_; rotate_left 3; (focus (intro w5 hS; obtain ⟨r4,r3,r2⟩:=HTH.out _ hS; go_simp; constructor<;>with_reducible rfl)); (focus (intro w5 hS; (first | fail))); (try simp only [Act.put,zA,zZ,zS])))
    refine InText.nil fun w5 hS5=>?_
    clear hT9
    clear hE2 HTH
    go_wp2_with fail
    refine (step_pk HG.out HCK.out rfl (HR.out _ t htl) hgo.out (by omega) htl hq hS5).mono ?_
    rintro o w9 ⟨rfl,S',q',hst,hgo',hE'⟩
    have hsl:S.ps.length=rs.length:=hgo.out.len
    have hq':S'.ps[t]?=some q':=by rw [hst.ps]; simp [hsl,htl]
    have hid:=HID.out
    have hqb':=hqb.out.one (hst.qc.1 hid) (by omega)
    have HQB':Hid (QB (2+(j+1)) S'.qc):=Lib.hid hqb'.1
    have hsum:=hqb'.2
    clear hqb'
    have HGO':Hid (GOk ⟨1,s,0,1,l⟩ rs (40+(j+1)) S'):=Lib.hid hgo'
    have hthr:=hst.thr
    clear hS5 hst hid
    go_wp2_with fail
    rw [<- hthr]
    refine (same_pk hgo' (by omega) htl hq' hE').mono ?_
    rintro o w10 ⟨rfl,hE6⟩
    clear hE'
    have hmem:∀ v,Env W (EL ⟨1,s,0,1,l⟩ (.slice (some ⟨g,0,none⟩) rs.length cp) p cc m S' [boxI Y [.int .i64 S.qc.l,.int .i64 S.qc.s,.int .i64 S.qc.w,.int .i64 S.qc.f,.int .i64 S.qc.a]]) v->Calls Tryz.prog 17 #[.pointer (some ⟨p,0,none⟩),.pointer (some ⟨m,0,none⟩)] v fun o w'=>o=.returned (.bool true)/\Env W (EL ⟨1,s,0,1,l⟩ (.slice (some ⟨g,0,none⟩) rs.length cp) p cc m S' [boxI Y [.int .i64 S.qc.l,.int .i64 S.qc.s,.int .i64 S.qc.w,.int .i64 S.qc.f,.int .i64 S.qc.a]]) w':=fun v hv=>by
     refine (memory_t (R:=tpsI (.slice (some ⟨g,0,none⟩) rs.length cp) (S'.ps.map fun q=>q.X.thr)::(S'.ps.flatMap (Pk.its ⟨1,s,0,1,l⟩)++[boxI Y [.int .i64 S.qc.l,.int .i64 S.qc.s,.int .i64 S.qc.w,.int .i64 S.qc.f,.int .i64 S.qc.a]])) (by have:=HGO'.out.ml; omega) (by have:=HGO'.out.n; omega) (hv.perm (List.perm_append_comm_assoc [_] [_,_,_] _))).mono ?_
     rintro o w11 ⟨rfl,hE7⟩
     exact ⟨rfl,hE7.perm (List.perm_append_comm_assoc [_,_,_] [_] _)⟩
    have HMEM:=Lib.hid hmem
    have hqs:=hqb.out
    unfold QB at hqs
    have hqs':=HQB'.out
    unfold QB at hqs'
    clear hmem hq' hgo'
    go_wp2_with fail
    all_goals first
     | (refine (count_w 1 2 hE6 rfl rfl).mono ?_; rintro o w14 ⟨rfl,hb⟩; have hEF:=hE6; clear hE6)
     | (refine (HMEM.out _ hE6).mono ?_; rintro o w11 ⟨rfl,hE7⟩; clear hE6; go_wp2_with fail; refine (count_w 1 2 hE7 rfl rfl).mono ?_; rintro o w14 ⟨rfl,hb⟩; have hEF:=hE7; clear hE7)
    all_goals
     replace hEF:=hEF.over hb
     clear hb
     go_upto_region 15 with fail
     have hEG:=(hEF.box w14.heap.size rfl [.int .i64 S'.qc.l,.int .i64 S'.qc.s,.int .i64 S'.qc.w,.int .i64 S'.qc.f,.int .i64 S'.qc.a] 34)
     clear hEF
     generalize w14.alloc _=w15 at *
     generalize w14.heap.size=Y2 at *
     have r0:=hEG.rule 0 rfl
     have rY:∀ j,w15.cell? ⟨Y,j,none⟩=[Value.int .i64 S.qc.l,.int .i64 S.qc.s,.int .i64 S.qc.w,.int .i64 S.qc.f,.int .i64 S.qc.a][j]?:=Blk.rule ((hEG.2.2 (boxI Y [.int .i64 S.qc.l,.int .i64 S.qc.s,.int .i64 S.qc.w,.int .i64 S.qc.f,.int .i64 S.qc.a]) (by simp [EL])).1)
     have hEH:=(hEG.sub (.cons _ (List.Sublist.refl _))).dropE
     have HEH:=Lib.hid hEH
     clear hEG hEH
     generalize S'.qc.l=a1 at *
     generalize S'.qc.s=a2 at *
     generalize S'.qc.w=a3 at *
     generalize S'.qc.a=a4 at *
     generalize S.qc.l=n1 at *
     generalize S.qc.s=n2 at *
     generalize S.qc.w=n3 at *
     generalize S.qc.a=n4 at *
     have hw1:wrap64 (a1+a2)=a1+a2:=w64 _ (by omega)
     have hw2:wrap64 (a1+a2+a3)=a1+a2+a3:=w64 _ (by omega)
     have hw3:wrap64 (a1+a2+a3+a4)=a1+a2+a3+a4:=w64 _ (by omega)
     have hw4:wrap64 (a1+a2+a3+a4 - n1)=a1+a2+a3+a4 - n1:=w64 _ (by omega)
     have hw5:wrap64 (a1+a2+a3+a4 - n1 - n2)=a1+a2+a3+a4 - n1 - n2:=w64 _ (by omega)
     have hw6:wrap64 (a1+a2+a3+a4 - n1 - n2 - n3)=a1+a2+a3+a4 - n1 - n2 - n3:=w64 _ (by omega)
     have hw7:wrap64 (a1+a2+a3+a4 - n1 - n2 - n3 - n4)=1:=by rw [w64 _ (by omega)]; omega
     have hw8:a1+a2+a3+a4 - n1 - n2 - n3 - n4=1:=by omega
     clear hsum
     go_wp2_with fail
     exact ⟨⟨j+1,S',by omega,by first | (simp; done) | (simp; omega),HGO'.out,HQB'.out,HEH.out⟩,by first | (simp [intOf]; done) | (simp [intOf]; omega)⟩
   ·have hb3:decide (q.K.pc≠0)=false:=by simp [hpc]
    have hb4:decide (((q.X.dn:Nat):Int)<=(q.K.T.nd:Int))=true:=by rw [hQ.dn]; exact decide_eq_true (by omega)
    have hb5:((q.X.dn:Nat):Int)<=(q.K.T.nd:Int):=by rw [hQ.dn]; omega
    have hid:idleK (rs.getD t default).ds q.K=true:=by unfold idleK; rw [decide_eq_true hpc,decide_eq_false hnd]; rfl
    have HTH:Hid (∀ v,Env W (EL ⟨1,s,0,1,l⟩ (.slice (some ⟨g,0,none⟩) rs.length cp) p cc m S [boxI Y [.int .i64 S.qc.l,.int .i64 S.qc.s,.int .i64 S.qc.w,.int .i64 S.qc.f,.int .i64 S.qc.a]]) v->v.cell? ⟨q.X.thr,4,none⟩=some (.bool false)/\v.cell? ⟨q.X.thr,3,none⟩=some (.int .i64 (q.K.T.nd:Int))/\v.cell? ⟨q.X.thr,2,none⟩=some (.slice q.X.dA q.X.dn q.X.dc)):=Lib.hid fun v hv=>by
     have h9:=hv.thrE hq
     exact ⟨by rw [h9 4,<- hb3]; rfl,h9 3,h9 2⟩
    have HID:=Lib.hid hid
    clear hb3 hpc hQ hid
    refine wp_text (S:=(Env W (EL ⟨1,s,0,1,l⟩ (.slice (some ⟨g,0,none⟩) rs.length cp) p cc m S [boxI Y [.int .i64 S.qc.l,.int .i64 S.qc.s,.int .i64 S.qc.w,.int .i64 S.qc.f,.int .i64 S.qc.a]]))) (by kernel_rfl) (by kernel_rfl) hE2.drew (fun hT=>?_)
    have hT9:=Lib.hid hT
    clear hT
    repeat (first
     | (refine text_value (v:=?_) hT9.out (by rfl) ?_ ?_; rotate_left; (focus (intro w5 hS; obtain ⟨r4,r3,r2⟩:=HTH.out _ hS; go_simp<;>with_reducible rfl)); (try simp only [Act.put,zA,zZ,zS]))
     | (refine text_off hT9.out (by rfl) ?_; (try simp only [Act.put,zA,zZ,zS]))
     | (refine text_call (v:=?_) (f:=?_) (args:=?_) hT9.out (by rfl) ?_ ?_ ?_; rotate_left 3; (focus (intro w5 hS; obtain ⟨r4,r3,r2⟩:=HTH.out _ hS; go_simp; constructor<;>with_reducible rfl)); (focus (intro w5 hS; (first | fail))); (try simp only [Act.put,zA,zZ,zS])))
    refine InText.nil fun w5 hS5=>?_
    clear hT9
    clear hE2 HTH
    go_wp2_with fail
    refine (step_pk HG.out HCK.out rfl (HR.out _ t htl) hgo.out (by omega) htl hq hS5).mono ?_
    rintro o w9 ⟨rfl,S',q',hst,hgo',hE'⟩
    have hsl:S.ps.length=rs.length:=hgo.out.len
    have hq':S'.ps[t]?=some q':=by rw [hst.ps]; simp [hsl,htl]
    have hid:=HID.out
    have hqe:=hst.qc.2 hid
    have HQB':Hid (QB (2+(j+1)) S'.qc):=Lib.hid (by rw [hqe]; have:=hqb.out; unfold QB at this ⊢; omega)
    have hsum:S'.qc.l+S'.qc.s+S'.qc.w+S'.qc.a=S.qc.l+S.qc.s+S.qc.w+S.qc.a:=by rw [hqe]
    clear hqe
    have HGO':Hid (GOk ⟨1,s,0,1,l⟩ rs (40+(j+1)) S'):=Lib.hid hgo'
    have hthr:=hst.thr
    clear hS5 hst hid
    go_wp2_with fail
    rw [<- hthr]
    refine (same_pk hgo' (by omega) htl hq' hE').mono ?_
    rintro o w10 ⟨rfl,hE6⟩
    clear hE'
    have hmem:∀ v,Env W (EL ⟨1,s,0,1,l⟩ (.slice (some ⟨g,0,none⟩) rs.length cp) p cc m S' [boxI Y [.int .i64 S.qc.l,.int .i64 S.qc.s,.int .i64 S.qc.w,.int .i64 S.qc.f,.int .i64 S.qc.a]]) v->Calls Tryz.prog 17 #[.pointer (some ⟨p,0,none⟩),.pointer (some ⟨m,0,none⟩)] v fun o w'=>o=.returned (.bool true)/\Env W (EL ⟨1,s,0,1,l⟩ (.slice (some ⟨g,0,none⟩) rs.length cp) p cc m S' [boxI Y [.int .i64 S.qc.l,.int .i64 S.qc.s,.int .i64 S.qc.w,.int .i64 S.qc.f,.int .i64 S.qc.a]]) w':=fun v hv=>by
     refine (memory_t (R:=tpsI (.slice (some ⟨g,0,none⟩) rs.length cp) (S'.ps.map fun q=>q.X.thr)::(S'.ps.flatMap (Pk.its ⟨1,s,0,1,l⟩)++[boxI Y [.int .i64 S.qc.l,.int .i64 S.qc.s,.int .i64 S.qc.w,.int .i64 S.qc.f,.int .i64 S.qc.a]])) (by have:=HGO'.out.ml; omega) (by have:=HGO'.out.n; omega) (hv.perm (List.perm_append_comm_assoc [_] [_,_,_] _))).mono ?_
     rintro o w11 ⟨rfl,hE7⟩
     exact ⟨rfl,hE7.perm (List.perm_append_comm_assoc [_,_,_] [_] _)⟩
    have HMEM:=Lib.hid hmem
    have hqs:=hqb.out
    unfold QB at hqs
    have hqs':=HQB'.out
    unfold QB at hqs'
    clear hmem hq' hgo'
    go_wp2_with fail
    all_goals first
     | (refine (count_w 1 2 hE6 rfl rfl).mono ?_; rintro o w14 ⟨rfl,hb⟩; have hEF:=hE6; clear hE6)
     | (refine (HMEM.out _ hE6).mono ?_; rintro o w11 ⟨rfl,hE7⟩; clear hE6; go_wp2_with fail; refine (count_w 1 2 hE7 rfl rfl).mono ?_; rintro o w14 ⟨rfl,hb⟩; have hEF:=hE7; clear hE7)
    all_goals
     replace hEF:=hEF.over hb
     clear hb
     go_upto_region 15 with fail
     have hEG:=(hEF.box w14.heap.size rfl [.int .i64 S'.qc.l,.int .i64 S'.qc.s,.int .i64 S'.qc.w,.int .i64 S'.qc.f,.int .i64 S'.qc.a] 34)
     clear hEF
     generalize w14.alloc _=w15 at *
     generalize w14.heap.size=Y2 at *
     have r0:=hEG.rule 0 rfl
     have rY:∀ j,w15.cell? ⟨Y,j,none⟩=[Value.int .i64 S.qc.l,.int .i64 S.qc.s,.int .i64 S.qc.w,.int .i64 S.qc.f,.int .i64 S.qc.a][j]?:=Blk.rule ((hEG.2.2 (boxI Y [.int .i64 S.qc.l,.int .i64 S.qc.s,.int .i64 S.qc.w,.int .i64 S.qc.f,.int .i64 S.qc.a]) (by simp [EL])).1)
     have hEH:=(hEG.sub (.cons _ (List.Sublist.refl _))).dropE
     have HEH:=Lib.hid hEH
     clear hEG hEH
     generalize S'.qc.l=a1 at *
     generalize S'.qc.s=a2 at *
     generalize S'.qc.w=a3 at *
     generalize S'.qc.a=a4 at *
     generalize S.qc.l=n1 at *
     generalize S.qc.s=n2 at *
     generalize S.qc.w=n3 at *
     generalize S.qc.a=n4 at *
     have hw1:wrap64 (a1+a2)=a1+a2:=w64 _ (by omega)
     have hw2:wrap64 (a1+a2+a3)=a1+a2+a3:=w64 _ (by omega)
     have hw3:wrap64 (a1+a2+a3+a4)=a1+a2+a3+a4:=w64 _ (by omega)
     have hw4:wrap64 (a1+a2+a3+a4 - n1)=a1+a2+a3+a4 - n1:=w64 _ (by omega)
     have hw5:wrap64 (a1+a2+a3+a4 - n1 - n2)=a1+a2+a3+a4 - n1 - n2:=w64 _ (by omega)
     have hw6:wrap64 (a1+a2+a3+a4 - n1 - n2 - n3)=a1+a2+a3+a4 - n1 - n2 - n3:=w64 _ (by omega)
     have hw7:wrap64 (a1+a2+a3+a4 - n1 - n2 - n3 - n4)=0:=by rw [w64 _ (by omega)]; omega
     have hw8:a1+a2+a3+a4 - n1 - n2 - n3 - n4=0:=by omega
     clear hsum
     go_wp2_with fail
     exact ⟨⟨j+1,S',by omega,by first | (simp; done) | (simp; omega),HGO'.out,HQB'.out,HEH.out⟩,by first | (simp [intOf]; done) | (simp [intOf]; omega)⟩
  ·have hb1:decide ((j:Int) < (zs.length:Int))=false:=by simp; omega
   go_wp2_with fail
   go_ret
   exact ⟨rfl,hE.below⟩
end Go.Proofs.YthcblagpbkaoaaaGreatDoor.chainExact
