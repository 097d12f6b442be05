/- What is proved on the way to the statement, part 4: contracts of the functions, among other things in memory. -/
import Derived.Test.YtleklonmmlfijaaGreatDoorQ3
import Derived.Laws.OwnMore
import Derived.Deep.Light

open _root_.Go.Proofs.Tryz
set_option maxRecDepth 100000
set_option maxHeartbeats 25600000
namespace Go.Proofs.YtleklonmmlfijaaGreatDoor
section
open Go.RowKit Go.Maps
def gC (x l:Int):Int:=if aA x=0 then 3 else if l<=dr x then 4 else 0
section
variable {w0 w:World} {R:List Item} {a:Nat} {S:ST} {M:MA}
theorem DG {vs:List Value} (x d:Int) (t:Bool) (hx:aD x) (hg:bE w0) (hv:vs[0]?=some (zP S.c)) (hE:Env w0 (ae a vs::LT S R) w) :
  Calls prog 165 #[zP a,.agg #[zU x,zI d,.bool t]] w fun o w'=>o=.returned (.bool (decide (S.cl<=dr x)))/\Below w.heap.size w w':=by
 have jb:=(Below.refl w.heap.size w).alloc (Nat.le_refl _) (.cells [zU x,zI d,.bool t].toArray 110);have ag:=hE.box w.heap.size rfl [zU x,zI d,.bool t] 110;have HV:Hid (∀ v,Env w0 (ae w.heap.size [zU x,zI d,.bool t]::ae a vs::LT S R) v->v.cell? ⟨a,0,none⟩=some (zP S.c)):=zH fun v h=>(h.rule 1 rfl 0).trans hv;have HG:Hid (∀ v,Env w0 (ae w.heap.size [zU x,zI d,.bool t]::ae a vs::LT S R) v->Calls prog 186 #[zU x] v fun e w'=>e=.returned (zI (dr x))/\Below v.heap.size v w'):=zH fun v h=>wS x v (hg.keep' h.below) hx.1 hx.2;have Jr:=Dy;generalize dr x=y at *;clear hv hx hg hE;go_enter func165,ntmps165;go_wp2_with fail;refine cG (S:=(fun v=>Env w0 (ae w.heap.size [zU x,zI d,.bool t]::ae a vs::LT S R) v/\Below w.heap.size w v)) (by kernel_rfl) (by kernel_rfl) (⟨ag.drew,jb.drew⟩) (fun hT=>?_);have af:=zH hT;clear hT
 repeat ((first
  | (refine cH (v:=?_) af.o (by rfl) ?_ ?_;rotate_left;(intro w5 hS;have r0:=HV.out _ hS.1;have r1:=hS.1.rule 0 rfl;go_simp<;>rfl))
  | (refine cI af.o (by rfl) ?_)
  | (refine cJ (v:=?_) (f:=?_) (args:=?_) af.o (by rfl) ?_ ?_ ?_;rotate_left 3;(intro w5 hS;have r0:=HV.out _ hS.1;have r1:=hS.1.rule 0 rfl;go_simp;constructor<;>rfl);(intro w5 hS;(first | (with_reducible refine kp (HG.out _ hS.1) ?_ ?_;rfl;exact fun w6 aj=>⟨hS.1.over aj,hS.2.trans (aj.mono hS.2.size)⟩) | (with_reducible refine kp (nT (hS.1.get 2 rfl)) ?_ ?_;rfl;exact fun w6 aj=>⟨hS.1.over aj,hS.2.trans (aj.mono hS.2.size)⟩)))));try simp only[Act.put,zA,zZ,zS])
 refine InText.nil fun w5 aK=>?_;clear af;go_wp2_with fail;go_ret;exact⟨rfl,aK.2⟩
theorem Jv (x:Int) (br:S.f (3,0,0)=x) (h0:0<=x) (ht:S.cs<=x) (eO:0<=S.cs/\S.cs<=9223372036854775806) (hm:S.m < maxLen) (hz:Hid (M.nx.2=zI 0)) (hE:Env w0 (ae a (av S.c M)::LT S R) w) :
  Calls prog 195 #[zP a,.iface 28 (zP S.p)] w fun o w'=>o=.returned (zI 0)/\∃ G',Env w0 (ae a (av S.c { M with nx:=fa a 3 })::LT { S with G:=G',f:=upd S.f (3,0,0) (IntKind.u64.wrap (x+1)),qc:={ S.qc with a:=wrap64 (S.qc.a+1) },m:=S.m+1 } R) w':=by
 have cf:=cg;have eV:=DE;have wV:=Dz;have HT:=zH br;have ij:IntKind.u64.wrap S.cs=S.cs:=mK _ (by omega) (by omega);have hd:decide (S.cs<=x)=true:=by simpa using ht
 clear h0 ht eO br;go_enter func195,ntmps195;go_wp2_with fail;refine Ord.wc [6] (fun _=>True) (fun k w'=>∃ G5,Env w0 (if k=0 then (ae a (av S.c M)::LT S R) else (ae a (av S.c M)::LT { S with G:=G5,f:=upd S.f (3,0,0) (IntKind.u64.wrap (x+1)),qc:={ S.qc with a:=wrap64 (S.qc.a+1) },m:=S.m+1 } R)) w') trivial ⟨S.G,hE.drew⟩ fun af=>?_
 repeat ((first
  | (refine Ord.cv ?_ af.o ?_ ?_;rotate_left;(intro w5 hS;skip;go_simp<;>rfl))
  | (refine Ord.co af.o ?_)
  | (refine Ord.cc ?_ ?_ ?_ af.o ?_ ?_ ?_;rotate_left 3;(intro w5 hS;skip;go_simp;constructor<;>rfl);(intro w5 hS;(first | (with_reducible refine kp (Dt _) ?_ ?_;rfl;exact fun w6 aj=>⟨trivial,fun k h=>h.elim fun G5 h=>⟨G5,h.over aj⟩⟩) | (with_reducible refine kp (nW _ _ _ _) ?_ ?_;rfl;exact fun w6 aj=>⟨trivial,fun k h=>h.elim fun G5 h=>⟨G5,h.over aj⟩⟩)))));try simp only[Act.put,zA,zZ,zS])
 refine Ord.ch_turn (v:=zU x) 0 af.o rfl (by decide) (Or.inl rfl) (by rfl) ?_ ?_
 ·rintro w5 aN ⟨G5,au⟩;simp only[if_true] at au;go_simp;rw[DC];simp only[Result.andThen_ok];go_simp;simp only[Ord.LandsIn];have h7:=Dx 3 0 0 0 1 (by unfold Wf In64;simp) hm 3 4 (by decide) au rfl rfl;rw[HT.out] at h7;refine h7.mono ?_;rintro e w6 ⟨rfl,G6,aq⟩;exact⟨rfl,G6,aq⟩
 try simp only[Act.put,zA,zZ,zS]
 repeat ((first
  | (refine Ord.cv ?_ af.o ?_ ?_;rotate_left;(intro w5 hS;skip;go_simp<;>rfl))
  | (refine Ord.co af.o ?_));try simp only[Act.put,zA,zZ,zS])
 refine Ord.InText.nil fun w5 hS=>?_;clear af;obtain⟨aL,ai⟩:=Ord.chain_end hS;clear hS;obtain⟨G9,ai⟩:=ai;simp only[List.length_cons,List.length_nil,Nat.zero_add,Nat.one_ne_zero,if_false] at ai;have r:=ai.rule 0 rfl;unfold av at r;go_wp2_with fail;refine (nT (ai.get 1 rfl)).mono ?_;rintro o w6 ⟨rfl,hb⟩;replace ai:=ai.over hb;clear hb r;have r:=ai.rule 0 rfl;unfold av at r;go_wp2_with fail;refine (goOn_m 0 _ _ _ (by simp[av]) (by exact congrArg some hz.out) ai rfl).mono ?_;rintro o w7 ⟨rfl,aO⟩;go_wp2_with fail;go_ret;exact⟨rfl,G9,aO⟩
theorem Jw (x:Int) (br:S.f (3,0,0)=x) (hl:S.ql.length+1<=1048576) (h0:0<=x) (ht:x < S.cs) (eO:S.cs<=9223372036854775806) (hm:S.m < maxLen) (hz:Hid (M.nx.2=zI 0)) (hE:Env w0 (ae a (av S.c M)::LT S R) w) :
  Calls prog 195 #[zP a,.iface 28 (zP S.p)] w fun o w'=>o=.returned (zI (dI (S.ql++[(x+1,0,0)]) S.ce S.cl))/\∃ nx k' F' G',(bk (S.ql++[(x+1,0,0)]) S.ce S.cl≠0->nx=fa a (bk (S.ql++[(x+1,0,0)]) S.ce S.cl))/\Rm S.kq (S.ql.length+1) k'/\Env w0 (ae a (av S.c { M with nx:=nx })::LT { S with G:=G',f:=upd S.f (3,0,0) (IntKind.u64.wrap (x+1)),qc:={ S.qc with a:=wrap64 (S.qc.a+1) },m:=S.m+1,ql:=S.ql++[(x+1,0,0)],kq:=k',F:=F' } R) w':=by
 have cf:=cg;have eV:=DE;have wV:=Dz;have HT:=zH br;have ij:IntKind.u64.wrap S.cs=S.cs:=mK _ (by omega) (by omega);have hd:decide (S.cs<=x)=false:=by simp;omega
 have gd:wrap64 x=x:=df _ (by omega);have tD:wrap64 (x+1)=x+1:=df _ (by omega);clear h0 ht eO br;go_enter func195,ntmps195;go_wp2_with fail;refine Ord.wc [6] (fun _=>True) (fun k w'=>∃ G5,Env w0 (if k=0 then (ae a (av S.c M)::LT S R) else (ae a (av S.c M)::LT { S with G:=G5,f:=upd S.f (3,0,0) (IntKind.u64.wrap (x+1)),qc:={ S.qc with a:=wrap64 (S.qc.a+1) },m:=S.m+1 } R)) w') trivial ⟨S.G,hE.drew⟩ fun af=>?_
 repeat ((first
  | (refine Ord.cv ?_ af.o ?_ ?_;rotate_left;(intro w5 hS;skip;go_simp<;>rfl))
  | (refine Ord.co af.o ?_)
  | (refine Ord.cc ?_ ?_ ?_ af.o ?_ ?_ ?_;rotate_left 3;(intro w5 hS;skip;go_simp;constructor<;>rfl);(intro w5 hS;(first | (with_reducible refine kp (Dt _) ?_ ?_;rfl;exact fun w6 aj=>⟨trivial,fun k h=>h.elim fun G5 h=>⟨G5,h.over aj⟩⟩) | (with_reducible refine kp (nW _ _ _ _) ?_ ?_;rfl;exact fun w6 aj=>⟨trivial,fun k h=>h.elim fun G5 h=>⟨G5,h.over aj⟩⟩)))));try simp only[Act.put,zA,zZ,zS])
 refine Ord.ch_turn (v:=zU x) 0 af.o rfl (by decide) (Or.inl rfl) (by rfl) ?_ ?_
 ·rintro w5 aN ⟨G5,au⟩;simp only[if_true] at au;go_simp;rw[DC];simp only[Result.andThen_ok];go_simp;simp only[Ord.LandsIn];have h7:=Dx 3 0 0 0 1 (by unfold Wf In64;simp) hm 3 4 (by decide) au rfl rfl;rw[HT.out] at h7;refine h7.mono ?_;rintro e w6 ⟨rfl,G6,aq⟩;exact⟨rfl,G6,aq⟩
 try simp only[Act.put,zA,zZ,zS]
 repeat ((first
  | (refine Ord.cv ?_ af.o ?_ ?_;rotate_left;(intro w5 hS;skip;go_simp<;>rfl))
  | (refine Ord.co af.o ?_));try simp only[Act.put,zA,zZ,zS])
 refine Ord.InText.nil fun w5 hS=>?_;clear af;obtain⟨aL,ai⟩:=Ord.chain_end hS;clear hS;obtain⟨G9,ai⟩:=ai;simp only[List.length_cons,List.length_nil,Nat.zero_add,Nat.one_ne_zero,if_false] at ai;have r:=ai.rule 0 rfl;unfold av at r;go_wp2_with fail;refine (nT (ai.get 1 rfl)).mono ?_;rintro o w6 ⟨rfl,hb⟩;replace ai:=ai.over hb;clear hb r;have r:=ai.rule 0 rfl;unfold av at r;go_wp2_with fail;refine (DB (S:={ S with G:=G9,f:=upd S.f (3,0,0) (IntKind.u64.wrap (x+1)),qc:={ S.qc with a:=wrap64 (S.qc.a+1) },m:=S.m+1 }) (x+1) 0 hl hz ai).mono ?_;rintro o w7 ⟨rfl,nx,k',F',bo,iD,aO⟩;go_wp2_with fail;go_ret;exact⟨rfl,nx,k',F',G9,bo,iD,aO⟩
theorem Jy (x:Int) (br:S.f (2,0,0)=x) (hg:bE w0) (hz:Hid (M.nx.2=zI 0)) (hE:Env w0 (ae a (av S.c M)::LT S R) w) :
  Calls prog 213 #[zP a,.iface 28 (zP S.p)] w fun o w'=>o=.returned (zI (gC x S.cl))/\∃ nx,(gC x S.cl=0->nx=fa a 4)/\Env w0 (ae a (av S.c { M with nx:=nx,h:=x })::LT { S with qc:={ S.qc with l:=wrap64 (S.qc.l+1) } } R) w':=by
 have cf:=cg;have eV:=l4;have wV:=zD;have eA:aD x:=by rw[<- br];exact (hE.cell 4 rfl).words.1 _
 have HX:=zH br;have jU:=zH eA;clear br eA;go_enter func213,ntmps213;go_wp2_with fail;refine Ord.wc [7,10] (fun _=>True) (fun k w'=>Env w0 (l6 (ae a (av S.c M)::LT S R) (ae a (av S.c M)::LT { S with qc:={ S.qc with l:=wrap64 (S.qc.l+1) } } R) (ae a (av S.c { M with h:=x })::LT { S with qc:={ S.qc with l:=wrap64 (S.qc.l+1) } } R) k) w') trivial hE.drew fun af=>?_
 repeat ((first
  | (refine Ord.cv ?_ af.o ?_ ?_;rotate_left;(intro w5 hS;skip;go_simp<;>rfl))
  | (refine Ord.co af.o ?_)
  | (refine Ord.cc ?_ ?_ ?_ af.o ?_ ?_ ?_;rotate_left 3;(intro w5 hS;skip;go_simp;constructor<;>rfl);(intro w5 hS;(first | (with_reducible refine kp (tA _) ?_ ?_;rfl;exact fun w6 aj=>⟨trivial,fun k h=>h.over aj⟩) | (with_reducible refine kp (nW _ _ _ _) ?_ ?_;rfl;exact fun w6 aj=>⟨trivial,fun k h=>h.over aj⟩)))));try simp only[Act.put,zA,zZ,zS])
 refine Ord.ch_turn (v:=.agg #[zU x,zI 0,.bool false]) 0 af.o rfl (by decide) (Or.inl rfl) (by rfl) ?_ ?_
 ·rintro w5 aN au;replace au:Env w0 (ae a (av S.c M)::LT S R) w5:=au;go_simp;rw[lB];simp only[Result.andThen_ok];go_simp;simp only[Ord.LandsIn];have hl:=lA 2 0 0 0 (by unfold Wf In64;simp) 3 4 (by decide) au rfl rfl;rw[HX.out] at hl;refine hl.mono ?_;rintro e w6 ⟨rfl,aq⟩;exact⟨rfl,aq⟩
 try simp only[Act.put,zA,zZ,zS]
 repeat ((first
  | (refine Ord.cv ?_ af.o ?_ ?_;rotate_left;(intro w5 hS;skip;go_simp<;>rfl))
  | (refine Ord.co af.o ?_));try simp only[Act.put,zA,zZ,zS])
 refine Ord.ch_turn (v:=undef) 1 af.o rfl (by decide) (Or.inr ⟨_,rfl,by kernel_rfl⟩) (by rfl) ?_ ?_
 ·rintro w5 aN au;replace au:Env w0 (ae a (av S.c M)::LT { S with qc:={ S.qc with l:=wrap64 (S.qc.l+1) } } R) w5:=au;have r:=au.rule 0 rfl;unfold av at r;have f6:=au.thaw 0 rfl 7 (by simp[av]);have f7:=au.thaw 0 rfl 8 (by simp[av]);have f8:=au.thaw 0 rfl 9 (by simp[av]);go_simp;have h9:=((au.put 0 rfl (j:=7) (by simp[av]) (zU x)).put 0 rfl (j:=8) (by simp[av]) (zI 0)).put 0 rfl (j:=9) (by simp[av]) (.bool false)
  first | exact⟨rfl,trivial,h9⟩ | exact⟨rfl,h9⟩ | exact h9
 try simp only[Act.put,zA,zZ,zS]
 repeat ((first
  | (refine Ord.cv ?_ af.o ?_ ?_;rotate_left;(intro w5 hS;skip;go_simp<;>rfl))
  | (refine Ord.co af.o ?_));try simp only[Act.put,zA,zZ,zS])
 refine Ord.InText.nil fun w5 hS=>?_;clear af;obtain⟨aL,ai⟩:=Ord.chain_end hS;clear hS;replace ai:Env w0 (ae a (av S.c { M with h:=x })::LT { S with qc:={ S.qc with l:=wrap64 (S.qc.l+1) } } R) w5:=ai;have r:=ai.rule 0 rfl;unfold av at r;go_wp2_with fail;refine (kt x 0 false _ jU.out (hg.keep' ai.below)).mono ?_;rintro o w6 ⟨rfl,hb⟩;replace ai:=ai.over hb;clear hb r;have r:=ai.rule 0 rfl;unfold av at r
 by_cases hs:aA x=0
 ·have hp:gC x S.cl=3:=if_pos hs;have HP:=zH hp;have tE:(aA x==0)=true:=by simpa using hs
  have HS:=zH hs;clear hp hs;go_wp2_with fail;refine (end_m 0 3 (by simp[av]) ai rfl).mono ?_;rintro o w7 ⟨rfl,nx,aO⟩;go_wp2_with fail;go_ret;rw[HP.out];exact⟨rfl,nx,fun h=>absurd h (by decide),aO⟩
 ·have tE:(aA x==0)=false:=by simpa using hs
  have rK:Hid (∀ v,Env w0 (ae a (av S.c { M with h:=x })::LT { S with qc:={ S.qc with l:=wrap64 (S.qc.l+1) } } R) v->Calls prog 165 #[zP a,.agg #[zU x,zI 0,.bool false]] v fun o w'=>o=.returned (.bool (decide (S.cl<=dr x)))/\Below v.heap.size v w'):=zH fun v hv=>DG (S:={ S with qc:={ S.qc with l:=wrap64 (S.qc.l+1) } }) x 0 false jU.out hg rfl hv;obtain⟨b,hb⟩:∃ b,decide (S.cl<=dr x)=b:=⟨_,rfl⟩;rw[hb] at rK;have HB:=zH hb;have HS:=zH hs;clear hb hs;go_wp2_with fail;refine cG (S:=(Env w0 (ae a (av S.c { M with h:=x })::LT { S with qc:={ S.qc with l:=wrap64 (S.qc.l+1) } } R))) (by kernel_rfl) (by kernel_rfl) ai.drew (fun hT=>?_);have af:=zH hT;clear hT
  repeat ((first
   | (refine cH (v:=?_) af.o (by rfl) ?_ ?_;rotate_left;(intro w5 hS;have r:=hS.rule 0 rfl;unfold av at r;go_simp<;>rfl))
   | (refine cI af.o (by rfl) ?_)
   | (refine cJ (v:=?_) (f:=?_) (args:=?_) af.o (by rfl) ?_ ?_ ?_;rotate_left 3;(intro w5 hS;have r:=hS.rule 0 rfl;unfold av at r;go_simp;constructor<;>rfl);(intro w5 hS;(first | (with_reducible refine kp (rK.out _ hS) ?_ ?_;rfl;exact fun w6 aj=>hS.over aj)))));try simp only[Act.put,zA,zZ,zS])
  refine InText.nil fun w5 aK=>?_;clear af;clear ai r rK;cases b
  ·have hv:¬ S.cl<=dr x:=by simpa using HB.out
   have hp:gC x S.cl=0:=by unfold gC;rw[if_neg HS.out,if_neg hv]
   have HP:=zH hp;clear hp hv;go_wp2_with fail;refine (goOn_m 0 _ _ _ (by simp[av]) (by exact congrArg some hz.out) aK rfl).mono ?_;rintro o w7 ⟨rfl,aO⟩;go_wp2_with fail;go_ret;rw[HP.out];exact⟨rfl,_,fun _=>rfl,aO⟩
  ·have hv:S.cl<=dr x:=by simpa using HB.out
   have hp:gC x S.cl=4:=by unfold gC;rw[if_neg HS.out,if_pos hv]
   have HP:=zH hp;clear hp hv;go_wp2_with fail;refine (end_m 0 4 (by simp[av]) aK rfl).mono ?_;rintro o w7 ⟨rfl,nx,aO⟩;go_wp2_with fail;go_ret;rw[HP.out];exact⟨rfl,nx,fun h=>absurd h (by decide),aO⟩
theorem Jz (x:Int) (br:S.f (5,aA M.h,2)=x) (hh:aD M.h) (hg:bE w0) (hz:Hid (M.nx.2=zI 0)) (hE:Env w0 (ae a (av S.c M)::LT S R) w) :
  Calls prog 230 #[zP a,.iface 28 (zP S.p)] w fun o w'=>o=.returned (zI 0)/\Env w0 (ae a (av S.c { M with nx:=fa a 5,n:=x })::LT { S with qc:={ S.qc with l:=wrap64 (S.qc.l+1) } } R) w':=by
 have cf:=cg;have eV:=l4;have HX:=zH br;have zG:=zH fun (v:World) (hv:Below w0.heap.size w0 v)=>kt M.h 0 false v hh (hg.keep' hv);have dQ:Hid (Wf (5,aA M.h,2)):=zH (by have:=nV M.h;unfold Wf In64;simp;omega);clear br hh;go_enter func230,ntmps230;go_wp2_with fail;refine Ord.wc [11,14] (fun v=>Below w0.heap.size w0 v/\∃ n9 r9,ao 0 v a (av S.c { M with n:=n9,r:=r9 })) (fun k w'=>Env w0 (l6 (ae a (av S.c M)::LT S R) (ae a (av S.c M)::LT { S with qc:={ S.qc with l:=wrap64 (S.qc.l+1) } } R) (ae a (av S.c { M with n:=x })::LT { S with qc:={ S.qc with l:=wrap64 (S.qc.l+1) } } R) k) w') ⟨hE.drew.below,M.n,M.r,hE.drew.get 0 rfl⟩ hE.drew fun af=>?_
 repeat ((first
  | (refine Ord.cv ?_ af.o ?_ ?_;rotate_left;(intro w5 hS;obtain⟨eo,n9,r9,dz⟩:=hS;have r:=ao.rule dz;unfold av at r;go_simp<;>rfl))
  | (refine Ord.co af.o ?_)
  | (refine Ord.cc ?_ ?_ ?_ af.o ?_ ?_ ?_;rotate_left 3;(intro w5 hS;obtain⟨eo,n9,r9,dz⟩:=hS;have r:=ao.rule dz;unfold av at r;go_simp;constructor<;>rfl);(intro w5 hS;(first | (with_reducible refine kp (zG.out _ hS.1) ?_ ?_;rfl;exact fun w6 aj=>⟨⟨hS.1.trans (aj.mono hS.1.size),Exists.elim hS.2 fun n9 h=>Exists.elim h fun r9 h=>⟨n9,r9,h.under aj⟩⟩,fun k h=>h.over aj⟩) | (with_reducible refine kp (u7 _ _ _ _) ?_ ?_;rfl;exact fun w6 aj=>⟨⟨hS.1.trans (aj.mono hS.1.size),Exists.elim hS.2 fun n9 h=>Exists.elim h fun r9 h=>⟨n9,r9,h.under aj⟩⟩,fun k h=>h.over aj⟩)))));try simp only[Act.put,zA,zZ,zS])
 refine Ord.ch_turn (v:=.agg #[zU x,zI 0,.bool false]) 0 af.o rfl (by decide) (Or.inl rfl) (by rfl) ?_ ?_
 ·rintro w5 aN au;replace au:Env w0 (ae a (av S.c M)::LT S R) w5:=au;go_simp;rw[lB];simp only[Result.andThen_ok];go_simp;simp only[Ord.LandsIn];have hl:=lA 5 (aA M.h) 2 0 dQ.out 3 4 (by decide) au rfl rfl;rw[HX.out] at hl;refine hl.mono ?_;rintro e w6 ⟨rfl,aq⟩;exact⟨rfl,⟨aq.below,M.n,M.r,aq.get 0 rfl⟩,aq⟩
 try simp only[Act.put,zA,zZ,zS]
 repeat ((first
  | (refine Ord.cv ?_ af.o ?_ ?_;rotate_left;(intro w5 hS;skip;go_simp<;>rfl))
  | (refine Ord.co af.o ?_));try simp only[Act.put,zA,zZ,zS])
 refine Ord.ch_turn (v:=undef) 1 af.o rfl (by decide) (Or.inr ⟨_,rfl,by kernel_rfl⟩) (by rfl) ?_ ?_
 ·rintro w5 aN au;replace au:Env w0 (ae a (av S.c M)::LT { S with qc:={ S.qc with l:=wrap64 (S.qc.l+1) } } R) w5:=au;have r:=au.rule 0 rfl;unfold av at r;have f6:=au.thaw 0 rfl 10 (by simp[av]);have f7:=au.thaw 0 rfl 11 (by simp[av]);have f8:=au.thaw 0 rfl 12 (by simp[av]);go_simp;have h9:=((au.put 0 rfl (j:=10) (by simp[av]) (zU x)).put 0 rfl (j:=11) (by simp[av]) (zI 0)).put 0 rfl (j:=12) (by simp[av]) (.bool false);replace h9:Env w0 (ae a (av S.c { M with n:=x })::LT { S with qc:={ S.qc with l:=wrap64 (S.qc.l+1) } } R) _:=h9;exact⟨rfl,⟨h9.below,_,_,h9.get 0 rfl⟩,h9⟩
 try simp only[Act.put,zA,zZ,zS]
 repeat ((first
  | (refine Ord.cv ?_ af.o ?_ ?_;rotate_left;(intro w5 hS;skip;go_simp<;>rfl))
  | (refine Ord.co af.o ?_));try simp only[Act.put,zA,zZ,zS])
 refine Ord.InText.nil fun w5 hS=>?_;clear af;obtain⟨aL,ai⟩:=Ord.chain_end hS;clear hS;replace ai:Env w0 (ae a (av S.c { M with n:=x })::LT { S with qc:={ S.qc with l:=wrap64 (S.qc.l+1) } } R) w5:=ai;have r:=ai.rule 0 rfl;unfold av at r;go_wp2_with fail;refine (goOn_m 0 _ _ _ (by simp[av]) (by exact congrArg some hz.out) ai rfl).mono ?_;rintro o w7 ⟨rfl,aO⟩;go_wp2_with fail;go_ret;exact⟨rfl,aO⟩
theorem JA (x:Int) (br:S.f (5,aA M.h,1)=x) (hh:aD M.h) (hg:bE w0) (hz:Hid (M.nx.2=zI 0)) (hE:Env w0 (ae a (av S.c M)::LT S R) w) :
  Calls prog 239 #[zP a,.iface 28 (zP S.p)] w fun o w'=>o=.returned (zI 0)/\Env w0 (ae a (av S.c { M with nx:=fa a 6,r:=x })::LT { S with qc:={ S.qc with l:=wrap64 (S.qc.l+1) } } R) w':=by
 have cf:=cg;have eV:=l4;have HX:=zH br;have zG:=zH fun (v:World) (hv:Below w0.heap.size w0 v)=>kt M.h 0 false v hh (hg.keep' hv);have dQ:Hid (Wf (5,aA M.h,1)):=zH (by have:=nV M.h;unfold Wf In64;simp;omega);clear br hh;go_enter func239,ntmps239;go_wp2_with fail;refine Ord.wc [11,14] (fun v=>Below w0.heap.size w0 v/\∃ n9 r9,ao 0 v a (av S.c { M with n:=n9,r:=r9 })) (fun k w'=>Env w0 (l6 (ae a (av S.c M)::LT S R) (ae a (av S.c M)::LT { S with qc:={ S.qc with l:=wrap64 (S.qc.l+1) } } R) (ae a (av S.c { M with r:=x })::LT { S with qc:={ S.qc with l:=wrap64 (S.qc.l+1) } } R) k) w') ⟨hE.drew.below,M.n,M.r,hE.drew.get 0 rfl⟩ hE.drew fun af=>?_
 repeat ((first
  | (refine Ord.cv ?_ af.o ?_ ?_;rotate_left;(intro w5 hS;obtain⟨eo,n9,r9,dz⟩:=hS;have r:=ao.rule dz;unfold av at r;go_simp<;>rfl))
  | (refine Ord.co af.o ?_)
  | (refine Ord.cc ?_ ?_ ?_ af.o ?_ ?_ ?_;rotate_left 3;(intro w5 hS;obtain⟨eo,n9,r9,dz⟩:=hS;have r:=ao.rule dz;unfold av at r;go_simp;constructor<;>rfl);(intro w5 hS;(first | (with_reducible refine kp (zG.out _ hS.1) ?_ ?_;rfl;exact fun w6 aj=>⟨⟨hS.1.trans (aj.mono hS.1.size),Exists.elim hS.2 fun n9 h=>Exists.elim h fun r9 h=>⟨n9,r9,h.under aj⟩⟩,fun k h=>h.over aj⟩) | (with_reducible refine kp (u7 _ _ _ _) ?_ ?_;rfl;exact fun w6 aj=>⟨⟨hS.1.trans (aj.mono hS.1.size),Exists.elim hS.2 fun n9 h=>Exists.elim h fun r9 h=>⟨n9,r9,h.under aj⟩⟩,fun k h=>h.over aj⟩)))));try simp only[Act.put,zA,zZ,zS])
 refine Ord.ch_turn (v:=.agg #[zU x,zI 0,.bool false]) 0 af.o rfl (by decide) (Or.inl rfl) (by rfl) ?_ ?_
 ·rintro w5 aN au;replace au:Env w0 (ae a (av S.c M)::LT S R) w5:=au;go_simp;rw[lB];simp only[Result.andThen_ok];go_simp;simp only[Ord.LandsIn];have hl:=lA 5 (aA M.h) 1 0 dQ.out 3 4 (by decide) au rfl rfl;rw[HX.out] at hl;refine hl.mono ?_;rintro e w6 ⟨rfl,aq⟩;exact⟨rfl,⟨aq.below,M.n,M.r,aq.get 0 rfl⟩,aq⟩
 try simp only[Act.put,zA,zZ,zS]
 repeat ((first
  | (refine Ord.cv ?_ af.o ?_ ?_;rotate_left;(intro w5 hS;skip;go_simp<;>rfl))
  | (refine Ord.co af.o ?_));try simp only[Act.put,zA,zZ,zS])
 refine Ord.ch_turn (v:=undef) 1 af.o rfl (by decide) (Or.inr ⟨_,rfl,by kernel_rfl⟩) (by rfl) ?_ ?_
 ·rintro w5 aN au;replace au:Env w0 (ae a (av S.c M)::LT { S with qc:={ S.qc with l:=wrap64 (S.qc.l+1) } } R) w5:=au;have r:=au.rule 0 rfl;unfold av at r;have f6:=au.thaw 0 rfl 13 (by simp[av]);have f7:=au.thaw 0 rfl 14 (by simp[av]);have f8:=au.thaw 0 rfl 15 (by simp[av]);go_simp;have h9:=((au.put 0 rfl (j:=13) (by simp[av]) (zU x)).put 0 rfl (j:=14) (by simp[av]) (zI 0)).put 0 rfl (j:=15) (by simp[av]) (.bool false);replace h9:Env w0 (ae a (av S.c { M with r:=x })::LT { S with qc:={ S.qc with l:=wrap64 (S.qc.l+1) } } R) _:=h9;exact⟨rfl,⟨h9.below,_,_,h9.get 0 rfl⟩,h9⟩
 try simp only[Act.put,zA,zZ,zS]
 repeat ((first
  | (refine Ord.cv ?_ af.o ?_ ?_;rotate_left;(intro w5 hS;skip;go_simp<;>rfl))
  | (refine Ord.co af.o ?_));try simp only[Act.put,zA,zZ,zS])
 refine Ord.InText.nil fun w5 hS=>?_;clear af;obtain⟨aL,ai⟩:=Ord.chain_end hS;clear hS;replace ai:Env w0 (ae a (av S.c { M with r:=x })::LT { S with qc:={ S.qc with l:=wrap64 (S.qc.l+1) } } R) w5:=ai;have r:=ai.rule 0 rfl;unfold av at r;go_wp2_with fail;refine (goOn_m 0 _ _ _ (by simp[av]) (by exact congrArg some hz.out) ai rfl).mono ?_;rintro o w7 ⟨rfl,aO⟩;go_wp2_with fail;go_ret;exact⟨rfl,aO⟩
end
theorem lG {w0 w w':World} {z0:List Value} {St:List Value->List Item->List Value->Prop} {κs:List Value} {fo:Option Value} (h:OrdF.AF w0 z0 St κs fo w) (hb:Below w.heap.size w w'):OrdF.AF w0 z0 St κs fo w':=by
 obtain⟨L,zs,bY,⟨h1,h2,hE⟩ | ⟨n,hn,hE⟩⟩:=h
 ·exact⟨L,zs,bY,.inl ⟨h1,h2,hE.over hb⟩⟩
 ·exact⟨L,zs,bY,.inr ⟨n,hn,hE.over hb⟩⟩
theorem wW (x s:Int) (hx:aD x):aD (eh x s):=by
 have h1:=tu x;unfold eh aD;cases hs:lD s
 ·simp
 ·have h2:0<=s/\s<=8388607:=by simpa [lD] using hs
  by_cases h:dr x=1099511627775
  ·simp[h]
  ·rw[if_pos rfl,if_neg h];unfold aP
   split
   ·simp only[mI,Bool.false_eq_true,if_false];omega
   ·omega
theorem wX (x d s i:Int) (t:Bool) (hx:aD x) (w:World) (hg:bE w):Calls prog 207 #[.agg #[zU x,zI d,.bool t],.agg #[zI s,zI i]] w fun e w'=>e=.returned (.agg #[zU (eh x s),zI i,.bool false])/\Below w.heap.size w w':=by
 have hE:=(((Env.start w).box w.heap.size rfl [zU x,zI d,.bool t] 110).box (w.heap.size+1) (by simp) [zI s,zI i] 92).box (w.heap.size+1+1) (by simp) [zU 0,zI 0,.bool false] 110;have r0:=hE.rule 2 rfl;have r1:=hE.rule 1 rfl;have hn:=fun (v:World) (hv:Below w.heap.size w v)=>Jh x s v (hg.keep' hv) hx.1 hx.2;obtain⟨y,hy⟩:∃ y,eh x s=y:=⟨_,rfl⟩;simp only[hy] at hn ⊢;have HN:=zH hn;clear hx hg hn hy;go_enter func207,ntmps207;go_wp2_with fail;refine (HN.out _ hE.below).mono ?_;rintro o w1 ⟨rfl,hb⟩;replace hE:=hE.over hb;clear hb r0 r1;have r1:=hE.rule 1 rfl;have r2:=hE.rule 0 rfl;have f:=hE.thaw 0 rfl;have f0:=f 0 (by simp);have f1:=f 1 (by simp);have f2:=f 2 (by simp);have hP:=hE.put3 0 rfl (zU y) (zI i) (.bool false);have q:=hP.rule 0 rfl;clear f HN hE;go_wp2_with fail;exact bodyPost_ret (v:=.agg #[zU y,zI i,.bool false]) (by simp[results,results207,go_sem,q]) rfl ⟨rfl,hP.below⟩
section
variable {w0 w:World} {R:List Item} {a:Nat} {S:ST} {M:MA}
theorem JB (x:Int) (br:S.f (2,0,0)=x) (DH:x≠M.h) (hh:aD M.h) (hn:aD M.n) (hg:bE w0) (hm:S.m < maxLen) (hz:Hid (M.nx.2=zI 0)) (hE:Env w0 (ae a (av S.c M)::LT S R) w) :
  Calls prog 245 #[zP a,.iface 28 (zP S.p)] w fun o w'=>o=.returned (zI 0)/\∃ G',Env w0 (ae a (av S.c { M with nx:=fa a 3 })::LT { S with G:=G',f:=swf S.f (2,0,0) M.h (eh M.h (aA M.n)),qc:=dE S.qc (decide (S.f (2,0,0)=M.h)),m:=S.m+1 } R) w':=by
 have cf:=cg;have eV:=kQ;have HD:Hid (decide (S.f (2,0,0)=M.h)=false):=zH (by rw[br];simpa using DH);have eQ:=fun (v:World) (hv:Below w0.heap.size w0 v)=>wX M.h 0 (aA M.n) 0 false hh v (hg.keep' hv);have ky:=wW M.h (aA M.n) hh;obtain⟨y,hy⟩:∃ y,eh M.h (aA M.n)=y:=⟨_,rfl⟩;rw[hy] at ky ⊢;simp only[hy] at eQ;have rL:=zH ky;have jF:=zH eQ;clear hy ky eQ;have dF:=zH fun (v:World) (hv:Below w0.heap.size w0 v)=>kt M.n 0 false v hn (hg.keep' hv);clear br DH;go_enter func245,ntmps245;go_wp2_with fail;refine OrdF.wp_float [?_,?_,?_,?_,?_,?_,?_,?_,?_,?_,OrdF.Ptr,?_] [11] 10 (fun v=>Below w0.heap.size w0 v/\ao 0 v a (av S.c M)) (OrdF.AF w0 [zU 0,zI 0,.bool false] (OrdF.Sta [fun N zs=>N=ae a (av S.c M)::LT S R/\zs=[zU 0,zI 0,.bool false],fun N zs=>N=ae a (av S.c M)::LT S R/\zs=[zU y,zI 0,.bool false]])) (by kernel_rfl) (by kernel_rfl) (by kernel_rfl) ⟨hE.drew.below,hE.drew.get 0 rfl⟩ ⟨_,_,⟨_,rfl,rfl,rfl⟩,.inl ⟨rfl,rfl,hE.drew⟩⟩ (fun hT=>?_);rotate_left 11;have af:=zH hT;clear hT
 repeat ((first
  | (focus (refine OrdF.in_value (v:=?_) af.o (by decide) (by decide) ?_ (by rfl) ?_ ?_;rotate_left 2;(intro w5 hS;have r:=hS.2.rule;unfold av at r;go_simp<;>rfl);rotate_right;(focus rfl)))
  | (focus (refine OrdF.in_off af.o (by decide) (by decide) ?_ (by rfl) ?_;(focus rfl))));try simp only[Act.put,zA,zZ,zS])
 focus (refine OrdF.in_call (v:=.agg #[zI (aA M.n),zI 0]) (f:=?_) (args:=?_) af.o (by decide) (by decide) ?_ (by rfl) ?_ ?_ ?_;rotate_left 2;(focus rfl);(intro w5 hS;skip;go_simp;constructor<;>rfl);(intro w5 hS;refine (dF.out _ hS.1).mono ?_;rintro e w6 ⟨rfl,aj⟩;exact⟨rfl,⟨hS.1.trans (aj.mono hS.1.size),hS.2.under aj⟩,fun _ _ h=>lG h aj⟩);(try simp only[Act.put,zA,zZ,zS]))
 focus (refine OrdF.in_call (v:=.agg #[zU y,zI 0,.bool false]) (f:=?_) (args:=?_) af.o (by decide) (by decide) ?_ (by rfl) ?_ ?_ ?_;rotate_left 2;(focus rfl);(intro w5 hS;skip;go_simp;constructor<;>rfl);(intro w5 hS;refine (jF.out _ hS.1).mono ?_;rintro e w6 ⟨rfl,aj⟩;exact⟨rfl,⟨hS.1.trans (aj.mono hS.1.size),hS.2.under aj⟩,fun _ _ h=>lG h aj⟩);(try simp only[Act.put,zA,zZ,zS]))
 refine OrdF.in_float OrdF.Ptr (zP 0) ⟨0,rfl⟩ af.o rfl (by decide) ?_ (by rfl) ?_ ?_
 ·rfl
 ·intro w5 κs5 aN au;go_simp;simp only[Ord3.Lands];exact⟨⟨_,rfl⟩,⟨aN.1.alloc aN.1.size _,aN.2.more _⟩,au.up _⟩
 rintro _ ⟨V,rfl⟩
 try simp only[Act.put,zA,zZ,zS]
 refine OrdF.in_turn_late (by kernel_rfl) (by decide) (by decide) (fun u=>u=undef) (undef) rfl af.o rfl (by decide) (by rfl) ?_ (.inl rfl) (by rfl) ?_ ?_
 ·rfl
 ·rintro w5 aN ⟨M5,z5,⟨P5,cd,cR⟩,⟨bC,_⟩ | ⟨n5,bC,aB⟩⟩
  ·cases bC
  cases bC;cases cd;obtain⟨rfl,rfl⟩:=cR;have r:=aB.rule 0 rfl;have ff:=aB.thaw 0 rfl;have f0:=ff 0 (by simp);have f1:=ff 1 (by simp);have f2:=ff 2 (by simp);clear ff;go_simp;have aq:=aB.put3 0 rfl (zU y) (zI 0) (.bool false);exact⟨rfl,⟨aq.below,aq.get 1 rfl⟩,_,_,⟨_,rfl,rfl,rfl⟩,.inr ⟨_,rfl,aq⟩⟩
 rintro _ rfl
 try simp only[Act.put,zA,zZ,zS]
 refine OrdF.in_nil rfl (by decide) (by decide) ?_;rintro w5 aN ⟨M5,z5,⟨P5,cd,cR⟩,⟨bC,_⟩ | ⟨n5,bC,aB⟩⟩
 ·cases bC
 cases bC;cases cd;obtain⟨rfl,rfl⟩:=cR;clear af;clear jF dF;have rV:=aB.rule 0 rfl;have r:=aB.rule 1 rfl;unfold av at r;have f:=aB.thaw 0 rfl 2 (by simp);go_wp2_with fail;have aq:=aB.put 0 rfl (j:=2) (by simp) (.bool false);clear r rV f aB hE;generalize w5.setCell _ _=w6 at *;replace aq:Env w0 (ae V [zU y,zI 0,.bool false]::ae a (av S.c M)::LT S R) w6:=aq;refine Ord.wc [11] (fun v=>ao 0 v a (av S.c M)/\ao 0 v V [zU y,zI 0,.bool false]) (fun k w'=>∃ G5,Env w0 (ae V [zU y,zI 0,.bool false]::ae a (av S.c M)::LT (if k=0 then S else { S with G:=G5,f:=swf S.f (2,0,0) M.h y,qc:=dE S.qc (decide (S.f (2,0,0)=M.h)),m:=S.m+1 }) R) w') ⟨aq.drew.get 1 rfl,aq.drew.get 0 rfl⟩ ⟨S.G,aq.drew⟩ fun af=>?_
 repeat ((first
  | (refine Ord.cv ?_ af.o ?_ ?_;rotate_left;(intro w5 hS;have r:=hS.1.rule;have r1:=hS.2.rule;unfold av at r;go_simp<;>rfl))
  | (refine Ord.co af.o ?_)
  | (refine Ord.cc ?_ ?_ ?_ af.o ?_ ?_ ?_;rotate_left 3;(intro w5 hS;have r:=hS.1.rule;have r1:=hS.2.rule;unfold av at r;go_simp;constructor<;>rfl);(intro w5 hS;(first | (with_reducible refine kp (tA _) ?_ ?_;rfl;exact fun w6 aj=>⟨⟨hS.1.under aj,hS.2.under aj⟩,fun k h=>h.elim fun G5 h=>⟨G5,h.over aj⟩⟩) | (with_reducible refine kp (nW _ _ _ _) ?_ ?_;rfl;exact fun w6 aj=>⟨⟨hS.1.under aj,hS.2.under aj⟩,fun k h=>h.elim fun G5 h=>⟨G5,h.over aj⟩⟩)))));try simp only[Act.put,zA,zZ,zS])
 refine Ord.ch_turn (v:=.bool false) 0 af.o rfl (by decide) (Or.inl rfl) (by rfl) ?_ ?_
 ·rintro w5 aN ⟨G5,au⟩;simp only[if_true] at au;go_simp;rw[kP];simp only[Result.andThen_ok];go_simp;simp only[Ord.LandsIn];have bS:=kO 2 0 0 0 M.h 0 y 0 false false (by unfold Wf In64;simp) rL.out hm 4 5 (by decide) au rfl rfl;rw[HD.out] at bS;refine bS.mono ?_;rintro e w6 ⟨rfl,G6,aq⟩;rw[HD.out];exact⟨rfl,⟨aq.get 1 rfl,aq.get 0 rfl⟩,G6,aq⟩
 try simp only[Act.put,zA,zZ,zS]
 repeat ((first
  | (refine Ord.cv ?_ af.o ?_ ?_;rotate_left;(intro w5 hS;skip;go_simp<;>rfl))
  | (refine Ord.co af.o ?_));try simp only[Act.put,zA,zZ,zS])
 refine Ord.InText.nil fun w5 hS=>?_;clear af;obtain⟨aL,ai⟩:=Ord.chain_end hS;clear hS;obtain⟨G9,ai⟩:=ai;clear aL;simp only[List.length_cons,List.length_nil,Nat.zero_add,Nat.one_ne_zero,if_false] at ai;have r:=ai.rule 1 rfl;unfold av at r;go_wp2_with fail;refine (goOn_m 1 _ _ _ (by simp[av]) (by exact congrArg some hz.out) ai rfl).mono ?_;rintro o w7 ⟨rfl,aO⟩;go_wp2_with fail;go_ret;exact⟨rfl,G9,aO.sub (.cons _ (List.Sublist.refl _))⟩
theorem JC (br:S.f (2,0,0)=M.h) (hr:aD M.r) (hl:S.ql.length+1<=1048576) (hh:aD M.h) (hn:aD M.n) (hg:bE w0) (hm:S.m < maxLen) (hz:Hid (M.nx.2=zI 0)) (hE:Env w0 (ae a (av S.c M)::LT S R) w) :
  Calls prog 245 #[zP a,.iface 28 (zP S.p)] w fun o w'=>o=.returned (zI (dI (S.ql++[(aA M.h,bg M.r,0)]) S.ce S.cl))/\∃ nx k' F' G',(bk (S.ql++[(aA M.h,bg M.r,0)]) S.ce S.cl≠0->nx=fa a (bk (S.ql++[(aA M.h,bg M.r,0)]) S.ce S.cl))/\Rm S.kq (S.ql.length+1) k'/\Env w0 (ae a (av S.c { M with nx:=nx })::LT { S with G:=G',f:=swf S.f (2,0,0) M.h (eh M.h (aA M.n)),qc:=dE S.qc (decide (S.f (2,0,0)=M.h)),m:=S.m+1,ql:=S.ql++[(aA M.h,bg M.r,0)],kq:=k',F:=F' } R) w':=by
 have cf:=cg;have eV:=kQ;have HD:Hid (decide (S.f (2,0,0)=M.h)=true):=zH (by rw[br];simp);have zJ:=fun (v:World) (hv:Below w0.heap.size w0 v)=>kt M.h 0 false v hh (hg.keep' hv);have eQ:=fun (v:World) (hv:Below w0.heap.size w0 v)=>wX M.h 0 (aA M.n) 0 false hh v (hg.keep' hv);have ky:=wW M.h (aA M.n) hh;obtain⟨y,hy⟩:∃ y,eh M.h (aA M.n)=y:=⟨_,rfl⟩;rw[hy] at ky ⊢;simp only[hy] at eQ;have rL:=zH ky;have jF:=zH eQ;clear hy ky eQ;obtain⟨sl,ei⟩:∃ sl,aA M.h=sl:=⟨_,rfl⟩;rw[ei];simp only[ei] at zJ;have DI:=zH zJ;have JD:=zH hr;clear ei zJ hr;have dF:=zH fun (v:World) (hv:Below w0.heap.size w0 v)=>kt M.n 0 false v hn (hg.keep' hv);clear br;go_enter func245,ntmps245;go_wp2_with fail;refine OrdF.wp_float [?_,?_,?_,?_,?_,?_,?_,?_,?_,?_,OrdF.Ptr,?_] [11] 10 (fun v=>Below w0.heap.size w0 v/\ao 0 v a (av S.c M)) (OrdF.AF w0 [zU 0,zI 0,.bool false] (OrdF.Sta [fun N zs=>N=ae a (av S.c M)::LT S R/\zs=[zU 0,zI 0,.bool false],fun N zs=>N=ae a (av S.c M)::LT S R/\zs=[zU y,zI 0,.bool false]])) (by kernel_rfl) (by kernel_rfl) (by kernel_rfl) ⟨hE.drew.below,hE.drew.get 0 rfl⟩ ⟨_,_,⟨_,rfl,rfl,rfl⟩,.inl ⟨rfl,rfl,hE.drew⟩⟩ (fun hT=>?_);rotate_left 11;have af:=zH hT;clear hT
 repeat ((first
  | (focus (refine OrdF.in_value (v:=?_) af.o (by decide) (by decide) ?_ (by rfl) ?_ ?_;rotate_left 2;(intro w5 hS;have r:=hS.2.rule;unfold av at r;go_simp<;>rfl);rotate_right;(focus rfl)))
  | (focus (refine OrdF.in_off af.o (by decide) (by decide) ?_ (by rfl) ?_;(focus rfl))));try simp only[Act.put,zA,zZ,zS])
 focus (refine OrdF.in_call (v:=.agg #[zI (aA M.n),zI 0]) (f:=?_) (args:=?_) af.o (by decide) (by decide) ?_ (by rfl) ?_ ?_ ?_;rotate_left 2;(focus rfl);(intro w5 hS;skip;go_simp;constructor<;>rfl);(intro w5 hS;refine (dF.out _ hS.1).mono ?_;rintro e w6 ⟨rfl,aj⟩;exact⟨rfl,⟨hS.1.trans (aj.mono hS.1.size),hS.2.under aj⟩,fun _ _ h=>lG h aj⟩);(try simp only[Act.put,zA,zZ,zS]))
 focus (refine OrdF.in_call (v:=.agg #[zU y,zI 0,.bool false]) (f:=?_) (args:=?_) af.o (by decide) (by decide) ?_ (by rfl) ?_ ?_ ?_;rotate_left 2;(focus rfl);(intro w5 hS;skip;go_simp;constructor<;>rfl);(intro w5 hS;refine (jF.out _ hS.1).mono ?_;rintro e w6 ⟨rfl,aj⟩;exact⟨rfl,⟨hS.1.trans (aj.mono hS.1.size),hS.2.under aj⟩,fun _ _ h=>lG h aj⟩);(try simp only[Act.put,zA,zZ,zS]))
 refine OrdF.in_float OrdF.Ptr (zP 0) ⟨0,rfl⟩ af.o rfl (by decide) ?_ (by rfl) ?_ ?_
 ·rfl
 ·intro w5 κs5 aN au;go_simp;simp only[Ord3.Lands];exact⟨⟨_,rfl⟩,⟨aN.1.alloc aN.1.size _,aN.2.more _⟩,au.up _⟩
 rintro _ ⟨V,rfl⟩
 try simp only[Act.put,zA,zZ,zS]
 refine OrdF.in_turn_late (by kernel_rfl) (by decide) (by decide) (fun u=>u=undef) (undef) rfl af.o rfl (by decide) (by rfl) ?_ (.inl rfl) (by rfl) ?_ ?_
 ·rfl
 ·rintro w5 aN ⟨M5,z5,⟨P5,cd,cR⟩,⟨bC,_⟩ | ⟨n5,bC,aB⟩⟩
  ·cases bC
  cases bC;cases cd;obtain⟨rfl,rfl⟩:=cR;have r:=aB.rule 0 rfl;have ff:=aB.thaw 0 rfl;have f0:=ff 0 (by simp);have f1:=ff 1 (by simp);have f2:=ff 2 (by simp);clear ff;go_simp;have aq:=aB.put3 0 rfl (zU y) (zI 0) (.bool false);exact⟨rfl,⟨aq.below,aq.get 1 rfl⟩,_,_,⟨_,rfl,rfl,rfl⟩,.inr ⟨_,rfl,aq⟩⟩
 rintro _ rfl
 try simp only[Act.put,zA,zZ,zS]
 refine OrdF.in_nil rfl (by decide) (by decide) ?_;rintro w5 aN ⟨M5,z5,⟨P5,cd,cR⟩,⟨bC,_⟩ | ⟨n5,bC,aB⟩⟩
 ·cases bC
 cases bC;cases cd;obtain⟨rfl,rfl⟩:=cR;clear af;clear jF dF;have rV:=aB.rule 0 rfl;have r:=aB.rule 1 rfl;unfold av at r;have f:=aB.thaw 0 rfl 2 (by simp);go_wp2_with fail;have aq:=aB.put 0 rfl (j:=2) (by simp) (.bool false);clear r rV f aB hE;generalize w5.setCell _ _=w6 at *;replace aq:Env w0 (ae V [zU y,zI 0,.bool false]::ae a (av S.c M)::LT S R) w6:=aq;refine Ord.wc [11] (fun v=>ao 0 v a (av S.c M)/\ao 0 v V [zU y,zI 0,.bool false]) (fun k w'=>∃ G5,Env w0 (ae V [zU y,zI 0,.bool false]::ae a (av S.c M)::LT (if k=0 then S else { S with G:=G5,f:=swf S.f (2,0,0) M.h y,qc:=dE S.qc (decide (S.f (2,0,0)=M.h)),m:=S.m+1 }) R) w') ⟨aq.drew.get 1 rfl,aq.drew.get 0 rfl⟩ ⟨S.G,aq.drew⟩ fun af=>?_
 repeat ((first
  | (refine Ord.cv ?_ af.o ?_ ?_;rotate_left;(intro w5 hS;have r:=hS.1.rule;have r1:=hS.2.rule;unfold av at r;go_simp<;>rfl))
  | (refine Ord.co af.o ?_)
  | (refine Ord.cc ?_ ?_ ?_ af.o ?_ ?_ ?_;rotate_left 3;(intro w5 hS;have r:=hS.1.rule;have r1:=hS.2.rule;unfold av at r;go_simp;constructor<;>rfl);(intro w5 hS;(first | (with_reducible refine kp (tA _) ?_ ?_;rfl;exact fun w6 aj=>⟨⟨hS.1.under aj,hS.2.under aj⟩,fun k h=>h.elim fun G5 h=>⟨G5,h.over aj⟩⟩) | (with_reducible refine kp (nW _ _ _ _) ?_ ?_;rfl;exact fun w6 aj=>⟨⟨hS.1.under aj,hS.2.under aj⟩,fun k h=>h.elim fun G5 h=>⟨G5,h.over aj⟩⟩)))));try simp only[Act.put,zA,zZ,zS])
 refine Ord.ch_turn (v:=.bool true) 0 af.o rfl (by decide) (Or.inl rfl) (by rfl) ?_ ?_
 ·rintro w5 aN ⟨G5,au⟩;simp only[if_true] at au;go_simp;rw[kP];simp only[Result.andThen_ok];go_simp;simp only[Ord.LandsIn];have bS:=kO 2 0 0 0 M.h 0 y 0 false false (by unfold Wf In64;simp) rL.out hm 4 5 (by decide) au rfl rfl;rw[HD.out] at bS;refine bS.mono ?_;rintro e w6 ⟨rfl,G6,aq⟩;rw[HD.out];exact⟨rfl,⟨aq.get 1 rfl,aq.get 0 rfl⟩,G6,aq⟩
 try simp only[Act.put,zA,zZ,zS]
 repeat ((first
  | (refine Ord.cv ?_ af.o ?_ ?_;rotate_left;(intro w5 hS;skip;go_simp<;>rfl))
  | (refine Ord.co af.o ?_));try simp only[Act.put,zA,zZ,zS])
 refine Ord.InText.nil fun w5 hS=>?_;clear af;obtain⟨aL,ai⟩:=Ord.chain_end hS;clear hS;obtain⟨G9,ai⟩:=ai;clear aL;simp only[List.length_cons,List.length_nil,Nat.zero_add,Nat.one_ne_zero,if_false] at ai;have r:=ai.rule 1 rfl;unfold av at r;go_wp2_with fail;refine (DI.out _ ai.below).mono ?_;rintro o w7 ⟨rfl,hb⟩;replace ai:=ai.over hb;have bn:=(ai.sub (.cons _ (List.Sublist.refl _))).box w7.heap.size rfl [zI sl,zI 0] 92;clear hb r ai DI;go_wp2_with fail;generalize w7.alloc _=w8 at *;generalize w7.heap.size=Y at *;have bj:=bn.perm (L':=ae a (av S.c M)::LT ({ S with G:=G9,f:=swf S.f (2,0,0) M.h y,qc:=dE S.qc (decide (S.f (2,0,0)=M.h)),m:=S.m+1 }:ST) (ae Y [zI sl,zI 0]::R)) (List.perm_middle (l₁:=[ae a (av S.c M),_,_,_,_])).symm;clear bn;refine Ord.wc [11] (fun v=>(∃ nx,ao 0 v a (av S.c { M with nx:=nx }))/\ao 0 v Y [zI sl,zI 0]) (fun k w'=>∃ nx k' F',(k≠0->(bk (S.ql++[(sl,bg M.r,0)]) S.ce S.cl≠0->nx=fa a (bk (S.ql++[(sl,bg M.r,0)]) S.ce S.cl))/\Rm S.kq (S.ql.length+1) k')/\(k=0->Hid (nx.2=zI 0))/\Env w0 (ae a (av S.c { M with nx:=nx })::LT (if k=0 then ({ S with G:=G9,f:=swf S.f (2,0,0) M.h y,qc:=dE S.qc (decide (S.f (2,0,0)=M.h)),m:=S.m+1 }:ST) else { S with G:=G9,f:=swf S.f (2,0,0) M.h y,qc:=dE S.qc (decide (S.f (2,0,0)=M.h)),m:=S.m+1,ql:=S.ql++[(sl,bg M.r,0)],kq:=k',F:=F' }) (ae Y [zI sl,zI 0]::R)) w') ⟨⟨M.nx,bj.drew.get 0 rfl⟩,bj.drew.get 5 rfl⟩ ⟨M.nx,0,S.F,fun h=>absurd rfl h,fun _=>hz,bj.drew⟩ fun af=>?_
 repeat ((first
  | (refine Ord.cv ?_ af.o ?_ ?_;rotate_left;(intro w5 hS;obtain⟨⟨gM,dz⟩,iO⟩:=hS;have r:=dz.rule;have r1:=iO.rule;unfold av at r;go_simp<;>rfl))
  | (refine Ord.co af.o ?_)
  | (refine Ord.cc ?_ ?_ ?_ af.o ?_ ?_ ?_;rotate_left 3;(intro w5 hS;obtain⟨⟨gM,dz⟩,iO⟩:=hS;have r:=dz.rule;have r1:=iO.rule;unfold av at r;go_simp;constructor<;>rfl);(intro w5 hS;(first | (with_reducible refine kp (Dv _ _ _ JD.out _) ?_ ?_;rfl;exact fun w6 aj=>⟨⟨hS.1.elim fun gM h=>⟨gM,h.under aj⟩,hS.2.under aj⟩,fun k h=>h.elim fun JE h=>h.elim fun k8 h=>h.elim fun F8 h=>⟨JE,k8,F8,h.1,h.2.1,h.2.2.over aj⟩⟩)))));try simp only[Act.put,zA,zZ,zS])
 refine Ord.ch_turn (v:=zI (dI (S.ql++[(sl,bg M.r,0)]) S.ce S.cl)) 0 af.o rfl (by decide) (Or.inl rfl) (by rfl) ?_ ?_
 ·rintro w5 aN ⟨S2,k5,F5,-,JF,au⟩;obtain⟨⟨gM,dz⟩,iO⟩:=aN;simp only[if_true] at au;go_simp;simp only[Ord.LandsIn];refine (DB (S:=({ S with G:=G9,f:=swf S.f (2,0,0) M.h y,qc:=dE S.qc (decide (S.f (2,0,0)=M.h)),m:=S.m+1 }:ST)) sl (bg M.r) hl (JF rfl) au).mono ?_;rintro e w6 ⟨rfl,nx,k',F',bo,iD,aq⟩
  first | exact⟨rfl,⟨⟨_,aq.get 0 rfl⟩,aq.get 5 rfl⟩,nx,k',⟨bo,iD⟩,F',aq⟩ | exact⟨rfl,⟨⟨nx.1,nx.2,aq.get 0 rfl⟩,aq.get 5 rfl⟩,nx.1,nx.2,k',⟨bo,iD⟩,F',aq⟩ | exact⟨rfl,⟨⟨nx.1,nx.2,aq.get 0 rfl⟩,aq.get 5 rfl⟩,nx,k',⟨bo,iD⟩,F',aq⟩
 try simp only[Act.put,zA,zZ,zS]
 repeat ((first
  | (refine Ord.cv ?_ af.o ?_ ?_;rotate_left;(intro w5 hS;skip;go_simp<;>rfl))
  | (refine Ord.co af.o ?_));try simp only[Act.put,zA,zZ,zS])
 refine Ord.InText.nil fun w5 hS=>?_;clear af;obtain⟨aL,ai⟩:=Ord.chain_end hS;clear hS;obtain⟨nx,k',F',nX,-,ai⟩:=ai;obtain⟨bo,iD⟩:=nX (by decide);simp only[List.length_cons,List.length_nil,Nat.zero_add,Nat.one_ne_zero,if_false] at ai;clear aL nX;go_wp2_with fail;go_ret;exact⟨rfl,nx,k',F',G9,bo,iD,ai.sub (.cons_cons _ (.cons_cons _ (.cons_cons _ (.cons_cons _ (.cons_cons _ (.cons _ (List.Sublist.refl _)))))))⟩
end
def eZ (g:Nat) (xs:List Value):Item where
 F:=fun k=>k=g
 says:=fun w=>∀ j u,xs[j]?=some u->w.cell? ⟨g,j,none⟩=some u
 loc:=fun w1 w2 h hk _ j u hu=>by
  have e:=hk g rfl
  have e2:=h j u hu
  unfold World.cell? at e2 ⊢
  rw[e]
  exact e2
theorem Env.lies {w0 w:World} {L:List Item} (h:Env w0 L w) (i:Nat) {g:Nat} {xs:List Value} (hi:L[i]?=some (eZ g xs)):∀ j u,xs[j]?=some u->w.cell? ⟨g,j,none⟩=some u:=h.get i hi
theorem Env.rowLies {w0 w:World} {L:List Item} {e:TypeId} {s n:Nat} {v:Value} {xs:List Value} (h:Env w0 (gZ v e s n xs::L) w) (hn:n≠0) :
  ∃ g c,v=.slice (some ⟨g,0,none⟩) n c/\n<=c/\Env w0 (eZ g xs::L) w:=by
 have ho:w.ownsRow 0 e s v n xs:=h.get 0 rfl
 rcases ho.2 with ⟨-,h0⟩ | ⟨g,cap,cur,hv,-,hg,wE,-⟩
 ·exact absurd h0 hn
 ·refine⟨g,cap,hv,wE,?_⟩;have h2:=h.step 0 (eZ g xs) rfl (w':=w) ⟨cj.refl _ w,fun k hk=>.inl (by
   show v.ownBlock=some k;rw[hv];show some g=some k;rw[show k=g from hk])⟩ (fun j u hu=>by
    have this:=ho.cells (g:=g) (by rw[hv];rfl) j u hu;have e2:(⟨g,0,none⟩:Addr).add j=⟨g,j,none⟩:=by unfold Addr.add;split<;>simp_all
    rw[e2] at this;exact this) (fun k hk=>h.lt 0 rfl k (by
   show v.ownBlock=some k;rw[hv];show some g=some k;rw[show k=g from hk]))
  exact h2
theorem Env.appendRow {P:Program} {w0 w:World} {L:List Item} (h:Env w0 L w) (i:Nat) {v:Value} {e:TypeId} {s n b:Nat} {xs:List Value} (hi:L[i]?=some (gZ v e s n xs)) (t ty:TypeId) (ht:P.underlying t=some (.slice e)) (z:Value) (ly:(P.info? e).map (fun i=>(i.zero,i.size,i.bytes))=some (some z,s,b)) (yK:z.cells.size=s) (iZ:0 < s)
  (A:Option Addr) (m c:Nat) (news:List Value) (hl:news.length=m * s) (yL:(A=none/\m=0)\/∃ ad,A=some ad/\∀ j u,news[j]?=some u->w.cell? (ad.add j)=some u) (h1:∀ u∈news,u.oneCell'=true) (yM:n+m<=maxLen) (yN:(n+m) * b<=140737488355328) :
  ∃ A' c' w',(Builtin.append_ #[t,t] ty #[v,.slice A m c]).run P w=.ok (.slice A' (n+m) c') w'/\Env w0 (L.set i (gZ (.slice A' (n+m) c') e s (n+m) (xs++news))) w':=by
 obtain⟨i0,nH,jC⟩:=Option.map_eq_some_iff.1 ly;simp only[Prod.mk.injEq] at jC;obtain⟨jR,hs,hb⟩:=jC;have cF:w.ownsRow 0 e s v n xs:=h.get i hi;obtain⟨v',w',cZ,ho,hg,hv⟩:=yJ (P:=P) t ty 0 e i0 z s b ht nH jR hs hb yK iZ w v n xs cF A m c news hl yL h1 yM yN (Nat.zero_le _);obtain⟨A',c',rfl⟩:=yO ho;refine⟨A',c',w',cZ,h.step i (gZ _ e s (n+m) (xs++news)) hi ⟨(cj.refl _ w).grown hg fun k _ e=>e,fun k hk=>?_⟩ ho (yI ho)⟩
 rcases hv with e | e
 ·exact .inl (by show v.ownBlock=some k;rw[<- e];exact hk)
 ·right
  have:some w.heap.size=some k:=e.symm.trans hk;cases this;exact Nat.le_refl _
def im (l:List (Int × Int)):List Value:=l.flatMap fun p=>[zI p.1,zU p.2]
def cX (ck e key val lv:Int):List (Int × Int):=[(0,e),(1,0),(3,key)]++(if ck=2 then [(4,val)] else if ck=3 then [(5,lv),(6,0)] else [])
theorem DJ:(prog.info? 273).map (fun i=>(i.zero,i.size,i.bytes))=some (some (.agg #[zI 0,zU 0]),2,16):=by kernel_rfl
section
variable {w0 w:World} {R:List Item} {a:Nat} {S:ST} {M:MA}
theorem JG (he:0<=S.ce/\S.ce<=9223372036854775807) (hE:Env w0 (ae a (av S.c M)::LT S R) w) :
  Calls prog 216 #[zP a] w fun o w'=>∃ g c,o=.returned (.slice (some ⟨g,0,none⟩) (cX S.ck S.ce M.key M.val (IntKind.u64.wrap M.lv)).length c)/\(cX S.ck S.ce M.key M.val (IntKind.u64.wrap M.lv)).length<=c/\Env w0 (eZ g (im (cX S.ck S.ce M.key M.val (IntKind.u64.wrap M.lv)))::ae a (av S.c M)::LT S R) w':=by
 have ij:IntKind.u64.wrap S.ce=S.ce:=mK _ (by omega) (by omega);have sU:=Jq;clear he;go_enter func216,ntmps216;go_wp2_with fail;refine Ord3.wp_chain [?_,?_,?_,?_,?_,?_,?_,?_,?_,?_,?_,?_,?_,?_,?_,?_,?_] [15,16] (fun w'=>ao 0 w' a (av S.c M)/\ao 0 w' S.c (cT S.ck S.cs S.cb S.ch S.cl S.ce S.cr S.hs 0 S.q)) (Ord3.Stage fun κs=>[Env w0 (ae a (av S.c M)::LT S R),Env w0 (gZ (κs.getD 0 undef) 273 2 3 (im [(0,S.ce),(1,0),(3,M.key)])::ae a (av S.c M)::LT S R),Env w0 (gZ (κs.getD 1 undef) 273 2 3 (im [(0,S.ce),(1,0),(3,M.key)])::ae a (av S.c M)::LT S R)]) (by kernel_rfl) (by kernel_rfl) (by kernel_rfl) ⟨hE.drew.get 0 rfl,hE.drew.get 1 rfl⟩ ⟨_,rfl,hE.drew⟩ (fun hT=>?_);rotate_left 17;have af:=zH hT;clear hT
 repeat ((first
  | (focus (refine Ord3.in_value (v:=?_) af.o (by decide) ?_ (by rfl) ?_ ?_;rotate_left 2;(intro w5 hS;have r1:=ao.rule hS.1;unfold av at r1;go_simp<;>rfl);rotate_right;(focus rfl)))
  | (focus (refine Ord3.in_off af.o (by decide) ?_ (by rfl) ?_;(focus rfl)))
  | (focus (refine Ord3.in_call (v:=?_) (f:=?_) (args:=?_) af.o (by decide) ?_ (by rfl) ?_ ?_ ?_;rotate_left 4;(intro w5 hS;have r1:=ao.rule hS.1;unfold av at r1;go_simp;constructor<;>rfl);(intro w5 hS;(first | (with_reducible refine (rG hS.2).mono ?_;rintro o w6 ⟨rfl,rfl⟩;constructor;rfl;exact⟨hS,fun _ h=>h⟩)));rotate_right;(focus rfl))));try simp only[Act.put,zA,zZ,zS])
 refine Ord3.in_turn (fun u=>∃ z,u=.slice (some ⟨z,0,none⟩) 3 3) _ ⟨0,rfl⟩ af.o rfl (by decide) (by rfl) ?_ (Or.inl rfl) (by rfl) ?_ ?_
 ·rfl
 ·rintro w7 eY ⟨P7,dD,bI⟩;cases dD;go_simp;simp only[Ord3.Lands];have hb:=(Below.refl w7.heap.size w7).alloc (Nat.le_refl _) (.cells (im [(0,S.ce),(1,0),(3,M.key)]).toArray 273);have bn:=bI.add (gZ (.slice (some ⟨w7.heap.size,0,none⟩) 3 3) 273 2 3 (im [(0,S.ce),(1,0),(3,M.key)])) hb (World.ownsRow_lit w7 (im [(0,S.ce),(1,0),(3,M.key)]).toArray 3 (Nat.zero_le _) (by decide) rfl) (fun k hk=>by
   have:w7.heap.size=k:=by simpa [gZ,Value.ownBlock] using hk
   subst this;simp)
  exact⟨⟨_,rfl⟩,⟨bn.get 1 rfl,bn.get 2 rfl⟩,_,rfl,bn⟩
 rintro _ ⟨z9,rfl⟩
 try simp only[Act.put,zA,zZ,zS]
 refine Ord3.in_turn (fun u=>∃ z,u=.slice (some ⟨z,0,none⟩) 3 3) _ ⟨0,rfl⟩ af.o rfl (by decide) (by rfl) ?_ (Or.inr ⟨_,15,[],rfl,by kernel_rfl,by kernel_rfl,rfl⟩) (by rfl) ?_ ?_
 ·rfl
 ·rintro w7 eY ⟨P7,dD,bI⟩;cases dD;go_simp;simp only[Ord3.Lands];exact⟨⟨_,rfl⟩,eY,_,rfl,bI⟩
 rintro _ ⟨z8,rfl⟩
 try simp only[Act.put,zA,zZ,zS]
 refine Ord3.in_nil rfl ?_;rintro w9 aL ⟨P9,dW,ai⟩;cases dW;replace ai:Env w0 (gZ (.slice (some ⟨z8,0,none⟩) 3 3) 273 2 3 (im [(0,S.ce),(1,0),(3,M.key)])::ae a (av S.c M)::LT S R) w9:=ai;clear af aL hE;have r:=ai.rule 1 rfl;unfold av at r;go_wp2_with fail;refine (nT (ai.get 2 rfl)).mono ?_;rintro o tC ⟨rfl,hb⟩;replace ai:=ai.over hb;clear hb r;have r:=ai.rule 1 rfl;unfold av at r;generalize tC=w9 at *
 rcases e8:S.ck==2 with _ | _
 ·rcases nY:S.ck==3 with _ | _
  ·have hw:cX S.ck S.ce M.key M.val (IntKind.u64.wrap M.lv)=[(0,S.ce),(1,0),(3,M.key)]:=by
    simp only[beq_eq_false_iff_ne] at e8 nY;simp[cX,e8,nY]
   have HW:=zH hw;clear hw;go_wp2_with fail;go_ret;obtain⟨g,c,he,hc,oW⟩:=ai.rowLies (by decide);cases he;rw[HW.out];exact⟨_,_,rfl,hc,oW⟩
  ·simp only[beq_eq_false_iff_ne] at e8;have hw:cX S.ck S.ce M.key M.val (IntKind.u64.wrap M.lv)=[(0,S.ce),(1,0),(3,M.key)]++[(5,IntKind.u64.wrap M.lv),(6,0)]:=by unfold cX;rw[if_neg (by simpa using e8),if_pos (by simpa using nY)]
   have HW:=zH hw;clear hw;have iE:=ai.box w9.heap.size rfl [zI 5,zU (IntKind.u64.wrap M.lv),zI 6,zU 0] 273;obtain⟨A',c',w',cZ,oX⟩:=iE.appendRow (P:=prog) 1 rfl 239 239 Tryz.underlying239 (.agg #[zI 0,zU 0]) DJ rfl (by decide) (some ⟨w9.heap.size,0,none⟩) 2 2 [zI 5,zU (IntKind.u64.wrap M.lv),zI 6,zU 0] rfl (.inr ⟨_,rfl,oJ _ _ _⟩) (by simp[Value.oneCell']) (by decide) (by decide);have iF:=zH cZ;clear cZ;go_wp2_with (first | (at_builtin;refine oI rfl _ _ 239 rfl iF.out rfl rfl ?_));go_ret;obtain⟨g,c,he,hc,oW⟩:=(oX.sub (.cons _ (List.Sublist.refl _))).rowLies (by decide);cases he;rw[HW.out];exact⟨g,c',rfl,hc,oW⟩
 ·have nY:(S.ck==3)=false:=by simp only[beq_iff_eq] at e8;simp[e8]
  have hw:cX S.ck S.ce M.key M.val (IntKind.u64.wrap M.lv)=[(0,S.ce),(1,0),(3,M.key)]++[(4,M.val)]:=by unfold cX;rw[if_pos (by simpa using e8)]
  have HW:=zH hw;clear hw;have iE:=ai.box w9.heap.size rfl [zI 4,zU M.val] 273;obtain⟨A',c',w',cZ,oX⟩:=iE.appendRow (P:=prog) 1 rfl 239 239 Tryz.underlying239 (.agg #[zI 0,zU 0]) DJ rfl (by decide) (some ⟨w9.heap.size,0,none⟩) 1 1 [zI 4,zU M.val] rfl (.inr ⟨_,rfl,oJ _ _ _⟩) (by simp[Value.oneCell']) (by decide) (by decide);have iF:=zH cZ;clear cZ;go_wp2_with (first | (at_builtin;refine oI rfl _ _ 239 rfl iF.out rfl rfl ?_));go_ret;obtain⟨g,c,he,hc,oW⟩:=(oX.sub (.cons _ (List.Sublist.refl _))).rowLies (by decide);cases he;rw[HW.out];exact⟨g,c',rfl,hc,oW⟩
end
def bR (c:Nat) (nx:Value × Value) (h n:Int):List Value:=[zP c,nx.1,nx.2,zU h,zI 0,.bool false,zI n]
def qp (pc:Nat):Nat:=if pc=0 then 84 else if pc=1 then 135 else if pc=2 then 166 else 190
def iq (a pc:Nat):Value × Value:=(mvL (qp pc) a,zI 0)
theorem JH (pc:Nat) (ar:Array Value) (v:World):(callFunc (qp pc) ar).run prog v=.ok (.enter (qp pc) ar) v:=by
 unfold qp
 repeat' split
 all_goals kernel_rfl
def js:List bF->Int
 | []=>1
 | _=>0
def jV (x l:Int):Int:=if l<=dr x then 4 else 0
section
variable {w0 w:World} {R:List Item} {a:Nat} {S:ST} {nx:Value × Value} {h n:Int}
theorem JI (pc:Nat) (u:Value) (Q:Ending->World->Prop) (hE:Env w0 (ae a (bR S.c nx h n)::LT S R) w) (bo:nx=iq a pc)
  (hc:Calls prog (qp pc) #[zP a,u] w fun e w'=>∃ s,e=.returned (zI s)/\Q (.returned (zI s)) w') :
  Calls prog 25 #[zP a,u] w Q:=by
 have hn:w.cell? ⟨a,1,none⟩=some (.func (.func (qp pc)) #[zP a] #[]):=by
  have:=hE.rule 0 rfl 1;rw[this,show (bR S.c nx h n)[1]?=some nx.1 from rfl,bo];rfl
 have fV:w.cell? ⟨a,1+1,none⟩=some (zI 0):=by
  have:=hE.rule 0 rfl 2;rw[this,show (bR S.c nx h n)[2]?=some nx.2 from rfl,bo];rfl
 have bY:=stepMv_r (o:=1) (qp pc) (JH pc) (zP a) u (fun o w'=>∃ s,o=.returned (zI s)/\Q (.returned (zI s)) w') hn fV (hc.mono fun e w' ⟨s,he,hq⟩=>⟨s,he,s,rfl,hq⟩);have gi:=zH bY;clear bY hc;go_enter func25,ntmps25;go_wp2_with fail;refine gi.out.mono ?_;rintro o w1 ⟨s,rfl,hQ⟩;go_wp2_with fail;exact hQ
theorem vf {st:Int} {Y:World->Prop} (pc:Nat) (u:Value) (hE:Env w0 (ae a (bR S.c nx h n)::LT S R) w) (bo:nx=iq a pc)
  (hc:Calls prog (qp pc) #[zP a,u] w fun o w'=>o=.returned (zI st)/\Y w') :
  Calls prog 25 #[zP a,u] w fun o w'=>o=.returned (zI st)/\Y w' :=
 JI pc u _ hE bo (hc.mono fun _ _ h=>⟨st,h.1,rfl,h.2⟩)
theorem JJ {L:List Item} {c:Nat} (hE:Env w0 L w) :
  Calls prog 52 #[zP c] w fun o w'=>∃ a,o=.returned (zP a)/\Env w0 (ae a (bR c (iq a 0) 0 0)::L) w':=by
 have cf:=cg;have ag:=hE.box w.heap.size rfl (bR c (.nilFunc,zI 0) 0 0) 138;have eW:=goOn_m (fn:=.func 84) (fs:=#[zP w.heap.size]) (cs:=#[]) 0 (by simp[bR]) rfl ag rfl;have jG:=zH eW;clear hE ag eW;go_enter func52,ntmps52;go_wp2_with fail;refine jG.out.mono ?_;rintro o w1 ⟨rfl,az⟩;go_wp2_with fail;go_ret;exact⟨_,rfl,az⟩
theorem DK (hz:Hid (nx.2=zI 0)) (hE:Env w0 (ae a (bR S.c nx h n)::LT S R) w) :
  Calls prog 115 #[zP a] w fun o w'=>o=.returned (zI (js S.ql))/\∃ nx,(S.ql≠[]->nx=iq a 1)/\Env w0 (ae a (bR S.c nx h n)::LT S R) w':=by
 have cf:=cg;have r:=hE.rule 0 rfl;unfold bR at r;go_enter func115,ntmps115;go_wp2_with fail;refine (qk (hE.get 1 rfl)).mono ?_;rintro o w1 ⟨rfl,rfl⟩;go_wp2_with fail;have hQ:=hE.queue 2 rfl
 rcases hq:S.ql with _ | ⟨x,t⟩
 ·rw[hq] at hQ;refine (s8 hQ).mono ?_;rintro o w2 ⟨rfl,hb⟩;replace hE:=hE.over hb;clear hb r hQ;have r:=hE.rule 0 rfl;unfold bR at r;simp only[List.length_nil,Int.natCast_zero];go_wp2_with fail;refine (end_m 0 1 (by simp[bR]) hE rfl).mono ?_;rintro o w3 ⟨rfl,tF,bM⟩;go_wp2_with fail;go_ret;rw[hq];exact⟨rfl,tF,fun h=>absurd rfl h,bM⟩
 ·rw[hq] at hQ;refine (s8 hQ).mono ?_;rintro o w2 ⟨rfl,hb⟩;replace hE:=hE.over hb;clear hb r hQ;have r:=hE.rule 0 rfl;unfold bR at r;have hl:(((x::t).length:Int)==0)=false:=by simp;omega
  have HQ:=zH hq;clear hq;generalize (((x::t).length:Nat):Int)=len at *;go_wp2_with fail;refine (goOn_m 0 _ _ _ (by simp[bR]) (by exact congrArg some hz.out) hE rfl).mono ?_;rintro o w3 ⟨rfl,bM⟩;go_wp2_with fail;go_ret;rw[HQ.out];exact⟨rfl,iq a 1,fun _=>rfl,bM⟩
theorem zK (x y:Int) (t:List bF) (bU:S.ql=(x,y,0)::t) (hb:ao 0 w a (bR S.c nx h n)) (hc:ao 0 w S.c (cT S.ck S.cs S.cb S.ch S.cl S.ce S.cr S.hs 0 S.q)) (hQ:eP w S.q S.F S.ql S.kq) :
  Calls prog 188 #[zP a] w fun o w'=>o=.returned (.agg #[zI x,zI 0])/\Below w.heap.size w w':=by
 have hE:=(Env.start w).box w.heap.size rfl [zI 0,zI 0] 92;have cV:=hb.under hE.below;have nZ:=hc.under hE.below;have tj:=hQ.below hE.below;rw[bU] at tj;have r:=cV.rule;unfold bR at r;clear hb hc hQ;go_enter func188,ntmps188;go_wp2_with fail;refine (qk nZ).mono ?_;rintro o w1 ⟨rfl,rfl⟩;go_wp2_with fail;refine (wT x y 0 tj).mono ?_;rintro o w2 ⟨rfl,eg⟩;have az:=(hE.over eg).box w2.heap.size rfl [zI x,zI y,zI 0] 97;clear r cV nZ tj hE eg;simp only[tv];have r0:=az.rule 0 rfl;have r1:=az.rule 1 rfl;have f0:=az.thaw 1 rfl 0 (by simp);have f1:=az.thaw 1 rfl 1 (by simp);have hP:=(az.put 1 rfl (j:=0) (by simp) (zI x)).put 1 rfl (j:=1) (by simp) (zI 0);have q:=hP.rule 1 rfl;clear az;go_wp2_with fail;exact bodyPost_ret (v:=.agg #[zI x,zI 0]) (by simp[results,results188,go_sem,q]) rfl ⟨rfl,hP.below⟩
theorem JK (x:Int) (br:S.f (1,0,0)=x) (hz:Hid (nx.2=zI 0)) (hE:Env w0 (ae a (bR S.c nx h n)::LT S R) w) :
  Calls prog 84 #[zP a,.iface 28 (zP S.p)] w fun o w'=>o=.returned (zI (js S.ql))/\∃ nx,(S.ql≠[]->nx=iq a 1)/\Env w0 (ae a (bR S.c nx h n)::LT { S with ce:=bg x,qc:={ S.qc with l:=wrap64 (S.qc.l+1) } } R) w':=by
 have r:=hE.rule 0 rfl;unfold bR at r;go_enter func84,ntmps84;go_wp2_with fail;refine (Dj x br 1 3 4 (by decide) (by decide) hE rfl rfl rfl).mono ?_;rintro o w1 ⟨rfl,ag⟩;go_wp2_with fail;refine (DK (S:={ S with ce:=bg x,qc:={ S.qc with l:=wrap64 (S.qc.l+1) } }) hz ag).mono ?_;rintro o w2 ⟨rfl,tF,bo,az⟩;go_wp2_with fail;go_ret;exact⟨rfl,tF,bo,az⟩
theorem JL (x:Int) (br:S.f (2,0,0)=x) (hg:bE w0) (hz:Hid (nx.2=zI 0)) (hE:Env w0 (ae a (bR S.c nx h n)::LT S R) w) :
  Calls prog 135 #[zP a,.iface 28 (zP S.p)] w fun o w'=>o=.returned (zI (jV x S.cl))/\∃ nx,(jV x S.cl=0->nx=iq a 2)/\Env w0 (ae a (bR S.c nx x n)::LT { S with qc:={ S.qc with l:=wrap64 (S.qc.l+1) } } R) w':=by
 have cf:=cg;have eV:=l4;have eA:aD x:=by rw[<- br];exact (hE.cell 4 rfl).words.1 _
 have HX:=zH br;have jU:=zH eA;clear br eA;go_enter func135,ntmps135;go_wp2_with fail;refine Ord.wc [7,10] (fun _=>True) (fun k w'=>Env w0 (l6 (ae a (bR S.c nx h n)::LT S R) (ae a (bR S.c nx h n)::LT { S with qc:={ S.qc with l:=wrap64 (S.qc.l+1) } } R) (ae a (bR S.c nx x n)::LT { S with qc:={ S.qc with l:=wrap64 (S.qc.l+1) } } R) k) w') trivial hE.drew fun af=>?_
 repeat ((first
  | (refine Ord.cv ?_ af.o ?_ ?_;rotate_left;(intro w5 hS;skip;go_simp<;>rfl))
  | (refine Ord.co af.o ?_)
  | (refine Ord.cc ?_ ?_ ?_ af.o ?_ ?_ ?_;rotate_left 3;(intro w5 hS;skip;go_simp;constructor<;>rfl);(intro w5 hS;(first | (with_reducible refine kp (tA _) ?_ ?_;rfl;exact fun w6 aj=>⟨trivial,fun k h=>h.over aj⟩) | (with_reducible refine kp (nW _ _ _ _) ?_ ?_;rfl;exact fun w6 aj=>⟨trivial,fun k h=>h.over aj⟩)))));try simp only[Act.put,zA,zZ,zS])
 refine Ord.ch_turn (v:=.agg #[zU x,zI 0,.bool false]) 0 af.o rfl (by decide) (Or.inl rfl) (by rfl) ?_ ?_
 ·rintro w5 aN au;replace au:Env w0 (ae a (bR S.c nx h n)::LT S R) w5:=au;go_simp;rw[lB];simp only[Result.andThen_ok];go_simp;simp only[Ord.LandsIn];have hl:=lA 2 0 0 0 (by unfold Wf In64;simp) 3 4 (by decide) au rfl rfl;rw[HX.out] at hl;refine hl.mono ?_;rintro e w6 ⟨rfl,aq⟩;exact⟨rfl,aq⟩
 try simp only[Act.put,zA,zZ,zS]
 repeat ((first
  | (refine Ord.cv ?_ af.o ?_ ?_;rotate_left;(intro w5 hS;skip;go_simp<;>rfl))
  | (refine Ord.co af.o ?_));try simp only[Act.put,zA,zZ,zS])
 refine Ord.ch_turn (v:=undef) 1 af.o rfl (by decide) (Or.inr ⟨_,rfl,by kernel_rfl⟩) (by rfl) ?_ ?_
 ·rintro w5 aN au;replace au:Env w0 (ae a (bR S.c nx h n)::LT { S with qc:={ S.qc with l:=wrap64 (S.qc.l+1) } } R) w5:=au;have r:=au.rule 0 rfl;unfold bR at r;have f6:=au.thaw 0 rfl 3 (by simp[bR]);have f7:=au.thaw 0 rfl 4 (by simp[bR]);have f8:=au.thaw 0 rfl 5 (by simp[bR]);go_simp;have h9:=((au.put 0 rfl (j:=3) (by simp[bR]) (zU x)).put 0 rfl (j:=4) (by simp[bR]) (zI 0)).put 0 rfl (j:=5) (by simp[bR]) (.bool false);exact⟨rfl,h9⟩
 try simp only[Act.put,zA,zZ,zS]
 repeat ((first
  | (refine Ord.cv ?_ af.o ?_ ?_;rotate_left;(intro w5 hS;skip;go_simp<;>rfl))
  | (refine Ord.co af.o ?_));try simp only[Act.put,zA,zZ,zS])
 refine Ord.InText.nil fun w5 hS=>?_;clear af;obtain⟨aL,ai⟩:=Ord.chain_end hS;clear hS;replace ai:Env w0 (ae a (bR S.c nx x n)::LT { S with qc:={ S.qc with l:=wrap64 (S.qc.l+1) } } R) w5:=ai;have rK:Hid (∀ v,Env w0 (ae a (bR S.c nx x n)::LT { S with qc:={ S.qc with l:=wrap64 (S.qc.l+1) } } R) v->Calls prog 165 #[zP a,.agg #[zU x,zI 0,.bool false]] v fun o w'=>o=.returned (.bool (decide (S.cl<=dr x)))/\Below v.heap.size v w'):=zH fun v hv=>DG (S:={ S with qc:={ S.qc with l:=wrap64 (S.qc.l+1) } }) x 0 false jU.out hg rfl hv;obtain⟨b,hb⟩:∃ b,decide (S.cl<=dr x)=b:=⟨_,rfl⟩;rw[hb] at rK;have HB:=zH hb;clear hb;go_wp2_with fail;refine cG (S:=(Env w0 (ae a (bR S.c nx x n)::LT { S with qc:={ S.qc with l:=wrap64 (S.qc.l+1) } } R))) (by kernel_rfl) (by kernel_rfl) ai.drew (fun hT=>?_);have af:=zH hT;clear hT
 repeat ((first
  | (refine cH (v:=?_) af.o (by rfl) ?_ ?_;rotate_left;(intro w5 hS;have r:=hS.rule 0 rfl;unfold bR at r;go_simp<;>rfl))
  | (refine cI af.o (by rfl) ?_)
  | (refine cJ (v:=?_) (f:=?_) (args:=?_) af.o (by rfl) ?_ ?_ ?_;rotate_left 3;(intro w5 hS;have r:=hS.rule 0 rfl;unfold bR at r;go_simp;constructor<;>rfl);(intro w5 hS;(first | (with_reducible refine kp (rK.out _ hS) ?_ ?_;rfl;exact fun w6 aj=>hS.over aj)))));try simp only[Act.put,zA,zZ,zS])
 refine InText.nil fun w5 aK=>?_;clear af;clear ai rK;cases b
 ·have hv:¬ S.cl<=dr x:=by simpa using HB.out
  have HP:=zH (show jV x S.cl=0 from if_neg hv);clear hv;go_wp2_with fail;refine (goOn_m 0 _ _ _ (by simp[bR]) (by exact congrArg some hz.out) aK rfl).mono ?_;rintro o w7 ⟨rfl,aO⟩;go_wp2_with fail;go_ret;rw[HP.out];exact⟨rfl,_,fun _=>rfl,aO⟩
 ·have hv:S.cl<=dr x:=by simpa using HB.out
  have HP:=zH (show jV x S.cl=4 from if_pos hv);clear hv;go_wp2_with fail;refine (end_m 0 4 (by simp[bR]) aK rfl).mono ?_;rintro o w7 ⟨rfl,nx,aO⟩;go_wp2_with fail;go_ret;rw[HP.out];exact⟨rfl,nx,fun h=>absurd h (by decide),aO⟩
theorem JM (x y:Int) (t:List bF) (bU:S.ql=(x,y,0)::t) (hx:In64 x) (hh:aD h) (hg:bE w0) (hm:S.m < maxLen) (hz:Hid (nx.2=zI 0)) (hE:Env w0 (ae a (bR S.c nx h n)::LT S R) w) :
  Calls prog 166 #[zP a,.iface 28 (zP S.p)] w fun o w'=>o=.returned (zI 0)/\∃ G5,Env w0 (ae a (bR S.c (iq a 3) h n)::LT { S with G:=G5,f:=upd S.f (5,x,2) (aP false (aA h) 0),qc:={ S.qc with s:=wrap64 (S.qc.s+1) },m:=S.m+1 } R) w':=by
 have cf:=cg;have eV:=ve;have dQ:Hid (Wf (5,x,2)):=zH (by unfold Wf;exact⟨by unfold In64;simp,hx,by unfold In64;simp⟩);have cP:=fun (v:World) (hv:Below w0.heap.size w0 v)=>zB (aA h) 0 v (hg.keep' hv);have hle:=fun (v:World) (hv:Below w0.heap.size w0 v)=>kt h 0 false v hh (hg.keep' hv);have zL:aD (aP false (aA h) 0):=by
  have:=nV h;unfold aP aD
  split
  ·simp only[mI,Bool.false_eq_true,if_false];omega
  ·omega
 obtain⟨y9,hy⟩:∃ y,aP false (aA h) 0=y:=⟨_,rfl⟩;rw[hy] at zL ⊢;simp only[hy] at cP;have JN:=zH zL;have dT:=zH cP;have dF:=zH hle;have tG:=zH bU;clear hy zL cP hle hx hh bU;have r:=hE.rule 0 rfl;unfold bR at r;go_enter func166,ntmps166;go_wp2_with fail;refine (dF.out _ hE.below).mono ?_;rintro o w1 ⟨rfl,hb⟩;have ag:=((hE.over hb).box w1.heap.size rfl [zI (aA h),zI 0] 92).perm (L':=ae a (bR S.c nx h n)::LT S (ae w1.heap.size [zI (aA h),zI 0]::R)) (List.perm_middle (l₁:=[ae a (bR S.c nx h n),_,_,_,_])).symm;clear r hb hE dF;go_wp2_with fail;generalize w1.alloc _=w2 at *;generalize w1.heap.size=Y at *;generalize aA h=sl at *;refine Ord.wc [13] (fun v=>ao 0 v a (bR S.c nx h n)/\ao 0 v S.c (cT S.ck S.cs S.cb S.ch S.cl S.ce S.cr S.hs 0 S.q)/\eP v S.q S.F S.ql S.kq/\ao 0 v Y [zI sl,zI 0]/\Below w0.heap.size w0 v) (fun k w'=>∃ G5,Env w0 (ae a (bR S.c nx h n)::LT (if k=0 then S else { S with G:=G5,f:=upd S.f (5,x,2) y9,qc:={ S.qc with s:=wrap64 (S.qc.s+1) },m:=S.m+1 }) (ae Y [zI sl,zI 0]::R)) w') ⟨ag.drew.get 0 rfl,ag.drew.get 1 rfl,ag.drew.get 2 rfl,ag.drew.get 5 rfl,ag.drew.below⟩ ⟨S.G,ag.drew⟩ fun af=>?_
 repeat ((first
  | (refine Ord.cv ?_ af.o ?_ ?_;rotate_left;(intro w5 hS;have r:=hS.1.rule;have r1:=hS.2.2.2.1.rule;unfold bR at r;go_simp<;>rfl))
  | (refine Ord.co af.o ?_)
  | (refine Ord.cc ?_ ?_ ?_ af.o ?_ ?_ ?_;rotate_left 3;(intro w5 hS;have r:=hS.1.rule;have r1:=hS.2.2.2.1.rule;unfold bR at r;go_simp;constructor<;>rfl);(intro w5 hS;(first | (with_reducible refine kp (zK x y t tG.out hS.1 hS.2.1 hS.2.2.1) ?_ ?_;rfl;exact fun w6 aj=>⟨⟨hS.1.under aj,hS.2.1.under aj,hS.2.2.1.below aj,hS.2.2.2.1.under aj,hS.2.2.2.2.trans (aj.mono hS.2.2.2.2.size)⟩,fun k h=>h.elim fun G5 h=>⟨G5,h.over aj⟩⟩) | (with_reducible refine kp (u7 _ _ _ _) ?_ ?_;rfl;exact fun w6 aj=>⟨⟨hS.1.under aj,hS.2.1.under aj,hS.2.2.1.below aj,hS.2.2.2.1.under aj,hS.2.2.2.2.trans (aj.mono hS.2.2.2.2.size)⟩,fun k h=>h.elim fun G5 h=>⟨G5,h.over aj⟩⟩) | (with_reducible refine kp (dT.out _ hS.2.2.2.2) ?_ ?_;rfl;exact fun w6 aj=>⟨⟨hS.1.under aj,hS.2.1.under aj,hS.2.2.1.below aj,hS.2.2.2.1.under aj,hS.2.2.2.2.trans (aj.mono hS.2.2.2.2.size)⟩,fun k h=>h.elim fun G5 h=>⟨G5,h.over aj⟩⟩)))));try simp only[Act.put,zA,zZ,zS])
 refine Ord.ch_turn (v:=.tuple #[]) 0 af.o rfl (by decide) (Or.inl rfl) (by rfl) ?_ ?_
 ·rintro w5 aN ⟨G5,au⟩;simp only[if_true] at au;go_simp;rw[tr];simp only[Result.andThen_ok];go_simp;simp only[Ord.LandsIn];refine (tq 5 x 2 0 y9 0 false dQ.out JN.out hm 3 4 (by decide) au rfl rfl).mono ?_;rintro e w6 ⟨rfl,G6,aq⟩;exact⟨rfl,⟨aq.get 0 rfl,aq.get 1 rfl,aq.get 2 rfl,aq.get 5 rfl,aq.below⟩,G6,aq⟩
 try simp only[Act.put,zA,zZ,zS]
 repeat ((first
  | (refine Ord.cv ?_ af.o ?_ ?_;rotate_left;(intro w5 hS;skip;go_simp<;>rfl))
  | (refine Ord.co af.o ?_));try simp only[Act.put,zA,zZ,zS])
 refine Ord.InText.nil fun w5 hS=>?_;clear af;obtain⟨aL,ai⟩:=Ord.chain_end hS;clear hS;obtain⟨G9,ai⟩:=ai;simp only[List.length_cons,List.length_nil,Nat.zero_add,Nat.one_ne_zero,if_false] at ai;clear aL ag;go_wp2_with fail;refine (goOn_m 0 _ _ _ (by simp[bR]) (by exact congrArg some hz.out) ai rfl).mono ?_;rintro o w7 ⟨rfl,aO⟩;go_wp2_with fail;go_ret;exact⟨rfl,G9,aO.sub (.cons_cons _ (.cons_cons _ (.cons_cons _ (.cons_cons _ (.cons_cons _ (.cons _ (List.Sublist.refl _)))))))⟩
theorem JO (x y:Int) (t:List bF) (bU:S.ql=(x,y,0)::t) (br:S.f (2,0,0)≠h) (hh:aD h) (hg:bE w0) (hm:S.m < maxLen) (hz:Hid (nx.2=zI 0)) (hE:Env w0 (ae a (bR S.c nx h n)::LT S R) w) :
  Calls prog 190 #[zP a,.iface 28 (zP S.p)] w fun o w'=>o=.returned (zI 0)/\∃ G5,Env w0 (ae a (bR S.c (iq a 1) h n)::LT { S with G:=G5,f:=swf S.f (2,0,0) h (eh h x),qc:=dE S.qc (decide (S.f (2,0,0)=h)),m:=S.m+1 } R) w':=by
 have cf:=cg;have eV:=kQ;have HD:Hid (decide (S.f (2,0,0)=h)=false):=zH (by simpa using br);clear br;have eQ:=fun (v:World) (hv:Below w0.heap.size w0 v)=>wX h 0 x 0 false hh v (hg.keep' hv);have ky:=wW h x hh;obtain⟨y9,hy⟩:∃ y,eh h x=y:=⟨_,rfl⟩;rw[hy] at ky ⊢;simp only[hy] at eQ;have rL:=zH ky;have jF:=zH eQ;have tG:=zH bU;clear hy ky eQ hh bU;go_enter func190,ntmps190;go_wp2_with fail;refine Ord.wc [17] (fun v=>ao 0 v a (bR S.c nx h n)/\ao 0 v S.c (cT S.ck S.cs S.cb S.ch S.cl S.ce S.cr S.hs 0 S.q)/\eP v S.q S.F S.ql S.kq/\Below w0.heap.size w0 v) (fun k w'=>∃ G5,Env w0 (ae a (bR S.c nx h n)::LT (if k=0 then S else { S with G:=G5,f:=swf S.f (2,0,0) h y9,qc:=dE S.qc (decide (S.f (2,0,0)=h)),m:=S.m+1 }) R) w') ⟨hE.drew.get 0 rfl,hE.drew.get 1 rfl,hE.drew.get 2 rfl,hE.drew.below⟩ ⟨S.G,hE.drew⟩ fun af=>?_
 repeat ((first
  | (refine Ord.cv ?_ af.o ?_ ?_;rotate_left;(intro w5 hS;have r:=hS.1.rule;unfold bR at r;go_simp<;>rfl))
  | (refine Ord.co af.o ?_)
  | (refine Ord.cc ?_ ?_ ?_ af.o ?_ ?_ ?_;rotate_left 3;(intro w5 hS;have r:=hS.1.rule;unfold bR at r;go_simp;constructor<;>rfl);(intro w5 hS;(first | (with_reducible refine kp (tA _) ?_ ?_;rfl;exact fun w6 aj=>⟨⟨hS.1.under aj,hS.2.1.under aj,hS.2.2.1.below aj,hS.2.2.2.trans (aj.mono hS.2.2.2.size)⟩,fun k h=>h.elim fun G5 h=>⟨G5,h.over aj⟩⟩) | (with_reducible refine kp (nW _ _ _ _) ?_ ?_;rfl;exact fun w6 aj=>⟨⟨hS.1.under aj,hS.2.1.under aj,hS.2.2.1.below aj,hS.2.2.2.trans (aj.mono hS.2.2.2.size)⟩,fun k h=>h.elim fun G5 h=>⟨G5,h.over aj⟩⟩) | (with_reducible refine kp (zK x y t tG.out hS.1 hS.2.1 hS.2.2.1) ?_ ?_;rfl;exact fun w6 aj=>⟨⟨hS.1.under aj,hS.2.1.under aj,hS.2.2.1.below aj,hS.2.2.2.trans (aj.mono hS.2.2.2.size)⟩,fun k h=>h.elim fun G5 h=>⟨G5,h.over aj⟩⟩) | (with_reducible refine kp (jF.out _ hS.2.2.2) ?_ ?_;rfl;exact fun w6 aj=>⟨⟨hS.1.under aj,hS.2.1.under aj,hS.2.2.1.below aj,hS.2.2.2.trans (aj.mono hS.2.2.2.size)⟩,fun k h=>h.elim fun G5 h=>⟨G5,h.over aj⟩⟩)))));try simp only[Act.put,zA,zZ,zS])
 refine Ord.ch_turn (v:=.bool false) 0 af.o rfl (by decide) (Or.inl rfl) (by rfl) ?_ ?_
 ·rintro w5 aN ⟨G5,au⟩;simp only[if_true] at au;go_simp;rw[kP];simp only[Result.andThen_ok];go_simp;simp only[Ord.LandsIn];have bS:=kO 2 0 0 0 h 0 y9 0 false false (by unfold Wf In64;simp) rL.out hm 3 4 (by decide) au rfl rfl;rw[HD.out] at bS;refine bS.mono ?_;rintro e w6 ⟨rfl,G6,aq⟩;rw[HD.out];exact⟨rfl,⟨aq.get 0 rfl,aq.get 1 rfl,aq.get 2 rfl,aq.below⟩,G6,aq⟩
 try simp only[Act.put,zA,zZ,zS]
 repeat ((first
  | (refine Ord.cv ?_ af.o ?_ ?_;rotate_left;(intro w5 hS;skip;go_simp<;>rfl))
  | (refine Ord.co af.o ?_));try simp only[Act.put,zA,zZ,zS])
 refine Ord.InText.nil fun w5 hS=>?_;clear af;obtain⟨aL,ai⟩:=Ord.chain_end hS;clear hS;obtain⟨G9,ai⟩:=ai;clear aL hE;simp only[List.length_cons,List.length_nil,Nat.zero_add,Nat.one_ne_zero,if_false] at ai;have r:=ai.rule 0 rfl;unfold bR at r;go_wp2_with fail;refine (goOn_m 0 _ _ _ (by simp[bR]) (by exact congrArg some hz.out) ai rfl).mono ?_;rintro o w7 ⟨rfl,aO⟩;go_wp2_with fail;go_ret;exact⟨rfl,G9,aO⟩
theorem JP (x y:Int) (t:List bF) (bU:S.ql=(x,y,0)::t) (br:S.f (2,0,0)=h) (hh:aD h) (hg:bE w0) (hm:S.m < maxLen) (hz:Hid (nx.2=zI 0)) (hE:Env w0 (ae a (bR S.c nx h n)::LT S R) w) :
  Calls prog 190 #[zP a,.iface 28 (zP S.p)] w fun o w'=>o=.returned (zI (js t))/\∃ nx G5,(t≠[]->nx=iq a 1)/\Env w0 (ae a (bR S.c nx h (wrap64 (n+1)))::LT { S with G:=G5,f:=swf S.f (2,0,0) h (eh h x),qc:=dE S.qc (decide (S.f (2,0,0)=h)),m:=S.m+1,ql:=t } R) w':=by
 have cf:=cg;have eV:=kQ;have HD:Hid (decide (S.f (2,0,0)=h)=true):=zH (by rw[br];simp);clear br;have eQ:=fun (v:World) (hv:Below w0.heap.size w0 v)=>wX h 0 x 0 false hh v (hg.keep' hv);have ky:=wW h x hh;obtain⟨y9,hy⟩:∃ y,eh h x=y:=⟨_,rfl⟩;rw[hy] at ky ⊢;simp only[hy] at eQ;have rL:=zH ky;have jF:=zH eQ;have tG:=zH bU;clear hy ky eQ hh bU;go_enter func190,ntmps190;go_wp2_with fail;refine Ord.wc [17] (fun v=>ao 0 v a (bR S.c nx h n)/\ao 0 v S.c (cT S.ck S.cs S.cb S.ch S.cl S.ce S.cr S.hs 0 S.q)/\eP v S.q S.F S.ql S.kq/\Below w0.heap.size w0 v) (fun k w'=>∃ G5,Env w0 (ae a (bR S.c nx h n)::LT (if k=0 then S else { S with G:=G5,f:=swf S.f (2,0,0) h y9,qc:=dE S.qc (decide (S.f (2,0,0)=h)),m:=S.m+1 }) R) w') ⟨hE.drew.get 0 rfl,hE.drew.get 1 rfl,hE.drew.get 2 rfl,hE.drew.below⟩ ⟨S.G,hE.drew⟩ fun af=>?_
 repeat ((first
  | (refine Ord.cv ?_ af.o ?_ ?_;rotate_left;(intro w5 hS;have r:=hS.1.rule;unfold bR at r;go_simp<;>rfl))
  | (refine Ord.co af.o ?_)
  | (refine Ord.cc ?_ ?_ ?_ af.o ?_ ?_ ?_;rotate_left 3;(intro w5 hS;have r:=hS.1.rule;unfold bR at r;go_simp;constructor<;>rfl);(intro w5 hS;(first | (with_reducible refine kp (tA _) ?_ ?_;rfl;exact fun w6 aj=>⟨⟨hS.1.under aj,hS.2.1.under aj,hS.2.2.1.below aj,hS.2.2.2.trans (aj.mono hS.2.2.2.size)⟩,fun k h=>h.elim fun G5 h=>⟨G5,h.over aj⟩⟩) | (with_reducible refine kp (nW _ _ _ _) ?_ ?_;rfl;exact fun w6 aj=>⟨⟨hS.1.under aj,hS.2.1.under aj,hS.2.2.1.below aj,hS.2.2.2.trans (aj.mono hS.2.2.2.size)⟩,fun k h=>h.elim fun G5 h=>⟨G5,h.over aj⟩⟩) | (with_reducible refine kp (zK x y t tG.out hS.1 hS.2.1 hS.2.2.1) ?_ ?_;rfl;exact fun w6 aj=>⟨⟨hS.1.under aj,hS.2.1.under aj,hS.2.2.1.below aj,hS.2.2.2.trans (aj.mono hS.2.2.2.size)⟩,fun k h=>h.elim fun G5 h=>⟨G5,h.over aj⟩⟩) | (with_reducible refine kp (jF.out _ hS.2.2.2) ?_ ?_;rfl;exact fun w6 aj=>⟨⟨hS.1.under aj,hS.2.1.under aj,hS.2.2.1.below aj,hS.2.2.2.trans (aj.mono hS.2.2.2.size)⟩,fun k h=>h.elim fun G5 h=>⟨G5,h.over aj⟩⟩)))));try simp only[Act.put,zA,zZ,zS])
 refine Ord.ch_turn (v:=.bool true) 0 af.o rfl (by decide) (Or.inl rfl) (by rfl) ?_ ?_
 ·rintro w5 aN ⟨G5,au⟩;simp only[if_true] at au;go_simp;rw[kP];simp only[Result.andThen_ok];go_simp;simp only[Ord.LandsIn];have bS:=kO 2 0 0 0 h 0 y9 0 false false (by unfold Wf In64;simp) rL.out hm 3 4 (by decide) au rfl rfl;rw[HD.out] at bS;refine bS.mono ?_;rintro e w6 ⟨rfl,G6,aq⟩;rw[HD.out];exact⟨rfl,⟨aq.get 0 rfl,aq.get 1 rfl,aq.get 2 rfl,aq.below⟩,G6,aq⟩
 try simp only[Act.put,zA,zZ,zS]
 repeat ((first
  | (refine Ord.cv ?_ af.o ?_ ?_;rotate_left;(intro w5 hS;skip;go_simp<;>rfl))
  | (refine Ord.co af.o ?_));try simp only[Act.put,zA,zZ,zS])
 refine Ord.InText.nil fun w5 hS=>?_;clear af;obtain⟨aL,ai⟩:=Ord.chain_end hS;clear hS;obtain⟨G9,ai⟩:=ai;clear aL hE;simp only[List.length_cons,List.length_nil,Nat.zero_add,Nat.one_ne_zero,if_false] at ai;have r:=ai.rule 0 rfl;unfold bR at r;go_wp2_with fail;refine (qk (ai.get 1 rfl)).mono ?_;rintro o w6 ⟨rfl,rfl⟩;have hQ:eP w6 S.q S.F S.ql S.kq:=ai.queue 2 rfl;rw[tG.out] at hQ;go_wp2_with fail;refine (Dw x y 0 hQ).mono ?_;rintro o w7 ⟨rfl,DL,DM⟩;have aO:Env w0 (ae a (bR S.c nx h n)::LT { S with G:=G9,f:=swf S.f (2,0,0) h y9,qc:=dE S.qc (decide (S.f (2,0,0)=h)),m:=S.m+1,ql:=t } R) w7:=ai.turnQ 2 rfl DL DM;clear hQ DL DM ai r;have r:=aO.rule 0 rfl;unfold bR at r;have f5:=aO.thaw 0 rfl 6 (by simp[bR]);have hP:=aO.put 0 rfl (j:=6) (by simp[bR]) (zI (wrap64 (n+1)));go_wp2_with fail;refine (DK (S:={ S with G:=G9,f:=swf S.f (2,0,0) h y9,qc:=dE S.qc (decide (S.f (2,0,0)=h)),m:=S.m+1,ql:=t }) (nx:=nx) (h:=h) (n:=wrap64 (n+1)) hz hP).mono ?_;rintro o w8 ⟨rfl,tF,bo,bn⟩;go_wp2_with fail;go_ret;exact⟨rfl,tF,G9,bo,bn⟩
end
theorem vg:(prog.info? 98).map (fun i=>(i.zero,i.size,i.bytes))=some (some (tv t0),3,24):=by kernel_rfl
def fx (A:Option Addr) (c:Nat) (l:List bF):Item:=fK (.slice A l.length c) 98 l
def gN (N:Int) (n:Nat):Int:=if N < n then 2 * N else N
theorem DN {α:Type _} {L:List α} {m:Nat} {a:α} (h:L[m]?=some a):L.set m a=L:=by
 obtain⟨hl,rfl⟩:=List.getElem?_eq_some_iff.1 h;exact List.set_getElem_self hl
def gO (N:Int):Int:=if N=0 then 4 else N
def JQ (o B u i:Nat) (vs:List Value) (L:List Item) (l:List bF) (x:bF):List (List Value->List Item->Prop) :=
 [fun _ M=>M=ae B (fF x)::L,
  fun κs M=>∃ n,κs=[.slice (some ⟨n,0,none⟩) 0 0]/\M=fK (.slice (some ⟨n,0,none⟩) 0 0) 98 []::ae B (fF x)::L,
  fun κs M=>∃ A1 c1 κ0,κs=[κ0,.slice A1 l.length c1]/\M=fK (.slice A1 l.length c1) 98 l::ae B (fF x)::L,
  fun κs M=>∃ A1 c1 κ0 κ1,κs=[κ0,κ1,.slice A1 (l.length+1) c1]/\M=fK (.slice A1 (l.length+1) c1) 98 (l++[x])::ae B (fF x)::L,
  fun κs M=>∃ A1 c1 κ0 κ1,κs=[κ0,κ1,.slice A1 (l.length+1) c1,undef]/\M=fK (.slice A1 (l.length+1) c1) 98 (l++[x])::ae B (fF x)::L.set i (ae u (vs.set o (.slice A1 (l.length+1) c1)))]
theorem tH {w0 w:World} {L:List Item} {u c:Nat} {A:Option Addr} {l:List bF} {N:Int} {vs:List Value} (x y z:Int) (o i:Nat) (hE:Env w0 L w) (hu:L[i]?=some (ae u vs)) (fW:vs[o]?=some (.slice A l.length c)) (vh:vs[o+1]?=some (zI N)) (hr:L[i+1]?=some (fx A c l)) (hl:l.length<=1000000) (hN:0<=N/\N<=1099511627776) :
  Calls prog 93 #[.pointer (some ⟨u,o,none⟩),.agg #[zI x,zI y,zI z]] w fun e w'=>e=.returned (.tuple #[])/\∃ A' c',Env w0 ((L.set i (ae u ((vs.set o (.slice A' (l.length+1) c')).set (o+1) (zI (gN (gO N) (l.length+1)))))).set (i+1) (fx A' c' (l++[(x,y,z)]))) w':=by
 have qe:(l++[(x,y,z)]).length=l.length+1:=by simp
 have nO:=zH qe;clear qe;have zM:i < L.length:=(List.getElem?_eq_some_iff.1 hu).1;have JR:o < vs.length:=(List.getElem?_eq_some_iff.1 fW).1;have wY:o+1 < vs.length:=(List.getElem?_eq_some_iff.1 vh).1;have ag:=hE.box w.heap.size rfl [zI x,zI y,zI z] 98;have HE:=zH hE;clear hE;have r1:(w.alloc (.cells [zI x,zI y,zI z].toArray 98)).cell? ⟨u,o+1,none⟩=some (zI N):=by rw[ag.rule (i+1) hu (o+1),vh]
 have f1:=ag.thaw (i+1) hu (o+1) wY;have oY:=ag.boxLt (i+1) hu;have JS:u < w.heap.size:=by
  have h0:=ag.off (i:=i+1) (j:=0) hu rfl (by omega);have bu:u≠w.heap.size:=fun e=>h0 u rfl e;simp at oY;omega
 generalize gP:gO N=N1;have S3:0<=N1/\N1<=1099511627776:=by rw[<- gP];unfold gO;split<;>omega
 cases hz:(N==0)
 case' false =>
  have gL:N1=N:=by
   have wU:¬ N=0:=by simpa using hz
   rw[<- gP];unfold gO;rw[if_neg wU]
  have nQ:=zH gL;have JT:=zH gP;clear gL gP;go_enter func93,ntmps93
  go_upto_region 3 with fail
  have hX:∃ fy,fy[o]?=some (.slice A l.length c)/\fy[o+1]?=some (zI N1)/\(∀ X Y,(fy.set o X).set (o+1) Y=(vs.set o X).set (o+1) Y)/\(∀ X,fy.set o X=(vs.set o X).set (o+1) (zI N1))/\Env w0 (ae w.heap.size [zI x,zI y,zI z]::L.set i (ae u fy)) (w.alloc (.cells [zI x,zI y,zI z].toArray 98)) :=
   ⟨vs,fW,by rw[nQ.out];exact vh,fun _ _=>rfl,fun X=>by rw[nQ.out,DN (m:=o+1) (by rw[List.getElem?_set_ne (by omega)];exact vh)],by rw[DN hu];exact ag⟩
  clear nQ hz
 case' true =>
  have gL:N1=4:=by
   have wU:N=0:=by simpa using hz
   rw[<- gP];unfold gO;rw[if_pos wU]
  have nQ:=zH gL;have JT:=zH gP;clear gL gP;go_enter func93,ntmps93
  go_upto_region 3 with fail
  have hX:∃ fy,fy[o]?=some (.slice A l.length c)/\fy[o+1]?=some (zI N1)/\(∀ X Y,(fy.set o X).set (o+1) Y=(vs.set o X).set (o+1) Y)/\(∀ X,fy.set o X=(vs.set o X).set (o+1) (zI N1))/\Env w0 (ae w.heap.size [zI x,zI y,zI z]::L.set i (ae u fy)) ((w.setCell ⟨u,o+1,none⟩ (zI 4)).alloc (.cells [zI x,zI y,zI z].toArray 98)):=by
   refine⟨vs.set (o+1) (zI 4),by rw[List.getElem?_set_ne (by omega)];exact fW,by rw[List.getElem?_set_self wY,nQ.out],fun X Y=>by rw[List.set_comm _ _ (by omega),List.set_set,List.set_comm _ _ (by omega)],fun X=>by rw[nQ.out,List.set_comm _ _ (by omega)],?_⟩;exact (HE.out.put i hu (j:=o+1) wY (zI 4)).box w.heap.size (by simp) _ _
  clear nQ hz
 all_goals
  clear r1 f1 oY JS ag HE vh;obtain⟨fy,wZ,DO,l7,rM,az⟩:=hX;obtain⟨M,tI⟩:∃ M,M=L.set i (ae u fy):=⟨_,rfl⟩;rw[<- tI] at az;have oa:M[i]?=some (ae u fy):=by rw[tI,List.getElem?_set_self zM]
  have jS:M[i+1]?=some (fx A c l):=by rw[tI,List.getElem?_set_ne (by omega),hr]
  have DP:Hid (∀ X,M.set i X=L.set i X):=zH fun X=>by rw[tI,List.set_set]
  have nG:i < M.length:=by rw[tI];simpa using zM
  have lH:o < fy.length:=(List.getElem?_eq_some_iff.1 wZ).1;have DQ:o+1 < fy.length:=(List.getElem?_eq_some_iff.1 DO).1;have JU:=zH l7;have JV:=zH rM;clear tI l7 rM hu fW hr zM JR wY;generalize w.heap.size=B at *;refine OrdF.wp_float [?_,?_,?_,?_,?_,?_,?_,?_,OrdF.Slc,?_,?_,?_,?_] [1,6,9,12] 8 (fun w'=>ao 0 w' B [zI x,zI y,zI z])
   (OrdF.AFS w0 (flat3 [(x,y,z)]) (JQ o B u i fy M l (x,y,z)))
   (by kernel_rfl) (by kernel_rfl) (by kernel_rfl) (az.drew.get 0 rfl) ⟨_,_,rfl,rfl,.inl ⟨rfl,az.drew⟩⟩ (fun hT=>?_)
  rotate_left 12;have af:=zH hT;clear hT
  repeat ((first
   | (focus (refine OrdF.in_value (v:=?_) af.o (by decide) (by decide) ?_ (by rfl) ?_ ?_;rotate_left 2;(intro w5 hS;skip;go_simp<;>rfl);rotate_right;(focus rfl)))
   | (focus (refine OrdF.in_off af.o (by decide) (by decide) ?_ (by rfl) ?_;(focus rfl))));try simp only[Act.put,zA,zZ,zS])
  refine OrdF.in_turn OrdF.Slc rfl (fun v=>∃ n,v=.slice (some ⟨n,0,none⟩) 0 0) (.slice (some ⟨0,0,none⟩) 0 0) ⟨0,rfl⟩ af.o rfl (by decide) (by decide) (by rfl) ?_ (.inl rfl) (by rfl) ?_ ?_
  ·rfl
  ·rintro qs w5 _ aN ⟨M5,P5,cd,cR,au⟩;cases cd;subst cR;go_simp;simp only[Ord3.Lands]
   rcases au with ⟨rfl,aB⟩ | ⟨n5,rfl,aB⟩
   ·have aq:=aB.addEmpty3 w5.heap.size rfl 98;exact⟨⟨_,rfl⟩,aq.get 1 rfl,_,_,rfl,⟨_,rfl,rfl⟩,.inl ⟨rfl,aq⟩⟩
   ·have aq:=(aB.addEmpty3 w5.heap.size rfl 98).perm (.swap _ _ _);exact⟨⟨_,rfl⟩,aq.get 2 rfl,_,_,rfl,⟨_,rfl,rfl⟩,.inr ⟨_,rfl,aq⟩⟩
  rintro _ ⟨n0,rfl⟩
  try simp only[Act.put,zA,zZ,zS]
  repeat ((first
   | (focus (refine OrdF.in_value (v:=?_) af.o (by decide) (by decide) ?_ (by rfl) ?_ ?_;rotate_left 2;(intro w5 hS;skip;go_simp<;>rfl);rotate_right;(focus rfl)))
   | (focus (refine OrdF.in_off af.o (by decide) (by decide) ?_ (by rfl) ?_;(focus rfl))));try simp only[Act.put,zA,zZ,zS])
  refine OrdF.in_early (v:=.slice A l.length c) 1 af.o (by decide) (by decide) rfl (by kernel_rfl) (by decide) ?_ (by rfl) ?_ ?_
  ·rfl
  ·rintro w5 κs5 qs hκ5 aN ⟨M5,P5,cd,cR,au⟩;have hB:ao 0 w5 u fy:=by
    rcases κs5 with _ | ⟨κ,_ | ⟨κ',κs5⟩⟩
    ·cases cd;subst cR
     rcases au with ⟨_,aB⟩ | ⟨n5,_,aB⟩
     ·exact aB.get (i+1) oa
     ·exact aB.get (i+2) oa
    ·cases cd;obtain⟨n,he,rfl⟩:=cR
     rcases au with ⟨_,aB⟩ | ⟨n5,_,aB⟩
     ·exact aB.get (i+2) oa
     ·exact aB.get (i+3) oa
    ·simp at hκ5
   have r0:w5.cell? ⟨u,o,none⟩=some (.slice A l.length c):=by rw[hB.rule o,wZ]
   go_simp<;>rfl
  try simp only[Act.put,zA,zZ,zS]
  refine OrdF.in_turn OrdF.Slc rfl (fun v=>∃ A1 c1,v=.slice A1 l.length c1) (.slice none l.length 0) ⟨_,_,rfl⟩ af.o rfl (by decide) (by decide) (by rfl) ?_ (.inr ⟨_,1,[],rfl,by kernel_rfl,by kernel_rfl,rfl⟩) (by rfl) ?_ ?_
  ·rfl
  ·rintro qs w5 _ aN ⟨M5,P5,cd,cR,au⟩;cases cd;obtain⟨n,he,rfl⟩:=cR;cases he
   rcases au with ⟨rfl,aB⟩ | ⟨n5,rfl,aB⟩
   ·obtain⟨A6,c6,w6,cZ,aq⟩:=aB.append3' 0 rfl 74 74 Tryz.underlying74 vg c rfl (aB.cells3 (i+1+2) rfl jS) (by simp;omega);rw[sY (.tmp 13) (.tmp 17) 74 rfl (by rfl) (by rfl) cZ];exact⟨⟨A6,c6,rfl⟩,aq.get 1 rfl,_,_,rfl,⟨A6,c6,_,rfl,rfl⟩,.inl ⟨rfl,aq⟩⟩
   ·obtain⟨A6,c6,w6,cZ,aq⟩:=aB.append3' 1 rfl 74 74 Tryz.underlying74 vg c rfl (aB.cells3 (i+1+3) rfl jS) (by simp;omega);rw[sY (.tmp 13) (.tmp 17) 74 rfl (by rfl) (by rfl) cZ];exact⟨⟨A6,c6,rfl⟩,aq.get 2 rfl,_,_,rfl,⟨A6,c6,_,rfl,rfl⟩,.inr ⟨_,rfl,aq⟩⟩
  rintro _ ⟨A1,c1,rfl⟩
  try simp only[Act.put,zA,zZ,zS]
  repeat ((first
   | (focus (refine OrdF.in_value (v:=?_) af.o (by decide) (by decide) ?_ (by rfl) ?_ ?_;rotate_left 2;(intro w5 hS;have r:=ao.rule hS;go_simp<;>rfl);rotate_right;(focus rfl)))
   | (focus (refine OrdF.in_off af.o (by decide) (by decide) ?_ (by rfl) ?_;(focus rfl))));try simp only[Act.put,zA,zZ,zS])
  refine OrdF.in_float OrdF.Slc (.slice (some ⟨0,0,none⟩) 1 1) ⟨0,rfl⟩ af.o rfl (by decide) ?_ (by rfl) ?_ ?_
  ·rfl
  ·intro w5 κs5 aN au;go_simp;simp only[Ord3.Lands];exact⟨⟨_,rfl⟩,aN.more _,au.up _⟩
  rintro _ ⟨n8,rfl⟩
  try simp only[Act.put,zA,zZ,zS]
  refine OrdF.in_turn_late (by kernel_rfl) (by decide) (by decide) (fun v=>∃ A1 c1,v=.slice A1 (l.length+1) c1) _ ⟨none,0,rfl⟩ af.o rfl (by decide) (by rfl) ?_ (.inr ⟨_,6,[],rfl,by kernel_rfl,by kernel_rfl,rfl⟩) (by rfl) ?_ ?_
  ·rfl
  ·rintro w5 aN ⟨M5,P5,cd,cR,⟨bC,_⟩ | ⟨n5,bC,aB⟩⟩
   ·cases bC
   cases bC;cases cd;obtain⟨A6,c6,κ0,he,rfl⟩:=cR;cases he;obtain⟨A9,c9,w9,cZ,bj⟩:=aB.append3' 1 rfl 74 74 Tryz.underlying74 vg (n:=1) (xs:=[(x,y,z)]) 1 rfl (ao.row3 (aB.get 0 rfl)) (by simp;omega);rw[nO.out] at cZ bj;rw[sY (.tmp 18) (.tmp 20) 74 rfl (by rfl) (by rfl) cZ];exact⟨⟨A9,c9,rfl⟩,bj.get 2 rfl,_,_,rfl,⟨A9,c9,_,_,rfl,rfl⟩,.inr ⟨_,rfl,bj⟩⟩
  rintro _ ⟨A9,c9,rfl⟩
  try simp only[Act.put,zA,zZ,zS]
  repeat ((first
   | (focus (refine OrdF.in_value (v:=?_) af.o (by decide) (by decide) ?_ (by rfl) ?_ ?_;rotate_left 2;(intro w5 hS;skip;go_simp<;>rfl);rotate_right;(focus rfl)))
   | (focus (refine OrdF.in_off af.o (by decide) (by decide) ?_ (by rfl) ?_;(focus rfl))));try simp only[Act.put,zA,zZ,zS])
  refine OrdF.in_turn OrdF.Slc rfl (fun v=>v=undef) undef rfl af.o rfl (by decide) (by decide) (by rfl) ?_ (.inr ⟨_,9,[],rfl,by kernel_rfl,by kernel_rfl,rfl⟩) (by rfl) ?_ ?_
  ·rfl
  ·rintro qs w5 _ aN ⟨M5,P5,cd,cR,au⟩;cases cd;obtain⟨A7,c7,κ0,κ1,he,rfl⟩:=cR;cases he
   rcases au with ⟨rfl,aB⟩ | ⟨n5,rfl,aB⟩
   ·have r0:w5.cell? ⟨u,o,none⟩=some (.slice A l.length c):=by rw[aB.rule (i+2) oa o,wZ]
    have f0:=aB.thaw (i+2) oa o lH;go_simp;have aq:=aB.put (i+2) oa (j:=o) lH (.slice A9 (l.length+1) c9);simp only[zS,zZ] at aq;exact⟨rfl,aq.get 1 rfl,_,_,rfl,⟨A9,c9,_,_,rfl,rfl⟩,.inl ⟨rfl,aq⟩⟩
   ·have r0:w5.cell? ⟨u,o,none⟩=some (.slice A l.length c):=by rw[aB.rule (i+3) oa o,wZ]
    have f0:=aB.thaw (i+3) oa o lH;go_simp;have aq:=aB.put (i+3) oa (j:=o) lH (.slice A9 (l.length+1) c9);simp only[zS,zZ] at aq;exact⟨rfl,aq.get 2 rfl,_,_,rfl,⟨A9,c9,_,_,rfl,rfl⟩,.inr ⟨_,rfl,aq⟩⟩
  rintro _ rfl
  try simp only[Act.put,zA,zZ,zS]
  refine OrdF.in_nil rfl (by decide) (by decide) ?_;rintro w5 aN ⟨M5,P5,cd,cR,au⟩;cases cd;obtain⟨A7,c7,κ0,κ1,he,rfl⟩:=cR;cases he;have aB:Env w0 (fK (.slice A9 (l.length+1) c9) 98 (l++[(x,y,z)])::ae B [zI x,zI y,zI z]::M.set i (ae u (fy.set o (.slice A9 (l.length+1) c9)))) w5:=by
   rcases au with ⟨_,h⟩ | ⟨n5,_,h⟩
   ·exact h
   ·exact h.sub (.cons _ (List.Sublist.refl _))
  clear au af aN;replace aB:=aB.sub (L':=fK (.slice A9 (l.length+1) c9) 98 (l++[(x,y,z)])::M.set i (ae u (fy.set o (.slice A9 (l.length+1) c9)))) (.cons_cons _ (.cons _ (List.Sublist.refl _)));have DR:(M.set i (ae u (fy.set o (.slice A9 (l.length+1) c9))))[i]?=some (ae u (fy.set o (.slice A9 (l.length+1) c9))):=by simp[nG]
  have DS:∀ zN w',Env w0 (fK (.slice A9 (l.length+1) c9) 98 (l++[(x,y,z)])::M.set i (ae u zN)) w'->Env w0 ((M.set i (ae u zN)).set (i+1) (fx A9 c9 (l++[(x,y,z)]))) w':=fun zN w' h=>by
   have:=h.into (i+1);unfold fx;rw[nO.out];exact this
  have xd:=zH DS;clear DS;have gJ:∀ w',Env w0 (fK (.slice A9 (l.length+1) c9) 98 (l++[(x,y,z)])::M.set i (ae u (fy.set o (.slice A9 (l.length+1) c9)))) w'->ao 0 w' u (fy.set o (.slice A9 (l.length+1) c9)):=fun w' h=>h.get (i+1) DR;have ma:=zH gJ;clear gJ;have iP:(fy.set o (.slice A9 (l.length+1) c9))[o]?=some (.slice A9 (l.length+1) c9):=by rw[List.getElem?_set_self lH]
  have fT:(fy.set o (.slice A9 (l.length+1) c9))[o+1]?=some (zI N1):=by rw[List.getElem?_set_ne (by omega),DO]
  have oc:Hid (∀ w',Env w0 (fK (.slice A9 (l.length+1) c9) 98 (l++[(x,y,z)])::M.set i (ae u (fy.set o (.slice A9 (l.length+1) c9)))) w'->w'.cell? ⟨u,o,none⟩=some (.slice A9 (l.length+1) c9)/\w'.cell? ⟨u,o+1,none⟩=some (zI N1)):=zH fun w' h =>
   ⟨by rw[(ma.out _ h).rule o,iP],by rw[(ma.out _ h).rule (o+1),fT]⟩
  go_wp2_with fail;refine Ord.wc [] (fun w'=>Env w0 (fK (.slice A9 (l.length+1) c9) 98 (l++[(x,y,z)])::M.set i (ae u (fy.set o (.slice A9 (l.length+1) c9)))) w') (fun _ _=>True) aB.drew trivial fun af=>?_
  repeat ((first
   | (refine Ord.cv ?_ af.o ?_ ?_;rotate_left;(intro w5 hS;obtain⟨r0,r1⟩:=oc.out _ hS;go_simp<;>rfl))
   | (refine Ord.co af.o ?_));try simp only[Act.put,zA,zZ,zS])
  refine Ord.InText.nil fun w5 hS=>?_;clear af;obtain⟨aq,S4⟩:=Ord.chain_end hS;clear hS;clear aB;obtain⟨r0,r1⟩:=oc.out _ aq;have f1:=(ma.out _ aq).thaw (o+1) (by simpa using DQ)
  by_cases rN:N1 < ((l.length+1:Nat):Int)
  ·have hd:decide (N1 < (l.length:Int)+1)=true:=by simp;omega
   have gd:wrap64 (2 * N1)=2 * N1:=df _ (by omega);go_wp2_with fail
   go_end0
   refine⟨rfl,A9,c9,?_⟩;have aO:=aq.put (i+1) DR (j:=o+1) (by simpa using DQ) (zI (2 * N1));simp only[zS,zZ,List.set_set] at aO;rw[show gN N1 (l.length+1)=2 * N1 by unfold gN;rw[if_pos rN]];have h9:=xd.out _ _ aO;rw[DP.out,JU.out] at h9;exact h9
  ·have hd:decide (N1 < (l.length:Int)+1)=false:=by simp;omega
   go_wp2_with fail
   go_end0
   refine⟨rfl,A9,c9,?_⟩;rw[show gN N1 (l.length+1)=N1 by unfold gN;rw[if_neg (by omega)]];have h9:=xd.out _ _ aq;rw[DP.out,JV.out] at h9;exact h9
end
end Go.Proofs.YtleklonmmlfijaaGreatDoor
