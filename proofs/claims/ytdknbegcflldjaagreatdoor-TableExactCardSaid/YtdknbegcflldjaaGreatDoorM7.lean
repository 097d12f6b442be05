/- What is proved on the way to the statement, part 7: contracts of the functions, among other things in memory. -/
import Derived.Test.YtdknbegcflldjaaGreatDoorM6
import Derived.Deep.Light
import Derived.Deep.AppendLies
import Derived.OneCell
import Derived.LoopIn

open _root_.Go.Proofs.Tryz
set_option maxRecDepth 100000
set_option maxHeartbeats 25600000
namespace Go.Proofs.YtdknbegcflldjaaGreatDoor
section
open Go.RowKit Go.Maps
def gvv (c:Nat) (nx:Value × Value) (h n:Int):List Value:=[.pointer (some ⟨c,0,none⟩),nx.1,nx.2,.int .u64 h,.int .i64 0,.bool false,.int .i64 n]
def fnG (pc:Nat):Nat:=if pc=0 then 117 else if pc=1 then 195 else if pc=2 then 230 else 265
def nxG (a pc:Nat):Value × Value:=(mvL (fnG pc) a,.int .i64 0)
theorem enters_fnG (pc:Nat) (ar:Array Value) (v:World):(callFunc (fnG pc) ar).run prog v=.ok (.enter (fnG pc) ar) v:=by
 unfold fnG
 repeat' split
 all_goals kernel_rfl
def gdS:List Trip->Int
 | []=>1
 | _=>0
def poolG (x l:Int):Int:=if l<=verI x then 4 else 0
section
variable {w0 w:World} {R:List Item} {a:Nat} {S:ST} {nx:Value × Value} {h n:Int}
theorem step_g (pc:Nat) (u:Value) (Q:Ending->World->Prop) (hE:Env w0 (boxI a (gvv S.c nx h n)::LT S R) w) (hnx:nx=nxG a pc)
  (hc:Calls prog (fnG pc) #[.pointer (some ⟨a,0,none⟩),u] w fun e w'=>∃ s,e=.returned (.int .i64 s)/\Q (.returned (.int .i64 s)) w') :
  Calls prog 58 #[.pointer (some ⟨a,0,none⟩),u] w Q:=by
 have hn:w.cell? ⟨a,1,none⟩=some (.func (.func (fnG pc)) #[.pointer (some ⟨a,0,none⟩)] #[]):=by
  have:=hE.rule 0 rfl 1;rw [this,show (gvv S.c nx h n)[1]?=some nx.1 from rfl,hnx];rfl
 have hs0:w.cell? ⟨a,1+1,none⟩=some (.int .i64 0):=by
  have:=hE.rule 0 rfl 2;rw [this,show (gvv S.c nx h n)[2]?=some nx.2 from rfl,hnx];rfl
 have hst:=stepMv_r (o:=1) (fnG pc) (enters_fnG pc) (.pointer (some ⟨a,0,none⟩)) u (fun o w'=>∃ s,o=.returned (.int .i64 s)/\Q (.returned (.int .i64 s)) w') hn hs0 (hc.mono fun e w' ⟨s,he,hq⟩=>⟨s,he,s,rfl,hq⟩);have HST:=zH hst;clear hst hc;go_enter func58,ntmps58;go_wp2_with fail;refine HST.out.mono ?_;rintro o w1 ⟨s,rfl,hQ⟩;go_wp2_with fail;exact hQ
theorem step_gy {st:Int} {Y:World->Prop} (pc:Nat) (u:Value) (hE:Env w0 (boxI a (gvv S.c nx h n)::LT S R) w) (hnx:nx=nxG a pc)
  (hc:Calls prog (fnG pc) #[.pointer (some ⟨a,0,none⟩),u] w fun o w'=>o=.returned (.int .i64 st)/\Y w') :
  Calls prog 58 #[.pointer (some ⟨a,0,none⟩),u] w fun o w'=>o=.returned (.int .i64 st)/\Y w' :=
 step_g pc u _ hE hnx (hc.mono fun _ _ h=>⟨st,h.1,rfl,h.2⟩)
theorem new_g {L:List Item} {c:Nat} (hE:Env w0 L w) :
  Calls prog 66 #[.pointer (some ⟨c,0,none⟩)] w fun o w'=>∃ a,o=.returned (.pointer (some ⟨a,0,none⟩))/\Env w0 (boxI a (gvv c (nxG a 0) 0 0)::L) w':=by
 have hmf:=makeF;have hE1:=hE.box w.heap.size rfl (gvv c (.nilFunc,.int .i64 0) 0 0) 194;have hgo:=goOn_m (fn:=.func 117) (fs:=#[.pointer (some ⟨w.heap.size,0,none⟩)]) (cs:=#[]) 0 (by simp [gvv]) rfl hE1 rfl;have HGO:=zH hgo;clear hE hE1 hgo;go_enter func66,ntmps66;go_wp2_with fail;refine HGO.out.mono ?_;rintro o w1 ⟨rfl,hE2⟩;go_wp2_with fail;go_ret;exact ⟨_,rfl,hE2⟩
theorem decide_g (hz:Hid (nx.2=.int .i64 0)) (hE:Env w0 (boxI a (gvv S.c nx h n)::LT S R) w) :
  Calls prog 157 #[.pointer (some ⟨a,0,none⟩)] w fun o w'=>o=.returned (.int .i64 (gdS S.ql))/\∃ nx,(S.ql≠[]->nx=nxG a 1)/\Env w0 (boxI a (gvv S.c nx h n)::LT S R) w':=by
 have hmf:=makeF;have r:=hE.rule 0 rfl;unfold gvv at r;go_enter func157,ntmps157;go_wp2_with fail;refine (queue_c (hE.get 1 rfl)).mono ?_;rintro o w1 ⟨rfl,rfl⟩;go_wp2_with fail;have hQ:=hE.queue 2 rfl
 rcases hq:S.ql with _ | ⟨x,t⟩
 ·rw [hq] at hQ;refine (len_any hQ).mono ?_;rintro o w2 ⟨rfl,hb⟩;replace hE:=hE.over hb;clear hb r hQ;have r:=hE.rule 0 rfl;unfold gvv at r;simp only [List.length_nil,Int.natCast_zero];go_wp2_with fail;refine (end_m 0 1 (by simp [gvv]) hE rfl).mono ?_;rintro o w3 ⟨rfl,nx',hE3⟩;go_wp2_with fail;go_ret;rw [hq];exact ⟨rfl,nx',fun h=>absurd rfl h,hE3⟩
 ·rw [hq] at hQ;refine (len_any hQ).mono ?_;rintro o w2 ⟨rfl,hb⟩;replace hE:=hE.over hb;clear hb r hQ;have r:=hE.rule 0 rfl;unfold gvv at r;have hl:(((x::t).length:Int)==0)=false:=by simp; omega
  have HQ:=zH hq;clear hq;generalize (((x::t).length:Nat):Int)=len at *;go_wp2_with fail;refine (goOn_m 0 _ _ _ (by simp [gvv]) (by exact congrArg some hz.out) hE rfl).mono ?_;rintro o w3 ⟨rfl,hE3⟩;go_wp2_with fail;go_ret;rw [HQ.out];exact ⟨rfl,nxG a 1,fun _=>rfl,hE3⟩
theorem first_g (x y:Int) (t:List Trip) (hql:S.ql=(x,y,0)::t) (hb:Blk 0 w a (gvv S.c nx h n)) (hc:Blk 0 w S.c (crv S.ck S.cs S.cb S.ch S.cl S.ce S.cr S.hs 0 S.q)) (hQ:IsQ w S.q S.F S.ql S.kq) :
  Calls prog 263 #[.pointer (some ⟨a,0,none⟩)] w fun o w'=>o=.returned (.agg #[.int .i64 x,.int .i64 0])/\Below w.heap.size w w':=by
 have hE:=(Env.start w).box w.heap.size rfl [.int .i64 0,.int .i64 0] 136;have hb1:=hb.under hE.below;have hc1:=hc.under hE.below;have hQ1:=hQ.below hE.below;rw [hql] at hQ1;have r:=hb1.rule;unfold gvv at r;clear hb hc hQ;go_enter func263,ntmps263;go_wp2_with fail;refine (queue_c hc1).mono ?_;rintro o w1 ⟨rfl,rfl⟩;go_wp2_with fail;refine (head_any x y 0 hQ1).mono ?_;rintro o w2 ⟨rfl,hb2⟩;have hE2:=(hE.over hb2).box w2.heap.size rfl [.int .i64 x,.int .i64 y,.int .i64 0] 158;clear r hb1 hc1 hQ1 hE hb2;simp only [tv];have r0:=hE2.rule 0 rfl;have r1:=hE2.rule 1 rfl;have f0:=hE2.thaw 1 rfl 0 (by simp);have f1:=hE2.thaw 1 rfl 1 (by simp);have hP:=(hE2.put 1 rfl (j:=0) (by simp) (.int .i64 x)).put 1 rfl (j:=1) (by simp) (.int .i64 0);have q:=hP.rule 1 rfl;clear hE2;go_wp2_with fail;exact bodyPost_ret (v:=.agg #[.int .i64 x,.int .i64 0]) (by simp [results,results263,go_sem,q]) rfl ⟨rfl,hP.below⟩
theorem check_g (x:Int) (hfx:S.f (1,0,0)=x) (hz:Hid (nx.2=.int .i64 0)) (hE:Env w0 (boxI a (gvv S.c nx h n)::LT S R) w) :
  Calls prog 117 #[.pointer (some ⟨a,0,none⟩),.iface 26 (.pointer (some ⟨S.p,0,none⟩))] w fun o w'=>o=.returned (.int .i64 (gdS S.ql))/\∃ nx,(S.ql≠[]->nx=nxG a 1)/\Env w0 (boxI a (gvv S.c nx h n)::LT { S with ce:=epI x,qc:={ S.qc with l:=wrap64 (S.qc.l+1) } } R) w':=by
 have r:=hE.rule 0 rfl;unfold gvv at r;go_enter func117,ntmps117;go_wp2_with fail;refine (check_w x hfx 1 3 4 (by decide) (by decide) hE rfl rfl rfl).mono ?_;rintro o w1 ⟨rfl,hE1⟩;go_wp2_with fail;refine (decide_g (S:={ S with ce:=epI x,qc:={ S.qc with l:=wrap64 (S.qc.l+1) } }) hz hE1).mono ?_;rintro o w2 ⟨rfl,nx',hnx,hE2⟩;go_wp2_with fail;go_ret;exact ⟨rfl,nx',hnx,hE2⟩
theorem loadPool_g (x:Int) (hfx:S.f (2,0,0)=x) (hg:Glo w0) (hz:Hid (nx.2=.int .i64 0)) (hE:Env w0 (boxI a (gvv S.c nx h n)::LT S R) w) :
  Calls prog 195 #[.pointer (some ⟨a,0,none⟩),.iface 26 (.pointer (some ⟨S.p,0,none⟩))] w fun o w'=>o=.returned (.int .i64 (poolG x S.cl))/\∃ nx,(poolG x S.cl=0->nx=nxG a 2)/\Env w0 (boxI a (gvv S.c nx x n)::LT { S with qc:={ S.qc with l:=wrap64 (S.qc.l+1) } } R) w':=by
 have hmf:=makeF;have hah:=ahead_load;have hxu:InU x:=by rw [<- hfx]; exact (hE.cell 4 rfl).words.1 _
 have HX:=zH hfx;have HXU:=zH hxu;clear hfx hxu;go_enter func195,ntmps195;go_wp2_with fail;refine Ord.wc [7,10] (fun _=>True) (fun k w'=>Env w0 (pick3 (boxI a (gvv S.c nx h n)::LT S R) (boxI a (gvv S.c nx h n)::LT { S with qc:={ S.qc with l:=wrap64 (S.qc.l+1) } } R) (boxI a (gvv S.c nx x n)::LT { S with qc:={ S.qc with l:=wrap64 (S.qc.l+1) } } R) k) w') trivial hE.drew fun hT9=>?_
 repeat ((first
  | (refine Ord.cv ?_ hT9.o ?_ ?_; rotate_left; (intro w5 hS; skip; go_simp<;>rfl))
  | (refine Ord.co hT9.o ?_)
  | (refine Ord.cc ?_ ?_ ?_ hT9.o ?_ ?_ ?_; rotate_left 3; (intro w5 hS; skip; go_simp; constructor<;>rfl); (intro w5 hS; (first | (with_reducible refine kp (pool_any _) ?_ ?_; rfl; exact fun w6 hb6=>⟨trivial,fun k h=>h.over hb6⟩) | (with_reducible refine kp (shared_any _ _ _ _) ?_ ?_; rfl; exact fun w6 hb6=>⟨trivial,fun k h=>h.over hb6⟩)))));try simp only [Act.put,zA,zZ,zS])
 refine Ord.ch_turn (v:=.agg #[.int .u64 x,.int .i64 0,.bool false]) 0 hT9.o rfl (by decide) (Or.inl rfl) (by rfl) ?_ ?_
 ·rintro w5 hC5 hA5;replace hA5:Env w0 (boxI a (gvv S.c nx h n)::LT S R) w5:=hA5;go_simp;rw [method_load];simp only [Result.andThen_ok];go_simp;simp only [Ord.LandsIn];have hl:=load_w 2 0 0 0 (by unfold Wf In64; simp) 3 4 (by decide) hA5 rfl rfl;rw [HX.out] at hl;refine hl.mono ?_;rintro e w6 ⟨rfl,hE6⟩;exact ⟨rfl,hE6⟩
 try simp only [Act.put,zA,zZ,zS]
 repeat ((first
  | (refine Ord.cv ?_ hT9.o ?_ ?_; rotate_left; (intro w5 hS; skip; go_simp<;>rfl))
  | (refine Ord.co hT9.o ?_));try simp only [Act.put,zA,zZ,zS])
 refine Ord.ch_turn (v:=undef) 1 hT9.o rfl (by decide) (Or.inr ⟨_,rfl,by kernel_rfl⟩) (by rfl) ?_ ?_
 ·rintro w5 hC5 hA5;replace hA5:Env w0 (boxI a (gvv S.c nx h n)::LT { S with qc:={ S.qc with l:=wrap64 (S.qc.l+1) } } R) w5:=hA5;have r:=hA5.rule 0 rfl;unfold gvv at r;have f6:=hA5.thaw 0 rfl 3 (by simp [gvv]);have f7:=hA5.thaw 0 rfl 4 (by simp [gvv]);have f8:=hA5.thaw 0 rfl 5 (by simp [gvv]);go_simp;have h9:=((hA5.put 0 rfl (j:=3) (by simp [gvv]) (.int .u64 x)).put 0 rfl (j:=4) (by simp [gvv]) (.int .i64 0)).put 0 rfl (j:=5) (by simp [gvv]) (.bool false);exact ⟨rfl,h9⟩
 try simp only [Act.put,zA,zZ,zS]
 repeat ((first
  | (refine Ord.cv ?_ hT9.o ?_ ?_; rotate_left; (intro w5 hS; skip; go_simp<;>rfl))
  | (refine Ord.co hT9.o ?_));try simp only [Act.put,zA,zZ,zS])
 refine Ord.InText.nil fun w5 hS=>?_;clear hT9;obtain ⟨hC9,hA9⟩:=Ord.chain_end hS;clear hS;replace hA9:Env w0 (boxI a (gvv S.c nx x n)::LT { S with qc:={ S.qc with l:=wrap64 (S.qc.l+1) } } R) w5:=hA9;have HIL:Hid (∀ v,Env w0 (boxI a (gvv S.c nx x n)::LT { S with qc:={ S.qc with l:=wrap64 (S.qc.l+1) } } R) v->Calls prog 229 #[.pointer (some ⟨a,0,none⟩),.agg #[.int .u64 x,.int .i64 0,.bool false]] v fun o w'=>o=.returned (.bool (decide (S.cl<=verI x)))/\Below v.heap.size v w'):=zH fun v hv=>isLast_m (S:={ S with qc:={ S.qc with l:=wrap64 (S.qc.l+1) } }) x 0 false HXU.out hg rfl hv;obtain ⟨b,hb⟩:∃ b,decide (S.cl<=verI x)=b:=⟨_,rfl⟩;rw [hb] at HIL;have HB:=zH hb;clear hb;go_wp2_with fail;refine wp_text (S:=(Env w0 (boxI a (gvv S.c nx x n)::LT { S with qc:={ S.qc with l:=wrap64 (S.qc.l+1) } } R))) (by kernel_rfl) (by kernel_rfl) hA9.drew (fun hT=>?_);have hT9:=zH hT;clear hT
 repeat ((first
  | (refine text_value (v:=?_) hT9.o (by rfl) ?_ ?_; rotate_left; (intro w5 hS; have r:=hS.rule 0 rfl; unfold gvv at r; go_simp<;>rfl))
  | (refine text_off hT9.o (by rfl) ?_)
  | (refine text_call (v:=?_) (f:=?_) (args:=?_) hT9.o (by rfl) ?_ ?_ ?_; rotate_left 3; (intro w5 hS; have r:=hS.rule 0 rfl; unfold gvv at r; go_simp; constructor<;>rfl); (intro w5 hS; (first | (with_reducible refine kp (HIL.out _ hS) ?_ ?_; rfl; exact fun w6 hb6=>hS.over hb6)))));try simp only [Act.put,zA,zZ,zS])
 refine InText.nil fun w5 hS5=>?_;clear hT9;clear hA9 HIL;cases b
 ·have hv:¬ S.cl<=verI x:=by simpa using HB.out
  have HP:=zH (show poolG x S.cl=0 from if_neg hv);clear hv;go_wp2_with fail;refine (goOn_m 0 _ _ _ (by simp [gvv]) (by exact congrArg some hz.out) hS5 rfl).mono ?_;rintro o w7 ⟨rfl,hE7⟩;go_wp2_with fail;go_ret;rw [HP.out];exact ⟨rfl,_,fun _=>rfl,hE7⟩
 ·have hv:S.cl<=verI x:=by simpa using HB.out
  have HP:=zH (show poolG x S.cl=4 from if_pos hv);clear hv;go_wp2_with fail;refine (end_m 0 4 (by simp [gvv]) hS5 rfl).mono ?_;rintro o w7 ⟨rfl,nx,hE7⟩;go_wp2_with fail;go_ret;rw [HP.out];exact ⟨rfl,nx,fun h=>absurd h (by decide),hE7⟩
theorem storeChain_g (x y:Int) (t:List Trip) (hql:S.ql=(x,y,0)::t) (hx:In64 x) (hh:InU h) (hg:Glo w0) (hm:S.m < maxLen) (hz:Hid (nx.2=.int .i64 0)) (hE:Env w0 (boxI a (gvv S.c nx h n)::LT S R) w) :
  Calls prog 230 #[.pointer (some ⟨a,0,none⟩),.iface 26 (.pointer (some ⟨S.p,0,none⟩))] w fun o w'=>o=.returned (.int .i64 0)/\∃ G5,Env w0 (boxI a (gvv S.c (nxG a 3) h n)::LT { S with G:=G5,f:=upd S.f (5,x,2) (wordI false (slotI h) 0),qc:={ S.qc with s:=wrap64 (S.qc.s+1) },m:=S.m+1 } R) w':=by
 have hmf:=makeF;have hah:=ahead_store;have HWF:Hid (Wf (5,x,2)):=zH (by unfold Wf; exact ⟨by unfold In64; simp,hx,by unfold In64; simp⟩);have hto:=fun (v:World) (hv:Below w0.heap.size w0 v)=>to_any (slotI h) 0 v (hg.keep' hv);have hle:=fun (v:World) (hv:Below w0.heap.size w0 v)=>lead_c h 0 false v hh (hg.keep' hv);have hwi:InU (wordI false (slotI h) 0):=by
  have:=slotI_in h;unfold wordI InU
  split
  ·simp only [bitI,Bool.false_eq_true,if_false]; omega
  ·omega
 obtain ⟨y9,hy⟩:∃ y,wordI false (slotI h) 0=y:=⟨_,rfl⟩;rw [hy] at hwi ⊢;simp only [hy] at hto;have HWI:=zH hwi;have HTO:=zH hto;have HLE:=zH hle;have HQL:=zH hql;clear hy hwi hto hle hx hh hql;have r:=hE.rule 0 rfl;unfold gvv at r;go_enter func230,ntmps230;go_wp2_with fail;refine (HLE.out _ hE.below).mono ?_;rintro o w1 ⟨rfl,hb⟩;have hE1:=((hE.over hb).box w1.heap.size rfl [.int .i64 (slotI h),.int .i64 0] 136).perm (L':=boxI a (gvv S.c nx h n)::LT S (boxI w1.heap.size [.int .i64 (slotI h),.int .i64 0]::R)) (List.perm_middle (l₁:=[boxI a (gvv S.c nx h n),_,_,_,_])).symm;clear r hb hE HLE;go_wp2_with fail;generalize w1.alloc _=w2 at *;generalize w1.heap.size=Y at *;generalize slotI h=sl at *;refine Ord.wc [13] (fun v=>Blk 0 v a (gvv S.c nx h n)/\Blk 0 v S.c (crv S.ck S.cs S.cb S.ch S.cl S.ce S.cr S.hs 0 S.q)/\IsQ v S.q S.F S.ql S.kq/\Blk 0 v Y [.int .i64 sl,.int .i64 0]/\Below w0.heap.size w0 v) (fun k w'=>∃ G5,Env w0 (boxI a (gvv S.c nx h n)::LT (if k=0 then S else { S with G:=G5,f:=upd S.f (5,x,2) y9,qc:={ S.qc with s:=wrap64 (S.qc.s+1) },m:=S.m+1 }) (boxI Y [.int .i64 sl,.int .i64 0]::R)) w') ⟨hE1.drew.get 0 rfl,hE1.drew.get 1 rfl,hE1.drew.get 2 rfl,hE1.drew.get 5 rfl,hE1.drew.below⟩ ⟨S.G,hE1.drew⟩ fun hT9=>?_
 repeat ((first
  | (refine Ord.cv ?_ hT9.o ?_ ?_; rotate_left; (intro w5 hS; have r:=hS.1.rule; have r1:=hS.2.2.2.1.rule; unfold gvv at r; go_simp<;>rfl))
  | (refine Ord.co hT9.o ?_)
  | (refine Ord.cc ?_ ?_ ?_ hT9.o ?_ ?_ ?_; rotate_left 3; (intro w5 hS; have r:=hS.1.rule; have r1:=hS.2.2.2.1.rule; unfold gvv at r; go_simp; constructor<;>rfl); (intro w5 hS; (first | (with_reducible refine kp (first_g x y t HQL.out hS.1 hS.2.1 hS.2.2.1) ?_ ?_; rfl; exact fun w6 hb6=>⟨⟨hS.1.under hb6,hS.2.1.under hb6,hS.2.2.1.below hb6,hS.2.2.2.1.under hb6,hS.2.2.2.2.trans (hb6.mono hS.2.2.2.2.size)⟩,fun k h=>h.elim fun G5 h=>⟨G5,h.over hb6⟩⟩) | (with_reducible refine kp (part_any _ _ _ _) ?_ ?_; rfl; exact fun w6 hb6=>⟨⟨hS.1.under hb6,hS.2.1.under hb6,hS.2.2.1.below hb6,hS.2.2.2.1.under hb6,hS.2.2.2.2.trans (hb6.mono hS.2.2.2.2.size)⟩,fun k h=>h.elim fun G5 h=>⟨G5,h.over hb6⟩⟩) | (with_reducible refine kp (HTO.out _ hS.2.2.2.2) ?_ ?_; rfl; exact fun w6 hb6=>⟨⟨hS.1.under hb6,hS.2.1.under hb6,hS.2.2.1.below hb6,hS.2.2.2.1.under hb6,hS.2.2.2.2.trans (hb6.mono hS.2.2.2.2.size)⟩,fun k h=>h.elim fun G5 h=>⟨G5,h.over hb6⟩⟩)))));try simp only [Act.put,zA,zZ,zS])
 refine Ord.ch_turn (v:=.tuple #[]) 0 hT9.o rfl (by decide) (Or.inl rfl) (by rfl) ?_ ?_
 ·rintro w5 hC5 ⟨G5,hA5⟩;simp only [if_true] at hA5;go_simp;rw [method_store];simp only [Result.andThen_ok];go_simp;simp only [Ord.LandsIn];refine (store_w 5 x 2 0 y9 0 false HWF.out HWI.out hm 3 4 (by decide) hA5 rfl rfl).mono ?_;rintro e w6 ⟨rfl,G6,hE6⟩;exact ⟨rfl,⟨hE6.get 0 rfl,hE6.get 1 rfl,hE6.get 2 rfl,hE6.get 5 rfl,hE6.below⟩,G6,hE6⟩
 try simp only [Act.put,zA,zZ,zS]
 repeat ((first
  | (refine Ord.cv ?_ hT9.o ?_ ?_; rotate_left; (intro w5 hS; skip; go_simp<;>rfl))
  | (refine Ord.co hT9.o ?_));try simp only [Act.put,zA,zZ,zS])
 refine Ord.InText.nil fun w5 hS=>?_;clear hT9;obtain ⟨hC9,hA9⟩:=Ord.chain_end hS;clear hS;obtain ⟨G9,hA9⟩:=hA9;simp only [List.length_cons,List.length_nil,Nat.zero_add,Nat.one_ne_zero,if_false] at hA9;clear hC9 hE1;go_wp2_with fail;refine (goOn_m 0 _ _ _ (by simp [gvv]) (by exact congrArg some hz.out) hA9 rfl).mono ?_;rintro o w7 ⟨rfl,hE7⟩;go_wp2_with fail;go_ret;exact ⟨rfl,G9,hE7.sub (.cons_cons _ (.cons_cons _ (.cons_cons _ (.cons_cons _ (.cons_cons _ (.cons _ (List.Sublist.refl _)))))))⟩
theorem putNo_g (x y:Int) (t:List Trip) (hql:S.ql=(x,y,0)::t) (hfx:S.f (2,0,0)≠h) (hh:InU h) (hg:Glo w0) (hm:S.m < maxLen) (hz:Hid (nx.2=.int .i64 0)) (hE:Env w0 (boxI a (gvv S.c nx h n)::LT S R) w) :
  Calls prog 265 #[.pointer (some ⟨a,0,none⟩),.iface 26 (.pointer (some ⟨S.p,0,none⟩))] w fun o w'=>o=.returned (.int .i64 0)/\∃ G5,Env w0 (boxI a (gvv S.c (nxG a 1) h n)::LT { S with G:=G5,f:=swf S.f (2,0,0) h (nextW h x),qc:=swq S.qc (decide (S.f (2,0,0)=h)),m:=S.m+1 } R) w':=by
 have hmf:=makeF;have hah:=ahead_swap;have HD:Hid (decide (S.f (2,0,0)=h)=false):=zH (by simpa using hfx);clear hfx;have hbh:=fun (v:World) (hv:Below w0.heap.size w0 v)=>behind_any h 0 x 0 false hh v (hg.keep' hv);have hni:=nextW_in h x hh;obtain ⟨y9,hy⟩:∃ y,nextW h x=y:=⟨_,rfl⟩;rw [hy] at hni ⊢;simp only [hy] at hbh;have HNI:=zH hni;have HBH:=zH hbh;have HQL:=zH hql;clear hy hni hbh hh hql;go_enter func265,ntmps265;go_wp2_with fail;refine Ord.wc [17] (fun v=>Blk 0 v a (gvv S.c nx h n)/\Blk 0 v S.c (crv S.ck S.cs S.cb S.ch S.cl S.ce S.cr S.hs 0 S.q)/\IsQ v S.q S.F S.ql S.kq/\Below w0.heap.size w0 v) (fun k w'=>∃ G5,Env w0 (boxI a (gvv S.c nx h n)::LT (if k=0 then S else { S with G:=G5,f:=swf S.f (2,0,0) h y9,qc:=swq S.qc (decide (S.f (2,0,0)=h)),m:=S.m+1 }) R) w') ⟨hE.drew.get 0 rfl,hE.drew.get 1 rfl,hE.drew.get 2 rfl,hE.drew.below⟩ ⟨S.G,hE.drew⟩ fun hT9=>?_
 repeat ((first
  | (refine Ord.cv ?_ hT9.o ?_ ?_; rotate_left; (intro w5 hS; have r:=hS.1.rule; unfold gvv at r; go_simp<;>rfl))
  | (refine Ord.co hT9.o ?_)
  | (refine Ord.cc ?_ ?_ ?_ hT9.o ?_ ?_ ?_; rotate_left 3; (intro w5 hS; have r:=hS.1.rule; unfold gvv at r; go_simp; constructor<;>rfl); (intro w5 hS; (first | (with_reducible refine kp (pool_any _) ?_ ?_; rfl; exact fun w6 hb6=>⟨⟨hS.1.under hb6,hS.2.1.under hb6,hS.2.2.1.below hb6,hS.2.2.2.trans (hb6.mono hS.2.2.2.size)⟩,fun k h=>h.elim fun G5 h=>⟨G5,h.over hb6⟩⟩) | (with_reducible refine kp (shared_any _ _ _ _) ?_ ?_; rfl; exact fun w6 hb6=>⟨⟨hS.1.under hb6,hS.2.1.under hb6,hS.2.2.1.below hb6,hS.2.2.2.trans (hb6.mono hS.2.2.2.size)⟩,fun k h=>h.elim fun G5 h=>⟨G5,h.over hb6⟩⟩) | (with_reducible refine kp (first_g x y t HQL.out hS.1 hS.2.1 hS.2.2.1) ?_ ?_; rfl; exact fun w6 hb6=>⟨⟨hS.1.under hb6,hS.2.1.under hb6,hS.2.2.1.below hb6,hS.2.2.2.trans (hb6.mono hS.2.2.2.size)⟩,fun k h=>h.elim fun G5 h=>⟨G5,h.over hb6⟩⟩) | (with_reducible refine kp (HBH.out _ hS.2.2.2) ?_ ?_; rfl; exact fun w6 hb6=>⟨⟨hS.1.under hb6,hS.2.1.under hb6,hS.2.2.1.below hb6,hS.2.2.2.trans (hb6.mono hS.2.2.2.size)⟩,fun k h=>h.elim fun G5 h=>⟨G5,h.over hb6⟩⟩)))));try simp only [Act.put,zA,zZ,zS])
 refine Ord.ch_turn (v:=.bool false) 0 hT9.o rfl (by decide) (Or.inl rfl) (by rfl) ?_ ?_
 ·rintro w5 hC5 ⟨G5,hA5⟩;simp only [if_true] at hA5;go_simp;rw [method_swap];simp only [Result.andThen_ok];go_simp;simp only [Ord.LandsIn];have hsw:=swap_w 2 0 0 0 h 0 y9 0 false false (by unfold Wf In64; simp) HNI.out hm 3 4 (by decide) hA5 rfl rfl;rw [HD.out] at hsw;refine hsw.mono ?_;rintro e w6 ⟨rfl,G6,hE6⟩;rw [HD.out];exact ⟨rfl,⟨hE6.get 0 rfl,hE6.get 1 rfl,hE6.get 2 rfl,hE6.below⟩,G6,hE6⟩
 try simp only [Act.put,zA,zZ,zS]
 repeat ((first
  | (refine Ord.cv ?_ hT9.o ?_ ?_; rotate_left; (intro w5 hS; skip; go_simp<;>rfl))
  | (refine Ord.co hT9.o ?_));try simp only [Act.put,zA,zZ,zS])
 refine Ord.InText.nil fun w5 hS=>?_;clear hT9;obtain ⟨hC9,hA9⟩:=Ord.chain_end hS;clear hS;obtain ⟨G9,hA9⟩:=hA9;clear hC9 hE;simp only [List.length_cons,List.length_nil,Nat.zero_add,Nat.one_ne_zero,if_false] at hA9;have r:=hA9.rule 0 rfl;unfold gvv at r;go_wp2_with fail;refine (goOn_m 0 _ _ _ (by simp [gvv]) (by exact congrArg some hz.out) hA9 rfl).mono ?_;rintro o w7 ⟨rfl,hE7⟩;go_wp2_with fail;go_ret;exact ⟨rfl,G9,hE7⟩
theorem putYes_g (x y:Int) (t:List Trip) (hql:S.ql=(x,y,0)::t) (hfx:S.f (2,0,0)=h) (hh:InU h) (hg:Glo w0) (hm:S.m < maxLen) (hz:Hid (nx.2=.int .i64 0)) (hE:Env w0 (boxI a (gvv S.c nx h n)::LT S R) w) :
  Calls prog 265 #[.pointer (some ⟨a,0,none⟩),.iface 26 (.pointer (some ⟨S.p,0,none⟩))] w fun o w'=>o=.returned (.int .i64 (gdS t))/\∃ nx G5,(t≠[]->nx=nxG a 1)/\Env w0 (boxI a (gvv S.c nx h (wrap64 (n+1)))::LT { S with G:=G5,f:=swf S.f (2,0,0) h (nextW h x),qc:=swq S.qc (decide (S.f (2,0,0)=h)),m:=S.m+1,ql:=t } R) w':=by
 have hmf:=makeF;have hah:=ahead_swap;have HD:Hid (decide (S.f (2,0,0)=h)=true):=zH (by rw [hfx]; simp);clear hfx;have hbh:=fun (v:World) (hv:Below w0.heap.size w0 v)=>behind_any h 0 x 0 false hh v (hg.keep' hv);have hni:=nextW_in h x hh;obtain ⟨y9,hy⟩:∃ y,nextW h x=y:=⟨_,rfl⟩;rw [hy] at hni ⊢;simp only [hy] at hbh;have HNI:=zH hni;have HBH:=zH hbh;have HQL:=zH hql;clear hy hni hbh hh hql;go_enter func265,ntmps265;go_wp2_with fail;refine Ord.wc [17] (fun v=>Blk 0 v a (gvv S.c nx h n)/\Blk 0 v S.c (crv S.ck S.cs S.cb S.ch S.cl S.ce S.cr S.hs 0 S.q)/\IsQ v S.q S.F S.ql S.kq/\Below w0.heap.size w0 v) (fun k w'=>∃ G5,Env w0 (boxI a (gvv S.c nx h n)::LT (if k=0 then S else { S with G:=G5,f:=swf S.f (2,0,0) h y9,qc:=swq S.qc (decide (S.f (2,0,0)=h)),m:=S.m+1 }) R) w') ⟨hE.drew.get 0 rfl,hE.drew.get 1 rfl,hE.drew.get 2 rfl,hE.drew.below⟩ ⟨S.G,hE.drew⟩ fun hT9=>?_
 repeat ((first
  | (refine Ord.cv ?_ hT9.o ?_ ?_; rotate_left; (intro w5 hS; have r:=hS.1.rule; unfold gvv at r; go_simp<;>rfl))
  | (refine Ord.co hT9.o ?_)
  | (refine Ord.cc ?_ ?_ ?_ hT9.o ?_ ?_ ?_; rotate_left 3; (intro w5 hS; have r:=hS.1.rule; unfold gvv at r; go_simp; constructor<;>rfl); (intro w5 hS; (first | (with_reducible refine kp (pool_any _) ?_ ?_; rfl; exact fun w6 hb6=>⟨⟨hS.1.under hb6,hS.2.1.under hb6,hS.2.2.1.below hb6,hS.2.2.2.trans (hb6.mono hS.2.2.2.size)⟩,fun k h=>h.elim fun G5 h=>⟨G5,h.over hb6⟩⟩) | (with_reducible refine kp (shared_any _ _ _ _) ?_ ?_; rfl; exact fun w6 hb6=>⟨⟨hS.1.under hb6,hS.2.1.under hb6,hS.2.2.1.below hb6,hS.2.2.2.trans (hb6.mono hS.2.2.2.size)⟩,fun k h=>h.elim fun G5 h=>⟨G5,h.over hb6⟩⟩) | (with_reducible refine kp (first_g x y t HQL.out hS.1 hS.2.1 hS.2.2.1) ?_ ?_; rfl; exact fun w6 hb6=>⟨⟨hS.1.under hb6,hS.2.1.under hb6,hS.2.2.1.below hb6,hS.2.2.2.trans (hb6.mono hS.2.2.2.size)⟩,fun k h=>h.elim fun G5 h=>⟨G5,h.over hb6⟩⟩) | (with_reducible refine kp (HBH.out _ hS.2.2.2) ?_ ?_; rfl; exact fun w6 hb6=>⟨⟨hS.1.under hb6,hS.2.1.under hb6,hS.2.2.1.below hb6,hS.2.2.2.trans (hb6.mono hS.2.2.2.size)⟩,fun k h=>h.elim fun G5 h=>⟨G5,h.over hb6⟩⟩)))));try simp only [Act.put,zA,zZ,zS])
 refine Ord.ch_turn (v:=.bool true) 0 hT9.o rfl (by decide) (Or.inl rfl) (by rfl) ?_ ?_
 ·rintro w5 hC5 ⟨G5,hA5⟩;simp only [if_true] at hA5;go_simp;rw [method_swap];simp only [Result.andThen_ok];go_simp;simp only [Ord.LandsIn];have hsw:=swap_w 2 0 0 0 h 0 y9 0 false false (by unfold Wf In64; simp) HNI.out hm 3 4 (by decide) hA5 rfl rfl;rw [HD.out] at hsw;refine hsw.mono ?_;rintro e w6 ⟨rfl,G6,hE6⟩;rw [HD.out];exact ⟨rfl,⟨hE6.get 0 rfl,hE6.get 1 rfl,hE6.get 2 rfl,hE6.below⟩,G6,hE6⟩
 try simp only [Act.put,zA,zZ,zS]
 repeat ((first
  | (refine Ord.cv ?_ hT9.o ?_ ?_; rotate_left; (intro w5 hS; skip; go_simp<;>rfl))
  | (refine Ord.co hT9.o ?_));try simp only [Act.put,zA,zZ,zS])
 refine Ord.InText.nil fun w5 hS=>?_;clear hT9;obtain ⟨hC9,hA9⟩:=Ord.chain_end hS;clear hS;obtain ⟨G9,hA9⟩:=hA9;clear hC9 hE;simp only [List.length_cons,List.length_nil,Nat.zero_add,Nat.one_ne_zero,if_false] at hA9;have r:=hA9.rule 0 rfl;unfold gvv at r;go_wp2_with fail;refine (queue_c (hA9.get 1 rfl)).mono ?_;rintro o w6 ⟨rfl,rfl⟩;have hQ:IsQ w6 S.q S.F S.ql S.kq:=hA9.queue 2 rfl;rw [HQL.out] at hQ;go_wp2_with fail;refine (pop_any x y 0 hQ).mono ?_;rintro o w7 ⟨rfl,hQ7,hs7⟩;have hE7:Env w0 (boxI a (gvv S.c nx h n)::LT { S with G:=G9,f:=swf S.f (2,0,0) h y9,qc:=swq S.qc (decide (S.f (2,0,0)=h)),m:=S.m+1,ql:=t } R) w7:=hA9.turnQ 2 rfl hQ7 hs7;clear hQ hQ7 hs7 hA9 r;have r:=hE7.rule 0 rfl;unfold gvv at r;have f5:=hE7.thaw 0 rfl 6 (by simp [gvv]);have hP:=hE7.put 0 rfl (j:=6) (by simp [gvv]) (.int .i64 (wrap64 (n+1)));go_wp2_with fail;refine (decide_g (S:={ S with G:=G9,f:=swf S.f (2,0,0) h y9,qc:=swq S.qc (decide (S.f (2,0,0)=h)),m:=S.m+1,ql:=t }) (nx:=nx) (h:=h) (n:=wrap64 (n+1)) hz hP).mono ?_;rintro o w8 ⟨rfl,nx',hnx,hE8⟩;go_wp2_with fail;go_ret;exact ⟨rfl,nx',G9,hnx,hE8⟩
end
theorem infoRef:(prog.info? 159).map (fun i=>(i.zero,i.size,i.bytes))=some (some (tv t0),3,24):=by kernel_rfl
def rrI (A:Option Addr) (c:Nat) (l:List Trip):Item:=row3I (.slice A l.length c) 159 l
def roomN (N:Int) (n:Nat):Int:=if N < n then 2 * N else N
theorem set_self {α:Type _} {L:List α} {m:Nat} {a:α} (h:L[m]?=some a):L.set m a=L:=by
 obtain ⟨hl,rfl⟩:=List.getElem?_eq_some_iff.1 h;exact List.set_getElem_self hl
def room0 (N:Int):Int:=if N=0 then 4 else N
def refStO (o B u i:Nat) (vs:List Value) (L:List Item) (l:List Trip) (x:Trip):List (List Value->List Item->Prop) :=
 [fun _ M=>M=boxI B (enc3 x)::L,
  fun κs M=>∃ n,κs=[.slice (some ⟨n,0,none⟩) 0 0]/\M=row3I (.slice (some ⟨n,0,none⟩) 0 0) 159 []::boxI B (enc3 x)::L,
  fun κs M=>∃ A1 c1 κ0,κs=[κ0,.slice A1 l.length c1]/\M=row3I (.slice A1 l.length c1) 159 l::boxI B (enc3 x)::L,
  fun κs M=>∃ A1 c1 κ0 κ1,κs=[κ0,κ1,.slice A1 (l.length+1) c1]/\M=row3I (.slice A1 (l.length+1) c1) 159 (l++[x])::boxI B (enc3 x)::L,
  fun κs M=>∃ A1 c1 κ0 κ1,κs=[κ0,κ1,.slice A1 (l.length+1) c1,undef]/\M=row3I (.slice A1 (l.length+1) c1) 159 (l++[x])::boxI B (enc3 x)::L.set i (boxI u (vs.set o (.slice A1 (l.length+1) c1)))]
theorem refPush_at {w0 w:World} {L:List Item} {u c:Nat} {A:Option Addr} {l:List Trip} {N:Int} {vs:List Value} (x y z:Int) (o i:Nat) (hE:Env w0 L w) (hu:L[i]?=some (boxI u vs)) (hvo:vs[o]?=some (.slice A l.length c)) (hvN:vs[o+1]?=some (.int .i64 N)) (hr:L[i+1]?=some (rrI A c l)) (hl:l.length<=1000000) (hN:0<=N/\N<=1099511627776) :
  Calls prog 151 #[.pointer (some ⟨u,o,none⟩),.agg #[.int .i64 x,.int .i64 y,.int .i64 z]] w fun e w'=>e=.returned (.tuple #[])/\∃ A' c',Env w0 ((L.set i (boxI u ((vs.set o (.slice A' (l.length+1) c')).set (o+1) (.int .i64 (roomN (room0 N) (l.length+1)))))).set (i+1) (rrI A' c' (l++[(x,y,z)]))) w':=by
 have hl1:(l++[(x,y,z)]).length=l.length+1:=by simp
 have HL1:=zH hl1;clear hl1;have hil0:i < L.length:=(List.getElem?_eq_some_iff.1 hu).1;have hol0:o < vs.length:=(List.getElem?_eq_some_iff.1 hvo).1;have hol10:o+1 < vs.length:=(List.getElem?_eq_some_iff.1 hvN).1;have hE1:=hE.box w.heap.size rfl [.int .i64 x,.int .i64 y,.int .i64 z] 159;have HE:=zH hE;clear hE;have r1:(w.alloc (.cells [.int .i64 x,.int .i64 y,.int .i64 z].toArray 159)).cell? ⟨u,o+1,none⟩=some (.int .i64 N):=by rw [hE1.rule (i+1) hu (o+1),hvN]
 have f1:=hE1.thaw (i+1) hu (o+1) hol10;have hul:=hE1.boxLt (i+1) hu;have huB:u < w.heap.size:=by
  have h0:=hE1.off (i:=i+1) (j:=0) hu rfl (by omega);have hne:u≠w.heap.size:=fun e=>h0 u rfl e;simp at hul;omega
 generalize hN1:room0 N=N1;have hN2:0<=N1/\N1<=1099511627776:=by rw [<- hN1]; unfold room0; split<;>omega
 cases hz:(N==0)
 case' false =>
  have hNN:N1=N:=by
   have hz':¬ N=0:=by simpa using hz
   rw [<- hN1]; unfold room0; rw [if_neg hz']
  have HNN:=zH hNN;have HN1:=zH hN1;clear hNN hN1;go_enter func151,ntmps151
  go_upto_region 3 with fail
  have hX:∃ vs1,vs1[o]?=some (.slice A l.length c)/\vs1[o+1]?=some (.int .i64 N1)/\(∀ X Y,(vs1.set o X).set (o+1) Y=(vs.set o X).set (o+1) Y)/\(∀ X,vs1.set o X=(vs.set o X).set (o+1) (.int .i64 N1))/\Env w0 (boxI w.heap.size [.int .i64 x,.int .i64 y,.int .i64 z]::L.set i (boxI u vs1)) (w.alloc (.cells [.int .i64 x,.int .i64 y,.int .i64 z].toArray 159)) :=
   ⟨vs,hvo,by rw [HNN.out]; exact hvN,fun _ _=>rfl,fun X=>by rw [HNN.out,set_self (m:=o+1) (by rw [List.getElem?_set_ne (by omega)]; exact hvN)],by rw [set_self hu]; exact hE1⟩
  clear HNN hz
 case' true =>
  have hNN:N1=4:=by
   have hz':N=0:=by simpa using hz
   rw [<- hN1]; unfold room0; rw [if_pos hz']
  have HNN:=zH hNN;have HN1:=zH hN1;clear hNN hN1;go_enter func151,ntmps151
  go_upto_region 3 with fail
  have hX:∃ vs1,vs1[o]?=some (.slice A l.length c)/\vs1[o+1]?=some (.int .i64 N1)/\(∀ X Y,(vs1.set o X).set (o+1) Y=(vs.set o X).set (o+1) Y)/\(∀ X,vs1.set o X=(vs.set o X).set (o+1) (.int .i64 N1))/\Env w0 (boxI w.heap.size [.int .i64 x,.int .i64 y,.int .i64 z]::L.set i (boxI u vs1)) ((w.setCell ⟨u,o+1,none⟩ (.int .i64 4)).alloc (.cells [.int .i64 x,.int .i64 y,.int .i64 z].toArray 159)):=by
   refine ⟨vs.set (o+1) (.int .i64 4),by rw [List.getElem?_set_ne (by omega)]; exact hvo,by rw [List.getElem?_set_self hol10,HNN.out],fun X Y=>by rw [List.set_comm _ _ (by omega),List.set_set,List.set_comm _ _ (by omega)],fun X=>by rw [HNN.out,List.set_comm _ _ (by omega)],?_⟩;exact (HE.out.put i hu (j:=o+1) hol10 (.int .i64 4)).box w.heap.size (by simp) _ _
  clear HNN hz
 all_goals
  clear r1 f1 hul huB hE1 HE hvN;obtain ⟨vs1,hv1o,hv1N,hfin,hsame,hE2⟩:=hX;obtain ⟨M,hMdef⟩:∃ M,M=L.set i (boxI u vs1):=⟨_,rfl⟩;rw [<- hMdef] at hE2;have hu1:M[i]?=some (boxI u vs1):=by rw [hMdef,List.getElem?_set_self hil0]
  have hr1:M[i+1]?=some (rrI A c l):=by rw [hMdef,List.getElem?_set_ne (by omega),hr]
  have HMS:Hid (∀ X,M.set i X=L.set i X):=zH fun X=>by rw [hMdef,List.set_set]
  have hil:i < M.length:=by rw [hMdef]; simpa using hil0
  have hol:o < vs1.length:=(List.getElem?_eq_some_iff.1 hv1o).1;have hol1:o+1 < vs1.length:=(List.getElem?_eq_some_iff.1 hv1N).1;have HFIN:=zH hfin;have HSAME:=zH hsame;clear hMdef hfin hsame hu hvo hr hil0 hol0 hol10;generalize w.heap.size=B at *;refine OrdF.wp_float [?_,?_,?_,?_,?_,?_,?_,?_,OrdF.Slc,?_,?_,?_,?_] [1,6,9,12] 8 (fun w'=>Blk 0 w' B [.int .i64 x,.int .i64 y,.int .i64 z])
   (OrdF.AFS w0 (flat3 [(x,y,z)]) (refStO o B u i vs1 M l (x,y,z)))
   (by kernel_rfl) (by kernel_rfl) (by kernel_rfl) (hE2.drew.get 0 rfl) ⟨_,_,rfl,rfl,.inl ⟨rfl,hE2.drew⟩⟩ (fun hT=>?_)
  rotate_left 12;have hT9:=zH hT;clear hT
  repeat ((first
   | (focus (refine OrdF.in_value (v:=?_) hT9.o (by decide) (by decide) ?_ (by rfl) ?_ ?_; rotate_left 2; (intro w5 hS; skip; go_simp<;>rfl); rotate_right; (focus rfl)))
   | (focus (refine OrdF.in_off hT9.o (by decide) (by decide) ?_ (by rfl) ?_; (focus rfl))));try simp only [Act.put,zA,zZ,zS])
  refine OrdF.in_turn OrdF.Slc rfl (fun v=>∃ n,v=.slice (some ⟨n,0,none⟩) 0 0) (.slice (some ⟨0,0,none⟩) 0 0) ⟨0,rfl⟩ hT9.o rfl (by decide) (by decide) (by rfl) ?_ (.inl rfl) (by rfl) ?_ ?_
  ·rfl
  ·rintro fo5 w5 _ hC5 ⟨M5,P5,hP5,hM5,hA5⟩;cases hP5;subst hM5;go_simp;simp only [Ord3.Lands]
   rcases hA5 with ⟨rfl,hE5⟩ | ⟨n5,rfl,hE5⟩
   ·have hE6:=hE5.addEmpty3 w5.heap.size rfl 159;exact ⟨⟨_,rfl⟩,hE6.get 1 rfl,_,_,rfl,⟨_,rfl,rfl⟩,.inl ⟨rfl,hE6⟩⟩
   ·have hE6:=(hE5.addEmpty3 w5.heap.size rfl 159).perm (.swap _ _ _);exact ⟨⟨_,rfl⟩,hE6.get 2 rfl,_,_,rfl,⟨_,rfl,rfl⟩,.inr ⟨_,rfl,hE6⟩⟩
  rintro _ ⟨n0,rfl⟩
  try simp only [Act.put,zA,zZ,zS]
  repeat ((first
   | (focus (refine OrdF.in_value (v:=?_) hT9.o (by decide) (by decide) ?_ (by rfl) ?_ ?_; rotate_left 2; (intro w5 hS; skip; go_simp<;>rfl); rotate_right; (focus rfl)))
   | (focus (refine OrdF.in_off hT9.o (by decide) (by decide) ?_ (by rfl) ?_; (focus rfl))));try simp only [Act.put,zA,zZ,zS])
  refine OrdF.in_early (v:=.slice A l.length c) 1 hT9.o (by decide) (by decide) rfl (by kernel_rfl) (by decide) ?_ (by rfl) ?_ ?_
  ·rfl
  ·rintro w5 κs5 fo5 hκ5 hC5 ⟨M5,P5,hP5,hM5,hA5⟩;have hB:Blk 0 w5 u vs1:=by
    rcases κs5 with _ | ⟨κ,_ | ⟨κ',κs5⟩⟩
    ·cases hP5;subst hM5
     rcases hA5 with ⟨_,hE5⟩ | ⟨n5,_,hE5⟩
     ·exact hE5.get (i+1) hu1
     ·exact hE5.get (i+2) hu1
    ·cases hP5;obtain ⟨n,he,rfl⟩:=hM5
     rcases hA5 with ⟨_,hE5⟩ | ⟨n5,_,hE5⟩
     ·exact hE5.get (i+2) hu1
     ·exact hE5.get (i+3) hu1
    ·simp at hκ5
   have r0:w5.cell? ⟨u,o,none⟩=some (.slice A l.length c):=by rw [hB.rule o,hv1o]
   go_simp<;>rfl
  try simp only [Act.put,zA,zZ,zS]
  refine OrdF.in_turn OrdF.Slc rfl (fun v=>∃ A1 c1,v=.slice A1 l.length c1) (.slice none l.length 0) ⟨_,_,rfl⟩ hT9.o rfl (by decide) (by decide) (by rfl) ?_ (.inr ⟨_,1,[],rfl,by kernel_rfl,by kernel_rfl,rfl⟩) (by rfl) ?_ ?_
  ·rfl
  ·rintro fo5 w5 _ hC5 ⟨M5,P5,hP5,hM5,hA5⟩;cases hP5;obtain ⟨n,he,rfl⟩:=hM5;cases he
   rcases hA5 with ⟨rfl,hE5⟩ | ⟨n5,rfl,hE5⟩
   ·obtain ⟨A6,c6,w6,hrun,hE6⟩:=hE5.append3' 0 rfl 107 107 Tryz.underlying107 infoRef c rfl (hE5.cells3 (i+1+2) rfl hr1) (by simp; omega);rw [run_call_append (.tmp 13) (.tmp 17) 107 rfl (by rfl) (by rfl) hrun];exact ⟨⟨A6,c6,rfl⟩,hE6.get 1 rfl,_,_,rfl,⟨A6,c6,_,rfl,rfl⟩,.inl ⟨rfl,hE6⟩⟩
   ·obtain ⟨A6,c6,w6,hrun,hE6⟩:=hE5.append3' 1 rfl 107 107 Tryz.underlying107 infoRef c rfl (hE5.cells3 (i+1+3) rfl hr1) (by simp; omega);rw [run_call_append (.tmp 13) (.tmp 17) 107 rfl (by rfl) (by rfl) hrun];exact ⟨⟨A6,c6,rfl⟩,hE6.get 2 rfl,_,_,rfl,⟨A6,c6,_,rfl,rfl⟩,.inr ⟨_,rfl,hE6⟩⟩
  rintro _ ⟨A1,c1,rfl⟩
  try simp only [Act.put,zA,zZ,zS]
  repeat ((first
   | (focus (refine OrdF.in_value (v:=?_) hT9.o (by decide) (by decide) ?_ (by rfl) ?_ ?_; rotate_left 2; (intro w5 hS; have r:=Blk.rule hS; go_simp<;>rfl); rotate_right; (focus rfl)))
   | (focus (refine OrdF.in_off hT9.o (by decide) (by decide) ?_ (by rfl) ?_; (focus rfl))));try simp only [Act.put,zA,zZ,zS])
  refine OrdF.in_float OrdF.Slc (.slice (some ⟨0,0,none⟩) 1 1) ⟨0,rfl⟩ hT9.o rfl (by decide) ?_ (by rfl) ?_ ?_
  ·rfl
  ·intro w5 κs5 hC5 hA5;go_simp;simp only [Ord3.Lands];exact ⟨⟨_,rfl⟩,hC5.more _,hA5.up _⟩
  rintro _ ⟨n8,rfl⟩
  try simp only [Act.put,zA,zZ,zS]
  refine OrdF.in_turn_late (by kernel_rfl) (by decide) (by decide) (fun v=>∃ A1 c1,v=.slice A1 (l.length+1) c1) _ ⟨none,0,rfl⟩ hT9.o rfl (by decide) (by rfl) ?_ (.inr ⟨_,6,[],rfl,by kernel_rfl,by kernel_rfl,rfl⟩) (by rfl) ?_ ?_
  ·rfl
  ·rintro w5 hC5 ⟨M5,P5,hP5,hM5,⟨hn5,_⟩ | ⟨n5,hn5,hE5⟩⟩
   ·cases hn5
   cases hn5;cases hP5;obtain ⟨A6,c6,κ0,he,rfl⟩:=hM5;cases he;obtain ⟨A9,c9,w9,hrun,hE9⟩:=hE5.append3' 1 rfl 107 107 Tryz.underlying107 infoRef (n:=1) (xs:=[(x,y,z)]) 1 rfl (Blk.row3 (hE5.get 0 rfl)) (by simp; omega);rw [HL1.out] at hrun hE9;rw [run_call_append (.tmp 18) (.tmp 20) 107 rfl (by rfl) (by rfl) hrun];exact ⟨⟨A9,c9,rfl⟩,hE9.get 2 rfl,_,_,rfl,⟨A9,c9,_,_,rfl,rfl⟩,.inr ⟨_,rfl,hE9⟩⟩
  rintro _ ⟨A9,c9,rfl⟩
  try simp only [Act.put,zA,zZ,zS]
  repeat ((first
   | (focus (refine OrdF.in_value (v:=?_) hT9.o (by decide) (by decide) ?_ (by rfl) ?_ ?_; rotate_left 2; (intro w5 hS; skip; go_simp<;>rfl); rotate_right; (focus rfl)))
   | (focus (refine OrdF.in_off hT9.o (by decide) (by decide) ?_ (by rfl) ?_; (focus rfl))));try simp only [Act.put,zA,zZ,zS])
  refine OrdF.in_turn OrdF.Slc rfl (fun v=>v=undef) undef rfl hT9.o rfl (by decide) (by decide) (by rfl) ?_ (.inr ⟨_,9,[],rfl,by kernel_rfl,by kernel_rfl,rfl⟩) (by rfl) ?_ ?_
  ·rfl
  ·rintro fo5 w5 _ hC5 ⟨M5,P5,hP5,hM5,hA5⟩;cases hP5;obtain ⟨A7,c7,κ0,κ1,he,rfl⟩:=hM5;cases he
   rcases hA5 with ⟨rfl,hE5⟩ | ⟨n5,rfl,hE5⟩
   ·have r0:w5.cell? ⟨u,o,none⟩=some (.slice A l.length c):=by rw [hE5.rule (i+2) hu1 o,hv1o]
    have f0:=hE5.thaw (i+2) hu1 o hol;go_simp;have hE6:=hE5.put (i+2) hu1 (j:=o) hol (.slice A9 (l.length+1) c9);simp only [zS,zZ] at hE6;exact ⟨rfl,hE6.get 1 rfl,_,_,rfl,⟨A9,c9,_,_,rfl,rfl⟩,.inl ⟨rfl,hE6⟩⟩
   ·have r0:w5.cell? ⟨u,o,none⟩=some (.slice A l.length c):=by rw [hE5.rule (i+3) hu1 o,hv1o]
    have f0:=hE5.thaw (i+3) hu1 o hol;go_simp;have hE6:=hE5.put (i+3) hu1 (j:=o) hol (.slice A9 (l.length+1) c9);simp only [zS,zZ] at hE6;exact ⟨rfl,hE6.get 2 rfl,_,_,rfl,⟨A9,c9,_,_,rfl,rfl⟩,.inr ⟨_,rfl,hE6⟩⟩
  rintro _ rfl
  try simp only [Act.put,zA,zZ,zS]
  refine OrdF.in_nil rfl (by decide) (by decide) ?_;rintro w5 hC5 ⟨M5,P5,hP5,hM5,hA5⟩;cases hP5;obtain ⟨A7,c7,κ0,κ1,he,rfl⟩:=hM5;cases he;have hE5:Env w0 (row3I (.slice A9 (l.length+1) c9) 159 (l++[(x,y,z)])::boxI B [.int .i64 x,.int .i64 y,.int .i64 z]::M.set i (boxI u (vs1.set o (.slice A9 (l.length+1) c9)))) w5:=by
   rcases hA5 with ⟨_,h⟩ | ⟨n5,_,h⟩
   ·exact h
   ·exact h.sub (.cons _ (List.Sublist.refl _))
  clear hA5 hT9 hC5;replace hE5:=hE5.sub (L':=row3I (.slice A9 (l.length+1) c9) 159 (l++[(x,y,z)])::M.set i (boxI u (vs1.set o (.slice A9 (l.length+1) c9)))) (.cons_cons _ (.cons _ (List.Sublist.refl _)));have hu5:(M.set i (boxI u (vs1.set o (.slice A9 (l.length+1) c9))))[i]?=some (boxI u (vs1.set o (.slice A9 (l.length+1) c9))):=by simp [hil]
  have hend:∀ vs9 w',Env w0 (row3I (.slice A9 (l.length+1) c9) 159 (l++[(x,y,z)])::M.set i (boxI u vs9)) w'->Env w0 ((M.set i (boxI u vs9)).set (i+1) (rrI A9 c9 (l++[(x,y,z)]))) w':=fun vs9 w' h=>by
   have:=h.into (i+1);unfold rrI;rw [HL1.out];exact this
  have HEND:=zH hend;clear hend;have hcl:∀ w',Env w0 (row3I (.slice A9 (l.length+1) c9) 159 (l++[(x,y,z)])::M.set i (boxI u (vs1.set o (.slice A9 (l.length+1) c9)))) w'->Blk 0 w' u (vs1.set o (.slice A9 (l.length+1) c9)):=fun w' h=>h.get (i+1) hu5;have HCL:=zH hcl;clear hcl;have hq0:(vs1.set o (.slice A9 (l.length+1) c9))[o]?=some (.slice A9 (l.length+1) c9):=by rw [List.getElem?_set_self hol]
  have hq1:(vs1.set o (.slice A9 (l.length+1) c9))[o+1]?=some (.int .i64 N1):=by rw [List.getElem?_set_ne (by omega),hv1N]
  have HCC:Hid (∀ w',Env w0 (row3I (.slice A9 (l.length+1) c9) 159 (l++[(x,y,z)])::M.set i (boxI u (vs1.set o (.slice A9 (l.length+1) c9)))) w'->w'.cell? ⟨u,o,none⟩=some (.slice A9 (l.length+1) c9)/\w'.cell? ⟨u,o+1,none⟩=some (.int .i64 N1)):=zH fun w' h =>
   ⟨by rw [(HCL.out _ h).rule o,hq0],by rw [(HCL.out _ h).rule (o+1),hq1]⟩
  go_wp2_with fail;refine Ord.wc [] (fun w'=>Env w0 (row3I (.slice A9 (l.length+1) c9) 159 (l++[(x,y,z)])::M.set i (boxI u (vs1.set o (.slice A9 (l.length+1) c9)))) w') (fun _ _=>True) hE5.drew trivial fun hT9=>?_
  repeat ((first
   | (refine Ord.cv ?_ hT9.o ?_ ?_; rotate_left; (intro w5 hS; obtain ⟨r0,r1⟩:=HCC.out _ hS; go_simp<;>rfl))
   | (refine Ord.co hT9.o ?_));try simp only [Act.put,zA,zZ,zS])
  refine Ord.InText.nil fun w5 hS=>?_;clear hT9;obtain ⟨hE6,hC6⟩:=Ord.chain_end hS;clear hS;clear hE5;obtain ⟨r0,r1⟩:=HCC.out _ hE6;have f1:=(HCL.out _ hE6).thaw (o+1) (by simpa using hol1)
  by_cases hgt:N1 < ((l.length+1:Nat):Int)
  ·have hd:decide (N1 < (l.length:Int)+1)=true:=by simp; omega
   have hw2:wrap64 (2 * N1)=2 * N1:=w64 _ (by omega);go_wp2_with fail
   go_end0
   refine ⟨rfl,A9,c9,?_⟩;have hE7:=hE6.put (i+1) hu5 (j:=o+1) (by simpa using hol1) (.int .i64 (2 * N1));simp only [zS,zZ,List.set_set] at hE7;rw [show roomN N1 (l.length+1)=2 * N1 by unfold roomN; rw [if_pos hgt]];have h9:=HEND.out _ _ hE7;rw [HMS.out,HFIN.out] at h9;exact h9
  ·have hd:decide (N1 < (l.length:Int)+1)=false:=by simp; omega
   go_wp2_with fail
   go_end0
   refine ⟨rfl,A9,c9,?_⟩;rw [show roomN N1 (l.length+1)=N1 by unfold roomN; rw [if_neg (by omega)]];have h9:=HEND.out _ _ hE6;rw [HMS.out,HSAME.out] at h9;exact h9
abbrev OneR:=Plc × Int
def encO (e:OneR):List Value:=[.int .i64 e.1.1,.int .i64 e.1.2.1,.int .i64 e.1.2.2,.int .u64 e.2]
def flatO (l:List OneR):List Value:=l.flatMap encO
def getL:List OneR->Plc->Int
 | [],_=>0
 | e::l,x=>if e.1=x then e.2 else getL l x
def setL:List OneR->Plc->Int->List OneR
 | [],x,v=>[(x,v)]
 | e::l,x,v=>if e.1=x then (e.1,v)::l else e::setL l x v
theorem getL_set (x:Plc) (v:Int):∀ l:List OneR,getL (setL l x v)=upd (getL l) x v
 | []=>by funext y; simp only [setL,getL,upd]; split<;>split<;>simp_all
 | e::l=>by
  funext y
  by_cases h:e.1=x
  ·simp only [setL,if_pos h,getL,upd]
   by_cases hy:y=x
   ·simp [hy,h]
   ·have:¬ e.1=y:=fun e'=>hy (by rw [<- e',h]);simp [hy,this]
  ·simp only [setL,if_neg h,getL,getL_set x v l]
   by_cases hy:e.1=y
   ·have:¬ y=x:=fun e'=>h (by rw [hy,e']);simp [hy,upd,this]
   ·simp [hy,upd]
theorem setL_keys (x:Plc) (v:Int):∀ l:List OneR,(setL l x v).map (·.1)=if x∈l.map (·.1) then l.map (·.1) else l.map (·.1)++[x]
 | []=>by simp [setL]
 | e::l=>by
  by_cases h:e.1=x
  ·simp [setL,h]
  ·have ih:=setL_keys x v l;have h':¬ x=e.1:=fun e'=>h e'.symm;simp only [setL,if_neg h,List.map_cons,ih,List.mem_cons,h',false_or]
   split<;>simp
theorem setL_nodup {x:Plc} {v:Int} {l:List OneR} (h:(l.map (·.1)).Nodup):((setL l x v).map (·.1)).Nodup:=by
 rw [setL_keys]
 split
 ·exact h
 ·rename_i hx;exact List.nodup_append.2 ⟨h,by simp,fun a ha b hb e=>hx (by simp at hb; rw [<- hb,<- e]; exact ha)⟩
theorem setL_length (x:Plc) (v:Int) (l:List OneR):(setL l x v).length<=l.length+1:=by
 have:=congrArg List.length (setL_keys x v l);simp only [List.length_map] at this;rw [this]
 split<;>simp
theorem flatO_length (l:List OneR):(flatO l).length=l.length * 4:=by
 induction l with
 | nil=>rfl
 | cons x l ih=>simp [flatO,encO] at *; omega
def dO:OneR:=((0,0,0),0)
theorem flatO_get (l:List OneR):∀ (j c:Nat),j < l.length->c < 4->(flatO l)[j * 4+c]?=(encO (l.getD j dO))[c]?:=by
 induction l with
 | nil=>intro j c h; simp at h
 | cons x l ih =>
  intro j c hj hc;have e:flatO (x::l)=encO x++flatO l:=by simp [flatO]
  cases j with
  | zero=>rw [e,List.getElem?_append_left (by simp [encO]; omega)]; simp
  | succ j =>
   rw [e,List.getElem?_append_right (by simp [encO]; omega)];have:=ih j c (by simpa using hj) hc;have e2:(j+1) * 4+c - (encO x).length=j * 4+c:=by simp [encO]; omega
   rw [e2,this];simp
def IsU (w:World) (u:Nat) (F:Nat->Prop) (l:List OneR):Prop :=
 (l.map (·.1)).Nodup/\∃ v,Blk 0 w u [v]/\w.ownsRow 0 187 4 v l.length (flatO l)/\v.ownBlock≠some u/\∀ k,F k ↔ (k=u\/v.ownBlock=some k)
theorem IsU.nodup {w:World} {u:Nat} {F:Nat->Prop} {l:List OneR} (h:IsU w u F l):(l.map (·.1)).Nodup:=h.1
theorem IsU.lt {w:World} {u:Nat} {F:Nat->Prop} {l:List OneR} (h:IsU w u F l):∀ k,F k->k < w.heap.size:=by
 obtain ⟨-,v,hb,ho,hne,hF⟩:=h;intro k hk
 rcases (hF k).1 hk with rfl | e
 ·exact hb.1
 ·exact ownsRow_lt ho k e
def refI (u:Nat) (F:Nat->Prop) (l:List OneR):Item where
 F:=F
 says:=fun w=>IsU w u F l
 loc:=fun w1 w2 h hk hs=>by
  obtain ⟨hnd,v,hb,ho,hne,hF⟩:=h
  exact ⟨hnd,v,hb.kept hs (hk u ((hF u).2 (.inl rfl))),ownsRow_kept ho fun k e=>hk k ((hF k).2 (.inr e)),hne,hF⟩
theorem IsU.full {w:World} {u:Nat} {F:Nat->Prop} {l:List OneR} (h:IsU w u F l):∃ A cap,Blk 0 w u [Value.slice A l.length cap]/\w.ownsRow 0 187 4 (Value.slice A l.length cap) l.length (flatO l)/\(Value.slice A l.length cap).ownBlock≠some u/\∀ k,F k ↔ (k=u\/(Value.slice A l.length cap).ownBlock=some k):=by
 obtain ⟨-,v,hb,ho,hne,hF⟩:=h
 rcases ho.2 with ⟨hv,h0⟩ | ⟨g,cap,cur,hv,rest⟩
 ·have hl0:l=[]:=List.eq_nil_of_length_eq_zero h0;subst hl0;subst hv;exact ⟨none,0,hb,ho,hne,hF⟩
 ·subst hv;exact ⟨some ⟨g,0,none⟩,cap,hb,ho,hne,hF⟩
theorem ownsRow_words {w:World} {l:List OneR} {A:Option Addr} {cap:Nat} (ho:w.ownsRow 0 187 4 (Value.slice A l.length cap) l.length (flatO l)) :
  l=[]\/∃ g,A=some ⟨g,0,none⟩/\g < w.heap.size/\∀ j,j < l.length->w.cell? ⟨g,j * 4,none⟩=some (.int .i64 (l.getD j dO).1.1)/\w.cell? ⟨g,j * 4+1,none⟩=some (.int .i64 (l.getD j dO).1.2.1) /\
   w.cell? ⟨g,j * 4+2,none⟩=some (.int .i64 (l.getD j dO).1.2.2)/\w.cell? ⟨g,j * 4+3,none⟩=some (.int .u64 (l.getD j dO).2):=by
 rcases ho.2 with ⟨hv,h0⟩ | ⟨g,cap',cur,hv,_,hg,hn,hc,hcs,htk⟩
 ·exact .inl (List.eq_nil_of_length_eq_zero h0)
 ·simp only [Value.slice.injEq] at hv;obtain ⟨rfl,-,rfl⟩:=hv;refine .inr ⟨g,rfl,(Array.getElem?_eq_some_iff.1 hg).1,fun j hj=>?_⟩;have each:∀ c,c < 4->w.cell? ⟨g,j * 4+c,none⟩=(encO (l.getD j dO))[c]?:=fun c hc4=>by
   rw [<- flatO_get l j c hj hc4,<- htk,List.getElem?_take_of_lt (by omega)];simp [World.cell?,hg]
  exact ⟨each 0 (by omega),each 1 (by omega),each 2 (by omega),each 3 (by omega)⟩
theorem refGet_at {u o:Nat} {vs:List Value} {A:Option Addr} {cap:Nat} {l:List OneR} {w:World} (a b d:Int) (hl:l.length<=1000000) (hb:Blk 0 w u vs) (hvo:vs[o]?=some (.slice A l.length cap)) (hown:w.ownsRow 0 187 4 (.slice A l.length cap) l.length (flatO l)) :
  Calls prog 80 #[.pointer (some ⟨u,o,none⟩),.agg #[.int .i64 a,.int .i64 b,.int .i64 d]] w fun e w'=>e=.returned (.int .u64 (getL l (a,b,d)))/\Below w.heap.size w w':=by
 have hrow:=ownsRow_words hown;have r0:w.cell? ⟨u,o,none⟩=some (.slice A l.length cap):=by rw [hb.rule o,hvo]
 have hul:=hb.1;have hE:=(Fr.start w).push w.heap.size rfl [.int .i64 a,.int .i64 b,.int .i64 d] 105;have HROW:=zH hrow;have HR0:=zH r0;clear hrow r0 hb hvo hown;go_enter func80,ntmps80;go_wp2_with fail
 go_loopw [5] (fun i wr=>∃ k:Nat,k<=l.length/\i=.int .i64 k/\getL l (a,b,d)=getL (l.drop k) (a,b,d)/\Fr w [(w.heap.size,[.int .i64 a,.int .i64 b,.int .i64 d])] wr) (fun i _=>l.length - (intOf i).toNat)
 case atStart=>exact ⟨0,by omega,rfl,rfl,hE⟩
 case round =>
  obtain ⟨k,hk,rfl,hg,hEr⟩:=hrel;clear hE;have hB:∀ w',Below w.heap.size w w'->w'.cell? ⟨u,o,none⟩=some (.slice A l.length cap):=fun w' hb=>by rw [hb.cell (p:=⟨u,o,none⟩) hul]; exact HR0.out
  have ru:=hB _ hEr.below
  by_cases hlt:k < l.length
  ·rcases HROW.out with h0 | ⟨g,rfl,hgl,hc⟩
   ·rw [h0] at hlt; simp at hlt
   obtain ⟨c0,c1,c2,c3⟩:=hc k hlt;have hdrop:l.drop k=l.getD k dO::l.drop (k+1):=by
    rw [List.drop_eq_getElem_cons hlt]; simp [hlt]
   rw [hdrop] at hg;clear hdrop hc;generalize l.getD k dO=o at *;obtain ⟨⟨x,y,z⟩,v⟩:=o;simp only at c0 c1 c2 c3;have HC:Hid (∀ w',Below w.heap.size w w'->(w'.cell? ⟨g,k * 4,none⟩=some (.int .i64 x)/\w'.cell? ⟨g,k * 4+1,none⟩=some (.int .i64 y)/\w'.cell? ⟨g,k * 4+2,none⟩=some (.int .i64 z)/\w'.cell? ⟨g,k * 4+3,none⟩=some (.int .u64 v))):=zH fun w' hb=>by
    refine ⟨?_,?_,?_,?_⟩
    ·rw [hb.cell (p:=⟨g,k * 4,none⟩) hgl]; exact c0
    ·rw [hb.cell (p:=⟨g,k * 4+1,none⟩) hgl]; exact c1
    ·rw [hb.cell (p:=⟨g,k * 4+2,none⟩) hgl]; exact c2
    ·rw [hb.cell (p:=⟨g,k * 4+3,none⟩) hgl]; exact c3
   clear c0 c1 c2 c3;have HG:=zH hg;have HB:=zH hB;clear hg hB;go_wp2_with fail;refine Ord.wc [] (fun w'=>Fr w [(w.heap.size,[.int .i64 a,.int .i64 b,.int .i64 d])] w') (fun _ _=>True) hEr.drew trivial fun hT9=>?_
   repeat ((first
    | (refine Ord.cv ?_ hT9.o ?_ ?_; rotate_left; (intro w5 hS; have r:=hS.rule 0 rfl; have r1:=HB.out _ hS.below; obtain ⟨c0,c1,c2,c3⟩:=HC.out _ hS.below; go_simp<;>rfl))
    | (refine Ord.co hT9.o ?_));try simp only [Act.put,zA,zZ,zS])
   refine Ord.ch_value (v:=.bool (decide ((x,y,z)=(a,b,d)))) hT9.o (by decide) (by rfl) ?_ ?_
   ·intro w5 hS;clear hS HC HB HG HROW HR0
    by_cases e1:x=a<;>by_cases e2:y=b<;>by_cases e3:z=d<;>simp [e1,e2,e3]<;>go_simp
   try simp only [Act.put,zA,zZ,zS]
   refine Ord.InText.nil fun w5 hS=>?_;clear hT9;obtain ⟨hEr,hC⟩:=Ord.chain_end hS;clear hS;clear hC;have r:=hEr.rule 0 rfl;have r1:=HB.out _ hEr.below;obtain ⟨c0,c1,c2,c3⟩:=HC.out _ hEr.below
   by_cases hp:(x,y,z)=(a,b,d)
   ·rw [decide_eq_true hp];go_wp2_with fail;go_ret;exact ⟨by rw [HG.out]; simp [getL,hp],hEr.below⟩
   ·rw [decide_eq_false hp];go_wp2_with fail;exact ⟨⟨k+1,by omega,rfl,by rw [HG.out]; simp [getL,hp],hEr⟩,by simp [intOf]; omega⟩
  ·go_wp2_with fail;have:k=l.length:=by omega
   subst this;go_ret;exact ⟨by rw [hg]; simp [getL],hEr.below⟩
theorem refGet_any {u:Nat} {F:Nat->Prop} {l:List OneR} {w:World} (a b d:Int) (hl:l.length<=1000000) (hU:IsU w u F l) :
  Calls prog 80 #[.pointer (some ⟨u,0,none⟩),.agg #[.int .i64 a,.int .i64 b,.int .i64 d]] w fun e w'=>e=.returned (.int .u64 (getL l (a,b,d)))/\Below w.heap.size w w':=by
 obtain ⟨A,cap,hb,ho,_,_⟩:=hU.full;exact refGet_at a b d hl hb rfl ho
theorem infoOne:(prog.info? 187).map (fun i=>(i.zero,i.size,i.bytes))=some (some (.agg #[.int .i64 0,.int .i64 0,.int .i64 0,.int .u64 0]),4,32):=by kernel_rfl
theorem flatO_append (l m:List OneR):flatO (l++m)=flatO l++flatO m:=by simp [flatO]
theorem flatO_put (l:List OneR) (k:Nat) (hk:k < l.length) (p:Plc) (v0 v:Int) (h:l.getD k dO=(p,v0)):flatO (l.take k++(p,v)::l.drop (k+1))=(flatO l).set (k * 4+3) (.int .u64 v):=by
 have e:l=l.take k++(p,v0)::l.drop (k+1):=by
  conv=>lhs; rw [<- List.take_append_drop k l,List.drop_eq_getElem_cons hk]
  rw [show l[k]=(p,v0) by simpa [hk] using h]
 conv=>rhs; rw [e]
 have hlen:(flatO (l.take k)).length=k * 4:=by rw [flatO_length]; simp; omega
 rw [flatO_append,flatO_append,List.set_append_right _ _ (by omega),hlen]
 congr 1
 rw [show k * 4+3 - k * 4=3 by omega];simp [flatO,encO]
theorem setL_skip {x:Plc} {v:Int} {l:List OneR} {k:Nat} (hk:k < l.length) {p:Plc} {v0:Int} (h:l.getD k dO=(p,v0)) (hp:¬ p=x) (hs:setL l x v=l.take k++setL (l.drop k) x v):setL l x v=l.take (k+1)++setL (l.drop (k+1)) x v:=by
 have e:l[k]=(p,v0):=by simpa [hk] using h
 rw [hs,List.drop_eq_getElem_cons hk,e,setL,if_neg hp,List.take_succ_eq_append_getElem hk,e];simp
theorem setL_hit {x:Plc} {v:Int} {l:List OneR} {k:Nat} (hk:k < l.length) {v0:Int} (h:l.getD k dO=(x,v0)) (hs:setL l x v=l.take k++setL (l.drop k) x v):setL l x v=l.take k++(x,v)::l.drop (k+1):=by
 have e:l[k]=(x,v0):=by simpa [hk] using h
 rw [hs,List.drop_eq_getElem_cons hk,e,setL,if_pos rfl]
theorem row_wrote {w w':World} {l:List OneR} {g cap k:Nat} {x:Plc} {v0 v:Int} (ho:w.ownsRow 0 187 4 (Value.slice (some ⟨g,0,none⟩) l.length cap) l.length (flatO l))
  (hk:k < l.length) (h:l.getD k dO=(x,v0)) (hB:Below w.heap.size w w') :
  (w'.setCell ⟨g,k * 4+3,none⟩ (.int .u64 v)).ownsRow 0 187 4 (Value.slice (some ⟨g,0,none⟩) (l.take k++(x,v)::l.drop (k+1)).length cap) (l.take k++(x,v)::l.drop (k+1)).length (flatO (l.take k++(x,v)::l.drop (k+1)))/\Turn (fun j=>j=g) w (w'.setCell ⟨g,k * 4+3,none⟩ (.int .u64 v)):=by
 have hgl:=(ho.lt g rfl).2;have ho':w'.ownsRow 0 187 4 (Value.slice (some ⟨g,0,none⟩) l.length cap) l.length (flatO l):=ownsRow_kept ho fun k e=>hB.block k (by cases e; exact hgl);have hlen:(l.take k++(x,v)::l.drop (k+1)).length=l.length:=by simp; omega
 refine ⟨?_,(Turn.of_below hB:Turn (fun j=>j=g) w w').setCell (p:=⟨g,k * 4+3,none⟩) (fun _=>rfl) _⟩;rw [hlen,flatO_put l k hk x v0 v h];exact (ho'.stored _ _).1
theorem refSet_at {u o:Nat} {vs:List Value} {A:Option Addr} {cap:Nat} {l:List OneR} {w:World} (a b d v:Int) (hl:l.length<=1000000) (hblk:Blk 0 w u vs) (hvo:vs[o]?=some (.slice A l.length cap)) (hown:w.ownsRow 0 187 4 (Value.slice A l.length cap) l.length (flatO l)) (hsep:(Value.slice A l.length cap).ownBlock≠some u) :
  Calls prog 50 #[.pointer (some ⟨u,o,none⟩),.agg #[.int .i64 a,.int .i64 b,.int .i64 d],.int .u64 v] w fun e w'=>e=.returned (.tuple #[])/\∃ A' cap',Blk 0 w' u (vs.set o (.slice A' (setL l (a,b,d) v).length cap'))/\w'.ownsRow 0 187 4 (.slice A' (setL l (a,b,d) v).length cap') (setL l (a,b,d) v).length (flatO (setL l (a,b,d) v)) /\
   Turn (fun k=>k=u\/(Value.slice A l.length cap).ownBlock=some k) w w'/\∀ k,(Value.slice A' (setL l (a,b,d) v).length cap').ownBlock=some k->(Value.slice A l.length cap).ownBlock=some k\/w.heap.size<=k:=by
 have hrow:=ownsRow_words hown;have hol:o < vs.length:=(List.getElem?_eq_some_iff.1 hvo).1;have r0:w.cell? ⟨u,o,none⟩=some (.slice A l.length cap):=by rw [hblk.rule o,hvo]
 have hul:=hblk.1;have hE:=(Fr.start w).push w.heap.size rfl [.int .i64 a,.int .i64 b,.int .i64 d] 105;have HROW:=zH hrow;have HR0:=zH r0;have HALL:=zH (And.intro hblk (And.intro hown (And.intro hsep hvo)));clear hrow r0 hblk hown hsep hvo;obtain ⟨i0,hi,hz0,hz1,hz2⟩:=info_parts infoOne;go_enter func50,ntmps50;go_wp2_with fail
 go_loopw [6] (fun i wr=>∃ k:Nat,k<=l.length/\i=.int .i64 k/\setL l (a,b,d) v=l.take k++setL (l.drop k) (a,b,d) v/\Fr w [(w.heap.size,[.int .i64 a,.int .i64 b,.int .i64 d])] wr) (fun i _=>l.length - (intOf i).toNat)
 case atStart=>exact ⟨0,by omega,rfl,rfl,hE⟩
 case round =>
  obtain ⟨k,hk,rfl,hg,hEr⟩:=hrel;clear hE;have hB:∀ w',Below w.heap.size w w'->w'.cell? ⟨u,o,none⟩=some (.slice A l.length cap):=fun w' hb=>by rw [hb.cell (p:=⟨u,o,none⟩) hul]; exact HR0.out
  have ru:=hB _ hEr.below;have HG:=zH hg;have HB:=zH hB;clear hg hB
  by_cases hlt:k < l.length
  ·rcases HROW.out with h0 | ⟨g,rfl,hgl,hc⟩
   ·rw [h0] at hlt; simp at hlt
   obtain ⟨c0,c1,c2,c3⟩:=hc k hlt;clear hc;have hgk:=zH (rfl:l.getD k dO=l.getD k dO);generalize ho:l.getD k dO=o at c0 c1 c2 c3;obtain ⟨⟨x,y,z⟩,v0⟩:=o;simp only at c0 c1 c2 c3;have HC:Hid (∀ w',Below w.heap.size w w'->(w'.cell? ⟨g,k * 4,none⟩=some (.int .i64 x)/\w'.cell? ⟨g,k * 4+1,none⟩=some (.int .i64 y)/\w'.cell? ⟨g,k * 4+2,none⟩=some (.int .i64 z)/\w'.cell? ⟨g,k * 4+3,none⟩=some (.int .u64 v0))):=zH fun w' hb=>by
    refine ⟨?_,?_,?_,?_⟩
    ·rw [hb.cell (p:=⟨g,k * 4,none⟩) hgl]; exact c0
    ·rw [hb.cell (p:=⟨g,k * 4+1,none⟩) hgl]; exact c1
    ·rw [hb.cell (p:=⟨g,k * 4+2,none⟩) hgl]; exact c2
    ·rw [hb.cell (p:=⟨g,k * 4+3,none⟩) hgl]; exact c3
   have HO:=zH ho;clear c0 c1 c2 c3 ho hgk;go_wp2_with fail;refine Ord.wc [] (fun w'=>Fr w [(w.heap.size,[.int .i64 a,.int .i64 b,.int .i64 d])] w') (fun _ _=>True) hEr.drew trivial fun hT9=>?_
   repeat ((first
    | (refine Ord.cv ?_ hT9.o ?_ ?_; rotate_left; (intro w5 hS; have r:=hS.rule 0 rfl; have r1:=HB.out _ hS.below; obtain ⟨c0,c1,c2,c3⟩:=HC.out _ hS.below; go_simp<;>rfl))
    | (refine Ord.co hT9.o ?_));try simp only [Act.put,zA,zZ,zS])
   refine Ord.ch_value (v:=.bool (decide ((x,y,z)=(a,b,d)))) hT9.o (by decide) (by rfl) ?_ ?_
   ·intro w5 hS;clear hS HC HB HG HROW HR0 HALL HO
    by_cases e1:x=a<;>by_cases e2:y=b<;>by_cases e3:z=d<;>simp [e1,e2,e3]<;>go_simp
   try simp only [Act.put,zA,zZ,zS]
   refine Ord.InText.nil fun w5 hS=>?_;clear hT9;obtain ⟨hEr,hC⟩:=Ord.chain_end hS;clear hS;clear hC;have r:=hEr.rule 0 rfl;have r1:=HB.out _ hEr.below;obtain ⟨c0,c1,c2,c3⟩:=HC.out _ hEr.below
   by_cases hp:(x,y,z)=(a,b,d)
   ·rw [decide_eq_true hp];have hgl5:g < w5.heap.size:=Nat.lt_of_lt_of_le hgl hEr.below.size;have hz:w5.frozen? ⟨g,k * 4+3,none⟩=false:=(ownsRow_kept HALL.out.2.1 fun k e=>hEr.below.block k ((HALL.out.2.1.lt k e).2)).frozenAt _;go_wp2_with fail;refine bodyPost_ret (results_none rfl _ _ _) rfl ?_;have hgd:=HO.out;rw [hp] at hgd;obtain ⟨h1,h2⟩:=row_wrote (v:=v) HALL.out.2.1 hlt hgd hEr.below;have hgu:u≠g:=fun e=>HALL.out.2.2.1 (by simp [Value.ownBlock,e]);have hlen:(setL l (a,b,d) v).length=l.length:=by rw [setL_hit hlt hgd HG.out]; simp; omega
    have hb1:Blk 0 w5 u vs:=HALL.out.1.kept hEr.below.size (hEr.below.block u HALL.out.1.1);refine ⟨rfl,some ⟨g,0,none⟩,cap,?_,by rw [setL_hit hlt hgd HG.out]; exact h1,h2.mono fun k _ e=>.inr (by simp [Value.ownBlock,e]),fun k e=>.inl (by simpa [Value.ownBlock] using e)⟩;have evs:vs.set o (.slice (some ⟨g,0,none⟩) (setL l (a,b,d) v).length cap)=vs:=by
     apply List.ext_getElem?;intro j;rw [List.getElem?_set]
     split
     ·rename_i e; subst e; rw [HALL.out.2.2.2,hlen]
     ·rfl
    rw [evs];exact hb1.kept (by simp) (Below.heap_setCell _ _ _ _ hgu)
   ·rw [decide_eq_false hp];go_wp2_with fail;exact ⟨⟨k+1,by omega,rfl,setL_skip hlt HO.out hp HG.out,hEr⟩,by simp [intOf]; omega⟩
  ·go_wp2_with fail;have:k=l.length:=by omega
   subst this;obtain ⟨hblk,hown,hsep,hvo⟩:=HALL.out;have hsz:=hEr.below.size;have hblk1:Blk 0 wr u vs:=hblk.kept hsz (hEr.below.block u hul);have hown1:wr.ownsRow 0 187 4 (Value.slice A l.length cap) l.length (flatO l):=ownsRow_kept hown fun k e=>hEr.below.block k ((hown.lt k e).2);have happ:=run_append_lies (P:=prog) (wr.drew.alloc (.cells #[.int .i64 a,.int .i64 b,.int .i64 d,.int .u64 v] 187)) 100 100 0 187 i0 (.agg #[.int .i64 0,.int .i64 0,.int .i64 0,.int .u64 0]) 4 32 Tryz.underlying100 hi hz0 hz1 hz2 rfl (by decide)
    (Value.slice A l.length cap) l.length (flatO l) (hown1.drew.alloc _) ⟨wr.heap.size,0,none⟩ 1 1 [.int .i64 a,.int .i64 b,.int .i64 d,.int .u64 v] rfl (cells_new _ _ _) (by simp [Value.oneCell']) (by omega) (by simp [maxLen]; omega) (by omega) (by simp) _ rfl
   obtain ⟨g,cap',W2,hrun,hown2,hgrow,hg2,hg2l⟩:=happ;have hW1:=Below.alloc (Below.refl wr.heap.size wr.drew) (show wr.heap.size<=wr.drew.heap.size from Nat.le_refl _) (.cells #[.int .i64 a,.int .i64 b,.int .i64 d,.int .u64 v] 187);have hne2:∀ k,k < w.heap.size+1->some k≠(Value.slice A l.length cap).ownBlock->W2.heap[k]?=wr.heap[k]?:=fun k hk hn=>by
    have h1:=hEr.lt 0 rfl;have h2:=hgrow.block k (by simp; omega) hn;exact h2.trans (hW1.block k (by omega))
   have hblk2:Blk 0 W2 u vs:=hblk1.kept (by have:=hgrow.size; simp at this; omega) (hne2 u (by omega) (fun e=>hsep e.symm));have hgu:g≠u:=fun e=>by
    rcases hg2 with h | h
    ·exact hsep (by rw [h,e])
    ·rw [e] at h; simp at h; omega
   have hEd:Fr w [(w.heap.size,[.int .i64 a,.int .i64 b,.int .i64 d])] wr.drew:=hEr.drew;have hbx:=hEr.2 _ (List.mem_singleton.2 rfl);have hB1:Blk w.heap.size (wr.drew.alloc (.cells #[.int .i64 a,.int .i64 b,.int .i64 d,.int .u64 v] 187)) w.heap.size [.int .i64 a,.int .i64 b,.int .i64 d]:=hbx.drew.more _;have hB2:Blk w.heap.size W2 w.heap.size [.int .i64 a,.int .i64 b,.int .i64 d]:=hbx.kept (by have:=hgrow.size; simp at this; omega) (hne2 _ (by omega) fun e=>by
    have:=(hown.lt _ e.symm).2;omega)
   have hB3:Blk w.heap.size (W2.setCell ⟨u,o,none⟩ (.slice (some ⟨g,0,none⟩) (l.length+1) cap')) w.heap.size [.int .i64 a,.int .i64 b,.int .i64 d]:=hB2.kept (by simp) (Below.heap_setCell _ _ _ _ (by simp; omega));have HW:Hid ((∀ i,wr.drew.cell? ⟨w.heap.size,i,none⟩=[Value.int .i64 a,.int .i64 b,.int .i64 d][i]?)/\(wr.drew.cell? ⟨u,o,none⟩=some (.slice A l.length cap))/\((wr.drew.alloc (.cells #[.int .i64 a,.int .i64 b,.int .i64 d,.int .u64 v] 187)).cell? ⟨u,o,none⟩=some (.slice A l.length cap))):=zH ⟨hbx.rule,by rw [hblk1.drew.rule o,hvo],by rw [(hblk1.drew.more _).rule o,hvo]⟩;have HB1:=zH hB1.rule;have HB2:Hid ((∀ i,W2.cell? ⟨w.heap.size,i,none⟩=[Value.int .i64 a,.int .i64 b,.int .i64 d][i]?)/\W2.cell? ⟨u,o,none⟩=some (.slice A l.length cap)/\W2.frozen? ⟨u,o,none⟩=false/\u < W2.heap.size):=zH ⟨hB2.rule,by rw [hblk2.rule o,hvo],hblk2.thaw o hol,hblk2.1⟩;have HB3:=zH hB3.rule;have HRUN:=zH hrun;have HEND:=zH (And.intro hown2 (And.intro hgrow (And.intro hg2 (And.intro hg2l (And.intro hblk2 (And.intro hgu (And.intro hsz (And.intro hEr.below (And.intro hvo hW1)))))))));clear hB1 hB2 hB3 hrun hown2 hgrow hg2 hg2l hblk2 hgu hsz hblk1 hown1 hbx hEd hne2 hblk hown hsep hvo hW1 ru;go_wp2_with fail;refine Ord.wp_chain2 [8,9,12] (fun w'=>∀ i,w'.cell? ⟨w.heap.size,i,none⟩=[Value.int .i64 a,.int .i64 b,.int .i64 d][i]?) (fun j w'=>[wr.drew,wr.drew.alloc (.cells #[.int .i64 a,.int .i64 b,.int .i64 d,.int .u64 v] 187),W2,W2.setCell ⟨u,o,none⟩ (.slice (some ⟨g,0,none⟩) (l.length+1) cap')][j]?=some w') (by kernel_rfl) (by kernel_rfl) (by kernel_rfl) HW.out.1 rfl (fun hT=>?_);have hT9:=zH hT;clear hT
   repeat (refine Ord.ch2_value (v:=?_) hT9.o (by decide) (by rfl) ?_ ?_; rotate_left; (intro w5 hS; skip; go_simp<;>rfl); (try simp only [Act.put,zA,zZ,zS]))
   refine Ord.ch2_early 1 hT9.o (by decide) (by rfl) (by kernel_rfl) (by decide) (by rfl) (v:=.slice A l.length cap) ?_ ?_
   ·intro w5 j hj hS hA;have r1:w5.cell? ⟨u,o,none⟩=some (.slice A l.length cap):=by
     rcases j with _ | _ | j
     ·cases hA; exact HW.out.2.1
     ·cases hA; exact HW.out.2.2
     ·omega
    go_simp<;>rfl
   try simp only [Act.put,zA,zZ,zS]
   repeat (refine Ord.ch2_value (v:=?_) hT9.o (by decide) (by rfl) ?_ ?_; rotate_left; (intro w5 hS; skip; go_simp<;>rfl); (try simp only [Act.put,zA,zZ,zS]))
   refine Ord.ch2_turn 0 hT9.o (by rfl) (by decide) (Or.inl rfl) (by rfl) (v:=.slice (some ⟨wr.heap.size,0,none⟩) 1 1) ?_ ?_
   ·intro w5 hS hA;cases hA;go_simp;simp only [Ord.LandsIn];exact ⟨trivial,HB1.out,trivial⟩
   try simp only [Act.put,zA,zZ,zS]
   refine Ord.ch2_turn 1 hT9.o (by rfl) (by decide) (Or.inr ⟨_,rfl,by kernel_rfl⟩) (by rfl) (v:=.slice (some ⟨g,0,none⟩) (l.length+1) cap') ?_ ?_
   ·intro w5 hS hA;cases hA;refine append_lands rfl HRUN.out (by rfl) (by rfl) ⟨HB2.out.1,rfl⟩
   try simp only [Act.put,zA,zZ,zS]
   repeat (refine Ord.ch2_value (v:=?_) hT9.o (by decide) (by rfl) ?_ ?_; rotate_left; (intro w5 hS; skip; go_simp<;>rfl); (try simp only [Act.put,zA,zZ,zS]))
   refine Ord.ch2_turn 2 hT9.o (by rfl) (by decide) (Or.inr ⟨_,rfl,by kernel_rfl⟩) (by rfl) (v:=undef) ?_ ?_
   ·intro w5 hS hA;cases hA;obtain ⟨-,r1,z1,hcl⟩:=HB2.out;go_simp;exact ⟨rfl,HB3.out,rfl⟩
   try simp only [Act.put,zA,zZ,zS]
   refine Ord.InText.nil fun w5 hS=>?_;clear hT9;obtain ⟨hC,hA⟩:=Ord.chain2_end hS;clear hS;cases hA;go_wp2_with fail
   go_end0
   obtain ⟨hown2,hgrow,hg2,hg2l,hblk2,hgu,hsz,hbel,hvo,hW1⟩:=HEND.out;have e2:setL l (a,b,d) v=l++[((a,b,d),v)]:=by simpa [setL] using HG.out
   rw [e2,flatO_append,List.length_append];refine ⟨rfl,some ⟨g,0,none⟩,cap',hblk2.set hol _,ownsRow_setCell_other hown2 (by simp [Value.ownBlock,hgu]) _,?_,fun k e=>?_⟩
   ·exact (((((Turn.of_below hbel:Turn (fun k=>k=u\/(Value.slice A l.length cap).ownBlock=some k) w wr).drew).alloc _).grown hgrow (fun k hk e=>.inr e)).setCell (p:=⟨u,o,none⟩) (fun _=>.inl rfl) _)
   ·rcases hg2 with h | h
    ·exact .inl (by rw [h]; simpa [Value.ownBlock] using e)
    ·right
     have:k=g:=by simpa [Value.ownBlock,eq_comm] using e
     rw [this,h]; simp; omega
theorem refSet_any {u:Nat} {F:Nat->Prop} {l:List OneR} {w:World} (a b d v:Int) (hl:l.length<=1000000) (hU:IsU w u F l) :
  Calls prog 50 #[.pointer (some ⟨u,0,none⟩),.agg #[.int .i64 a,.int .i64 b,.int .i64 d],.int .u64 v] w fun e w'=>e=.returned (.tuple #[])/\∃ F',IsU w' u F' (setL l (a,b,d) v)/\Step F F' w w':=by
 obtain ⟨A,cap,hblk,hown,hsep,hF⟩:=hU.full;refine (refSet_at a b d v hl hblk rfl hown hsep).mono ?_;rintro e w' ⟨he,A',cap',h1,h2,h3,h4⟩;have hu:u < w.heap.size:=hblk.1;refine ⟨he,fun k=>k=u\/(Value.slice A' (setL l (a,b,d) v).length cap').ownBlock=some k,⟨setL_nodup hU.nodup,_,h1,h2,fun e=>?_,fun k=>Iff.rfl⟩,h3.mono fun k _ e=>(hF k).2 e,fun k hk=>?_⟩
 ·rcases h4 u e with h | h
  ·exact hsep h
  ·omega
 ·rcases hk with rfl | hk
  ·exact .inl ((hF _).2 (.inl rfl))
  ·rcases h4 k hk with h | h
   ·exact .inl ((hF _).2 (.inr h))
   ·exact .inr h
theorem IsU.over {w w':World} {u:Nat} {F:Nat->Prop} {l:List OneR} (h:IsU w u F l) (hb:Below w.heap.size w w'):IsU w' u F l:=(refI u F l).loc w w' h (fun k hk=>hb.block k (h.lt k hk)) hb.size
section
variable {w0 w w':World} {L:List Item} {u:Nat} {F F':Nat->Prop} {l l':List OneR}
theorem Env.ref (h:Env w0 L w) (i:Nat) (hi:L[i]?=some (refI u F l)):IsU w u F l:=h.get i hi
theorem Env.turnU (h:Env w0 L w) (i:Nat) (hi:L[i]?=some (refI u F l)) (hU:IsU w' u F' l') (hs:Step F F' w w'):Env w0 (L.set i (refI u F' l')) w':=h.step i (refI u F' l') hi hs hU hU.lt
end
section
variable {w0 w w':World} {L L':List Item}
theorem Env.newU (h:Env w0 L w) (n:Nat) (hn:w.heap.size=n) (t:TypeId):Env w0 (refI n (fun k=>k=n) []::L) (w.alloc (.cells #[.slice none 0 0] t)):=by
 subst hn;refine h.add (refI w.heap.size (fun k=>k=w.heap.size) []) ((Below.refl _ _).alloc (Nat.le_refl _) _) ⟨List.nodup_nil,.slice none 0 0,Blk.new 0 w _ t,⟨rfl,.inl ⟨rfl,rfl⟩⟩,by simp [Value.ownBlock],fun k=>by simp [Value.ownBlock]⟩ fun k hk=>?_;have hk:k=w.heap.size:=hk;subst hk; simp
end
end
section
open Go.RowKit
theorem refLinkIs_any (m:Bool) (s v:Int) (w:World) :
  Calls prog 146 #[.agg #[.bool m,.int .i64 s,.int .i64 v]] w fun e w'=>e=.returned (.bool (isL s v))/\Below w.heap.size w w':=by
 by_cases h1:0<=s
 ·by_cases h2:s < 8388608
  ·by_cases h3:0<=v
   ·go_enter func146,ntmps146
    go_wp2
    go_ret;exact ⟨ret_bool (by rw [Bool.eq_iff_iff]; simp [isL]; omega),(Below.refl _ _).alloc (Nat.le_refl _) _⟩
   ·have hd:decide (0<=v)=false:=by simpa using h3
    go_enter func146,ntmps146
    go_wp2
    go_ret;exact ⟨ret_bool (by simp [isL]; omega),(Below.refl _ _).alloc (Nat.le_refl _) _⟩
  ·have hd:decide (s < 8388608)=false:=by simpa using h2
   go_enter func146,ntmps146
   go_wp2
   go_ret;exact ⟨ret_bool (by simp [isL]; omega),(Below.refl _ _).alloc (Nat.le_refl _) _⟩
 ·have hd:decide (0<=s)=false:=by simpa using h1
  go_enter func146,ntmps146
  go_wp2
  go_ret;exact ⟨ret_bool (by simp [isL]; omega),(Below.refl _ _).alloc (Nat.le_refl _) _⟩
theorem refWord_any (m:Bool) (s v:Int) (w:World) :
  Calls prog 99 #[.agg #[.bool m,.int .i64 s,.int .i64 v]] w fun e w'=>e=.returned (.int .u64 (wordI m s v))/\Below w.heap.size w w':=by
 cases h:isL s v
 ·have H:=zH h;clear h;go_enter func99,ntmps99;go_wp2_with fail;refine (refLinkIs_any m s v _).mono ?_;rintro e w1 ⟨rfl,hb⟩;rw [H.out];go_wp2_with fail;go_ret;exact ⟨ret_int (wordI_no H.out).symm,((Below.refl _ _).alloc (Nat.le_refl _) _).trans (hb.mono (by simp))⟩
 ·have hp:=isL_parts h;have H:=zH h;clear h;obtain ⟨k0,k1,k2,k3⟩:=hp;go_enter func99,ntmps99;go_wp2_with fail;refine (refLinkIs_any m s v _).mono ?_;rintro e w1 ⟨rfl,hb⟩;obtain ⟨d0,d1,d2,hB,hs⟩:=hold3 (n:=w.heap.size) (w:=w) (x:=.bool m) (y:=.int .i64 s) (z:=.int .i64 v) (by simp) (by simp) (by simp) ((Below.refl _ _).alloc (Nat.le_refl _) _) (by simp) hb;clear hb;rw [H.out];cases m
  ·have HW:=zH (wordI_yes (m:=false) H.out);go_wp2_with fail;go_ret;exact ⟨ret_int (by rw [HW.out]; simp [bitI]; omega),hB⟩
  ·have HW:=zH (wordI_yes (m:=true) H.out);go_wp2_with fail;go_ret;exact ⟨ret_int (by rw [HW.out]; simp [bitI]; omega),hB⟩
theorem refOf_any (x:Int) (w:World) (h0:0<=x) (h1:x<=18446744073709551615) :
  Calls prog 145 #[.int .u64 x] w fun e w'=>e=.returned (.agg #[.bool (markB x),.int .i64 (slotI x),.int .i64 (verI x)])/\Below w.heap.size w w':=by
 obtain ⟨s0,s1⟩:=slotI_in x;obtain ⟨v0,v1⟩:=verI_in x;go_enter func145,ntmps145;go_wp2_with fail;exact bodyPost_ret (v:=.agg #[.bool (markB x),.int .i64 (slotI x),.int .i64 (verI x)]) (by simp [results,results145,go_sem,markB,slotI,verI]) rfl ⟨rfl,(Below.refl _ _).alloc (Nat.le_refl _) _⟩
end
section
open Go.RowKit Go.Maps
def urv (k s b h l e:Int) (A:Option Addr) (n c:Nat) (N hs r:Int):List Value:=[.int .i64 k,.int .i64 s,.int .i64 b,.int .i64 h,.int .i64 l,.int .i64 e,.slice A n c,.int .i64 N,.int .i64 hs,.int .i64 r]
theorem epoch13_any (w:World):Calls prog 51 #[] w fun e w'=>e=.returned (.agg #[.int .i64 1,.int .i64 0,.int .i64 0])/\Below w.heap.size w w':=by
 go_enter func51,ntmps51
 go_wp2
 exact bodyPost_ret (v:=.agg #[.int .i64 1,.int .i64 0,.int .i64 0]) (by simp [results,results51,go_sem]) rfl ⟨rfl,(Below.refl _ _).alloc (Nat.le_refl _) _⟩
section
variable {w0 w:World} {L:List Item} {u m n c:Nat} {F:Nat->Prop} {ml:List OneR} {A:Option Addr} {k s b h l e N hs r:Int}
theorem rcheck_w (x:Int) (hmx:getL ml (1,0,0)=x) (hx:InU x) (hml:ml.length<=1000000) (i j:Nat) (hE:Env w0 L w) (hi:L[i]?=some (boxI u (urv k s b h l e A n c N hs r))) (hj:L[j]?=some (refI m F ml)) :
  Calls prog 94 #[.pointer (some ⟨u,0,none⟩),.pointer (some ⟨m,0,none⟩)] w fun o w'=>o=.returned (.tuple #[])/\Env w0 (L.set i (boxI u (urv k s b h l (epI x) A n c N hs r))) w':=by
 have hil:i < L.length:=(List.getElem?_eq_some_iff.1 hi).1;unfold InU at hx;have hq:(x<=9223372036854775807/\epI x=x/\decide (x < 9223372036854775808)=true)\/(9223372036854775807 < x/\epI x=0/\decide (x < 9223372036854775808)=false):=by
  unfold epI
  by_cases h:x<=9223372036854775807
  ·left; refine ⟨h,by rw [if_pos h],by simp; omega⟩
  ·right; refine ⟨by omega,by rw [if_neg h],by simp; omega⟩
 generalize epI x=y at *;have HQ:=zH hq;have HX:=zH hx;clear hq hx;go_enter func94,ntmps94;go_wp2_with fail;refine (epoch13_any _).mono ?_;rintro o w1 ⟨rfl,hb⟩;replace hE:=hE.over hb;clear hb;go_wp2_with fail;refine (refGet_any 1 0 0 hml (hE.ref j hj)).mono ?_;rintro o w2 ⟨rfl,hb⟩;rw [hmx];replace hE:=hE.over hb;clear hb;have rc:=hE.rule i hi;have ff:=hE.thaw i hi;have f5:=ff 5 (by simp [urv]);clear ff;unfold urv at rc
 rcases HQ.out with ⟨q0,q1,q2⟩ | ⟨q0,q1,q2⟩
 ·have hw:wrap64 x=x:=w64 _ (by have:=HX.out; omega);subst q1;clear HQ HX;go_wp2_with fail
  go_end0
  have hE1:=hE.put i hi (j:=5) (by simp [urv]) (.int .i64 0);have hE2:=hE1.put i (by rw [List.getElem?_set_self hil]) (j:=5) (by simp [urv]) (.int .i64 y);rw [List.set_set] at hE2;exact ⟨rfl,hE2⟩
 ·subst q1;clear HQ HX;go_wp2_with fail
  go_end0
  exact ⟨rfl,hE.put i hi (j:=5) (by simp [urv]) (.int .i64 0)⟩
end
section
variable {w:World} {u n c:Nat} {A:Option Addr} {k s b h l e N hs r:Int}
theorem rdropNo_c (hh:hs<=0) (hb:Blk 0 w u (urv k s b h l e A n c N hs r)) :
  Calls prog 148 #[.pointer (some ⟨u,0,none⟩)] w fun o w'=>o=.returned (.tuple #[])/\w'=w:=by
 have r1:=hb.rule;unfold urv at r1;have hd:decide (0 < hs)=false:=by simpa using hh
 clear hb hh;go_enter func148,ntmps148
 go_wp2
 go_end0
 exact ⟨rfl,rfl⟩
end
section
variable {w0 w:World} {L:List Item} {u c:Nat} {A:Option Addr} {lr:List Trip} {k s b h l e N hs r:Int}
theorem rdropYes_c (hh:0 < hs) (i:Nat) (hl:lr.length<=1000000) (hN:0<=N/\N<=1099511627776) (hE:Env w0 L w) (hi:L[i]?=some (boxI u (urv k s b h l e A lr.length c N hs r))) (hr:L[i+1]?=some (rrI A c lr)) :
  Calls prog 148 #[.pointer (some ⟨u,0,none⟩)] w fun o w'=>o=.returned (.tuple #[])/\∃ A' c',Env w0 ((L.set i (boxI u (urv k s b h l e A' (lr.length+1) c' (roomN (room0 N) (lr.length+1)) 0 r))).set (i+1) (rrI A' c' (lr++[(hs,0,0)]))) w':=by
 have hil:i < L.length:=(List.getElem?_eq_some_iff.1 hi).1;have hd:decide (0 < hs)=true:=by simpa using hh
 have HCB:Hid (∀ v,Env w0 L v->∀ z,v.cell? ⟨u,z,none⟩=(urv k s b h l e A lr.length c N hs r)[z]?):=zH fun v hv=>hv.rule i hi;unfold urv at HCB;have HPU:Hid (∀ v,Env w0 L v->Calls prog 151 #[.pointer (some ⟨u,6,none⟩),.agg #[.int .i64 hs,.int .i64 0,.int .i64 0]] v fun o w'=>o=.returned (.tuple #[])/\∃ A' c',Env w0 ((L.set i (boxI u (urv k s b h l e A' (lr.length+1) c' (roomN (room0 N) (lr.length+1)) hs r))).set (i+1) (rrI A' c' (lr++[(hs,0,0)]))) w'):=zH fun v hv =>
  refPush_at (vs:=urv k s b h l e A lr.length c N hs r) hs 0 0 6 i hv hi rfl rfl hr hl hN
 clear hh;generalize roomN (room0 N) (lr.length+1)=N1 at *;go_enter func148,ntmps148;have r0:=HCB.out _ hE
 go_upto_region 1 with fail
 clear r0;refine Ord.wc [8] (fun w'=>w'.cell? ⟨u,8,none⟩=some (.int .i64 hs)) (Stage [Env w0 L,fun w'=>∃ A' c',Env w0 ((L.set i (boxI u (urv k s b h l e A' (lr.length+1) c' N1 hs r))).set (i+1) (rrI A' c' (lr++[(hs,0,0)]))) w']) (HCB.out _ hE.drew 8) ⟨_,rfl,hE.drew⟩ fun hT9=>?_
 repeat ((first
  | (refine Ord.cv ?_ hT9.o ?_ ?_; rotate_left; (intro w5 hS; skip; go_simp<;>rfl))
  | (refine Ord.co hT9.o ?_));try simp only [Act.put,zA,zZ,zS])
 refine Ord.ch_turn (v:=.tuple #[]) 0 hT9.o rfl (by decide) (Or.inl rfl) (by rfl) ?_ ?_
 ·rintro w5 hC5 ⟨P5,hP5,hA5⟩;cases hP5;go_simp;simp only [Ord.LandsIn];refine (HPU.out _ hA5).mono ?_;rintro o w6 ⟨rfl,A6,c6,hE6⟩;have hc6:=hE6.rule i (wset (b:=rrI A6 c6 (lr++[(hs,0,0)])) (by omega) (by rw [List.getElem?_set_self hil])) 8;exact ⟨rfl,hc6,_,rfl,A6,c6,hE6⟩
 try simp only [Act.put,zA,zZ,zS]
 refine Ord.InText.nil fun w5 hS=>?_;clear hT9;obtain ⟨hC9,hA9⟩:=Ord.chain_end hS;clear hS;obtain ⟨P9,hP9,hA9⟩:=hA9;cases hP9;obtain ⟨A9,c9,hE9⟩:=hA9;have hi9:((L.set i (boxI u (urv k s b h l e A9 (lr.length+1) c9 N1 hs r))).set (i+1) (rrI A9 c9 (lr++[(hs,0,0)])))[i]?=some (boxI u (urv k s b h l e A9 (lr.length+1) c9 N1 hs r)):=wset (by omega) (by rw [List.getElem?_set_self hil]);have rc:=hE9.rule i hi9;unfold urv at rc;have ff:=hE9.thaw i hi9;have f8:=ff 8 (by simp [urv]);clear ff hE hC9;go_wp2_with fail
 go_end0
 have hE10:=hE9.put i hi9 (j:=8) (by simp [urv]) (.int .i64 0);rw [List.set_comm _ _ (by omega),List.set_set] at hE10;exact ⟨rfl,A9,c9,hE10⟩
end
theorem Row3.tail {w:World} {b off:Nat} {x:Trip} {t:List Trip} (h:Row3 w (some ⟨b,off,none⟩) (x::t)):Row3 w (some ⟨b,off+3,none⟩) t:=by
 rcases h with h | ⟨b',off',he,hl,hc⟩
 ·cases h
 ·cases he;refine .inr ⟨b,off+3,rfl,hl,fun i hi=>?_⟩;have:=hc (i+1) (by simp; omega);rw [show off+(i+1) * 3=off+3+i * 3 by omega] at this
  simpa using this
theorem refPop_at {w0 w:World} {L:List Item} {u c:Nat} {A:Option Addr} {t:List Trip} {vs:List Value} (x y z:Int) (o i:Nat) (hE:Env w0 L w) (hu:L[i]?=some (boxI u vs)) (hvo:vs[o]?=some (.slice A (t.length+1) c)) (hr:L[i+1]?=some (rrI A c ((x,y,z)::t))) (hl:t.length<=1000000) :
  Calls prog 103 #[.pointer (some ⟨u,o,none⟩)] w fun e w'=>e=.returned (.tuple #[tv (x,y,z),.bool true])/\∃ A' c',Env w0 ((L.set i (boxI u (vs.set o (.slice A' t.length c')))).set (i+1) (rrI A' c' t)) w':=by
 have hil:i < L.length:=(List.getElem?_eq_some_iff.1 hu).1;have hol:o < vs.length:=(List.getElem?_eq_some_iff.1 hvo).1;have hcap:t.length+1<=c:=by
  rcases (hE.row3 (i+1) hr).2 with ⟨_,h0⟩ | ⟨g,cap',cur,hv,_,hg,hn,hc,hcs,htk⟩
  ·simp at h0
  ·simp only [Value.slice.injEq,List.length_cons] at hv;obtain ⟨_,_,rfl⟩:=hv
   simpa using hn
 obtain ⟨b,off,rfl⟩:∃ b off,A=some ⟨b,off,none⟩:=by
  rcases hE.cells3 (i+1) rfl hr with h | ⟨b,off,h,_⟩
  ·cases h
  ·exact ⟨b,off,h⟩
 have hcell:∀ w' M j,Env w0 M w'->M[j]?=some (rrI (some ⟨b,off,none⟩) c ((x,y,z)::t))->w'.cell? ⟨b,off,none⟩=some (.int .i64 x)/\w'.cell? ⟨b,off+1,none⟩=some (.int .i64 y)/\w'.cell? ⟨b,off+2,none⟩=some (.int .i64 z):=fun w' M j h hj=>by
  rcases h.cells3 j rfl hj with h0 | ⟨b',off',he,_,hc⟩
  ·cases h0
  ·cases he;have:=at3 (hc 0 (by simp))
   simpa using this
 have hE1:=hE.box w.heap.size rfl [.int .i64 0,.int .i64 0,.int .i64 0] 159;have r:=(hE1.rule (i+1) hu o).trans hvo;obtain ⟨c0,c1,c2⟩:=hcell _ _ (i+2) hE1 hr;have hn0:((t.length:Int)+1==0)=false:=by rw [beq_eq_false_iff_ne]; omega
 clear hE;go_enter func103,ntmps103
 go_upto_region 4 with fail
 clear c0 c1 c2 r;have hE2:=hE1.box (w.heap.size+1) (by simp) [.int .i64 x,.int .i64 y,.int .i64 z] 159;have hE3:=hE2.addEmpty3 (w.heap.size+2) (by simp) 159;have r2:=(hE2.rule (i+2) hu o).trans hvo;have r3:=(hE3.rule (i+3) hu o).trans hvo;have htail:=(hE3.cells3 (i+1+3) rfl hr).tail
 by_cases hc1:c=1
 ·subst hc1;obtain rfl:t=[]:=List.eq_nil_of_length_eq_zero (by omega);obtain ⟨A9,c9,w9,hrun,hE9⟩:=hE3.append3' (A:=some ⟨b,off,none⟩) (xs:=[]) 0 rfl 107 107 Tryz.underlying107 infoRef 0 rfl (.inl rfl) (by simp);have HRUN:=zH hrun;have hE9':Env w0 (row3I (.slice A9 ([]:List Trip).length c9) 159 []::boxI (w.heap.size+1) [.int .i64 x,.int .i64 y,.int .i64 z]::boxI w.heap.size [.int .i64 0,.int .i64 0,.int .i64 0]::L) w9:=hE9;clear hE1 hE2 hE3 hrun hE9 hcell htail;have r9:=(hE9'.rule (i+3) hu o).trans hvo;have f9:=hE9'.thaw (i+3) hu o hol;have q1:=hE9'.rule 1 rfl;have q2:=hE9'.rule 2 rfl;have g0:=hE9'.thaw 2 rfl 0 (by simp);have g1:=hE9'.thaw 2 rfl 1 (by simp);have g2:=hE9'.thaw 2 rfl 2 (by simp);have hlt1:=hE9'.boxLt 1 rfl;have hlt2:=hE9'.boxLt 2 rfl;have hne1:u≠w.heap.size+1:=fun e=>(hE9'.off (i:=i+3) (j:=1) hu rfl (by omega)) u rfl e;have hne2:u≠w.heap.size:=fun e=>(hE9'.off (i:=i+3) (j:=2) hu rfl (by omega)) u rfl e;have hne3:w.heap.size≠u:=fun e=>hne2 e.symm;go_wp2_with (first | (at_builtin; refine wpList_append_run rfl _ _ 107 rfl HRUN.out rfl rfl ?_));have hE10:=hE9'.put (i+3) hu (j:=o) hol (.slice A9 0 c9);simp only [zS,zZ] at hE10;have hE11:=((hE10.put 2 rfl (j:=0) (by simp) (.int .i64 x)).put 2 rfl (j:=1) (by simp) (.int .i64 y)).put 2 rfl (j:=2) (by simp) (.int .i64 z);have q9:=hE11.rule 2 rfl;refine bodyPost_ret (v:=.tuple #[tv (x,y,z),.bool true]) (by simp [results,results103,go_sem,q9,tv]) rfl ⟨rfl,A9,c9,?_⟩;have hE12:=hE11.sub (L':=row3I (.slice A9 ([]:List Trip).length c9) 159 []::L.set i (boxI u (vs.set o (.slice A9 ([]:List Trip).length c9)))) (.cons_cons _ (.cons _ (.cons _ (List.Sublist.refl _))));exact hE12.into (i+1)
 ·have hc2:(c - 1=0)=False:=by simp; omega
  obtain ⟨A9,c9,w9,hrun,hE9⟩:=hE3.append3' 0 rfl 107 107 Tryz.underlying107 infoRef (c - 1) rfl htail (by simp; omega);have HRUN:=zH hrun;have hE9':Env w0 (row3I (.slice A9 (t:List Trip).length c9) 159 t::boxI (w.heap.size+1) [.int .i64 x,.int .i64 y,.int .i64 z]::boxI w.heap.size [.int .i64 0,.int .i64 0,.int .i64 0]::L) w9:=hE9;clear hE1 hE2 hE3 hrun hE9 hcell htail;have r9:=(hE9'.rule (i+3) hu o).trans hvo;have f9:=hE9'.thaw (i+3) hu o hol;have q1:=hE9'.rule 1 rfl;have q2:=hE9'.rule 2 rfl;have g0:=hE9'.thaw 2 rfl 0 (by simp);have g1:=hE9'.thaw 2 rfl 1 (by simp);have g2:=hE9'.thaw 2 rfl 2 (by simp);have hlt1:=hE9'.boxLt 1 rfl;have hlt2:=hE9'.boxLt 2 rfl;have hne1:u≠w.heap.size+1:=fun e=>(hE9'.off (i:=i+3) (j:=1) hu rfl (by omega)) u rfl e;have hne2:u≠w.heap.size:=fun e=>(hE9'.off (i:=i+3) (j:=2) hu rfl (by omega)) u rfl e;have hne3:w.heap.size≠u:=fun e=>hne2 e.symm;go_wp2_with (first | (at_builtin; refine wpList_append_run rfl _ _ 107 rfl HRUN.out rfl rfl ?_));have hE10:=hE9'.put (i+3) hu (j:=o) hol (.slice A9 t.length c9);simp only [zS,zZ] at hE10;have hE11:=((hE10.put 2 rfl (j:=0) (by simp) (.int .i64 x)).put 2 rfl (j:=1) (by simp) (.int .i64 y)).put 2 rfl (j:=2) (by simp) (.int .i64 z);have q9:=hE11.rule 2 rfl;refine bodyPost_ret (v:=.tuple #[tv (x,y,z),.bool true]) (by simp [results,results103,go_sem,q9,tv]) rfl ⟨rfl,A9,c9,?_⟩;have hE12:=hE11.sub (L':=row3I (.slice A9 (t:List Trip).length c9) 159 t::L.set i (boxI u (vs.set o (.slice A9 (t:List Trip).length c9)))) (.cons_cons _ (.cons _ (.cons _ (List.Sublist.refl _))));exact hE12.into (i+1)
theorem cell13_any (y z:Int) (w:World):Calls prog 98 #[.int .i64 y,.int .i64 z] w fun e w'=>e=.returned (.agg #[.int .i64 5,.int .i64 y,.int .i64 z])/\Below w.heap.size w w':=by
 go_enter func98,ntmps98
 go_wp2
 exact bodyPost_ret (v:=.agg #[.int .i64 5,.int .i64 y,.int .i64 z]) (by simp [results,results98,go_sem]) rfl ⟨rfl,(Below.refl _ _).alloc (Nat.le_refl _) _⟩
theorem rslot_of (v:World) (m:Bool) (s b:Int):(Instr.field 199 (.agg #[.bool m,.int .i64 s,.int .i64 b]) 1).run prog v=.ok (.int .i64 s) v:=by kernel_rfl
theorem slot13_any (x:Int) (hx:InU x) (w:World):Calls prog 100 #[.int .u64 x] w fun e w'=>e=.returned (.int .i64 (slotI x))/\Below w.heap.size w w':=by
 have h:=rslot_of;have hr:=refOf_any x w hx.1 hx.2;obtain ⟨s,hs⟩:∃ s,slotI x=s:=⟨_,rfl⟩;rw [hs] at hr ⊢;have HR:=zH hr;clear hx hr hs;go_enter func100,ntmps100;go_wp2_with fail;refine HR.out.mono ?_;rintro e w1 ⟨rfl,hb⟩;go_wp2_with fail;go_ret;exact ⟨rfl,hb⟩
theorem pool14_any (w:World):Calls prog 96 #[] w fun e w'=>e=.returned (.agg #[.int .i64 2,.int .i64 0,.int .i64 0])/\Below w.heap.size w w':=by
 go_enter func96,ntmps96
 go_wp2
 exact bodyPost_ret (v:=.agg #[.int .i64 2,.int .i64 0,.int .i64 0]) (by simp [results,results96,go_sem]) rfl ⟨rfl,(Below.refl _ _).alloc (Nat.le_refl _) _⟩
theorem fresh14_any (w:World):Calls prog 150 #[] w fun e w'=>e=.returned (.agg #[.int .i64 3,.int .i64 0,.int .i64 0])/\Below w.heap.size w w':=by
 go_enter func150,ntmps150
 go_wp2
 exact bodyPost_ret (v:=.agg #[.int .i64 3,.int .i64 0,.int .i64 0]) (by simp [results,results150,go_sem]) rfl ⟨rfl,(Below.refl _ _).alloc (Nat.le_refl _) _⟩
theorem rver_of (v:World) (m:Bool) (s b:Int):(Instr.field 199 (.agg #[.bool m,.int .i64 s,.int .i64 b]) 2).run prog v=.ok (.int .i64 b) v:=by kernel_rfl
theorem ver14_any (x:Int) (hx:InU x) (w:World):Calls prog 97 #[.int .u64 x] w fun e w'=>e=.returned (.int .i64 (verI x))/\Below w.heap.size w w':=by
 have h:=rver_of;have hr:=refOf_any x w hx.1 hx.2;obtain ⟨s,hs⟩:∃ s,verI x=s:=⟨_,rfl⟩;rw [hs] at hr ⊢;have HR:=zH hr;clear hx hr hs;go_enter func97,ntmps97;go_wp2_with fail;refine HR.out.mono ?_;rintro e w1 ⟨rfl,hb⟩;go_wp2_with fail;go_ret;exact ⟨rfl,hb⟩
theorem behind14_any (x s:Int) (hx:InU x) (w:World):Calls prog 102 #[.int .u64 x,.int .i64 s] w fun e w'=>e=.returned (.int .u64 (wordI false s (verI x+1)))/\Below w.heap.size w w':=by
 have hv:=verI_in x;have hw:wrap64 (verI x+1)=verI x+1:=w64 _ (by omega);have HR:=zH (fun (v:World)=>ver14_any x hx v);have hwd:=fun (v:World)=>refWord_any false s (verI x+1) v;have hr:=fun (v:World)=>ver14_any x hx v;clear HR hv hx;obtain ⟨y,hy⟩:∃ y,verI x=y:=⟨_,rfl⟩;simp only [hy] at hr hwd hw ⊢;obtain ⟨z,hz⟩:∃ z,wordI false s (y+1)=z:=⟨_,rfl⟩;simp only [hz] at hwd ⊢;have HR:=zH hr;have HWD:=zH hwd;clear hr hwd hy hz;go_enter func102,ntmps102;go_wp2_with fail;refine (HR.out _).mono ?_;rintro e w1 ⟨rfl,hb⟩;go_wp2_with fail;refine (HWD.out _).mono ?_;rintro e w2 ⟨rfl,hb2⟩;go_wp2_with fail;go_ret;exact ⟨rfl,hb.trans (hb2.mono hb.size)⟩
structure SU where
 (u m:Nat)
 (ck cs cb ch cl ce hs ro N:Int)
 (A:Option Addr)
 (c:Nat)
 (ql:List Trip)
 (F:Nat->Prop)
 (ml:List OneR)
def LU (U:SU) (R:List Item):List Item:=boxI U.u (urv U.ck U.cs U.cb U.ch U.cl U.ce U.A U.ql.length U.c U.N U.hs U.ro)::rrI U.A U.c U.ql::refI U.m U.F U.ml::R
def rav (pc h n r:Int):List Value:=[.int .i64 pc,.int .u64 h,.int .u64 n,.int .u64 r]
section
variable {w0 w:World} {R:List Item} {b:Nat} {U:SU} {pc h n r:Int}
theorem first_row {L:List Item} {A:Option Addr} {c:Nat} {x y z:Int} {t:List Trip} (i:Nat) (hi:L[i]?=some (rrI A c ((x,y,z)::t))) (hE:Env w0 L w):∃ g off,A=some ⟨g,off,none⟩/\∀ v,Env w0 L v->v.cell? ⟨g,off,none⟩=some (.int .i64 x)/\v.cell? ⟨g,off+1,none⟩=some (.int .i64 y)/\v.cell? ⟨g,off+2,none⟩=some (.int .i64 z):=by
 obtain ⟨g,off,rfl⟩:∃ b off,A=some ⟨b,off,none⟩:=by
  rcases hE.cells3 i rfl hi with h | ⟨b,off,h,_⟩
  ·cases h
  ·exact ⟨b,off,h⟩
 refine ⟨g,off,rfl,fun v hv=>?_⟩
 rcases hv.cells3 i rfl hi with h0 | ⟨b',off',he,_,hc⟩
 ·cases h0
 ·cases he;have:=at3 (hc 0 (by simp))
  simpa using this
theorem rdecide_a (hE:Env w0 (boxI b (rav pc h n r)::LU U R) w) :
  Calls prog 152 #[.pointer (some ⟨b,0,none⟩),.pointer (some ⟨U.u,0,none⟩)] w fun o w'=>o=.returned (.int .i64 (decS U.ql U.ce U.cl))/\∃ pc':Int,(decP U.ql U.ce U.cl≠0->pc'=((decP U.ql U.ce U.cl:Nat):Int))/\Env w0 (boxI b (rav pc' h n r)::LU U R) w':=by
 have rb:=hE.rule 0 rfl;have ru:=hE.rule 1 rfl;have f0:=hE.thaw 0 rfl 0 (by simp [rav]);unfold rav at rb;unfold urv at ru;have hP:=fun v=>hE.put 0 rfl (j:=0) (by simp [rav]) v
 rcases hq:U.ql with _ | ⟨⟨x,y,z⟩,t⟩
 ·simp only [hq,List.length_nil] at ru;have HQ:=zH hq;clear hq;go_enter func152,ntmps152;go_wp2_with fail;go_ret;exact ⟨rfl,2,fun _=>rfl,hP _⟩
 ·have hr:(boxI b (rav pc h n r)::LU U R)[2]?=some (rrI U.A U.c ((x,y,z)::t)):=by rw [<- hq]; rfl
  obtain ⟨g,off,hA,hc⟩:=first_row 2 hr hE;simp only [hq,hA] at ru;have hru:∀ v,Env w0 (boxI b (rav pc h n r)::LU U R) v->∀ j,v.cell? ⟨U.u,j,none⟩=[.int .i64 U.ck,.int .i64 U.cs,.int .i64 U.cb,.int .i64 U.ch,.int .i64 U.cl,.int .i64 U.ce,.slice (some ⟨g,off,none⟩) ((x,y,z)::t).length U.c,.int .i64 U.N,.int .i64 U.hs,.int .i64 U.ro][j]?:=fun v hv j=>by
   have:=hv.rule 1 rfl j;unfold urv at this;simp only [hq,hA] at this;exact this
  have hlt:decide ((0:Int) < ((((x,y,z)::t).length:Nat):Int))=true:=by simp
  have hln:0 < ((x,y,z)::t).length:=by simp
  have hne:(((x,y,z)::t).length=0)=False:=by simp
  have hle:((((x,y,z)::t).length:Int)==0)=false:=by simp; omega
  generalize ((x,y,z)::t).length=N at *;have HC:=zH hc;have HRU:=zH hru;have HQ:=zH hq;clear hc hru hq hr hA
  by_cases hy:y < U.ce
  ·have HPP:Hid (decP ((x,y,z)::t) U.ce U.cl=10):=zH (by simp [decP,hy]);have hyb:decide (y < U.ce)=true:=by simpa using hy
   clear hy;go_enter func152,ntmps152;go_wp2_with fail;refine wp_text (S:=(Env w0 (boxI b (rav pc h n r)::LU U R))) (by kernel_rfl) (by kernel_rfl) hE.drew (fun hT=>?_);have hT9:=zH hT;clear hT
   repeat ((first
    | (refine text_value (v:=?_) hT9.o (by rfl) ?_ ?_; rotate_left; (intro w5 hS; have ru:=HRU.out _ hS; obtain ⟨c0,c1,c2⟩:=HC.out _ hS; go_simp<;>rfl))
    | (refine text_off hT9.o (by rfl) ?_)
    | (refine text_call (v:=?_) (f:=?_) (args:=?_) hT9.o (by rfl) ?_ ?_ ?_; rotate_left 3; (intro w5 hS; have ru:=HRU.out _ hS; obtain ⟨c0,c1,c2⟩:=HC.out _ hS; go_simp; constructor<;>rfl); (intro w5 hS; (first | fail))));try simp only [Act.put,zA,zZ,zS])
   refine InText.nil fun w5 hS5=>?_;clear hT9;clear ru hE hP f0 rb;have rb:=hS5.rule 0 rfl;unfold rav at rb;have f0:=hS5.thaw 0 rfl 0 (by simp [rav]);have hP:=fun v=>hS5.put 0 rfl (j:=0) (by simp [rav]) v;go_wp2_with fail;go_ret;unfold decS;rw [HPP.out];exact ⟨rfl,10,fun _=>rfl,hP _⟩
  ·have hyb:decide (y < U.ce)=false:=by simpa using hy
   by_cases hl:U.cl<=U.ce
   ·have HPP:Hid (decP ((x,y,z)::t) U.ce U.cl=0):=zH (by simp only [decP]; rw [if_neg hy,if_pos hl]);have hlb:decide (U.cl<=U.ce)=true:=by simpa using hl
    clear hy hl;go_enter func152,ntmps152;go_wp2_with fail;refine wp_text (S:=(Env w0 (boxI b (rav pc h n r)::LU U R))) (by kernel_rfl) (by kernel_rfl) hE.drew (fun hT=>?_);have hT9:=zH hT;clear hT
    repeat ((first
     | (refine text_value (v:=?_) hT9.o (by rfl) ?_ ?_; rotate_left; (intro w5 hS; have ru:=HRU.out _ hS; obtain ⟨c0,c1,c2⟩:=HC.out _ hS; go_simp<;>rfl))
     | (refine text_off hT9.o (by rfl) ?_)
     | (refine text_call (v:=?_) (f:=?_) (args:=?_) hT9.o (by rfl) ?_ ?_ ?_; rotate_left 3; (intro w5 hS; have ru:=HRU.out _ hS; obtain ⟨c0,c1,c2⟩:=HC.out _ hS; go_simp; constructor<;>rfl); (intro w5 hS; (first | fail))));try simp only [Act.put,zA,zZ,zS])
    refine InText.nil fun w5 hS5=>?_;clear hT9;clear ru hE hP f0 rb;go_wp2_with fail;refine wp_text (S:=(Env w0 (boxI b (rav pc h n r)::LU U R))) (by kernel_rfl) (by kernel_rfl) hS5.drew (fun hT=>?_);have hT9:=zH hT;clear hT
    repeat ((first
     | (refine text_value (v:=?_) hT9.o (by rfl) ?_ ?_; rotate_left; (intro w5 hS; have ru:=HRU.out _ hS; go_simp<;>rfl))
     | (refine text_off hT9.o (by rfl) ?_)
     | (refine text_call (v:=?_) (f:=?_) (args:=?_) hT9.o (by rfl) ?_ ?_ ?_; rotate_left 3; (intro w5 hS; have ru:=HRU.out _ hS; go_simp; constructor<;>rfl); (intro w5 hS; (first | fail))));try simp only [Act.put,zA,zZ,zS])
    refine InText.nil fun w5 hS5=>?_;clear hT9;go_wp2_with fail;go_ret;unfold decS;rw [HPP.out];exact ⟨rfl,pc,fun h=>absurd rfl h,(by assumption)⟩
   ·have HPP:Hid (decP ((x,y,z)::t) U.ce U.cl=1):=zH (by simp only [decP]; rw [if_neg hy,if_neg hl]);have hlb:decide (U.cl<=U.ce)=false:=by simpa using hl
    clear hy hl;go_enter func152,ntmps152;go_wp2_with fail;refine wp_text (S:=(Env w0 (boxI b (rav pc h n r)::LU U R))) (by kernel_rfl) (by kernel_rfl) hE.drew (fun hT=>?_);have hT9:=zH hT;clear hT
    repeat ((first
     | (refine text_value (v:=?_) hT9.o (by rfl) ?_ ?_; rotate_left; (intro w5 hS; have ru:=HRU.out _ hS; obtain ⟨c0,c1,c2⟩:=HC.out _ hS; go_simp<;>rfl))
     | (refine text_off hT9.o (by rfl) ?_)
     | (refine text_call (v:=?_) (f:=?_) (args:=?_) hT9.o (by rfl) ?_ ?_ ?_; rotate_left 3; (intro w5 hS; have ru:=HRU.out _ hS; obtain ⟨c0,c1,c2⟩:=HC.out _ hS; go_simp; constructor<;>rfl); (intro w5 hS; (first | fail))));try simp only [Act.put,zA,zZ,zS])
    refine InText.nil fun w5 hS5=>?_;clear hT9;clear ru hE hP f0 rb;go_wp2_with fail;have hS6:=hS5;clear hS5;refine wp_text (S:=(Env w0 (boxI b (rav pc h n r)::LU U R))) (by kernel_rfl) (by kernel_rfl) hS6.drew (fun hT=>?_);have hT9:=zH hT;clear hT
    repeat ((first
     | (refine text_value (v:=?_) hT9.o (by rfl) ?_ ?_; rotate_left; (intro w5 hS; have ru:=HRU.out _ hS; go_simp<;>rfl))
     | (refine text_off hT9.o (by rfl) ?_)
     | (refine text_call (v:=?_) (f:=?_) (args:=?_) hT9.o (by rfl) ?_ ?_ ?_; rotate_left 3; (intro w5 hS; have ru:=HRU.out _ hS; go_simp; constructor<;>rfl); (intro w5 hS; (first | fail))));try simp only [Act.put,zA,zZ,zS])
    refine InText.nil fun w5 hS5=>?_;clear hT9;clear hS6;have rb:=hS5.rule 0 rfl;unfold rav at rb;have f0:=hS5.thaw 0 rfl 0 (by simp [rav]);have hP:=fun v=>hS5.put 0 rfl (j:=0) (by simp [rav]) v;go_wp2_with fail;go_ret;unfold decS;rw [HPP.out];exact ⟨rfl,1,fun _=>rfl,hP _⟩
end
def swL (l:List OneR) (x:Plc) (o v:Int):List OneR:=if getL l x=o then setL l x v else l
theorem refSwap_any {u:Nat} {F:Nat->Prop} {l:List OneR} {w:World} (a b d o v:Int) (hl:l.length<=1000000) (hU:IsU w u F l) :
  Calls prog 101 #[.pointer (some ⟨u,0,none⟩),.agg #[.int .i64 a,.int .i64 b,.int .i64 d],.int .u64 o,.int .u64 v] w fun e w'=>e=.returned (.bool (decide (getL l (a,b,d)=o)))/\∃ F',IsU w' u F' (swL l (a,b,d) o v)/\Step F F' w w':=by
 have hE:=(Fr.start w).push w.heap.size rfl [.int .i64 a,.int .i64 b,.int .i64 d] 105;have r:=hE.rule 0 rfl;have HU:=zH hU;go_enter func101,ntmps101;go_wp2_with fail;refine (refGet_any a b d hl (HU.out.over hE.below)).mono ?_;rintro e w1 ⟨rfl,hb⟩;replace hE:=hE.over hb;have hb0:=hE.below;clear hb r
 by_cases hg:getL l (a,b,d)=o
 ·have r:=hE.rule 0 rfl;have hg':decide (getL l (a,b,d)=o)=true:=by simp [hg]
  go_wp2_with fail;refine (refSet_any a b d v hl (HU.out.over hb0)).mono ?_;rintro e w2 ⟨rfl,F',hU2,hs⟩
  go_wp2
  go_ret;exact ⟨by rw [hg']; rfl,F',by rw [swL,if_pos hg]; exact hU2,(Step.of_below F hb0).trans hs⟩
 ·have r:=hE.rule 0 rfl;have hg':decide (getL l (a,b,d)=o)=false:=by simp [hg]
  go_wp2_with fail;go_ret;exact ⟨by rw [hg']; rfl,F,by rw [swL,if_neg hg]; exact HU.out.over hb0,Step.of_below F hb0⟩
end
end Go.Proofs.YtdknbegcflldjaaGreatDoor
