/- What is proved on the way to the statement, part 6: contracts of the functions, among other things in memory. -/
import Derived.Test.YtdknbegcflldjaaGreatDoorM5
import Derived.Laws.OwnMore

open _root_.Go.Proofs.Tryz
set_option maxRecDepth 100000
set_option maxHeartbeats 25600000
namespace Go.Proofs.YtdknbegcflldjaaGreatDoor
section
open Go.RowKit Go.Maps
def poolS (x l:Int):Int:=if slotI x=0 then 3 else if l<=verI x then 4 else 0
section
variable {w0 w:World} {R:List Item} {a:Nat} {S:ST} {M:MA}
theorem isLast_m {vs:List Value} (x d:Int) (t:Bool) (hx:InU x) (hg:Glo w0) (hv:vs[0]?=some (.pointer (some ⟨S.c,0,none⟩))) (hE:Env w0 (boxI a vs::LT S R) w) :
  Calls prog 229 #[.pointer (some ⟨a,0,none⟩),.agg #[.int .u64 x,.int .i64 d,.bool t]] w fun o w'=>o=.returned (.bool (decide (S.cl<=verI x)))/\Below w.heap.size w w':=by
 have hb0:=(Below.refl w.heap.size w).alloc (Nat.le_refl _) (.cells [.int .u64 x,.int .i64 d,.bool t].toArray 180);have hE1:=hE.box w.heap.size rfl [.int .u64 x,.int .i64 d,.bool t] 180;have HV:Hid (∀ v,Env w0 (boxI w.heap.size [.int .u64 x,.int .i64 d,.bool t]::boxI a vs::LT S R) v->v.cell? ⟨a,0,none⟩=some (.pointer (some ⟨S.c,0,none⟩))):=zH fun v h=>(h.rule 1 rfl 0).trans hv;have HG:Hid (∀ v,Env w0 (boxI w.heap.size [.int .u64 x,.int .i64 d,.bool t]::boxI a vs::LT S R) v->Calls prog 261 #[.int .u64 x] v fun e w'=>e=.returned (.int .i64 (verI x))/\Below v.heap.size v w'):=zH fun v h=>version_any x v (hg.keep' h.below) hx.1 hx.2;have hlo:=limit_of;generalize verI x=y at *;clear hv hx hg hE;go_enter func229,ntmps229;go_wp2_with fail;refine wp_text (S:=(fun v=>Env w0 (boxI w.heap.size [.int .u64 x,.int .i64 d,.bool t]::boxI a vs::LT S R) v/\Below w.heap.size w v)) (by kernel_rfl) (by kernel_rfl) (⟨hE1.drew,hb0.drew⟩) (fun hT=>?_);have hT9:=zH hT;clear hT
 repeat ((first
  | (refine text_value (v:=?_) hT9.o (by rfl) ?_ ?_; rotate_left; (intro w5 hS; have r0:=HV.out _ hS.1; have r1:=hS.1.rule 0 rfl; go_simp<;>rfl))
  | (refine text_off hT9.o (by rfl) ?_)
  | (refine text_call (v:=?_) (f:=?_) (args:=?_) hT9.o (by rfl) ?_ ?_ ?_; rotate_left 3; (intro w5 hS; have r0:=HV.out _ hS.1; have r1:=hS.1.rule 0 rfl; go_simp; constructor<;>rfl); (intro w5 hS; (first | (with_reducible refine kp (HG.out _ hS.1) ?_ ?_; rfl; exact fun w6 hb6=>⟨hS.1.over hb6,hS.2.trans (hb6.mono hS.2.size)⟩) | (with_reducible refine kp (conf_c (hS.1.get 2 rfl)) ?_ ?_; rfl; exact fun w6 hb6=>⟨hS.1.over hb6,hS.2.trans (hb6.mono hS.2.size)⟩)))));try simp only [Act.put,zA,zZ,zS])
 refine InText.nil fun w5 hS5=>?_;clear hT9;go_wp2_with fail;go_ret;exact ⟨rfl,hS5.2⟩
theorem freshNo_a (x:Int) (hfx:S.f (3,0,0)=x) (h0:0<=x) (ht:S.cs<=x) (hcs:0<=S.cs/\S.cs<=9223372036854775806) (hm:S.m < maxLen) (hz:Hid (M.nx.2=.int .i64 0)) (hE:Env w0 (boxI a (av S.c M)::LT S R) w) :
  Calls prog 296 #[.pointer (some ⟨a,0,none⟩),.iface 26 (.pointer (some ⟨S.p,0,none⟩))] w fun o w'=>o=.returned (.int .i64 0)/\∃ G',Env w0 (boxI a (av S.c { M with nx:=nxA a 3 })::LT { S with G:=G',f:=upd S.f (3,0,0) (IntKind.u64.wrap (x+1)),qc:={ S.qc with a:=wrap64 (S.qc.a+1) },m:=S.m+1 } R) w':=by
 have hmf:=makeF;have hah:=ahead_add;have hso:=slots_of;have HT:=zH hfx;have hw1:IntKind.u64.wrap S.cs=S.cs:=wrapU _ (by omega) (by omega);have hd:decide (S.cs<=x)=true:=by simpa using ht
 clear h0 ht hcs hfx;go_enter func296,ntmps296;go_wp2_with fail;refine Ord.wc [6] (fun _=>True) (fun k w'=>∃ G5,Env w0 (if k=0 then (boxI a (av S.c M)::LT S R) else (boxI a (av S.c M)::LT { S with G:=G5,f:=upd S.f (3,0,0) (IntKind.u64.wrap (x+1)),qc:={ S.qc with a:=wrap64 (S.qc.a+1) },m:=S.m+1 } R)) w') trivial ⟨S.G,hE.drew⟩ fun hT9=>?_
 repeat ((first
  | (refine Ord.cv ?_ hT9.o ?_ ?_; rotate_left; (intro w5 hS; skip; go_simp<;>rfl))
  | (refine Ord.co hT9.o ?_)
  | (refine Ord.cc ?_ ?_ ?_ hT9.o ?_ ?_ ?_; rotate_left 3; (intro w5 hS; skip; go_simp; constructor<;>rfl); (intro w5 hS; (first | (with_reducible refine kp (fresh_any _) ?_ ?_; rfl; exact fun w6 hb6=>⟨trivial,fun k h=>h.elim fun G5 h=>⟨G5,h.over hb6⟩⟩) | (with_reducible refine kp (shared_any _ _ _ _) ?_ ?_; rfl; exact fun w6 hb6=>⟨trivial,fun k h=>h.elim fun G5 h=>⟨G5,h.over hb6⟩⟩)))));try simp only [Act.put,zA,zZ,zS])
 refine Ord.ch_turn (v:=.int .u64 x) 0 hT9.o rfl (by decide) (Or.inl rfl) (by rfl) ?_ ?_
 ·rintro w5 hC5 ⟨G5,hA5⟩;simp only [if_true] at hA5;go_simp;rw [method_add];simp only [Result.andThen_ok];go_simp;simp only [Ord.LandsIn];have h7:=add_w 3 0 0 0 1 (by unfold Wf In64; simp) hm 3 4 (by decide) hA5 rfl rfl;rw [HT.out] at h7;refine h7.mono ?_;rintro e w6 ⟨rfl,G6,hE6⟩;exact ⟨rfl,G6,hE6⟩
 try simp only [Act.put,zA,zZ,zS]
 repeat ((first
  | (refine Ord.cv ?_ hT9.o ?_ ?_; rotate_left; (intro w5 hS; skip; go_simp<;>rfl))
  | (refine Ord.co hT9.o ?_));try simp only [Act.put,zA,zZ,zS])
 refine Ord.InText.nil fun w5 hS=>?_;clear hT9;obtain ⟨hC9,hA9⟩:=Ord.chain_end hS;clear hS;obtain ⟨G9,hA9⟩:=hA9;simp only [List.length_cons,List.length_nil,Nat.zero_add,Nat.one_ne_zero,if_false] at hA9;have r:=hA9.rule 0 rfl;unfold av at r;go_wp2_with fail;refine (conf_c (hA9.get 1 rfl)).mono ?_;rintro o w6 ⟨rfl,hb⟩;replace hA9:=hA9.over hb;clear hb r;have r:=hA9.rule 0 rfl;unfold av at r;go_wp2_with fail;refine (goOn_m 0 _ _ _ (by simp [av]) (by exact congrArg some hz.out) hA9 rfl).mono ?_;rintro o w7 ⟨rfl,hE7⟩;go_wp2_with fail;go_ret;exact ⟨rfl,G9,hE7⟩
theorem freshYes_a (x:Int) (hfx:S.f (3,0,0)=x) (hl:S.ql.length+1<=1048576) (h0:0<=x) (ht:x < S.cs) (hcs:S.cs<=9223372036854775806) (hm:S.m < maxLen) (hz:Hid (M.nx.2=.int .i64 0)) (hE:Env w0 (boxI a (av S.c M)::LT S R) w) :
  Calls prog 296 #[.pointer (some ⟨a,0,none⟩),.iface 26 (.pointer (some ⟨S.p,0,none⟩))] w fun o w'=>o=.returned (.int .i64 (decS (S.ql++[(x+1,0,0)]) S.ce S.cl))/\∃ nx k' F' G',(decP (S.ql++[(x+1,0,0)]) S.ce S.cl≠0->nx=nxA a (decP (S.ql++[(x+1,0,0)]) S.ce S.cl))/\Rm S.kq (S.ql.length+1) k'/\Env w0 (boxI a (av S.c { M with nx:=nx })::LT { S with G:=G',f:=upd S.f (3,0,0) (IntKind.u64.wrap (x+1)),qc:={ S.qc with a:=wrap64 (S.qc.a+1) },m:=S.m+1,ql:=S.ql++[(x+1,0,0)],kq:=k',F:=F' } R) w':=by
 have hmf:=makeF;have hah:=ahead_add;have hso:=slots_of;have HT:=zH hfx;have hw1:IntKind.u64.wrap S.cs=S.cs:=wrapU _ (by omega) (by omega);have hd:decide (S.cs<=x)=false:=by simp; omega
 have hw2:wrap64 x=x:=w64 _ (by omega);have hw3:wrap64 (x+1)=x+1:=w64 _ (by omega);clear h0 ht hcs hfx;go_enter func296,ntmps296;go_wp2_with fail;refine Ord.wc [6] (fun _=>True) (fun k w'=>∃ G5,Env w0 (if k=0 then (boxI a (av S.c M)::LT S R) else (boxI a (av S.c M)::LT { S with G:=G5,f:=upd S.f (3,0,0) (IntKind.u64.wrap (x+1)),qc:={ S.qc with a:=wrap64 (S.qc.a+1) },m:=S.m+1 } R)) w') trivial ⟨S.G,hE.drew⟩ fun hT9=>?_
 repeat ((first
  | (refine Ord.cv ?_ hT9.o ?_ ?_; rotate_left; (intro w5 hS; skip; go_simp<;>rfl))
  | (refine Ord.co hT9.o ?_)
  | (refine Ord.cc ?_ ?_ ?_ hT9.o ?_ ?_ ?_; rotate_left 3; (intro w5 hS; skip; go_simp; constructor<;>rfl); (intro w5 hS; (first | (with_reducible refine kp (fresh_any _) ?_ ?_; rfl; exact fun w6 hb6=>⟨trivial,fun k h=>h.elim fun G5 h=>⟨G5,h.over hb6⟩⟩) | (with_reducible refine kp (shared_any _ _ _ _) ?_ ?_; rfl; exact fun w6 hb6=>⟨trivial,fun k h=>h.elim fun G5 h=>⟨G5,h.over hb6⟩⟩)))));try simp only [Act.put,zA,zZ,zS])
 refine Ord.ch_turn (v:=.int .u64 x) 0 hT9.o rfl (by decide) (Or.inl rfl) (by rfl) ?_ ?_
 ·rintro w5 hC5 ⟨G5,hA5⟩;simp only [if_true] at hA5;go_simp;rw [method_add];simp only [Result.andThen_ok];go_simp;simp only [Ord.LandsIn];have h7:=add_w 3 0 0 0 1 (by unfold Wf In64; simp) hm 3 4 (by decide) hA5 rfl rfl;rw [HT.out] at h7;refine h7.mono ?_;rintro e w6 ⟨rfl,G6,hE6⟩;exact ⟨rfl,G6,hE6⟩
 try simp only [Act.put,zA,zZ,zS]
 repeat ((first
  | (refine Ord.cv ?_ hT9.o ?_ ?_; rotate_left; (intro w5 hS; skip; go_simp<;>rfl))
  | (refine Ord.co hT9.o ?_));try simp only [Act.put,zA,zZ,zS])
 refine Ord.InText.nil fun w5 hS=>?_;clear hT9;obtain ⟨hC9,hA9⟩:=Ord.chain_end hS;clear hS;obtain ⟨G9,hA9⟩:=hA9;simp only [List.length_cons,List.length_nil,Nat.zero_add,Nat.one_ne_zero,if_false] at hA9;have r:=hA9.rule 0 rfl;unfold av at r;go_wp2_with fail;refine (conf_c (hA9.get 1 rfl)).mono ?_;rintro o w6 ⟨rfl,hb⟩;replace hA9:=hA9.over hb;clear hb r;have r:=hA9.rule 0 rfl;unfold av at r;go_wp2_with fail;refine (came_a (S:={ S with G:=G9,f:=upd S.f (3,0,0) (IntKind.u64.wrap (x+1)),qc:={ S.qc with a:=wrap64 (S.qc.a+1) },m:=S.m+1 }) (x+1) 0 hl hz hA9).mono ?_;rintro o w7 ⟨rfl,nx,k',F',hnx,hrm,hE7⟩;go_wp2_with fail;go_ret;exact ⟨rfl,nx,k',F',G9,hnx,hrm,hE7⟩
theorem loadPool_a (x:Int) (hfx:S.f (2,0,0)=x) (hg:Glo w0) (hz:Hid (M.nx.2=.int .i64 0)) (hE:Env w0 (boxI a (av S.c M)::LT S R) w) :
  Calls prog 311 #[.pointer (some ⟨a,0,none⟩),.iface 26 (.pointer (some ⟨S.p,0,none⟩))] w fun o w'=>o=.returned (.int .i64 (poolS x S.cl))/\∃ nx,(poolS x S.cl=0->nx=nxA a 4)/\Env w0 (boxI a (av S.c { M with nx:=nx,h:=x })::LT { S with qc:={ S.qc with l:=wrap64 (S.qc.l+1) } } R) w':=by
 have hmf:=makeF;have hah:=ahead_load;have hso:=slot_of;have hxu:InU x:=by rw [<- hfx]; exact (hE.cell 4 rfl).words.1 _
 have HX:=zH hfx;have HXU:=zH hxu;clear hfx hxu;go_enter func311,ntmps311;go_wp2_with fail;refine Ord.wc [7,10] (fun _=>True) (fun k w'=>Env w0 (pick3 (boxI a (av S.c M)::LT S R) (boxI a (av S.c M)::LT { S with qc:={ S.qc with l:=wrap64 (S.qc.l+1) } } R) (boxI a (av S.c { M with h:=x })::LT { S with qc:={ S.qc with l:=wrap64 (S.qc.l+1) } } R) k) w') trivial hE.drew fun hT9=>?_
 repeat ((first
  | (refine Ord.cv ?_ hT9.o ?_ ?_; rotate_left; (intro w5 hS; skip; go_simp<;>rfl))
  | (refine Ord.co hT9.o ?_)
  | (refine Ord.cc ?_ ?_ ?_ hT9.o ?_ ?_ ?_; rotate_left 3; (intro w5 hS; skip; go_simp; constructor<;>rfl); (intro w5 hS; (first | (with_reducible refine kp (pool_any _) ?_ ?_; rfl; exact fun w6 hb6=>⟨trivial,fun k h=>h.over hb6⟩) | (with_reducible refine kp (shared_any _ _ _ _) ?_ ?_; rfl; exact fun w6 hb6=>⟨trivial,fun k h=>h.over hb6⟩)))));try simp only [Act.put,zA,zZ,zS])
 refine Ord.ch_turn (v:=.agg #[.int .u64 x,.int .i64 0,.bool false]) 0 hT9.o rfl (by decide) (Or.inl rfl) (by rfl) ?_ ?_
 ·rintro w5 hC5 hA5;replace hA5:Env w0 (boxI a (av S.c M)::LT S R) w5:=hA5;go_simp;rw [method_load];simp only [Result.andThen_ok];go_simp;simp only [Ord.LandsIn];have hl:=load_w 2 0 0 0 (by unfold Wf In64; simp) 3 4 (by decide) hA5 rfl rfl;rw [HX.out] at hl;refine hl.mono ?_;rintro e w6 ⟨rfl,hE6⟩;exact ⟨rfl,hE6⟩
 try simp only [Act.put,zA,zZ,zS]
 repeat ((first
  | (refine Ord.cv ?_ hT9.o ?_ ?_; rotate_left; (intro w5 hS; skip; go_simp<;>rfl))
  | (refine Ord.co hT9.o ?_));try simp only [Act.put,zA,zZ,zS])
 refine Ord.ch_turn (v:=undef) 1 hT9.o rfl (by decide) (Or.inr ⟨_,rfl,by kernel_rfl⟩) (by rfl) ?_ ?_
 ·rintro w5 hC5 hA5;replace hA5:Env w0 (boxI a (av S.c M)::LT { S with qc:={ S.qc with l:=wrap64 (S.qc.l+1) } } R) w5:=hA5;have r:=hA5.rule 0 rfl;unfold av at r;have f6:=hA5.thaw 0 rfl 7 (by simp [av]);have f7:=hA5.thaw 0 rfl 8 (by simp [av]);have f8:=hA5.thaw 0 rfl 9 (by simp [av]);go_simp;have h9:=((hA5.put 0 rfl (j:=7) (by simp [av]) (.int .u64 x)).put 0 rfl (j:=8) (by simp [av]) (.int .i64 0)).put 0 rfl (j:=9) (by simp [av]) (.bool false)
  first | exact ⟨rfl,trivial,h9⟩ | exact ⟨rfl,h9⟩ | exact h9
 try simp only [Act.put,zA,zZ,zS]
 repeat ((first
  | (refine Ord.cv ?_ hT9.o ?_ ?_; rotate_left; (intro w5 hS; skip; go_simp<;>rfl))
  | (refine Ord.co hT9.o ?_));try simp only [Act.put,zA,zZ,zS])
 refine Ord.InText.nil fun w5 hS=>?_;clear hT9;obtain ⟨hC9,hA9⟩:=Ord.chain_end hS;clear hS;replace hA9:Env w0 (boxI a (av S.c { M with h:=x })::LT { S with qc:={ S.qc with l:=wrap64 (S.qc.l+1) } } R) w5:=hA9;have r:=hA9.rule 0 rfl;unfold av at r;go_wp2_with fail;refine (lead_c x 0 false _ HXU.out (hg.keep' hA9.below)).mono ?_;rintro o w6 ⟨rfl,hb⟩;replace hA9:=hA9.over hb;clear hb r;have r:=hA9.rule 0 rfl;unfold av at r
 by_cases hs:slotI x=0
 ·have hp:poolS x S.cl=3:=if_pos hs;have HP:=zH hp;have hsb:(slotI x==0)=true:=by simpa using hs
  have HS:=zH hs;clear hp hs;go_wp2_with fail;refine (end_m 0 3 (by simp [av]) hA9 rfl).mono ?_;rintro o w7 ⟨rfl,nx,hE7⟩;go_wp2_with fail;go_ret;rw [HP.out];exact ⟨rfl,nx,fun h=>absurd h (by decide),hE7⟩
 ·have hsb:(slotI x==0)=false:=by simpa using hs
  have HIL:Hid (∀ v,Env w0 (boxI a (av S.c { M with h:=x })::LT { S with qc:={ S.qc with l:=wrap64 (S.qc.l+1) } } R) v->Calls prog 229 #[.pointer (some ⟨a,0,none⟩),.agg #[.int .u64 x,.int .i64 0,.bool false]] v fun o w'=>o=.returned (.bool (decide (S.cl<=verI x)))/\Below v.heap.size v w'):=zH fun v hv=>isLast_m (S:={ S with qc:={ S.qc with l:=wrap64 (S.qc.l+1) } }) x 0 false HXU.out hg rfl hv;obtain ⟨b,hb⟩:∃ b,decide (S.cl<=verI x)=b:=⟨_,rfl⟩;rw [hb] at HIL;have HB:=zH hb;have HS:=zH hs;clear hb hs;go_wp2_with fail;refine wp_text (S:=(Env w0 (boxI a (av S.c { M with h:=x })::LT { S with qc:={ S.qc with l:=wrap64 (S.qc.l+1) } } R))) (by kernel_rfl) (by kernel_rfl) hA9.drew (fun hT=>?_);have hT9:=zH hT;clear hT
  repeat ((first
   | (refine text_value (v:=?_) hT9.o (by rfl) ?_ ?_; rotate_left; (intro w5 hS; have r:=hS.rule 0 rfl; unfold av at r; go_simp<;>rfl))
   | (refine text_off hT9.o (by rfl) ?_)
   | (refine text_call (v:=?_) (f:=?_) (args:=?_) hT9.o (by rfl) ?_ ?_ ?_; rotate_left 3; (intro w5 hS; have r:=hS.rule 0 rfl; unfold av at r; go_simp; constructor<;>rfl); (intro w5 hS; (first | (with_reducible refine kp (HIL.out _ hS) ?_ ?_; rfl; exact fun w6 hb6=>hS.over hb6)))));try simp only [Act.put,zA,zZ,zS])
  refine InText.nil fun w5 hS5=>?_;clear hT9;clear hA9 r HIL;cases b
  ·have hv:¬ S.cl<=verI x:=by simpa using HB.out
   have hp:poolS x S.cl=0:=by unfold poolS; rw [if_neg HS.out,if_neg hv]
   have HP:=zH hp;clear hp hv;go_wp2_with fail;refine (goOn_m 0 _ _ _ (by simp [av]) (by exact congrArg some hz.out) hS5 rfl).mono ?_;rintro o w7 ⟨rfl,hE7⟩;go_wp2_with fail;go_ret;rw [HP.out];exact ⟨rfl,_,fun _=>rfl,hE7⟩
  ·have hv:S.cl<=verI x:=by simpa using HB.out
   have hp:poolS x S.cl=4:=by unfold poolS; rw [if_neg HS.out,if_pos hv]
   have HP:=zH hp;clear hp hv;go_wp2_with fail;refine (end_m 0 4 (by simp [av]) hS5 rfl).mono ?_;rintro o w7 ⟨rfl,nx,hE7⟩;go_wp2_with fail;go_ret;rw [HP.out];exact ⟨rfl,nx,fun h=>absurd h (by decide),hE7⟩
theorem loadChain_a (x:Int) (hfx:S.f (5,slotI M.h,2)=x) (hh:InU M.h) (hg:Glo w0) (hz:Hid (M.nx.2=.int .i64 0)) (hE:Env w0 (boxI a (av S.c M)::LT S R) w) :
  Calls prog 327 #[.pointer (some ⟨a,0,none⟩),.iface 26 (.pointer (some ⟨S.p,0,none⟩))] w fun o w'=>o=.returned (.int .i64 0)/\Env w0 (boxI a (av S.c { M with nx:=nxA a 5,n:=x })::LT { S with qc:={ S.qc with l:=wrap64 (S.qc.l+1) } } R) w':=by
 have hmf:=makeF;have hah:=ahead_load;have HX:=zH hfx;have HGL:=zH fun (v:World) (hv:Below w0.heap.size w0 v)=>lead_c M.h 0 false v hh (hg.keep' hv);have HWF:Hid (Wf (5,slotI M.h,2)):=zH (by have:=slotI_in M.h; unfold Wf In64; simp; omega);clear hfx hh;go_enter func327,ntmps327;go_wp2_with fail;refine Ord.wc [11,14] (fun v=>Below w0.heap.size w0 v/\∃ n9 r9,Blk 0 v a (av S.c { M with n:=n9,r:=r9 })) (fun k w'=>Env w0 (pick3 (boxI a (av S.c M)::LT S R) (boxI a (av S.c M)::LT { S with qc:={ S.qc with l:=wrap64 (S.qc.l+1) } } R) (boxI a (av S.c { M with n:=x })::LT { S with qc:={ S.qc with l:=wrap64 (S.qc.l+1) } } R) k) w') ⟨hE.drew.below,M.n,M.r,hE.drew.get 0 rfl⟩ hE.drew fun hT9=>?_
 repeat ((first
  | (refine Ord.cv ?_ hT9.o ?_ ?_; rotate_left; (intro w5 hS; obtain ⟨hS0,n9,r9,hS1⟩:=hS; have r:=Blk.rule hS1; unfold av at r; go_simp<;>rfl))
  | (refine Ord.co hT9.o ?_)
  | (refine Ord.cc ?_ ?_ ?_ hT9.o ?_ ?_ ?_; rotate_left 3; (intro w5 hS; obtain ⟨hS0,n9,r9,hS1⟩:=hS; have r:=Blk.rule hS1; unfold av at r; go_simp; constructor<;>rfl); (intro w5 hS; (first | (with_reducible refine kp (HGL.out _ hS.1) ?_ ?_; rfl; exact fun w6 hb6=>⟨⟨hS.1.trans (hb6.mono hS.1.size),Exists.elim hS.2 fun n9 h=>Exists.elim h fun r9 h=>⟨n9,r9,h.under hb6⟩⟩,fun k h=>h.over hb6⟩) | (with_reducible refine kp (part_any _ _ _ _) ?_ ?_; rfl; exact fun w6 hb6=>⟨⟨hS.1.trans (hb6.mono hS.1.size),Exists.elim hS.2 fun n9 h=>Exists.elim h fun r9 h=>⟨n9,r9,h.under hb6⟩⟩,fun k h=>h.over hb6⟩)))));try simp only [Act.put,zA,zZ,zS])
 refine Ord.ch_turn (v:=.agg #[.int .u64 x,.int .i64 0,.bool false]) 0 hT9.o rfl (by decide) (Or.inl rfl) (by rfl) ?_ ?_
 ·rintro w5 hC5 hA5;replace hA5:Env w0 (boxI a (av S.c M)::LT S R) w5:=hA5;go_simp;rw [method_load];simp only [Result.andThen_ok];go_simp;simp only [Ord.LandsIn];have hl:=load_w 5 (slotI M.h) 2 0 HWF.out 3 4 (by decide) hA5 rfl rfl;rw [HX.out] at hl;refine hl.mono ?_;rintro e w6 ⟨rfl,hE6⟩;exact ⟨rfl,⟨hE6.below,M.n,M.r,hE6.get 0 rfl⟩,hE6⟩
 try simp only [Act.put,zA,zZ,zS]
 repeat ((first
  | (refine Ord.cv ?_ hT9.o ?_ ?_; rotate_left; (intro w5 hS; skip; go_simp<;>rfl))
  | (refine Ord.co hT9.o ?_));try simp only [Act.put,zA,zZ,zS])
 refine Ord.ch_turn (v:=undef) 1 hT9.o rfl (by decide) (Or.inr ⟨_,rfl,by kernel_rfl⟩) (by rfl) ?_ ?_
 ·rintro w5 hC5 hA5;replace hA5:Env w0 (boxI a (av S.c M)::LT { S with qc:={ S.qc with l:=wrap64 (S.qc.l+1) } } R) w5:=hA5;have r:=hA5.rule 0 rfl;unfold av at r;have f6:=hA5.thaw 0 rfl 10 (by simp [av]);have f7:=hA5.thaw 0 rfl 11 (by simp [av]);have f8:=hA5.thaw 0 rfl 12 (by simp [av]);go_simp;have h9:=((hA5.put 0 rfl (j:=10) (by simp [av]) (.int .u64 x)).put 0 rfl (j:=11) (by simp [av]) (.int .i64 0)).put 0 rfl (j:=12) (by simp [av]) (.bool false);replace h9:Env w0 (boxI a (av S.c { M with n:=x })::LT { S with qc:={ S.qc with l:=wrap64 (S.qc.l+1) } } R) _:=h9;exact ⟨rfl,⟨h9.below,_,_,h9.get 0 rfl⟩,h9⟩
 try simp only [Act.put,zA,zZ,zS]
 repeat ((first
  | (refine Ord.cv ?_ hT9.o ?_ ?_; rotate_left; (intro w5 hS; skip; go_simp<;>rfl))
  | (refine Ord.co hT9.o ?_));try simp only [Act.put,zA,zZ,zS])
 refine Ord.InText.nil fun w5 hS=>?_;clear hT9;obtain ⟨hC9,hA9⟩:=Ord.chain_end hS;clear hS;replace hA9:Env w0 (boxI a (av S.c { M with n:=x })::LT { S with qc:={ S.qc with l:=wrap64 (S.qc.l+1) } } R) w5:=hA9;have r:=hA9.rule 0 rfl;unfold av at r;go_wp2_with fail;refine (goOn_m 0 _ _ _ (by simp [av]) (by exact congrArg some hz.out) hA9 rfl).mono ?_;rintro o w7 ⟨rfl,hE7⟩;go_wp2_with fail;go_ret;exact ⟨rfl,hE7⟩
theorem loadRetired_a (x:Int) (hfx:S.f (5,slotI M.h,1)=x) (hh:InU M.h) (hg:Glo w0) (hz:Hid (M.nx.2=.int .i64 0)) (hE:Env w0 (boxI a (av S.c M)::LT S R) w) :
  Calls prog 334 #[.pointer (some ⟨a,0,none⟩),.iface 26 (.pointer (some ⟨S.p,0,none⟩))] w fun o w'=>o=.returned (.int .i64 0)/\Env w0 (boxI a (av S.c { M with nx:=nxA a 6,r:=x })::LT { S with qc:={ S.qc with l:=wrap64 (S.qc.l+1) } } R) w':=by
 have hmf:=makeF;have hah:=ahead_load;have HX:=zH hfx;have HGL:=zH fun (v:World) (hv:Below w0.heap.size w0 v)=>lead_c M.h 0 false v hh (hg.keep' hv);have HWF:Hid (Wf (5,slotI M.h,1)):=zH (by have:=slotI_in M.h; unfold Wf In64; simp; omega);clear hfx hh;go_enter func334,ntmps334;go_wp2_with fail;refine Ord.wc [11,14] (fun v=>Below w0.heap.size w0 v/\∃ n9 r9,Blk 0 v a (av S.c { M with n:=n9,r:=r9 })) (fun k w'=>Env w0 (pick3 (boxI a (av S.c M)::LT S R) (boxI a (av S.c M)::LT { S with qc:={ S.qc with l:=wrap64 (S.qc.l+1) } } R) (boxI a (av S.c { M with r:=x })::LT { S with qc:={ S.qc with l:=wrap64 (S.qc.l+1) } } R) k) w') ⟨hE.drew.below,M.n,M.r,hE.drew.get 0 rfl⟩ hE.drew fun hT9=>?_
 repeat ((first
  | (refine Ord.cv ?_ hT9.o ?_ ?_; rotate_left; (intro w5 hS; obtain ⟨hS0,n9,r9,hS1⟩:=hS; have r:=Blk.rule hS1; unfold av at r; go_simp<;>rfl))
  | (refine Ord.co hT9.o ?_)
  | (refine Ord.cc ?_ ?_ ?_ hT9.o ?_ ?_ ?_; rotate_left 3; (intro w5 hS; obtain ⟨hS0,n9,r9,hS1⟩:=hS; have r:=Blk.rule hS1; unfold av at r; go_simp; constructor<;>rfl); (intro w5 hS; (first | (with_reducible refine kp (HGL.out _ hS.1) ?_ ?_; rfl; exact fun w6 hb6=>⟨⟨hS.1.trans (hb6.mono hS.1.size),Exists.elim hS.2 fun n9 h=>Exists.elim h fun r9 h=>⟨n9,r9,h.under hb6⟩⟩,fun k h=>h.over hb6⟩) | (with_reducible refine kp (part_any _ _ _ _) ?_ ?_; rfl; exact fun w6 hb6=>⟨⟨hS.1.trans (hb6.mono hS.1.size),Exists.elim hS.2 fun n9 h=>Exists.elim h fun r9 h=>⟨n9,r9,h.under hb6⟩⟩,fun k h=>h.over hb6⟩)))));try simp only [Act.put,zA,zZ,zS])
 refine Ord.ch_turn (v:=.agg #[.int .u64 x,.int .i64 0,.bool false]) 0 hT9.o rfl (by decide) (Or.inl rfl) (by rfl) ?_ ?_
 ·rintro w5 hC5 hA5;replace hA5:Env w0 (boxI a (av S.c M)::LT S R) w5:=hA5;go_simp;rw [method_load];simp only [Result.andThen_ok];go_simp;simp only [Ord.LandsIn];have hl:=load_w 5 (slotI M.h) 1 0 HWF.out 3 4 (by decide) hA5 rfl rfl;rw [HX.out] at hl;refine hl.mono ?_;rintro e w6 ⟨rfl,hE6⟩;exact ⟨rfl,⟨hE6.below,M.n,M.r,hE6.get 0 rfl⟩,hE6⟩
 try simp only [Act.put,zA,zZ,zS]
 repeat ((first
  | (refine Ord.cv ?_ hT9.o ?_ ?_; rotate_left; (intro w5 hS; skip; go_simp<;>rfl))
  | (refine Ord.co hT9.o ?_));try simp only [Act.put,zA,zZ,zS])
 refine Ord.ch_turn (v:=undef) 1 hT9.o rfl (by decide) (Or.inr ⟨_,rfl,by kernel_rfl⟩) (by rfl) ?_ ?_
 ·rintro w5 hC5 hA5;replace hA5:Env w0 (boxI a (av S.c M)::LT { S with qc:={ S.qc with l:=wrap64 (S.qc.l+1) } } R) w5:=hA5;have r:=hA5.rule 0 rfl;unfold av at r;have f6:=hA5.thaw 0 rfl 13 (by simp [av]);have f7:=hA5.thaw 0 rfl 14 (by simp [av]);have f8:=hA5.thaw 0 rfl 15 (by simp [av]);go_simp;have h9:=((hA5.put 0 rfl (j:=13) (by simp [av]) (.int .u64 x)).put 0 rfl (j:=14) (by simp [av]) (.int .i64 0)).put 0 rfl (j:=15) (by simp [av]) (.bool false);replace h9:Env w0 (boxI a (av S.c { M with r:=x })::LT { S with qc:={ S.qc with l:=wrap64 (S.qc.l+1) } } R) _:=h9;exact ⟨rfl,⟨h9.below,_,_,h9.get 0 rfl⟩,h9⟩
 try simp only [Act.put,zA,zZ,zS]
 repeat ((first
  | (refine Ord.cv ?_ hT9.o ?_ ?_; rotate_left; (intro w5 hS; skip; go_simp<;>rfl))
  | (refine Ord.co hT9.o ?_));try simp only [Act.put,zA,zZ,zS])
 refine Ord.InText.nil fun w5 hS=>?_;clear hT9;obtain ⟨hC9,hA9⟩:=Ord.chain_end hS;clear hS;replace hA9:Env w0 (boxI a (av S.c { M with r:=x })::LT { S with qc:={ S.qc with l:=wrap64 (S.qc.l+1) } } R) w5:=hA9;have r:=hA9.rule 0 rfl;unfold av at r;go_wp2_with fail;refine (goOn_m 0 _ _ _ (by simp [av]) (by exact congrArg some hz.out) hA9 rfl).mono ?_;rintro o w7 ⟨rfl,hE7⟩;go_wp2_with fail;go_ret;exact ⟨rfl,hE7⟩
end
theorem nextW_in (x s:Int) (hx:InU x):InU (nextW x s):=by
 have h1:=verI_in x;unfold nextW InU;cases hs:isS s
 ·simp
 ·have h2:0<=s/\s<=8388607:=by simpa [isS] using hs
  by_cases h:verI x=1099511627775
  ·simp [h]
  ·rw [if_pos rfl,if_neg h];unfold wordI
   split
   ·simp only [bitI,Bool.false_eq_true,if_false];omega
   ·omega
theorem behind_any (x d s i:Int) (t:Bool) (hx:InU x) (w:World) (hg:Glo w):Calls prog 290 #[.agg #[.int .u64 x,.int .i64 d,.bool t],.agg #[.int .i64 s,.int .i64 i]] w fun e w'=>e=.returned (.agg #[.int .u64 (nextW x s),.int .i64 i,.bool false])/\Below w.heap.size w w':=by
 have hE:=(((Env.start w).box w.heap.size rfl [.int .u64 x,.int .i64 d,.bool t] 180).box (w.heap.size+1) (by simp) [.int .i64 s,.int .i64 i] 136).box (w.heap.size+1+1) (by simp) [.int .u64 0,.int .i64 0,.bool false] 180;have r0:=hE.rule 2 rfl;have r1:=hE.rule 1 rfl;have hn:=fun (v:World) (hv:Below w.heap.size w v)=>next_any x s v (hg.keep' hv) hx.1 hx.2;obtain ⟨y,hy⟩:∃ y,nextW x s=y:=⟨_,rfl⟩;simp only [hy] at hn ⊢;have HN:=zH hn;clear hx hg hn hy;go_enter func290,ntmps290;go_wp2_with fail;refine (HN.out _ hE.below).mono ?_;rintro o w1 ⟨rfl,hb⟩;replace hE:=hE.over hb;clear hb r0 r1;have r1:=hE.rule 1 rfl;have r2:=hE.rule 0 rfl;have f:=hE.thaw 0 rfl;have f0:=f 0 (by simp);have f1:=f 1 (by simp);have f2:=f 2 (by simp);have hP:=hE.put3 0 rfl (.int .u64 y) (.int .i64 i) (.bool false);have q:=hP.rule 0 rfl;clear f HN hE;go_wp2_with fail;exact bodyPost_ret (v:=.agg #[.int .u64 y,.int .i64 i,.bool false]) (by simp [results,results290,go_sem,q]) rfl ⟨rfl,hP.below⟩
section
variable {w0 w:World} {R:List Item} {a:Nat} {S:ST} {M:MA}
theorem takeNo_a (x:Int) (hfx:S.f (2,0,0)=x) (hxh:x≠M.h) (hh:InU M.h) (hn:InU M.n) (hg:Glo w0) (hm:S.m < maxLen) (hz:Hid (M.nx.2=.int .i64 0)) (hE:Env w0 (boxI a (av S.c M)::LT S R) w) :
  Calls prog 338 #[.pointer (some ⟨a,0,none⟩),.iface 26 (.pointer (some ⟨S.p,0,none⟩))] w fun o w'=>o=.returned (.int .i64 0)/\∃ G',Env w0 (boxI a (av S.c { M with nx:=nxA a 3 })::LT { S with G:=G',f:=swf S.f (2,0,0) M.h (nextW M.h (slotI M.n)),qc:=swq S.qc (decide (S.f (2,0,0)=M.h)),m:=S.m+1 } R) w':=by
 have hmf:=makeF;have hah:=ahead_swap;have HD:Hid (decide (S.f (2,0,0)=M.h)=false):=zH (by rw [hfx]; simpa using hxh);have hbh:=fun (v:World) (hv:Below w0.heap.size w0 v)=>behind_any M.h 0 (slotI M.n) 0 false hh v (hg.keep' hv);have hni:=nextW_in M.h (slotI M.n) hh;obtain ⟨y,hy⟩:∃ y,nextW M.h (slotI M.n)=y:=⟨_,rfl⟩;rw [hy] at hni ⊢;simp only [hy] at hbh;have HNI:=zH hni;have HBH:=zH hbh;clear hy hni hbh;have HLE:=zH fun (v:World) (hv:Below w0.heap.size w0 v)=>lead_c M.n 0 false v hn (hg.keep' hv);clear hfx hxh;go_enter func338,ntmps338;go_wp2_with fail;refine OrdF.wp_float [?_,?_,?_,?_,?_,?_,?_,?_,?_,?_,OrdF.Ptr,?_] [11] 10 (fun v=>Below w0.heap.size w0 v/\Blk 0 v a (av S.c M)) (OrdF.AF w0 [.int .u64 0,.int .i64 0,.bool false] (OrdF.Sta [fun N zs=>N=boxI a (av S.c M)::LT S R/\zs=[.int .u64 0,.int .i64 0,.bool false],fun N zs=>N=boxI a (av S.c M)::LT S R/\zs=[.int .u64 y,.int .i64 0,.bool false]])) (by kernel_rfl) (by kernel_rfl) (by kernel_rfl) ⟨hE.drew.below,hE.drew.get 0 rfl⟩ ⟨_,_,⟨_,rfl,rfl,rfl⟩,.inl ⟨rfl,rfl,hE.drew⟩⟩ (fun hT=>?_);rotate_left 11;have hT9:=zH hT;clear hT
 repeat ((first
  | (focus (refine OrdF.in_value (v:=?_) hT9.o (by decide) (by decide) ?_ (by rfl) ?_ ?_; rotate_left 2; (intro w5 hS; have r:=hS.2.rule; unfold av at r; go_simp<;>rfl); rotate_right; (focus rfl)))
  | (focus (refine OrdF.in_off hT9.o (by decide) (by decide) ?_ (by rfl) ?_; (focus rfl))));try simp only [Act.put,zA,zZ,zS])
 focus (refine OrdF.in_call (v:=.agg #[.int .i64 (slotI M.n),.int .i64 0]) (f:=?_) (args:=?_) hT9.o (by decide) (by decide) ?_ (by rfl) ?_ ?_ ?_; rotate_left 2; (focus rfl); (intro w5 hS; skip; go_simp; constructor<;>rfl); (intro w5 hS; refine (HLE.out _ hS.1).mono ?_; rintro e w6 ⟨rfl,hb6⟩; exact ⟨rfl,⟨hS.1.trans (hb6.mono hS.1.size),hS.2.under hb6⟩,fun _ _ h=>AF_over h hb6⟩); (try simp only [Act.put,zA,zZ,zS]))
 focus (refine OrdF.in_call (v:=.agg #[.int .u64 y,.int .i64 0,.bool false]) (f:=?_) (args:=?_) hT9.o (by decide) (by decide) ?_ (by rfl) ?_ ?_ ?_; rotate_left 2; (focus rfl); (intro w5 hS; skip; go_simp; constructor<;>rfl); (intro w5 hS; refine (HBH.out _ hS.1).mono ?_; rintro e w6 ⟨rfl,hb6⟩; exact ⟨rfl,⟨hS.1.trans (hb6.mono hS.1.size),hS.2.under hb6⟩,fun _ _ h=>AF_over h hb6⟩); (try simp only [Act.put,zA,zZ,zS]))
 refine OrdF.in_float OrdF.Ptr (.pointer (some ⟨0,0,none⟩)) ⟨0,rfl⟩ hT9.o rfl (by decide) ?_ (by rfl) ?_ ?_
 ·rfl
 ·intro w5 κs5 hC5 hA5;go_simp;simp only [Ord3.Lands];exact ⟨⟨_,rfl⟩,⟨hC5.1.alloc hC5.1.size _,hC5.2.more _⟩,hA5.up _⟩
 rintro _ ⟨V,rfl⟩
 try simp only [Act.put,zA,zZ,zS]
 refine OrdF.in_turn_late (by kernel_rfl) (by decide) (by decide) (fun u=>u=undef) (undef) rfl hT9.o rfl (by decide) (by rfl) ?_ (.inl rfl) (by rfl) ?_ ?_
 ·rfl
 ·rintro w5 hC5 ⟨M5,z5,⟨P5,hP5,hM5⟩,⟨hn5,_⟩ | ⟨n5,hn5,hE5⟩⟩
  ·cases hn5
  cases hn5;cases hP5;obtain ⟨rfl,rfl⟩:=hM5;have r:=hE5.rule 0 rfl; have ff:=hE5.thaw 0 rfl; have f0:=ff 0 (by simp); have f1:=ff 1 (by simp); have f2:=ff 2 (by simp); clear ff;go_simp;have hE6:=hE5.put3 0 rfl (.int .u64 y) (.int .i64 0) (.bool false); exact ⟨rfl,⟨hE6.below,hE6.get 1 rfl⟩,_,_,⟨_,rfl,rfl,rfl⟩,.inr ⟨_,rfl,hE6⟩⟩
 rintro _ rfl
 try simp only [Act.put,zA,zZ,zS]
 refine OrdF.in_nil rfl (by decide) (by decide) ?_;rintro w5 hC5 ⟨M5,z5,⟨P5,hP5,hM5⟩,⟨hn5,_⟩ | ⟨n5,hn5,hE5⟩⟩
 ·cases hn5
 cases hn5;cases hP5;obtain ⟨rfl,rfl⟩:=hM5;clear hT9;clear HBH HLE;have rV:=hE5.rule 0 rfl;have r:=hE5.rule 1 rfl;unfold av at r;have f:=hE5.thaw 0 rfl 2 (by simp);go_wp2_with fail;have hE6:=hE5.put 0 rfl (j:=2) (by simp) (.bool false);clear r rV f hE5 hE;generalize w5.setCell _ _=w6 at *;replace hE6:Env w0 (boxI V [.int .u64 y,.int .i64 0,.bool false]::boxI a (av S.c M)::LT S R) w6:=hE6;refine Ord.wc [11] (fun v=>Blk 0 v a (av S.c M)/\Blk 0 v V [.int .u64 y,.int .i64 0,.bool false]) (fun k w'=>∃ G5,Env w0 (boxI V [.int .u64 y,.int .i64 0,.bool false]::boxI a (av S.c M)::LT (if k=0 then S else { S with G:=G5,f:=swf S.f (2,0,0) M.h y,qc:=swq S.qc (decide (S.f (2,0,0)=M.h)),m:=S.m+1 }) R) w') ⟨hE6.drew.get 1 rfl,hE6.drew.get 0 rfl⟩ ⟨S.G,hE6.drew⟩ fun hT9=>?_
 repeat ((first
  | (refine Ord.cv ?_ hT9.o ?_ ?_; rotate_left; (intro w5 hS; have r:=hS.1.rule; have r1:=hS.2.rule; unfold av at r; go_simp<;>rfl))
  | (refine Ord.co hT9.o ?_)
  | (refine Ord.cc ?_ ?_ ?_ hT9.o ?_ ?_ ?_; rotate_left 3; (intro w5 hS; have r:=hS.1.rule; have r1:=hS.2.rule; unfold av at r; go_simp; constructor<;>rfl); (intro w5 hS; (first | (with_reducible refine kp (pool_any _) ?_ ?_; rfl; exact fun w6 hb6=>⟨⟨hS.1.under hb6,hS.2.under hb6⟩,fun k h=>h.elim fun G5 h=>⟨G5,h.over hb6⟩⟩) | (with_reducible refine kp (shared_any _ _ _ _) ?_ ?_; rfl; exact fun w6 hb6=>⟨⟨hS.1.under hb6,hS.2.under hb6⟩,fun k h=>h.elim fun G5 h=>⟨G5,h.over hb6⟩⟩)))));try simp only [Act.put,zA,zZ,zS])
 refine Ord.ch_turn (v:=.bool false) 0 hT9.o rfl (by decide) (Or.inl rfl) (by rfl) ?_ ?_
 ·rintro w5 hC5 ⟨G5,hA5⟩;simp only [if_true] at hA5;go_simp;rw [method_swap];simp only [Result.andThen_ok];go_simp;simp only [Ord.LandsIn];have hsw:=swap_w 2 0 0 0 M.h 0 y 0 false false (by unfold Wf In64; simp) HNI.out hm 4 5 (by decide) hA5 rfl rfl;rw [HD.out] at hsw;refine hsw.mono ?_;rintro e w6 ⟨rfl,G6,hE6⟩;rw [HD.out];exact ⟨rfl,⟨hE6.get 1 rfl,hE6.get 0 rfl⟩,G6,hE6⟩
 try simp only [Act.put,zA,zZ,zS]
 repeat ((first
  | (refine Ord.cv ?_ hT9.o ?_ ?_; rotate_left; (intro w5 hS; skip; go_simp<;>rfl))
  | (refine Ord.co hT9.o ?_));try simp only [Act.put,zA,zZ,zS])
 refine Ord.InText.nil fun w5 hS=>?_;clear hT9;obtain ⟨hC9,hA9⟩:=Ord.chain_end hS;clear hS;obtain ⟨G9,hA9⟩:=hA9;clear hC9;simp only [List.length_cons,List.length_nil,Nat.zero_add,Nat.one_ne_zero,if_false] at hA9;have r:=hA9.rule 1 rfl;unfold av at r;go_wp2_with fail;refine (goOn_m 1 _ _ _ (by simp [av]) (by exact congrArg some hz.out) hA9 rfl).mono ?_;rintro o w7 ⟨rfl,hE7⟩;go_wp2_with fail;go_ret;exact ⟨rfl,G9,hE7.sub (.cons _ (List.Sublist.refl _))⟩
theorem takeYes_a (hfx:S.f (2,0,0)=M.h) (hr:InU M.r) (hl:S.ql.length+1<=1048576) (hh:InU M.h) (hn:InU M.n) (hg:Glo w0) (hm:S.m < maxLen) (hz:Hid (M.nx.2=.int .i64 0)) (hE:Env w0 (boxI a (av S.c M)::LT S R) w) :
  Calls prog 338 #[.pointer (some ⟨a,0,none⟩),.iface 26 (.pointer (some ⟨S.p,0,none⟩))] w fun o w'=>o=.returned (.int .i64 (decS (S.ql++[(slotI M.h,epI M.r,0)]) S.ce S.cl))/\∃ nx k' F' G',(decP (S.ql++[(slotI M.h,epI M.r,0)]) S.ce S.cl≠0->nx=nxA a (decP (S.ql++[(slotI M.h,epI M.r,0)]) S.ce S.cl))/\Rm S.kq (S.ql.length+1) k'/\Env w0 (boxI a (av S.c { M with nx:=nx })::LT { S with G:=G',f:=swf S.f (2,0,0) M.h (nextW M.h (slotI M.n)),qc:=swq S.qc (decide (S.f (2,0,0)=M.h)),m:=S.m+1,ql:=S.ql++[(slotI M.h,epI M.r,0)],kq:=k',F:=F' } R) w':=by
 have hmf:=makeF;have hah:=ahead_swap;have HD:Hid (decide (S.f (2,0,0)=M.h)=true):=zH (by rw [hfx]; simp);have hlh:=fun (v:World) (hv:Below w0.heap.size w0 v)=>lead_c M.h 0 false v hh (hg.keep' hv);have hbh:=fun (v:World) (hv:Below w0.heap.size w0 v)=>behind_any M.h 0 (slotI M.n) 0 false hh v (hg.keep' hv);have hni:=nextW_in M.h (slotI M.n) hh;obtain ⟨y,hy⟩:∃ y,nextW M.h (slotI M.n)=y:=⟨_,rfl⟩;rw [hy] at hni ⊢;simp only [hy] at hbh;have HNI:=zH hni;have HBH:=zH hbh;clear hy hni hbh;obtain ⟨sl,hsl⟩:∃ sl,slotI M.h=sl:=⟨_,rfl⟩;rw [hsl];simp only [hsl] at hlh;have HLH:=zH hlh;have HRR:=zH hr;clear hsl hlh hr;have HLE:=zH fun (v:World) (hv:Below w0.heap.size w0 v)=>lead_c M.n 0 false v hn (hg.keep' hv);clear hfx;go_enter func338,ntmps338;go_wp2_with fail;refine OrdF.wp_float [?_,?_,?_,?_,?_,?_,?_,?_,?_,?_,OrdF.Ptr,?_] [11] 10 (fun v=>Below w0.heap.size w0 v/\Blk 0 v a (av S.c M)) (OrdF.AF w0 [.int .u64 0,.int .i64 0,.bool false] (OrdF.Sta [fun N zs=>N=boxI a (av S.c M)::LT S R/\zs=[.int .u64 0,.int .i64 0,.bool false],fun N zs=>N=boxI a (av S.c M)::LT S R/\zs=[.int .u64 y,.int .i64 0,.bool false]])) (by kernel_rfl) (by kernel_rfl) (by kernel_rfl) ⟨hE.drew.below,hE.drew.get 0 rfl⟩ ⟨_,_,⟨_,rfl,rfl,rfl⟩,.inl ⟨rfl,rfl,hE.drew⟩⟩ (fun hT=>?_);rotate_left 11;have hT9:=zH hT;clear hT
 repeat ((first
  | (focus (refine OrdF.in_value (v:=?_) hT9.o (by decide) (by decide) ?_ (by rfl) ?_ ?_; rotate_left 2; (intro w5 hS; have r:=hS.2.rule; unfold av at r; go_simp<;>rfl); rotate_right; (focus rfl)))
  | (focus (refine OrdF.in_off hT9.o (by decide) (by decide) ?_ (by rfl) ?_; (focus rfl))));try simp only [Act.put,zA,zZ,zS])
 focus (refine OrdF.in_call (v:=.agg #[.int .i64 (slotI M.n),.int .i64 0]) (f:=?_) (args:=?_) hT9.o (by decide) (by decide) ?_ (by rfl) ?_ ?_ ?_; rotate_left 2; (focus rfl); (intro w5 hS; skip; go_simp; constructor<;>rfl); (intro w5 hS; refine (HLE.out _ hS.1).mono ?_; rintro e w6 ⟨rfl,hb6⟩; exact ⟨rfl,⟨hS.1.trans (hb6.mono hS.1.size),hS.2.under hb6⟩,fun _ _ h=>AF_over h hb6⟩); (try simp only [Act.put,zA,zZ,zS]))
 focus (refine OrdF.in_call (v:=.agg #[.int .u64 y,.int .i64 0,.bool false]) (f:=?_) (args:=?_) hT9.o (by decide) (by decide) ?_ (by rfl) ?_ ?_ ?_; rotate_left 2; (focus rfl); (intro w5 hS; skip; go_simp; constructor<;>rfl); (intro w5 hS; refine (HBH.out _ hS.1).mono ?_; rintro e w6 ⟨rfl,hb6⟩; exact ⟨rfl,⟨hS.1.trans (hb6.mono hS.1.size),hS.2.under hb6⟩,fun _ _ h=>AF_over h hb6⟩); (try simp only [Act.put,zA,zZ,zS]))
 refine OrdF.in_float OrdF.Ptr (.pointer (some ⟨0,0,none⟩)) ⟨0,rfl⟩ hT9.o rfl (by decide) ?_ (by rfl) ?_ ?_
 ·rfl
 ·intro w5 κs5 hC5 hA5;go_simp;simp only [Ord3.Lands];exact ⟨⟨_,rfl⟩,⟨hC5.1.alloc hC5.1.size _,hC5.2.more _⟩,hA5.up _⟩
 rintro _ ⟨V,rfl⟩
 try simp only [Act.put,zA,zZ,zS]
 refine OrdF.in_turn_late (by kernel_rfl) (by decide) (by decide) (fun u=>u=undef) (undef) rfl hT9.o rfl (by decide) (by rfl) ?_ (.inl rfl) (by rfl) ?_ ?_
 ·rfl
 ·rintro w5 hC5 ⟨M5,z5,⟨P5,hP5,hM5⟩,⟨hn5,_⟩ | ⟨n5,hn5,hE5⟩⟩
  ·cases hn5
  cases hn5;cases hP5;obtain ⟨rfl,rfl⟩:=hM5;have r:=hE5.rule 0 rfl; have ff:=hE5.thaw 0 rfl; have f0:=ff 0 (by simp); have f1:=ff 1 (by simp); have f2:=ff 2 (by simp); clear ff;go_simp;have hE6:=hE5.put3 0 rfl (.int .u64 y) (.int .i64 0) (.bool false); exact ⟨rfl,⟨hE6.below,hE6.get 1 rfl⟩,_,_,⟨_,rfl,rfl,rfl⟩,.inr ⟨_,rfl,hE6⟩⟩
 rintro _ rfl
 try simp only [Act.put,zA,zZ,zS]
 refine OrdF.in_nil rfl (by decide) (by decide) ?_;rintro w5 hC5 ⟨M5,z5,⟨P5,hP5,hM5⟩,⟨hn5,_⟩ | ⟨n5,hn5,hE5⟩⟩
 ·cases hn5
 cases hn5;cases hP5;obtain ⟨rfl,rfl⟩:=hM5;clear hT9;clear HBH HLE;have rV:=hE5.rule 0 rfl;have r:=hE5.rule 1 rfl;unfold av at r;have f:=hE5.thaw 0 rfl 2 (by simp);go_wp2_with fail;have hE6:=hE5.put 0 rfl (j:=2) (by simp) (.bool false);clear r rV f hE5 hE;generalize w5.setCell _ _=w6 at *;replace hE6:Env w0 (boxI V [.int .u64 y,.int .i64 0,.bool false]::boxI a (av S.c M)::LT S R) w6:=hE6;refine Ord.wc [11] (fun v=>Blk 0 v a (av S.c M)/\Blk 0 v V [.int .u64 y,.int .i64 0,.bool false]) (fun k w'=>∃ G5,Env w0 (boxI V [.int .u64 y,.int .i64 0,.bool false]::boxI a (av S.c M)::LT (if k=0 then S else { S with G:=G5,f:=swf S.f (2,0,0) M.h y,qc:=swq S.qc (decide (S.f (2,0,0)=M.h)),m:=S.m+1 }) R) w') ⟨hE6.drew.get 1 rfl,hE6.drew.get 0 rfl⟩ ⟨S.G,hE6.drew⟩ fun hT9=>?_
 repeat ((first
  | (refine Ord.cv ?_ hT9.o ?_ ?_; rotate_left; (intro w5 hS; have r:=hS.1.rule; have r1:=hS.2.rule; unfold av at r; go_simp<;>rfl))
  | (refine Ord.co hT9.o ?_)
  | (refine Ord.cc ?_ ?_ ?_ hT9.o ?_ ?_ ?_; rotate_left 3; (intro w5 hS; have r:=hS.1.rule; have r1:=hS.2.rule; unfold av at r; go_simp; constructor<;>rfl); (intro w5 hS; (first | (with_reducible refine kp (pool_any _) ?_ ?_; rfl; exact fun w6 hb6=>⟨⟨hS.1.under hb6,hS.2.under hb6⟩,fun k h=>h.elim fun G5 h=>⟨G5,h.over hb6⟩⟩) | (with_reducible refine kp (shared_any _ _ _ _) ?_ ?_; rfl; exact fun w6 hb6=>⟨⟨hS.1.under hb6,hS.2.under hb6⟩,fun k h=>h.elim fun G5 h=>⟨G5,h.over hb6⟩⟩)))));try simp only [Act.put,zA,zZ,zS])
 refine Ord.ch_turn (v:=.bool true) 0 hT9.o rfl (by decide) (Or.inl rfl) (by rfl) ?_ ?_
 ·rintro w5 hC5 ⟨G5,hA5⟩;simp only [if_true] at hA5;go_simp;rw [method_swap];simp only [Result.andThen_ok];go_simp;simp only [Ord.LandsIn];have hsw:=swap_w 2 0 0 0 M.h 0 y 0 false false (by unfold Wf In64; simp) HNI.out hm 4 5 (by decide) hA5 rfl rfl;rw [HD.out] at hsw;refine hsw.mono ?_;rintro e w6 ⟨rfl,G6,hE6⟩;rw [HD.out];exact ⟨rfl,⟨hE6.get 1 rfl,hE6.get 0 rfl⟩,G6,hE6⟩
 try simp only [Act.put,zA,zZ,zS]
 repeat ((first
  | (refine Ord.cv ?_ hT9.o ?_ ?_; rotate_left; (intro w5 hS; skip; go_simp<;>rfl))
  | (refine Ord.co hT9.o ?_));try simp only [Act.put,zA,zZ,zS])
 refine Ord.InText.nil fun w5 hS=>?_;clear hT9;obtain ⟨hC9,hA9⟩:=Ord.chain_end hS;clear hS;obtain ⟨G9,hA9⟩:=hA9;clear hC9;simp only [List.length_cons,List.length_nil,Nat.zero_add,Nat.one_ne_zero,if_false] at hA9;have r:=hA9.rule 1 rfl;unfold av at r;go_wp2_with fail;refine (HLH.out _ hA9.below).mono ?_;rintro o w7 ⟨rfl,hb⟩;replace hA9:=hA9.over hb;have hE8:=(hA9.sub (.cons _ (List.Sublist.refl _))).box w7.heap.size rfl [.int .i64 sl,.int .i64 0] 136;clear hb r hA9 HLH;go_wp2_with fail;generalize w7.alloc _=w8 at *;generalize w7.heap.size=Y at *;have hE9:=hE8.perm (L':=boxI a (av S.c M)::LT ({ S with G:=G9,f:=swf S.f (2,0,0) M.h y,qc:=swq S.qc (decide (S.f (2,0,0)=M.h)),m:=S.m+1 }:ST) (boxI Y [.int .i64 sl,.int .i64 0]::R)) (List.perm_middle (l₁:=[boxI a (av S.c M),_,_,_,_])).symm;clear hE8;refine Ord.wc [11] (fun v=>(∃ nx,Blk 0 v a (av S.c { M with nx:=nx }))/\Blk 0 v Y [.int .i64 sl,.int .i64 0]) (fun k w'=>∃ nx k' F',(k≠0->(decP (S.ql++[(sl,epI M.r,0)]) S.ce S.cl≠0->nx=nxA a (decP (S.ql++[(sl,epI M.r,0)]) S.ce S.cl))/\Rm S.kq (S.ql.length+1) k')/\(k=0->Hid (nx.2=.int .i64 0))/\Env w0 (boxI a (av S.c { M with nx:=nx })::LT (if k=0 then ({ S with G:=G9,f:=swf S.f (2,0,0) M.h y,qc:=swq S.qc (decide (S.f (2,0,0)=M.h)),m:=S.m+1 }:ST) else { S with G:=G9,f:=swf S.f (2,0,0) M.h y,qc:=swq S.qc (decide (S.f (2,0,0)=M.h)),m:=S.m+1,ql:=S.ql++[(sl,epI M.r,0)],kq:=k',F:=F' }) (boxI Y [.int .i64 sl,.int .i64 0]::R)) w') ⟨⟨M.nx,hE9.drew.get 0 rfl⟩,hE9.drew.get 5 rfl⟩ ⟨M.nx,0,S.F,fun h=>absurd rfl h,fun _=>hz,hE9.drew⟩ fun hT9=>?_
 repeat ((first
  | (refine Ord.cv ?_ hT9.o ?_ ?_; rotate_left; (intro w5 hS; obtain ⟨⟨nx9,hS1⟩,hS2⟩:=hS; have r:=hS1.rule; have r1:=hS2.rule; unfold av at r; go_simp<;>rfl))
  | (refine Ord.co hT9.o ?_)
  | (refine Ord.cc ?_ ?_ ?_ hT9.o ?_ ?_ ?_; rotate_left 3; (intro w5 hS; obtain ⟨⟨nx9,hS1⟩,hS2⟩:=hS; have r:=hS1.rule; have r1:=hS2.rule; unfold av at r; go_simp; constructor<;>rfl); (intro w5 hS; (first | (with_reducible refine kp (epochOf_any _ _ _ HRR.out _) ?_ ?_; rfl; exact fun w6 hb6=>⟨⟨hS.1.elim fun nx9 h=>⟨nx9,h.under hb6⟩,hS.2.under hb6⟩,fun k h=>h.elim fun nx8 h=>h.elim fun k8 h=>h.elim fun F8 h=>⟨nx8,k8,F8,h.1,h.2.1,h.2.2.over hb6⟩⟩)))));try simp only [Act.put,zA,zZ,zS])
 refine Ord.ch_turn (v:=.int .i64 (decS (S.ql++[(sl,epI M.r,0)]) S.ce S.cl)) 0 hT9.o rfl (by decide) (Or.inl rfl) (by rfl) ?_ ?_
 ·rintro w5 hC5 ⟨nx5,k5,F5,-,hz5,hA5⟩;obtain ⟨⟨nx9,hS1⟩,hS2⟩:=hC5;simp only [if_true] at hA5;go_simp;simp only [Ord.LandsIn];refine (came_a (S:=({ S with G:=G9,f:=swf S.f (2,0,0) M.h y,qc:=swq S.qc (decide (S.f (2,0,0)=M.h)),m:=S.m+1 }:ST)) sl (epI M.r) hl (hz5 rfl) hA5).mono ?_;rintro e w6 ⟨rfl,nx,k',F',hnx,hrm,hE6⟩
  first | exact ⟨rfl,⟨⟨_,hE6.get 0 rfl⟩,hE6.get 5 rfl⟩,nx,k',⟨hnx,hrm⟩,F',hE6⟩ | exact ⟨rfl,⟨⟨nx.1,nx.2,hE6.get 0 rfl⟩,hE6.get 5 rfl⟩,nx.1,nx.2,k',⟨hnx,hrm⟩,F',hE6⟩ | exact ⟨rfl,⟨⟨nx.1,nx.2,hE6.get 0 rfl⟩,hE6.get 5 rfl⟩,nx,k',⟨hnx,hrm⟩,F',hE6⟩
 try simp only [Act.put,zA,zZ,zS]
 repeat ((first
  | (refine Ord.cv ?_ hT9.o ?_ ?_; rotate_left; (intro w5 hS; skip; go_simp<;>rfl))
  | (refine Ord.co hT9.o ?_));try simp only [Act.put,zA,zZ,zS])
 refine Ord.InText.nil fun w5 hS=>?_;clear hT9;obtain ⟨hC9,hA9⟩:=Ord.chain_end hS;clear hS;obtain ⟨nx,k',F',hc9,-,hA9⟩:=hA9;obtain ⟨hnx,hrm⟩:=hc9 (by decide);simp only [List.length_cons,List.length_nil,Nat.zero_add,Nat.one_ne_zero,if_false] at hA9;clear hC9 hc9;go_wp2_with fail;go_ret;exact ⟨rfl,nx,k',F',G9,hnx,hrm,hA9.sub (.cons_cons _ (.cons_cons _ (.cons_cons _ (.cons_cons _ (.cons_cons _ (.cons _ (List.Sublist.refl _)))))))⟩
end
def rtv (c:Nat) (nx:Value × Value) (s e:Int):List Value:=[.pointer (some ⟨c,0,none⟩),nx.1,nx.2,.int .i64 s,.int .i64 0,.int .u64 e,.int .i64 0,.bool false]
def fnR (pc:Nat):Nat:=if pc=0 then 331 else 335
def nxR (a pc:Nat):Value × Value:=(mvL (fnR pc) a,.int .i64 0)
theorem enters_fnR (pc:Nat) (ar:Array Value) (v:World):(callFunc (fnR pc) ar).run prog v=.ok (.enter (fnR pc) ar) v:=by
 unfold fnR
 split
 all_goals kernel_rfl
section
variable {w0 w:World} {R:List Item} {a:Nat} {S:ST} {nx:Value × Value} {s e:Int}
theorem step_r (pc:Nat) (u:Value) (Q:Ending->World->Prop) (hE:Env w0 (boxI a (rtv S.c nx s e)::LT S R) w) (hnx:nx=nxR a pc)
  (hc:Calls prog (fnR pc) #[.pointer (some ⟨a,0,none⟩),u] w fun e w'=>∃ s,e=.returned (.int .i64 s)/\Q (.returned (.int .i64 s)) w') :
  Calls prog 322 #[.pointer (some ⟨a,0,none⟩),u] w Q:=by
 have hn:w.cell? ⟨a,1,none⟩=some (.func (.func (fnR pc)) #[.pointer (some ⟨a,0,none⟩)] #[]):=by
  have:=hE.rule 0 rfl 1;rw [this,show (rtv S.c nx s e)[1]?=some nx.1 from rfl,hnx];rfl
 have hs0:w.cell? ⟨a,1+1,none⟩=some (.int .i64 0):=by
  have:=hE.rule 0 rfl 2;rw [this,show (rtv S.c nx s e)[2]?=some nx.2 from rfl,hnx];rfl
 have hst:=stepMv_r (o:=1) (fnR pc) (enters_fnR pc) (.pointer (some ⟨a,0,none⟩)) u (fun o w'=>∃ s,o=.returned (.int .i64 s)/\Q (.returned (.int .i64 s)) w') hn hs0 (hc.mono fun e w' ⟨s,he,hq⟩=>⟨s,he,s,rfl,hq⟩);have HST:=zH hst;clear hst hc;go_enter func322,ntmps322;go_wp2_with fail;refine HST.out.mono ?_;rintro o w1 ⟨s,rfl,hQ⟩;go_wp2_with fail;exact hQ
theorem step_ry {st:Int} {Y:World->Prop} (pc:Nat) (u:Value) (hE:Env w0 (boxI a (rtv S.c nx s e)::LT S R) w) (hnx:nx=nxR a pc)
  (hc:Calls prog (fnR pc) #[.pointer (some ⟨a,0,none⟩),u] w fun o w'=>o=.returned (.int .i64 st)/\Y w') :
  Calls prog 322 #[.pointer (some ⟨a,0,none⟩),u] w fun o w'=>o=.returned (.int .i64 st)/\Y w' :=
 step_r pc u _ hE hnx (hc.mono fun _ _ h=>⟨st,h.1,rfl,h.2⟩)
theorem new_r (d:Int) {L:List Item} {c:Nat} (hE:Env w0 L w) :
  Calls prog 321 #[.pointer (some ⟨c,0,none⟩),.agg #[.int .i64 d,.int .i64 0]] w fun o w'=>∃ a,o=.returned (.pointer (some ⟨a,0,none⟩))/\Env w0 (boxI a (rtv c (nxR a 0) d 0)::L) w':=by
 have hmf:=makeF;have hE0:=hE.box w.heap.size rfl [.int .i64 d,.int .i64 0] 136;have hE1:=hE0.box (w.heap.size+1) (by simp) (rtv c (.nilFunc,.int .i64 0) d 0) 358;have r0:=hE0.rule 0 rfl;have hgo:=goOn_m (fn:=.func 331) (fs:=#[.pointer (some ⟨w.heap.size+1,0,none⟩)]) (cs:=#[]) 0 (by simp [rtv]) rfl hE1 rfl;have HGO:=zH hgo;clear hE hE0 hE1 hgo;go_enter func321,ntmps321;go_wp2_with fail;refine HGO.out.mono ?_;rintro o w1 ⟨rfl,hE2⟩;go_wp2_with fail;go_ret;exact ⟨_,rfl,hE2.sub (.cons_cons _ (.cons _ (List.Sublist.refl _)))⟩
theorem loadEpoch_r (x:Int) (hfx:S.f (1,0,0)=x) (hz:Hid (nx.2=.int .i64 0)) (hE:Env w0 (boxI a (rtv S.c nx s e)::LT S R) w) :
  Calls prog 331 #[.pointer (some ⟨a,0,none⟩),.iface 26 (.pointer (some ⟨S.p,0,none⟩))] w fun o w'=>o=.returned (.int .i64 0)/\Env w0 (boxI a (rtv S.c (nxR a 1) s x)::LT { S with qc:={ S.qc with l:=wrap64 (S.qc.l+1) } } R) w':=by
 have hmf:=makeF;have hah:=ahead_load;have HX:=zH hfx;clear hfx;go_enter func331,ntmps331;go_wp2_with fail;refine Ord.wc [7,10] (fun _=>True) (fun k w'=>Env w0 (pick3 (boxI a (rtv S.c nx s e)::LT S R) (boxI a (rtv S.c nx s e)::LT { S with qc:={ S.qc with l:=wrap64 (S.qc.l+1) } } R) (boxI a (rtv S.c nx s x)::LT { S with qc:={ S.qc with l:=wrap64 (S.qc.l+1) } } R) k) w') trivial hE.drew fun hT9=>?_
 repeat ((first
  | (refine Ord.cv ?_ hT9.o ?_ ?_; rotate_left; (intro w5 hS; skip; go_simp<;>rfl))
  | (refine Ord.co hT9.o ?_)
  | (refine Ord.cc ?_ ?_ ?_ hT9.o ?_ ?_ ?_; rotate_left 3; (intro w5 hS; skip; go_simp; constructor<;>rfl); (intro w5 hS; (first | (with_reducible refine kp (epoch_any _) ?_ ?_; rfl; exact fun w6 hb6=>⟨trivial,fun k h=>h.over hb6⟩) | (with_reducible refine kp (shared_any _ _ _ _) ?_ ?_; rfl; exact fun w6 hb6=>⟨trivial,fun k h=>h.over hb6⟩)))));try simp only [Act.put,zA,zZ,zS])
 refine Ord.ch_turn (v:=.agg #[.int .u64 x,.int .i64 0,.bool false]) 0 hT9.o rfl (by decide) (Or.inl rfl) (by rfl) ?_ ?_
 ·rintro w5 hC5 hA5;replace hA5:Env w0 (boxI a (rtv S.c nx s e)::LT S R) w5:=hA5;go_simp;rw [method_load];simp only [Result.andThen_ok];go_simp;simp only [Ord.LandsIn];have hl:=load_w 1 0 0 0 (by unfold Wf In64; simp) 3 4 (by decide) hA5 rfl rfl;rw [HX.out] at hl;refine hl.mono ?_;rintro e w6 ⟨rfl,hE6⟩;exact ⟨rfl,hE6⟩
 try simp only [Act.put,zA,zZ,zS]
 repeat ((first
  | (refine Ord.cv ?_ hT9.o ?_ ?_; rotate_left; (intro w5 hS; skip; go_simp<;>rfl))
  | (refine Ord.co hT9.o ?_));try simp only [Act.put,zA,zZ,zS])
 refine Ord.ch_turn (v:=undef) 1 hT9.o rfl (by decide) (Or.inr ⟨_,rfl,by kernel_rfl⟩) (by rfl) ?_ ?_
 ·rintro w5 hC5 hA5;replace hA5:Env w0 (boxI a (rtv S.c nx s e)::LT { S with qc:={ S.qc with l:=wrap64 (S.qc.l+1) } } R) w5:=hA5;have r:=hA5.rule 0 rfl;unfold rtv at r;have f6:=hA5.thaw 0 rfl 5 (by simp [rtv]);have f7:=hA5.thaw 0 rfl 6 (by simp [rtv]);have f8:=hA5.thaw 0 rfl 7 (by simp [rtv]);go_simp;have h9:=((hA5.put 0 rfl (j:=5) (by simp [rtv]) (.int .u64 x)).put 0 rfl (j:=6) (by simp [rtv]) (.int .i64 0)).put 0 rfl (j:=7) (by simp [rtv]) (.bool false);exact ⟨rfl,h9⟩
 try simp only [Act.put,zA,zZ,zS]
 repeat ((first
  | (refine Ord.cv ?_ hT9.o ?_ ?_; rotate_left; (intro w5 hS; skip; go_simp<;>rfl))
  | (refine Ord.co hT9.o ?_));try simp only [Act.put,zA,zZ,zS])
 refine Ord.InText.nil fun w5 hS=>?_;clear hT9;obtain ⟨hC9,hA9⟩:=Ord.chain_end hS;clear hS;replace hA9:Env w0 (boxI a (rtv S.c nx s x)::LT { S with qc:={ S.qc with l:=wrap64 (S.qc.l+1) } } R) w5:=hA9;have r:=hA9.rule 0 rfl;unfold rtv at r;go_wp2_with fail;refine (goOn_m 0 _ _ _ (by simp [rtv]) (by exact congrArg some hz.out) hA9 rfl).mono ?_;rintro o w7 ⟨rfl,hE7⟩;go_wp2_with fail;go_ret;exact ⟨rfl,hE7⟩
theorem store_r (he:InU e) (hs:In64 s) (hm:S.m < maxLen) (hl:S.ql.length+1<=1048576) (hE:Env w0 (boxI a (rtv S.c nx s e)::LT S R) w) :
  Calls prog 335 #[.pointer (some ⟨a,0,none⟩),.iface 26 (.pointer (some ⟨S.p,0,none⟩))] w fun o w'=>o=.returned (.int .i64 1)/\∃ k' F' G',Rm S.kq (S.ql.length+1) k'/\Env w0 (LT { S with G:=G',f:=upd S.f (5,s,1) e,qc:={ S.qc with s:=wrap64 (S.qc.s+1) },m:=S.m+1,ql:=S.ql++[(s,epI e,0)],kq:=k',F:=F' } R) w':=by
 have hmf:=makeF;have hah:=ahead_store;have HWF:Hid (Wf (5,s,1)):=zH (by unfold Wf; exact ⟨by unfold In64; simp,hs,by unfold In64; simp⟩);have HIE:=zH he;clear he hs;go_enter func335,ntmps335;go_wp2_with fail;refine Ord.wc [13] (fun v=>Blk 0 v a (rtv S.c nx s e)) (fun k w'=>∃ G5,Env w0 (boxI a (rtv S.c nx s e)::LT (if k=0 then S else { S with G:=G5,f:=upd S.f (5,s,1) e,qc:={ S.qc with s:=wrap64 (S.qc.s+1) },m:=S.m+1 }) R) w') (hE.drew.get 0 rfl) ⟨S.G,hE.drew⟩ fun hT9=>?_
 repeat ((first
  | (refine Ord.cv ?_ hT9.o ?_ ?_; rotate_left; (intro w5 hS; have r:=hS.rule; unfold rtv at r; go_simp<;>rfl))
  | (refine Ord.co hT9.o ?_)
  | (refine Ord.cc ?_ ?_ ?_ hT9.o ?_ ?_ ?_; rotate_left 3; (intro w5 hS; have r:=hS.rule; unfold rtv at r; go_simp; constructor<;>rfl); (intro w5 hS; (first | (with_reducible refine kp (part_any _ _ _ _) ?_ ?_; rfl; exact fun w6 hb6=>⟨hS.under hb6,fun k h=>h.elim fun G5 h=>⟨G5,h.over hb6⟩⟩)))));try simp only [Act.put,zA,zZ,zS])
 refine Ord.ch_turn (v:=.tuple #[]) 0 hT9.o rfl (by decide) (Or.inl rfl) (by rfl) ?_ ?_
 ·rintro w5 hC5 ⟨G5,hA5⟩;simp only [if_true] at hA5;go_simp;rw [method_store];simp only [Result.andThen_ok];go_simp;simp only [Ord.LandsIn];refine (store_w 5 s 1 0 e 0 false HWF.out HIE.out hm 3 4 (by decide) hA5 rfl rfl).mono ?_;rintro e w6 ⟨rfl,G6,hE6⟩;exact ⟨rfl,hE6.get 0 rfl,G6,hE6⟩
 try simp only [Act.put,zA,zZ,zS]
 repeat ((first
  | (refine Ord.cv ?_ hT9.o ?_ ?_; rotate_left; (intro w5 hS; skip; go_simp<;>rfl))
  | (refine Ord.co hT9.o ?_));try simp only [Act.put,zA,zZ,zS])
 refine Ord.InText.nil fun w5 hS=>?_;clear hT9;obtain ⟨hC9,hA9⟩:=Ord.chain_end hS;clear hS;obtain ⟨G9,hA9⟩:=hA9;simp only [List.length_cons,List.length_nil,Nat.zero_add,Nat.one_ne_zero,if_false] at hA9;clear hC9 hE;go_wp2_with fail;refine Ord3.wp_chain [?_,?_,?_,?_,?_,?_,?_,?_,?_,?_,?_,?_,?_,?_,?_,?_,?_,?_,?_,?_,?_,?_,?_,?_] [22,23] (fun w'=>Blk 0 w' a (rtv S.c nx s e)/\Blk 0 w' S.c (crv S.ck S.cs S.cb S.ch S.cl S.ce S.cr S.hs 0 S.q)) (Ord3.Stage fun κs=>[Env w0 (boxI a (rtv S.c nx s e)::LT { S with G:=G9,f:=upd S.f (5,s,1) e,qc:={ S.qc with s:=wrap64 (S.qc.s+1) },m:=S.m+1 } R),fun w'=>∃ z,κs.getD 0 undef=.slice (some ⟨z,0,none⟩) 1 1/\Env w0 (boxI z [.int .i64 s,.int .i64 (epI e),.int .i64 0]::boxI a (rtv S.c nx s e)::LT { S with G:=G9,f:=upd S.f (5,s,1) e,qc:={ S.qc with s:=wrap64 (S.qc.s+1) },m:=S.m+1 } R) w',fun w'=>∃ k',Rm S.kq (S.ql.length+1) k'/\∃ F' z,Env w0 (boxI z [.int .i64 s,.int .i64 (epI e),.int .i64 0]::boxI a (rtv S.c nx s e)::LT { S with G:=G9,f:=upd S.f (5,s,1) e,qc:={ S.qc with s:=wrap64 (S.qc.s+1) },m:=S.m+1,ql:=S.ql++[(s,epI e,0)],kq:=k',F:=F' } R) w']) (by kernel_rfl) (by kernel_rfl) (by kernel_rfl) ⟨hA9.drew.get 0 rfl,hA9.drew.get 1 rfl⟩ ⟨_,rfl,hA9.drew⟩ (fun hT=>?_);rotate_left 24;have hT9:=zH hT;clear hT
 repeat ((first
  | (focus (refine Ord3.in_value (v:=?_) hT9.o (by decide) ?_ (by rfl) ?_ ?_; rotate_left 2; (intro w5 hS; have r1:=Blk.rule hS.1; unfold rtv at r1; go_simp<;>rfl); rotate_right; (focus rfl)))
  | (focus (refine Ord3.in_off hT9.o (by decide) ?_ (by rfl) ?_; (focus rfl)))
  | (focus (refine Ord3.in_call (v:=?_) (f:=?_) (args:=?_) hT9.o (by decide) ?_ (by rfl) ?_ ?_ ?_; rotate_left 4; (intro w5 hS; have r1:=Blk.rule hS.1; unfold rtv at r1; go_simp; constructor<;>rfl); (intro w5 hS; (first | (with_reducible refine (queue_c hS.2).mono ?_; rintro o w6 ⟨rfl,rfl⟩; constructor; rfl; exact ⟨hS,fun _ h=>h⟩) | (with_reducible refine kp (epochOf_any _ _ _ HIE.out _) ?_ ?_; rfl; exact fun w6 hb6=>⟨⟨hS.1.under hb6,hS.2.under hb6⟩,fun κs h=>Ord3.Stage.three h (fun h=>h.over hb6) (fun h=>h.elim fun z h=>⟨z,h.1,h.2.over hb6⟩) (fun h=>h.elim fun k h=>⟨k,h.1,h.2.elim fun F h=>⟨F,h.elim fun z h=>⟨z,h.over hb6⟩⟩⟩)⟩))); rotate_right; (focus rfl))));try simp only [Act.put,zA,zZ,zS])
 refine Ord3.in_turn (fun u=>∃ z,u=.slice (some ⟨z,0,none⟩) 1 1) _ ⟨0,rfl⟩ hT9.o rfl (by decide) (by rfl) ?_ (Or.inl rfl) (by rfl) ?_ ?_
 ·rfl
 ·rintro w7 hC7 ⟨P7,hP7,hA7⟩;cases hP7;go_simp;simp only [Ord3.Lands];have hE8:=hA7.box w7.heap.size rfl [.int .i64 s,.int .i64 (epI e),.int .i64 0] 158;exact ⟨⟨_,rfl⟩,⟨hE8.get 1 rfl,hE8.get 2 rfl⟩,_,rfl,w7.heap.size,rfl,hE8⟩
 rintro _ ⟨z9,rfl⟩
 try simp only [Act.put,zA,zZ,zS]
 refine Ord3.in_turn (fun u=>u=.int .i64 0) _ rfl hT9.o rfl (by decide) (by rfl) ?_ (Or.inr ⟨_,22,[],rfl,by kernel_rfl,by kernel_rfl,rfl⟩) (by rfl) ?_ ?_
 ·rfl
 ·rintro w7 hC7 ⟨P7,hP7,hA7⟩;cases hP7;obtain ⟨z8,he,hA7⟩:=hA7;cases he;go_simp;simp only [Ord3.Lands];have hA:Row3 w7 (some ⟨z9,0,none⟩) [(s,epI e,0)]:=Blk.row3 (l:=[(s,epI e,0)]) (hA7.get 0 rfl);refine (push_any (l:=S.ql) (xs:=[(s,epI e,0)]) (A:=some ⟨z9,0,none⟩) (cap:=1) (by simp; omega) hA (fun _ b hb hFb=>?_) (hA7.queue 3 rfl)).mono ?_
  ·obtain ⟨off,he⟩:=hb;cases he;exact (hA7.off (i:=0) (j:=3) rfl rfl (by omega)) z9 rfl hFb
  rintro o w8 ⟨rfl,k8,F8,hrm,hQ8,hs8⟩;have hE8:=hA7.turnQ 3 rfl hQ8 hs8;exact ⟨_,rfl,rfl,⟨hE8.get 1 rfl,hE8.get 2 rfl⟩,_,rfl,k8,by simpa using hrm,F8,z9,hE8⟩
 rintro _ rfl
 try simp only [Act.put,zA,zZ,zS]
 refine Ord3.in_nil rfl ?_;rintro w9 hC9 ⟨P9,hP9,hA8⟩;cases hP9;obtain ⟨k8,hrm,F8,z8,hA8⟩:=hA8;clear hT9 hC9 hA9;have hE9:=hA8.sub (.cons _ (List.Sublist.refl _));have r:=hE9.rule 0 rfl;unfold rtv at r;go_wp2_with fail;refine (end_m 0 1 (by simp [rtv]) hE9 rfl).mono ?_;rintro o w10 ⟨rfl,nx',hE10⟩;go_wp2_with fail;go_ret;exact ⟨rfl,k8,F8,G9,hrm,hE10.sub (.cons _ (List.Sublist.refl _))⟩
end
def mvE (a o:Nat):Value:=.func (.func 194) #[.pointer (some ⟨a,o,none⟩)] #[]
section
variable {w0 w:World} {R L:List Item} {l:Nat} {S:ST} {nx:Value} {x y z W C X k key to:Int}
theorem mark_k (hX:InU X) (hmk:markB X=false) (hs0:S.hs=0) (hC:In64 C) (hg:Glo w0) (hm:S.m < maxLen) (hE:Env w0 (boxI l (ukC S.c x y z W C X k key to nx 0)::LT S R) w) :
  Calls prog 260 #[.pointer (some ⟨l,0,none⟩),.iface 26 (.pointer (some ⟨S.p,0,none⟩))] w fun o w'=>o=.returned (.int .i64 (if S.f (5,C,7)=X then 0 else 2))/\∃ G' nx',(S.f (5,C,7)=X->nx'=mvL 287 l)/\Env w0 (boxI l (ukC S.c x y z W C X k key to nx' (if S.f (5,C,7)=X then 0 else 2))::LT { S with G:=G',f:=swf S.f (5,C,7) X (wordI true to S.ce),qc:=swq S.qc (decide (S.f (5,C,7)=X)),m:=S.m+1 } R) w':=by
 have hmf:=makeF;have hah:=ahead_swap;have hb:(S.hs != 0)=false:=by simpa using hs0
 have HWF:Hid (Wf (5,C,7)):=zH (by unfold Wf; exact ⟨by show In64 5; unfold In64; omega,hC,by show In64 7; unfold In64; omega⟩);have hqi:InU (wordI true to S.ce):=wordI_in _ _ _;have hto:=fun (v:World) (hv:Below w0.heap.size w0 v) (hb:Blk 0 v S.c (crv S.ck S.cs S.cb S.ch S.cl S.ce S.cr S.hs 0 S.q))=>markNew_c X 0 false to 0 hX hmk (hg.keep' hv) hb;obtain ⟨q,hq⟩:∃ q,wordI true to S.ce=q:=⟨_,rfl⟩;rw [hq] at hqi ⊢;simp only [hq] at hto;have HQI:=zH hqi;have HTO:=zH hto;clear hq hqi hto hg hs0 hmk hC;obtain ⟨dd,hdd⟩:∃ dd,decide (S.f (5,C,7)=X)=dd:=⟨_,rfl⟩;have hds:(if S.f (5,C,7)=X then (0:Int) else 2)=if dd then 0 else 2:=by rw [<- hdd]; by_cases h:S.f (5,C,7)=X<;>simp [h]
 have hdp:S.f (5,C,7)=X ↔ dd=true:=by rw [<- hdd]; simp
 rw [hds,hdd];simp only [hdp];clear hds hdp;have HDD:=zH hdd;clear hdd hX;go_enter func260,ntmps260;go_wp2_with fail;refine Ord.wc [29] (fun v=>Below w0.heap.size w0 v/\Blk 0 v l (ukC S.c x y z W C X k key to nx 0)/\Blk 0 v S.c (crv S.ck S.cs S.cb S.ch S.cl S.ce S.cr S.hs 0 S.q)) (fun k9 w'=>∃ G5,Env w0 (boxI l (ukC S.c x y z W C X k key to nx 0)::LT (if k9=0 then S else { S with G:=G5,f:=swf S.f (5,C,7) X q,qc:=swq S.qc dd,m:=S.m+1 }) R) w') ⟨hE.drew.below,hE.drew.get 0 rfl,hE.drew.get 1 rfl⟩ ⟨S.G,hE.drew⟩ fun hT9=>?_
 repeat ((first
  | (refine Ord.cv ?_ hT9.o ?_ ?_; rotate_left; (intro w5 hS; have r:=hS.2.1.rule; unfold ukC at r; go_simp<;>rfl))
  | (refine Ord.co hT9.o ?_)
  | (refine Ord.cc ?_ ?_ ?_ hT9.o ?_ ?_ ?_; rotate_left 3; (intro w5 hS; have r:=hS.2.1.rule; unfold ukC at r; go_simp; constructor<;>rfl); (intro w5 hS; (first | (with_reducible refine kp (linkOf_any _ _ _) ?_ ?_; rfl; exact fun w6 hb6=>⟨⟨hS.1.trans (hb6.mono hS.1.size),hS.2.1.under hb6,hS.2.2.under hb6⟩,fun k h=>h.elim fun G5 h=>⟨G5,h.over hb6⟩⟩) | (with_reducible refine kp (HTO.out _ hS.1 hS.2.2) ?_ ?_; rfl; exact fun w6 hb6=>⟨⟨hS.1.trans (hb6.mono hS.1.size),hS.2.1.under hb6,hS.2.2.under hb6⟩,fun k h=>h.elim fun G5 h=>⟨G5,h.over hb6⟩⟩)))));try simp only [Act.put,zA,zZ,zS])
 refine Ord.ch_turn (v:=.bool dd) 0 hT9.o rfl (by decide) (Or.inl rfl) (by rfl) ?_ ?_
 ·rintro w5 hC5 ⟨G5,hA5⟩;simp only [if_true] at hA5;go_simp;rw [method_swap];simp only [Result.andThen_ok];go_simp;simp only [Ord.LandsIn];have hsw:=swap_w 5 C 7 0 X 0 q 0 false false HWF.out HQI.out hm 3 4 (by decide) hA5 rfl rfl;rw [HDD.out] at hsw;refine hsw.mono ?_;rintro e w6 ⟨rfl,G6,hE6⟩;exact ⟨rfl,⟨hE6.below,hE6.get 0 rfl,hE6.get 1 rfl⟩,G6,hE6⟩
 try simp only [Act.put,zA,zZ,zS]
 repeat ((first
  | (refine Ord.cv ?_ hT9.o ?_ ?_; rotate_left; (intro w5 hS; skip; go_simp<;>rfl))
  | (refine Ord.co hT9.o ?_));try simp only [Act.put,zA,zZ,zS])
 refine Ord.InText.nil fun w5 hS=>?_;clear hT9;obtain ⟨hC9,hA9⟩:=Ord.chain_end hS;clear hS;obtain ⟨G9,hA9⟩:=hA9;simp only [List.length_cons,List.length_nil,Nat.zero_add,Nat.one_ne_zero,if_false] at hA9;clear hC9 hE HTO HDD;have r:=hA9.rule 0 rfl;unfold ukC at r;cases dd
 ·go_wp2_with fail;refine (end_r (o:=17) 0 2 (by simp [ukC]) hA9 rfl).mono ?_;rintro o w5 ⟨rfl,hE5⟩;go_wp2_with fail;go_ret
  first | exact ⟨rfl,G9,nx,fun h=>absurd h (by decide),hE5⟩ | exact ⟨rfl,G9,nx,hE5⟩
 ·go_wp2_with fail;refine (held_c (hA9.get 1 rfl)).mono ?_;rintro o w4 ⟨rfl,hb1⟩;rw [hb];have hE2:=(hA9.over hb1).box w4.heap.size rfl [.int .i64 S.hs,.int .i64 0] 136;clear hb1 hA9 r hb;go_wp2_with fail;generalize w4.alloc _=w6 at *;generalize w4.heap.size=Y at *;obtain ⟨S2,hS2⟩:∃ S2:ST,{ S with G:=G9,f:=swf S.f (5,C,7) X q,qc:=swq S.qc true,m:=S.m+1 }=S2:=⟨_,rfl⟩;rw [hS2] at hE2;have HS2:=zH hS2;clear hS2;refine wp_text (S:=(Env w0 (boxI Y [.int .i64 S.hs,.int .i64 0]::boxI l (ukC S.c x y z W C X k key to nx 0)::LT S2 R))) (by kernel_rfl) (by kernel_rfl) hE2.drew (fun hT=>?_);have hT9:=zH hT;clear hT
  repeat ((first
   | (refine text_value (v:=?_) hT9.o (by rfl) ?_ ?_; rotate_left; (intro w5 hS; have r:=hS.rule 1 rfl; have r1:=hS.rule 0 rfl; unfold ukC at r; go_simp<;>rfl))
   | (refine text_off hT9.o (by rfl) ?_)
   | (refine text_call (v:=?_) (f:=?_) (args:=?_) hT9.o (by rfl) ?_ ?_ ?_; rotate_left 3; (intro w5 hS; have r:=hS.rule 1 rfl; have r1:=hS.rule 0 rfl; unfold ukC at r; go_simp; constructor<;>rfl); (intro w5 hS; (first | fail))));try simp only [Act.put,zA,zZ,zS])
  refine InText.nil fun w5 hS5=>?_;clear hT9;clear hE2;go_wp2_with fail;refine (goOn_r (o:=17) 1 _ _ _ (by simp [ukC]) hS5 rfl).mono ?_;rintro o w7 ⟨rfl,hE7⟩;go_wp2_with fail;go_ret;have h2:=HS2.out;subst h2
  first | exact ⟨rfl,G9,_,fun _=>rfl,hE7.sub (.cons _ (List.Sublist.refl _))⟩ | exact ⟨rfl,G9,_,rfl,hE7.sub (.cons _ (List.Sublist.refl _))⟩ | exact ⟨rfl,G9,hE7.sub (.cons _ (List.Sublist.refl _))⟩
theorem retire_k (u:Int) (hE:Env w0 (boxI l (ukC S.c x y z W C X k key to nx 0)::L) w) :
  Calls prog 305 #[.pointer (some ⟨l,0,none⟩),.int .i64 u] w fun o w'=>o=.returned (.int .i64 0)/\∃ b1 b2 r,Env w0 (boxI l (ukC S.c x y z W C X k key to (cvP b1 b2) 0)::boxI b1 [mvL 322 r]::boxI b2 [mvE l 17]::boxI r (rtv S.c (nxR r 0) C 0)::L) w':=by
 have hmf:=makeF;go_enter func305,ntmps305;go_wp2_with fail;refine Ord3.wp_chain [?_,?_,?_,?_,?_,?_,?_,?_,?_,?_,?_,?_,?_,?_,?_,?_,?_,?_,?_,?_] [12,13,18] (fun w'=>∃ nx9,Blk 0 w' l (ukC S.c x y z W C X k key to nx9 0)) (Ord3.Stage fun κs=>[Env w0 (boxI l (ukC S.c x y z W C X k key to nx 0)::L),fun w'=>∃ r,κs.getD 0 undef=.pointer (some ⟨r,0,none⟩)/\Env w0 (boxI r (rtv S.c (nxR r 0) C 0)::boxI l (ukC S.c x y z W C X k key to nx 0)::L) w',fun w'=>∃ r,κs.getD 1 undef=mvL 322 r/\Env w0 (boxI r (rtv S.c (nxR r 0) C 0)::boxI l (ukC S.c x y z W C X k key to nx 0)::L) w',fun w'=>∃ b1 b2 r,Env w0 (boxI b1 [mvL 322 r]::boxI b2 [mvE l 17]::boxI r (rtv S.c (nxR r 0) C 0)::boxI l (ukC S.c x y z W C X k key to (cvP b1 b2) 0)::L) w']) (by kernel_rfl) (by kernel_rfl) (by kernel_rfl) ⟨nx,hE.drew.get 0 rfl⟩ ⟨_,rfl,hE.drew⟩ (fun hT=>?_);rotate_left 20;have hT9:=zH hT;clear hT
 repeat ((first
  | (focus (refine Ord3.in_value (v:=?_) hT9.o (by decide) ?_ (by rfl) ?_ ?_; rotate_left 2; (intro w5 hS; obtain ⟨nx9,hS9⟩:=hS; have r1:=Blk.rule hS9; unfold ukC at r1; go_simp<;>rfl); rotate_right; (focus rfl)))
  | (focus (refine Ord3.in_off hT9.o (by decide) ?_ (by rfl) ?_; (focus rfl))));try simp only [Act.put,zA,zZ,zS])
 refine Ord3.in_turn (fun u=>∃ q,u=.pointer (some ⟨q,0,none⟩)) _ ⟨0,rfl⟩ hT9.o rfl (by decide) (by rfl) ?_ (Or.inl rfl) (by rfl) ?_ ?_
 ·rfl
 ·rintro w7 hC7 ⟨P7,hP7,hA7⟩;cases hP7;go_simp;simp only [Ord3.Lands];refine (new_r C hA7).mono ?_;rintro o w8 ⟨r8,rfl,hE8⟩;exact ⟨_,rfl,⟨r8,rfl⟩,⟨nx,hE8.get 1 rfl⟩,_,rfl,r8,rfl,hE8⟩
 rintro _ ⟨r9,rfl⟩
 try simp only [Act.put,zA,zZ,zS]
 refine Ord3.in_turn (fun u=>∃ q,u=mvL 322 q) _ ⟨0,rfl⟩ hT9.o rfl (by decide) (by rfl) ?_ (Or.inr ⟨_,12,[],rfl,by kernel_rfl,by kernel_rfl,rfl⟩) (by rfl) ?_ ?_
 ·rfl
 ·rintro w7 hC7 ⟨P7,hP7,hA7⟩;cases hP7;obtain ⟨r8,he,hA7⟩:=hA7;cases he;go_simp;simp only [Ord3.Lands];exact ⟨⟨_,rfl⟩,hC7,_,rfl,r9,rfl,hA7⟩
 rintro _ ⟨r9,rfl⟩
 try simp only [Act.put,zA,zZ,zS]
 repeat ((first
  | (focus (refine Ord3.in_value (v:=?_) hT9.o (by decide) ?_ (by rfl) ?_ ?_; rotate_left 2; (intro w5 hS; obtain ⟨nx9,hS9⟩:=hS; have r1:=Blk.rule hS9; unfold ukC at r1; go_simp<;>rfl); rotate_right; (focus rfl)))
  | (focus (refine Ord3.in_off hT9.o (by decide) ?_ (by rfl) ?_; (focus rfl))));try simp only [Act.put,zA,zZ,zS])
 refine Ord3.in_turn (fun u=>u=.int .i64 0) _ rfl hT9.o rfl (by decide) (by rfl) ?_ (Or.inr ⟨_,13,[],rfl,by kernel_rfl,by kernel_rfl,rfl⟩) (by rfl) ?_ ?_
 ·rfl
 ·rintro w7 hC7 ⟨P7,hP7,hA7⟩;cases hP7;obtain ⟨r8,he,hA7⟩:=hA7;cases he;go_simp;simp only [Ord3.Lands];refine (play_r (o:=17) 1 _ _ _ _ _ _ (by simp [ukC]) hA7 rfl).mono ?_;rintro o w8 ⟨rfl,b1,b2,hE8⟩;exact ⟨_,rfl,rfl,⟨_,hE8.get 3 rfl⟩,_,rfl,b1,b2,r9,hE8⟩
 rintro _ rfl
 try simp only [Act.put,zA,zZ,zS]
 repeat ((first
  | (focus (refine Ord3.in_value (v:=?_) hT9.o (by decide) ?_ (by rfl) ?_ ?_; rotate_left 2; (intro w5 hS; skip; go_simp<;>rfl); rotate_right; (focus rfl)))
  | (focus (refine Ord3.in_off hT9.o (by decide) ?_ (by rfl) ?_; (focus rfl))));try simp only [Act.put,zA,zZ,zS])
 refine Ord3.in_nil rfl ?_;rintro w9 hC9 ⟨P9,hP9,hA9⟩;cases hP9;obtain ⟨b1,b2,r8,hA9⟩:=hA9;clear hT9 hC9 hE;go_wp2_with fail;go_ret;exact ⟨rfl,b1,b2,r8,hA9.perm (List.perm_middle (l₁:=[_,_,_]))⟩
theorem cut_k (hwf:Wf (x,y,z)) (hg:Glo w0) (hm:S.m < maxLen) (hE:Env w0 (boxI l (ukC S.c x y z W C X k key to nx 0)::LT S R) w) :
  Calls prog 287 #[.pointer (some ⟨l,0,none⟩),.iface 26 (.pointer (some ⟨S.p,0,none⟩))] w fun o w'=>o=.returned (.int .i64 0)/\∃ G' b1 b2,
   (S.f (x,y,z)=W/\∃ r,Env w0 (boxI l (ukC S.c x y z W C X k key to (cvP b1 b2) 0)::boxI b1 [mvL 322 r]::boxI b2 [mvE l 17]::boxI r (rtv S.c (nxR r 0) C 0)::LT { S with G:=G',f:=swf S.f (x,y,z) W (wordI false to S.ce),qc:=swq S.qc true,m:=S.m+1 } R) w') \/
   (S.f (x,y,z)≠W/\∃ sb,Env w0 (boxI l (ukC S.c x y z W C X k key to (cvP b1 b2) 0)::boxI b1 [mvL 132 sb]::boxI b2 [mvL 305 l]::boxI sb (srC S.c k key false (.pointer none))::LT { S with G:=G',f:=swf S.f (x,y,z) W (wordI false to S.ce),qc:=swq S.qc false,m:=S.m+1 } R) w'):=by
 have hmf:=makeF;have hah:=ahead_swap;have HWF:=zH hwf;have hqi:InU (wordI false to S.ce):=wordI_in _ _ _;have hto:=fun (v:World) (hv:Below w0.heap.size w0 v) (hb:Blk 0 v S.c (crv S.ck S.cs S.cb S.ch S.cl S.ce S.cr S.hs 0 S.q))=>to_c to 0 (hg.keep' hv) hb;obtain ⟨q,hq⟩:∃ q,wordI false to S.ce=q:=⟨_,rfl⟩;rw [hq] at hqi ⊢;simp only [hq] at hto;have HQI:=zH hqi;have HTO:=zH hto;clear hq hqi hto hg hwf;obtain ⟨dd,hdd⟩:∃ dd,decide (S.f (x,y,z)=W)=dd:=⟨_,rfl⟩;have HDD:=zH hdd;clear hdd;go_enter func287,ntmps287;go_wp2_with fail;refine Ord.wc [23] (fun v=>Below w0.heap.size w0 v/\Blk 0 v l (ukC S.c x y z W C X k key to nx 0)/\Blk 0 v S.c (crv S.ck S.cs S.cb S.ch S.cl S.ce S.cr S.hs 0 S.q)) (fun k9 w'=>∃ G5,Env w0 (boxI l (ukC S.c x y z W C X k key to nx 0)::LT (if k9=0 then S else { S with G:=G5,f:=swf S.f (x,y,z) W q,qc:=swq S.qc dd,m:=S.m+1 }) R) w') ⟨hE.drew.below,hE.drew.get 0 rfl,hE.drew.get 1 rfl⟩ ⟨S.G,hE.drew⟩ fun hT9=>?_
 repeat ((first
  | (refine Ord.cv ?_ hT9.o ?_ ?_; rotate_left; (intro w5 hS; have r:=hS.2.1.rule; unfold ukC at r; go_simp<;>rfl))
  | (refine Ord.co hT9.o ?_)
  | (refine Ord.cc ?_ ?_ ?_ hT9.o ?_ ?_ ?_; rotate_left 3; (intro w5 hS; have r:=hS.2.1.rule; unfold ukC at r; go_simp; constructor<;>rfl); (intro w5 hS; (first | (with_reducible refine kp (HTO.out _ hS.1 hS.2.2) ?_ ?_; rfl; exact fun w6 hb6=>⟨⟨hS.1.trans (hb6.mono hS.1.size),hS.2.1.under hb6,hS.2.2.under hb6⟩,fun k h=>h.elim fun G5 h=>⟨G5,h.over hb6⟩⟩)))));try simp only [Act.put,zA,zZ,zS])
 refine Ord.ch_turn (v:=.bool dd) 0 hT9.o rfl (by decide) (Or.inl rfl) (by rfl) ?_ ?_
 ·rintro w5 hC5 ⟨G5,hA5⟩;simp only [if_true] at hA5;go_simp;rw [method_swap];simp only [Result.andThen_ok];go_simp;simp only [Ord.LandsIn];have hsw:=swap_w x y z 0 W 0 q 0 false false HWF.out HQI.out hm 3 4 (by decide) hA5 rfl rfl;rw [HDD.out] at hsw;refine hsw.mono ?_;rintro e w6 ⟨rfl,G6,hE6⟩;exact ⟨rfl,⟨hE6.below,hE6.get 0 rfl,hE6.get 1 rfl⟩,G6,hE6⟩
 try simp only [Act.put,zA,zZ,zS]
 repeat ((first
  | (refine Ord.cv ?_ hT9.o ?_ ?_; rotate_left; (intro w5 hS; skip; go_simp<;>rfl))
  | (refine Ord.co hT9.o ?_));try simp only [Act.put,zA,zZ,zS])
 refine Ord.InText.nil fun w5 hS=>?_;clear hT9;obtain ⟨hC9,hA9⟩:=Ord.chain_end hS;clear hS;obtain ⟨G9,hA9⟩:=hA9;simp only [List.length_cons,List.length_nil,Nat.zero_add,Nat.one_ne_zero,if_false] at hA9;clear hC9 hE HTO;cases dd
 ·have hne:S.f (x,y,z)≠W:=by simpa using HDD.out
  have HNE:=zH hne;clear hne HDD;obtain ⟨S2,hS2⟩:∃ S2:ST,{ S with G:=G9,f:=swf S.f (x,y,z) W q,qc:=swq S.qc false,m:=S.m+1 }=S2:=⟨_,rfl⟩;have hc2:S2.c=S.c:=by rw [<- hS2]
  rw [hS2] at hA9;have HS2:=zH hS2;obtain ⟨L2,hL2⟩:∃ L2,LT S2 R=L2:=⟨_,rfl⟩;rw [hL2] at hA9;have HL2:=zH hL2;clear hS2 hc2 hL2;go_wp2_with fail;refine Ord3.wp_chain [?_,?_,?_,?_,?_,?_,?_,?_,?_,?_,?_,?_,?_,?_,?_,?_,?_,?_,?_,?_,?_] [15,16,19] (fun w'=>∃ nx9,Blk 0 w' l (ukC S.c x y z W C X k key to nx9 0)) (Ord3.Stage fun κs=>[Env w0 (boxI l (ukC S.c x y z W C X k key to nx 0)::L2),fun w'=>∃ r,κs.getD 0 undef=.pointer (some ⟨r,0,none⟩)/\Env w0 (boxI r (srC S.c k key false (.pointer none))::boxI l (ukC S.c x y z W C X k key to nx 0)::L2) w',fun w'=>∃ r,κs.getD 1 undef=mvL 132 r/\Env w0 (boxI r (srC S.c k key false (.pointer none))::boxI l (ukC S.c x y z W C X k key to nx 0)::L2) w',fun w'=>∃ b1 b2 r,Env w0 (boxI b1 [mvL 132 r]::boxI b2 [mvL 305 l]::boxI r (srC S.c k key false (.pointer none))::boxI l (ukC S.c x y z W C X k key to (cvP b1 b2) 0)::L2) w']) (by kernel_rfl) (by kernel_rfl) (by kernel_rfl) ⟨nx,hA9.drew.get 0 rfl⟩ ⟨_,rfl,hA9.drew⟩ (fun hT=>?_);rotate_left 21;have hT9:=zH hT;clear hT
  repeat ((first
   | (focus (refine Ord3.in_value (v:=?_) hT9.o (by decide) ?_ (by rfl) ?_ ?_; rotate_left 2; (intro w5 hS; obtain ⟨nx9,hS9⟩:=hS; have r1:=Blk.rule hS9; unfold ukC at r1; go_simp<;>rfl); rotate_right; (focus rfl)))
   | (focus (refine Ord3.in_off hT9.o (by decide) ?_ (by rfl) ?_; (focus rfl))));try simp only [Act.put,zA,zZ,zS])
  refine Ord3.in_turn (fun u=>∃ q,u=.pointer (some ⟨q,0,none⟩)) _ ⟨0,rfl⟩ hT9.o rfl (by decide) (by rfl) ?_ (Or.inl rfl) (by rfl) ?_ ?_
  ·rfl
  ·rintro w7 hC7 ⟨P7,hP7,hA7⟩;cases hP7;go_simp;simp only [Ord3.Lands];refine (newSearch_l S.c k key false hA7).mono ?_;rintro o w8 ⟨r8,rfl,hE8⟩;exact ⟨_,rfl,⟨r8,rfl⟩,⟨nx,hE8.get 1 rfl⟩,_,rfl,r8,rfl,hE8⟩
  rintro _ ⟨r9,rfl⟩
  try simp only [Act.put,zA,zZ,zS]
  refine Ord3.in_turn (fun u=>∃ q,u=mvL 132 q) _ ⟨0,rfl⟩ hT9.o rfl (by decide) (by rfl) ?_ (Or.inr ⟨_,15,[],rfl,by kernel_rfl,by kernel_rfl,rfl⟩) (by rfl) ?_ ?_
  ·rfl
  ·rintro w7 hC7 ⟨P7,hP7,hA7⟩;cases hP7;obtain ⟨r8,he,hA7⟩:=hA7;cases he;go_simp;simp only [Ord3.Lands];exact ⟨⟨_,rfl⟩,hC7,_,rfl,r9,rfl,hA7⟩
  rintro _ ⟨r9,rfl⟩
  try simp only [Act.put,zA,zZ,zS]
  repeat ((first
   | (focus (refine Ord3.in_value (v:=?_) hT9.o (by decide) ?_ (by rfl) ?_ ?_; rotate_left 2; (intro w5 hS; obtain ⟨nx9,hS9⟩:=hS; have r1:=Blk.rule hS9; unfold ukC at r1; go_simp<;>rfl); rotate_right; (focus rfl)))
   | (focus (refine Ord3.in_off hT9.o (by decide) ?_ (by rfl) ?_; (focus rfl))));try simp only [Act.put,zA,zZ,zS])
  refine Ord3.in_turn (fun u=>u=.int .i64 0) _ rfl hT9.o rfl (by decide) (by rfl) ?_ (Or.inr ⟨_,16,[],rfl,by kernel_rfl,by kernel_rfl,rfl⟩) (by rfl) ?_ ?_
  ·rfl
  ·rintro w7 hC7 ⟨P7,hP7,hA7⟩;cases hP7;obtain ⟨r8,he,hA7⟩:=hA7;cases he;go_simp;simp only [Ord3.Lands];refine (play_r (o:=17) 1 _ _ _ _ _ _ (by simp [ukC]) hA7 rfl).mono ?_;rintro o w8 ⟨rfl,b1,b2,hE8⟩;exact ⟨_,rfl,rfl,⟨_,hE8.get 3 rfl⟩,_,rfl,b1,b2,r9,hE8⟩
  rintro _ rfl
  try simp only [Act.put,zA,zZ,zS]
  repeat ((first
   | (focus (refine Ord3.in_value (v:=?_) hT9.o (by decide) ?_ (by rfl) ?_ ?_; rotate_left 2; (intro w5 hS; skip; go_simp<;>rfl); rotate_right; (focus rfl)))
   | (focus (refine Ord3.in_off hT9.o (by decide) ?_ (by rfl) ?_; (focus rfl))));try simp only [Act.put,zA,zZ,zS])
  refine Ord3.in_nil rfl ?_;rintro w9 hC9 ⟨P9,hP9,hA9⟩;cases hP9;obtain ⟨b1,b2,r8,hA9⟩:=hA9;clear hT9 hC9;go_wp2_with fail;go_ret;have h3:=HL2.out;subst h3;have h2:=HS2.out;subst h2;exact ⟨rfl,G9,b1,b2,.inr ⟨HNE.out,r8,hA9.perm (List.perm_middle (l₁:=[_,_,_]))⟩⟩
 ·have hne:S.f (x,y,z)=W:=by simpa using HDD.out
  have HNE:=zH hne;clear hne HDD;go_wp2_with fail;refine (retire_k 1 hA9).mono ?_;rintro o w7 ⟨rfl,b1,b2,r8,hE7⟩;go_wp2_with fail;go_ret;exact ⟨rfl,G9,b1,b2,.inl ⟨HNE.out,r8,hE7⟩⟩
end
def lieI (g:Nat) (xs:List Value):Item where
 F:=fun k=>k=g
 says:=fun w=>∀ j u,xs[j]?=some u->w.cell? ⟨g,j,none⟩=some u
 loc:=fun w1 w2 h hk _ j u hu=>by
  have e:=hk g rfl
  have e2:=h j u hu
  unfold World.cell? at e2 ⊢
  rw [e]
  exact e2
theorem Env.lies {w0 w:World} {L:List Item} (h:Env w0 L w) (i:Nat) {g:Nat} {xs:List Value} (hi:L[i]?=some (lieI g xs)):∀ j u,xs[j]?=some u->w.cell? ⟨g,j,none⟩=some u:=h.get i hi
theorem Env.rowLies {w0 w:World} {L:List Item} {e:TypeId} {s n:Nat} {v:Value} {xs:List Value} (h:Env w0 (rowI v e s n xs::L) w) (hn:n≠0) :
  ∃ g c,v=.slice (some ⟨g,0,none⟩) n c/\n<=c/\Env w0 (lieI g xs::L) w:=by
 have ho:w.ownsRow 0 e s v n xs:=h.get 0 rfl
 rcases ho.2 with ⟨-,h0⟩ | ⟨g,cap,cur,hv,-,hg,hnc,-⟩
 ·exact absurd h0 hn
 ·refine ⟨g,cap,hv,hnc,?_⟩;have h2:=h.step 0 (lieI g xs) rfl (w':=w) ⟨Turn.refl _ w,fun k hk=>.inl (by
   show v.ownBlock=some k;rw [hv];show some g=some k;rw [show k=g from hk])⟩ (fun j u hu=>by
    have this:=ho.cells (g:=g) (by rw [hv]; rfl) j u hu;have e2:(⟨g,0,none⟩:Addr).add j=⟨g,j,none⟩:=by unfold Addr.add; split<;>simp_all
    rw [e2] at this;exact this) (fun k hk=>h.lt 0 rfl k (by
   show v.ownBlock=some k;rw [hv];show some g=some k;rw [show k=g from hk]))
  exact h2
theorem Env.appendRow {P:Program} {w0 w:World} {L:List Item} (h:Env w0 L w) (i:Nat) {v:Value} {e:TypeId} {s n b:Nat} {xs:List Value} (hi:L[i]?=some (rowI v e s n xs)) (t ty:TypeId) (ht:P.underlying t=some (.slice e)) (z:Value) (hinfo:(P.info? e).map (fun i=>(i.zero,i.size,i.bytes))=some (some z,s,b)) (hzs:z.cells.size=s) (hsz:0 < s)
  (A:Option Addr) (m c:Nat) (news:List Value) (hl:news.length=m * s) (hnews:(A=none/\m=0)\/∃ ad,A=some ad/\∀ j u,news[j]?=some u->w.cell? (ad.add j)=some u) (h1:∀ u∈news,u.oneCell'=true) (h63:n+m<=maxLen) (hbytes:(n+m) * b<=140737488355328) :
  ∃ A' c' w',(Builtin.append_ #[t,t] ty #[v,.slice A m c]).run P w=.ok (.slice A' (n+m) c') w'/\Env w0 (L.set i (rowI (.slice A' (n+m) c') e s (n+m) (xs++news))) w':=by
 obtain ⟨i0,hi0,hzz⟩:=Option.map_eq_some_iff.1 hinfo;simp only [Prod.mk.injEq] at hzz;obtain ⟨hz0,hs,hb⟩:=hzz;have hown:w.ownsRow 0 e s v n xs:=h.get i hi;obtain ⟨v',w',hrun,ho,hg,hv⟩:=run_append_rows (P:=P) t ty 0 e i0 z s b ht hi0 hz0 hs hb hzs hsz w v n xs hown A m c news hl hnews h1 h63 hbytes (Nat.zero_le _);obtain ⟨A',c',rfl⟩:=ownsRow_slice ho;refine ⟨A',c',w',hrun,h.step i (rowI _ e s (n+m) (xs++news)) hi ⟨(Turn.refl _ w).grown hg fun k _ e=>e,fun k hk=>?_⟩ ho (ownsRow_lt ho)⟩
 rcases hv with e | e
 ·exact .inl (by show v.ownBlock=some k; rw [<- e]; exact hk)
 ·right
  have:some w.heap.size=some k:=e.symm.trans hk;cases this;exact Nat.le_refl _
def flat2 (l:List (Int × Int)):List Value:=l.flatMap fun p=>[.int .i64 p.1,.int .u64 p.2]
def wordsA (ck e key val lv:Int):List (Int × Int):=[(0,e),(1,0),(3,key)]++(if ck=2 then [(4,val)] else if ck=3 then [(5,lv),(6,0)] else [])
theorem infoWrite:(prog.info? 356).map (fun i=>(i.zero,i.size,i.bytes))=some (some (.agg #[.int .i64 0,.int .u64 0]),2,16):=by kernel_rfl
section
variable {w0 w:World} {R:List Item} {a:Nat} {S:ST} {M:MA}
theorem words_a (he:0<=S.ce/\S.ce<=9223372036854775807) (hE:Env w0 (boxI a (av S.c M)::LT S R) w) :
  Calls prog 314 #[.pointer (some ⟨a,0,none⟩)] w fun o w'=>∃ g c,o=.returned (.slice (some ⟨g,0,none⟩) (wordsA S.ck S.ce M.key M.val (IntKind.u64.wrap M.lv)).length c)/\(wordsA S.ck S.ce M.key M.val (IntKind.u64.wrap M.lv)).length<=c/\Env w0 (lieI g (flat2 (wordsA S.ck S.ce M.key M.val (IntKind.u64.wrap M.lv)))::boxI a (av S.c M)::LT S R) w':=by
 have hw1:IntKind.u64.wrap S.ce=S.ce:=wrapU _ (by omega) (by omega);have hki:=kind_of;clear he;go_enter func314,ntmps314;go_wp2_with fail;refine Ord3.wp_chain [?_,?_,?_,?_,?_,?_,?_,?_,?_,?_,?_,?_,?_,?_,?_,?_,?_] [15,16] (fun w'=>Blk 0 w' a (av S.c M)/\Blk 0 w' S.c (crv S.ck S.cs S.cb S.ch S.cl S.ce S.cr S.hs 0 S.q)) (Ord3.Stage fun κs=>[Env w0 (boxI a (av S.c M)::LT S R),Env w0 (rowI (κs.getD 0 undef) 356 2 3 (flat2 [(0,S.ce),(1,0),(3,M.key)])::boxI a (av S.c M)::LT S R),Env w0 (rowI (κs.getD 1 undef) 356 2 3 (flat2 [(0,S.ce),(1,0),(3,M.key)])::boxI a (av S.c M)::LT S R)]) (by kernel_rfl) (by kernel_rfl) (by kernel_rfl) ⟨hE.drew.get 0 rfl,hE.drew.get 1 rfl⟩ ⟨_,rfl,hE.drew⟩ (fun hT=>?_);rotate_left 17;have hT9:=zH hT;clear hT
 repeat ((first
  | (focus (refine Ord3.in_value (v:=?_) hT9.o (by decide) ?_ (by rfl) ?_ ?_; rotate_left 2; (intro w5 hS; have r1:=Blk.rule hS.1; unfold av at r1; go_simp<;>rfl); rotate_right; (focus rfl)))
  | (focus (refine Ord3.in_off hT9.o (by decide) ?_ (by rfl) ?_; (focus rfl)))
  | (focus (refine Ord3.in_call (v:=?_) (f:=?_) (args:=?_) hT9.o (by decide) ?_ (by rfl) ?_ ?_ ?_; rotate_left 4; (intro w5 hS; have r1:=Blk.rule hS.1; unfold av at r1; go_simp; constructor<;>rfl); (intro w5 hS; (first | (with_reducible refine (epoch_c hS.2).mono ?_; rintro o w6 ⟨rfl,rfl⟩; constructor; rfl; exact ⟨hS,fun _ h=>h⟩))); rotate_right; (focus rfl))));try simp only [Act.put,zA,zZ,zS])
 refine Ord3.in_turn (fun u=>∃ z,u=.slice (some ⟨z,0,none⟩) 3 3) _ ⟨0,rfl⟩ hT9.o rfl (by decide) (by rfl) ?_ (Or.inl rfl) (by rfl) ?_ ?_
 ·rfl
 ·rintro w7 hC7 ⟨P7,hP7,hA7⟩;cases hP7;go_simp;simp only [Ord3.Lands];have hb:=(Below.refl w7.heap.size w7).alloc (Nat.le_refl _) (.cells (flat2 [(0,S.ce),(1,0),(3,M.key)]).toArray 356);have hE8:=hA7.add (rowI (.slice (some ⟨w7.heap.size,0,none⟩) 3 3) 356 2 3 (flat2 [(0,S.ce),(1,0),(3,M.key)])) hb (World.ownsRow_lit w7 (flat2 [(0,S.ce),(1,0),(3,M.key)]).toArray 3 (Nat.zero_le _) (by decide) rfl) (fun k hk=>by
   have:w7.heap.size=k:=by simpa [rowI,Value.ownBlock] using hk
   subst this;simp)
  exact ⟨⟨_,rfl⟩,⟨hE8.get 1 rfl,hE8.get 2 rfl⟩,_,rfl,hE8⟩
 rintro _ ⟨z9,rfl⟩
 try simp only [Act.put,zA,zZ,zS]
 refine Ord3.in_turn (fun u=>∃ z,u=.slice (some ⟨z,0,none⟩) 3 3) _ ⟨0,rfl⟩ hT9.o rfl (by decide) (by rfl) ?_ (Or.inr ⟨_,15,[],rfl,by kernel_rfl,by kernel_rfl,rfl⟩) (by rfl) ?_ ?_
 ·rfl
 ·rintro w7 hC7 ⟨P7,hP7,hA7⟩;cases hP7;go_simp;simp only [Ord3.Lands];exact ⟨⟨_,rfl⟩,hC7,_,rfl,hA7⟩
 rintro _ ⟨z8,rfl⟩
 try simp only [Act.put,zA,zZ,zS]
 refine Ord3.in_nil rfl ?_;rintro w9 hC9 ⟨P9,hP9,hA9⟩;cases hP9;replace hA9:Env w0 (rowI (.slice (some ⟨z8,0,none⟩) 3 3) 356 2 3 (flat2 [(0,S.ce),(1,0),(3,M.key)])::boxI a (av S.c M)::LT S R) w9:=hA9;clear hT9 hC9 hE;have r:=hA9.rule 1 rfl;unfold av at r;go_wp2_with fail;refine (conf_c (hA9.get 2 rfl)).mono ?_;rintro o w10 ⟨rfl,hb⟩;replace hA9:=hA9.over hb;clear hb r;have r:=hA9.rule 1 rfl;unfold av at r;generalize w10=w9 at *
 rcases hk2:S.ck==2 with _ | _
 ·rcases hk3:S.ck==3 with _ | _
  ·have hw:wordsA S.ck S.ce M.key M.val (IntKind.u64.wrap M.lv)=[(0,S.ce),(1,0),(3,M.key)]:=by
    simp only [beq_eq_false_iff_ne] at hk2 hk3;simp [wordsA,hk2,hk3]
   have HW:=zH hw;clear hw;go_wp2_with fail;go_ret;obtain ⟨g,c,he,hc,hE12⟩:=hA9.rowLies (by decide);cases he;rw [HW.out];exact ⟨_,_,rfl,hc,hE12⟩
  ·simp only [beq_eq_false_iff_ne] at hk2;have hw:wordsA S.ck S.ce M.key M.val (IntKind.u64.wrap M.lv)=[(0,S.ce),(1,0),(3,M.key)]++[(5,IntKind.u64.wrap M.lv),(6,0)]:=by unfold wordsA; rw [if_neg (by simpa using hk2),if_pos (by simpa using hk3)]
   have HW:=zH hw;clear hw;have hE10:=hA9.box w9.heap.size rfl [.int .i64 5,.int .u64 (IntKind.u64.wrap M.lv),.int .i64 6,.int .u64 0] 356;obtain ⟨A',c',w',hrun,hE11⟩:=hE10.appendRow (P:=prog) 1 rfl 330 330 Tryz.underlying330 (.agg #[.int .i64 0,.int .u64 0]) infoWrite rfl (by decide) (some ⟨w9.heap.size,0,none⟩) 2 2 [.int .i64 5,.int .u64 (IntKind.u64.wrap M.lv),.int .i64 6,.int .u64 0] rfl (.inr ⟨_,rfl,cells_new _ _ _⟩) (by simp [Value.oneCell']) (by decide) (by decide);have HRUN:=zH hrun;clear hrun;go_wp2_with (first | (at_builtin; refine wpList_append_run rfl _ _ 330 rfl HRUN.out rfl rfl ?_));go_ret;obtain ⟨g,c,he,hc,hE12⟩:=(hE11.sub (.cons _ (List.Sublist.refl _))).rowLies (by decide);cases he;rw [HW.out];exact ⟨g,c',rfl,hc,hE12⟩
 ·have hk3:(S.ck==3)=false:=by simp only [beq_iff_eq] at hk2; simp [hk2]
  have hw:wordsA S.ck S.ce M.key M.val (IntKind.u64.wrap M.lv)=[(0,S.ce),(1,0),(3,M.key)]++[(4,M.val)]:=by unfold wordsA; rw [if_pos (by simpa using hk2)]
  have HW:=zH hw;clear hw;have hE10:=hA9.box w9.heap.size rfl [.int .i64 4,.int .u64 M.val] 356;obtain ⟨A',c',w',hrun,hE11⟩:=hE10.appendRow (P:=prog) 1 rfl 330 330 Tryz.underlying330 (.agg #[.int .i64 0,.int .u64 0]) infoWrite rfl (by decide) (some ⟨w9.heap.size,0,none⟩) 1 1 [.int .i64 4,.int .u64 M.val] rfl (.inr ⟨_,rfl,cells_new _ _ _⟩) (by simp [Value.oneCell']) (by decide) (by decide);have HRUN:=zH hrun;clear hrun;go_wp2_with (first | (at_builtin; refine wpList_append_run rfl _ _ 330 rfl HRUN.out rfl rfl ?_));go_ret;obtain ⟨g,c,he,hc,hE12⟩:=(hE11.sub (.cons _ (List.Sublist.refl _))).rowLies (by decide);cases he;rw [HW.out];exact ⟨g,c',rfl,hc,hE12⟩
end
end
end Go.Proofs.YtdknbegcflldjaaGreatDoor
