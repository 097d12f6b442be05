/- What is proved on the way to the statement, part 4: contracts of the functions, among other things in memory. -/
import Derived.Test.YtffncfmciockmaaGreatDoorO3
import Derived.Laws.OwnMore
import Derived.Deep.Light
import Derived.Deep.AppendLies
import Derived.OneCell
import Derived.LoopIn

open _root_.Go.Proofs.Tryz
set_option maxRecDepth 100000
set_option maxHeartbeats 25600000
namespace Go.Proofs.YtffncfmciockmaaGreatDoor
section
open Go.RowKit Go.Maps
theorem nextW_in (x s:Int) (hx:InU x):InU (nextW x s):=by
 have h1:=verI_in x;unfold nextW InU;cases hs:isS s
 ·simp
 ·have h2:0<=s/\s<=8388607:=by simpa [isS] using hs
  by_cases h:verI x=1099511627775
  ·simp [h]
  ·rw [if_pos rfl,if_neg h];unfold wordI
   split
   ·simp only [bitI,Bool.false_eq_true,if_false];omega
   ·omega
theorem behind_any (x d s i:Int) (t:Bool) (hx:InU x) (w:World) (hg:Glo w):Calls prog 262 #[.agg #[.int .u64 x,.int .i64 d,.bool t],.agg #[.int .i64 s,.int .i64 i]] w fun e w'=>e=.returned (.agg #[.int .u64 (nextW x s),.int .i64 i,.bool false])/\Below w.heap.size w w':=by
 have hE:=(((Env.start w).box w.heap.size rfl [.int .u64 x,.int .i64 d,.bool t] 127).box (w.heap.size+1) (by simp) [.int .i64 s,.int .i64 i] 110).box (w.heap.size+1+1) (by simp) [.int .u64 0,.int .i64 0,.bool false] 127;have r0:=hE.rule 2 rfl;have r1:=hE.rule 1 rfl;have hn:=fun (v:World) (hv:Below w.heap.size w v)=>next_any x s v (hg.keep' hv) hx.1 hx.2;obtain ⟨y,hy⟩:∃ y,nextW x s=y:=⟨_,rfl⟩;simp only [hy] at hn ⊢;have HN:=zH hn;clear hx hg hn hy;go_enter func262,ntmps262;go_wp2_with fail;refine (HN.out _ hE.below).mono ?_;rintro o w1 ⟨rfl,hb⟩;replace hE:=hE.over hb;clear hb r0 r1;have r1:=hE.rule 1 rfl;have r2:=hE.rule 0 rfl;have f:=hE.thaw 0 rfl;have f0:=f 0 (by simp);have f1:=f 1 (by simp);have f2:=f 2 (by simp);have hP:=hE.put3 0 rfl (.int .u64 y) (.int .i64 i) (.bool false);have q:=hP.rule 0 rfl;clear f HN hE;go_wp2_with fail;exact bodyPost_ret (v:=.agg #[.int .u64 y,.int .i64 i,.bool false]) (by simp [results,results262,go_sem,q]) rfl ⟨rfl,hP.below⟩
section
variable {w0 w:World} {R:List Item} {a:Nat} {S:ST} {M:MA}
theorem takeNo_a (x:Int) (hfx:S.f (2,0,0)=x) (hxh:x≠M.h) (hh:InU M.h) (hn:InU M.n) (hg:Glo w0) (hm:S.m < maxLen) (hz:Hid (M.nx.2=.int .i64 0)) (hE:Env w0 (boxI a (av S.c M)::LT S R) w) :
  Calls prog 309 #[.pointer (some ⟨a,0,none⟩),.iface 28 (.pointer (some ⟨S.p,0,none⟩))] w fun o w'=>o=.returned (.int .i64 0)/\∃ G',Env w0 (boxI a (av S.c { M with nx:=nxA a 3 })::LT { S with G:=G',f:=swf S.f (2,0,0) M.h (nextW M.h (slotI M.n)),qc:=swq S.qc (decide (S.f (2,0,0)=M.h)),m:=S.m+1 } R) w':=by
 have hmf:=makeF;have hah:=ahead_swap;have HD:Hid (decide (S.f (2,0,0)=M.h)=false):=zH (by rw [hfx]; simpa using hxh);have hbh:=fun (v:World) (hv:Below w0.heap.size w0 v)=>behind_any M.h 0 (slotI M.n) 0 false hh v (hg.keep' hv);have hni:=nextW_in M.h (slotI M.n) hh;obtain ⟨y,hy⟩:∃ y,nextW M.h (slotI M.n)=y:=⟨_,rfl⟩;rw [hy] at hni ⊢;simp only [hy] at hbh;have HNI:=zH hni;have HBH:=zH hbh;clear hy hni hbh;have HLE:=zH fun (v:World) (hv:Below w0.heap.size w0 v)=>lead_c M.n 0 false v hn (hg.keep' hv);clear hfx hxh;go_enter func309,ntmps309;go_wp2_with fail;refine OrdF.wp_float [?_,?_,?_,?_,?_,?_,?_,?_,?_,?_,OrdF.Ptr,?_] [11] 10 (fun v=>Below w0.heap.size w0 v/\Blk 0 v a (av S.c M)) (OrdF.AF w0 [.int .u64 0,.int .i64 0,.bool false] (OrdF.Sta [fun N zs=>N=boxI a (av S.c M)::LT S R/\zs=[.int .u64 0,.int .i64 0,.bool false],fun N zs=>N=boxI a (av S.c M)::LT S R/\zs=[.int .u64 y,.int .i64 0,.bool false]])) (by kernel_rfl) (by kernel_rfl) (by kernel_rfl) ⟨hE.drew.below,hE.drew.get 0 rfl⟩ ⟨_,_,⟨_,rfl,rfl,rfl⟩,.inl ⟨rfl,rfl,hE.drew⟩⟩ (fun hT=>?_);rotate_left 11;have hT9:=zH hT;clear hT
 repeat ((first
  | (focus (refine OrdF.in_value (v:=?_) hT9.o (by decide) (by decide) ?_ (by rfl) ?_ ?_; rotate_left 2; (intro w5 hS; have r:=hS.2.rule; unfold av at r; go_simp<;>rfl); rotate_right; (focus rfl)))
  | (focus (refine OrdF.in_off hT9.o (by decide) (by decide) ?_ (by rfl) ?_; (focus rfl))));try simp only [Act.put,zA,zZ,zS])
 focus (refine OrdF.in_call (v:=.agg #[.int .i64 (slotI M.n),.int .i64 0]) (f:=?_) (args:=?_) hT9.o (by decide) (by decide) ?_ (by rfl) ?_ ?_ ?_; rotate_left 2; (focus rfl); (intro w5 hS; skip; go_simp; constructor<;>rfl); (intro w5 hS; refine (HLE.out _ hS.1).mono ?_; rintro e w6 ⟨rfl,hb6⟩; exact ⟨rfl,⟨hS.1.trans (hb6.mono hS.1.size),hS.2.under hb6⟩,fun _ _ h=>AF_over h hb6⟩); (try simp only [Act.put,zA,zZ,zS]))
 focus (refine OrdF.in_call (v:=.agg #[.int .u64 y,.int .i64 0,.bool false]) (f:=?_) (args:=?_) hT9.o (by decide) (by decide) ?_ (by rfl) ?_ ?_ ?_; rotate_left 2; (focus rfl); (intro w5 hS; skip; go_simp; constructor<;>rfl); (intro w5 hS; refine (HBH.out _ hS.1).mono ?_; rintro e w6 ⟨rfl,hb6⟩; exact ⟨rfl,⟨hS.1.trans (hb6.mono hS.1.size),hS.2.under hb6⟩,fun _ _ h=>AF_over h hb6⟩); (try simp only [Act.put,zA,zZ,zS]))
 refine OrdF.in_float OrdF.Ptr (.pointer (some ⟨0,0,none⟩)) ⟨0,rfl⟩ hT9.o rfl (by decide) ?_ (by rfl) ?_ ?_
 ·rfl
 ·intro w5 κs5 hC5 hA5;go_simp;simp only [Ord3.Lands];exact ⟨⟨_,rfl⟩,⟨hC5.1.alloc hC5.1.size _,hC5.2.more _⟩,hA5.up _⟩
 rintro _ ⟨V,rfl⟩
 try simp only [Act.put,zA,zZ,zS]
 refine OrdF.in_turn_late (by kernel_rfl) (by decide) (by decide) (fun u=>u=undef) (undef) rfl hT9.o rfl (by decide) (by rfl) ?_ (.inl rfl) (by rfl) ?_ ?_
 ·rfl
 ·rintro w5 hC5 ⟨M5,z5,⟨P5,hP5,hM5⟩,⟨hn5,_⟩ | ⟨n5,hn5,hE5⟩⟩
  ·cases hn5
  cases hn5;cases hP5;obtain ⟨rfl,rfl⟩:=hM5;have r:=hE5.rule 0 rfl; have ff:=hE5.thaw 0 rfl; have f0:=ff 0 (by simp); have f1:=ff 1 (by simp); have f2:=ff 2 (by simp); clear ff;go_simp;have hE6:=hE5.put3 0 rfl (.int .u64 y) (.int .i64 0) (.bool false); exact ⟨rfl,⟨hE6.below,hE6.get 1 rfl⟩,_,_,⟨_,rfl,rfl,rfl⟩,.inr ⟨_,rfl,hE6⟩⟩
 rintro _ rfl
 try simp only [Act.put,zA,zZ,zS]
 refine OrdF.in_nil rfl (by decide) (by decide) ?_;rintro w5 hC5 ⟨M5,z5,⟨P5,hP5,hM5⟩,⟨hn5,_⟩ | ⟨n5,hn5,hE5⟩⟩
 ·cases hn5
 cases hn5;cases hP5;obtain ⟨rfl,rfl⟩:=hM5;clear hT9;clear HBH HLE;have rV:=hE5.rule 0 rfl;have r:=hE5.rule 1 rfl;unfold av at r;have f:=hE5.thaw 0 rfl 2 (by simp);go_wp2_with fail;have hE6:=hE5.put 0 rfl (j:=2) (by simp) (.bool false);clear r rV f hE5 hE;generalize w5.setCell _ _=w6 at *;replace hE6:Env w0 (boxI V [.int .u64 y,.int .i64 0,.bool false]::boxI a (av S.c M)::LT S R) w6:=hE6;refine Ord.wc [11] (fun v=>Blk 0 v a (av S.c M)/\Blk 0 v V [.int .u64 y,.int .i64 0,.bool false]) (fun k w'=>∃ G5,Env w0 (boxI V [.int .u64 y,.int .i64 0,.bool false]::boxI a (av S.c M)::LT (if k=0 then S else { S with G:=G5,f:=swf S.f (2,0,0) M.h y,qc:=swq S.qc (decide (S.f (2,0,0)=M.h)),m:=S.m+1 }) R) w') ⟨hE6.drew.get 1 rfl,hE6.drew.get 0 rfl⟩ ⟨S.G,hE6.drew⟩ fun hT9=>?_
 repeat ((first
  | (refine Ord.cv ?_ hT9.o ?_ ?_; rotate_left; (intro w5 hS; have r:=hS.1.rule; have r1:=hS.2.rule; unfold av at r; go_simp<;>rfl))
  | (refine Ord.co hT9.o ?_)
  | (refine Ord.cc ?_ ?_ ?_ hT9.o ?_ ?_ ?_; rotate_left 3; (intro w5 hS; have r:=hS.1.rule; have r1:=hS.2.rule; unfold av at r; go_simp; constructor<;>rfl); (intro w5 hS; (first | (with_reducible refine kp (pool_any _) ?_ ?_; rfl; exact fun w6 hb6=>⟨⟨hS.1.under hb6,hS.2.under hb6⟩,fun k h=>h.elim fun G5 h=>⟨G5,h.over hb6⟩⟩) | (with_reducible refine kp (shared_any _ _ _ _) ?_ ?_; rfl; exact fun w6 hb6=>⟨⟨hS.1.under hb6,hS.2.under hb6⟩,fun k h=>h.elim fun G5 h=>⟨G5,h.over hb6⟩⟩)))));try simp only [Act.put,zA,zZ,zS])
 refine Ord.ch_turn (v:=.bool false) 0 hT9.o rfl (by decide) (Or.inl rfl) (by rfl) ?_ ?_
 ·rintro w5 hC5 ⟨G5,hA5⟩;simp only [if_true] at hA5;go_simp;rw [method_swap];simp only [Result.andThen_ok];go_simp;simp only [Ord.LandsIn];have hsw:=swap_w 2 0 0 0 M.h 0 y 0 false false (by unfold Wf In64; simp) HNI.out hm 4 5 (by decide) hA5 rfl rfl;rw [HD.out] at hsw;refine hsw.mono ?_;rintro e w6 ⟨rfl,G6,hE6⟩;rw [HD.out];exact ⟨rfl,⟨hE6.get 1 rfl,hE6.get 0 rfl⟩,G6,hE6⟩
 try simp only [Act.put,zA,zZ,zS]
 repeat ((first
  | (refine Ord.cv ?_ hT9.o ?_ ?_; rotate_left; (intro w5 hS; skip; go_simp<;>rfl))
  | (refine Ord.co hT9.o ?_));try simp only [Act.put,zA,zZ,zS])
 refine Ord.InText.nil fun w5 hS=>?_;clear hT9;obtain ⟨hC9,hA9⟩:=Ord.chain_end hS;clear hS;obtain ⟨G9,hA9⟩:=hA9;clear hC9;simp only [List.length_cons,List.length_nil,Nat.zero_add,Nat.one_ne_zero,if_false] at hA9;have r:=hA9.rule 1 rfl;unfold av at r;go_wp2_with fail;refine (goOn_m 1 _ _ _ (by simp [av]) (by exact congrArg some hz.out) hA9 rfl).mono ?_;rintro o w7 ⟨rfl,hE7⟩;go_wp2_with fail;go_ret;exact ⟨rfl,G9,hE7.sub (.cons _ (List.Sublist.refl _))⟩
theorem takeYes_a (hfx:S.f (2,0,0)=M.h) (hr:InU M.r) (hl:S.ql.length+1<=1048576) (hh:InU M.h) (hn:InU M.n) (hg:Glo w0) (hm:S.m < maxLen) (hz:Hid (M.nx.2=.int .i64 0)) (hE:Env w0 (boxI a (av S.c M)::LT S R) w) :
  Calls prog 309 #[.pointer (some ⟨a,0,none⟩),.iface 28 (.pointer (some ⟨S.p,0,none⟩))] w fun o w'=>o=.returned (.int .i64 (decS (S.ql++[(slotI M.h,epI M.r,0)]) S.ce S.cl))/\∃ nx k' F' G',(decP (S.ql++[(slotI M.h,epI M.r,0)]) S.ce S.cl≠0->nx=nxA a (decP (S.ql++[(slotI M.h,epI M.r,0)]) S.ce S.cl))/\Rm S.kq (S.ql.length+1) k'/\Env w0 (boxI a (av S.c { M with nx:=nx })::LT { S with G:=G',f:=swf S.f (2,0,0) M.h (nextW M.h (slotI M.n)),qc:=swq S.qc (decide (S.f (2,0,0)=M.h)),m:=S.m+1,ql:=S.ql++[(slotI M.h,epI M.r,0)],kq:=k',F:=F' } R) w':=by
 have hmf:=makeF;have hah:=ahead_swap;have HD:Hid (decide (S.f (2,0,0)=M.h)=true):=zH (by rw [hfx]; simp);have hlh:=fun (v:World) (hv:Below w0.heap.size w0 v)=>lead_c M.h 0 false v hh (hg.keep' hv);have hbh:=fun (v:World) (hv:Below w0.heap.size w0 v)=>behind_any M.h 0 (slotI M.n) 0 false hh v (hg.keep' hv);have hni:=nextW_in M.h (slotI M.n) hh;obtain ⟨y,hy⟩:∃ y,nextW M.h (slotI M.n)=y:=⟨_,rfl⟩;rw [hy] at hni ⊢;simp only [hy] at hbh;have HNI:=zH hni;have HBH:=zH hbh;clear hy hni hbh;obtain ⟨sl,hsl⟩:∃ sl,slotI M.h=sl:=⟨_,rfl⟩;rw [hsl];simp only [hsl] at hlh;have HLH:=zH hlh;have HRR:=zH hr;clear hsl hlh hr;have HLE:=zH fun (v:World) (hv:Below w0.heap.size w0 v)=>lead_c M.n 0 false v hn (hg.keep' hv);clear hfx;go_enter func309,ntmps309;go_wp2_with fail;refine OrdF.wp_float [?_,?_,?_,?_,?_,?_,?_,?_,?_,?_,OrdF.Ptr,?_] [11] 10 (fun v=>Below w0.heap.size w0 v/\Blk 0 v a (av S.c M)) (OrdF.AF w0 [.int .u64 0,.int .i64 0,.bool false] (OrdF.Sta [fun N zs=>N=boxI a (av S.c M)::LT S R/\zs=[.int .u64 0,.int .i64 0,.bool false],fun N zs=>N=boxI a (av S.c M)::LT S R/\zs=[.int .u64 y,.int .i64 0,.bool false]])) (by kernel_rfl) (by kernel_rfl) (by kernel_rfl) ⟨hE.drew.below,hE.drew.get 0 rfl⟩ ⟨_,_,⟨_,rfl,rfl,rfl⟩,.inl ⟨rfl,rfl,hE.drew⟩⟩ (fun hT=>?_);rotate_left 11;have hT9:=zH hT;clear hT
 repeat ((first
  | (focus (refine OrdF.in_value (v:=?_) hT9.o (by decide) (by decide) ?_ (by rfl) ?_ ?_; rotate_left 2; (intro w5 hS; have r:=hS.2.rule; unfold av at r; go_simp<;>rfl); rotate_right; (focus rfl)))
  | (focus (refine OrdF.in_off hT9.o (by decide) (by decide) ?_ (by rfl) ?_; (focus rfl))));try simp only [Act.put,zA,zZ,zS])
 focus (refine OrdF.in_call (v:=.agg #[.int .i64 (slotI M.n),.int .i64 0]) (f:=?_) (args:=?_) hT9.o (by decide) (by decide) ?_ (by rfl) ?_ ?_ ?_; rotate_left 2; (focus rfl); (intro w5 hS; skip; go_simp; constructor<;>rfl); (intro w5 hS; refine (HLE.out _ hS.1).mono ?_; rintro e w6 ⟨rfl,hb6⟩; exact ⟨rfl,⟨hS.1.trans (hb6.mono hS.1.size),hS.2.under hb6⟩,fun _ _ h=>AF_over h hb6⟩); (try simp only [Act.put,zA,zZ,zS]))
 focus (refine OrdF.in_call (v:=.agg #[.int .u64 y,.int .i64 0,.bool false]) (f:=?_) (args:=?_) hT9.o (by decide) (by decide) ?_ (by rfl) ?_ ?_ ?_; rotate_left 2; (focus rfl); (intro w5 hS; skip; go_simp; constructor<;>rfl); (intro w5 hS; refine (HBH.out _ hS.1).mono ?_; rintro e w6 ⟨rfl,hb6⟩; exact ⟨rfl,⟨hS.1.trans (hb6.mono hS.1.size),hS.2.under hb6⟩,fun _ _ h=>AF_over h hb6⟩); (try simp only [Act.put,zA,zZ,zS]))
 refine OrdF.in_float OrdF.Ptr (.pointer (some ⟨0,0,none⟩)) ⟨0,rfl⟩ hT9.o rfl (by decide) ?_ (by rfl) ?_ ?_
 ·rfl
 ·intro w5 κs5 hC5 hA5;go_simp;simp only [Ord3.Lands];exact ⟨⟨_,rfl⟩,⟨hC5.1.alloc hC5.1.size _,hC5.2.more _⟩,hA5.up _⟩
 rintro _ ⟨V,rfl⟩
 try simp only [Act.put,zA,zZ,zS]
 refine OrdF.in_turn_late (by kernel_rfl) (by decide) (by decide) (fun u=>u=undef) (undef) rfl hT9.o rfl (by decide) (by rfl) ?_ (.inl rfl) (by rfl) ?_ ?_
 ·rfl
 ·rintro w5 hC5 ⟨M5,z5,⟨P5,hP5,hM5⟩,⟨hn5,_⟩ | ⟨n5,hn5,hE5⟩⟩
  ·cases hn5
  cases hn5;cases hP5;obtain ⟨rfl,rfl⟩:=hM5;have r:=hE5.rule 0 rfl; have ff:=hE5.thaw 0 rfl; have f0:=ff 0 (by simp); have f1:=ff 1 (by simp); have f2:=ff 2 (by simp); clear ff;go_simp;have hE6:=hE5.put3 0 rfl (.int .u64 y) (.int .i64 0) (.bool false); exact ⟨rfl,⟨hE6.below,hE6.get 1 rfl⟩,_,_,⟨_,rfl,rfl,rfl⟩,.inr ⟨_,rfl,hE6⟩⟩
 rintro _ rfl
 try simp only [Act.put,zA,zZ,zS]
 refine OrdF.in_nil rfl (by decide) (by decide) ?_;rintro w5 hC5 ⟨M5,z5,⟨P5,hP5,hM5⟩,⟨hn5,_⟩ | ⟨n5,hn5,hE5⟩⟩
 ·cases hn5
 cases hn5;cases hP5;obtain ⟨rfl,rfl⟩:=hM5;clear hT9;clear HBH HLE;have rV:=hE5.rule 0 rfl;have r:=hE5.rule 1 rfl;unfold av at r;have f:=hE5.thaw 0 rfl 2 (by simp);go_wp2_with fail;have hE6:=hE5.put 0 rfl (j:=2) (by simp) (.bool false);clear r rV f hE5 hE;generalize w5.setCell _ _=w6 at *;replace hE6:Env w0 (boxI V [.int .u64 y,.int .i64 0,.bool false]::boxI a (av S.c M)::LT S R) w6:=hE6;refine Ord.wc [11] (fun v=>Blk 0 v a (av S.c M)/\Blk 0 v V [.int .u64 y,.int .i64 0,.bool false]) (fun k w'=>∃ G5,Env w0 (boxI V [.int .u64 y,.int .i64 0,.bool false]::boxI a (av S.c M)::LT (if k=0 then S else { S with G:=G5,f:=swf S.f (2,0,0) M.h y,qc:=swq S.qc (decide (S.f (2,0,0)=M.h)),m:=S.m+1 }) R) w') ⟨hE6.drew.get 1 rfl,hE6.drew.get 0 rfl⟩ ⟨S.G,hE6.drew⟩ fun hT9=>?_
 repeat ((first
  | (refine Ord.cv ?_ hT9.o ?_ ?_; rotate_left; (intro w5 hS; have r:=hS.1.rule; have r1:=hS.2.rule; unfold av at r; go_simp<;>rfl))
  | (refine Ord.co hT9.o ?_)
  | (refine Ord.cc ?_ ?_ ?_ hT9.o ?_ ?_ ?_; rotate_left 3; (intro w5 hS; have r:=hS.1.rule; have r1:=hS.2.rule; unfold av at r; go_simp; constructor<;>rfl); (intro w5 hS; (first | (with_reducible refine kp (pool_any _) ?_ ?_; rfl; exact fun w6 hb6=>⟨⟨hS.1.under hb6,hS.2.under hb6⟩,fun k h=>h.elim fun G5 h=>⟨G5,h.over hb6⟩⟩) | (with_reducible refine kp (shared_any _ _ _ _) ?_ ?_; rfl; exact fun w6 hb6=>⟨⟨hS.1.under hb6,hS.2.under hb6⟩,fun k h=>h.elim fun G5 h=>⟨G5,h.over hb6⟩⟩)))));try simp only [Act.put,zA,zZ,zS])
 refine Ord.ch_turn (v:=.bool true) 0 hT9.o rfl (by decide) (Or.inl rfl) (by rfl) ?_ ?_
 ·rintro w5 hC5 ⟨G5,hA5⟩;simp only [if_true] at hA5;go_simp;rw [method_swap];simp only [Result.andThen_ok];go_simp;simp only [Ord.LandsIn];have hsw:=swap_w 2 0 0 0 M.h 0 y 0 false false (by unfold Wf In64; simp) HNI.out hm 4 5 (by decide) hA5 rfl rfl;rw [HD.out] at hsw;refine hsw.mono ?_;rintro e w6 ⟨rfl,G6,hE6⟩;rw [HD.out];exact ⟨rfl,⟨hE6.get 1 rfl,hE6.get 0 rfl⟩,G6,hE6⟩
 try simp only [Act.put,zA,zZ,zS]
 repeat ((first
  | (refine Ord.cv ?_ hT9.o ?_ ?_; rotate_left; (intro w5 hS; skip; go_simp<;>rfl))
  | (refine Ord.co hT9.o ?_));try simp only [Act.put,zA,zZ,zS])
 refine Ord.InText.nil fun w5 hS=>?_;clear hT9;obtain ⟨hC9,hA9⟩:=Ord.chain_end hS;clear hS;obtain ⟨G9,hA9⟩:=hA9;clear hC9;simp only [List.length_cons,List.length_nil,Nat.zero_add,Nat.one_ne_zero,if_false] at hA9;have r:=hA9.rule 1 rfl;unfold av at r;go_wp2_with fail;refine (HLH.out _ hA9.below).mono ?_;rintro o w7 ⟨rfl,hb⟩;replace hA9:=hA9.over hb;have hE8:=(hA9.sub (.cons _ (List.Sublist.refl _))).box w7.heap.size rfl [.int .i64 sl,.int .i64 0] 110;clear hb r hA9 HLH;go_wp2_with fail;generalize w7.alloc _=w8 at *;generalize w7.heap.size=Y at *;have hE9:=hE8.perm (L':=boxI a (av S.c M)::LT ({ S with G:=G9,f:=swf S.f (2,0,0) M.h y,qc:=swq S.qc (decide (S.f (2,0,0)=M.h)),m:=S.m+1 }:ST) (boxI Y [.int .i64 sl,.int .i64 0]::R)) (List.perm_middle (l₁:=[boxI a (av S.c M),_,_,_,_])).symm;clear hE8;refine Ord.wc [11] (fun v=>(∃ nx,Blk 0 v a (av S.c { M with nx:=nx }))/\Blk 0 v Y [.int .i64 sl,.int .i64 0]) (fun k w'=>∃ nx k' F',(k≠0->(decP (S.ql++[(sl,epI M.r,0)]) S.ce S.cl≠0->nx=nxA a (decP (S.ql++[(sl,epI M.r,0)]) S.ce S.cl))/\Rm S.kq (S.ql.length+1) k')/\(k=0->Hid (nx.2=.int .i64 0))/\Env w0 (boxI a (av S.c { M with nx:=nx })::LT (if k=0 then ({ S with G:=G9,f:=swf S.f (2,0,0) M.h y,qc:=swq S.qc (decide (S.f (2,0,0)=M.h)),m:=S.m+1 }:ST) else { S with G:=G9,f:=swf S.f (2,0,0) M.h y,qc:=swq S.qc (decide (S.f (2,0,0)=M.h)),m:=S.m+1,ql:=S.ql++[(sl,epI M.r,0)],kq:=k',F:=F' }) (boxI Y [.int .i64 sl,.int .i64 0]::R)) w') ⟨⟨M.nx,hE9.drew.get 0 rfl⟩,hE9.drew.get 5 rfl⟩ ⟨M.nx,0,S.F,fun h=>absurd rfl h,fun _=>hz,hE9.drew⟩ fun hT9=>?_
 repeat ((first
  | (refine Ord.cv ?_ hT9.o ?_ ?_; rotate_left; (intro w5 hS; obtain ⟨⟨nx9,hS1⟩,hS2⟩:=hS; have r:=hS1.rule; have r1:=hS2.rule; unfold av at r; go_simp<;>rfl))
  | (refine Ord.co hT9.o ?_)
  | (refine Ord.cc ?_ ?_ ?_ hT9.o ?_ ?_ ?_; rotate_left 3; (intro w5 hS; obtain ⟨⟨nx9,hS1⟩,hS2⟩:=hS; have r:=hS1.rule; have r1:=hS2.rule; unfold av at r; go_simp; constructor<;>rfl); (intro w5 hS; (first | (with_reducible refine kp (epochOf_any _ _ _ HRR.out _) ?_ ?_; rfl; exact fun w6 hb6=>⟨⟨hS.1.elim fun nx9 h=>⟨nx9,h.under hb6⟩,hS.2.under hb6⟩,fun k h=>h.elim fun nx8 h=>h.elim fun k8 h=>h.elim fun F8 h=>⟨nx8,k8,F8,h.1,h.2.1,h.2.2.over hb6⟩⟩)))));try simp only [Act.put,zA,zZ,zS])
 refine Ord.ch_turn (v:=.int .i64 (decS (S.ql++[(sl,epI M.r,0)]) S.ce S.cl)) 0 hT9.o rfl (by decide) (Or.inl rfl) (by rfl) ?_ ?_
 ·rintro w5 hC5 ⟨nx5,k5,F5,-,hz5,hA5⟩;obtain ⟨⟨nx9,hS1⟩,hS2⟩:=hC5;simp only [if_true] at hA5;go_simp;simp only [Ord.LandsIn];refine (came_a (S:=({ S with G:=G9,f:=swf S.f (2,0,0) M.h y,qc:=swq S.qc (decide (S.f (2,0,0)=M.h)),m:=S.m+1 }:ST)) sl (epI M.r) hl (hz5 rfl) hA5).mono ?_;rintro e w6 ⟨rfl,nx,k',F',hnx,hrm,hE6⟩
  first | exact ⟨rfl,⟨⟨_,hE6.get 0 rfl⟩,hE6.get 5 rfl⟩,nx,k',⟨hnx,hrm⟩,F',hE6⟩ | exact ⟨rfl,⟨⟨nx.1,nx.2,hE6.get 0 rfl⟩,hE6.get 5 rfl⟩,nx.1,nx.2,k',⟨hnx,hrm⟩,F',hE6⟩ | exact ⟨rfl,⟨⟨nx.1,nx.2,hE6.get 0 rfl⟩,hE6.get 5 rfl⟩,nx,k',⟨hnx,hrm⟩,F',hE6⟩
 try simp only [Act.put,zA,zZ,zS]
 repeat ((first
  | (refine Ord.cv ?_ hT9.o ?_ ?_; rotate_left; (intro w5 hS; skip; go_simp<;>rfl))
  | (refine Ord.co hT9.o ?_));try simp only [Act.put,zA,zZ,zS])
 refine Ord.InText.nil fun w5 hS=>?_;clear hT9;obtain ⟨hC9,hA9⟩:=Ord.chain_end hS;clear hS;obtain ⟨nx,k',F',hc9,-,hA9⟩:=hA9;obtain ⟨hnx,hrm⟩:=hc9 (by decide);simp only [List.length_cons,List.length_nil,Nat.zero_add,Nat.one_ne_zero,if_false] at hA9;clear hC9 hc9;go_wp2_with fail;go_ret;exact ⟨rfl,nx,k',F',G9,hnx,hrm,hA9.sub (.cons_cons _ (.cons_cons _ (.cons_cons _ (.cons_cons _ (.cons_cons _ (.cons _ (List.Sublist.refl _)))))))⟩
end
def lieI (g:Nat) (xs:List Value):Item where
 F:=fun k=>k=g
 says:=fun w=>∀ j u,xs[j]?=some u->w.cell? ⟨g,j,none⟩=some u
 loc:=fun w1 w2 h hk _ j u hu=>by
  have e:=hk g rfl
  have e2:=h j u hu
  unfold World.cell? at e2 ⊢
  rw [e]
  exact e2
theorem Env.lies {w0 w:World} {L:List Item} (h:Env w0 L w) (i:Nat) {g:Nat} {xs:List Value} (hi:L[i]?=some (lieI g xs)):∀ j u,xs[j]?=some u->w.cell? ⟨g,j,none⟩=some u:=h.get i hi
theorem Env.rowLies {w0 w:World} {L:List Item} {e:TypeId} {s n:Nat} {v:Value} {xs:List Value} (h:Env w0 (rowI v e s n xs::L) w) (hn:n≠0) :
  ∃ g c,v=.slice (some ⟨g,0,none⟩) n c/\n<=c/\Env w0 (lieI g xs::L) w:=by
 have ho:w.ownsRow 0 e s v n xs:=h.get 0 rfl
 rcases ho.2 with ⟨-,h0⟩ | ⟨g,cap,cur,hv,-,hg,hnc,-⟩
 ·exact absurd h0 hn
 ·refine ⟨g,cap,hv,hnc,?_⟩;have h2:=h.step 0 (lieI g xs) rfl (w':=w) ⟨Turn.refl _ w,fun k hk=>.inl (by
   show v.ownBlock=some k;rw [hv];show some g=some k;rw [show k=g from hk])⟩ (fun j u hu=>by
    have this:=ho.cells (g:=g) (by rw [hv]; rfl) j u hu;have e2:(⟨g,0,none⟩:Addr).add j=⟨g,j,none⟩:=by unfold Addr.add; split<;>simp_all
    rw [e2] at this;exact this) (fun k hk=>h.lt 0 rfl k (by
   show v.ownBlock=some k;rw [hv];show some g=some k;rw [show k=g from hk]))
  exact h2
theorem Env.appendRow {P:Program} {w0 w:World} {L:List Item} (h:Env w0 L w) (i:Nat) {v:Value} {e:TypeId} {s n b:Nat} {xs:List Value} (hi:L[i]?=some (rowI v e s n xs)) (t ty:TypeId) (ht:P.underlying t=some (.slice e)) (z:Value) (hinfo:(P.info? e).map (fun i=>(i.zero,i.size,i.bytes))=some (some z,s,b)) (hzs:z.cells.size=s) (hsz:0 < s)
  (A:Option Addr) (m c:Nat) (news:List Value) (hl:news.length=m * s) (hnews:(A=none/\m=0)\/∃ ad,A=some ad/\∀ j u,news[j]?=some u->w.cell? (ad.add j)=some u) (h1:∀ u∈news,u.oneCell'=true) (h63:n+m<=maxLen) (hbytes:(n+m) * b<=140737488355328) :
  ∃ A' c' w',(Builtin.append_ #[t,t] ty #[v,.slice A m c]).run P w=.ok (.slice A' (n+m) c') w'/\Env w0 (L.set i (rowI (.slice A' (n+m) c') e s (n+m) (xs++news))) w':=by
 obtain ⟨i0,hi0,hzz⟩:=Option.map_eq_some_iff.1 hinfo;simp only [Prod.mk.injEq] at hzz;obtain ⟨hz0,hs,hb⟩:=hzz;have hown:w.ownsRow 0 e s v n xs:=h.get i hi;obtain ⟨v',w',hrun,ho,hg,hv⟩:=run_append_rows (P:=P) t ty 0 e i0 z s b ht hi0 hz0 hs hb hzs hsz w v n xs hown A m c news hl hnews h1 h63 hbytes (Nat.zero_le _);obtain ⟨A',c',rfl⟩:=ownsRow_slice ho;refine ⟨A',c',w',hrun,h.step i (rowI _ e s (n+m) (xs++news)) hi ⟨(Turn.refl _ w).grown hg fun k _ e=>e,fun k hk=>?_⟩ ho (ownsRow_lt ho)⟩
 rcases hv with e | e
 ·exact .inl (by show v.ownBlock=some k; rw [<- e]; exact hk)
 ·right
  have:some w.heap.size=some k:=e.symm.trans hk;cases this;exact Nat.le_refl _
def flat2 (l:List (Int × Int)):List Value:=l.flatMap fun p=>[.int .i64 p.1,.int .u64 p.2]
def wordsA (ck e key val lv:Int):List (Int × Int):=[(0,e),(1,0),(3,key)]++(if ck=2 then [(4,val)] else if ck=3 then [(5,lv),(6,0)] else [])
theorem infoWrite:(prog.info? 330).map (fun i=>(i.zero,i.size,i.bytes))=some (some (.agg #[.int .i64 0,.int .u64 0]),2,16):=by kernel_rfl
section
variable {w0 w:World} {R:List Item} {a:Nat} {S:ST} {M:MA}
theorem words_a (he:0<=S.ce/\S.ce<=9223372036854775807) (hE:Env w0 (boxI a (av S.c M)::LT S R) w) :
  Calls prog 271 #[.pointer (some ⟨a,0,none⟩)] w fun o w'=>∃ g c,o=.returned (.slice (some ⟨g,0,none⟩) (wordsA S.ck S.ce M.key M.val (IntKind.u64.wrap M.lv)).length c)/\(wordsA S.ck S.ce M.key M.val (IntKind.u64.wrap M.lv)).length<=c/\Env w0 (lieI g (flat2 (wordsA S.ck S.ce M.key M.val (IntKind.u64.wrap M.lv)))::boxI a (av S.c M)::LT S R) w':=by
 have hw1:IntKind.u64.wrap S.ce=S.ce:=wrapU _ (by omega) (by omega);have hki:=kind_of;clear he;go_enter func271,ntmps271;go_wp2_with fail;refine Ord3.wp_chain [?_,?_,?_,?_,?_,?_,?_,?_,?_,?_,?_,?_,?_,?_,?_,?_,?_] [15,16] (fun w'=>Blk 0 w' a (av S.c M)/\Blk 0 w' S.c (crv S.ck S.cs S.cb S.ch S.cl S.ce S.cr S.hs 0 S.q)) (Ord3.Stage fun κs=>[Env w0 (boxI a (av S.c M)::LT S R),Env w0 (rowI (κs.getD 0 undef) 330 2 3 (flat2 [(0,S.ce),(1,0),(3,M.key)])::boxI a (av S.c M)::LT S R),Env w0 (rowI (κs.getD 1 undef) 330 2 3 (flat2 [(0,S.ce),(1,0),(3,M.key)])::boxI a (av S.c M)::LT S R)]) (by kernel_rfl) (by kernel_rfl) (by kernel_rfl) ⟨hE.drew.get 0 rfl,hE.drew.get 1 rfl⟩ ⟨_,rfl,hE.drew⟩ (fun hT=>?_);rotate_left 17;have hT9:=zH hT;clear hT
 repeat ((first
  | (focus (refine Ord3.in_value (v:=?_) hT9.o (by decide) ?_ (by rfl) ?_ ?_; rotate_left 2; (intro w5 hS; have r1:=Blk.rule hS.1; unfold av at r1; go_simp<;>rfl); rotate_right; (focus rfl)))
  | (focus (refine Ord3.in_off hT9.o (by decide) ?_ (by rfl) ?_; (focus rfl)))
  | (focus (refine Ord3.in_call (v:=?_) (f:=?_) (args:=?_) hT9.o (by decide) ?_ (by rfl) ?_ ?_ ?_; rotate_left 4; (intro w5 hS; have r1:=Blk.rule hS.1; unfold av at r1; go_simp; constructor<;>rfl); (intro w5 hS; (first | (with_reducible refine (epoch_c hS.2).mono ?_; rintro o w6 ⟨rfl,rfl⟩; constructor; rfl; exact ⟨hS,fun _ h=>h⟩))); rotate_right; (focus rfl))));try simp only [Act.put,zA,zZ,zS])
 refine Ord3.in_turn (fun u=>∃ z,u=.slice (some ⟨z,0,none⟩) 3 3) _ ⟨0,rfl⟩ hT9.o rfl (by decide) (by rfl) ?_ (Or.inl rfl) (by rfl) ?_ ?_
 ·rfl
 ·rintro w7 hC7 ⟨P7,hP7,hA7⟩;cases hP7;go_simp;simp only [Ord3.Lands];have hb:=(Below.refl w7.heap.size w7).alloc (Nat.le_refl _) (.cells (flat2 [(0,S.ce),(1,0),(3,M.key)]).toArray 330);have hE8:=hA7.add (rowI (.slice (some ⟨w7.heap.size,0,none⟩) 3 3) 330 2 3 (flat2 [(0,S.ce),(1,0),(3,M.key)])) hb (World.ownsRow_lit w7 (flat2 [(0,S.ce),(1,0),(3,M.key)]).toArray 3 (Nat.zero_le _) (by decide) rfl) (fun k hk=>by
   have:w7.heap.size=k:=by simpa [rowI,Value.ownBlock] using hk
   subst this;simp)
  exact ⟨⟨_,rfl⟩,⟨hE8.get 1 rfl,hE8.get 2 rfl⟩,_,rfl,hE8⟩
 rintro _ ⟨z9,rfl⟩
 try simp only [Act.put,zA,zZ,zS]
 refine Ord3.in_turn (fun u=>∃ z,u=.slice (some ⟨z,0,none⟩) 3 3) _ ⟨0,rfl⟩ hT9.o rfl (by decide) (by rfl) ?_ (Or.inr ⟨_,15,[],rfl,by kernel_rfl,by kernel_rfl,rfl⟩) (by rfl) ?_ ?_
 ·rfl
 ·rintro w7 hC7 ⟨P7,hP7,hA7⟩;cases hP7;go_simp;simp only [Ord3.Lands];exact ⟨⟨_,rfl⟩,hC7,_,rfl,hA7⟩
 rintro _ ⟨z8,rfl⟩
 try simp only [Act.put,zA,zZ,zS]
 refine Ord3.in_nil rfl ?_;rintro w9 hC9 ⟨P9,hP9,hA9⟩;cases hP9;replace hA9:Env w0 (rowI (.slice (some ⟨z8,0,none⟩) 3 3) 330 2 3 (flat2 [(0,S.ce),(1,0),(3,M.key)])::boxI a (av S.c M)::LT S R) w9:=hA9;clear hT9 hC9 hE;have r:=hA9.rule 1 rfl;unfold av at r;go_wp2_with fail;refine (conf_c (hA9.get 2 rfl)).mono ?_;rintro o w10 ⟨rfl,hb⟩;replace hA9:=hA9.over hb;clear hb r;have r:=hA9.rule 1 rfl;unfold av at r;generalize w10=w9 at *
 rcases hk2:S.ck==2 with _ | _
 ·rcases hk3:S.ck==3 with _ | _
  ·have hw:wordsA S.ck S.ce M.key M.val (IntKind.u64.wrap M.lv)=[(0,S.ce),(1,0),(3,M.key)]:=by
    simp only [beq_eq_false_iff_ne] at hk2 hk3;simp [wordsA,hk2,hk3]
   have HW:=zH hw;clear hw;go_wp2_with fail;go_ret;obtain ⟨g,c,he,hc,hE12⟩:=hA9.rowLies (by decide);cases he;rw [HW.out];exact ⟨_,_,rfl,hc,hE12⟩
  ·simp only [beq_eq_false_iff_ne] at hk2;have hw:wordsA S.ck S.ce M.key M.val (IntKind.u64.wrap M.lv)=[(0,S.ce),(1,0),(3,M.key)]++[(5,IntKind.u64.wrap M.lv),(6,0)]:=by unfold wordsA; rw [if_neg (by simpa using hk2),if_pos (by simpa using hk3)]
   have HW:=zH hw;clear hw;have hE10:=hA9.box w9.heap.size rfl [.int .i64 5,.int .u64 (IntKind.u64.wrap M.lv),.int .i64 6,.int .u64 0] 330;obtain ⟨A',c',w',hrun,hE11⟩:=hE10.appendRow (P:=prog) 1 rfl 281 281 Tryz.underlying281 (.agg #[.int .i64 0,.int .u64 0]) infoWrite rfl (by decide) (some ⟨w9.heap.size,0,none⟩) 2 2 [.int .i64 5,.int .u64 (IntKind.u64.wrap M.lv),.int .i64 6,.int .u64 0] rfl (.inr ⟨_,rfl,cells_new _ _ _⟩) (by simp [Value.oneCell']) (by decide) (by decide);have HRUN:=zH hrun;clear hrun;go_wp2_with (first | (at_builtin; refine wpList_append_run rfl _ _ 281 rfl HRUN.out rfl rfl ?_));go_ret;obtain ⟨g,c,he,hc,hE12⟩:=(hE11.sub (.cons _ (List.Sublist.refl _))).rowLies (by decide);cases he;rw [HW.out];exact ⟨g,c',rfl,hc,hE12⟩
 ·have hk3:(S.ck==3)=false:=by simp only [beq_iff_eq] at hk2; simp [hk2]
  have hw:wordsA S.ck S.ce M.key M.val (IntKind.u64.wrap M.lv)=[(0,S.ce),(1,0),(3,M.key)]++[(4,M.val)]:=by unfold wordsA; rw [if_pos (by simpa using hk2)]
  have HW:=zH hw;clear hw;have hE10:=hA9.box w9.heap.size rfl [.int .i64 4,.int .u64 M.val] 330;obtain ⟨A',c',w',hrun,hE11⟩:=hE10.appendRow (P:=prog) 1 rfl 281 281 Tryz.underlying281 (.agg #[.int .i64 0,.int .u64 0]) infoWrite rfl (by decide) (some ⟨w9.heap.size,0,none⟩) 1 1 [.int .i64 4,.int .u64 M.val] rfl (.inr ⟨_,rfl,cells_new _ _ _⟩) (by simp [Value.oneCell']) (by decide) (by decide);have HRUN:=zH hrun;clear hrun;go_wp2_with (first | (at_builtin; refine wpList_append_run rfl _ _ 281 rfl HRUN.out rfl rfl ?_));go_ret;obtain ⟨g,c,he,hc,hE12⟩:=(hE11.sub (.cons _ (List.Sublist.refl _))).rowLies (by decide);cases he;rw [HW.out];exact ⟨g,c',rfl,hc,hE12⟩
end
def gdS:List Trip->Int
 | []=>1
 | _=>0
def poolG (x l:Int):Int:=if l<=verI x then 4 else 0
abbrev OneR:=Plc × Int
def lastS (k n:Nat):Int:=if k+1=n then 1 else 0
theorem wordsA_len (ck e key val lv:Int):(wordsA ck e key val lv).length=if ck=2 then 4 else if ck=3 then 5 else 3:=by
 unfold wordsA
 split
 ·rfl
 ·split<;>rfl
structure Dd where
 (kind ok key val lv:Int)
structure Cf where
 (k s b h l:Int)
structure Th where
 (e:Int)
 (ql:List Trip)
 (hs:Int)
 (nd pc apc:Nat)
 (ah an ar rs:Int)
 (rpc:Nat)
 (re:Int)
 (gpc:Nat)
 (gh gg done:Int)
 (full:Bool)
abbrev Mem:=Plc->Int
def allocM (C:Cf) (d:Dd) (T:Th) (f:Mem):Int × Th × Mem :=
 if T.apc=1 then (2,T,swf f (1,0,0) T.e (T.e+1))
 else if T.apc=2 then
  if C.s<=f (3,0,0) then (0,{ T with apc:=3 },upd f (3,0,0) (IntKind.u64.wrap (f (3,0,0)+1)))
  else (decS (T.ql++[(f (3,0,0)+1,0,0)]) T.e C.l,{ T with ql:=T.ql++[(f (3,0,0)+1,0,0)],apc:=decP (T.ql++[(f (3,0,0)+1,0,0)]) T.e C.l },upd f (3,0,0) (IntKind.u64.wrap (f (3,0,0)+1)))
 else if T.apc=3 then (poolS (f (2,0,0)) C.l,{ T with ah:=f (2,0,0),apc:=4 },f)
 else if T.apc=4 then (0,{ T with an:=f (5,slotI T.ah,2),apc:=5 },f)
 else if T.apc=5 then (0,{ T with ar:=f (5,slotI T.ah,1),apc:=6 },f)
 else if T.apc=6 then
  if f (2,0,0)=T.ah then (decS (T.ql++[(slotI T.ah,epI T.ar,0)]) T.e C.l,{ T with ql:=T.ql++[(slotI T.ah,epI T.ar,0)],apc:=decP (T.ql++[(slotI T.ah,epI T.ar,0)]) T.e C.l },swf f (2,0,0) T.ah (nextW T.ah (slotI T.an)))
  else (0,{ T with apc:=3 },swf f (2,0,0) T.ah (nextW T.ah (slotI T.an)))
 else
  let W:=wordsA C.k T.e d.key d.val (IntKind.u64.wrap d.lv)
  let pw:=W.getD (T.apc - 10) (0,0)
  if T.apc=10 then (lastS 0 W.length,{ T with ql:=T.ql.tail,hs:=(T.ql.headD t0).1,apc:=11 },upd f (5,(T.ql.headD t0).1,pw.1) pw.2)
  else (lastS (T.apc - 10) W.length,{ T with apc:=T.apc+1 },upd f (5,T.hs,pw.1) pw.2)
def retireM (T:Th) (f:Mem):Int × Th × Mem :=
 if T.rpc=0 then (0,{ T with re:=f (1,0,0),rpc:=1 },f)
 else (1,{ T with ql:=T.ql++[(T.rs,epI T.re,0)] },upd f (5,T.rs,1) T.re)
def giveM (C:Cf) (T:Th) (f:Mem):Int × Th × Mem :=
 if T.gpc=0 then (gdS T.ql,{ T with e:=epI (f (1,0,0)),gpc:=1 },f)
 else if T.gpc=1 then (poolG (f (2,0,0)) C.l,{ T with gh:=f (2,0,0),gpc:=2 },f)
 else if T.gpc=2 then (0,{ T with gpc:=3 },upd f (5,(T.ql.headD t0).1,2) (wordI false (slotI T.gh) 0))
 else if f (2,0,0)=T.gh then (gdS T.ql.tail,{ T with ql:=T.ql.tail,gg:=wrap64 (T.gg+1),gpc:=1 },swf f (2,0,0) T.gh (nextW T.gh (T.ql.headD t0).1))
 else (0,{ T with gpc:=1 },swf f (2,0,0) T.gh (nextW T.gh (T.ql.headD t0).1))
def actM (C:Cf) (d:Dd) (T:Th) (f:Mem):Th × Mem :=
 if T.pc=1 then
  let e:=epI (f (1,0,0))
  ({ T with e:=e,apc:=decP T.ql e C.l,ah:=0,an:=0,ar:=0,pc:=if decP T.ql e C.l=0 then 0 else 2,full:=false },f)
 else if T.pc=2 then
  let r:=allocM C d T f
  ({ r.2.1 with pc:=if r.1=2 then 1 else if r.1=0 then 2 else 0,done:=if r.1=1 then T.done+1 else T.done,full:=r.1==3 },r.2.2)
 else if T.pc=3 then
  let r:=retireM T f
  ({ r.2.1 with pc:=if r.1=0 then 3 else 0,full:=false },r.2.2)
 else
  let r:=giveM C T f
  ({ r.2.1 with pc:=if r.1=0 then 4 else 0,full:=false },r.2.2)
section
variable {w0 w:World} {L:List Item} {p c n:Nat} {F:Nat->Prop} {f:Plc->Int} {q:Cnt}
variable {cc qq:Nat} {k s b h l e r hs hh:Int}
def okB (x e:Int):Bool:=epB x && (epI x==e)
theorem valid_w (x:Int) (hfx:f (1,0,0)=x) (m i j:Nat) (hij:j≠i) (hjm:j≠m) (hE:Env w0 L w) (hm:L[m]?=some (coreI cc k s b h l e r hs hh qq)) (hi:L[i]?=some (wbox p c)) (hj:L[j]?=some (cellI c F f q n)) :
  Calls prog 217 #[.pointer (some ⟨cc,0,none⟩),.iface 28 (.pointer (some ⟨p,0,none⟩))] w fun o w'=>o=.returned (.bool (okB x e))/\Env w0 ((L.set j (cellI c F f { q with l:=wrap64 (q.l+1) } n)).set m (coreI cc k s b h l e (if okB x e then r else wrap64 (r+1)) hs hh qq)) w':=by
 have hml:m < L.length:=(List.getElem?_eq_some_iff.1 hm).1;have hset:∀ w',Env w0 (L.set j (cellI c F f { q with l:=wrap64 (q.l+1) } n)) w'->Env w0 ((L.set j (cellI c F f { q with l:=wrap64 (q.l+1) } n)).set m (coreI cc k s b h l e r hs hh qq)) w':=fun w' h=>by
  rw [set_same (wset (b:=cellI c F f { q with l:=wrap64 (q.l+1) } n) hjm hm)];exact h
 have HS:=zH hset;clear hset;have hok:okB x e=(epB x && (epI x==e)):=rfl;generalize hR:(if okB x e then r else wrap64 (r+1))=R;rw [hok] at hR ⊢;clear hok;generalize hy:epI x=y at *;generalize hB:epB x=B at *;have HR:=zH hR;have HY:=zH hy;have HB:=zH hB;clear hR hy hB;go_enter func217,ntmps217;go_wp2_with fail;refine (read_w x hfx i j hij hE hi hj).mono ?_;rintro o w1 ⟨rfl,hE1⟩;have hm1:=wset (b:=cellI c F f { q with l:=wrap64 (q.l+1) } n) hjm hm;have r1:=hE1.rule m hm1;unfold crv at r1;have f1:=hE1.thaw m hm1 6 (by simp [crv]);rw [HY.out,HB.out];clear HY HB;cases B
 ·have HR2:=HR.out;simp only [Bool.false_and,Bool.false_eq_true,if_false] at HR2;subst HR2;go_wp2_with fail;go_ret;exact ⟨rfl,hE1.put m hm1 (j:=6) (by simp [crv]) (.int .i64 (wrap64 (r+1)))⟩
 ·cases hy:y==e
  ·have HR2:=HR.out;rw [hy] at HR2;simp only [Bool.and_false,Bool.false_eq_true,if_false] at HR2;subst HR2;go_wp2_with fail;go_ret;exact ⟨ret_bool (by rw [hy]; rfl),hE1.put m hm1 (j:=6) (by simp [crv]) (.int .i64 (wrap64 (r+1)))⟩
  ·have HR2:=HR.out;rw [hy] at HR2;simp only [Bool.and_true,if_true] at HR2;subst HR2;go_wp2_with fail;go_ret;exact ⟨ret_bool (by rw [hy]; rfl),HS.out _ hE1⟩
end
structure Lm where
 p:Plc
 pc:Nat
 W:Int
 X:Int
 K:Int
 V:Int
 C:Int
 fd:Bool
def L0 (p:Plc):Lm:=⟨p,0,0,0,0,0,0,false⟩
def comeM (L:Lm) (w:Int):Int × Lm:=(if slotI w=0 then 1 else 0,{ L with W:=w,X:=0,C:=slotI w,pc:=3 })
def holdsM (lv key:Int) (vs:Bool) (L:Lm):Int × Lm :=
 if L.pc=2 then (if markB L.W then (2,L) else comeM L L.W)
 else if L.pc=4 then (0,{ L with pc:=if markB L.X then 5 else 6 })
 else if L.pc=7 then
  if L.K < key then comeM { L with p:=(5,L.C,7+lv) } L.X
  else if L.K=key then (if vs then (0,{ L with fd:=true,pc:=8 }) else (1,{ L with fd:=true }))
  else (1,L)
 else (1,L)
def laneM (lv key:Int) (vs:Bool) (e:Int) (L:Lm) (f:Plc->Int):Int × Lm × (Plc->Int) :=
 if L.pc=0 then (0,{ L with W:=f L.p,pc:=2 },f)
 else if L.pc=3 then (0,{ L with X:=f (5,L.C,7+lv),pc:=4 },f)
 else if L.pc=5 then
  if f L.p=L.W then ((comeM L (wordI false (slotI L.X) e)).1,(comeM L (wordI false (slotI L.X) e)).2,swf f L.p L.W (wordI false (slotI L.X) e))
  else (2,L,swf f L.p L.W (wordI false (slotI L.X) e))
 else if L.pc=6 then (0,{ L with K:=f (5,L.C,3),pc:=7 },f)
 else if L.pc=8 then (0,{ L with V:=f (5,L.C,4),pc:=9 },f)
 else if okB (f (1,0,0)) e then ((holdsM lv key vs L).1,(holdsM lv key vs L).2,f)
 else (2,L,f)
def isVal (pc:Nat):Bool:=pc==2 || pc==4 || pc==7 || pc==9
def rollM (e:Int) (L:Lm) (f:Plc->Int) (r:Int):Int:=if isVal L.pc && !okB (f (1,0,0)) e then wrap64 (r+1) else r
structure LmOk (L:Lm):Prop where
 pc:L.pc=0\/L.pc=2\/L.pc=3\/L.pc=4\/L.pc=5\/L.pc=6\/L.pc=7\/L.pc=8\/L.pc=9
 v:L.pc<=8->L.V=0
 fd:L.pc<=7->L.fd=false
 ft:8<=L.pc->L.fd=true
 x:L.pc<=3->L.X=0
 c0:L.pc<=2->L.C=0
 W:InU L.W
 X:InU L.X
 C:0<=L.C/\L.C<=8388607
theorem LmOk.start (p:Plc):LmOk (L0 p):=⟨.inl rfl,fun _=>rfl,fun _=>rfl,fun h=>absurd h (by simp [L0]),fun _=>rfl,fun _=>rfl,by simp [L0,InU],by simp [L0,InU],by simp [L0]⟩
structure Sm where
 on:Bool
 L:Lm
 e:Int
 r:Int
def searchM (k key:Int) (vs:Bool) (S:Sm) (f:Plc->Int):Int × Sm × (Plc->Int) :=
 if S.on then (if (laneM 0 key vs S.e S.L f).1=1 then 1 else 0,{ on:=decide ((laneM 0 key vs S.e S.L f).1≠2),L:=(laneM 0 key vs S.e S.L f).2.1,e:=S.e,r:=rollM S.e S.L f S.r },(laneM 0 key vs S.e S.L f).2.2)
 else (0,{ on:=true,L:=L0 (4,0,k),e:=epI (f (1,0,0)),r:=S.r },f)
structure Kt where
 T:Th
 pc:Nat
 on:Bool
 L:Lm
 laid:Bool
 on2:Bool
 L2:Lm
 err:Int
 dn:Bool
 r:Int
def dropQ (hs:Int) (ql:List Trip):List Trip:=if hs=0 then ql else ql++[(hs,0,0)]
def findM (K:Kt):Kt:={ K with pc:=1,on:=false,L:=L0 (4,0,0) }
def foundM (C:Cf) (d:Dd) (K:Kt):Int × Kt :=
 if d.ok=1 then
  if K.L.fd then (1,{ K with T:={ K.T with ql:=dropQ K.T.hs K.T.ql,hs:=0 } })
  else if K.T.hs=0 then
   if decP K.T.ql K.T.e C.l=0 then (1,{ K with err:=7 })
   else (0,{ K with pc:=2,T:={ K.T with pc:=2,apc:=decP K.T.ql K.T.e C.l,ah:=0,an:=0,ar:=0 } })
  else (0,{ K with pc:=3,laid:=false })
 else if d.ok=2/\K.L.fd=true then (0,{ K with pc:=4 })
 else (1,{ K with dn:=K.L.fd })
def markM (X e:Int):Int:=wordI true (slotI X) e
def opM (C:Cf) (d:Dd) (K:Kt) (f:Mem):Int × Kt × Mem :=
 if K.pc=1 then
  let q:=searchM 0 d.key false ⟨K.on,K.L,K.T.e,K.r⟩ f
  let K':={ K with on:=q.2.1.on,L:=q.2.1.L,r:=q.2.1.r,T:={ K.T with e:=q.2.1.e } }
  if q.1=1 then ((foundM C d K').1,(foundM C d K').2,q.2.2) else (0,K',q.2.2)
 else if K.pc=2 then
  let q:=allocM C d K.T f
  if q.1=0 then (0,{ K with T:=q.2.1 },q.2.2)
  else if q.1=3 then (1,{ K with T:={ q.2.1 with pc:=0 },err:=6 },q.2.2)
  else if q.1=4 then (1,{ K with T:={ q.2.1 with pc:=0 },err:=7 },q.2.2)
  else (0,findM { K with T:={ q.2.1 with pc:=0 } },q.2.2)
 else if K.pc=3 then
  if K.laid then
   if f K.L.p=K.L.W then (1,{ K with T:={ K.T with hs:=0 },dn:=true },swf f K.L.p K.L.W (wordI false K.T.hs K.T.e))
   else (0,findM K,swf f K.L.p K.L.W (wordI false K.T.hs K.T.e))
  else (0,{ K with laid:=true },upd f (5,K.T.hs,7) (wordI false (slotI K.L.W) K.T.e))
 else if K.pc=4 then
  if f (5,K.L.C,7)=K.L.X then (0,{ K with pc:=5 },swf f (5,K.L.C,7) K.L.X (markM K.L.X K.T.e))
  else (0,findM K,swf f (5,K.L.C,7) K.L.X (markM K.L.X K.T.e))
 else if K.pc=5 then
  if f K.L.p=K.L.W then (0,{ K with pc:=7,T:={ K.T with pc:=3,rs:=K.L.C,rpc:=0,re:=0 } },swf f K.L.p K.L.W (wordI false (slotI K.L.X) K.T.e))
  else (0,{ K with pc:=6,on2:=false,L2:=L0 (4,0,0) },swf f K.L.p K.L.W (wordI false (slotI K.L.X) K.T.e))
 else if K.pc=6 then
  let q:=searchM 0 d.key false ⟨K.on2,K.L2,K.T.e,K.r⟩ f
  let K':={ K with on2:=q.2.1.on,L2:=q.2.1.L,r:=q.2.1.r,T:={ K.T with e:=q.2.1.e } }
  if q.1=1 then (0,{ K' with pc:=7,T:={ K'.T with pc:=3,rs:=K.L.C,rpc:=0,re:=0 } },q.2.2) else (0,K',q.2.2)
 else
  let q:=retireM K.T f
  if q.1=0 then (0,{ K with T:=q.2.1 },q.2.2) else (1,{ K with T:={ q.2.1 with pc:=0 },dn:=true },q.2.2)
def beginK (d:Dd) (K:Kt):Kt :=
 if d.ok=8 then { K with pc:=8,T:={ K.T with pc:=4,nd:=K.T.nd+1,gpc:=0,gh:=0,gg:=0 } }
 else { findM K with T:={ K.T with nd:=K.T.nd+1 },err:=0,dn:=false }
def C9:Cf:=⟨1,2,0,1,9⟩
def d20:Dd:=⟨0,1,5,0,0⟩
def T0:Th:=⟨0,[],0,0,0,0,0,0,0,0,0,0,0,0,0,0,false⟩
def K0:Kt:=⟨T0,0,false,L0 (4,0,0),false,false,L0 (4,0,0),0,false,0⟩
def f0:Mem:=fun x=>if x=(1,0,0) then 1 else 0
def run20:Nat->Int × Kt × Mem
 | 0=>(0,beginK d20 K0,f0)
 | n+1=>opM C9 d20 (run20 n).2.1 (run20 n).2.2
set_option maxRecDepth 100000 in
theorem busy20:∀ j,j < 12->(run20 j).1=0/\1<=(run20 j).2.1.pc/\(run20 j).2.1.pc<=7:=by decide +kernel
set_option maxRecDepth 100000 in
theorem done20:(run20 12).1=1/\(run20 12).2.1.err=0/\(run20 12).2.1.dn=true:=by decide +kernel
def One (q q':Cnt):Prop :=
 (q'.l=wrap64 (q.l+1)/\q'.s=q.s/\q'.w=q.w/\q'.a=q.a)\/(q'.l=q.l/\q'.s=wrap64 (q.s+1)/\q'.w=q.w/\q'.a=q.a) \/
 (q'.l=q.l/\q'.s=q.s/\q'.w=wrap64 (q.w+1)/\q'.a=q.a)\/(q'.l=q.l/\q'.s=q.s/\q'.w=q.w/\q'.a=wrap64 (q.a+1))
structure Nx (n:Nat) (q:Cnt) (n':Nat) (q':Cnt):Prop where
 (le:n'<=n+1)
 (one:One q q')
def cvP (b1 b2:Nat):Value:=.func (.func 139) #[] #[.pointer (some ⟨b1,0,none⟩),.pointer (some ⟨b2,0,none⟩)]
section
variable {w0 w:World} {L:List Item} {a o:Nat} {vs:List Value}
theorem play_r (m:Nat) (fn1 fn2:Fn) (fs1 cs1 fs2 cs2:Array Value) (hv:o < vs.length) (hE:Env w0 L w) (hm:L[m]?=some (boxI a vs)) :
  Calls prog 104 #[.pointer (some ⟨a,o,none⟩),.func fn1 fs1 cs1,.func fn2 fs2 cs2] w fun r w'=>r=.returned (.int .i64 0)/\∃ b1 b2,Env w0 (boxI b1 [.func fn1 fs1 cs1]::boxI b2 [.func fn2 fs2 cs2]::L.set m (boxI a (vs.set o (cvP b1 b2)))) w':=by
 have hmf:=makeF;have hE1:=(hE.box w.heap.size rfl [.func fn1 fs1 cs1] 122).box (w.heap.size+1) (by simp) [.func fn2 fs2 cs2] 189;have HGO:=zH (goOn_r (o:=o) (m+2) (.func 139) #[] #[.pointer (some ⟨w.heap.size,0,none⟩),.pointer (some ⟨w.heap.size+1,0,none⟩)] hv hE1 hm);clear hE hE1 hv hm;go_enter func104,ntmps104;go_wp2_with fail;refine HGO.out.mono ?_;rintro e w1 ⟨rfl,hE2⟩;go_wp2_with fail;go_ret;exact ⟨rfl,_,_,hE2.perm (List.Perm.swap _ _ _)⟩
theorem play1_r (X:Nat) (hx:∀ (ar:Array Value) (v:World),(callFunc X ar).run prog v=.ok (.enter X ar) v) (p u q:Value) (Y:Nat) (hy:∀ (ar:Array Value) (v:World),(callFunc Y ar).run prog v=.ok (.enter Y ar) v) (b1 b2:Nat) (Q:Int->World->Prop) (h1:w.cell? ⟨b1,0,none⟩=some (.func (.func X) #[p] #[]))
  (hc:Calls prog X #[p,u] w fun e w1=>∃ s,e=.returned (.int .i64 s)/\(s=0->Q 0 w1)/\(s≠0->w1.cell? ⟨b2,0,none⟩=some (.func (.func Y) #[q] #[])/\Calls prog Y #[q,.int .i64 s] w1 fun e2 w2=>∃ s2,e2=.returned (.int .i64 s2)/\Q s2 w2)) :
  Calls prog 139 #[u,.pointer (some ⟨b1,0,none⟩),.pointer (some ⟨b2,0,none⟩)] w fun e w'=>∃ s,e=.returned (.int .i64 s)/\Q s w':=by
 have HC:=zH hc;clear hc;go_enter func139,ntmps139;go_wp2_with fail;refine HC.out.mono ?_;rintro e w1 ⟨s,rfl,h0,hn⟩
 by_cases hs:s=0
 ·subst hs;have hq:=h0 rfl;clear h0 hn HC;go_wp2_with fail;go_ret;exact ⟨0,rfl,hq⟩
 ·obtain ⟨hb2,hcc⟩:=hn hs;have hsb:(s==0)=false:=by simpa using hs
  have HCC:=zH hcc;clear h0 hn HC hcc;go_wp2_with fail;refine HCC.out.mono ?_;rintro e2 w2 ⟨s2,rfl,hq⟩;go_wp2_with fail;go_ret;exact ⟨s2,rfl,hq⟩
theorem stepP_r (X:Nat) (hx:∀ (ar:Array Value) (v:World),(callFunc X ar).run prog v=.ok (.enter X ar) v) (p u q:Value) (Y:Nat) (hy:∀ (ar:Array Value) (v:World),(callFunc Y ar).run prog v=.ok (.enter Y ar) v) (b1 b2:Nat) (Q:Int->World->Prop) (hn:w.cell? ⟨a,o,none⟩=some (cvP b1 b2)) (hs:w.cell? ⟨a,o+1,none⟩=some (.int .i64 0)) (h1:w.cell? ⟨b1,0,none⟩=some (.func (.func X) #[p] #[]))
  (hc:Calls prog X #[p,u] w fun e w1=>∃ s,e=.returned (.int .i64 s)/\(s=0->Q 0 w1)/\(s≠0->w1.cell? ⟨b2,0,none⟩=some (.func (.func Y) #[q] #[])/\Calls prog Y #[q,.int .i64 s] w1 fun e2 w2=>∃ s2,e2=.returned (.int .i64 s2)/\Q s2 w2)) :
  Calls prog 55 #[.pointer (some ⟨a,o,none⟩),u] w fun e w'=>∃ s,e=.returned (.int .i64 s)/\Q s w' :=
 stepCv_r 139 b1 b2 (fun _ _=>by kernel_rfl) u _ hn hs ((play1_r X hx p u q Y hy b1 b2 Q h1 hc).mono fun e w' ⟨s,he,hq⟩=>⟨s,he,s,rfl,hq⟩)
end
section
variable {w:World} {c q:Nat} {k s b h l e r hs hi:Int}
theorem to_c (a d:Int) (hg:Glo w) (hb:Blk 0 w c (crv k s b h l e r hs hi q)) :
  Calls prog 210 #[.pointer (some ⟨c,0,none⟩),.agg #[.int .i64 a,.int .i64 d]] w fun o w'=>o=.returned (.agg #[.int .u64 (wordI false a e),.int .i64 d,.bool false])/\Below w.heap.size w w':=by
 have hcl:=hb.1;have HGB:=zH fun (v:World) (hv:Below w.heap.size w v)=>to_any a e v (hg.keep' hv);clear hg;have hb1:=(hb.more (.cells [.int .i64 a,.int .i64 d].toArray 110)).more (.cells [.int .u64 0,.int .i64 0,.bool false].toArray 127);have hX:=(Blk.new 0 w [.int .i64 a,.int .i64 d] 110).more (.cells [.int .u64 0,.int .i64 0,.bool false].toArray 127);have hB:=(Blk.new 0 (w.alloc (.cells [.int .i64 a,.int .i64 d].toArray 110)) [.int .u64 0,.int .i64 0,.bool false] 127).at (n':=w.heap.size+1) (by simp);have hE:=((Below.refl w.heap.size w).alloc (Nat.le_refl _) (.cells [.int .i64 a,.int .i64 d].toArray 110)).alloc (by simp) (.cells [.int .u64 0,.int .i64 0,.bool false].toArray 127);unfold crv at hb1;clear hb;go_enter func210,ntmps210;go_wp2_with fail;refine Ord.wc [10] (fun w'=>Below w.heap.size w w'/\Blk 0 w' c [.int .i64 k,.int .i64 s,.int .i64 b,.int .i64 h,.int .i64 l,.int .i64 e,.int .i64 r,.int .i64 hs,.int .i64 hi,.pointer (some ⟨q,0,none⟩)]/\Blk 0 w' w.heap.size [.int .i64 a,.int .i64 d]) (fun j w'=>Blk 0 w' (w.heap.size+1) (if j=0 then [.int .u64 0,.int .i64 0,.bool false] else [.int .u64 (wordI false a e),.int .i64 d,.bool false])) ⟨hE.drew,hb1.drew,hX.drew⟩ hB.drew fun hT9=>?_
 repeat ((first
  | (refine Ord.cv ?_ hT9.o ?_ ?_; rotate_left; (intro w5 hS; have r:=Blk.rule hS.2.1; have r2:=Blk.rule hS.2.2; go_simp<;>rfl))
  | (refine Ord.co hT9.o ?_)
  | (refine Ord.cc ?_ ?_ ?_ hT9.o ?_ ?_ ?_; rotate_left 3; (intro w5 hS; have r:=Blk.rule hS.2.1; have r2:=Blk.rule hS.2.2; go_simp; constructor<;>rfl); (intro w5 hS; (first | (with_reducible refine kp (HGB.out _ hS.1) ?_ ?_; rfl; exact fun w6 hb6=>⟨⟨hS.1.trans (hb6.mono hS.1.size),hS.2.1.under hb6,hS.2.2.under hb6⟩,fun _ h=>h.under hb6⟩)))));try simp only [Act.put,zA,zZ,zS])
 refine Ord.ch_turn (v:=undef) 0 hT9.o rfl (by decide) (Or.inl rfl) (by rfl) ?_ ?_
 ·rintro w5 hS hA2;simp only [if_true] at hA2;have r:=hA2.rule;have f0:=hA2.thaw 0 (by simp);have f1:=hA2.thaw 1 (by simp);have f2:=hA2.thaw 2 (by simp);have hz:=hS.1.size;go_simp;refine ⟨rfl,⟨?_,?_,?_⟩,?_⟩
  ·exact below_set (below_set (below_set hS.1 hz (by omega) _) (by simp; omega) (by omega) _) (by simp; omega) (by omega) _
  ·exact ((hS.2.1.off (by omega) _).off (by omega) _).off (by omega) _
  ·exact ((hS.2.2.off (by omega) _).off (by omega) _).off (by omega) _
  ·exact Blk.put3 hA2 _ _ _
 try simp only [Act.put,zA,zZ,zS]
 repeat ((first
  | (refine Ord.cv ?_ hT9.o ?_ ?_; rotate_left; (intro w5 hS; skip; go_simp<;>rfl))
  | (refine Ord.co hT9.o ?_));try simp only [Act.put,zA,zZ,zS])
 refine Ord.InText.nil fun w5 hS=>?_;clear hT9;obtain ⟨hC9,hA9⟩:=Ord.chain_end hS;clear hS;have q:=hA9.rule;simp only [show ¬ [10].length=0 by decide,if_false] at q
 go_wp2
 exact bodyPost_ret (v:=.agg #[.int .u64 (wordI false a e),.int .i64 d,.bool false]) (by simp [results,results210,go_sem,q]) rfl ⟨rfl,hC9.1⟩
end
end
section
open Go.RowKit
theorem isMarked_any (x:Int) (w:World) (hg:Glo w) (h0:0<=x) (h1:x<=18446744073709551615) :
  Calls prog 274 #[.int .u64 x] w fun e w'=>e=.returned (.bool (markB x))/\Below w.heap.size w w':=by
 obtain ⟨-,-,⟨c0,c1⟩,-,-,hs⟩:=hg;have HG:=zH (mark_one x h0 h1);go_enter func274,ntmps274;go_wp2_with fail;refine (get_any 63 1 x _ (by decide) (by decide) h0 h1).mono ?_;rintro e w1 ⟨rfl,hb⟩;generalize getI 63 1 x=y at *
 go_wp2
 go_ret;exact ⟨ret_bool (by rw [<- HG.out]; rfl),hb⟩
theorem link_any (y m:Int) (w:World):Calls prog 209 #[.int .i64 y,.int .i64 m] w fun e w'=>e=.returned (.agg #[.int .i64 5,.int .i64 y,.int .i64 (wrap64 (7+m))])/\Below w.heap.size w w':=by
 have hF:=(Fr.start w).push w.heap.size rfl [.int .i64 0,.int .i64 0,.int .i64 0] 90;go_enter func209,ntmps209;go_wp2_with fail;refine (placeOf_any _ _ _).mono ?_;rintro e w1 ⟨rfl,hb⟩;replace hF:=hF.over hb;have r:=hF.rule 0 rfl;have f:=hF.thaw 0 rfl (Nat.le_refl _)
 go_wp2
 have hP:=hF.put3 (Nat.le_refl _) (fun x hx=>by cases hx) (.int .i64 5) (.int .i64 y) (.int .i64 (wrap64 (7+m)));have q:=hP.rule 0 rfl;exact bodyPost_ret (v:=.agg #[.int .i64 5,.int .i64 y,.int .i64 (wrap64 (7+m))]) (by simp [results,results209,go_sem,q]) rfl ⟨rfl,hP.below⟩
theorem root_any (z:Int) (w:World):Calls prog 175 #[.int .i64 z] w fun e w'=>e=.returned (.agg #[.int .i64 4,.int .i64 0,.int .i64 z])/\Below w.heap.size w w':=by
 go_enter func175,ntmps175
 go_wp2
 exact bodyPost_ret (v:=.agg #[.int .i64 4,.int .i64 0,.int .i64 z]) (by simp [results,results175,go_sem]) rfl ⟨rfl,(Below.refl _ _).alloc (Nat.le_refl _) _⟩
end
section
open Go.RowKit Go.Maps
def laneC (c:Nat) (lv key:Int) (vs:Bool) (nx:Value) (st x y z W C X wd:Int) (pf:Bool) (pv:Int):List Value :=
 [.pointer (some ⟨c,0,none⟩),.int .i64 lv,.int .u64 key,.bool vs,nx,.int .i64 st,.int .i64 x,.int .i64 y,.int .i64 z,.int .i64 0,.int .u64 W,.int .i64 0,.bool false,.int .i64 C,.int .i64 0,.int .u64 X,.int .i64 0,.bool false,.int .u64 wd,.bool pf,.int .u64 pv]
def cvL (b1 b2:Nat):Value:=.func (.func 288) #[] #[.pointer (some ⟨b1,0,none⟩),.pointer (some ⟨b2,0,none⟩)]
section
variable {w:World} {a c:Nat} {lv key:Int} {vs:Bool} {nx:Value} {st x y z W C X wd:Int} {pf:Bool} {pv:Int}
theorem part_l (n:Int) (hb:Blk 0 w a (laneC c lv key vs nx st x y z W C X wd pf pv)):Calls prog 315 #[.pointer (some ⟨a,0,none⟩),.int .i64 n] w fun e w'=>e=.returned (.agg #[.int .i64 5,.int .i64 C,.int .i64 n,.int .i64 0])/\Below w.heap.size w w':=by
 have hal:=hb.1;have hX:=hb.more (.cells [.int .i64 0,.int .i64 0,.int .i64 0,.int .i64 0].toArray 150);have hZ:=Blk.new 0 w [.int .i64 0,.int .i64 0,.int .i64 0,.int .i64 0] 150;have hE:=(Below.refl w.heap.size w).alloc (Nat.le_refl _) (.cells [.int .i64 0,.int .i64 0,.int .i64 0,.int .i64 0].toArray 150);clear hb;go_enter func315,ntmps315;go_wp2_with fail;refine Ord.wc [13] (fun w'=>Below w.heap.size w w'/\Blk 0 w' a (laneC c lv key vs nx st x y z W C X wd pf pv)) (fun j w'=>Blk 0 w' w.heap.size (if j=0 then [.int .i64 0,.int .i64 0,.int .i64 0,.int .i64 0] else [.int .i64 5,.int .i64 C,.int .i64 n,.int .i64 0])) ⟨hE.drew,hX.drew⟩ hZ.drew fun hT9=>?_
 repeat ((first
  | (refine Ord.cv ?_ hT9.o ?_ ?_; rotate_left; (intro w5 hS; have r:=Blk.rule hS.2; unfold laneC at r; go_simp<;>rfl))
  | (refine Ord.co hT9.o ?_)
  | (refine Ord.cc ?_ ?_ ?_ hT9.o ?_ ?_ ?_; rotate_left 3; (intro w5 hS; have r:=Blk.rule hS.2; unfold laneC at r; go_simp; constructor<;>rfl); (intro w5 hS; (first | (with_reducible refine kp (placeOf_any _ _ _) ?_ ?_; rfl; exact fun w6 hb6=>⟨⟨hS.1.trans (hb6.mono hS.1.size),hS.2.under hb6⟩,fun _ h=>h.under hb6⟩)))));try simp only [Act.put,zA,zZ,zS])
 refine Ord.ch_turn (v:=undef) 0 hT9.o rfl (by decide) (Or.inl rfl) (by rfl) ?_ ?_
 ·rintro w5 hS hA2;simp only [if_true] at hA2;have r:=hA2.rule;have f0:=hA2.thaw 0 (by simp);have f1:=hA2.thaw 1 (by simp);have f2:=hA2.thaw 2 (by simp);have f3:=hA2.thaw 3 (by simp);have hz:=hS.1.size;go_simp;refine ⟨rfl,⟨?_,?_⟩,?_⟩
  ·exact below_set (below_set (below_set (below_set hS.1 hz (by omega) _) (by simp; omega) (by omega) _) (by simp; omega) (by omega) _) (by simp; omega) (by omega) _
  ·exact (((hS.2.off (by omega) _).off (by omega) _).off (by omega) _).off (by omega) _
  ·exact (((hA2.set (i:=0) (by simp) _).set (i:=1) (by simp) _).set (i:=2) (by simp) _).set (i:=3) (by simp) _
 try simp only [Act.put,zA,zZ,zS]
 repeat ((first
  | (refine Ord.cv ?_ hT9.o ?_ ?_; rotate_left; (intro w5 hS; skip; go_simp<;>rfl))
  | (refine Ord.co hT9.o ?_));try simp only [Act.put,zA,zZ,zS])
 refine Ord.InText.nil fun w5 hS=>?_;clear hT9;obtain ⟨hC9,hA9⟩:=Ord.chain_end hS;clear hS;have q:=hA9.rule;simp only [show ¬ [13].length=0 by decide,if_false] at q
 go_wp2
 exact bodyPost_ret (v:=.agg #[.int .i64 5,.int .i64 C,.int .i64 n,.int .i64 0]) (by simp [results,results315,go_sem,q]) rfl ⟨rfl,hC9.1⟩
theorem nextLink_l (hlv:0<=lv/\lv<=1000000) (hb:Blk 0 w a (laneC c lv key vs nx st x y z W C X wd pf pv)):Calls prog 307 #[.pointer (some ⟨a,0,none⟩)] w fun e w'=>e=.returned (.agg #[.int .i64 5,.int .i64 C,.int .i64 (7+lv),.int .i64 0])/\Below w.heap.size w w':=by
 have hal:=hb.1;have hX:=hb.more (.cells [.int .i64 0,.int .i64 0,.int .i64 0,.int .i64 0].toArray 150);have hZ:=Blk.new 0 w [.int .i64 0,.int .i64 0,.int .i64 0,.int .i64 0] 150;have hE:=(Below.refl w.heap.size w).alloc (Nat.le_refl _) (.cells [.int .i64 0,.int .i64 0,.int .i64 0,.int .i64 0].toArray 150);clear hb;have HLK:Hid (∀ v,Calls prog 209 #[.int .i64 C,.int .i64 lv] v fun e w'=>e=.returned (.agg #[.int .i64 5,.int .i64 C,.int .i64 (7+lv)])/\Below v.heap.size v w'):=zH fun v=>by
  have:=link_any C lv v
  rwa [w64 (7+lv) (by omega)] at this
 clear hlv;go_enter func307,ntmps307;go_wp2_with fail;refine Ord.wc [16] (fun w'=>Below w.heap.size w w'/\Blk 0 w' a (laneC c lv key vs nx st x y z W C X wd pf pv)) (fun j w'=>Blk 0 w' w.heap.size (if j=0 then [.int .i64 0,.int .i64 0,.int .i64 0,.int .i64 0] else [.int .i64 5,.int .i64 C,.int .i64 (7+lv),.int .i64 0])) ⟨hE.drew,hX.drew⟩ hZ.drew fun hT9=>?_
 repeat ((first
  | (refine Ord.cv ?_ hT9.o ?_ ?_; rotate_left; (intro w5 hS; have r:=Blk.rule hS.2; unfold laneC at r; go_simp<;>rfl))
  | (refine Ord.co hT9.o ?_)
  | (refine Ord.cc ?_ ?_ ?_ hT9.o ?_ ?_ ?_; rotate_left 3; (intro w5 hS; have r:=Blk.rule hS.2; unfold laneC at r; go_simp; constructor<;>rfl); (intro w5 hS; (first | (with_reducible refine kp (HLK.out _) ?_ ?_; rfl; exact fun w6 hb6=>⟨⟨hS.1.trans (hb6.mono hS.1.size),hS.2.under hb6⟩,fun _ h=>h.under hb6⟩)))));try simp only [Act.put,zA,zZ,zS])
 refine Ord.ch_turn (v:=undef) 0 hT9.o rfl (by decide) (Or.inl rfl) (by rfl) ?_ ?_
 ·rintro w5 hS hA2;simp only [if_true] at hA2;have r:=hA2.rule;have f0:=hA2.thaw 0 (by simp);have f1:=hA2.thaw 1 (by simp);have f2:=hA2.thaw 2 (by simp);have f3:=hA2.thaw 3 (by simp);have hz:=hS.1.size;go_simp;refine ⟨rfl,⟨?_,?_⟩,?_⟩
  ·exact below_set (below_set (below_set (below_set hS.1 hz (by omega) _) (by simp; omega) (by omega) _) (by simp; omega) (by omega) _) (by simp; omega) (by omega) _
  ·exact (((hS.2.off (by omega) _).off (by omega) _).off (by omega) _).off (by omega) _
  ·exact (((hA2.set (i:=0) (by simp) _).set (i:=1) (by simp) _).set (i:=2) (by simp) _).set (i:=3) (by simp) _
 try simp only [Act.put,zA,zZ,zS]
 repeat ((first
  | (refine Ord.cv ?_ hT9.o ?_ ?_; rotate_left; (intro w5 hS; skip; go_simp<;>rfl))
  | (refine Ord.co hT9.o ?_));try simp only [Act.put,zA,zZ,zS])
 refine Ord.InText.nil fun w5 hS=>?_;clear hT9;obtain ⟨hC9,hA9⟩:=Ord.chain_end hS;clear hS;have q:=hA9.rule;simp only [show ¬ [16].length=0 by decide,if_false] at q
 go_wp2
 exact bodyPost_ret (v:=.agg #[.int .i64 5,.int .i64 C,.int .i64 (7+lv),.int .i64 0]) (by simp [results,results307,go_sem,q]) rfl ⟨rfl,hC9.1⟩
end
section
variable {w0 w:World} {L:List Item} {a:Nat} {vs:List Value}
theorem goOn_l (m:Nat) (fn:Fn) (fs cs:Array Value) (hv:4 < vs.length) (hE:Env w0 L w) (hm:L[m]?=some (boxI a vs)) :
  Calls prog 107 #[.pointer (some ⟨a,4,none⟩),.func fn fs cs] w fun o w'=>o=.returned (.int .i64 0)/\Env w0 (L.set m (boxI a (vs.set 4 (.func fn fs cs)))) w':=goOn_r (o:=4) m fn fs cs hv hE hm
theorem end_l (m:Nat) (s:Int) (hv:5 < vs.length) (hE:Env w0 L w) (hm:L[m]?=some (boxI a vs)) :
  Calls prog 140 #[.pointer (some ⟨a,4,none⟩),.int .i64 s] w fun o w'=>o=.returned (.int .i64 s)/\∃ nx,Env w0 (L.set m (boxI a ((vs.set 5 (.int .i64 s)).set 4 nx))) w':=by
 refine (end_r (o:=4) m s hv hE hm).mono ?_;rintro o w1 ⟨rfl,h⟩;refine ⟨rfl,vs[4],?_⟩;have h4:(vs.set 5 (.int .i64 s)).set 4 vs[4]=vs.set 5 (.int .i64 s):=by
  apply List.ext_getElem?;intro i
  by_cases hi:i=4
  ·subst hi;rw [List.getElem?_set_self (by rw [List.length_set]; omega),List.getElem?_set_ne (by decide),List.getElem?_eq_getElem]
  ·rw [List.getElem?_set_ne (fun e=>hi e.symm)]
 rw [h4];exact h
theorem validate_l (fn:Fn) (fs cs:Array Value) (hv:4 < vs.length) (hE:Env w0 (boxI a vs::L) w) :
  Calls prog 264 #[.pointer (some ⟨a,0,none⟩),.func fn fs cs] w fun o w'=>o=.returned (.int .i64 0)/\∃ b1 b2,Env w0 (boxI a (vs.set 4 (cvL b1 b2))::boxI b1 [.pointer (some ⟨a,0,none⟩)]::boxI b2 [.func fn fs cs]::L) w':=by
 have hmf:=makeF;have hE1:=(hE.box w.heap.size rfl [.pointer (some ⟨a,0,none⟩)] 264).box (w.heap.size+1) (by simp) [.func fn fs cs] 130;have r0:=hE1.rule 1 rfl;go_enter func264,ntmps264;go_wp2_with fail;refine (goOn_l 2 _ _ _ hv hE1 rfl).mono ?_;rintro o w1 ⟨rfl,hE2⟩;go_wp2_with fail;go_ret;refine ⟨rfl,w.heap.size,w.heap.size+1,?_⟩;exact hE2.perm (List.reverse_perm [_,_,_] |>.append_right L)
theorem stepMv_l (X:Nat) (hx:∀ (ar:Array Value) (v:World),(callFunc X ar).run prog v=.ok (.enter X ar) v) (u:Value) (Q:Ending->World->Prop) (hn:w.cell? ⟨a,4,none⟩=some (mvL X a)) (hs:w.cell? ⟨a,5,none⟩=some (.int .i64 0)) (hc:Calls prog X #[.pointer (some ⟨a,0,none⟩),u] w fun e w'=>∃ s,e=.returned (.int .i64 s)/\Q (.returned (.int .i64 s)) w') :
  Calls prog 206 #[.pointer (some ⟨a,0,none⟩),u] w Q:=by
 have HST:=zH (stepMv_r (o:=4) X hx (.pointer (some ⟨a,0,none⟩)) u (fun o w'=>∃ s,o=.returned (.int .i64 s)/\Q (.returned (.int .i64 s)) w') hn hs (hc.mono fun e w' ⟨s,he,hq⟩=>⟨s,he,s,rfl,hq⟩));clear hn hs hc;go_enter func206,ntmps206;go_wp2_with fail;refine HST.out.mono ?_;rintro o w1 ⟨s,rfl,hQ⟩;go_wp2_with fail;exact hQ
theorem stepCv_l (b1 b2:Nat) (u:Value) (Q:Ending->World->Prop) (hn:w.cell? ⟨a,4,none⟩=some (cvL b1 b2)) (hs:w.cell? ⟨a,5,none⟩=some (.int .i64 0)) (hc:Calls prog 288 #[u,.pointer (some ⟨b1,0,none⟩),.pointer (some ⟨b2,0,none⟩)] w fun e w'=>∃ s,e=.returned (.int .i64 s)/\Q (.returned (.int .i64 s)) w') :
  Calls prog 206 #[.pointer (some ⟨a,0,none⟩),u] w Q:=by
 have HST:=zH (stepCv_r (o:=4) 288 b1 b2 (fun _ _=>by kernel_rfl) u (fun o w'=>∃ s,o=.returned (.int .i64 s)/\Q (.returned (.int .i64 s)) w') hn hs (hc.mono fun e w' ⟨s,he,hq⟩=>⟨s,he,s,rfl,hq⟩));clear hn hs hc;go_enter func206,ntmps206;go_wp2_with fail;refine HST.out.mono ?_;rintro o w1 ⟨s,rfl,hQ⟩;go_wp2_with fail;exact hQ
end
def pick4 {α:Type _} (a b c d:α):Nat->α
 | 0=>a
 | 1=>b
 | 2=>c
 | _=>d
section
variable {w0 w:World} {L:List Item} {a c:Nat} {lv key:Int} {vs:Bool} {nx:Value} {st x y z W C X wd:Int} {pf:Bool} {pv:Int}
theorem come0_l (v:Int) (hs:slotI v=0) (hv:InU v) (hg:Glo w0) (hE:Env w0 (boxI a (laneC c lv key vs nx st x y z W C X wd pf pv)::L) w) :
  Calls prog 289 #[.pointer (some ⟨a,0,none⟩),.agg #[.int .u64 v,.int .i64 0,.bool false]] w fun o w'=>o=.returned (.int .i64 1)/\∃ nx,Env w0 (boxI a (laneC c lv key vs nx 1 x y z v 0 0 wd pf pv)::L) w':=by
 have hmf:=makeF;have hso:=slot_of;have hE1:=hE.box w.heap.size rfl [.int .u64 v,.int .i64 0,.bool false] 127;have HLE:=zH fun (u:World) (hu:Below w0.heap.size w0 u)=>lead_c v 0 false u hv (hg.keep' hu);simp only [hs] at HLE;clear hs;clear hE hv hg;go_enter func289,ntmps289;go_wp2_with fail;refine Ord.wc [9,12,15] (fun u=>Below w0.heap.size w0 u/\Blk 0 u w.heap.size [.int .u64 v,.int .i64 0,.bool false]) (fun k w'=>Env w0 (pick4 (boxI w.heap.size [.int .u64 v,.int .i64 0,.bool false]::boxI a (laneC c lv key vs nx st x y z W C X wd pf pv)::L) (boxI w.heap.size [.int .u64 v,.int .i64 0,.bool false]::boxI a (laneC c lv key vs nx st x y z v C X wd pf pv)::L) (boxI w.heap.size [.int .u64 v,.int .i64 0,.bool false]::boxI a (laneC c lv key vs nx st x y z v 0 X wd pf pv)::L) (boxI w.heap.size [.int .u64 v,.int .i64 0,.bool false]::boxI a (laneC c lv key vs nx st x y z v 0 0 wd pf pv)::L) k) w') ⟨hE1.drew.below,hE1.drew.get 0 rfl⟩ hE1.drew fun hT9=>?_
 repeat ((first
  | (refine Ord.cv ?_ hT9.o ?_ ?_; rotate_left; (intro w5 hS; have r:=Blk.rule hS.2; go_simp<;>rfl))
  | (refine Ord.co hT9.o ?_)
  | (refine Ord.cc ?_ ?_ ?_ hT9.o ?_ ?_ ?_; rotate_left 3; (intro w5 hS; have r:=Blk.rule hS.2; go_simp; constructor<;>rfl); (intro w5 hS; (first | (with_reducible refine kp (HLE.out _ hS.1) ?_ ?_; rfl; exact fun w6 hb6=>⟨⟨hS.1.trans (hb6.mono hS.1.size),hS.2.under hb6⟩,fun _ h=>h.over hb6⟩)))));try simp only [Act.put,zA,zZ,zS])
 refine Ord.ch_turn (v:=undef) 0 hT9.o rfl (by decide) (Or.inl rfl) (by rfl) ?_ ?_
 ·rintro w5 hC5 hA5;replace hA5:Env w0 (boxI w.heap.size [.int .u64 v,.int .i64 0,.bool false]::boxI a (laneC c lv key vs nx st x y z W C X wd pf pv)::L) w5:=hA5;have r:=hA5.rule 1 rfl;unfold laneC at r;have g0:=hA5.thaw 1 rfl 10 (by simp [laneC]);have g1:=hA5.thaw 1 rfl 11 (by simp [laneC]);have g2:=hA5.thaw 1 rfl 12 (by simp [laneC]);go_simp;have h9:=(((hA5.put 1 rfl (j:=10) (by simp [laneC]) (.int .u64 v)).put 1 rfl (j:=11) (by simp [laneC]) (.int .i64 0)).put 1 rfl (j:=12) (by simp [laneC]) (.bool false));replace h9:Env w0 (boxI w.heap.size [.int .u64 v,.int .i64 0,.bool false]::boxI a (laneC c lv key vs nx st x y z v C X wd pf pv)::L) _:=h9;exact ⟨rfl,⟨h9.below,h9.get 0 rfl⟩,h9⟩
 try simp only [Act.put,zA,zZ,zS]
 repeat ((first
  | (refine Ord.cv ?_ hT9.o ?_ ?_; rotate_left; (intro w5 hS; have r:=Blk.rule hS.2; go_simp<;>rfl))
  | (refine Ord.co hT9.o ?_)
  | (refine Ord.cc ?_ ?_ ?_ hT9.o ?_ ?_ ?_; rotate_left 3; (intro w5 hS; have r:=Blk.rule hS.2; go_simp; constructor<;>rfl); (intro w5 hS; (first | (with_reducible refine kp (HLE.out _ hS.1) ?_ ?_; rfl; exact fun w6 hb6=>⟨⟨hS.1.trans (hb6.mono hS.1.size),hS.2.under hb6⟩,fun _ h=>h.over hb6⟩)))));try simp only [Act.put,zA,zZ,zS])
 refine Ord.ch_turn (v:=undef) 1 hT9.o rfl (by decide) (Or.inr ⟨_,rfl,by kernel_rfl⟩) (by rfl) ?_ ?_
 ·rintro w5 hC5 hA5;replace hA5:Env w0 (boxI w.heap.size [.int .u64 v,.int .i64 0,.bool false]::boxI a (laneC c lv key vs nx st x y z v C X wd pf pv)::L) w5:=hA5;have r:=hA5.rule 1 rfl;unfold laneC at r;have g0:=hA5.thaw 1 rfl 13 (by simp [laneC]);have g1:=hA5.thaw 1 rfl 14 (by simp [laneC]);go_simp;have h9:=((hA5.put 1 rfl (j:=13) (by simp [laneC]) (.int .i64 0)).put 1 rfl (j:=14) (by simp [laneC]) (.int .i64 0));replace h9:Env w0 (boxI w.heap.size [.int .u64 v,.int .i64 0,.bool false]::boxI a (laneC c lv key vs nx st x y z v 0 X wd pf pv)::L) _:=h9;exact ⟨rfl,⟨h9.below,h9.get 0 rfl⟩,h9⟩
 try simp only [Act.put,zA,zZ,zS]
 repeat ((first
  | (refine Ord.cv ?_ hT9.o ?_ ?_; rotate_left; (intro w5 hS; have r:=Blk.rule hS.2; go_simp<;>rfl))
  | (refine Ord.co hT9.o ?_)
  | (refine Ord.cc ?_ ?_ ?_ hT9.o ?_ ?_ ?_; rotate_left 3; (intro w5 hS; have r:=Blk.rule hS.2; go_simp; constructor<;>rfl); (intro w5 hS; (first | (with_reducible refine kp (HLE.out _ hS.1) ?_ ?_; rfl; exact fun w6 hb6=>⟨⟨hS.1.trans (hb6.mono hS.1.size),hS.2.under hb6⟩,fun _ h=>h.over hb6⟩)))));try simp only [Act.put,zA,zZ,zS])
 refine Ord.ch_turn (v:=undef) 2 hT9.o rfl (by decide) (Or.inr ⟨_,rfl,by kernel_rfl⟩) (by rfl) ?_ ?_
 ·rintro w5 hC5 hA5;replace hA5:Env w0 (boxI w.heap.size [.int .u64 v,.int .i64 0,.bool false]::boxI a (laneC c lv key vs nx st x y z v 0 X wd pf pv)::L) w5:=hA5;have r:=hA5.rule 1 rfl;unfold laneC at r;have g0:=hA5.thaw 1 rfl 15 (by simp [laneC]);have g1:=hA5.thaw 1 rfl 16 (by simp [laneC]);have g2:=hA5.thaw 1 rfl 17 (by simp [laneC]);go_simp;have h9:=(((hA5.put 1 rfl (j:=15) (by simp [laneC]) (.int .u64 0)).put 1 rfl (j:=16) (by simp [laneC]) (.int .i64 0)).put 1 rfl (j:=17) (by simp [laneC]) (.bool false));replace h9:Env w0 (boxI w.heap.size [.int .u64 v,.int .i64 0,.bool false]::boxI a (laneC c lv key vs nx st x y z v 0 0 wd pf pv)::L) _:=h9;exact ⟨rfl,⟨h9.below,h9.get 0 rfl⟩,h9⟩
 try simp only [Act.put,zA,zZ,zS]
 repeat ((first
  | (refine Ord.cv ?_ hT9.o ?_ ?_; rotate_left; (intro w5 hS; have r:=Blk.rule hS.2; go_simp<;>rfl))
  | (refine Ord.co hT9.o ?_)
  | (refine Ord.cc ?_ ?_ ?_ hT9.o ?_ ?_ ?_; rotate_left 3; (intro w5 hS; have r:=Blk.rule hS.2; go_simp; constructor<;>rfl); (intro w5 hS; (first | (with_reducible refine kp (HLE.out _ hS.1) ?_ ?_; rfl; exact fun w6 hb6=>⟨⟨hS.1.trans (hb6.mono hS.1.size),hS.2.under hb6⟩,fun _ h=>h.over hb6⟩)))));try simp only [Act.put,zA,zZ,zS])
 refine Ord.InText.nil fun w5 hS=>?_;clear hT9;obtain ⟨hC9,hA9⟩:=Ord.chain_end hS;clear hS;replace hA9:Env w0 (boxI w.heap.size [.int .u64 v,.int .i64 0,.bool false]::boxI a (laneC c lv key vs nx st x y z v 0 0 wd pf pv)::L) w5:=hA9;clear hE1 hC9 HLE;have r:=hA9.rule 1 rfl;unfold laneC at r;have g0:=hA9.thaw 1 rfl 13 (by simp [laneC]);have g1:=hA9.thaw 1 rfl 14 (by simp [laneC]);have hP:=(hA9.put 1 rfl (j:=13) (by simp [laneC]) (.int .i64 0)).put 1 rfl (j:=14) (by simp [laneC]) (.int .i64 0);replace hP:Env w0 (boxI w.heap.size [.int .u64 v,.int .i64 0,.bool false]::boxI a (laneC c lv key vs nx st x y z v 0 0 wd pf pv)::L) _:=hP;go_wp2_with fail;refine (end_l 1 1 (by simp [laneC]) hP rfl).mono ?_;rintro o w6 ⟨rfl,nx,hE6⟩;go_wp2_with fail;go_ret;exact ⟨rfl,nx,hE6.sub (.cons _ (List.Sublist.refl _))⟩
theorem comeY_l (v:Int) (hs:slotI v≠0) (hv:InU v) (hg:Glo w0) (hE:Env w0 (boxI a (laneC c lv key vs nx st x y z W C X wd pf pv)::L) w) :
  Calls prog 289 #[.pointer (some ⟨a,0,none⟩),.agg #[.int .u64 v,.int .i64 0,.bool false]] w fun o w'=>o=.returned (.int .i64 0)/\Env w0 (boxI a (laneC c lv key vs (mvL 301 a) st x y z v (slotI v) 0 wd pf pv)::L) w':=by
 have hmf:=makeF;have hso:=slot_of;have hE1:=hE.box w.heap.size rfl [.int .u64 v,.int .i64 0,.bool false] 127;have HLE:=zH fun (u:World) (hu:Below w0.heap.size w0 u)=>lead_c v 0 false u hv (hg.keep' hu);obtain ⟨s,hs9⟩:∃ s,slotI v=s:=⟨_,rfl⟩;rw [hs9] at hs ⊢;simp only [hs9] at HLE;have hsb:(s==0)=false:=by simpa using hs
 clear hs9 hs;clear hE hv hg;go_enter func289,ntmps289;go_wp2_with fail;refine Ord.wc [9,12,15] (fun u=>Below w0.heap.size w0 u/\Blk 0 u w.heap.size [.int .u64 v,.int .i64 0,.bool false]) (fun k w'=>Env w0 (pick4 (boxI w.heap.size [.int .u64 v,.int .i64 0,.bool false]::boxI a (laneC c lv key vs nx st x y z W C X wd pf pv)::L) (boxI w.heap.size [.int .u64 v,.int .i64 0,.bool false]::boxI a (laneC c lv key vs nx st x y z v C X wd pf pv)::L) (boxI w.heap.size [.int .u64 v,.int .i64 0,.bool false]::boxI a (laneC c lv key vs nx st x y z v s X wd pf pv)::L) (boxI w.heap.size [.int .u64 v,.int .i64 0,.bool false]::boxI a (laneC c lv key vs nx st x y z v s 0 wd pf pv)::L) k) w') ⟨hE1.drew.below,hE1.drew.get 0 rfl⟩ hE1.drew fun hT9=>?_
 repeat ((first
  | (refine Ord.cv ?_ hT9.o ?_ ?_; rotate_left; (intro w5 hS; have r:=Blk.rule hS.2; go_simp<;>rfl))
  | (refine Ord.co hT9.o ?_)
  | (refine Ord.cc ?_ ?_ ?_ hT9.o ?_ ?_ ?_; rotate_left 3; (intro w5 hS; have r:=Blk.rule hS.2; go_simp; constructor<;>rfl); (intro w5 hS; (first | (with_reducible refine kp (HLE.out _ hS.1) ?_ ?_; rfl; exact fun w6 hb6=>⟨⟨hS.1.trans (hb6.mono hS.1.size),hS.2.under hb6⟩,fun _ h=>h.over hb6⟩)))));try simp only [Act.put,zA,zZ,zS])
 refine Ord.ch_turn (v:=undef) 0 hT9.o rfl (by decide) (Or.inl rfl) (by rfl) ?_ ?_
 ·rintro w5 hC5 hA5;replace hA5:Env w0 (boxI w.heap.size [.int .u64 v,.int .i64 0,.bool false]::boxI a (laneC c lv key vs nx st x y z W C X wd pf pv)::L) w5:=hA5;have r:=hA5.rule 1 rfl;unfold laneC at r;have g0:=hA5.thaw 1 rfl 10 (by simp [laneC]);have g1:=hA5.thaw 1 rfl 11 (by simp [laneC]);have g2:=hA5.thaw 1 rfl 12 (by simp [laneC]);go_simp;have h9:=(((hA5.put 1 rfl (j:=10) (by simp [laneC]) (.int .u64 v)).put 1 rfl (j:=11) (by simp [laneC]) (.int .i64 0)).put 1 rfl (j:=12) (by simp [laneC]) (.bool false));replace h9:Env w0 (boxI w.heap.size [.int .u64 v,.int .i64 0,.bool false]::boxI a (laneC c lv key vs nx st x y z v C X wd pf pv)::L) _:=h9;exact ⟨rfl,⟨h9.below,h9.get 0 rfl⟩,h9⟩
 try simp only [Act.put,zA,zZ,zS]
 repeat ((first
  | (refine Ord.cv ?_ hT9.o ?_ ?_; rotate_left; (intro w5 hS; have r:=Blk.rule hS.2; go_simp<;>rfl))
  | (refine Ord.co hT9.o ?_)
  | (refine Ord.cc ?_ ?_ ?_ hT9.o ?_ ?_ ?_; rotate_left 3; (intro w5 hS; have r:=Blk.rule hS.2; go_simp; constructor<;>rfl); (intro w5 hS; (first | (with_reducible refine kp (HLE.out _ hS.1) ?_ ?_; rfl; exact fun w6 hb6=>⟨⟨hS.1.trans (hb6.mono hS.1.size),hS.2.under hb6⟩,fun _ h=>h.over hb6⟩)))));try simp only [Act.put,zA,zZ,zS])
 refine Ord.ch_turn (v:=undef) 1 hT9.o rfl (by decide) (Or.inr ⟨_,rfl,by kernel_rfl⟩) (by rfl) ?_ ?_
 ·rintro w5 hC5 hA5;replace hA5:Env w0 (boxI w.heap.size [.int .u64 v,.int .i64 0,.bool false]::boxI a (laneC c lv key vs nx st x y z v C X wd pf pv)::L) w5:=hA5;have r:=hA5.rule 1 rfl;unfold laneC at r;have g0:=hA5.thaw 1 rfl 13 (by simp [laneC]);have g1:=hA5.thaw 1 rfl 14 (by simp [laneC]);go_simp;have h9:=((hA5.put 1 rfl (j:=13) (by simp [laneC]) (.int .i64 s)).put 1 rfl (j:=14) (by simp [laneC]) (.int .i64 0));replace h9:Env w0 (boxI w.heap.size [.int .u64 v,.int .i64 0,.bool false]::boxI a (laneC c lv key vs nx st x y z v s X wd pf pv)::L) _:=h9;exact ⟨rfl,⟨h9.below,h9.get 0 rfl⟩,h9⟩
 try simp only [Act.put,zA,zZ,zS]
 repeat ((first
  | (refine Ord.cv ?_ hT9.o ?_ ?_; rotate_left; (intro w5 hS; have r:=Blk.rule hS.2; go_simp<;>rfl))
  | (refine Ord.co hT9.o ?_)
  | (refine Ord.cc ?_ ?_ ?_ hT9.o ?_ ?_ ?_; rotate_left 3; (intro w5 hS; have r:=Blk.rule hS.2; go_simp; constructor<;>rfl); (intro w5 hS; (first | (with_reducible refine kp (HLE.out _ hS.1) ?_ ?_; rfl; exact fun w6 hb6=>⟨⟨hS.1.trans (hb6.mono hS.1.size),hS.2.under hb6⟩,fun _ h=>h.over hb6⟩)))));try simp only [Act.put,zA,zZ,zS])
 refine Ord.ch_turn (v:=undef) 2 hT9.o rfl (by decide) (Or.inr ⟨_,rfl,by kernel_rfl⟩) (by rfl) ?_ ?_
 ·rintro w5 hC5 hA5;replace hA5:Env w0 (boxI w.heap.size [.int .u64 v,.int .i64 0,.bool false]::boxI a (laneC c lv key vs nx st x y z v s X wd pf pv)::L) w5:=hA5;have r:=hA5.rule 1 rfl;unfold laneC at r;have g0:=hA5.thaw 1 rfl 15 (by simp [laneC]);have g1:=hA5.thaw 1 rfl 16 (by simp [laneC]);have g2:=hA5.thaw 1 rfl 17 (by simp [laneC]);go_simp;have h9:=(((hA5.put 1 rfl (j:=15) (by simp [laneC]) (.int .u64 0)).put 1 rfl (j:=16) (by simp [laneC]) (.int .i64 0)).put 1 rfl (j:=17) (by simp [laneC]) (.bool false));replace h9:Env w0 (boxI w.heap.size [.int .u64 v,.int .i64 0,.bool false]::boxI a (laneC c lv key vs nx st x y z v s 0 wd pf pv)::L) _:=h9;exact ⟨rfl,⟨h9.below,h9.get 0 rfl⟩,h9⟩
 try simp only [Act.put,zA,zZ,zS]
 repeat ((first
  | (refine Ord.cv ?_ hT9.o ?_ ?_; rotate_left; (intro w5 hS; have r:=Blk.rule hS.2; go_simp<;>rfl))
  | (refine Ord.co hT9.o ?_)
  | (refine Ord.cc ?_ ?_ ?_ hT9.o ?_ ?_ ?_; rotate_left 3; (intro w5 hS; have r:=Blk.rule hS.2; go_simp; constructor<;>rfl); (intro w5 hS; (first | (with_reducible refine kp (HLE.out _ hS.1) ?_ ?_; rfl; exact fun w6 hb6=>⟨⟨hS.1.trans (hb6.mono hS.1.size),hS.2.under hb6⟩,fun _ h=>h.over hb6⟩)))));try simp only [Act.put,zA,zZ,zS])
 refine Ord.InText.nil fun w5 hS=>?_;clear hT9;obtain ⟨hC9,hA9⟩:=Ord.chain_end hS;clear hS;replace hA9:Env w0 (boxI w.heap.size [.int .u64 v,.int .i64 0,.bool false]::boxI a (laneC c lv key vs nx st x y z v s 0 wd pf pv)::L) w5:=hA9;clear hE1 hC9 HLE;have r:=hA9.rule 1 rfl;unfold laneC at r;go_wp2_with fail;refine (goOn_l 1 _ _ _ (by simp [laneC]) hA9 rfl).mono ?_;rintro o w6 ⟨rfl,hE6⟩;go_wp2_with fail;go_ret;exact ⟨rfl,hE6.sub (.cons _ (List.Sublist.refl _))⟩
end
section
variable {w0 w:World} {R:List Item} {a:Nat} {S:ST} {lv key:Int} {vs:Bool} {nx:Value} {st x y z W C X wd:Int} {pf:Bool} {pv:Int}
theorem loadInto_l (v:Int) (hfx:S.f (x,y,z)=v) (hwf:Wf (x,y,z)) (hE:Env w0 (boxI a (laneC S.c lv key vs nx st x y z W C X wd pf pv)::LT S R) w) :
  Calls prog 234 #[.pointer (some ⟨a,0,none⟩),.iface 28 (.pointer (some ⟨S.p,0,none⟩))] w fun o w'=>o=.returned (.int .i64 0)/\∃ b1 b2,Env w0 (boxI a (laneC S.c lv key vs (cvL b1 b2) st x y z v C X wd pf pv)::boxI b1 [.pointer (some ⟨a,0,none⟩)]::boxI b2 [mvL 265 a]::LT { S with qc:={ S.qc with l:=wrap64 (S.qc.l+1) } } R) w':=by
 have hmf:=makeF;have hah:=ahead_load;have hvw:=val_word;have HX:=zH hfx;have HWF:=zH hwf;clear hfx hwf;go_enter func234,ntmps234;go_wp2_with fail;refine Ord.wc [9,12] (fun u=>Below w0.heap.size w0 u/\∃ n8,Blk 0 u a (laneC S.c lv key vs nx st x y z n8 C X wd pf pv)) (fun k w'=>Env w0 (pick3 (boxI a (laneC S.c lv key vs nx st x y z W C X wd pf pv)::LT S R) (boxI a (laneC S.c lv key vs nx st x y z W C X wd pf pv)::LT { S with qc:={ S.qc with l:=wrap64 (S.qc.l+1) } } R) (boxI a (laneC S.c lv key vs nx st x y z v C X wd pf pv)::LT { S with qc:={ S.qc with l:=wrap64 (S.qc.l+1) } } R) k) w') ⟨hE.drew.below,W,hE.drew.get 0 rfl⟩ hE.drew fun hT9=>?_
 repeat ((first
  | (refine Ord.cv ?_ hT9.o ?_ ?_; rotate_left; (intro w5 hS; obtain ⟨hS0,n9,hS1⟩:=hS; have r:=Blk.rule hS1; unfold laneC at r; go_simp<;>rfl))
  | (refine Ord.co hT9.o ?_));try simp only [Act.put,zA,zZ,zS])
 refine Ord.ch_turn (v:=.agg #[.int .u64 v,.int .i64 0,.bool false]) 0 hT9.o rfl (by decide) (Or.inl rfl) (by rfl) ?_ ?_
 ·rintro w5 hC5 hA5;replace hA5:Env w0 (boxI a (laneC S.c lv key vs nx st x y z W C X wd pf pv)::LT S R) w5:=hA5;go_simp;rw [method_load];simp only [Result.andThen_ok];go_simp;simp only [Ord.LandsIn];have hl:=load_w x y z 0 HWF.out 3 4 (by decide) hA5 rfl rfl;rw [HX.out] at hl;refine hl.mono ?_;rintro e w6 ⟨rfl,hE6⟩;exact ⟨rfl,⟨hE6.below,_,hE6.get 0 rfl⟩,hE6⟩
 try simp only [Act.put,zA,zZ,zS]
 repeat ((first
  | (refine Ord.cv ?_ hT9.o ?_ ?_; rotate_left; (intro w5 hS; skip; go_simp<;>rfl))
  | (refine Ord.co hT9.o ?_));try simp only [Act.put,zA,zZ,zS])
 refine Ord.ch_turn (v:=undef) 1 hT9.o rfl (by decide) (Or.inr ⟨_,rfl,by kernel_rfl⟩) (by rfl) ?_ ?_
 ·rintro w5 hC5 hA5;replace hA5:Env w0 (boxI a (laneC S.c lv key vs nx st x y z W C X wd pf pv)::LT { S with qc:={ S.qc with l:=wrap64 (S.qc.l+1) } } R) w5:=hA5;have r:=hA5.rule 0 rfl;unfold laneC at r;have g0:=hA5.thaw 0 rfl 10 (by simp [laneC]);have g1:=hA5.thaw 0 rfl 11 (by simp [laneC]);have g2:=hA5.thaw 0 rfl 12 (by simp [laneC]);go_simp;have h9:=(((hA5.put 0 rfl (j:=10) (by simp [laneC]) (.int .u64 v)).put 0 rfl (j:=11) (by simp [laneC]) (.int .i64 0)).put 0 rfl (j:=12) (by simp [laneC]) (.bool false));replace h9:Env w0 (boxI a (laneC S.c lv key vs nx st x y z v C X wd pf pv)::LT { S with qc:={ S.qc with l:=wrap64 (S.qc.l+1) } } R) _:=h9;exact ⟨rfl,⟨h9.below,_,h9.get 0 rfl⟩,h9⟩
 try simp only [Act.put,zA,zZ,zS]
 repeat ((first
  | (refine Ord.cv ?_ hT9.o ?_ ?_; rotate_left; (intro w5 hS; skip; go_simp<;>rfl))
  | (refine Ord.co hT9.o ?_));try simp only [Act.put,zA,zZ,zS])
 refine Ord.InText.nil fun w5 hS=>?_;clear hT9;obtain ⟨hC9,hA9⟩:=Ord.chain_end hS;clear hS;replace hA9:Env w0 (boxI a (laneC S.c lv key vs nx st x y z v C X wd pf pv)::LT { S with qc:={ S.qc with l:=wrap64 (S.qc.l+1) } } R) w5:=hA9;clear hE hC9;have r:=hA9.rule 0 rfl;unfold laneC at r;go_wp2_with fail;refine (validate_l _ _ _ (by simp [laneC]) hA9).mono ?_;rintro o w6 ⟨rfl,b1,b2,hE6⟩;go_wp2_with fail;go_ret;exact ⟨rfl,b1,b2,hE6⟩
theorem loadOut_l (hlv:0<=lv/\lv<=1000000) (v:Int) (hfx:S.f (5,C,7+lv)=v) (hwf:Wf (5,C,7+lv)) (hE:Env w0 (boxI a (laneC S.c lv key vs nx st x y z W C X wd pf pv)::LT S R) w) :
  Calls prog 301 #[.pointer (some ⟨a,0,none⟩),.iface 28 (.pointer (some ⟨S.p,0,none⟩))] w fun o w'=>o=.returned (.int .i64 0)/\∃ b1 b2,Env w0 (boxI a (laneC S.c lv key vs (cvL b1 b2) st x y z W C v wd pf pv)::boxI b1 [.pointer (some ⟨a,0,none⟩)]::boxI b2 [mvL 308 a]::LT { S with qc:={ S.qc with l:=wrap64 (S.qc.l+1) } } R) w':=by
 have hmf:=makeF;have hah:=ahead_load;have hvw:=val_word;have HX:=zH hfx;have HWF:=zH hwf;clear hfx hwf;go_enter func301,ntmps301;go_wp2_with fail;refine Ord.wc [7,10] (fun u=>Below w0.heap.size w0 u/\∃ n8,Blk 0 u a (laneC S.c lv key vs nx st x y z W C n8 wd pf pv)) (fun k w'=>Env w0 (pick3 (boxI a (laneC S.c lv key vs nx st x y z W C X wd pf pv)::LT S R) (boxI a (laneC S.c lv key vs nx st x y z W C X wd pf pv)::LT { S with qc:={ S.qc with l:=wrap64 (S.qc.l+1) } } R) (boxI a (laneC S.c lv key vs nx st x y z W C v wd pf pv)::LT { S with qc:={ S.qc with l:=wrap64 (S.qc.l+1) } } R) k) w') ⟨hE.drew.below,X,hE.drew.get 0 rfl⟩ hE.drew fun hT9=>?_
 repeat ((first
  | (refine Ord.cv ?_ hT9.o ?_ ?_; rotate_left; (intro w5 hS; obtain ⟨hS0,n9,hS1⟩:=hS; have r:=Blk.rule hS1; unfold laneC at r; go_simp<;>rfl))
  | (refine Ord.co hT9.o ?_)
  | (refine Ord.cc ?_ ?_ ?_ hT9.o ?_ ?_ ?_; rotate_left 3; (intro w5 hS; obtain ⟨hS0,n9,hS1⟩:=hS; have r:=Blk.rule hS1; unfold laneC at r; go_simp; constructor<;>rfl); (intro w5 hS; (first | (obtain ⟨hS0,n9,hS1⟩:=hS; with_reducible refine kp (nextLink_l hlv hS1) ?_ ?_; rfl; exact fun w6 hb6=>⟨⟨hS0.trans (hb6.mono hS0.size),n9,hS1.under hb6⟩,fun k h=>h.over hb6⟩)))));try simp only [Act.put,zA,zZ,zS])
 refine Ord.ch_turn (v:=.agg #[.int .u64 v,.int .i64 0,.bool false]) 0 hT9.o rfl (by decide) (Or.inl rfl) (by rfl) ?_ ?_
 ·rintro w5 hC5 hA5;replace hA5:Env w0 (boxI a (laneC S.c lv key vs nx st x y z W C X wd pf pv)::LT S R) w5:=hA5;go_simp;rw [method_load];simp only [Result.andThen_ok];go_simp;simp only [Ord.LandsIn];have hl:=load_w 5 C (7+lv) 0 HWF.out 3 4 (by decide) hA5 rfl rfl;rw [HX.out] at hl;refine hl.mono ?_;rintro e w6 ⟨rfl,hE6⟩;exact ⟨rfl,⟨hE6.below,_,hE6.get 0 rfl⟩,hE6⟩
 try simp only [Act.put,zA,zZ,zS]
 repeat ((first
  | (refine Ord.cv ?_ hT9.o ?_ ?_; rotate_left; (intro w5 hS; skip; go_simp<;>rfl))
  | (refine Ord.co hT9.o ?_));try simp only [Act.put,zA,zZ,zS])
 refine Ord.ch_turn (v:=undef) 1 hT9.o rfl (by decide) (Or.inr ⟨_,rfl,by kernel_rfl⟩) (by rfl) ?_ ?_
 ·rintro w5 hC5 hA5;replace hA5:Env w0 (boxI a (laneC S.c lv key vs nx st x y z W C X wd pf pv)::LT { S with qc:={ S.qc with l:=wrap64 (S.qc.l+1) } } R) w5:=hA5;have r:=hA5.rule 0 rfl;unfold laneC at r;have g0:=hA5.thaw 0 rfl 15 (by simp [laneC]);have g1:=hA5.thaw 0 rfl 16 (by simp [laneC]);have g2:=hA5.thaw 0 rfl 17 (by simp [laneC]);go_simp;have h9:=(((hA5.put 0 rfl (j:=15) (by simp [laneC]) (.int .u64 v)).put 0 rfl (j:=16) (by simp [laneC]) (.int .i64 0)).put 0 rfl (j:=17) (by simp [laneC]) (.bool false));replace h9:Env w0 (boxI a (laneC S.c lv key vs nx st x y z W C v wd pf pv)::LT { S with qc:={ S.qc with l:=wrap64 (S.qc.l+1) } } R) _:=h9;exact ⟨rfl,⟨h9.below,_,h9.get 0 rfl⟩,h9⟩
 try simp only [Act.put,zA,zZ,zS]
 repeat ((first
  | (refine Ord.cv ?_ hT9.o ?_ ?_; rotate_left; (intro w5 hS; skip; go_simp<;>rfl))
  | (refine Ord.co hT9.o ?_));try simp only [Act.put,zA,zZ,zS])
 refine Ord.InText.nil fun w5 hS=>?_;clear hT9;obtain ⟨hC9,hA9⟩:=Ord.chain_end hS;clear hS;replace hA9:Env w0 (boxI a (laneC S.c lv key vs nx st x y z W C v wd pf pv)::LT { S with qc:={ S.qc with l:=wrap64 (S.qc.l+1) } } R) w5:=hA9;clear hE hC9;have r:=hA9.rule 0 rfl;unfold laneC at r;go_wp2_with fail;refine (validate_l _ _ _ (by simp [laneC]) hA9).mono ?_;rintro o w6 ⟨rfl,b1,b2,hE6⟩;go_wp2_with fail;go_ret;exact ⟨rfl,b1,b2,hE6⟩
theorem loadKey_l (v:Int) (hfx:S.f (5,C,3)=v) (hwf:Wf (5,C,3)) (hE:Env w0 (boxI a (laneC S.c lv key vs nx st x y z W C X wd pf pv)::LT S R) w) :
  Calls prog 312 #[.pointer (some ⟨a,0,none⟩),.iface 28 (.pointer (some ⟨S.p,0,none⟩))] w fun o w'=>o=.returned (.int .i64 0)/\∃ b1 b2,Env w0 (boxI a (laneC S.c lv key vs (cvL b1 b2) st x y z W C X v pf pv)::boxI b1 [.pointer (some ⟨a,0,none⟩)]::boxI b2 [mvL 316 a]::LT { S with qc:={ S.qc with l:=wrap64 (S.qc.l+1) } } R) w':=by
 have hmf:=makeF;have hah:=ahead_load;have hvw:=val_word;have HX:=zH hfx;have HWF:=zH hwf;clear hfx hwf;go_enter func312,ntmps312;go_wp2_with fail;refine Ord.wc [7,11] (fun u=>Below w0.heap.size w0 u/\∃ n8,Blk 0 u a (laneC S.c lv key vs nx st x y z W C X n8 pf pv)) (fun k w'=>Env w0 (pick3 (boxI a (laneC S.c lv key vs nx st x y z W C X wd pf pv)::LT S R) (boxI a (laneC S.c lv key vs nx st x y z W C X wd pf pv)::LT { S with qc:={ S.qc with l:=wrap64 (S.qc.l+1) } } R) (boxI a (laneC S.c lv key vs nx st x y z W C X v pf pv)::LT { S with qc:={ S.qc with l:=wrap64 (S.qc.l+1) } } R) k) w') ⟨hE.drew.below,wd,hE.drew.get 0 rfl⟩ hE.drew fun hT9=>?_
 repeat ((first
  | (refine Ord.cv ?_ hT9.o ?_ ?_; rotate_left; (intro w5 hS; obtain ⟨hS0,n9,hS1⟩:=hS; have r:=Blk.rule hS1; unfold laneC at r; go_simp<;>rfl))
  | (refine Ord.co hT9.o ?_)
  | (refine Ord.cc ?_ ?_ ?_ hT9.o ?_ ?_ ?_; rotate_left 3; (intro w5 hS; obtain ⟨hS0,n9,hS1⟩:=hS; have r:=Blk.rule hS1; unfold laneC at r; go_simp; constructor<;>rfl); (intro w5 hS; (first | (obtain ⟨hS0,n9,hS1⟩:=hS; with_reducible refine kp (part_l 3 hS1) ?_ ?_; rfl; exact fun w6 hb6=>⟨⟨hS0.trans (hb6.mono hS0.size),n9,hS1.under hb6⟩,fun k h=>h.over hb6⟩)))));try simp only [Act.put,zA,zZ,zS])
 refine Ord.ch_turn (v:=.agg #[.int .u64 v,.int .i64 0,.bool false]) 0 hT9.o rfl (by decide) (Or.inl rfl) (by rfl) ?_ ?_
 ·rintro w5 hC5 hA5;replace hA5:Env w0 (boxI a (laneC S.c lv key vs nx st x y z W C X wd pf pv)::LT S R) w5:=hA5;go_simp;rw [method_load];simp only [Result.andThen_ok];go_simp;simp only [Ord.LandsIn];have hl:=load_w 5 C 3 0 HWF.out 3 4 (by decide) hA5 rfl rfl;rw [HX.out] at hl;refine hl.mono ?_;rintro e w6 ⟨rfl,hE6⟩;exact ⟨rfl,⟨hE6.below,_,hE6.get 0 rfl⟩,hE6⟩
 try simp only [Act.put,zA,zZ,zS]
 repeat ((first
  | (refine Ord.cv ?_ hT9.o ?_ ?_; rotate_left; (intro w5 hS; skip; go_simp<;>rfl))
  | (refine Ord.co hT9.o ?_));try simp only [Act.put,zA,zZ,zS])
 refine Ord.ch_turn (v:=undef) 1 hT9.o rfl (by decide) (Or.inr ⟨_,rfl,by kernel_rfl⟩) (by rfl) ?_ ?_
 ·rintro w5 hC5 hA5;replace hA5:Env w0 (boxI a (laneC S.c lv key vs nx st x y z W C X wd pf pv)::LT { S with qc:={ S.qc with l:=wrap64 (S.qc.l+1) } } R) w5:=hA5;have r:=hA5.rule 0 rfl;unfold laneC at r;have g0:=hA5.thaw 0 rfl 18 (by simp [laneC]);go_simp;have h9:=(hA5.put 0 rfl (j:=18) (by simp [laneC]) (.int .u64 v));replace h9:Env w0 (boxI a (laneC S.c lv key vs nx st x y z W C X v pf pv)::LT { S with qc:={ S.qc with l:=wrap64 (S.qc.l+1) } } R) _:=h9;exact ⟨rfl,⟨h9.below,_,h9.get 0 rfl⟩,h9⟩
 try simp only [Act.put,zA,zZ,zS]
 repeat ((first
  | (refine Ord.cv ?_ hT9.o ?_ ?_; rotate_left; (intro w5 hS; skip; go_simp<;>rfl))
  | (refine Ord.co hT9.o ?_));try simp only [Act.put,zA,zZ,zS])
 refine Ord.InText.nil fun w5 hS=>?_;clear hT9;obtain ⟨hC9,hA9⟩:=Ord.chain_end hS;clear hS;replace hA9:Env w0 (boxI a (laneC S.c lv key vs nx st x y z W C X v pf pv)::LT { S with qc:={ S.qc with l:=wrap64 (S.qc.l+1) } } R) w5:=hA9;clear hE hC9;have r:=hA9.rule 0 rfl;unfold laneC at r;go_wp2_with fail;refine (validate_l _ _ _ (by simp [laneC]) hA9).mono ?_;rintro o w6 ⟨rfl,b1,b2,hE6⟩;go_wp2_with fail;go_ret;exact ⟨rfl,b1,b2,hE6⟩
theorem loadVal_l (v:Int) (hfx:S.f (5,C,4)=v) (hwf:Wf (5,C,4)) (hE:Env w0 (boxI a (laneC S.c lv key vs nx st x y z W C X wd pf pv)::LT S R) w) :
  Calls prog 317 #[.pointer (some ⟨a,0,none⟩),.iface 28 (.pointer (some ⟨S.p,0,none⟩))] w fun o w'=>o=.returned (.int .i64 0)/\∃ b1 b2,Env w0 (boxI a (laneC S.c lv key vs (cvL b1 b2) st x y z W C X v pf pv)::boxI b1 [.pointer (some ⟨a,0,none⟩)]::boxI b2 [mvL 318 a]::LT { S with qc:={ S.qc with l:=wrap64 (S.qc.l+1) } } R) w':=by
 have hmf:=makeF;have hah:=ahead_load;have hvw:=val_word;have HX:=zH hfx;have HWF:=zH hwf;clear hfx hwf;go_enter func317,ntmps317;go_wp2_with fail;refine Ord.wc [7,11] (fun u=>Below w0.heap.size w0 u/\∃ n8,Blk 0 u a (laneC S.c lv key vs nx st x y z W C X n8 pf pv)) (fun k w'=>Env w0 (pick3 (boxI a (laneC S.c lv key vs nx st x y z W C X wd pf pv)::LT S R) (boxI a (laneC S.c lv key vs nx st x y z W C X wd pf pv)::LT { S with qc:={ S.qc with l:=wrap64 (S.qc.l+1) } } R) (boxI a (laneC S.c lv key vs nx st x y z W C X v pf pv)::LT { S with qc:={ S.qc with l:=wrap64 (S.qc.l+1) } } R) k) w') ⟨hE.drew.below,wd,hE.drew.get 0 rfl⟩ hE.drew fun hT9=>?_
 repeat ((first
  | (refine Ord.cv ?_ hT9.o ?_ ?_; rotate_left; (intro w5 hS; obtain ⟨hS0,n9,hS1⟩:=hS; have r:=Blk.rule hS1; unfold laneC at r; go_simp<;>rfl))
  | (refine Ord.co hT9.o ?_)
  | (refine Ord.cc ?_ ?_ ?_ hT9.o ?_ ?_ ?_; rotate_left 3; (intro w5 hS; obtain ⟨hS0,n9,hS1⟩:=hS; have r:=Blk.rule hS1; unfold laneC at r; go_simp; constructor<;>rfl); (intro w5 hS; (first | (obtain ⟨hS0,n9,hS1⟩:=hS; with_reducible refine kp (part_l 4 hS1) ?_ ?_; rfl; exact fun w6 hb6=>⟨⟨hS0.trans (hb6.mono hS0.size),n9,hS1.under hb6⟩,fun k h=>h.over hb6⟩)))));try simp only [Act.put,zA,zZ,zS])
 refine Ord.ch_turn (v:=.agg #[.int .u64 v,.int .i64 0,.bool false]) 0 hT9.o rfl (by decide) (Or.inl rfl) (by rfl) ?_ ?_
 ·rintro w5 hC5 hA5;replace hA5:Env w0 (boxI a (laneC S.c lv key vs nx st x y z W C X wd pf pv)::LT S R) w5:=hA5;go_simp;rw [method_load];simp only [Result.andThen_ok];go_simp;simp only [Ord.LandsIn];have hl:=load_w 5 C 4 0 HWF.out 3 4 (by decide) hA5 rfl rfl;rw [HX.out] at hl;refine hl.mono ?_;rintro e w6 ⟨rfl,hE6⟩;exact ⟨rfl,⟨hE6.below,_,hE6.get 0 rfl⟩,hE6⟩
 try simp only [Act.put,zA,zZ,zS]
 repeat ((first
  | (refine Ord.cv ?_ hT9.o ?_ ?_; rotate_left; (intro w5 hS; skip; go_simp<;>rfl))
  | (refine Ord.co hT9.o ?_));try simp only [Act.put,zA,zZ,zS])
 refine Ord.ch_turn (v:=undef) 1 hT9.o rfl (by decide) (Or.inr ⟨_,rfl,by kernel_rfl⟩) (by rfl) ?_ ?_
 ·rintro w5 hC5 hA5;replace hA5:Env w0 (boxI a (laneC S.c lv key vs nx st x y z W C X wd pf pv)::LT { S with qc:={ S.qc with l:=wrap64 (S.qc.l+1) } } R) w5:=hA5;have r:=hA5.rule 0 rfl;unfold laneC at r;have g0:=hA5.thaw 0 rfl 18 (by simp [laneC]);go_simp;have h9:=(hA5.put 0 rfl (j:=18) (by simp [laneC]) (.int .u64 v));replace h9:Env w0 (boxI a (laneC S.c lv key vs nx st x y z W C X v pf pv)::LT { S with qc:={ S.qc with l:=wrap64 (S.qc.l+1) } } R) _:=h9;exact ⟨rfl,⟨h9.below,_,h9.get 0 rfl⟩,h9⟩
 try simp only [Act.put,zA,zZ,zS]
 repeat ((first
  | (refine Ord.cv ?_ hT9.o ?_ ?_; rotate_left; (intro w5 hS; skip; go_simp<;>rfl))
  | (refine Ord.co hT9.o ?_));try simp only [Act.put,zA,zZ,zS])
 refine Ord.InText.nil fun w5 hS=>?_;clear hT9;obtain ⟨hC9,hA9⟩:=Ord.chain_end hS;clear hS;replace hA9:Env w0 (boxI a (laneC S.c lv key vs nx st x y z W C X v pf pv)::LT { S with qc:={ S.qc with l:=wrap64 (S.qc.l+1) } } R) w5:=hA9;clear hE hC9;have r:=hA9.rule 0 rfl;unfold laneC at r;go_wp2_with fail;refine (validate_l _ _ _ (by simp [laneC]) hA9).mono ?_;rintro o w6 ⟨rfl,b1,b2,hE6⟩;go_wp2_with fail;go_ret;exact ⟨rfl,b1,b2,hE6⟩
end
end
end Go.Proofs.YtffncfmciockmaaGreatDoor
