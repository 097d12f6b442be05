/- What is proved on the way to the statement, part 8: contracts of the functions, among other things in memory. -/
import Derived.Test.YtdknbegcflldjaaGreatDoorM7

open _root_.Go.Proofs.Tryz
set_option maxRecDepth 100000
set_option maxHeartbeats 25600000
namespace Go.Proofs.YtdknbegcflldjaaGreatDoor
section
open Go.RowKit Go.Maps
section
variable {w0 w:World} {R:List Item} {b:Nat} {U:SU} {pc h n r ok key val lv:Int}
theorem ral1 (he:0<=U.ce/\U.ce<=9223372036854775807) (hml:U.ml.length<=1000000) (hh:InU h) (hE:Env w0 (boxI b (rav 1 h n r)::LU U R) w) :
  Calls prog 108 #[.pointer (some ⟨b,0,none⟩),.pointer (some ⟨U.u,0,none⟩),.pointer (some ⟨U.m,0,none⟩),.agg #[.int .i64 ok,.int .u64 key,.int .u64 val,.int .i64 lv]] w fun o w'=>o=.returned (.int .i64 2)/\∃ F5,Env w0 (boxI b (rav 1 h n r)::LU { U with F:=F5,ml:=swL U.ml (1,0,0) U.ce (U.ce+1) } R) w':=by
 have hw1:IntKind.u64.wrap U.ce=U.ce:=wrapU _ (by omega) (by omega);have hw2:IntKind.u64.wrap (U.ce+1)=U.ce+1:=wrapU _ (by omega) (by omega);clear he;have hE1:=(hE.box w.heap.size rfl [.int .i64 ok,.int .u64 key,.int .u64 val,.int .i64 lv] 50).perm (L':=boxI b (rav 1 h n r)::LU U (boxI w.heap.size [.int .i64 ok,.int .u64 key,.int .u64 val,.int .i64 lv]::R)) (List.perm_middle (l₁:=[boxI b (rav 1 h n r),_,_,_])).symm;have rb:=hE1.rule 0 rfl;unfold rav at rb;have HSL:=zH (fun (v:World)=>slot13_any h hh v);clear hE;go_enter func108,ntmps108;go_wp2_with fail;generalize w.alloc _=w1 at *;generalize w.heap.size=O at *;refine (HSL.out _).mono ?_;rintro o w2 ⟨rfl,hb⟩;replace hE1:=hE1.over hb;clear hb rb;have rb:=hE1.rule 0 rfl;unfold rav at rb;go_wp2_with fail;refine Ord.wc [13] (fun v=>Blk 0 v U.u (urv U.ck U.cs U.cb U.ch U.cl U.ce U.A U.ql.length U.c U.N U.hs U.ro)) (fun k w'=>∃ F5,Env w0 (boxI b (rav 1 h n r)::LU (if k=0 then U else { U with F:=F5,ml:=swL U.ml (1,0,0) U.ce (U.ce+1) }) (boxI O [.int .i64 ok,.int .u64 key,.int .u64 val,.int .i64 lv]::R)) w') (hE1.drew.get 1 rfl) ⟨U.F,hE1.drew⟩ fun hT9=>?_
 repeat ((first
  | (refine Ord.cv ?_ hT9.o ?_ ?_; rotate_left; (intro w5 hS; have r9:=hS.rule; unfold urv at r9; go_simp<;>rfl))
  | (refine Ord.co hT9.o ?_)
  | (refine Ord.cc ?_ ?_ ?_ hT9.o ?_ ?_ ?_; rotate_left 3; (intro w5 hS; have r9:=hS.rule; unfold urv at r9; go_simp; constructor<;>rfl); (intro w5 hS; (first | (with_reducible refine kp (epoch13_any _) ?_ ?_; rfl; exact fun w6 hb6=>⟨hS.under hb6,fun k h=>h.elim fun F5 h=>⟨F5,h.over hb6⟩⟩)))));try simp only [Act.put,zA,zZ,zS])
 refine Ord.ch_turn (v:=.bool (decide (getL U.ml (1,0,0)=U.ce))) 0 hT9.o rfl (by decide) (Or.inl rfl) (by rfl) ?_ ?_
 ·rintro w5 hC5 ⟨F5,hA5⟩;simp only [if_true] at hA5;go_simp;simp only [Ord.LandsIn];refine (refSwap_any 1 0 0 U.ce (U.ce+1) hml (hA5.ref 3 rfl)).mono ?_;rintro e w6 ⟨rfl,F6,hU,hs⟩;have hE6:=hA5.turnU 3 rfl hU hs;exact ⟨rfl,hE6.get 1 rfl,F6,hE6⟩
 try simp only [Act.put,zA,zZ,zS]
 repeat ((first
  | (refine Ord.cv ?_ hT9.o ?_ ?_; rotate_left; (intro w5 hS; skip; go_simp<;>rfl))
  | (refine Ord.co hT9.o ?_));try simp only [Act.put,zA,zZ,zS])
 refine Ord.InText.nil fun w5 hS=>?_;clear hT9;obtain ⟨hC9,hA9⟩:=Ord.chain_end hS;clear hS;obtain ⟨F9,hA9⟩:=hA9;simp only [List.length_cons,List.length_nil,Nat.zero_add,Nat.one_ne_zero,if_false] at hA9;go_wp2_with fail;go_ret;exact ⟨rfl,F9,hA9.sub (.cons_cons _ (.cons_cons _ (.cons_cons _ (.cons_cons _ (.cons _ (List.Sublist.refl _))))))⟩
theorem ral2No (x:Int) (hfx:getL U.ml (3,0,0)=x) (hml:U.ml.length<=999999) (h0:0<=x) (hx:U.cs<=x) (hcs:0<=U.cs/\U.cs<=9223372036854775806) (hh:InU h) (hE:Env w0 (boxI b (rav 2 h n r)::LU U R) w) :
  Calls prog 108 #[.pointer (some ⟨b,0,none⟩),.pointer (some ⟨U.u,0,none⟩),.pointer (some ⟨U.m,0,none⟩),.agg #[.int .i64 ok,.int .u64 key,.int .u64 val,.int .i64 lv]] w fun o w'=>o=.returned (.int .i64 0)/\∃ F5,Env w0 (boxI b (rav 3 h n r)::LU { U with F:=F5,ml:=setL U.ml (3,0,0) (IntKind.u64.wrap (x+1)) } R) w':=by
 have hw1:IntKind.u64.wrap U.cs=U.cs:=wrapU _ (by omega) (by omega);have hd:decide (U.cs<=x)=true:=by simpa using hx
 have HX:=zH hfx;clear h0 hx hcs hfx;have hE1:=(hE.box w.heap.size rfl [.int .i64 ok,.int .u64 key,.int .u64 val,.int .i64 lv] 50).perm (L':=boxI b (rav 2 h n r)::LU U (boxI w.heap.size [.int .i64 ok,.int .u64 key,.int .u64 val,.int .i64 lv]::R)) (List.perm_middle (l₁:=[boxI b (rav 2 h n r),_,_,_])).symm;have rb:=hE1.rule 0 rfl;unfold rav at rb;have HSL:=zH (fun (v:World)=>slot13_any h hh v);clear hE;go_enter func108,ntmps108;go_wp2_with fail;generalize w.alloc _=w1 at *;generalize w.heap.size=O at *;refine (HSL.out _).mono ?_;rintro o w2 ⟨rfl,hb⟩;replace hE1:=hE1.over hb;clear hb rb;have rb:=hE1.rule 0 rfl;unfold rav at rb;go_wp2_with fail;refine (fresh14_any _).mono ?_;rintro o w3 ⟨rfl,hb⟩;replace hE1:=hE1.over hb;clear hb rb;have rb:=hE1.rule 0 rfl;unfold rav at rb;go_wp2_with fail;refine (refGet_any 3 0 0 (Nat.le_trans hml (by decide)) (hE1.ref 3 rfl)).mono ?_;rintro o w4 ⟨rfl,hb⟩;rw [HX.out];replace hE1:=hE1.over hb;clear hb rb;have rb:=hE1.rule 0 rfl;unfold rav at rb;go_wp2_with fail;refine (fresh14_any _).mono ?_;rintro o w5 ⟨rfl,hb⟩;replace hE1:=hE1.over hb;clear hb rb;have rb:=hE1.rule 0 rfl;unfold rav at rb;go_wp2_with fail;refine (refSet_any 3 0 0 _ (Nat.le_trans hml (by decide)) (hE1.ref 3 rfl)).mono ?_;rintro o w6 ⟨rfl,F6,hU,hs⟩;have hE2:Env w0 (boxI b (rav 2 h n r)::LU { U with F:=F6,ml:=setL U.ml (3,0,0) (IntKind.u64.wrap (x+1)) } (boxI O [.int .i64 ok,.int .u64 key,.int .u64 val,.int .i64 lv]::R)) w6:=hE1.turnU 3 rfl hU hs;clear hE1 hU hs rb;have rb:=hE2.rule 0 rfl;unfold rav at rb;have ru:=hE2.rule 1 rfl;unfold urv at ru;have f0:=hE2.thaw 0 rfl 0 (by simp [rav]);have hP:=hE2.put 0 rfl (j:=0) (by simp [rav]) (.int .i64 3);go_wp2_with fail;go_ret;exact ⟨rfl,F6,hP.sub (.cons_cons _ (.cons_cons _ (.cons_cons _ (.cons_cons _ (.cons _ (List.Sublist.refl _))))))⟩
theorem ral2Yes (x:Int) (hfx:getL U.ml (3,0,0)=x) (hml:U.ml.length<=999999) (h0:0<=x) (hx:x < U.cs) (hcs:U.cs<=9223372036854775806) (hl:U.ql.length<=1000000) (hN:0<=U.N/\U.N<=1099511627776) (hh:InU h) (hE:Env w0 (boxI b (rav 2 h n r)::LU U R) w) :
  Calls prog 108 #[.pointer (some ⟨b,0,none⟩),.pointer (some ⟨U.u,0,none⟩),.pointer (some ⟨U.m,0,none⟩),.agg #[.int .i64 ok,.int .u64 key,.int .u64 val,.int .i64 lv]] w fun o w'=>o=.returned (.int .i64 (decS (U.ql++[(x+1,0,0)]) U.ce U.cl))/\∃ pc':Int,∃ F5 A' c',(decP (U.ql++[(x+1,0,0)]) U.ce U.cl≠0->pc'=((decP (U.ql++[(x+1,0,0)]) U.ce U.cl:Nat):Int))/\Env w0 (boxI b (rav pc' h n r)::LU { U with F:=F5,ml:=setL U.ml (3,0,0) (IntKind.u64.wrap (x+1)),A:=A',c:=c',N:=roomN (room0 U.N) (U.ql.length+1),ql:=U.ql++[(x+1,0,0)] } R) w':=by
 have hw1:IntKind.u64.wrap U.cs=U.cs:=wrapU _ (by omega) (by omega);have hd:decide (U.cs<=x)=false:=by simp; omega
 have hw2:wrap64 x=x:=w64 _ (by omega);have hw3:wrap64 (x+1)=x+1:=w64 _ (by omega);have HX:=zH hfx;clear h0 hx hcs hfx;have hE1:=(hE.box w.heap.size rfl [.int .i64 ok,.int .u64 key,.int .u64 val,.int .i64 lv] 50).perm (L':=boxI b (rav 2 h n r)::LU U (boxI w.heap.size [.int .i64 ok,.int .u64 key,.int .u64 val,.int .i64 lv]::R)) (List.perm_middle (l₁:=[boxI b (rav 2 h n r),_,_,_])).symm;have rb:=hE1.rule 0 rfl;unfold rav at rb;have HSL:=zH (fun (v:World)=>slot13_any h hh v);clear hE;go_enter func108,ntmps108;go_wp2_with fail;generalize w.alloc _=w1 at *;generalize w.heap.size=O at *;refine (HSL.out _).mono ?_;rintro o w2 ⟨rfl,hb⟩;replace hE1:=hE1.over hb;clear hb rb;have rb:=hE1.rule 0 rfl;unfold rav at rb;go_wp2_with fail;refine (fresh14_any _).mono ?_;rintro o w3 ⟨rfl,hb⟩;replace hE1:=hE1.over hb;clear hb rb;have rb:=hE1.rule 0 rfl;unfold rav at rb;go_wp2_with fail;refine (refGet_any 3 0 0 (Nat.le_trans hml (by decide)) (hE1.ref 3 rfl)).mono ?_;rintro o w4 ⟨rfl,hb⟩;rw [HX.out];replace hE1:=hE1.over hb;clear hb rb;have rb:=hE1.rule 0 rfl;unfold rav at rb;go_wp2_with fail;refine (fresh14_any _).mono ?_;rintro o w5 ⟨rfl,hb⟩;replace hE1:=hE1.over hb;clear hb rb;have rb:=hE1.rule 0 rfl;unfold rav at rb;go_wp2_with fail;refine (refSet_any 3 0 0 _ (Nat.le_trans hml (by decide)) (hE1.ref 3 rfl)).mono ?_;rintro o w6 ⟨rfl,F6,hU,hs⟩;have hE2:Env w0 (boxI b (rav 2 h n r)::LU { U with F:=F6,ml:=setL U.ml (3,0,0) (IntKind.u64.wrap (x+1)) } (boxI O [.int .i64 ok,.int .u64 key,.int .u64 val,.int .i64 lv]::R)) w6:=hE1.turnU 3 rfl hU hs;clear hE1 hU hs rb;have rb:=hE2.rule 0 rfl;unfold rav at rb;have ru:=hE2.rule 1 rfl;unfold urv at ru;have f0:=hE2.thaw 0 rfl 0 (by simp [rav]);go_wp2_with fail;refine (refPush_at (x+1) 0 0 6 1 hE2 rfl rfl rfl rfl hl hN).mono ?_;rintro o w7 ⟨rfl,A7,c7,hE7⟩;have hE8:Env w0 (boxI b (rav 2 h n r)::LU { U with F:=F6,ml:=setL U.ml (3,0,0) (IntKind.u64.wrap (x+1)),A:=A7,c:=c7,N:=roomN (room0 U.N) (U.ql.length+1),ql:=U.ql++[(x+1,0,0)] } (boxI O [.int .i64 ok,.int .u64 key,.int .u64 val,.int .i64 lv]::R)) w7:=by
  have hq:(U.ql++[(x+1,(0:Int),(0:Int))]).length=U.ql.length+1:=by simp
  unfold LU;rw [hq];exact hE7
 clear hE2 hE7 rb ru f0;go_wp2_with fail;refine (rdecide_a hE8).mono ?_;rintro o w8 ⟨rfl,pc8,hpc,hE9⟩;go_wp2_with fail;go_ret;exact ⟨rfl,pc8,F6,A7,c7,hpc,hE9.sub (.cons_cons _ (.cons_cons _ (.cons_cons _ (.cons_cons _ (.cons _ (List.Sublist.refl _))))))⟩
theorem ral3 (x:Int) (hfx:getL U.ml (2,0,0)=x) (hxu:InU x) (hml:U.ml.length<=1000000) (hh:InU h) (hE:Env w0 (boxI b (rav 3 h n r)::LU U R) w) :
  Calls prog 108 #[.pointer (some ⟨b,0,none⟩),.pointer (some ⟨U.u,0,none⟩),.pointer (some ⟨U.m,0,none⟩),.agg #[.int .i64 ok,.int .u64 key,.int .u64 val,.int .i64 lv]] w fun o w'=>o=.returned (.int .i64 (poolS x U.cl))/\∃ pc',(poolS x U.cl=0->pc'=4)/\Env w0 (boxI b (rav pc' x n r)::LU U R) w':=by
 have HX:=zH hfx;have HSX:=zH (fun (v:World)=>slot13_any x hxu v);have HVX:=zH (fun (v:World)=>ver14_any x hxu v);clear hfx hxu;have hE1:=(hE.box w.heap.size rfl [.int .i64 ok,.int .u64 key,.int .u64 val,.int .i64 lv] 50).perm (L':=boxI b (rav 3 h n r)::LU U (boxI w.heap.size [.int .i64 ok,.int .u64 key,.int .u64 val,.int .i64 lv]::R)) (List.perm_middle (l₁:=[boxI b (rav 3 h n r),_,_,_])).symm;have rb:=hE1.rule 0 rfl;unfold rav at rb;have HSL:=zH (fun (v:World)=>slot13_any h hh v);clear hE;go_enter func108,ntmps108;go_wp2_with fail;generalize w.alloc _=w1 at *;generalize w.heap.size=O at *;refine (HSL.out _).mono ?_;rintro o w2 ⟨rfl,hb⟩;replace hE1:=hE1.over hb;clear hb rb;have rb:=hE1.rule 0 rfl;unfold rav at rb;go_wp2_with fail;refine (pool14_any _).mono ?_;rintro o w3 ⟨rfl,hb⟩;replace hE1:=hE1.over hb;clear hb rb;have rb:=hE1.rule 0 rfl;unfold rav at rb;go_wp2_with fail;refine (refGet_any 2 0 0 hml (hE1.ref 3 rfl)).mono ?_;rintro o w4 ⟨rfl,hb⟩;rw [HX.out];replace hE1:=hE1.over hb;clear hb rb;have rb:=hE1.rule 0 rfl;unfold rav at rb;have f1:=hE1.thaw 0 rfl 1 (by simp [rav]);have hE2:Env w0 (boxI b (rav 3 x n r)::LU U (boxI O [.int .i64 ok,.int .u64 key,.int .u64 val,.int .i64 lv]::R)) (w4.setCell ⟨b,1,none⟩ (.int .u64 x)):=hE1.put 0 rfl (j:=1) (by simp [rav]) (.int .u64 x);go_wp2_with fail;clear rb f1 hE1;generalize w4.setCell _ _=w9 at *;refine (HSX.out _).mono ?_;rintro o w5 ⟨rfl,hb⟩;replace hE2:=hE2.over hb;clear hb
 by_cases hs:slotI x=0
 ·have HP:=zH (show poolS x U.cl=3 from if_pos hs);have hsb:(slotI x==0)=true:=by simpa using hs
  clear hs;go_wp2_with fail;go_ret;rw [HP.out];exact ⟨rfl,3,fun h=>absurd h (by decide),hE2.sub (.cons_cons _ (.cons_cons _ (.cons_cons _ (.cons_cons _ (.cons _ (List.Sublist.refl _))))))⟩
 ·have hsb:(slotI x==0)=false:=by simpa using hs
  have HS:=zH hs;obtain ⟨y,hy⟩:∃ y,verI x=y:=⟨_,rfl⟩;have hvx:=HVX.out;simp only [hy] at hvx;have HVY:=zH hvx;have HY:=zH hy;clear hs hvx hy HVX
  by_cases hv:U.cl<=y
  ·have HP:=zH (show poolS x U.cl=4 by unfold poolS; rw [if_neg HS.out,HY.out,if_pos hv]);have hvb:decide (U.cl<=y)=true:=by simpa using hv
   clear hv;go_wp2_with fail;refine wp_text (S:=(Env w0 (boxI b (rav 3 x n r)::LU U (boxI O [.int .i64 ok,.int .u64 key,.int .u64 val,.int .i64 lv]::R)))) (by kernel_rfl) (by kernel_rfl) hE2.drew (fun hT=>?_);have hT9:=zH hT;clear hT
   repeat ((first
    | (refine text_value (v:=?_) hT9.o (by rfl) ?_ ?_; rotate_left; (intro w5 hS; have rb:=hS.rule 0 rfl; unfold rav at rb; have ru:=hS.rule 1 rfl; unfold urv at ru; go_simp<;>rfl))
    | (refine text_off hT9.o (by rfl) ?_)
    | (refine text_call (v:=?_) (f:=?_) (args:=?_) hT9.o (by rfl) ?_ ?_ ?_; rotate_left 3; (intro w5 hS; have rb:=hS.rule 0 rfl; unfold rav at rb; have ru:=hS.rule 1 rfl; unfold urv at ru; go_simp; constructor<;>rfl); (intro w5 hS; (first | (with_reducible refine kp (HVY.out _) ?_ ?_; rfl; exact fun w6 hb6=>hS.over hb6)))));try simp only [Act.put,zA,zZ,zS])
   refine InText.nil fun w5 hS5=>?_;clear hT9;clear hE2;have rb:=hS5.rule 0 rfl;unfold rav at rb;have f0:=hS5.thaw 0 rfl 0 (by simp [rav]);have hP:=hS5.put 0 rfl (j:=0) (by simp [rav]) (.int .i64 4);go_wp2_with fail;go_ret;rw [HP.out];exact ⟨rfl,3,fun h=>absurd h (by decide),hS5.sub (.cons_cons _ (.cons_cons _ (.cons_cons _ (.cons_cons _ (.cons _ (List.Sublist.refl _))))))⟩
  ·have HP:=zH (show poolS x U.cl=0 by unfold poolS; rw [if_neg HS.out,HY.out,if_neg hv]);have hvb:decide (U.cl<=y)=false:=by simpa using hv
   clear hv;go_wp2_with fail;refine wp_text (S:=(Env w0 (boxI b (rav 3 x n r)::LU U (boxI O [.int .i64 ok,.int .u64 key,.int .u64 val,.int .i64 lv]::R)))) (by kernel_rfl) (by kernel_rfl) hE2.drew (fun hT=>?_);have hT9:=zH hT;clear hT
   repeat ((first
    | (refine text_value (v:=?_) hT9.o (by rfl) ?_ ?_; rotate_left; (intro w5 hS; have rb:=hS.rule 0 rfl; unfold rav at rb; have ru:=hS.rule 1 rfl; unfold urv at ru; go_simp<;>rfl))
    | (refine text_off hT9.o (by rfl) ?_)
    | (refine text_call (v:=?_) (f:=?_) (args:=?_) hT9.o (by rfl) ?_ ?_ ?_; rotate_left 3; (intro w5 hS; have rb:=hS.rule 0 rfl; unfold rav at rb; have ru:=hS.rule 1 rfl; unfold urv at ru; go_simp; constructor<;>rfl); (intro w5 hS; (first | (with_reducible refine kp (HVY.out _) ?_ ?_; rfl; exact fun w6 hb6=>hS.over hb6)))));try simp only [Act.put,zA,zZ,zS])
   refine InText.nil fun w5 hS5=>?_;clear hT9;clear hE2;have rb:=hS5.rule 0 rfl;unfold rav at rb;have f0:=hS5.thaw 0 rfl 0 (by simp [rav]);have hP:=hS5.put 0 rfl (j:=0) (by simp [rav]) (.int .i64 4);go_wp2_with fail;go_ret;rw [HP.out];exact ⟨rfl,4,fun _=>rfl,hP.sub (.cons_cons _ (.cons_cons _ (.cons_cons _ (.cons_cons _ (.cons _ (List.Sublist.refl _))))))⟩
theorem ral4 (x:Int) (hfx:getL U.ml (5,slotI h,2)=x) (hml:U.ml.length<=1000000) (hh:InU h) (hE:Env w0 (boxI b (rav 4 h n r)::LU U R) w) :
  Calls prog 108 #[.pointer (some ⟨b,0,none⟩),.pointer (some ⟨U.u,0,none⟩),.pointer (some ⟨U.m,0,none⟩),.agg #[.int .i64 ok,.int .u64 key,.int .u64 val,.int .i64 lv]] w fun o w'=>o=.returned (.int .i64 0)/\Env w0 (boxI b (rav 5 h x r)::LU U R) w':=by
 have HX:=zH hfx;clear hfx;have hE1:=(hE.box w.heap.size rfl [.int .i64 ok,.int .u64 key,.int .u64 val,.int .i64 lv] 50).perm (L':=boxI b (rav 4 h n r)::LU U (boxI w.heap.size [.int .i64 ok,.int .u64 key,.int .u64 val,.int .i64 lv]::R)) (List.perm_middle (l₁:=[boxI b (rav 4 h n r),_,_,_])).symm;have rb:=hE1.rule 0 rfl;unfold rav at rb;obtain ⟨sl,hsl⟩:∃ sl,slotI h=sl:=⟨_,rfl⟩;have hs13:=fun (v:World)=>slot13_any h hh v;rw [hsl] at HX;simp only [hsl] at hs13;have HSL:=zH hs13;clear hs13 hsl;clear hE;go_enter func108,ntmps108;go_wp2_with fail;generalize w.alloc _=w1 at *;generalize w.heap.size=O at *;refine (HSL.out _).mono ?_;rintro o w2 ⟨rfl,hb⟩;replace hE1:=hE1.over hb;clear hb rb;have rb:=hE1.rule 0 rfl;unfold rav at rb;go_wp2_with fail;refine (cell13_any _ _ _).mono ?_;rintro o w3 ⟨rfl,hb⟩;replace hE1:=hE1.over hb;clear hb rb;have rb:=hE1.rule 0 rfl;unfold rav at rb;go_wp2_with fail;refine (refGet_any 5 sl 2 hml (hE1.ref 3 rfl)).mono ?_;rintro o w4 ⟨rfl,hb⟩;rw [HX.out];replace hE1:=hE1.over hb;clear hb rb;have rb:=hE1.rule 0 rfl;unfold rav at rb;have f1:=hE1.thaw 0 rfl 2 (by simp [rav]);have f0:=hE1.thaw 0 rfl 0 (by simp [rav]);have hP:=(hE1.put 0 rfl (j:=2) (by simp [rav]) (.int .u64 x)).put 0 rfl (j:=0) (by simp [rav]) (.int .i64 5);go_wp2_with fail;go_ret;exact ⟨rfl,hP.sub (.cons_cons _ (.cons_cons _ (.cons_cons _ (.cons_cons _ (.cons _ (List.Sublist.refl _))))))⟩
theorem ral5 (x:Int) (hfx:getL U.ml (5,slotI h,1)=x) (hml:U.ml.length<=1000000) (hh:InU h) (hE:Env w0 (boxI b (rav 5 h n r)::LU U R) w) :
  Calls prog 108 #[.pointer (some ⟨b,0,none⟩),.pointer (some ⟨U.u,0,none⟩),.pointer (some ⟨U.m,0,none⟩),.agg #[.int .i64 ok,.int .u64 key,.int .u64 val,.int .i64 lv]] w fun o w'=>o=.returned (.int .i64 0)/\Env w0 (boxI b (rav 6 h n x)::LU U R) w':=by
 have HX:=zH hfx;clear hfx;have hE1:=(hE.box w.heap.size rfl [.int .i64 ok,.int .u64 key,.int .u64 val,.int .i64 lv] 50).perm (L':=boxI b (rav 5 h n r)::LU U (boxI w.heap.size [.int .i64 ok,.int .u64 key,.int .u64 val,.int .i64 lv]::R)) (List.perm_middle (l₁:=[boxI b (rav 5 h n r),_,_,_])).symm;have rb:=hE1.rule 0 rfl;unfold rav at rb;obtain ⟨sl,hsl⟩:∃ sl,slotI h=sl:=⟨_,rfl⟩;have hs13:=fun (v:World)=>slot13_any h hh v;rw [hsl] at HX;simp only [hsl] at hs13;have HSL:=zH hs13;clear hs13 hsl;clear hE;go_enter func108,ntmps108;go_wp2_with fail;generalize w.alloc _=w1 at *;generalize w.heap.size=O at *;refine (HSL.out _).mono ?_;rintro o w2 ⟨rfl,hb⟩;replace hE1:=hE1.over hb;clear hb rb;have rb:=hE1.rule 0 rfl;unfold rav at rb;go_wp2_with fail;refine (cell13_any _ _ _).mono ?_;rintro o w3 ⟨rfl,hb⟩;replace hE1:=hE1.over hb;clear hb rb;have rb:=hE1.rule 0 rfl;unfold rav at rb;go_wp2_with fail;refine (refGet_any 5 sl 1 hml (hE1.ref 3 rfl)).mono ?_;rintro o w4 ⟨rfl,hb⟩;rw [HX.out];replace hE1:=hE1.over hb;clear hb rb;have rb:=hE1.rule 0 rfl;unfold rav at rb;have f1:=hE1.thaw 0 rfl 3 (by simp [rav]);have f0:=hE1.thaw 0 rfl 0 (by simp [rav]);have hP:=(hE1.put 0 rfl (j:=3) (by simp [rav]) (.int .u64 x)).put 0 rfl (j:=0) (by simp [rav]) (.int .i64 6);go_wp2_with fail;go_ret;exact ⟨rfl,hP.sub (.cons_cons _ (.cons_cons _ (.cons_cons _ (.cons_cons _ (.cons _ (List.Sublist.refl _))))))⟩
theorem ral6No (hn:InU n) (hml:U.ml.length<=1000000) (hfx:getL U.ml (2,0,0)≠h) (hh:InU h) (hE:Env w0 (boxI b (rav 6 h n r)::LU U R) w) :
  Calls prog 108 #[.pointer (some ⟨b,0,none⟩),.pointer (some ⟨U.u,0,none⟩),.pointer (some ⟨U.m,0,none⟩),.agg #[.int .i64 ok,.int .u64 key,.int .u64 val,.int .i64 lv]] w fun o w'=>o=.returned (.int .i64 0)/\∃ F5,Env w0 (boxI b (rav 3 h n r)::LU { U with F:=F5,ml:=swL U.ml (2,0,0) h (wordI false (slotI n) (verI h+1)) } R) w':=by
 have HD:Hid (decide (getL U.ml (2,0,0)=h)=false):=zH (by simpa using hfx);clear hfx;have hbh:=fun (v:World)=>behind14_any h (slotI n) hh v;have hsn:=fun (v:World)=>slot13_any n hn v;obtain ⟨y9,hy⟩:∃ y,wordI false (slotI n) (verI h+1)=y:=⟨_,rfl⟩;rw [hy];simp only [hy] at hbh;obtain ⟨sn,hsn9⟩:∃ s,slotI n=s:=⟨_,rfl⟩;simp only [hsn9] at hbh hsn;have HBH:=zH hbh;have HSN:=zH hsn;clear hy hbh hsn hsn9 hn;have hE1:=(hE.box w.heap.size rfl [.int .i64 ok,.int .u64 key,.int .u64 val,.int .i64 lv] 50).perm (L':=boxI b (rav 6 h n r)::LU U (boxI w.heap.size [.int .i64 ok,.int .u64 key,.int .u64 val,.int .i64 lv]::R)) (List.perm_middle (l₁:=[boxI b (rav 6 h n r),_,_,_])).symm;have rb:=hE1.rule 0 rfl;unfold rav at rb;obtain ⟨sl,hsl⟩:∃ sl,slotI h=sl:=⟨_,rfl⟩;have hs13:=fun (v:World)=>slot13_any h hh v;simp only [hsl] at hs13;have HSL:=zH hs13;clear hs13 hsl;clear hE;go_enter func108,ntmps108;go_wp2_with fail;generalize w.alloc _=w1 at *;generalize w.heap.size=O at *;refine (HSL.out _).mono ?_;rintro o w2 ⟨rfl,hb⟩;replace hE1:=hE1.over hb;clear hb rb;have rb:=hE1.rule 0 rfl;unfold rav at rb;go_wp2_with fail;refine Ord.wc [16] (fun v=>Blk 0 v b (rav 6 h n r)) (fun k w'=>∃ F5,Env w0 (boxI b (rav 6 h n r)::LU (if k=0 then U else { U with F:=F5,ml:=swL U.ml (2,0,0) h y9 }) (boxI O [.int .i64 ok,.int .u64 key,.int .u64 val,.int .i64 lv]::R)) w') (hE1.drew.get 0 rfl) ⟨U.F,hE1.drew⟩ fun hT9=>?_
 repeat ((first
  | (refine Ord.cv ?_ hT9.o ?_ ?_; rotate_left; (intro w5 hS; have r9:=hS.rule; unfold rav at r9; go_simp<;>rfl))
  | (refine Ord.co hT9.o ?_)
  | (refine Ord.cc ?_ ?_ ?_ hT9.o ?_ ?_ ?_; rotate_left 3; (intro w5 hS; have r9:=hS.rule; unfold rav at r9; go_simp; constructor<;>rfl); (intro w5 hS; (first | (with_reducible refine kp (pool14_any _) ?_ ?_; rfl; exact fun w6 hb6=>⟨hS.under hb6,fun k h=>h.elim fun F5 h=>⟨F5,h.over hb6⟩⟩) | (with_reducible refine kp (HSN.out _) ?_ ?_; rfl; exact fun w6 hb6=>⟨hS.under hb6,fun k h=>h.elim fun F5 h=>⟨F5,h.over hb6⟩⟩) | (with_reducible refine kp (HBH.out _) ?_ ?_; rfl; exact fun w6 hb6=>⟨hS.under hb6,fun k h=>h.elim fun F5 h=>⟨F5,h.over hb6⟩⟩)))));try simp only [Act.put,zA,zZ,zS])
 refine Ord.ch_turn (v:=.bool false) 0 hT9.o rfl (by decide) (Or.inl rfl) (by rfl) ?_ ?_
 ·rintro w5 hC5 ⟨F5,hA5⟩;simp only [if_true] at hA5;go_simp;simp only [Ord.LandsIn];have hsw:=refSwap_any 2 0 0 h y9 hml (hA5.ref 3 rfl);rw [HD.out] at hsw;refine hsw.mono ?_;rintro e w6 ⟨rfl,F6,hU,hs⟩;have hE6:=hA5.turnU 3 rfl hU hs;exact ⟨rfl,hE6.get 0 rfl,F6,hE6⟩
 try simp only [Act.put,zA,zZ,zS]
 repeat ((first
  | (refine Ord.cv ?_ hT9.o ?_ ?_; rotate_left; (intro w5 hS; skip; go_simp<;>rfl))
  | (refine Ord.co hT9.o ?_));try simp only [Act.put,zA,zZ,zS])
 refine Ord.InText.nil fun w5 hS=>?_;clear hT9;obtain ⟨hC9,hA9⟩:=Ord.chain_end hS;clear hS;obtain ⟨F9,hA9⟩:=hA9;simp only [List.length_cons,List.length_nil,Nat.zero_add,Nat.one_ne_zero,if_false] at hA9;clear rb hE1 hC9;have rb:=hA9.rule 0 rfl;unfold rav at rb;have f0:=hA9.thaw 0 rfl 0 (by simp [rav]);have hP:=hA9.put 0 rfl (j:=0) (by simp [rav]) (.int .i64 3);go_wp2_with fail;go_ret;exact ⟨rfl,F9,hP.sub (.cons_cons _ (.cons_cons _ (.cons_cons _ (.cons_cons _ (.cons _ (List.Sublist.refl _))))))⟩
theorem ral6Yes (hn:InU n) (hml:U.ml.length<=1000000) (hfx:getL U.ml (2,0,0)=h) (hr:InU r) (hl:U.ql.length<=1000000) (hN:0<=U.N/\U.N<=1099511627776) (hh:InU h) (hE:Env w0 (boxI b (rav 6 h n r)::LU U R) w) :
  Calls prog 108 #[.pointer (some ⟨b,0,none⟩),.pointer (some ⟨U.u,0,none⟩),.pointer (some ⟨U.m,0,none⟩),.agg #[.int .i64 ok,.int .u64 key,.int .u64 val,.int .i64 lv]] w fun o w'=>o=.returned (.int .i64 (decS (U.ql++[(slotI h,epI r,0)]) U.ce U.cl))/\∃ pc':Int,∃ F5 A' c',(decP (U.ql++[(slotI h,epI r,0)]) U.ce U.cl≠0->pc'=((decP (U.ql++[(slotI h,epI r,0)]) U.ce U.cl:Nat):Int))/\Env w0 (boxI b (rav pc' h n r)::LU { U with F:=F5,ml:=swL U.ml (2,0,0) h (wordI false (slotI n) (verI h+1)),A:=A',c:=c',N:=roomN (room0 U.N) (U.ql.length+1),ql:=U.ql++[(slotI h,epI r,0)] } R) w':=by
 have HD:Hid (decide (getL U.ml (2,0,0)=h)=true):=zH (by rw [hfx]; simp);clear hfx;have hbh:=fun (v:World)=>behind14_any h (slotI n) hh v;have hsn:=fun (v:World)=>slot13_any n hn v;obtain ⟨y9,hy⟩:∃ y,wordI false (slotI n) (verI h+1)=y:=⟨_,rfl⟩;rw [hy];simp only [hy] at hbh;obtain ⟨sn,hsn9⟩:∃ s,slotI n=s:=⟨_,rfl⟩;simp only [hsn9] at hbh hsn;have HBH:=zH hbh;have HSN:=zH hsn;clear hy hbh hsn hsn9 hn;have hE1:=(hE.box w.heap.size rfl [.int .i64 ok,.int .u64 key,.int .u64 val,.int .i64 lv] 50).perm (L':=boxI b (rav 6 h n r)::LU U (boxI w.heap.size [.int .i64 ok,.int .u64 key,.int .u64 val,.int .i64 lv]::R)) (List.perm_middle (l₁:=[boxI b (rav 6 h n r),_,_,_])).symm;have rb:=hE1.rule 0 rfl;unfold rav at rb;obtain ⟨sl,hsl⟩:∃ sl,slotI h=sl:=⟨_,rfl⟩;have hs13:=fun (v:World)=>slot13_any h hh v;rw [hsl];simp only [hsl] at hs13;have HSL:=zH hs13;clear hs13 hsl;clear hE;go_enter func108,ntmps108;go_wp2_with fail;generalize w.alloc _=w1 at *;generalize w.heap.size=O at *;refine (HSL.out _).mono ?_;rintro o w2 ⟨rfl,hb⟩;replace hE1:=hE1.over hb;clear hb rb;have rb:=hE1.rule 0 rfl;unfold rav at rb;go_wp2_with fail;refine Ord.wc [16] (fun v=>Blk 0 v b (rav 6 h n r)) (fun k w'=>∃ F5,Env w0 (boxI b (rav 6 h n r)::LU (if k=0 then U else { U with F:=F5,ml:=swL U.ml (2,0,0) h y9 }) (boxI O [.int .i64 ok,.int .u64 key,.int .u64 val,.int .i64 lv]::R)) w') (hE1.drew.get 0 rfl) ⟨U.F,hE1.drew⟩ fun hT9=>?_
 repeat ((first
  | (refine Ord.cv ?_ hT9.o ?_ ?_; rotate_left; (intro w5 hS; have r9:=hS.rule; unfold rav at r9; go_simp<;>rfl))
  | (refine Ord.co hT9.o ?_)
  | (refine Ord.cc ?_ ?_ ?_ hT9.o ?_ ?_ ?_; rotate_left 3; (intro w5 hS; have r9:=hS.rule; unfold rav at r9; go_simp; constructor<;>rfl); (intro w5 hS; (first | (with_reducible refine kp (pool14_any _) ?_ ?_; rfl; exact fun w6 hb6=>⟨hS.under hb6,fun k h=>h.elim fun F5 h=>⟨F5,h.over hb6⟩⟩) | (with_reducible refine kp (HSN.out _) ?_ ?_; rfl; exact fun w6 hb6=>⟨hS.under hb6,fun k h=>h.elim fun F5 h=>⟨F5,h.over hb6⟩⟩) | (with_reducible refine kp (HBH.out _) ?_ ?_; rfl; exact fun w6 hb6=>⟨hS.under hb6,fun k h=>h.elim fun F5 h=>⟨F5,h.over hb6⟩⟩)))));try simp only [Act.put,zA,zZ,zS])
 refine Ord.ch_turn (v:=.bool true) 0 hT9.o rfl (by decide) (Or.inl rfl) (by rfl) ?_ ?_
 ·rintro w5 hC5 ⟨F5,hA5⟩;simp only [if_true] at hA5;go_simp;simp only [Ord.LandsIn];have hsw:=refSwap_any 2 0 0 h y9 hml (hA5.ref 3 rfl);rw [HD.out] at hsw;refine hsw.mono ?_;rintro e w6 ⟨rfl,F6,hU,hs⟩;have hE6:=hA5.turnU 3 rfl hU hs;exact ⟨rfl,hE6.get 0 rfl,F6,hE6⟩
 try simp only [Act.put,zA,zZ,zS]
 repeat ((first
  | (refine Ord.cv ?_ hT9.o ?_ ?_; rotate_left; (intro w5 hS; skip; go_simp<;>rfl))
  | (refine Ord.co hT9.o ?_));try simp only [Act.put,zA,zZ,zS])
 refine Ord.InText.nil fun w5 hS=>?_;clear hT9;obtain ⟨hC9,hA9⟩:=Ord.chain_end hS;clear hS;obtain ⟨F9,hA9⟩:=hA9;simp only [List.length_cons,List.length_nil,Nat.zero_add,Nat.one_ne_zero,if_false] at hA9;clear rb hE1 hC9;have rb:=hA9.rule 0 rfl;unfold rav at rb;have HEP:Hid (epI r=if r < 9223372036854775808 then r else 0):=zH (by unfold epI; split<;>split<;>omega);have hru:=hr;unfold InU at hru;clear hr;obtain ⟨e9,he9⟩:∃ e,epI r=e:=⟨_,rfl⟩;rw [he9] at HEP;have HE9:=zH he9;clear he9
 by_cases hlt:r < 9223372036854775808
 ·have hltb:decide (r < 9223372036854775808)=true:=by simpa using hlt
  have he2:e9=r:=by rw [HEP.out,if_pos hlt]
  have hwr:wrap64 r=r:=w64 _ (by omega);have HE2:=zH (HE9.out.trans he2);clear hlt hru HEP he2 HE9;go_wp2_with fail;refine (refPush_at sl r 0 6 1 hA9 rfl rfl rfl rfl hl hN).mono ?_;rintro o w7 ⟨rfl,A7,c7,hE7⟩;have hE8:Env w0 (boxI b (rav 6 h n r)::LU { U with F:=F9,ml:=swL U.ml (2,0,0) h y9,A:=A7,c:=c7,N:=roomN (room0 U.N) (U.ql.length+1),ql:=U.ql++[(sl,r,0)] } (boxI O [.int .i64 ok,.int .u64 key,.int .u64 val,.int .i64 lv]::R)) w7:=by
   have hq:(U.ql++[(sl,r,(0:Int))]).length=U.ql.length+1:=by simp
   unfold LU;rw [hq];exact hE7
  clear hA9 hE7 rb;go_wp2_with fail;refine (rdecide_a hE8).mono ?_;rintro o w8 ⟨rfl,pc8,hpc,hE9⟩;go_wp2_with fail;go_ret;rw [HE2.out];exact ⟨rfl,pc8,F9,A7,c7,hpc,hE9.sub (.cons_cons _ (.cons_cons _ (.cons_cons _ (.cons_cons _ (.cons _ (List.Sublist.refl _))))))⟩
 ·have hltb:decide (r < 9223372036854775808)=false:=by simpa using hlt
  have he2:e9=0:=by rw [HEP.out,if_neg hlt]
  have HE2:=zH (HE9.out.trans he2);clear hlt hru HEP he2 HE9;go_wp2_with fail;refine (refPush_at sl 0 0 6 1 hA9 rfl rfl rfl rfl hl hN).mono ?_;rintro o w7 ⟨rfl,A7,c7,hE7⟩;have hE8:Env w0 (boxI b (rav 6 h n r)::LU { U with F:=F9,ml:=swL U.ml (2,0,0) h y9,A:=A7,c:=c7,N:=roomN (room0 U.N) (U.ql.length+1),ql:=U.ql++[(sl,0,0)] } (boxI O [.int .i64 ok,.int .u64 key,.int .u64 val,.int .i64 lv]::R)) w7:=by
   have hq:(U.ql++[(sl,0,(0:Int))]).length=U.ql.length+1:=by simp
   unfold LU;rw [hq];exact hE7
  clear hA9 hE7 rb;go_wp2_with fail;refine (rdecide_a hE8).mono ?_;rintro o w8 ⟨rfl,pc8,hpc,hE9⟩;go_wp2_with fail;go_ret;rw [HE2.out];exact ⟨rfl,pc8,F9,A7,c7,hpc,hE9.sub (.cons_cons _ (.cons_cons _ (.cons_cons _ (.cons_cons _ (.cons _ (List.Sublist.refl _))))))⟩
end
def Lie (v:World) (g k:Nat) (x:Value):Prop:=g < v.heap.size/\v.cell? ⟨g,k,none⟩=some x
theorem Lie.under {v v':World} {g k:Nat} {x:Value} (h:Lie v g k x) (hb:Below v.heap.size v v'):Lie v' g k x:=⟨Nat.lt_of_lt_of_le h.1 hb.size,by rw [hb.cell (p:=⟨g,k,none⟩) h.1]; exact h.2⟩
theorem Env.lie {w0 w:World} {L:List Item} (h:Env w0 L w) (i:Nat) {g:Nat} {xs:List Value} (hi:L[i]?=some (lieI g xs)) (k:Nat) {x:Value} (hx:xs[k]?=some x):Lie w g k x:=⟨h.lt i hi g rfl,h.lies i hi k x hx⟩
theorem Env.as {w0 w:World} {L:List Item} (h:Env w0 L w) (i:Nat) {a:Item} (b:Item) (hi:L[i]?=some a) (hF:∀ k,b.F k->a.F k) (hb:b.says w):Env w0 (L.set i b) w :=
 h.step i b hi ⟨Turn.refl _ w,fun k hk=>.inl (hF k hk)⟩ hb fun k hk=>h.lt i hi k (hF k hk)
theorem Env.rowLiesAt {w0 w:World} {L:List Item} {e:TypeId} {s n:Nat} {v:Value} {xs:List Value} (h:Env w0 L w) (i:Nat) (hi:L[i]?=some (rowI v e s n xs)) (hn:n≠0) :
  ∃ g c,v=.slice (some ⟨g,0,none⟩) n c/\Env w0 (L.set i (lieI g xs)) w:=by
 have ho:w.ownsRow 0 e s v n xs:=h.get i hi
 rcases ho.2 with ⟨-,h0⟩ | ⟨g,cap,cur,hv,-,hg,hnc,-⟩
 ·exact absurd h0 hn
 ·refine ⟨g,cap,hv,h.as i (lieI g xs) hi (fun k hk=>?_) fun j u hu=>?_⟩
  ·show v.ownBlock=some k;rw [hv];show some g=some k;rw [show k=g from hk]
  ·have this:=ho.cells (g:=g) (by rw [hv]; rfl) j u hu;have e2:(⟨g,0,none⟩:Addr).add j=⟨g,j,none⟩:=by unfold Addr.add; split<;>simp_all
   rw [e2] at this;exact this
theorem Env.addLit {w0 w:World} {L:List Item} (h:Env w0 L w) (e:TypeId) (s n:Nat) (xs:List Value) (hx:xs.length=n * s) (hn:n<=maxLen):Env w0 (rowI (.slice (some ⟨w.heap.size,0,none⟩) n n) e s n xs::L) (w.alloc (.cells xs.toArray e)) :=
 h.add (rowI (.slice (some ⟨w.heap.size,0,none⟩) n n) e s n xs) ((Below.refl _ _).alloc (Nat.le_refl _) _)
  (show (w.alloc (.cells xs.toArray e)).ownsRow 0 e s (.slice (some ⟨w.heap.size,0,none⟩) n n) n xs from World.ownsRow_lit (base:=0) (e:=e) (size:=s) w xs.toArray n (Nat.zero_le _) hn (by simpa using hx)) fun k hk=>by
  have:w.heap.size=k:=by simpa [rowI,Value.ownBlock] using hk
  subst this;simp
theorem infoI1:(prog.info? 3).map (fun i=>(i.zero,i.size,i.bytes))=some (some (.int .i64 0),1,8):=by kernel_rfl
theorem infoU1:(prog.info? 48).map (fun i=>(i.zero,i.size,i.bytes))=some (some (.int .u64 0),1,8):=by kernel_rfl
def lastS (k n:Nat):Int:=if k+1=n then 1 else 0
def partsV (l:List (Int × Int)):List Value:=l.map fun p=>.int .i64 p.1
def wordsV9 (l:List (Int × Int)):List Value:=l.map fun p=>.int .u64 p.2
theorem wordsA_len (ck e key val lv:Int):(wordsA ck e key val lv).length=if ck=2 then 4 else if ck=3 then 5 else 3:=by
 unfold wordsA
 split
 ·rfl
 ·split<;>rfl
section
variable {w0 w:World} {R:List Item} {b:Nat} {U:SU} {h n r ok key val lv:Int}
theorem rwriteS (kk:Nat) (hk0:0 < kk) (part word:Int) (hpw:(wordsA U.ck U.ce key val (IntKind.u64.wrap lv))[kk]?=some (part,word)) (he:0<=U.ce/\U.ce<=9223372036854775807) (hml:U.ml.length<=1000000) (hE:Env w0 (boxI b (rav (10+(kk:Int)) h n r)::LU U R) w) :
  Calls prog 153 #[.pointer (some ⟨b,0,none⟩),.pointer (some ⟨U.u,0,none⟩),.pointer (some ⟨U.m,0,none⟩),.agg #[.int .i64 ok,.int .u64 key,.int .u64 val,.int .i64 lv]] w fun o w'=>o=.returned (.int .i64 (lastS kk (wordsA U.ck U.ce key val (IntKind.u64.wrap lv)).length))/\∃ F5,Env w0 (boxI b (rav (10+(kk:Int)+1) h n r)::LU { U with F:=F5,ml:=setL U.ml (5,U.hs,part) word } R) w':=by
 have hE1:=(hE.box w.heap.size rfl [.int .i64 ok,.int .u64 key,.int .u64 val,.int .i64 lv] 50).perm (L':=boxI b (rav (10+(kk:Int)) h n r)::LU U (boxI w.heap.size [.int .i64 ok,.int .u64 key,.int .u64 val,.int .i64 lv]::R)) (List.perm_middle (l₁:=[boxI b (rav (10+(kk:Int)) h n r),_,_,_])).symm;have hw1:IntKind.u64.wrap U.ce=U.ce:=wrapU _ (by omega) (by omega);have hkl:kk < (wordsA U.ck U.ce key val (IntKind.u64.wrap lv)).length:=(List.getElem?_eq_some_iff.1 hpw).1;clear he hE;have rb:=hE1.rule 0 rfl;unfold rav at rb;have hk9:kk < 5:=by
  rw [wordsA_len] at hkl
  split at hkl
  ·omega
  ·split at hkl<;>omega
 have hkb:((10+(kk:Int))==10)=false:=by simp; omega
 have hw2:(10+(kk:Int) - 10)=kk:=by omega
 go_enter func153,ntmps153
 go_upto_region 4 with fail
 have hE4:=hE1;clear hE1 rb;generalize w.alloc _=w3 at *;generalize w.heap.size=O at *;have hE5:=hE4.addLit 3 1 3 [.int .i64 0,.int .i64 1,.int .i64 3] rfl (by decide);clear hE4;go_wp2_with fail;generalize w3.alloc _=w4 at *;generalize w3.heap.size=z1 at *;refine Ord3.wp_chain [?_,?_,?_,?_,?_,?_,?_,?_,?_] [7,8] (fun v=>Blk 0 v U.u (urv U.ck U.cs U.cb U.ch U.cl U.ce U.A U.ql.length U.c U.N U.hs U.ro)/\Blk 0 v O [.int .i64 ok,.int .u64 key,.int .u64 val,.int .i64 lv]) (Ord3.Stage fun κs=>[Env w0 (rowI (.slice (some ⟨z1,0,none⟩) 3 3) 3 1 3 [.int .i64 0,.int .i64 1,.int .i64 3]::boxI b (rav (10+(kk:Int)) h n r)::LU U (boxI O [.int .i64 ok,.int .u64 key,.int .u64 val,.int .i64 lv]::R)),Env w0 (rowI (κs.getD 0 undef) 48 1 3 [.int .u64 U.ce,.int .u64 0,.int .u64 key]::rowI (.slice (some ⟨z1,0,none⟩) 3 3) 3 1 3 [.int .i64 0,.int .i64 1,.int .i64 3]::boxI b (rav (10+(kk:Int)) h n r)::LU U (boxI O [.int .i64 ok,.int .u64 key,.int .u64 val,.int .i64 lv]::R)),Env w0 (rowI (κs.getD 1 undef) 48 1 3 [.int .u64 U.ce,.int .u64 0,.int .u64 key]::rowI (.slice (some ⟨z1,0,none⟩) 3 3) 3 1 3 [.int .i64 0,.int .i64 1,.int .i64 3]::boxI b (rav (10+(kk:Int)) h n r)::LU U (boxI O [.int .i64 ok,.int .u64 key,.int .u64 val,.int .i64 lv]::R))]) (by kernel_rfl) (by kernel_rfl) (by kernel_rfl) ⟨hE5.drew.get 2 rfl,hE5.drew.get 5 rfl⟩ ⟨_,rfl,hE5.drew⟩ (fun hT=>?_);rotate_left 9;have hT9:=zH hT;clear hT
 repeat ((first
  | (focus (refine Ord3.in_value (v:=?_) hT9.o (by decide) ?_ (by rfl) ?_ ?_; rotate_left 2; (intro w5 hS; have r1:=Blk.rule hS.1; have r2:=Blk.rule hS.2; unfold urv at r1; go_simp<;>rfl); rotate_right; (focus rfl)))
  | (focus (refine Ord3.in_off hT9.o (by decide) ?_ (by rfl) ?_; (focus rfl)))
  | (focus (refine Ord3.in_call (v:=?_) (f:=?_) (args:=?_) hT9.o (by decide) ?_ (by rfl) ?_ ?_ ?_; rotate_left 4; (intro w5 hS; have r1:=Blk.rule hS.1; have r2:=Blk.rule hS.2; unfold urv at r1; go_simp; constructor<;>rfl); (intro w5 hS; (first | fail)); rotate_right; (focus rfl))));try simp only [Act.put,zA,zZ,zS])
 refine Ord3.in_turn (fun u=>∃ z,u=.slice (some ⟨z,0,none⟩) 3 3) _ ⟨0,rfl⟩ hT9.o rfl (by decide) (by rfl) ?_ (Or.inl rfl) (by rfl) ?_ ?_
 ·rfl
 ·rintro w7 hC7 ⟨P7,hP7,hA7⟩;cases hP7;go_simp;simp only [Ord3.Lands];have hE8:=hA7.addLit 48 1 3 [.int .u64 U.ce,.int .u64 0,.int .u64 key] rfl (by decide);exact ⟨⟨_,rfl⟩,⟨hE8.get 3 rfl,hE8.get 6 rfl⟩,_,rfl,hE8⟩
 rintro _ ⟨z9,rfl⟩
 try simp only [Act.put,zA,zZ,zS]
 refine Ord3.in_turn (fun u=>∃ z,u=.slice (some ⟨z,0,none⟩) 3 3) _ ⟨0,rfl⟩ hT9.o rfl (by decide) (by rfl) ?_ (Or.inr ⟨_,7,[],rfl,by kernel_rfl,by kernel_rfl,rfl⟩) (by rfl) ?_ ?_
 ·rfl
 ·rintro w7 hC7 ⟨P7,hP7,hA7⟩;cases hP7;go_simp;simp only [Ord3.Lands];exact ⟨⟨_,rfl⟩,hC7,_,rfl,hA7⟩
 rintro _ ⟨z2,rfl⟩
 try simp only [Act.put,zA,zZ,zS]
 refine Ord3.in_nil rfl ?_;rintro w9 hC9 ⟨P9,hP9,hA9⟩;cases hP9;replace hA9:Env w0 (rowI (.slice (some ⟨z2,0,none⟩) 3 3) 48 1 3 [.int .u64 U.ce,.int .u64 0,.int .u64 key]::rowI (.slice (some ⟨z1,0,none⟩) 3 3) 3 1 3 [.int .i64 0,.int .i64 1,.int .i64 3]::boxI b (rav (10+(kk:Int)) h n r)::LU U (boxI O [.int .i64 ok,.int .u64 key,.int .u64 val,.int .i64 lv]::R)) w9:=hA9;clear hT9 hC9 hE5;have r1:=hA9.rule 3 rfl;unfold urv at r1;have r2:=hA9.rule 6 rfl;have r3:=hA9.rule 2 rfl;unfold rav at r3;obtain ⟨WW,hWW⟩:∃ WW,(wordsA U.ck U.ce key val (IntKind.u64.wrap lv))=WW:=⟨_,rfl⟩;rw [hWW] at hpw hkl;have HWW:=zH hWW;clear hWW
 rcases hk2:U.ck==2 with _ | _
 ·rcases hk3:U.ck==3 with _ | _
  ·have hl3:WW=[(0,U.ce),(1,0),(3,key)]:=by rw [<- HWW.out]; unfold wordsA; rw [if_neg (by simpa using hk2),if_neg (by simpa using hk3)]; rfl
   go_upto_region 12 with fail
   clear r1 r2 r3;obtain ⟨g2,c2,he2,hB⟩:=hA9.rowLiesAt 0 rfl (by decide);cases he2;obtain ⟨g1,c1,he1,hB⟩:=hB.rowLiesAt 1 rfl (by decide);cases he1;subst hl3;have HL3:Hid (List.length ([(0,U.ce),(1,0),(3,key)]:List (Int × Int))=3):=zH rfl;have hkn:kk < 3:=hkl;have hp1:(partsV [(0,U.ce),(1,0),(3,key)])[kk]?=some (.int .i64 part):=by unfold partsV; rw [List.getElem?_map,hpw]; rfl
   have hp2:(wordsV9 [(0,U.ce),(1,0),(3,key)])[kk]?=some (.int .u64 word):=by unfold wordsV9; rw [List.getElem?_map,hpw]; rfl
   have hB9:Env w0 (lieI z2 (wordsV9 [(0,U.ce),(1,0),(3,key)])::lieI z1 (partsV [(0,U.ce),(1,0),(3,key)])::boxI b (rav (10+(kk:Int)) h n r)::LU U (boxI O [.int .i64 ok,.int .u64 key,.int .u64 val,.int .i64 lv]::R)) _:=hB;clear hB hA9;have HL1:=hB9.lie 1 rfl kk hp1;have HL2:=hB9.lie 0 rfl kk hp2;have hlb:((kk:Int)==2)=decide (kk+1=3):=by
    by_cases h:kk+1=3
    ·rw [decide_eq_true h]; simp; omega
    ·rw [decide_eq_false h]; simp; omega
   have hlt:decide ((kk:Int) < 3)=true:=by simp; omega
   have hlt2:(kk:Int) < 3:=by omega
   have hge:(0:Int)<=kk:=by omega
   obtain ⟨bl,hbl⟩:∃ b,decide (kk+1=3)=b:=⟨_,rfl⟩;rw [hbl] at hlb;have HBL:=zH hbl;clear hbl;have r3:=hB9.rule 2 rfl;unfold rav at r3;go_wp2_with fail;refine Ord.wc [14] (fun v=>Blk 0 v U.u (urv U.ck U.cs U.cb U.ch U.cl U.ce U.A U.ql.length U.c U.N U.hs U.ro)/\Lie v z1 kk (.int .i64 part)/\Lie v z2 kk (.int .u64 word)) (fun k w'=>∃ F5,Env w0 (lieI z2 (wordsV9 [(0,U.ce),(1,0),(3,key)])::lieI z1 (partsV [(0,U.ce),(1,0),(3,key)])::boxI b (rav (10+(kk:Int)) h n r)::LU (if k=0 then U else { U with F:=F5,ml:=setL U.ml (5,U.hs,part) word }) (boxI O [.int .i64 ok,.int .u64 key,.int .u64 val,.int .i64 lv]::R)) w') ⟨hB9.drew.get 3 rfl,HL1.under ((Below.refl _ _).drew),HL2.under ((Below.refl _ _).drew)⟩ ⟨U.F,hB9.drew⟩ fun hT9=>?_
   repeat ((first
    | (refine Ord.cv ?_ hT9.o ?_ ?_; rotate_left; (intro w5 hS; have r1:=hS.1.rule; have r2:=hS.2.1.2; have r3:=hS.2.2.2; unfold urv at r1; go_simp<;>rfl))
    | (refine Ord.co hT9.o ?_)
    | (refine Ord.cc ?_ ?_ ?_ hT9.o ?_ ?_ ?_; rotate_left 3; (intro w5 hS; have r1:=hS.1.rule; have r2:=hS.2.1.2; have r3:=hS.2.2.2; unfold urv at r1; go_simp; constructor<;>rfl); (intro w5 hS; (first | (with_reducible refine kp (cell13_any _ _ _) ?_ ?_; rfl; exact fun w6 hb6=>⟨⟨hS.1.under hb6,hS.2.1.under hb6,hS.2.2.under hb6⟩,fun k h=>h.elim fun F5 h=>⟨F5,h.over hb6⟩⟩)))));try simp only [Act.put,zA,zZ,zS])
   refine Ord.ch_turn (v:=.tuple #[]) 0 hT9.o rfl (by decide) (Or.inl rfl) (by rfl) ?_ ?_
   ·rintro w5 hC5 ⟨F5,hA5⟩;simp only [if_true] at hA5;go_simp;simp only [Ord.LandsIn];refine (refSet_any 5 U.hs part word hml (hA5.ref 5 rfl)).mono ?_;rintro e w6 ⟨rfl,F6,hU,hs9⟩;have hE6:=hA5.turnU 5 rfl hU hs9;exact ⟨rfl,⟨hE6.get 3 rfl,hE6.lie 1 rfl kk hp1,hE6.lie 0 rfl kk hp2⟩,F6,hE6⟩
   try simp only [Act.put,zA,zZ,zS]
   repeat ((first
    | (refine Ord.cv ?_ hT9.o ?_ ?_; rotate_left; (intro w5 hS; skip; go_simp<;>rfl))
    | (refine Ord.co hT9.o ?_));try simp only [Act.put,zA,zZ,zS])
   refine Ord.InText.nil fun w5 hS=>?_;clear hT9;obtain ⟨hC9,hA9⟩:=Ord.chain_end hS;clear hS;obtain ⟨F9,hA9⟩:=hA9;simp only [List.length_cons,List.length_nil,Nat.zero_add,Nat.one_ne_zero,if_false] at hA9;clear hC9 hB9;have r3:=hA9.rule 2 rfl;unfold rav at r3;have f0:=hA9.thaw 2 rfl 0 (by simp [rav]);have hP:=(hA9.put 2 rfl (j:=0) (by simp [rav]) (.int .i64 (10+(kk:Int)+1))).sub (L':=boxI b (rav (10+(kk:Int)+1) h n r)::LU { U with F:=F9,ml:=setL U.ml (5,U.hs,part) word } R) (.cons _ (.cons _ (.cons_cons _ (.cons_cons _ (.cons_cons _ (.cons_cons _ (.cons _ (List.Sublist.refl _))))))));cases bl
   ·have hne:¬ kk+1=3:=by simpa using HBL.out
    have HP:Hid (lastS kk (List.length ([(0,U.ce),(1,0),(3,key)]:List (Int × Int)))=0):=zH (if_neg (by rw [HL3.out]; exact hne));clear hne;go_wp2_with fail;go_ret;rw [HWW.out,HP.out];exact ⟨rfl,F9,hP⟩
   ·have heq:kk+1=3:=by simpa using HBL.out
    have HP:Hid (lastS kk (List.length ([(0,U.ce),(1,0),(3,key)]:List (Int × Int)))=1):=zH (if_pos (by rw [HL3.out]; exact heq));clear heq;go_wp2_with fail;go_ret;rw [HWW.out,HP.out];exact ⟨rfl,F9,hP⟩
  ·have hl3:WW=[(0,U.ce),(1,0),(3,key),(5,IntKind.u64.wrap lv),(6,0)]:=by rw [<- HWW.out]; unfold wordsA; rw [if_neg (by simpa using hk2),if_pos (by simpa using hk3)]; rfl
   go_upto_region 10 with fail
   clear r1 r3;have hX:=hA9.box w9.heap.size rfl [.int .i64 5,.int .i64 6] 3;obtain ⟨A8,c8,w8,hrun,hX8⟩:=hX.appendRow (P:=prog) 2 rfl 23 23 Tryz.underlying23 (.int .i64 0) infoI1 rfl (by decide) (some ⟨w9.heap.size,0,none⟩) 2 2 [.int .i64 5,.int .i64 6] rfl (.inr ⟨_,rfl,cells_new _ _ _⟩) (by simp [Value.oneCell']) (by decide) (by decide);have HRUN:=zH hrun;have hX9:=hX8.sub (.cons _ (List.Sublist.refl _));have r2:=hX9.rule 6 rfl;clear hrun hX hX8 hA9
   go_upto_region 11 with (at_builtin; refine wpList_append_run rfl _ _ 23 rfl HRUN.out rfl rfl ?_)
   clear HRUN;have hY:=hX9.box w8.heap.size rfl [.int .u64 (IntKind.u64.wrap lv),.int .u64 0] 48;obtain ⟨A6,c6,w6,hrun,hY8⟩:=hY.appendRow (P:=prog) 1 rfl 32 32 Tryz.underlying32 (.int .u64 0) infoU1 rfl (by decide) (some ⟨w8.heap.size,0,none⟩) 2 2 [.int .u64 (IntKind.u64.wrap lv),.int .u64 0] rfl (.inr ⟨_,rfl,cells_new _ _ _⟩) (by simp [Value.oneCell']) (by decide) (by decide);have HRUN:=zH hrun;have hA9:=hY8.sub (.cons _ (List.Sublist.refl _));have r1:=hA9.rule 3 rfl;unfold urv at r1;clear hrun hY hY8
   go_upto_region 12 with (at_builtin; refine wpList_append_run rfl _ _ 32 rfl HRUN.out rfl rfl ?_)
   clear HRUN hX9 r1 r2;obtain ⟨g2,c2,he2,hB⟩:=hA9.rowLiesAt 0 rfl (by decide);cases he2;obtain ⟨g1,c1,he1,hB⟩:=hB.rowLiesAt 1 rfl (by decide);cases he1;subst hl3;have HL3:Hid (List.length ([(0,U.ce),(1,0),(3,key),(5,IntKind.u64.wrap lv),(6,0)]:List (Int × Int))=5):=zH rfl;have hkn:kk < 5:=hkl;have hp1:(partsV [(0,U.ce),(1,0),(3,key),(5,IntKind.u64.wrap lv),(6,0)])[kk]?=some (.int .i64 part):=by unfold partsV; rw [List.getElem?_map,hpw]; rfl
   have hp2:(wordsV9 [(0,U.ce),(1,0),(3,key),(5,IntKind.u64.wrap lv),(6,0)])[kk]?=some (.int .u64 word):=by unfold wordsV9; rw [List.getElem?_map,hpw]; rfl
   have hB9:Env w0 (lieI g2 (wordsV9 [(0,U.ce),(1,0),(3,key),(5,IntKind.u64.wrap lv),(6,0)])::lieI g1 (partsV [(0,U.ce),(1,0),(3,key),(5,IntKind.u64.wrap lv),(6,0)])::boxI b (rav (10+(kk:Int)) h n r)::LU U (boxI O [.int .i64 ok,.int .u64 key,.int .u64 val,.int .i64 lv]::R)) _:=hB;clear hB hA9;have HL1:=hB9.lie 1 rfl kk hp1;have HL2:=hB9.lie 0 rfl kk hp2;have hlb:((kk:Int)==4)=decide (kk+1=5):=by
    by_cases h:kk+1=5
    ·rw [decide_eq_true h]; simp; omega
    ·rw [decide_eq_false h]; simp; omega
   have hlt:decide ((kk:Int) < 5)=true:=by simp; omega
   have hlt2:(kk:Int) < 5:=by omega
   have hge:(0:Int)<=kk:=by omega
   obtain ⟨bl,hbl⟩:∃ b,decide (kk+1=5)=b:=⟨_,rfl⟩;rw [hbl] at hlb;have HBL:=zH hbl;clear hbl;have r3:=hB9.rule 2 rfl;unfold rav at r3;go_wp2_with fail;refine Ord.wc [14] (fun v=>Blk 0 v U.u (urv U.ck U.cs U.cb U.ch U.cl U.ce U.A U.ql.length U.c U.N U.hs U.ro)/\Lie v g1 kk (.int .i64 part)/\Lie v g2 kk (.int .u64 word)) (fun k w'=>∃ F5,Env w0 (lieI g2 (wordsV9 [(0,U.ce),(1,0),(3,key),(5,IntKind.u64.wrap lv),(6,0)])::lieI g1 (partsV [(0,U.ce),(1,0),(3,key),(5,IntKind.u64.wrap lv),(6,0)])::boxI b (rav (10+(kk:Int)) h n r)::LU (if k=0 then U else { U with F:=F5,ml:=setL U.ml (5,U.hs,part) word }) (boxI O [.int .i64 ok,.int .u64 key,.int .u64 val,.int .i64 lv]::R)) w') ⟨hB9.drew.get 3 rfl,HL1.under ((Below.refl _ _).drew),HL2.under ((Below.refl _ _).drew)⟩ ⟨U.F,hB9.drew⟩ fun hT9=>?_
   repeat ((first
    | (refine Ord.cv ?_ hT9.o ?_ ?_; rotate_left; (intro w5 hS; have r1:=hS.1.rule; have r2:=hS.2.1.2; have r3:=hS.2.2.2; unfold urv at r1; go_simp<;>rfl))
    | (refine Ord.co hT9.o ?_)
    | (refine Ord.cc ?_ ?_ ?_ hT9.o ?_ ?_ ?_; rotate_left 3; (intro w5 hS; have r1:=hS.1.rule; have r2:=hS.2.1.2; have r3:=hS.2.2.2; unfold urv at r1; go_simp; constructor<;>rfl); (intro w5 hS; (first | (with_reducible refine kp (cell13_any _ _ _) ?_ ?_; rfl; exact fun w6 hb6=>⟨⟨hS.1.under hb6,hS.2.1.under hb6,hS.2.2.under hb6⟩,fun k h=>h.elim fun F5 h=>⟨F5,h.over hb6⟩⟩)))));try simp only [Act.put,zA,zZ,zS])
   refine Ord.ch_turn (v:=.tuple #[]) 0 hT9.o rfl (by decide) (Or.inl rfl) (by rfl) ?_ ?_
   ·rintro w5 hC5 ⟨F5,hA5⟩;simp only [if_true] at hA5;go_simp;simp only [Ord.LandsIn];refine (refSet_any 5 U.hs part word hml (hA5.ref 5 rfl)).mono ?_;rintro e w6 ⟨rfl,F6,hU,hs9⟩;have hE6:=hA5.turnU 5 rfl hU hs9;exact ⟨rfl,⟨hE6.get 3 rfl,hE6.lie 1 rfl kk hp1,hE6.lie 0 rfl kk hp2⟩,F6,hE6⟩
   try simp only [Act.put,zA,zZ,zS]
   repeat ((first
    | (refine Ord.cv ?_ hT9.o ?_ ?_; rotate_left; (intro w5 hS; skip; go_simp<;>rfl))
    | (refine Ord.co hT9.o ?_));try simp only [Act.put,zA,zZ,zS])
   refine Ord.InText.nil fun w5 hS=>?_;clear hT9;obtain ⟨hC9,hA9⟩:=Ord.chain_end hS;clear hS;obtain ⟨F9,hA9⟩:=hA9;simp only [List.length_cons,List.length_nil,Nat.zero_add,Nat.one_ne_zero,if_false] at hA9;clear hC9 hB9;have r3:=hA9.rule 2 rfl;unfold rav at r3;have f0:=hA9.thaw 2 rfl 0 (by simp [rav]);have hP:=(hA9.put 2 rfl (j:=0) (by simp [rav]) (.int .i64 (10+(kk:Int)+1))).sub (L':=boxI b (rav (10+(kk:Int)+1) h n r)::LU { U with F:=F9,ml:=setL U.ml (5,U.hs,part) word } R) (.cons _ (.cons _ (.cons_cons _ (.cons_cons _ (.cons_cons _ (.cons_cons _ (.cons _ (List.Sublist.refl _))))))));cases bl
   ·have hne:¬ kk+1=5:=by simpa using HBL.out
    have HP:Hid (lastS kk (List.length ([(0,U.ce),(1,0),(3,key),(5,IntKind.u64.wrap lv),(6,0)]:List (Int × Int)))=0):=zH (if_neg (by rw [HL3.out]; exact hne));clear hne;go_wp2_with fail;go_ret;rw [HWW.out,HP.out];exact ⟨rfl,F9,hP⟩
   ·have heq:kk+1=5:=by simpa using HBL.out
    have HP:Hid (lastS kk (List.length ([(0,U.ce),(1,0),(3,key),(5,IntKind.u64.wrap lv),(6,0)]:List (Int × Int)))=1):=zH (if_pos (by rw [HL3.out]; exact heq));clear heq;go_wp2_with fail;go_ret;rw [HWW.out,HP.out];exact ⟨rfl,F9,hP⟩
 ·have hk3:(U.ck==3)=false:=by simp only [beq_iff_eq] at hk2; simp [hk2]
  have hl3:WW=[(0,U.ce),(1,0),(3,key),(4,val)]:=by rw [<- HWW.out]; unfold wordsA; rw [if_pos (by simpa using hk2)]; rfl
  go_upto_region 7 with fail
  clear r1 r3;have hX:=hA9.box w9.heap.size rfl [.int .i64 4] 3;obtain ⟨A8,c8,w8,hrun,hX8⟩:=hX.appendRow (P:=prog) 2 rfl 23 23 Tryz.underlying23 (.int .i64 0) infoI1 rfl (by decide) (some ⟨w9.heap.size,0,none⟩) 1 1 [.int .i64 4] rfl (.inr ⟨_,rfl,cells_new _ _ _⟩) (by simp [Value.oneCell']) (by decide) (by decide);have HRUN:=zH hrun;have hX9:=hX8.sub (.cons _ (List.Sublist.refl _));have r2:=hX9.rule 6 rfl;clear hrun hX hX8 hA9
  go_upto_region 8 with (at_builtin; refine wpList_append_run rfl _ _ 23 rfl HRUN.out rfl rfl ?_)
  clear HRUN;have hY:=hX9.box w8.heap.size rfl [.int .u64 val] 48;obtain ⟨A6,c6,w6,hrun,hY8⟩:=hY.appendRow (P:=prog) 1 rfl 32 32 Tryz.underlying32 (.int .u64 0) infoU1 rfl (by decide) (some ⟨w8.heap.size,0,none⟩) 1 1 [.int .u64 val] rfl (.inr ⟨_,rfl,cells_new _ _ _⟩) (by simp [Value.oneCell']) (by decide) (by decide);have HRUN:=zH hrun;have hA9:=hY8.sub (.cons _ (List.Sublist.refl _));have r1:=hA9.rule 3 rfl;unfold urv at r1;clear hrun hY hY8
  go_upto_region 12 with (at_builtin; refine wpList_append_run rfl _ _ 32 rfl HRUN.out rfl rfl ?_)
  clear HRUN hX9 r1 r2;obtain ⟨g2,c2,he2,hB⟩:=hA9.rowLiesAt 0 rfl (by decide);cases he2;obtain ⟨g1,c1,he1,hB⟩:=hB.rowLiesAt 1 rfl (by decide);cases he1;subst hl3;have HL3:Hid (List.length ([(0,U.ce),(1,0),(3,key),(4,val)]:List (Int × Int))=4):=zH rfl;have hkn:kk < 4:=hkl;have hp1:(partsV [(0,U.ce),(1,0),(3,key),(4,val)])[kk]?=some (.int .i64 part):=by unfold partsV; rw [List.getElem?_map,hpw]; rfl
  have hp2:(wordsV9 [(0,U.ce),(1,0),(3,key),(4,val)])[kk]?=some (.int .u64 word):=by unfold wordsV9; rw [List.getElem?_map,hpw]; rfl
  have hB9:Env w0 (lieI g2 (wordsV9 [(0,U.ce),(1,0),(3,key),(4,val)])::lieI g1 (partsV [(0,U.ce),(1,0),(3,key),(4,val)])::boxI b (rav (10+(kk:Int)) h n r)::LU U (boxI O [.int .i64 ok,.int .u64 key,.int .u64 val,.int .i64 lv]::R)) _:=hB;clear hB hA9;have HL1:=hB9.lie 1 rfl kk hp1;have HL2:=hB9.lie 0 rfl kk hp2;have hlb:((kk:Int)==3)=decide (kk+1=4):=by
   by_cases h:kk+1=4
   ·rw [decide_eq_true h]; simp; omega
   ·rw [decide_eq_false h]; simp; omega
  have hlt:decide ((kk:Int) < 4)=true:=by simp; omega
  have hlt2:(kk:Int) < 4:=by omega
  have hge:(0:Int)<=kk:=by omega
  obtain ⟨bl,hbl⟩:∃ b,decide (kk+1=4)=b:=⟨_,rfl⟩;rw [hbl] at hlb;have HBL:=zH hbl;clear hbl;have r3:=hB9.rule 2 rfl;unfold rav at r3;go_wp2_with fail;refine Ord.wc [14] (fun v=>Blk 0 v U.u (urv U.ck U.cs U.cb U.ch U.cl U.ce U.A U.ql.length U.c U.N U.hs U.ro)/\Lie v g1 kk (.int .i64 part)/\Lie v g2 kk (.int .u64 word)) (fun k w'=>∃ F5,Env w0 (lieI g2 (wordsV9 [(0,U.ce),(1,0),(3,key),(4,val)])::lieI g1 (partsV [(0,U.ce),(1,0),(3,key),(4,val)])::boxI b (rav (10+(kk:Int)) h n r)::LU (if k=0 then U else { U with F:=F5,ml:=setL U.ml (5,U.hs,part) word }) (boxI O [.int .i64 ok,.int .u64 key,.int .u64 val,.int .i64 lv]::R)) w') ⟨hB9.drew.get 3 rfl,HL1.under ((Below.refl _ _).drew),HL2.under ((Below.refl _ _).drew)⟩ ⟨U.F,hB9.drew⟩ fun hT9=>?_
  repeat ((first
   | (refine Ord.cv ?_ hT9.o ?_ ?_; rotate_left; (intro w5 hS; have r1:=hS.1.rule; have r2:=hS.2.1.2; have r3:=hS.2.2.2; unfold urv at r1; go_simp<;>rfl))
   | (refine Ord.co hT9.o ?_)
   | (refine Ord.cc ?_ ?_ ?_ hT9.o ?_ ?_ ?_; rotate_left 3; (intro w5 hS; have r1:=hS.1.rule; have r2:=hS.2.1.2; have r3:=hS.2.2.2; unfold urv at r1; go_simp; constructor<;>rfl); (intro w5 hS; (first | (with_reducible refine kp (cell13_any _ _ _) ?_ ?_; rfl; exact fun w6 hb6=>⟨⟨hS.1.under hb6,hS.2.1.under hb6,hS.2.2.under hb6⟩,fun k h=>h.elim fun F5 h=>⟨F5,h.over hb6⟩⟩)))));try simp only [Act.put,zA,zZ,zS])
  refine Ord.ch_turn (v:=.tuple #[]) 0 hT9.o rfl (by decide) (Or.inl rfl) (by rfl) ?_ ?_
  ·rintro w5 hC5 ⟨F5,hA5⟩;simp only [if_true] at hA5;go_simp;simp only [Ord.LandsIn];refine (refSet_any 5 U.hs part word hml (hA5.ref 5 rfl)).mono ?_;rintro e w6 ⟨rfl,F6,hU,hs9⟩;have hE6:=hA5.turnU 5 rfl hU hs9;exact ⟨rfl,⟨hE6.get 3 rfl,hE6.lie 1 rfl kk hp1,hE6.lie 0 rfl kk hp2⟩,F6,hE6⟩
  try simp only [Act.put,zA,zZ,zS]
  repeat ((first
   | (refine Ord.cv ?_ hT9.o ?_ ?_; rotate_left; (intro w5 hS; skip; go_simp<;>rfl))
   | (refine Ord.co hT9.o ?_));try simp only [Act.put,zA,zZ,zS])
  refine Ord.InText.nil fun w5 hS=>?_;clear hT9;obtain ⟨hC9,hA9⟩:=Ord.chain_end hS;clear hS;obtain ⟨F9,hA9⟩:=hA9;simp only [List.length_cons,List.length_nil,Nat.zero_add,Nat.one_ne_zero,if_false] at hA9;clear hC9 hB9;have r3:=hA9.rule 2 rfl;unfold rav at r3;have f0:=hA9.thaw 2 rfl 0 (by simp [rav]);have hP:=(hA9.put 2 rfl (j:=0) (by simp [rav]) (.int .i64 (10+(kk:Int)+1))).sub (L':=boxI b (rav (10+(kk:Int)+1) h n r)::LU { U with F:=F9,ml:=setL U.ml (5,U.hs,part) word } R) (.cons _ (.cons _ (.cons_cons _ (.cons_cons _ (.cons_cons _ (.cons_cons _ (.cons _ (List.Sublist.refl _))))))));cases bl
  ·have hne:¬ kk+1=4:=by simpa using HBL.out
   have HP:Hid (lastS kk (List.length ([(0,U.ce),(1,0),(3,key),(4,val)]:List (Int × Int)))=0):=zH (if_neg (by rw [HL3.out]; exact hne));clear hne;go_wp2_with fail;go_ret;rw [HWW.out,HP.out];exact ⟨rfl,F9,hP⟩
  ·have heq:kk+1=4:=by simpa using HBL.out
   have HP:Hid (lastS kk (List.length ([(0,U.ce),(1,0),(3,key),(4,val)]:List (Int × Int)))=1):=zH (if_pos (by rw [HL3.out]; exact heq));clear heq;go_wp2_with fail;go_ret;rw [HWW.out,HP.out];exact ⟨rfl,F9,hP⟩
theorem rwrite0 (x y:Int) (t:List Trip) (hql:U.ql=(x,y,0)::t) (hl:t.length<=1000000) (part word:Int) (hpw:(wordsA U.ck U.ce key val (IntKind.u64.wrap lv))[0]?=some (part,word)) (he:0<=U.ce/\U.ce<=9223372036854775807) (hml:U.ml.length<=1000000) (hE:Env w0 (boxI b (rav 10 h n r)::LU U R) w) :
  Calls prog 153 #[.pointer (some ⟨b,0,none⟩),.pointer (some ⟨U.u,0,none⟩),.pointer (some ⟨U.m,0,none⟩),.agg #[.int .i64 ok,.int .u64 key,.int .u64 val,.int .i64 lv]] w fun o w'=>o=.returned (.int .i64 (lastS 0 (wordsA U.ck U.ce key val (IntKind.u64.wrap lv)).length))/\∃ F5 A' c',Env w0 (boxI b (rav 11 h n r)::LU { U with F:=F5,ml:=setL U.ml (5,x,part) word,hs:=x,ql:=t,A:=A',c:=c' } R) w':=by
 have hE1:=(hE.box w.heap.size rfl [.int .i64 ok,.int .u64 key,.int .u64 val,.int .i64 lv] 50).perm (L':=boxI b (rav 10 h n r)::LU U (boxI w.heap.size [.int .i64 ok,.int .u64 key,.int .u64 val,.int .i64 lv]::R)) (List.perm_middle (l₁:=[boxI b (rav 10 h n r),_,_,_])).symm;have hw1:IntKind.u64.wrap U.ce=U.ce:=wrapU _ (by omega) (by omega);have hkl:0 < (wordsA U.ck U.ce key val (IntKind.u64.wrap lv)).length:=(List.getElem?_eq_some_iff.1 hpw).1;clear he hE;have rb:=hE1.rule 0 rfl;unfold rav at rb;go_enter func153,ntmps153;go_wp2_with fail;generalize w.alloc _=w1 at *;generalize w.heap.size=O at *;have hrr:(boxI b (rav 10 h n r)::LU U (boxI O [.int .i64 ok,.int .u64 key,.int .u64 val,.int .i64 lv]::R))[2]?=some (rrI U.A U.c ((x,y,0)::t)):=by rw [<- hql]; rfl
 refine (refPop_at x y 0 6 1 hE1 rfl (by rw [hql]; rfl) hrr hl).mono ?_;rintro o w2 ⟨rfl,A7,c7,hE2⟩;have hE3:=(hE2.box w2.heap.size rfl [.int .i64 x,.int .i64 y,.int .i64 0] 159);have r9:=hE3.rule 0 rfl;have r8:=hE3.rule 2 rfl;unfold urv at r8;have f8:=hE3.thaw 2 rfl 8 (by simp [urv]);have hE4:=(hE3.put 2 rfl (j:=8) (by simp [urv]) (.int .i64 x)).sub (L':=boxI b (rav 10 h n r)::LU { U with hs:=x,ql:=t,A:=A7,c:=c7 } (boxI O [.int .i64 ok,.int .u64 key,.int .u64 val,.int .i64 lv]::R)) (.cons _ (List.Sublist.refl _));simp only [tv];clear hE1 hE2 hE3 rb hrr
 go_upto_region 4 with fail
 clear r9 r8 f8;generalize (w2.alloc _).setCell _ _=w3 at *;generalize w2.heap.size=Y2 at *;have hE5:=hE4.addLit 3 1 3 [.int .i64 0,.int .i64 1,.int .i64 3] rfl (by decide);clear hE4;go_wp2_with fail;generalize w3.alloc _=w4 at *;generalize w3.heap.size=z1 at *;refine Ord3.wp_chain [?_,?_,?_,?_,?_,?_,?_,?_,?_] [7,8] (fun v=>Blk 0 v U.u (urv U.ck U.cs U.cb U.ch U.cl U.ce A7 t.length c7 U.N x U.ro)/\Blk 0 v O [.int .i64 ok,.int .u64 key,.int .u64 val,.int .i64 lv]) (Ord3.Stage fun κs=>[Env w0 (rowI (.slice (some ⟨z1,0,none⟩) 3 3) 3 1 3 [.int .i64 0,.int .i64 1,.int .i64 3]::boxI b (rav 10 h n r)::LU { U with hs:=x,ql:=t,A:=A7,c:=c7 } (boxI O [.int .i64 ok,.int .u64 key,.int .u64 val,.int .i64 lv]::R)),Env w0 (rowI (κs.getD 0 undef) 48 1 3 [.int .u64 U.ce,.int .u64 0,.int .u64 key]::rowI (.slice (some ⟨z1,0,none⟩) 3 3) 3 1 3 [.int .i64 0,.int .i64 1,.int .i64 3]::boxI b (rav 10 h n r)::LU { U with hs:=x,ql:=t,A:=A7,c:=c7 } (boxI O [.int .i64 ok,.int .u64 key,.int .u64 val,.int .i64 lv]::R)),Env w0 (rowI (κs.getD 1 undef) 48 1 3 [.int .u64 U.ce,.int .u64 0,.int .u64 key]::rowI (.slice (some ⟨z1,0,none⟩) 3 3) 3 1 3 [.int .i64 0,.int .i64 1,.int .i64 3]::boxI b (rav 10 h n r)::LU { U with hs:=x,ql:=t,A:=A7,c:=c7 } (boxI O [.int .i64 ok,.int .u64 key,.int .u64 val,.int .i64 lv]::R))]) (by kernel_rfl) (by kernel_rfl) (by kernel_rfl) ⟨hE5.drew.get 2 rfl,hE5.drew.get 5 rfl⟩ ⟨_,rfl,hE5.drew⟩ (fun hT=>?_);rotate_left 9;have hT9:=zH hT;clear hT
 repeat ((first
  | (focus (refine Ord3.in_value (v:=?_) hT9.o (by decide) ?_ (by rfl) ?_ ?_; rotate_left 2; (intro w5 hS; have r1:=Blk.rule hS.1; have r2:=Blk.rule hS.2; unfold urv at r1; go_simp<;>rfl); rotate_right; (focus rfl)))
  | (focus (refine Ord3.in_off hT9.o (by decide) ?_ (by rfl) ?_; (focus rfl)))
  | (focus (refine Ord3.in_call (v:=?_) (f:=?_) (args:=?_) hT9.o (by decide) ?_ (by rfl) ?_ ?_ ?_; rotate_left 4; (intro w5 hS; have r1:=Blk.rule hS.1; have r2:=Blk.rule hS.2; unfold urv at r1; go_simp; constructor<;>rfl); (intro w5 hS; (first | fail)); rotate_right; (focus rfl))));try simp only [Act.put,zA,zZ,zS])
 refine Ord3.in_turn (fun u=>∃ z,u=.slice (some ⟨z,0,none⟩) 3 3) _ ⟨0,rfl⟩ hT9.o rfl (by decide) (by rfl) ?_ (Or.inl rfl) (by rfl) ?_ ?_
 ·rfl
 ·rintro w7 hC7 ⟨P7,hP7,hA7⟩;cases hP7;go_simp;simp only [Ord3.Lands];have hE8:=hA7.addLit 48 1 3 [.int .u64 U.ce,.int .u64 0,.int .u64 key] rfl (by decide);exact ⟨⟨_,rfl⟩,⟨hE8.get 3 rfl,hE8.get 6 rfl⟩,_,rfl,hE8⟩
 rintro _ ⟨z9,rfl⟩
 try simp only [Act.put,zA,zZ,zS]
 refine Ord3.in_turn (fun u=>∃ z,u=.slice (some ⟨z,0,none⟩) 3 3) _ ⟨0,rfl⟩ hT9.o rfl (by decide) (by rfl) ?_ (Or.inr ⟨_,7,[],rfl,by kernel_rfl,by kernel_rfl,rfl⟩) (by rfl) ?_ ?_
 ·rfl
 ·rintro w7 hC7 ⟨P7,hP7,hA7⟩;cases hP7;go_simp;simp only [Ord3.Lands];exact ⟨⟨_,rfl⟩,hC7,_,rfl,hA7⟩
 rintro _ ⟨z2,rfl⟩
 try simp only [Act.put,zA,zZ,zS]
 refine Ord3.in_nil rfl ?_;rintro w9 hC9 ⟨P9,hP9,hA9⟩;cases hP9;replace hA9:Env w0 (rowI (.slice (some ⟨z2,0,none⟩) 3 3) 48 1 3 [.int .u64 U.ce,.int .u64 0,.int .u64 key]::rowI (.slice (some ⟨z1,0,none⟩) 3 3) 3 1 3 [.int .i64 0,.int .i64 1,.int .i64 3]::boxI b (rav 10 h n r)::LU { U with hs:=x,ql:=t,A:=A7,c:=c7 } (boxI O [.int .i64 ok,.int .u64 key,.int .u64 val,.int .i64 lv]::R)) w9:=hA9;clear hT9 hC9 hE5;have r1:=hA9.rule 3 rfl;unfold urv at r1;have r2:=hA9.rule 6 rfl;have r3:=hA9.rule 2 rfl;unfold rav at r3;obtain ⟨WW,hWW⟩:∃ WW,(wordsA U.ck U.ce key val (IntKind.u64.wrap lv))=WW:=⟨_,rfl⟩;rw [hWW] at hpw hkl;have HWW:=zH hWW;clear hWW
 rcases hk2:U.ck==2 with _ | _
 ·rcases hk3:U.ck==3 with _ | _
  ·have hl3:WW=[(0,U.ce),(1,0),(3,key)]:=by rw [<- HWW.out]; unfold wordsA; rw [if_neg (by simpa using hk2),if_neg (by simpa using hk3)]; rfl
   go_upto_region 12 with fail
   clear r1 r2 r3;obtain ⟨g2,c2,he2,hB⟩:=hA9.rowLiesAt 0 rfl (by decide);cases he2;obtain ⟨g1,c1,he1,hB⟩:=hB.rowLiesAt 1 rfl (by decide);cases he1;subst hl3;have HL3:Hid (List.length ([(0,U.ce),(1,0),(3,key)]:List (Int × Int))=3):=zH rfl;have hkn:0 < 3:=hkl;have hp1:(partsV [(0,U.ce),(1,0),(3,key)])[0]?=some (.int .i64 part):=by unfold partsV; rw [List.getElem?_map,hpw]; rfl
   have hp2:(wordsV9 [(0,U.ce),(1,0),(3,key)])[0]?=some (.int .u64 word):=by unfold wordsV9; rw [List.getElem?_map,hpw]; rfl
   have hB9:Env w0 (lieI z2 (wordsV9 [(0,U.ce),(1,0),(3,key)])::lieI z1 (partsV [(0,U.ce),(1,0),(3,key)])::boxI b (rav 10 h n r)::LU { U with hs:=x,ql:=t,A:=A7,c:=c7 } (boxI O [.int .i64 ok,.int .u64 key,.int .u64 val,.int .i64 lv]::R)) _:=hB;clear hB hA9;have HL1:=hB9.lie 1 rfl 0 hp1;have HL2:=hB9.lie 0 rfl 0 hp2
   skip
   have r3:=hB9.rule 2 rfl;unfold rav at r3;go_wp2_with fail;refine Ord.wc [14] (fun v=>Blk 0 v U.u (urv U.ck U.cs U.cb U.ch U.cl U.ce A7 t.length c7 U.N x U.ro)/\Lie v z1 0 (.int .i64 part)/\Lie v z2 0 (.int .u64 word)) (fun k w'=>∃ F5,Env w0 (lieI z2 (wordsV9 [(0,U.ce),(1,0),(3,key)])::lieI z1 (partsV [(0,U.ce),(1,0),(3,key)])::boxI b (rav 10 h n r)::LU (if k=0 then { U with hs:=x,ql:=t,A:=A7,c:=c7 } else { U with F:=F5,ml:=setL U.ml (5,x,part) word,hs:=x,ql:=t,A:=A7,c:=c7 }) (boxI O [.int .i64 ok,.int .u64 key,.int .u64 val,.int .i64 lv]::R)) w') ⟨hB9.drew.get 3 rfl,HL1.under ((Below.refl _ _).drew),HL2.under ((Below.refl _ _).drew)⟩ ⟨U.F,hB9.drew⟩ fun hT9=>?_
   repeat ((first
    | (refine Ord.cv ?_ hT9.o ?_ ?_; rotate_left; (intro w5 hS; have r1:=hS.1.rule; have r2:=hS.2.1.2; have r3:=hS.2.2.2; unfold urv at r1; go_simp<;>rfl))
    | (refine Ord.co hT9.o ?_)
    | (refine Ord.cc ?_ ?_ ?_ hT9.o ?_ ?_ ?_; rotate_left 3; (intro w5 hS; have r1:=hS.1.rule; have r2:=hS.2.1.2; have r3:=hS.2.2.2; unfold urv at r1; go_simp; constructor<;>rfl); (intro w5 hS; (first | (with_reducible refine kp (cell13_any _ _ _) ?_ ?_; rfl; exact fun w6 hb6=>⟨⟨hS.1.under hb6,hS.2.1.under hb6,hS.2.2.under hb6⟩,fun k h=>h.elim fun F5 h=>⟨F5,h.over hb6⟩⟩)))));try simp only [Act.put,zA,zZ,zS])
   refine Ord.ch_turn (v:=.tuple #[]) 0 hT9.o rfl (by decide) (Or.inl rfl) (by rfl) ?_ ?_
   ·rintro w5 hC5 ⟨F5,hA5⟩;simp only [if_true] at hA5;go_simp;simp only [Ord.LandsIn];refine (refSet_any 5 x part word hml (hA5.ref 5 rfl)).mono ?_;rintro e w6 ⟨rfl,F6,hU,hs9⟩;have hE6:=hA5.turnU 5 rfl hU hs9;exact ⟨rfl,⟨hE6.get 3 rfl,hE6.lie 1 rfl 0 hp1,hE6.lie 0 rfl 0 hp2⟩,F6,hE6⟩
   try simp only [Act.put,zA,zZ,zS]
   repeat ((first
    | (refine Ord.cv ?_ hT9.o ?_ ?_; rotate_left; (intro w5 hS; skip; go_simp<;>rfl))
    | (refine Ord.co hT9.o ?_));try simp only [Act.put,zA,zZ,zS])
   refine Ord.InText.nil fun w5 hS=>?_;clear hT9;obtain ⟨hC9,hA9⟩:=Ord.chain_end hS;clear hS;obtain ⟨F9,hA9⟩:=hA9;simp only [List.length_cons,List.length_nil,Nat.zero_add,Nat.one_ne_zero,if_false] at hA9;clear hC9 hB9;have r3:=hA9.rule 2 rfl;unfold rav at r3;have f0:=hA9.thaw 2 rfl 0 (by simp [rav]);have hP:=(hA9.put 2 rfl (j:=0) (by simp [rav]) (.int .i64 11)).sub (L':=boxI b (rav 11 h n r)::LU { U with F:=F9,ml:=setL U.ml (5,x,part) word,hs:=x,ql:=t,A:=A7,c:=c7 } R) (.cons _ (.cons _ (.cons_cons _ (.cons_cons _ (.cons_cons _ (.cons_cons _ (.cons _ (List.Sublist.refl _))))))));have HP:Hid (lastS 0 (List.length ([(0,U.ce),(1,0),(3,key)]:List (Int × Int)))=0):=zH (if_neg (by rw [HL3.out]; decide));go_wp2_with fail;go_ret;rw [HWW.out,HP.out];exact ⟨rfl,F9,A7,c7,hP⟩
  ·have hl3:WW=[(0,U.ce),(1,0),(3,key),(5,IntKind.u64.wrap lv),(6,0)]:=by rw [<- HWW.out]; unfold wordsA; rw [if_neg (by simpa using hk2),if_pos (by simpa using hk3)]; rfl
   go_upto_region 10 with fail
   clear r1 r3;have hX:=hA9.box w9.heap.size rfl [.int .i64 5,.int .i64 6] 3;obtain ⟨A8,c8,w8,hrun,hX8⟩:=hX.appendRow (P:=prog) 2 rfl 23 23 Tryz.underlying23 (.int .i64 0) infoI1 rfl (by decide) (some ⟨w9.heap.size,0,none⟩) 2 2 [.int .i64 5,.int .i64 6] rfl (.inr ⟨_,rfl,cells_new _ _ _⟩) (by simp [Value.oneCell']) (by decide) (by decide);have HRUN:=zH hrun;have hX9:=hX8.sub (.cons _ (List.Sublist.refl _));have r2:=hX9.rule 6 rfl;clear hrun hX hX8 hA9
   go_upto_region 11 with (at_builtin; refine wpList_append_run rfl _ _ 23 rfl HRUN.out rfl rfl ?_)
   clear HRUN;have hY:=hX9.box w8.heap.size rfl [.int .u64 (IntKind.u64.wrap lv),.int .u64 0] 48;obtain ⟨A6,c6,w6,hrun,hY8⟩:=hY.appendRow (P:=prog) 1 rfl 32 32 Tryz.underlying32 (.int .u64 0) infoU1 rfl (by decide) (some ⟨w8.heap.size,0,none⟩) 2 2 [.int .u64 (IntKind.u64.wrap lv),.int .u64 0] rfl (.inr ⟨_,rfl,cells_new _ _ _⟩) (by simp [Value.oneCell']) (by decide) (by decide);have HRUN:=zH hrun;have hA9:=hY8.sub (.cons _ (List.Sublist.refl _));have r1:=hA9.rule 3 rfl;unfold urv at r1;clear hrun hY hY8
   go_upto_region 12 with (at_builtin; refine wpList_append_run rfl _ _ 32 rfl HRUN.out rfl rfl ?_)
   clear HRUN hX9 r1 r2;obtain ⟨g2,c2,he2,hB⟩:=hA9.rowLiesAt 0 rfl (by decide);cases he2;obtain ⟨g1,c1,he1,hB⟩:=hB.rowLiesAt 1 rfl (by decide);cases he1;subst hl3;have HL3:Hid (List.length ([(0,U.ce),(1,0),(3,key),(5,IntKind.u64.wrap lv),(6,0)]:List (Int × Int))=5):=zH rfl;have hkn:0 < 5:=hkl;have hp1:(partsV [(0,U.ce),(1,0),(3,key),(5,IntKind.u64.wrap lv),(6,0)])[0]?=some (.int .i64 part):=by unfold partsV; rw [List.getElem?_map,hpw]; rfl
   have hp2:(wordsV9 [(0,U.ce),(1,0),(3,key),(5,IntKind.u64.wrap lv),(6,0)])[0]?=some (.int .u64 word):=by unfold wordsV9; rw [List.getElem?_map,hpw]; rfl
   have hB9:Env w0 (lieI g2 (wordsV9 [(0,U.ce),(1,0),(3,key),(5,IntKind.u64.wrap lv),(6,0)])::lieI g1 (partsV [(0,U.ce),(1,0),(3,key),(5,IntKind.u64.wrap lv),(6,0)])::boxI b (rav 10 h n r)::LU { U with hs:=x,ql:=t,A:=A7,c:=c7 } (boxI O [.int .i64 ok,.int .u64 key,.int .u64 val,.int .i64 lv]::R)) _:=hB;clear hB hA9;have HL1:=hB9.lie 1 rfl 0 hp1;have HL2:=hB9.lie 0 rfl 0 hp2
   skip
   have r3:=hB9.rule 2 rfl;unfold rav at r3;go_wp2_with fail;refine Ord.wc [14] (fun v=>Blk 0 v U.u (urv U.ck U.cs U.cb U.ch U.cl U.ce A7 t.length c7 U.N x U.ro)/\Lie v g1 0 (.int .i64 part)/\Lie v g2 0 (.int .u64 word)) (fun k w'=>∃ F5,Env w0 (lieI g2 (wordsV9 [(0,U.ce),(1,0),(3,key),(5,IntKind.u64.wrap lv),(6,0)])::lieI g1 (partsV [(0,U.ce),(1,0),(3,key),(5,IntKind.u64.wrap lv),(6,0)])::boxI b (rav 10 h n r)::LU (if k=0 then { U with hs:=x,ql:=t,A:=A7,c:=c7 } else { U with F:=F5,ml:=setL U.ml (5,x,part) word,hs:=x,ql:=t,A:=A7,c:=c7 }) (boxI O [.int .i64 ok,.int .u64 key,.int .u64 val,.int .i64 lv]::R)) w') ⟨hB9.drew.get 3 rfl,HL1.under ((Below.refl _ _).drew),HL2.under ((Below.refl _ _).drew)⟩ ⟨U.F,hB9.drew⟩ fun hT9=>?_
   repeat ((first
    | (refine Ord.cv ?_ hT9.o ?_ ?_; rotate_left; (intro w5 hS; have r1:=hS.1.rule; have r2:=hS.2.1.2; have r3:=hS.2.2.2; unfold urv at r1; go_simp<;>rfl))
    | (refine Ord.co hT9.o ?_)
    | (refine Ord.cc ?_ ?_ ?_ hT9.o ?_ ?_ ?_; rotate_left 3; (intro w5 hS; have r1:=hS.1.rule; have r2:=hS.2.1.2; have r3:=hS.2.2.2; unfold urv at r1; go_simp; constructor<;>rfl); (intro w5 hS; (first | (with_reducible refine kp (cell13_any _ _ _) ?_ ?_; rfl; exact fun w6 hb6=>⟨⟨hS.1.under hb6,hS.2.1.under hb6,hS.2.2.under hb6⟩,fun k h=>h.elim fun F5 h=>⟨F5,h.over hb6⟩⟩)))));try simp only [Act.put,zA,zZ,zS])
   refine Ord.ch_turn (v:=.tuple #[]) 0 hT9.o rfl (by decide) (Or.inl rfl) (by rfl) ?_ ?_
   ·rintro w5 hC5 ⟨F5,hA5⟩;simp only [if_true] at hA5;go_simp;simp only [Ord.LandsIn];refine (refSet_any 5 x part word hml (hA5.ref 5 rfl)).mono ?_;rintro e w6 ⟨rfl,F6,hU,hs9⟩;have hE6:=hA5.turnU 5 rfl hU hs9;exact ⟨rfl,⟨hE6.get 3 rfl,hE6.lie 1 rfl 0 hp1,hE6.lie 0 rfl 0 hp2⟩,F6,hE6⟩
   try simp only [Act.put,zA,zZ,zS]
   repeat ((first
    | (refine Ord.cv ?_ hT9.o ?_ ?_; rotate_left; (intro w5 hS; skip; go_simp<;>rfl))
    | (refine Ord.co hT9.o ?_));try simp only [Act.put,zA,zZ,zS])
   refine Ord.InText.nil fun w5 hS=>?_;clear hT9;obtain ⟨hC9,hA9⟩:=Ord.chain_end hS;clear hS;obtain ⟨F9,hA9⟩:=hA9;simp only [List.length_cons,List.length_nil,Nat.zero_add,Nat.one_ne_zero,if_false] at hA9;clear hC9 hB9;have r3:=hA9.rule 2 rfl;unfold rav at r3;have f0:=hA9.thaw 2 rfl 0 (by simp [rav]);have hP:=(hA9.put 2 rfl (j:=0) (by simp [rav]) (.int .i64 11)).sub (L':=boxI b (rav 11 h n r)::LU { U with F:=F9,ml:=setL U.ml (5,x,part) word,hs:=x,ql:=t,A:=A7,c:=c7 } R) (.cons _ (.cons _ (.cons_cons _ (.cons_cons _ (.cons_cons _ (.cons_cons _ (.cons _ (List.Sublist.refl _))))))));have HP:Hid (lastS 0 (List.length ([(0,U.ce),(1,0),(3,key),(5,IntKind.u64.wrap lv),(6,0)]:List (Int × Int)))=0):=zH (if_neg (by rw [HL3.out]; decide));go_wp2_with fail;go_ret;rw [HWW.out,HP.out];exact ⟨rfl,F9,A7,c7,hP⟩
 ·have hk3:(U.ck==3)=false:=by simp only [beq_iff_eq] at hk2; simp [hk2]
  have hl3:WW=[(0,U.ce),(1,0),(3,key),(4,val)]:=by rw [<- HWW.out]; unfold wordsA; rw [if_pos (by simpa using hk2)]; rfl
  go_upto_region 7 with fail
  clear r1 r3;have hX:=hA9.box w9.heap.size rfl [.int .i64 4] 3;obtain ⟨A8,c8,w8,hrun,hX8⟩:=hX.appendRow (P:=prog) 2 rfl 23 23 Tryz.underlying23 (.int .i64 0) infoI1 rfl (by decide) (some ⟨w9.heap.size,0,none⟩) 1 1 [.int .i64 4] rfl (.inr ⟨_,rfl,cells_new _ _ _⟩) (by simp [Value.oneCell']) (by decide) (by decide);have HRUN:=zH hrun;have hX9:=hX8.sub (.cons _ (List.Sublist.refl _));have r2:=hX9.rule 6 rfl;clear hrun hX hX8 hA9
  go_upto_region 8 with (at_builtin; refine wpList_append_run rfl _ _ 23 rfl HRUN.out rfl rfl ?_)
  clear HRUN;have hY:=hX9.box w8.heap.size rfl [.int .u64 val] 48;obtain ⟨A6,c6,w6,hrun,hY8⟩:=hY.appendRow (P:=prog) 1 rfl 32 32 Tryz.underlying32 (.int .u64 0) infoU1 rfl (by decide) (some ⟨w8.heap.size,0,none⟩) 1 1 [.int .u64 val] rfl (.inr ⟨_,rfl,cells_new _ _ _⟩) (by simp [Value.oneCell']) (by decide) (by decide);have HRUN:=zH hrun;have hA9:=hY8.sub (.cons _ (List.Sublist.refl _));have r1:=hA9.rule 3 rfl;unfold urv at r1;clear hrun hY hY8
  go_upto_region 12 with (at_builtin; refine wpList_append_run rfl _ _ 32 rfl HRUN.out rfl rfl ?_)
  clear HRUN hX9 r1 r2;obtain ⟨g2,c2,he2,hB⟩:=hA9.rowLiesAt 0 rfl (by decide);cases he2;obtain ⟨g1,c1,he1,hB⟩:=hB.rowLiesAt 1 rfl (by decide);cases he1;subst hl3;have HL3:Hid (List.length ([(0,U.ce),(1,0),(3,key),(4,val)]:List (Int × Int))=4):=zH rfl;have hkn:0 < 4:=hkl;have hp1:(partsV [(0,U.ce),(1,0),(3,key),(4,val)])[0]?=some (.int .i64 part):=by unfold partsV; rw [List.getElem?_map,hpw]; rfl
  have hp2:(wordsV9 [(0,U.ce),(1,0),(3,key),(4,val)])[0]?=some (.int .u64 word):=by unfold wordsV9; rw [List.getElem?_map,hpw]; rfl
  have hB9:Env w0 (lieI g2 (wordsV9 [(0,U.ce),(1,0),(3,key),(4,val)])::lieI g1 (partsV [(0,U.ce),(1,0),(3,key),(4,val)])::boxI b (rav 10 h n r)::LU { U with hs:=x,ql:=t,A:=A7,c:=c7 } (boxI O [.int .i64 ok,.int .u64 key,.int .u64 val,.int .i64 lv]::R)) _:=hB;clear hB hA9;have HL1:=hB9.lie 1 rfl 0 hp1;have HL2:=hB9.lie 0 rfl 0 hp2
  skip
  have r3:=hB9.rule 2 rfl;unfold rav at r3;go_wp2_with fail;refine Ord.wc [14] (fun v=>Blk 0 v U.u (urv U.ck U.cs U.cb U.ch U.cl U.ce A7 t.length c7 U.N x U.ro)/\Lie v g1 0 (.int .i64 part)/\Lie v g2 0 (.int .u64 word)) (fun k w'=>∃ F5,Env w0 (lieI g2 (wordsV9 [(0,U.ce),(1,0),(3,key),(4,val)])::lieI g1 (partsV [(0,U.ce),(1,0),(3,key),(4,val)])::boxI b (rav 10 h n r)::LU (if k=0 then { U with hs:=x,ql:=t,A:=A7,c:=c7 } else { U with F:=F5,ml:=setL U.ml (5,x,part) word,hs:=x,ql:=t,A:=A7,c:=c7 }) (boxI O [.int .i64 ok,.int .u64 key,.int .u64 val,.int .i64 lv]::R)) w') ⟨hB9.drew.get 3 rfl,HL1.under ((Below.refl _ _).drew),HL2.under ((Below.refl _ _).drew)⟩ ⟨U.F,hB9.drew⟩ fun hT9=>?_
  repeat ((first
   | (refine Ord.cv ?_ hT9.o ?_ ?_; rotate_left; (intro w5 hS; have r1:=hS.1.rule; have r2:=hS.2.1.2; have r3:=hS.2.2.2; unfold urv at r1; go_simp<;>rfl))
   | (refine Ord.co hT9.o ?_)
   | (refine Ord.cc ?_ ?_ ?_ hT9.o ?_ ?_ ?_; rotate_left 3; (intro w5 hS; have r1:=hS.1.rule; have r2:=hS.2.1.2; have r3:=hS.2.2.2; unfold urv at r1; go_simp; constructor<;>rfl); (intro w5 hS; (first | (with_reducible refine kp (cell13_any _ _ _) ?_ ?_; rfl; exact fun w6 hb6=>⟨⟨hS.1.under hb6,hS.2.1.under hb6,hS.2.2.under hb6⟩,fun k h=>h.elim fun F5 h=>⟨F5,h.over hb6⟩⟩)))));try simp only [Act.put,zA,zZ,zS])
  refine Ord.ch_turn (v:=.tuple #[]) 0 hT9.o rfl (by decide) (Or.inl rfl) (by rfl) ?_ ?_
  ·rintro w5 hC5 ⟨F5,hA5⟩;simp only [if_true] at hA5;go_simp;simp only [Ord.LandsIn];refine (refSet_any 5 x part word hml (hA5.ref 5 rfl)).mono ?_;rintro e w6 ⟨rfl,F6,hU,hs9⟩;have hE6:=hA5.turnU 5 rfl hU hs9;exact ⟨rfl,⟨hE6.get 3 rfl,hE6.lie 1 rfl 0 hp1,hE6.lie 0 rfl 0 hp2⟩,F6,hE6⟩
  try simp only [Act.put,zA,zZ,zS]
  repeat ((first
   | (refine Ord.cv ?_ hT9.o ?_ ?_; rotate_left; (intro w5 hS; skip; go_simp<;>rfl))
   | (refine Ord.co hT9.o ?_));try simp only [Act.put,zA,zZ,zS])
  refine Ord.InText.nil fun w5 hS=>?_;clear hT9;obtain ⟨hC9,hA9⟩:=Ord.chain_end hS;clear hS;obtain ⟨F9,hA9⟩:=hA9;simp only [List.length_cons,List.length_nil,Nat.zero_add,Nat.one_ne_zero,if_false] at hA9;clear hC9 hB9;have r3:=hA9.rule 2 rfl;unfold rav at r3;have f0:=hA9.thaw 2 rfl 0 (by simp [rav]);have hP:=(hA9.put 2 rfl (j:=0) (by simp [rav]) (.int .i64 11)).sub (L':=boxI b (rav 11 h n r)::LU { U with F:=F9,ml:=setL U.ml (5,x,part) word,hs:=x,ql:=t,A:=A7,c:=c7 } R) (.cons _ (.cons _ (.cons_cons _ (.cons_cons _ (.cons_cons _ (.cons_cons _ (.cons _ (List.Sublist.refl _))))))));have HP:Hid (lastS 0 (List.length ([(0,U.ce),(1,0),(3,key),(4,val)]:List (Int × Int)))=0):=zH (if_neg (by rw [HL3.out]; decide));go_wp2_with fail;go_ret;rw [HWW.out,HP.out];exact ⟨rfl,F9,A7,c7,hP⟩
end
structure Dd where
 (kind ok key val lv:Int)
structure Cf where
 (k s b h l:Int)
structure Th where
 (e:Int)
 (ql:List Trip)
 (hs:Int)
 (nd pc apc:Nat)
 (ah an ar rs:Int)
 (rpc:Nat)
 (re:Int)
 (gpc:Nat)
 (gh gg done:Int)
 (full:Bool)
abbrev Mem:=Plc->Int
def allocM (C:Cf) (d:Dd) (T:Th) (f:Mem):Int × Th × Mem :=
 if T.apc=1 then (2,T,swf f (1,0,0) T.e (T.e+1))
 else if T.apc=2 then
  if C.s<=f (3,0,0) then (0,{ T with apc:=3 },upd f (3,0,0) (IntKind.u64.wrap (f (3,0,0)+1)))
  else (decS (T.ql++[(f (3,0,0)+1,0,0)]) T.e C.l,{ T with ql:=T.ql++[(f (3,0,0)+1,0,0)],apc:=decP (T.ql++[(f (3,0,0)+1,0,0)]) T.e C.l },upd f (3,0,0) (IntKind.u64.wrap (f (3,0,0)+1)))
 else if T.apc=3 then (poolS (f (2,0,0)) C.l,{ T with ah:=f (2,0,0),apc:=4 },f)
 else if T.apc=4 then (0,{ T with an:=f (5,slotI T.ah,2),apc:=5 },f)
 else if T.apc=5 then (0,{ T with ar:=f (5,slotI T.ah,1),apc:=6 },f)
 else if T.apc=6 then
  if f (2,0,0)=T.ah then (decS (T.ql++[(slotI T.ah,epI T.ar,0)]) T.e C.l,{ T with ql:=T.ql++[(slotI T.ah,epI T.ar,0)],apc:=decP (T.ql++[(slotI T.ah,epI T.ar,0)]) T.e C.l },swf f (2,0,0) T.ah (nextW T.ah (slotI T.an)))
  else (0,{ T with apc:=3 },swf f (2,0,0) T.ah (nextW T.ah (slotI T.an)))
 else
  let W:=wordsA C.k T.e d.key d.val (IntKind.u64.wrap d.lv)
  let pw:=W.getD (T.apc - 10) (0,0)
  if T.apc=10 then (lastS 0 W.length,{ T with ql:=T.ql.tail,hs:=(T.ql.headD t0).1,apc:=11 },upd f (5,(T.ql.headD t0).1,pw.1) pw.2)
  else (lastS (T.apc - 10) W.length,{ T with apc:=T.apc+1 },upd f (5,T.hs,pw.1) pw.2)
def retireM (T:Th) (f:Mem):Int × Th × Mem :=
 if T.rpc=0 then (0,{ T with re:=f (1,0,0),rpc:=1 },f)
 else (1,{ T with ql:=T.ql++[(T.rs,epI T.re,0)] },upd f (5,T.rs,1) T.re)
def giveM (C:Cf) (T:Th) (f:Mem):Int × Th × Mem :=
 if T.gpc=0 then (gdS T.ql,{ T with e:=epI (f (1,0,0)),gpc:=1 },f)
 else if T.gpc=1 then (poolG (f (2,0,0)) C.l,{ T with gh:=f (2,0,0),gpc:=2 },f)
 else if T.gpc=2 then (0,{ T with gpc:=3 },upd f (5,(T.ql.headD t0).1,2) (wordI false (slotI T.gh) 0))
 else if f (2,0,0)=T.gh then (gdS T.ql.tail,{ T with ql:=T.ql.tail,gg:=wrap64 (T.gg+1),gpc:=1 },swf f (2,0,0) T.gh (nextW T.gh (T.ql.headD t0).1))
 else (0,{ T with gpc:=1 },swf f (2,0,0) T.gh (nextW T.gh (T.ql.headD t0).1))
def actM (C:Cf) (d:Dd) (T:Th) (f:Mem):Th × Mem :=
 if T.pc=1 then
  let e:=epI (f (1,0,0))
  ({ T with e:=e,apc:=decP T.ql e C.l,ah:=0,an:=0,ar:=0,pc:=if decP T.ql e C.l=0 then 0 else 2,full:=false },f)
 else if T.pc=2 then
  let r:=allocM C d T f
  ({ r.2.1 with pc:=if r.1=2 then 1 else if r.1=0 then 2 else 0,done:=if r.1=1 then T.done+1 else T.done,full:=r.1==3 },r.2.2)
 else if T.pc=3 then
  let r:=retireM T f
  ({ r.2.1 with pc:=if r.1=0 then 3 else 0,full:=false },r.2.2)
 else
  let r:=giveM C T f
  ({ r.2.1 with pc:=if r.1=0 then 4 else 0,full:=false },r.2.2)
end
section
open Go.RowKit
def tuN (W:Nat):Nat:=W ^^^ W / 8589934592
theorem tuN_lt {W:Nat} (h:W < 18446744073709551616):tuN W < 18446744073709551616 :=
 Nat.xor_lt_two_pow (n:=64) h (Nat.lt_of_le_of_lt (Nat.div_le_self _ _) h)
def tiN (a x:Nat):Nat:=a * x % 18446744073709551616
theorem tiN_lt (a x:Nat):tiN a x < 18446744073709551616:=Nat.mod_lt _ (by omega)
def mixN (K:Nat):Nat:=tuN (tiN 14181476777654086739 (tuN (tiN 18397679294719823053 (tuN K))))
theorem mixN_lt (K:Nat):mixN K < 18446744073709551616:=tuN_lt (tiN_lt _ _)
def tuI (x:Int):Int:=(tuN x.toNat:Nat)
def tiI (a x:Int):Int:=(tiN a.toNat x.toNat:Nat)
def mixI (x:Int):Int:=(mixN x.toNat:Nat)
theorem mixI_in (x:Int):InU (mixI x):=by have:=mixN_lt x.toNat; unfold mixI InU; omega
theorem tuI_in {x:Int} (h:InU x):InU (tuI x):=by have:=tuN_lt (W:=x.toNat) (by unfold InU at h; omega); unfold tuI InU; omega
theorem tiI_in (a x:Int):InU (tiI a x):=by have:=tiN_lt a.toNat x.toNat; unfold tiI InU; omega
theorem mixI_eq (x:Int):mixI x=tuI (tiI 14181476777654086739 (tuI (tiI 18397679294719823053 (tuI x)))):=rfl
theorem tiI_wrap {a x:Int} (ha:InU a) (hx:InU x):IntKind.u64.wrap (x * a)=tiI a x:=by
 obtain ⟨A,rfl⟩:=Int.eq_ofNat_of_zero_le ha.1;obtain ⟨X,rfl⟩:=Int.eq_ofNat_of_zero_le hx.1;rw [IntKind.wrap_u64];unfold tiI tiN;rw [Int.toNat_natCast,Int.toNat_natCast,Int.mul_comm];rfl
def buI (n x:Int):Int:=mixI x / 4294967296 * n / 4294967296
theorem high_in (x:Int):0<=mixI x / 4294967296/\mixI x / 4294967296<=4294967295:=by have:=mixI_in x; unfold InU at this; omega
theorem buI_in {n:Int} (x:Int) (h:1<=n/\n<=64):0<=buI n x/\buI n x < n:=by
 have h1:=high_in x;unfold buI;generalize mixI x / 4294967296=H at *;have h2:=mul_in (b:=n) (B:=n) h1 (by omega);omega
theorem buI_wrap {n:Int} (x:Int) (h:1<=n/\n<=64):IntKind.u64.wrap (mixI x / 4294967296 * n)=mixI x / 4294967296 * n:=by
 have h1:=high_in x;generalize mixI x / 4294967296=H at *;have h2:=mul_in (b:=n) (B:=64) h1 (by omega);rw [IntKind.wrap_u64];omega
end
section
open Go.RowKit Go.Maps
structure Kt where
 T:Th
 pc:Nat
 on:Bool
 L:Lm
 laid:Bool
 on2:Bool
 L2:Lm
 err:Int
 dn:Bool
 r:Int
 to:Int
 vl:Int
def dropQ (hs:Int) (ql:List Trip):List Trip:=if hs=0 then ql else ql++[(hs,0,0)]
def rtM (C:Cf) (d:Dd):Int:=buI C.b d.key
def findM (C:Cf) (d:Dd) (K:Kt):Kt:={ K with pc:=1,on:=false,L:=L0 (4,0,rtM C d) }
def takeM (C:Cf) (K:Kt):Int × Kt :=
 if decP K.T.ql K.T.e C.l=0 then (1,{ K with err:=7 })
 else (0,{ K with pc:=2,T:={ K.T with pc:=2,apc:=decP K.T.ql K.T.e C.l,ah:=0,an:=0,ar:=0 } })
def foundM (C:Cf) (d:Dd) (K:Kt):Int × Kt :=
 if K.L.fd then
  if d.ok=4 then (if K.T.hs=0 then takeM C K else (0,{ K with pc:=9 }))
  else if d.ok=6 then (0,{ K with pc:=4,to:=slotI K.L.X })
  else if d.ok=5 then (1,{ K with T:={ K.T with ql:=dropQ K.T.hs K.T.ql,hs:=0 },vl:=K.L.V })
  else (1,{ K with dn:=true,vl:=K.L.V })
 else if d.ok=4\/d.ok=5 then (if K.T.hs=0 then takeM C K else (0,{ K with pc:=3,laid:=false }))
 else (1,K)
def markM (to e:Int):Int:=wordI true to e
def opM (C:Cf) (d:Dd) (K:Kt) (f:Mem):Int × Kt × Mem :=
 if K.pc=1 then
  let q:=searchM (rtM C d) d.key true ⟨K.on,K.L,K.T.e,K.r⟩ f
  let K':={ K with on:=q.2.1.on,L:=q.2.1.L,r:=q.2.1.r,T:={ K.T with e:=q.2.1.e } }
  if q.1=1 then ((foundM C d K').1,(foundM C d K').2,q.2.2) else (0,K',q.2.2)
 else if K.pc=2 then
  let q:=allocM C d K.T f
  if q.1=0 then (0,{ K with T:=q.2.1 },q.2.2)
  else if q.1=3 then (1,{ K with T:={ q.2.1 with pc:=0 },err:=6 },q.2.2)
  else if q.1=4 then (1,{ K with T:={ q.2.1 with pc:=0 },err:=7 },q.2.2)
  else (0,findM C d { K with T:={ q.2.1 with pc:=0 } },q.2.2)
 else if K.pc=3 then
  if K.laid then
   if f K.L.p=K.L.W then (1,{ K with T:={ K.T with hs:=0 },dn:=decide (d.ok=5) },swf f K.L.p K.L.W (wordI false K.T.hs K.T.e))
   else (0,findM C d K,swf f K.L.p K.L.W (wordI false K.T.hs K.T.e))
  else (0,{ K with laid:=true },upd f (5,K.T.hs,7) (wordI false (slotI K.L.W) K.T.e))
 else if K.pc=9 then (0,{ K with pc:=4,to:=K.T.hs },upd f (5,K.T.hs,7) (wordI false (slotI K.L.X) K.T.e))
 else if K.pc=4 then
  if f (5,K.L.C,7)=K.L.X then (0,{ K with pc:=5,T:={ K.T with hs:=0 } },swf f (5,K.L.C,7) K.L.X (markM K.to K.T.e))
  else (0,findM C d K,swf f (5,K.L.C,7) K.L.X (markM K.to K.T.e))
 else if K.pc=5 then
  if f K.L.p=K.L.W then (0,{ K with pc:=7,T:={ K.T with pc:=3,rs:=K.L.C,rpc:=0,re:=0 } },swf f K.L.p K.L.W (wordI false K.to K.T.e))
  else (0,{ K with pc:=6,on2:=false,L2:=L0 (4,0,rtM C d) },swf f K.L.p K.L.W (wordI false K.to K.T.e))
 else if K.pc=6 then
  let q:=searchM (rtM C d) d.key false ⟨K.on2,K.L2,K.T.e,K.r⟩ f
  let K':={ K with on2:=q.2.1.on,L2:=q.2.1.L,r:=q.2.1.r,T:={ K.T with e:=q.2.1.e } }
  if q.1=1 then (0,{ K' with pc:=7,T:={ K'.T with pc:=3,rs:=K.L.C,rpc:=0,re:=0 } },q.2.2) else (0,K',q.2.2)
 else
  let q:=retireM K.T f
  if q.1=0 then (0,{ K with T:=q.2.1 },q.2.2) else (1,{ K with T:={ q.2.1 with pc:=0 },dn:=true,vl:=K.L.V },q.2.2)
def actK (C:Cf) (d:Dd) (K:Kt) (f:Mem):Int × Kt × Mem :=
 if K.pc=8 then
  let q:=giveM C K.T f
  if q.1=0 then (0,{ K with T:=q.2.1 },q.2.2) else (q.1,{ K with T:={ q.2.1 with pc:=0 },pc:=0 },q.2.2)
 else
  let q:=opM C d K f
  (q.1,{ q.2.1 with pc:=if q.1=0 then q.2.1.pc else 0 },q.2.2)
def beginK (C:Cf) (d:Dd) (K:Kt):Kt :=
 if d.ok=8 then { K with pc:=8,T:={ K.T with pc:=4,nd:=K.T.nd+1,gpc:=0,gh:=0,gg:=0 } }
 else { findM C d K with T:={ K.T with nd:=K.T.nd+1 },err:=0,dn:=false,vl:=0 }
def stepK (C:Cf) (ds:List Dd) (K:Kt) (f:Mem):Int × Kt × Mem :=
 if K.pc=0 then
  if K.T.nd < ds.length then actK C (ds.getD K.T.nd ⟨0,0,0,0,0⟩) (beginK C (ds.getD K.T.nd ⟨0,0,0,0,0⟩) K) f
  else (0,K,f)
 else actK C (ds.getD (K.T.nd - 1) ⟨0,0,0,0,0⟩) K f
section
variable {w:World} {a c:Nat} {lv key:Int} {vs:Bool} {nx:Value} {st x y z W C X wd:Int} {pf:Bool} {pv:Int}
theorem val_g (hb:Blk 0 w a (laneC c lv key vs nx st x y z W C X wd pf pv)):Calls prog 209 #[.pointer (some ⟨a,0,none⟩)] w fun o w'=>o=.returned (.int .u64 pv)/\w'=w:=by
 have r1:=hb.rule;unfold laneC at r1;go_enter func209,ntmps209
 go_wp2
 go_ret;exact ⟨rfl,rfl⟩
end
end
end Go.Proofs.YtdknbegcflldjaaGreatDoor
