/- What is proved on the way to the statement, part 10: contracts of the functions, among other things in memory. -/
import Derived.Test.YtdknbegcflldjaaGreatDoorM9
import Derived.LoopIn
import Derived.Shelf.SlSortCmp.Insertion
import Derived.Sort.Statements

open _root_.Go.Proofs.Tryz
set_option maxRecDepth 100000
set_option maxHeartbeats 25600000
namespace Go.Proofs.YtdknbegcflldjaaGreatDoor
section
open Go.RowKit Go.Maps
section
variable {w0 w:World} {R:List Item} {b:Nat} {U:SU} {h n r ok key val lv:Int}
theorem ral10 (x y:Int) (t:List Trip) (hql:U.ql=(x,y,0)::t) (hl:t.length<=1000000) (part word:Int) (hpw:(wordsA U.ck U.ce key val (IntKind.u64.wrap lv))[0]?=some (part,word)) (he:0<=U.ce/\U.ce<=9223372036854775807) (hml:U.ml.length<=1000000) (hh:InU h) (hE:Env w0 (boxI b (rav 10 h n r)::LU U R) w) :
  Calls prog 108 #[.pointer (some ⟨b,0,none⟩),.pointer (some ⟨U.u,0,none⟩),.pointer (some ⟨U.m,0,none⟩),.agg #[.int .i64 ok,.int .u64 key,.int .u64 val,.int .i64 lv]] w fun o w'=>o=.returned (.int .i64 (lastS 0 (wordsA U.ck U.ce key val (IntKind.u64.wrap lv)).length))/\∃ F5 A' c',Env w0 (boxI b (rav 11 h n r)::LU { U with F:=F5,ml:=setL U.ml (5,x,part) word,hs:=x,ql:=t,A:=A',c:=c' } R) w':=by
 have hE1:=(hE.box w.heap.size rfl [.int .i64 ok,.int .u64 key,.int .u64 val,.int .i64 lv] 50).perm (L':=boxI b (rav 10 h n r)::LU U (boxI w.heap.size [.int .i64 ok,.int .u64 key,.int .u64 val,.int .i64 lv]::R)) (List.perm_middle (l₁:=[boxI b (rav 10 h n r),_,_,_])).symm;have rb:=hE1.rule 0 rfl;unfold rav at rb;have HSL:=zH (fun (v:World)=>slot13_any h hh v);have HWR:Hid (∀ v,Env w0 (boxI b (rav 10 h n r)::LU U (boxI w.heap.size [.int .i64 ok,.int .u64 key,.int .u64 val,.int .i64 lv]::R)) v->Calls prog 153 #[.pointer (some ⟨b,0,none⟩),.pointer (some ⟨U.u,0,none⟩),.pointer (some ⟨U.m,0,none⟩),.agg #[.int .i64 ok,.int .u64 key,.int .u64 val,.int .i64 lv]] v fun o w'=>o=.returned (.int .i64 (lastS 0 (wordsA U.ck U.ce key val (IntKind.u64.wrap lv)).length))/\∃ F5 A' c',Env w0 (boxI b (rav 11 h n r)::LU { U with F:=F5,ml:=setL U.ml (5,x,part) word,hs:=x,ql:=t,A:=A',c:=c' } (boxI w.heap.size [.int .i64 ok,.int .u64 key,.int .u64 val,.int .i64 lv]::R)) w'):=zH fun v hv=>rwrite0 x y t hql hl part word hpw he hml hv;clear hE hpw he;go_enter func108,ntmps108;go_wp2_with fail;generalize w.alloc _=w1 at *;generalize w.heap.size=O at *;refine (HSL.out _).mono ?_;rintro o w2 ⟨rfl,hb⟩;replace hE1:=hE1.over hb;clear hb rb;have rb:=hE1.rule 0 rfl;unfold rav at rb;have rO:=hE1.rule 4 rfl;go_wp2_with fail;refine (HWR.out _ hE1).mono ?_;rintro o w3 ⟨rfl,F5,A5,c5,hE5⟩;go_wp2_with fail;go_ret;exact ⟨rfl,F5,A5,c5,hE5.sub (.cons_cons _ (.cons_cons _ (.cons_cons _ (.cons_cons _ (.cons _ (List.Sublist.refl _))))))⟩
theorem ralS (kk:Nat) (hk0:0 < kk) (part word:Int) (hpw:(wordsA U.ck U.ce key val (IntKind.u64.wrap lv))[kk]?=some (part,word)) (he:0<=U.ce/\U.ce<=9223372036854775807) (hml:U.ml.length<=1000000) (hh:InU h) (hE:Env w0 (boxI b (rav (10+(kk:Int)) h n r)::LU U R) w) :
  Calls prog 108 #[.pointer (some ⟨b,0,none⟩),.pointer (some ⟨U.u,0,none⟩),.pointer (some ⟨U.m,0,none⟩),.agg #[.int .i64 ok,.int .u64 key,.int .u64 val,.int .i64 lv]] w fun o w'=>o=.returned (.int .i64 (lastS kk (wordsA U.ck U.ce key val (IntKind.u64.wrap lv)).length))/\∃ F5,Env w0 (boxI b (rav (10+(kk:Int)+1) h n r)::LU { U with F:=F5,ml:=setL U.ml (5,U.hs,part) word } R) w':=by
 have hE1:=(hE.box w.heap.size rfl [.int .i64 ok,.int .u64 key,.int .u64 val,.int .i64 lv] 50).perm (L':=boxI b (rav (10+(kk:Int)) h n r)::LU U (boxI w.heap.size [.int .i64 ok,.int .u64 key,.int .u64 val,.int .i64 lv]::R)) (List.perm_middle (l₁:=[boxI b (rav (10+(kk:Int)) h n r),_,_,_])).symm;have rb:=hE1.rule 0 rfl;unfold rav at rb;have HSL:=zH (fun (v:World)=>slot13_any h hh v);have HWR:Hid (∀ v,Env w0 (boxI b (rav (10+(kk:Int)) h n r)::LU U (boxI w.heap.size [.int .i64 ok,.int .u64 key,.int .u64 val,.int .i64 lv]::R)) v->Calls prog 153 #[.pointer (some ⟨b,0,none⟩),.pointer (some ⟨U.u,0,none⟩),.pointer (some ⟨U.m,0,none⟩),.agg #[.int .i64 ok,.int .u64 key,.int .u64 val,.int .i64 lv]] v fun o w'=>o=.returned (.int .i64 (lastS kk (wordsA U.ck U.ce key val (IntKind.u64.wrap lv)).length))/\∃ F5,Env w0 (boxI b (rav (10+(kk:Int)+1) h n r)::LU { U with F:=F5,ml:=setL U.ml (5,U.hs,part) word } (boxI w.heap.size [.int .i64 ok,.int .u64 key,.int .u64 val,.int .i64 lv]::R)) w'):=zH fun v hv=>rwriteS kk hk0 part word hpw he hml hv;have hk:∀ j:Int,0<=j->j < 7->((10+(kk:Int))==j)=false:=fun j h0 h1=>by simp; omega
 have k1:=hk 1 (by decide) (by decide);have k2:=hk 2 (by decide) (by decide);have k3:=hk 3 (by decide) (by decide);have k4:=hk 4 (by decide) (by decide);have k5:=hk 5 (by decide) (by decide);have k6:=hk 6 (by decide) (by decide);clear hk;clear hE hpw he;go_enter func108,ntmps108;go_wp2_with fail;generalize w.alloc _=w1 at *;generalize w.heap.size=O at *;refine (HSL.out _).mono ?_;rintro o w2 ⟨rfl,hb⟩;replace hE1:=hE1.over hb;clear hb rb;have rb:=hE1.rule 0 rfl;unfold rav at rb;have rO:=hE1.rule 4 rfl;go_wp2_with fail;refine (HWR.out _ hE1).mono ?_;rintro o w3 ⟨rfl,F5,hE5⟩;go_wp2_with fail;go_ret;exact ⟨rfl,F5,hE5.sub (.cons_cons _ (.cons_cons _ (.cons_cons _ (.cons_cons _ (.cons _ (List.Sublist.refl _))))))⟩
def rrv (s pc e:Int):List Value:=[.int .i64 s,.int .i64 pc,.int .u64 e]
variable {s e:Int}
theorem rret0 (x:Int) (hfx:getL U.ml (1,0,0)=x) (hml:U.ml.length<=1000000) (hE:Env w0 (boxI b (rrv s 0 e)::LU U R) w) :
  Calls prog 138 #[.pointer (some ⟨b,0,none⟩),.pointer (some ⟨U.u,0,none⟩),.pointer (some ⟨U.m,0,none⟩)] w fun o w'=>o=.returned (.int .i64 0)/\Env w0 (boxI b (rrv s 1 x)::LU U R) w':=by
 have rb:=hE.rule 0 rfl;unfold rrv at rb;have HX:=zH hfx;clear hfx;go_enter func138,ntmps138;go_wp2_with fail;refine (epoch13_any _).mono ?_;rintro o w1 ⟨rfl,hb⟩;replace hE:=hE.over hb;clear hb rb;go_wp2_with fail;refine (refGet_any 1 0 0 hml (hE.ref 3 rfl)).mono ?_;rintro o w2 ⟨rfl,hb⟩;rw [HX.out];replace hE:=hE.over hb;clear hb;have rb:=hE.rule 0 rfl;unfold rrv at rb;have f1:=hE.thaw 0 rfl 1 (by simp [rrv]);have f2:=hE.thaw 0 rfl 2 (by simp [rrv]);have hP:=(hE.put 0 rfl (j:=2) (by simp [rrv]) (.int .u64 x)).put 0 rfl (j:=1) (by simp [rrv]) (.int .i64 1);go_wp2_with fail;go_ret;exact ⟨rfl,hP⟩
theorem rret1 (he:InU e) (hml:U.ml.length<=1000000) (hl:U.ql.length<=1000000) (hN:0<=U.N/\U.N<=1099511627776) (hE:Env w0 (boxI b (rrv s 1 e)::LU U R) w) :
  Calls prog 138 #[.pointer (some ⟨b,0,none⟩),.pointer (some ⟨U.u,0,none⟩),.pointer (some ⟨U.m,0,none⟩)] w fun o w'=>o=.returned (.int .i64 1)/\∃ F5 A' c',Env w0 (LU { U with F:=F5,ml:=setL U.ml (5,s,1) (epI e),A:=A',c:=c',N:=roomN (room0 U.N) (U.ql.length+1),ql:=U.ql++[(s,epI e,0)] } R) w':=by
 have rb:=hE.rule 0 rfl;unfold rrv at rb;have heu:=he;unfold InU at heu
 by_cases hlt:e < 9223372036854775808
 ·have HEP:Hid (epI e=e):=zH (by unfold epI; rw [if_pos (by omega)]);have hltb:decide (e < 9223372036854775808)=true:=by simpa using hlt
  have hw1:wrap64 e=e:=w64 _ (by omega);have hw2:IntKind.u64.wrap e=e:=wrapU _ (by omega) (by omega);clear hlt heu he;go_enter func138,ntmps138;go_wp2_with fail;refine (cell13_any _ _ _).mono ?_;rintro o w1 ⟨rfl,hb⟩;replace hE:=hE.over hb;clear hb rb;go_wp2_with fail;refine (refSet_any 5 s 1 e hml (hE.ref 3 rfl)).mono ?_;rintro o w2 ⟨rfl,F5,hU,hs9⟩;have hE2:Env w0 (boxI b (rrv s 1 e)::LU { U with F:=F5,ml:=setL U.ml (5,s,1) e } R) w2:=hE.turnU 3 rfl hU hs9;clear hU hs9 hE;go_wp2_with fail;refine Ord.wc [9] (fun v=>Blk 0 v b (rrv s 1 e)) (fun k w'=>if k=0 then Env w0 (boxI b (rrv s 1 e)::LU { U with F:=F5,ml:=setL U.ml (5,s,1) e } R) w' else ∃ A' c',Env w0 (boxI b (rrv s 1 e)::LU { U with F:=F5,ml:=setL U.ml (5,s,1) e,A:=A',c:=c',N:=roomN (room0 U.N) (U.ql.length+1),ql:=U.ql++[(s,e,0)] } R) w') (hE2.drew.get 0 rfl) (by rw [if_pos rfl]; exact hE2.drew) fun hT9=>?_
  repeat ((first
   | (refine Ord.cv ?_ hT9.o ?_ ?_; rotate_left; (intro w5 hS; have r:=hS.rule; unfold rrv at r; go_simp<;>rfl))
   | (refine Ord.co hT9.o ?_));try simp only [Act.put,zA,zZ,zS])
  refine Ord.ch_turn (v:=.tuple #[]) 0 hT9.o rfl (by decide) (Or.inl rfl) (by rfl) ?_ ?_
  ·rintro w5 hC5 hA5;simp only [if_true] at hA5;go_simp;simp only [Ord.LandsIn];refine (refPush_at s e 0 6 1 hA5 rfl rfl rfl rfl hl hN).mono ?_;rintro o w7 ⟨rfl,A7,c7,hE7⟩;have hE8:Env w0 (boxI b (rrv s 1 e)::LU { U with F:=F5,ml:=setL U.ml (5,s,1) e,A:=A7,c:=c7,N:=roomN (room0 U.N) (U.ql.length+1),ql:=U.ql++[(s,e,0)] } R) w7:=by
    have hq:(U.ql++[(s,e,(0:Int))]).length=U.ql.length+1:=by simp
    unfold LU;rw [hq];exact hE7
   exact ⟨rfl,hE8.get 0 rfl,A7,c7,hE8⟩
  try simp only [Act.put,zA,zZ,zS]
  repeat ((first
   | (refine Ord.cv ?_ hT9.o ?_ ?_; rotate_left; (intro w5 hS; skip; go_simp<;>rfl))
   | (refine Ord.co hT9.o ?_));try simp only [Act.put,zA,zZ,zS])
  refine Ord.InText.nil fun w5 hS=>?_;clear hT9;obtain ⟨hC9,hA9⟩:=Ord.chain_end hS;clear hS;rw [if_neg (by decide)] at hA9;obtain ⟨A7,c7,hE8⟩:=hA9;clear hC9 hE2;go_wp2_with fail;go_ret;rw [HEP.out];exact ⟨rfl,F5,A7,c7,hE8.sub (.cons _ (List.Sublist.refl _))⟩
 ·have HEP:Hid (epI e=0):=zH (by unfold epI; rw [if_neg (by omega)]);have hltb:decide (e < 9223372036854775808)=false:=by simpa using hlt
  clear hlt heu he;go_enter func138,ntmps138;go_wp2_with fail;refine (cell13_any _ _ _).mono ?_;rintro o w1 ⟨rfl,hb⟩;replace hE:=hE.over hb;clear hb rb;go_wp2_with fail;refine (refSet_any 5 s 1 0 hml (hE.ref 3 rfl)).mono ?_;rintro o w2 ⟨rfl,F5,hU,hs9⟩;have hE2:Env w0 (boxI b (rrv s 1 e)::LU { U with F:=F5,ml:=setL U.ml (5,s,1) 0 } R) w2:=hE.turnU 3 rfl hU hs9;clear hU hs9 hE;go_wp2_with fail;refine Ord.wc [9] (fun v=>Blk 0 v b (rrv s 1 e)) (fun k w'=>if k=0 then Env w0 (boxI b (rrv s 1 e)::LU { U with F:=F5,ml:=setL U.ml (5,s,1) 0 } R) w' else ∃ A' c',Env w0 (boxI b (rrv s 1 e)::LU { U with F:=F5,ml:=setL U.ml (5,s,1) 0,A:=A',c:=c',N:=roomN (room0 U.N) (U.ql.length+1),ql:=U.ql++[(s,0,0)] } R) w') (hE2.drew.get 0 rfl) (by rw [if_pos rfl]; exact hE2.drew) fun hT9=>?_
  repeat ((first
   | (refine Ord.cv ?_ hT9.o ?_ ?_; rotate_left; (intro w5 hS; have r:=hS.rule; unfold rrv at r; go_simp<;>rfl))
   | (refine Ord.co hT9.o ?_));try simp only [Act.put,zA,zZ,zS])
  refine Ord.ch_turn (v:=.tuple #[]) 0 hT9.o rfl (by decide) (Or.inl rfl) (by rfl) ?_ ?_
  ·rintro w5 hC5 hA5;simp only [if_true] at hA5;go_simp;simp only [Ord.LandsIn];refine (refPush_at s 0 0 6 1 hA5 rfl rfl rfl rfl hl hN).mono ?_;rintro o w7 ⟨rfl,A7,c7,hE7⟩;have hE8:Env w0 (boxI b (rrv s 1 e)::LU { U with F:=F5,ml:=setL U.ml (5,s,1) 0,A:=A7,c:=c7,N:=roomN (room0 U.N) (U.ql.length+1),ql:=U.ql++[(s,0,0)] } R) w7:=by
    have hq:(U.ql++[(s,0,(0:Int))]).length=U.ql.length+1:=by simp
    unfold LU;rw [hq];exact hE7
   exact ⟨rfl,hE8.get 0 rfl,A7,c7,hE8⟩
  try simp only [Act.put,zA,zZ,zS]
  repeat ((first
   | (refine Ord.cv ?_ hT9.o ?_ ?_; rotate_left; (intro w5 hS; skip; go_simp<;>rfl))
   | (refine Ord.co hT9.o ?_));try simp only [Act.put,zA,zZ,zS])
  refine Ord.InText.nil fun w5 hS=>?_;clear hT9;obtain ⟨hC9,hA9⟩:=Ord.chain_end hS;clear hS;rw [if_neg (by decide)] at hA9;obtain ⟨A7,c7,hE8⟩:=hA9;clear hC9 hE2;go_wp2_with fail;go_ret;rw [HEP.out];exact ⟨rfl,F5,A7,c7,hE8.sub (.cons _ (List.Sublist.refl _))⟩
def rgv (pc h g:Int):List Value:=[.int .i64 pc,.int .u64 h,.int .i64 g]
variable {pc g:Int}
theorem rnext_g (hE:Env w0 (boxI b (rgv pc h g)::LU U R) w) :
  Calls prog 95 #[.pointer (some ⟨b,0,none⟩),.pointer (some ⟨U.u,0,none⟩)] w fun o w'=>o=.returned (.int .i64 (gdS U.ql))/\Env w0 (boxI b (rgv 1 h g)::LU U R) w':=by
 have rb:=hE.rule 0 rfl;unfold rgv at rb;have f0:=hE.thaw 0 rfl 0 (by simp [rgv]);have hP:Env w0 (boxI b (rgv 1 h g)::LU U R) _:=hE.put 0 rfl (j:=0) (by simp [rgv]) (.int .i64 1);have ru:=hP.rule 1 rfl;unfold urv at ru
 rcases hq:U.ql with _ | ⟨x,t⟩
 ·simp only [hq,List.length_nil] at ru;clear hq;go_enter func95,ntmps95;go_wp2_with fail;go_ret;exact ⟨rfl,hP⟩
 ·have hl:(((x::t).length:Int)==0)=false:=by simp; omega
  simp only [hq] at ru;generalize (x::t).length=N at *;clear hq;go_enter func95,ntmps95;go_wp2_with fail;go_ret;exact ⟨rfl,hP⟩
theorem rgive0 (x:Int) (hfx:getL U.ml (1,0,0)=x) (hxu:InU x) (hml:U.ml.length<=1000000) (hE:Env w0 (boxI b (rgv 0 h g)::LU U R) w) :
  Calls prog 59 #[.pointer (some ⟨b,0,none⟩),.pointer (some ⟨U.u,0,none⟩),.pointer (some ⟨U.m,0,none⟩)] w fun o w'=>o=.returned (.int .i64 (gdS U.ql))/\Env w0 (boxI b (rgv 1 h g)::LU { U with ce:=epI x } R) w':=by
 have rb:=hE.rule 0 rfl;unfold rgv at rb;go_enter func59,ntmps59;go_wp2_with fail;refine (rcheck_w x hfx hxu hml 1 3 hE rfl rfl).mono ?_;rintro o w1 ⟨rfl,hE1⟩;go_wp2_with fail;refine (rnext_g (U:={ U with ce:=epI x }) hE1).mono ?_;rintro o w2 ⟨rfl,hE2⟩;go_wp2_with fail;go_ret;exact ⟨rfl,hE2⟩
theorem rgive1 (x:Int) (hfx:getL U.ml (2,0,0)=x) (hxu:InU x) (hml:U.ml.length<=1000000) (hE:Env w0 (boxI b (rgv 1 h g)::LU U R) w) :
  Calls prog 59 #[.pointer (some ⟨b,0,none⟩),.pointer (some ⟨U.u,0,none⟩),.pointer (some ⟨U.m,0,none⟩)] w fun o w'=>o=.returned (.int .i64 (poolG x U.cl))/\∃ pc',(poolG x U.cl=0->pc'=2)/\Env w0 (boxI b (rgv pc' x g)::LU U R) w':=by
 have rb:=hE.rule 0 rfl;unfold rgv at rb;have HX:=zH hfx;have hvx:=fun (v:World)=>ver14_any x hxu v;obtain ⟨y,hy⟩:∃ y,verI x=y:=⟨_,rfl⟩;simp only [hy] at hvx;have HVX:=zH hvx;have HY:=zH hy;clear hvx hfx hxu hy
 by_cases hv:U.cl<=y
 all_goals
  have HV:=zH hv
  first
   | (have hvb:decide (U.cl<=y)=true:=by simpa using hv)
   | (have hvb:decide (U.cl<=y)=false:=by simpa using hv)
  clear hv;go_enter func59,ntmps59;go_wp2_with fail;refine (pool14_any _).mono ?_;rintro o w1 ⟨rfl,hb⟩;replace hE:=hE.over hb;clear hb rb;go_wp2_with fail;refine (refGet_any 2 0 0 hml (hE.ref 3 rfl)).mono ?_;rintro o w2 ⟨rfl,hb⟩;rw [HX.out];replace hE:=hE.over hb;clear hb;have f1:=hE.thaw 0 rfl 1 (by simp [rgv]);have rb:=hE.rule 0 rfl;unfold rgv at rb;have hE2:Env w0 (boxI b (rgv 1 x g)::LU U R) (w2.setCell ⟨b,1,none⟩ (.int .u64 x)):=hE.put 0 rfl (j:=1) (by simp [rgv]) (.int .u64 x);go_wp2_with fail;clear rb f1 hE;generalize w2.setCell _ _=w9 at *;refine wp_text (S:=(Env w0 (boxI b (rgv 1 x g)::LU U R))) (by kernel_rfl) (by kernel_rfl) hE2.drew (fun hT=>?_);have hT9:=zH hT;clear hT
  repeat ((first
   | (refine text_value (v:=?_) hT9.o (by rfl) ?_ ?_; rotate_left; (intro w5 hS; have rb:=hS.rule 0 rfl; unfold rgv at rb; have ru:=hS.rule 1 rfl; unfold urv at ru; go_simp<;>rfl))
   | (refine text_off hT9.o (by rfl) ?_)
   | (refine text_call (v:=?_) (f:=?_) (args:=?_) hT9.o (by rfl) ?_ ?_ ?_; rotate_left 3; (intro w5 hS; have rb:=hS.rule 0 rfl; unfold rgv at rb; have ru:=hS.rule 1 rfl; unfold urv at ru; go_simp; constructor<;>rfl); (intro w5 hS; (first | (with_reducible refine kp (HVX.out _) ?_ ?_; rfl; exact fun w6 hb6=>hS.over hb6)))));try simp only [Act.put,zA,zZ,zS])
  refine InText.nil fun w5 hS5=>?_;clear hT9;clear hE2;have rb:=hS5.rule 0 rfl;unfold rgv at rb;have f0:=hS5.thaw 0 rfl 0 (by simp [rgv]);have hP:=hS5.put 0 rfl (j:=0) (by simp [rgv]) (.int .i64 2);go_wp2_with fail;go_ret
  first
   | (have hp:poolG x U.cl=4:=by unfold poolG; rw [HY.out,if_pos HV.out]
      rw [hp];exact ⟨rfl,1,fun h=>absurd h (by decide),hS5⟩)
   | (have hp:poolG x U.cl=0:=by unfold poolG; rw [HY.out,if_neg (by have:=HV.out; omega)]
      rw [hp];exact ⟨rfl,2,fun _=>rfl,hP⟩)
theorem rgive2 (x y:Int) (t:List Trip) (hql:U.ql=(x,y,0)::t) (hh:InU h) (hml:U.ml.length<=1000000) (hE:Env w0 (boxI b (rgv 2 h g)::LU U R) w) :
  Calls prog 59 #[.pointer (some ⟨b,0,none⟩),.pointer (some ⟨U.u,0,none⟩),.pointer (some ⟨U.m,0,none⟩)] w fun o w'=>o=.returned (.int .i64 0)/\∃ F5,Env w0 (boxI b (rgv 3 h g)::LU { U with F:=F5,ml:=setL U.ml (5,x,2) (wordI false (slotI h) 0) } R) w':=by
 have hr:(boxI b (rgv 2 h g)::LU U R)[2]?=some (rrI U.A U.c ((x,y,0)::t)):=by rw [<- hql]; rfl
 obtain ⟨gg,off,hA,hc⟩:=first_row 2 hr hE;have hlt:decide ((0:Int) < ((((x,y,(0:Int))::t).length:Nat):Int))=true:=by simp
 have hln:0 < ((x,y,(0:Int))::t).length:=by simp
 have hne:(((x,y,(0:Int))::t).length=0)=False:=by simp
 have huv:urv U.ck U.cs U.cb U.ch U.cl U.ce U.A U.ql.length U.c U.N U.hs U.ro=[.int .i64 U.ck,.int .i64 U.cs,.int .i64 U.cb,.int .i64 U.ch,.int .i64 U.cl,.int .i64 U.ce,.slice (some ⟨gg,off,none⟩) ((x,y,(0:Int))::t).length U.c,.int .i64 U.N,.int .i64 U.hs,.int .i64 U.ro]:=by
  unfold urv;rw [hA,hql]
 have hfl:∀ v L,Env w0 L v->L[2]?=some (rrI U.A U.c ((x,y,0)::t))->Lie v gg off (.int .i64 x):=fun v L hv hr=>by
  rcases hv.cells3 2 rfl hr with h0 | ⟨b',off',he,hlt,hc⟩
  ·cases h0
  ·rw [hA] at he;cases he;have:=at3 (hc 0 (by simp));exact ⟨hlt,by simpa using this.1⟩
 have HFL:=zH hfl;have HR:=zH hr;have hsn:=fun (v:World)=>slot13_any h hh v;have hwd:=fun (v:World)=>refWord_any false (slotI h) 0 v;obtain ⟨y9,hy⟩:∃ y,wordI false (slotI h) 0=y:=⟨_,rfl⟩;rw [hy];simp only [hy] at hwd;obtain ⟨sl,hsl⟩:∃ s,slotI h=s:=⟨_,rfl⟩;simp only [hsl] at hsn hwd;have HSN:=zH hsn;have HWD:=zH hwd;clear hsn hwd hy hsl hh;generalize ((x,y,(0:Int))::t).length=NN at *;have HUV:=zH huv;have HQ:=zH hql;clear hql hr hc hfl hA huv;have rb:=hE.rule 0 rfl;unfold rgv at rb;go_enter func59,ntmps59;go_wp2_with fail;refine Ord.wc [17] (fun v=>Blk 0 v U.u (urv U.ck U.cs U.cb U.ch U.cl U.ce U.A U.ql.length U.c U.N U.hs U.ro)/\Blk 0 v b (rgv 2 h g)/\Lie v gg off (.int .i64 x)) (fun k w'=>∃ F5,Env w0 (boxI b (rgv 2 h g)::LU (if k=0 then U else { U with F:=F5,ml:=setL U.ml (5,x,2) y9 }) R) w') ⟨hE.drew.get 1 rfl,hE.drew.get 0 rfl,HFL.out _ _ hE.drew HR.out⟩ ⟨U.F,hE.drew⟩ fun hT9=>?_
 repeat ((first
  | (refine Ord.cv ?_ hT9.o ?_ ?_; rotate_left; (intro w5 hS; have ru:=hS.1.rule; simp only [HUV.out] at ru; have rb:=hS.2.1.rule; unfold rgv at rb; have rc:=hS.2.2.2; go_simp<;>rfl))
  | (refine Ord.co hT9.o ?_)
  | (refine Ord.cc ?_ ?_ ?_ hT9.o ?_ ?_ ?_; rotate_left 3; (intro w5 hS; have ru:=hS.1.rule; simp only [HUV.out] at ru; have rb:=hS.2.1.rule; unfold rgv at rb; have rc:=hS.2.2.2; go_simp; constructor<;>rfl); (intro w5 hS; (first | (with_reducible refine kp (cell13_any _ _ _) ?_ ?_; rfl; exact fun w6 hb6=>⟨⟨hS.1.under hb6,hS.2.1.under hb6,hS.2.2.under hb6⟩,fun k h=>h.elim fun F5 h=>⟨F5,h.over hb6⟩⟩) | (with_reducible refine kp (HSN.out _) ?_ ?_; rfl; exact fun w6 hb6=>⟨⟨hS.1.under hb6,hS.2.1.under hb6,hS.2.2.under hb6⟩,fun k h=>h.elim fun F5 h=>⟨F5,h.over hb6⟩⟩) | (with_reducible refine kp (HWD.out _) ?_ ?_; rfl; exact fun w6 hb6=>⟨⟨hS.1.under hb6,hS.2.1.under hb6,hS.2.2.under hb6⟩,fun k h=>h.elim fun F5 h=>⟨F5,h.over hb6⟩⟩)))));try simp only [Act.put,zA,zZ,zS])
 refine Ord.ch_turn (v:=.tuple #[]) 0 hT9.o rfl (by decide) (Or.inl rfl) (by rfl) ?_ ?_
 ·rintro w5 hC5 ⟨F5,hA5⟩;simp only [if_true] at hA5;go_simp;simp only [Ord.LandsIn];refine (refSet_any 5 x 2 y9 hml (hA5.ref 3 rfl)).mono ?_;rintro e w6 ⟨rfl,F6,hU,hs9⟩;have hE6:=hA5.turnU 3 rfl hU hs9;exact ⟨rfl,⟨hE6.get 1 rfl,hE6.get 0 rfl,HFL.out _ _ hE6 (by rw [<- HQ.out]; rfl)⟩,F6,hE6⟩
 try simp only [Act.put,zA,zZ,zS]
 repeat ((first
  | (refine Ord.cv ?_ hT9.o ?_ ?_; rotate_left; (intro w5 hS; skip; go_simp<;>rfl))
  | (refine Ord.co hT9.o ?_));try simp only [Act.put,zA,zZ,zS])
 refine Ord.InText.nil fun w5 hS=>?_;clear hT9;obtain ⟨hC9,hA9⟩:=Ord.chain_end hS;clear hS;obtain ⟨F9,hA9⟩:=hA9;simp only [List.length_cons,List.length_nil,Nat.zero_add,Nat.one_ne_zero,if_false] at hA9;clear hC9 hE rb;have rb:=hA9.rule 0 rfl;unfold rgv at rb;have f0:=hA9.thaw 0 rfl 0 (by simp [rgv]);have hP:=hA9.put 0 rfl (j:=0) (by simp [rgv]) (.int .i64 3);go_wp2_with fail;go_ret;exact ⟨rfl,F9,hP⟩
theorem rgive3No (x y:Int) (t:List Trip) (hql:U.ql=(x,y,0)::t) (hfx:getL U.ml (2,0,0)≠h) (hh:InU h) (hml:U.ml.length<=1000000) (hE:Env w0 (boxI b (rgv 3 h g)::LU U R) w) :
  Calls prog 59 #[.pointer (some ⟨b,0,none⟩),.pointer (some ⟨U.u,0,none⟩),.pointer (some ⟨U.m,0,none⟩)] w fun o w'=>o=.returned (.int .i64 0)/\∃ F5,Env w0 (boxI b (rgv 1 h g)::LU { U with F:=F5,ml:=swL U.ml (2,0,0) h (wordI false x (verI h+1)) } R) w':=by
 have hr:(boxI b (rgv 3 h g)::LU U R)[2]?=some (rrI U.A U.c ((x,y,0)::t)):=by rw [<- hql]; rfl
 obtain ⟨gg,off,hA,hc⟩:=first_row 2 hr hE;have hlt:decide ((0:Int) < ((((x,y,(0:Int))::t).length:Nat):Int))=true:=by simp
 have hln:0 < ((x,y,(0:Int))::t).length:=by simp
 have hne:(((x,y,(0:Int))::t).length=0)=False:=by simp
 have huv:urv U.ck U.cs U.cb U.ch U.cl U.ce U.A U.ql.length U.c U.N U.hs U.ro=[.int .i64 U.ck,.int .i64 U.cs,.int .i64 U.cb,.int .i64 U.ch,.int .i64 U.cl,.int .i64 U.ce,.slice (some ⟨gg,off,none⟩) ((x,y,(0:Int))::t).length U.c,.int .i64 U.N,.int .i64 U.hs,.int .i64 U.ro]:=by
  unfold urv;rw [hA,hql]
 have hfl:∀ v L,Env w0 L v->L[2]?=some (rrI U.A U.c ((x,y,0)::t))->Lie v gg off (.int .i64 x):=fun v L hv hr=>by
  rcases hv.cells3 2 rfl hr with h0 | ⟨b',off',he,hlt,hc⟩
  ·cases h0
  ·rw [hA] at he;cases he;have:=at3 (hc 0 (by simp));exact ⟨hlt,by simpa using this.1⟩
 have HFL:=zH hfl;have HR:=zH hr;have HD:Hid (decide (getL U.ml (2,0,0)=h)=false):=zH (by simpa using hfx);have hbh:=fun (v:World)=>behind14_any h x hh v;obtain ⟨y9,hy⟩:∃ y,wordI false x (verI h+1)=y:=⟨_,rfl⟩;rw [hy];simp only [hy] at hbh;have HBH:=zH hbh;clear hbh hy hh hfx;generalize ((x,y,(0:Int))::t).length=NN at *;have HUV:=zH huv;have HQ:=zH hql;clear hql hr hc hfl hA huv;have rb:=hE.rule 0 rfl;unfold rgv at rb;go_enter func59,ntmps59;go_wp2_with fail;refine Ord.wc [19] (fun v=>Blk 0 v U.u (urv U.ck U.cs U.cb U.ch U.cl U.ce U.A U.ql.length U.c U.N U.hs U.ro)/\Blk 0 v b (rgv 3 h g)/\Lie v gg off (.int .i64 x)) (fun k w'=>∃ F5,Env w0 (boxI b (rgv 3 h g)::LU (if k=0 then U else { U with F:=F5,ml:=swL U.ml (2,0,0) h y9 }) R) w') ⟨hE.drew.get 1 rfl,hE.drew.get 0 rfl,HFL.out _ _ hE.drew HR.out⟩ ⟨U.F,hE.drew⟩ fun hT9=>?_
 repeat ((first
  | (refine Ord.cv ?_ hT9.o ?_ ?_; rotate_left; (intro w5 hS; have ru:=hS.1.rule; simp only [HUV.out] at ru; have rb:=hS.2.1.rule; unfold rgv at rb; have rc:=hS.2.2.2; go_simp<;>rfl))
  | (refine Ord.co hT9.o ?_)
  | (refine Ord.cc ?_ ?_ ?_ hT9.o ?_ ?_ ?_; rotate_left 3; (intro w5 hS; have ru:=hS.1.rule; simp only [HUV.out] at ru; have rb:=hS.2.1.rule; unfold rgv at rb; have rc:=hS.2.2.2; go_simp; constructor<;>rfl); (intro w5 hS; (first | (with_reducible refine kp (pool14_any _) ?_ ?_; rfl; exact fun w6 hb6=>⟨⟨hS.1.under hb6,hS.2.1.under hb6,hS.2.2.under hb6⟩,fun k h=>h.elim fun F5 h=>⟨F5,h.over hb6⟩⟩) | (with_reducible refine kp (HBH.out _) ?_ ?_; rfl; exact fun w6 hb6=>⟨⟨hS.1.under hb6,hS.2.1.under hb6,hS.2.2.under hb6⟩,fun k h=>h.elim fun F5 h=>⟨F5,h.over hb6⟩⟩)))));try simp only [Act.put,zA,zZ,zS])
 refine Ord.ch_turn (v:=.bool false) 0 hT9.o rfl (by decide) (Or.inl rfl) (by rfl) ?_ ?_
 ·rintro w5 hC5 ⟨F5,hA5⟩;simp only [if_true] at hA5;go_simp;simp only [Ord.LandsIn];have hsw:=refSwap_any 2 0 0 h y9 hml (hA5.ref 3 rfl);rw [HD.out] at hsw;refine hsw.mono ?_;rintro e w6 ⟨rfl,F6,hU,hs9⟩;have hE6:=hA5.turnU 3 rfl hU hs9;exact ⟨rfl,⟨hE6.get 1 rfl,hE6.get 0 rfl,HFL.out _ _ hE6 (by rw [<- HQ.out]; rfl)⟩,F6,hE6⟩
 try simp only [Act.put,zA,zZ,zS]
 repeat ((first
  | (refine Ord.cv ?_ hT9.o ?_ ?_; rotate_left; (intro w5 hS; skip; go_simp<;>rfl))
  | (refine Ord.co hT9.o ?_));try simp only [Act.put,zA,zZ,zS])
 refine Ord.InText.nil fun w5 hS=>?_;clear hT9;obtain ⟨hC9,hA9⟩:=Ord.chain_end hS;clear hS;obtain ⟨F9,hA9⟩:=hA9;simp only [List.length_cons,List.length_nil,Nat.zero_add,Nat.one_ne_zero,if_false] at hA9;clear hC9 hE rb;have rb:=hA9.rule 0 rfl;unfold rgv at rb;have f0:=hA9.thaw 0 rfl 0 (by simp [rgv]);have hP:=hA9.put 0 rfl (j:=0) (by simp [rgv]) (.int .i64 1);go_wp2_with fail;go_ret;exact ⟨rfl,F9,hP⟩
theorem rgive3Yes (x y:Int) (t:List Trip) (hql:U.ql=(x,y,0)::t) (hfx:getL U.ml (2,0,0)=h) (hl:t.length<=1000000) (hh:InU h) (hml:U.ml.length<=1000000) (hE:Env w0 (boxI b (rgv 3 h g)::LU U R) w) :
  Calls prog 59 #[.pointer (some ⟨b,0,none⟩),.pointer (some ⟨U.u,0,none⟩),.pointer (some ⟨U.m,0,none⟩)] w fun o w'=>o=.returned (.int .i64 (gdS t))/\∃ F5 A' c',Env w0 (boxI b (rgv 1 h (wrap64 (g+1)))::LU { U with F:=F5,ml:=swL U.ml (2,0,0) h (wordI false x (verI h+1)),ql:=t,A:=A',c:=c' } R) w':=by
 have hr:(boxI b (rgv 3 h g)::LU U R)[2]?=some (rrI U.A U.c ((x,y,0)::t)):=by rw [<- hql]; rfl
 obtain ⟨gg,off,hA,hc⟩:=first_row 2 hr hE;have hlt:decide ((0:Int) < ((((x,y,(0:Int))::t).length:Nat):Int))=true:=by simp
 have hln:0 < ((x,y,(0:Int))::t).length:=by simp
 have hne:(((x,y,(0:Int))::t).length=0)=False:=by simp
 have huv:urv U.ck U.cs U.cb U.ch U.cl U.ce U.A U.ql.length U.c U.N U.hs U.ro=[.int .i64 U.ck,.int .i64 U.cs,.int .i64 U.cb,.int .i64 U.ch,.int .i64 U.cl,.int .i64 U.ce,.slice (some ⟨gg,off,none⟩) ((x,y,(0:Int))::t).length U.c,.int .i64 U.N,.int .i64 U.hs,.int .i64 U.ro]:=by
  unfold urv;rw [hA,hql]
 have hfl:∀ v L,Env w0 L v->L[2]?=some (rrI U.A U.c ((x,y,0)::t))->Lie v gg off (.int .i64 x):=fun v L hv hr=>by
  rcases hv.cells3 2 rfl hr with h0 | ⟨b',off',he,hlt,hc⟩
  ·cases h0
  ·rw [hA] at he;cases he;have:=at3 (hc 0 (by simp));exact ⟨hlt,by simpa using this.1⟩
 have HFL:=zH hfl;have HR:=zH hr;have HD:Hid (decide (getL U.ml (2,0,0)=h)=true):=zH (by rw [hfx]; simp);have hbh:=fun (v:World)=>behind14_any h x hh v;obtain ⟨y9,hy⟩:∃ y,wordI false x (verI h+1)=y:=⟨_,rfl⟩;rw [hy];simp only [hy] at hbh;have HBH:=zH hbh;clear hbh hy hh hfx;generalize ((x,y,(0:Int))::t).length=NN at *;have HUV:=zH huv;have HQ:=zH hql;clear hql hr hc hfl hA huv;have rb:=hE.rule 0 rfl;unfold rgv at rb;go_enter func59,ntmps59;go_wp2_with fail;refine Ord.wc [19] (fun v=>Blk 0 v U.u (urv U.ck U.cs U.cb U.ch U.cl U.ce U.A U.ql.length U.c U.N U.hs U.ro)/\Blk 0 v b (rgv 3 h g)/\Lie v gg off (.int .i64 x)) (fun k w'=>∃ F5,Env w0 (boxI b (rgv 3 h g)::LU (if k=0 then U else { U with F:=F5,ml:=swL U.ml (2,0,0) h y9 }) R) w') ⟨hE.drew.get 1 rfl,hE.drew.get 0 rfl,HFL.out _ _ hE.drew HR.out⟩ ⟨U.F,hE.drew⟩ fun hT9=>?_
 repeat ((first
  | (refine Ord.cv ?_ hT9.o ?_ ?_; rotate_left; (intro w5 hS; have ru:=hS.1.rule; simp only [HUV.out] at ru; have rb:=hS.2.1.rule; unfold rgv at rb; have rc:=hS.2.2.2; go_simp<;>rfl))
  | (refine Ord.co hT9.o ?_)
  | (refine Ord.cc ?_ ?_ ?_ hT9.o ?_ ?_ ?_; rotate_left 3; (intro w5 hS; have ru:=hS.1.rule; simp only [HUV.out] at ru; have rb:=hS.2.1.rule; unfold rgv at rb; have rc:=hS.2.2.2; go_simp; constructor<;>rfl); (intro w5 hS; (first | (with_reducible refine kp (pool14_any _) ?_ ?_; rfl; exact fun w6 hb6=>⟨⟨hS.1.under hb6,hS.2.1.under hb6,hS.2.2.under hb6⟩,fun k h=>h.elim fun F5 h=>⟨F5,h.over hb6⟩⟩) | (with_reducible refine kp (HBH.out _) ?_ ?_; rfl; exact fun w6 hb6=>⟨⟨hS.1.under hb6,hS.2.1.under hb6,hS.2.2.under hb6⟩,fun k h=>h.elim fun F5 h=>⟨F5,h.over hb6⟩⟩)))));try simp only [Act.put,zA,zZ,zS])
 refine Ord.ch_turn (v:=.bool true) 0 hT9.o rfl (by decide) (Or.inl rfl) (by rfl) ?_ ?_
 ·rintro w5 hC5 ⟨F5,hA5⟩;simp only [if_true] at hA5;go_simp;simp only [Ord.LandsIn];have hsw:=refSwap_any 2 0 0 h y9 hml (hA5.ref 3 rfl);rw [HD.out] at hsw;refine hsw.mono ?_;rintro e w6 ⟨rfl,F6,hU,hs9⟩;have hE6:=hA5.turnU 3 rfl hU hs9;exact ⟨rfl,⟨hE6.get 1 rfl,hE6.get 0 rfl,HFL.out _ _ hE6 (by rw [<- HQ.out]; rfl)⟩,F6,hE6⟩
 try simp only [Act.put,zA,zZ,zS]
 repeat ((first
  | (refine Ord.cv ?_ hT9.o ?_ ?_; rotate_left; (intro w5 hS; skip; go_simp<;>rfl))
  | (refine Ord.co hT9.o ?_));try simp only [Act.put,zA,zZ,zS])
 refine Ord.InText.nil fun w5 hS=>?_;clear hT9;obtain ⟨hC9,hA9⟩:=Ord.chain_end hS;clear hS;obtain ⟨F9,hA9⟩:=hA9;simp only [List.length_cons,List.length_nil,Nat.zero_add,Nat.one_ne_zero,if_false] at hA9;clear hC9 hE rb;have rb:=hA9.rule 0 rfl;unfold rgv at rb;go_wp2_with fail;refine (refPop_at x y 0 6 1 hA9 rfl (by dsimp only; rw [HQ.out]; rfl) (show _=some (rrI U.A U.c ((x,y,0)::t)) by rw [<- HQ.out]; rfl) hl).mono ?_;rintro o w7 ⟨rfl,A7,c7,hE7⟩;have hE8:Env w0 (boxI b (rgv 3 h g)::LU { U with F:=F9,ml:=swL U.ml (2,0,0) h y9,ql:=t,A:=A7,c:=c7 } R) w7:=hE7;clear hE7 rb hA9;have rb:=hE8.rule 0 rfl;unfold rgv at rb;have f2:=hE8.thaw 0 rfl 2 (by simp [rgv]);have hP:=hE8.put 0 rfl (j:=2) (by simp [rgv]) (.int .i64 (wrap64 (g+1)));go_wp2_with fail;refine (rnext_g (U:={ U with F:=F9,ml:=swL U.ml (2,0,0) h y9,ql:=t,A:=A7,c:=c7 }) (pc:=3) (h:=h) (g:=wrap64 (g+1)) hP).mono ?_;rintro o w8 ⟨rfl,hE9⟩;go_wp2_with fail;go_ret;exact ⟨rfl,F9,A7,c7,hE9⟩
end
structure Tm where
 (thr c q u:Nat)
 (F:Nat->Prop)
 (kq:Nat)
 (A:Option Addr)
 (rc:Nat)
 (N cr ro:Int)
 (dA:Option Addr)
 (dn dc:Nat)
 (pa pb pr pq pg ph:Value)
structure Wm where
 (p cc m:Nat)
 (G FU:Nat->Prop)
 (qc:Cnt)
 (n:Nat)
 (ml:List OneR)
instance:Inhabited Dd:=⟨⟨0,0,0,0,0⟩⟩
theorem roomN_in {N:Int} {n:Nat} (h:0<=N/\N<=4000000) (hn:n<=1000000):0<=roomN (room0 N) n/\roomN (room0 N) n<=4000000:=by
 unfold roomN room0
 split<;>split<;>omega
def KR (w0:World) (R:List Item) (v:World):Prop:=Below w0.heap.size w0 v/\∀ a∈R,a.says v/\∀ k,a.F k->k < v.heap.size
theorem Env.kr {w0 w:World} {L R:List Item} (h:Env w0 L w) (hR:∀ a∈R,a∈L):KR w0 R w:=⟨h.below,fun a ha=>⟨(h.2.2 a (hR a ha)).1,fun k hk=>((h.2.2 a (hR a ha)).2 k hk).2⟩⟩
theorem KR.more {w0 w:World} {R:List Item} (h:KR w0 R w) (o:Obj):KR w0 R (w.alloc o):=⟨h.1.alloc h.1.size _,fun a ha=>by
 obtain ⟨h1,h2⟩:=h.2 a ha;have hb:Below w.heap.size w (w.alloc o):=(Below.refl _ _).alloc (Nat.le_refl _) o;exact ⟨a.loc w _ h1 (fun k hk=>hb.block k (h2 k hk)) hb.size,fun k hk=>Nat.lt_of_lt_of_le (h2 k hk) hb.size⟩⟩
theorem KR.sub {w0 w:World} {L R:List Item} (h:KR w0 R w) (hR:∀ a∈L,a∈R):KR w0 L w:=⟨h.1,fun a ha=>h.2 a (hR a ha)⟩
end
section
open Go.RowKit
theorem born_w (v:Value) (m:Int) (w:World):Calls prog 358 #[v,.int .i64 m] w fun e w'=>e=.returned (.int .i64 0)/\w'=w:=by
 go_enter func358,ntmps358
 go_wp2
 go_ret;exact ⟨rfl,rfl⟩
end
section
open Go.RowKit Go.Maps
section
variable {w0 w:World} {R:List Item} {a:Nat} {S:ST} {M:MA}
theorem store_a (g o N C:Nat) (part word:Int) (hC:N+1<=C) (hpt:In64 part) (hwd:InU word) (hms:In64 M.s) (hm:S.m < maxLen) (hleft:M.left=.slice (some ⟨g,o,none⟩) (N+1) C) {xs:List Value} (h0:xs[o]?=some (.int .i64 part)) (h1:xs[o+1]?=some (.int .u64 word)) (hE:Env w0 (boxI a (av S.c M)::LT S (lieI g xs::R)) w) :
  Calls prog 315 #[.pointer (some ⟨a,0,none⟩),.iface 26 (.pointer (some ⟨S.p,0,none⟩))] w fun u w'=>u=.returned (.int .i64 (if N=0 then 1 else 0))/\∃ nx left G',(N≠0->nx=M.nx/\left=.slice (some ⟨g,o+2,none⟩) N (C - 1))/\Env w0 (boxI a (av S.c { M with nx:=nx,left:=left })::LT { S with G:=G',f:=upd S.f (5,M.s,part) word,qc:={ S.qc with s:=wrap64 (S.qc.s+1) },m:=S.m+1 } (lieI g xs::R)) w':=by
 have hmf:=makeF;have hah:=ahead_store;have HWF:Hid (Wf (5,M.s,part)):=zH (by unfold Wf; exact ⟨by unfold In64; omega,hms,hpt⟩);have HWD:=zH hwd;have r:=hE.rule 0 rfl;unfold av at r;simp only [hleft] at r;have c0:=hE.lies 5 rfl o _ h0;have c1:=hE.lies 5 rfl (o+1) _ h1;have hlt:(0:Int) < ((N+1:Nat):Int):=by omega
 clear hpt hwd hms;go_enter func315,ntmps315;go_wp2_with fail;have hE1:=(hE.box w.heap.size rfl [.int .i64 part,.int .u64 word] 356).perm (L':=boxI a (av S.c M)::LT S (boxI w.heap.size [.int .i64 part,.int .u64 word]::lieI g xs::R)) (List.perm_middle (l₁:=[boxI a (av S.c M),_,_,_,_])).symm;clear r c0 c1 hE;generalize w.alloc _=w1 at *;generalize w.heap.size=Y at *;refine Ord.wc [14] (fun v=>Blk 0 v a (av S.c M)/\Blk 0 v Y [.int .i64 part,.int .u64 word]) (fun k w'=>∃ G5,Env w0 (boxI a (av S.c M)::LT (if k=0 then S else { S with G:=G5,f:=upd S.f (5,M.s,part) word,qc:={ S.qc with s:=wrap64 (S.qc.s+1) },m:=S.m+1 }) (boxI Y [.int .i64 part,.int .u64 word]::lieI g xs::R)) w') ⟨hE1.drew.get 0 rfl,hE1.drew.get 5 rfl⟩ ⟨S.G,hE1.drew⟩ fun hT9=>?_
 repeat ((first
  | (refine Ord.cv ?_ hT9.o ?_ ?_; rotate_left; (intro w5 hS; have r:=hS.1.rule; have r1:=hS.2.rule; unfold av at r; go_simp<;>rfl))
  | (refine Ord.co hT9.o ?_)
  | (refine Ord.cc ?_ ?_ ?_ hT9.o ?_ ?_ ?_; rotate_left 3; (intro w5 hS; have r:=hS.1.rule; have r1:=hS.2.rule; unfold av at r; go_simp; constructor<;>rfl); (intro w5 hS; (first | (with_reducible refine kp (part_any _ _ _ _) ?_ ?_; rfl; exact fun w6 hb6=>⟨⟨hS.1.under hb6,hS.2.under hb6⟩,fun k h=>h.elim fun G5 h=>⟨G5,h.over hb6⟩⟩)))));try simp only [Act.put,zA,zZ,zS])
 refine Ord.ch_turn (v:=.tuple #[]) 0 hT9.o rfl (by decide) (Or.inl rfl) (by rfl) ?_ ?_
 ·rintro w5 hC5 ⟨G5,hA5⟩;simp only [if_true] at hA5;go_simp;rw [method_store];simp only [Result.andThen_ok];go_simp;simp only [Ord.LandsIn];refine (store_w 5 M.s part 0 word 0 false HWF.out HWD.out hm 3 4 (by decide) hA5 rfl rfl).mono ?_;rintro e w6 ⟨rfl,G6,hE6⟩;exact ⟨rfl,⟨hE6.get 0 rfl,hE6.get 5 rfl⟩,G6,hE6⟩
 try simp only [Act.put,zA,zZ,zS]
 repeat ((first
  | (refine Ord.cv ?_ hT9.o ?_ ?_; rotate_left; (intro w5 hS; skip; go_simp<;>rfl))
  | (refine Ord.co hT9.o ?_));try simp only [Act.put,zA,zZ,zS])
 refine Ord.InText.nil fun w5 hS=>?_;clear hT9;obtain ⟨hC9,hA9⟩:=Ord.chain_end hS;clear hS;obtain ⟨G9,hA9⟩:=hA9;simp only [List.length_cons,List.length_nil,Nat.zero_add,Nat.one_ne_zero,if_false] at hA9;replace hA9:=hA9.sub (L':=boxI a (av S.c M)::LT { S with G:=G9,f:=upd S.f (5,M.s,part) word,qc:={ S.qc with s:=wrap64 (S.qc.s+1) },m:=S.m+1 } (lieI g xs::R)) (.cons_cons _ (.cons_cons _ (.cons_cons _ (.cons_cons _ (.cons_cons _ (.cons _ (List.Sublist.refl _)))))));clear hC9 hE1;have r:=hA9.rule 0 rfl;unfold av at r;simp only [hleft] at r;have f:=hA9.thaw 0 rfl 18 (by simp [av]);have hP:=fun v=>hA9.put 0 rfl (j:=18) (by simp [av]) v;obtain _ | C:=C
 ·omega
 obtain _ | N:=N
 ·obtain _ | C:=C
  ·go_wp2_with fail;refine (end_m 0 1 (by simp [av]) (hP _) rfl).mono ?_;rintro o w7 ⟨rfl,nx,hE7⟩;go_wp2_with fail;go_ret
   first | exact ⟨rfl,nx,_,G9,fun h=>absurd rfl h,hE7⟩ | exact ⟨rfl,nx,_,G9,hE7⟩ | exact ⟨rfl,nx.1,nx.2,_,G9,hE7⟩ | exact ⟨rfl,nx.1,nx.2,_,G9,fun h=>absurd rfl h,hE7⟩
  ·go_wp2_with fail;refine (end_m 0 1 (by simp [av]) (hP _) rfl).mono ?_;rintro o w7 ⟨rfl,nx,hE7⟩;go_wp2_with fail;go_ret
   first | exact ⟨rfl,nx,_,G9,fun h=>absurd rfl h,hE7⟩ | exact ⟨rfl,nx,_,G9,hE7⟩ | exact ⟨rfl,nx.1,nx.2,_,G9,hE7⟩ | exact ⟨rfl,nx.1,nx.2,_,G9,fun h=>absurd rfl h,hE7⟩
 ·obtain _ | C:=C
  ·omega
  ·go_wp2_with fail;go_ret
   first | exact ⟨rfl,M.nx,_,⟨rfl,rfl⟩,G9,hP _⟩ | exact ⟨rfl,M.nx.1,M.nx.2,_,⟨rfl,rfl⟩,G9,hP _⟩
theorem method_born (k p:Nat) (w:World):(method (k+1) 26 (.pointer (some ⟨p,0,none⟩)) "Born").run prog w=.ok (358,.pointer (some ⟨p,0,none⟩)) w:=by kernel_rfl
theorem birth_a (x y:Int) (t:List Trip) (hql:S.ql=(x,y,0)::t) (hx:1<=x/\x<=S.cs) (hcs:S.cs<=9223372036854775806) (hhs:S.hs=0) (he:0<=S.ce/\S.ce<=9223372036854775807) (hm:S.m < maxLen) (hz:Hid (M.nx.2=.int .i64 0)) (hE:Env w0 (boxI a (av S.c M)::LT S R) w) :
  Calls prog 297 #[.pointer (some ⟨a,0,none⟩),.iface 26 (.pointer (some ⟨S.p,0,none⟩))] w fun u w'=>u=.returned (.int .i64 0)/\∃ g c G',(wordsA S.ck S.ce M.key M.val (IntKind.u64.wrap M.lv)).length<=c/\Env w0 (boxI a (av S.c { M with nx:=nxA a 11,s:=x,left:=.slice (some ⟨g,2,none⟩) ((wordsA S.ck S.ce M.key M.val (IntKind.u64.wrap M.lv)).length - 1) (c - 1) })::LT { S with ql:=t,hs:=x,G:=G',f:=upd S.f (5,x,0) S.ce,qc:={ S.qc with s:=wrap64 (S.qc.s+1) },m:=S.m+1 } (lieI g (flat2 (wordsA S.ck S.ce M.key M.val (IntKind.u64.wrap M.lv)))::R)) w':=by
 have hmf:=makeF;have hmb:=method_born;have r:=hE.rule 0 rfl;unfold av at r;have hQ:=hE.queue 2 rfl;rw [hql] at hQ;go_enter func297,ntmps297;go_wp2_with fail;refine (queue_c (hE.get 1 rfl)).mono ?_;rintro o w1 ⟨rfl,rfl⟩;go_wp2_with fail;refine (head_any x y 0 hQ).mono ?_;rintro o w2 ⟨rfl,hb⟩;have hE1:=((hE.over hb).box w2.heap.size rfl [.int .i64 x,.int .i64 y,.int .i64 0] 158).perm (L':=boxI a (av S.c M)::LT S (boxI w2.heap.size [.int .i64 x,.int .i64 y,.int .i64 0]::R)) (List.perm_middle (l₁:=[boxI a (av S.c M),_,_,_,_])).symm;clear r hb hQ hE;simp only [tv];go_wp2_with fail;generalize w2.alloc _=w3 at *;generalize w2.heap.size=Y at *;refine Ord.wc [10] (fun v=>Blk 0 v Y [.int .i64 x,.int .i64 y,.int .i64 0]) (fun k w'=>Env w0 (boxI a (av S.c (if k=0 then M else { M with s:=x }))::LT S (boxI Y [.int .i64 x,.int .i64 y,.int .i64 0]::R)) w') (hE1.drew.get 5 rfl) hE1.drew fun hT9=>?_
 repeat ((first
  | (refine Ord.cv ?_ hT9.o ?_ ?_; rotate_left; (intro w5 hS; have r:=hS.rule; go_simp<;>rfl))
  | (refine Ord.co hT9.o ?_)
  | (refine Ord.cc ?_ ?_ ?_ hT9.o ?_ ?_ ?_; rotate_left 3; (intro w5 hS; have r:=hS.rule; go_simp; constructor<;>rfl); (intro w5 hS; (first | (with_reducible refine (born_w _ _ _).mono ?_; rintro e w6 ⟨rfl,rfl⟩; constructor; rfl; exact ⟨hS,fun k h=>h⟩)))));try simp only [Act.put,zA,zZ,zS])
 refine Ord.ch_turn (v:=undef) 0 hT9.o rfl (by decide) (Or.inl rfl) (by rfl) ?_ ?_
 ·rintro w5 hC5 hA5;simp only [if_true] at hA5;have r:=hA5.rule 0 rfl;unfold av at r;have f6:=hA5.thaw 0 rfl 16 (by simp [av]);have f7:=hA5.thaw 0 rfl 17 (by simp [av]);go_simp;have h9:=(hA5.put 0 rfl (j:=16) (by simp [av]) (.int .i64 x)).put 0 rfl (j:=17) (by simp [av]) (.int .i64 0);replace h9:Env w0 (boxI a (av S.c { M with s:=x })::LT S (boxI Y [.int .i64 x,.int .i64 y,.int .i64 0]::R)) _:=h9;exact ⟨rfl,h9.get 5 rfl,h9⟩
 try simp only [Act.put,zA,zZ,zS]
 repeat ((first
  | (refine Ord.cv ?_ hT9.o ?_ ?_; rotate_left; (intro w5 hS; skip; go_simp<;>rfl))
  | (refine Ord.co hT9.o ?_));try simp only [Act.put,zA,zZ,zS])
 refine Ord.InText.nil fun w5 hS=>?_;clear hT9;obtain ⟨hC9,hA9⟩:=Ord.chain_end hS;clear hS;simp only [List.length_cons,List.length_nil,Nat.zero_add,Nat.one_ne_zero,if_false] at hA9;clear hC9 hE1;replace hA9:=hA9.sub (L':=boxI a (av S.c { M with s:=x })::LT S R) (.cons_cons _ (.cons_cons _ (.cons_cons _ (.cons_cons _ (.cons_cons _ (.cons _ (List.Sublist.refl _)))))));have hQ:=hA9.queue 2 rfl;rw [hql] at hQ;go_wp2_with fail;refine (pop_any x y 0 hQ).mono ?_;rintro o w6 ⟨rfl,hQ6,hs6⟩;have hE6:Env w0 (boxI a (av S.c { M with s:=x })::LT { S with ql:=t } R) w6:=hA9.turnQ 2 rfl hQ6 hs6;clear hQ hQ6 hs6 hA9;go_wp2_with fail;refine Ord.wc [9] (fun v=>Blk 0 v a (av S.c { M with s:=x })) (fun k w'=>Env w0 (boxI a (av S.c { M with s:=x })::LT (if k=0 then { S with ql:=t } else { S with ql:=t,hs:=x }) R) w') (hE6.drew.get 0 rfl) hE6.drew fun hT9=>?_
 repeat ((first
  | (refine Ord.cv ?_ hT9.o ?_ ?_; rotate_left; (intro w5 hS; have r:=hS.rule; unfold av at r; go_simp<;>rfl))
  | (refine Ord.co hT9.o ?_)
  | (refine Ord.cc ?_ ?_ ?_ hT9.o ?_ ?_ ?_; rotate_left 3; (intro w5 hS; have r:=hS.rule; unfold av at r; go_simp; constructor<;>rfl); (intro w5 hS; (first | fail))));try simp only [Act.put,zA,zZ,zS])
 refine Ord.ch_turn (v:=.int .i64 0) 0 hT9.o rfl (by decide) (Or.inl rfl) (by rfl) ?_ ?_
 ·rintro w5 hC5 hA5;simp only [if_true] at hA5;go_simp;simp only [Ord.LandsIn];refine (holdYes_c x 0 hhs hx 1 hA5 rfl).mono ?_;rintro e w6 ⟨rfl,hE7⟩;exact ⟨rfl,hE7.get 0 rfl,hE7⟩
 try simp only [Act.put,zA,zZ,zS]
 repeat ((first
  | (refine Ord.cv ?_ hT9.o ?_ ?_; rotate_left; (intro w5 hS; skip; go_simp<;>rfl))
  | (refine Ord.co hT9.o ?_));try simp only [Act.put,zA,zZ,zS])
 refine Ord.InText.nil fun w5 hS=>?_;clear hT9;obtain ⟨hC9,hA9⟩:=Ord.chain_end hS;clear hS;simp only [List.length_cons,List.length_nil,Nat.zero_add,Nat.one_ne_zero,if_false] at hA9;clear hC9 hE6;have r:=hA9.rule 0 rfl;unfold av at r;go_wp2_with fail;refine (words_a (S:={ S with ql:=t,hs:=x }) (M:={ M with s:=x }) he hA9).mono ?_;rintro o w7 ⟨g,c,rfl,hgc,hE7⟩;replace hE7:=hE7.perm (L':=boxI a (av S.c { M with s:=x })::LT { S with ql:=t,hs:=x } (lieI g (flat2 (wordsA S.ck S.ce M.key M.val (IntKind.u64.wrap M.lv)))::R)) (List.perm_middle (l₁:=[boxI a (av S.c { M with s:=x }),_,_,_,_])).symm;clear r hA9;have hle:3<=(wordsA S.ck S.ce M.key M.val (IntKind.u64.wrap M.lv)).length:=by unfold wordsA; simp
 have h0:(flat2 (wordsA S.ck S.ce M.key M.val (IntKind.u64.wrap M.lv)))[0]?=some (.int .i64 0):=by simp [wordsA,flat2]
 have h1:(flat2 (wordsA S.ck S.ce M.key M.val (IntKind.u64.wrap M.lv)))[0+1]?=some (.int .u64 S.ce):=by simp [wordsA,flat2]
 generalize hWW:wordsA S.ck S.ce M.key M.val (IntKind.u64.wrap M.lv)=W at *;have HWW:=zH hWW;clear hWW;obtain ⟨N,hN⟩:∃ N,W.length=N+1:=⟨W.length - 1,by omega⟩;have HN:=zH hN;rw [hN] at hgc hle ⊢;simp only [hN];have hN0:N≠0:=by omega
 clear hN hle;have r:=hE7.rule 0 rfl;unfold av at r;have f6:=hE7.thaw 0 rfl 18 (by simp [av]);have h7:=hE7.put 0 rfl (j:=18) (by simp [av]) (.slice (some ⟨g,0,none⟩) (N+1) c);have hgo:=goOn_m (fn:=.func 315) (fs:=#[.pointer (some ⟨a,0,none⟩)]) (cs:=#[]) 0 (by simp [av]) (by exact congrArg some hz.out) h7 rfl;have HGO:=zH hgo;clear hgo h7;go_wp2_with fail;refine HGO.out.mono ?_;rintro o w9 ⟨rfl,h8⟩;replace h8:Env w0 (boxI a (av S.c { M with nx:=nxA a 11,s:=x,left:=.slice (some ⟨g,0,none⟩) (N+1) c })::LT { S with ql:=t,hs:=x } (lieI g (flat2 W)::R)) _:=h8;clear HGO f6 r hE7;have hst:=store_a (S:={ S with ql:=t,hs:=x }) (M:={ M with nx:=nxA a 11,s:=x,left:=.slice (some ⟨g,0,none⟩) (N+1) c }) g 0 N c 0 S.ce hgc (by unfold In64; omega) (by unfold InU; omega) (by unfold In64; dsimp only; omega) hm rfl h0 h1 h8;have HST:=zH hst;clear hst h8 he hx hcs;go_wp2_with fail;refine HST.out.mono ?_;rintro o w8 ⟨rfl,nx,left,G',hnl,hE8⟩;obtain ⟨rfl,rfl⟩:=hnl hN0;rw [if_neg hN0];go_wp2_with fail;go_ret;rw [HWW.out,HN.out];exact ⟨rfl,g,c,G',hgc,hE8⟩
end
def SP (C:Cf) (X:Tm) (V:Wm) (T:Th) (f:Plc->Int) (G:Nat->Prop) (qc:Cnt) (n:Nat):ST:={ c:=X.c,q:=X.q,p:=V.p,cc:=V.cc,ck:=C.k,cs:=C.s,cb:=C.b,ch:=C.h,cl:=C.l,ce:=T.e,cr:=X.cr,hs:=T.hs,F:=X.F,ql:=T.ql,kq:=X.kq,G:=G,f:=f,qc:=qc,m:=n }
def WD (C:Cf) (d:Dd) (T:Th):List (Int × Int):=wordsA C.k T.e d.key d.val (IntKind.u64.wrap d.lv)
def maD (a:Nat) (d:Dd) (T:Th) (left:Value) (s:Int):MA:={ nx:=nxA a T.apc,left:=left,k:=d.ok,key:=d.key,val:=d.val,lv:=d.lv,h:=T.ah,n:=T.an,r:=T.ar,s:=s }
def avD (c a:Nat) (d:Dd) (T:Th) (left:Value) (s:Int):List Value:=av c (maD a d T left s)
def LeftIs (C:Cf) (d:Dd) (T:Th) (left:Value) (s:Int) (gl:List Item):Prop :=
 if T.apc<=10 then gl=[] else ∃ g c9 N,gl=[lieI g (flat2 (WD C d T))]/\s=T.hs/\left=.slice (some ⟨g,2 * (T.apc - 10),none⟩) (N+1) c9/\N+1<=c9/\(WD C d T).length=(T.apc - 10)+(N+1)
structure RowOk (C:Cf) (T:Th) (n:Nat):Prop where
 (he:0<=T.e/\T.e<=9223372036854775807)
 (hn:n < maxLen)
 (hl:T.ql.length+1<=1000000)
 (hs:0<=C.s/\C.s<=9223372036854775806)
 (hw:InU T.ah/\InU T.an/\InU T.ar)
 (apc:T.apc=1\/T.apc=2\/T.apc=3\/T.apc=4\/T.apc=5\/T.apc=6\/10<=T.apc)
 (born:T.apc=10->T.hs=0/\∃ x y t,T.ql=(x,y,0)::t/\1<=x/\x<=C.s)
 (hh:In64 T.hs)
theorem flat2_at (l:List (Int × Int)) (k:Nat) {a b:Int} (h:l[k]?=some (a,b)):(flat2 l)[2 * k]?=some (.int .i64 a)/\(flat2 l)[2 * k+1]?=some (.int .u64 b):=by
 induction l generalizing k with
 | nil=>simp at h
 | cons p r ih =>
  cases k with
  | zero =>
   simp at h;subst h;simp [flat2]
  | succ k =>
   have h':r[k]?=some (a,b):=by simpa using h
   have:=ih k h';have e1:2 * (k+1)=2 * k+1+1:=by omega
   rw [e1]
   simpa [flat2] using this
theorem WD_in {C:Cf} {d:Dd} {T:Th} (he:0<=T.e/\T.e<=9223372036854775807) (hd:InU d.key/\InU d.val) {k:Nat} {a b:Int} (h:(WD C d T)[k]?=some (a,b)):In64 a/\InU b:=by
 have hm:(a,b)∈WD C d T:=List.mem_of_getElem? h;have hw:InU (IntKind.u64.wrap d.lv):=by rw [IntKind.wrap_u64]; unfold InU; omega
 unfold WD wordsA at hm;have h0:InU 0:=by unfold InU; omega
 have h1:InU T.e:=by unfold InU; omega
 split at hm
 ·simp at hm
  rcases hm with ⟨rfl,rfl⟩ | ⟨rfl,rfl⟩ | ⟨rfl,rfl⟩ | ⟨rfl,rfl⟩<;>exact ⟨by unfold In64; omega,by first | exact h1 | exact h0 | exact hd.1 | exact hd.2⟩
 ·split at hm
  ·simp at hm
   rcases hm with ⟨rfl,rfl⟩ | ⟨rfl,rfl⟩ | ⟨rfl,rfl⟩ | ⟨rfl,rfl⟩ | ⟨rfl,rfl⟩<;>exact ⟨by unfold In64; omega,by first | exact h1 | exact h0 | exact hd.1 | exact hw⟩
  ·simp at hm
   rcases hm with ⟨rfl,rfl⟩ | ⟨rfl,rfl⟩ | ⟨rfl,rfl⟩<;>exact ⟨by unfold In64; omega,by first | exact h1 | exact h0 | exact hd.1⟩
theorem decP_in (ql:List Trip) (e l:Int):decP ql e l=0\/decP ql e l=1\/decP ql e l=2\/decP ql e l=10:=by
 rcases ql with _ | ⟨⟨x,y,z⟩,t⟩
 ·exact .inr (.inr (.inl rfl))
 ·simp only [decP]
  split
  ·simp
  ·split<;>simp
theorem fnA_store {pc:Nat} (h:11<=pc):fnA pc=315:=by
 unfold fnA;rw [if_neg (by omega),if_neg (by omega),if_neg (by omega),if_neg (by omega),if_neg (by omega),if_neg (by omega),if_neg (by omega)]
theorem LeftIs.low {C:Cf} {d:Dd} {T:Th} (h:T.apc<=10):LeftIs C d T (.slice none 0 0) 0 []:=by unfold LeftIs; rw [if_pos h]
theorem LeftIs.of {C:Cf} {d:Dd} {T:Th} {left:Value} {s:Int} (h:T.apc<=10):LeftIs C d T left s []:=by unfold LeftIs; rw [if_pos h]
theorem WD_len (C:Cf) (d:Dd) (T:Th):3<=(WD C d T).length/\(WD C d T).length<=5:=by
 unfold WD;rw [wordsA_len]
 split
 ·omega
 ·split<;>omega
section
variable {w0 w:World} {R:List Item} {C:Cf} {d:Dd} {X:Tm} {V:Wm} {T:Th} {f:Plc->Int} {G:Nat->Prop} {qc:Cnt} {n a:Nat} {left:Value} {s:Int} {gl:List Item}
theorem alPx (hg:Glo w0) (hk:RowOk C T n) (hd:InU d.key/\InU d.val) (hlf:LeftIs C d T left s gl) (hE:Env w0 (boxI a (avD X.c a d T left s)::LT (SP C X V T f G qc n) (gl++R)) w) :
  Calls prog 251 #[.pointer (some ⟨a,0,none⟩),.iface 26 (.pointer (some ⟨V.p,0,none⟩))] w fun o w'=>o=.returned (.int .i64 (allocM C d T f).1)/\∃ (F':Nat->Prop) (k':Nat) (G':Nat->Prop) (qc':Cnt) (n':Nat),Nx n qc n' qc'/\(((allocM C d T f).1=0/\∃ left' s' gl',LeftIs C d (allocM C d T f).2.1 left' s' gl'/\Env w0 (boxI a (avD X.c a d (allocM C d T f).2.1 left' s')::LT (SP C { X with F:=F',kq:=k' } V (allocM C d T f).2.1 (allocM C d T f).2.2 G' qc' n') (gl'++R)) w')\/((allocM C d T f).1≠0/\Env w0 (LT (SP C { X with F:=F',kq:=k' } V (allocM C d T f).2.1 (allocM C d T f).2.2 G' qc' n') R) w')):=by
 have drop:∀ {S:ST} {y:Item} {w':World},Env w0 (y::LT S R) w'->Env w0 (LT S R) w':=fun h=>h.sub (.cons _ (List.Sublist.refl _));have hfu:∀ x,InU (f x):=fun x=>(hE.cell 4 rfl).words.1 x
 rcases hk.apc with h1 | h1 | h1 | h1 | h1 | h1 | h1
 ·have hgl:gl=[]:=by unfold LeftIs at hlf; rw [if_pos (by omega)] at hlf; exact hlf
  subst hgl;have hal:allocM C d T f=(2,T,swf f (1,0,0) T.e (T.e+1)):=by unfold allocM; rw [if_pos h1]
  rw [hal];refine (step_ay (S:=SP C X V T f G qc n) (M:=maD a d T left s) 1 _ hE (by simp [maD,h1]) (advance_a (S:=SP C X V T f G qc n) (M:=maD a d T left s) hk.he hk.hn hE)).mono ?_;rintro o w1 ⟨rfl,nx,G',hE1⟩;exact ⟨rfl,X.F,X.kq,G',_,n+1,⟨Nat.le_refl _,(by first | exact Or.inl ⟨rfl,rfl,rfl,rfl⟩ | exact Or.inr (Or.inl ⟨rfl,rfl,rfl,rfl⟩) | exact Or.inr (Or.inr (Or.inl ⟨rfl,rfl,rfl,rfl⟩)) | exact Or.inr (Or.inr (Or.inr ⟨rfl,rfl,rfl,rfl⟩)))⟩,.inr ⟨show (2:Int)≠0 by decide,drop hE1⟩⟩
 ·have hgl:gl=[]:=by unfold LeftIs at hlf; rw [if_pos (by omega)] at hlf; exact hlf
  subst hgl
  by_cases hx:C.s<=f (3,0,0)
  ·have hal:allocM C d T f=(0,{ T with apc:=3 },upd f (3,0,0) (IntKind.u64.wrap (f (3,0,0)+1))):=by unfold allocM; rw [if_neg (by omega),if_pos h1,if_pos hx]
   rw [hal];refine (step_ay (S:=SP C X V T f G qc n) (M:=maD a d T left s) 2 _ hE (by simp [maD,h1]) (freshNo_a (S:=SP C X V T f G qc n) (M:=maD a d T left s) _ rfl (hfu _).1 hx hk.hs hk.hn (zH rfl) hE)).mono ?_;rintro o w1 ⟨rfl,G',hE1⟩;exact ⟨rfl,X.F,X.kq,G',_,n+1,⟨Nat.le_refl _,(by first | exact Or.inl ⟨rfl,rfl,rfl,rfl⟩ | exact Or.inr (Or.inl ⟨rfl,rfl,rfl,rfl⟩) | exact Or.inr (Or.inr (Or.inl ⟨rfl,rfl,rfl,rfl⟩)) | exact Or.inr (Or.inr (Or.inr ⟨rfl,rfl,rfl,rfl⟩)))⟩,.inl ⟨rfl,left,s,[],.of (show (3:Nat)<=10 by decide),hE1⟩⟩
  ·have hal:allocM C d T f=(decS (T.ql++[(f (3,0,0)+1,0,0)]) T.e C.l,{ T with ql:=T.ql++[(f (3,0,0)+1,0,0)],apc:=decP (T.ql++[(f (3,0,0)+1,0,0)]) T.e C.l },upd f (3,0,0) (IntKind.u64.wrap (f (3,0,0)+1))):=by unfold allocM; rw [if_neg (by omega),if_pos h1,if_neg hx]
   rw [hal];refine (step_ay (S:=SP C X V T f G qc n) (M:=maD a d T left s) 2 _ hE (by simp [maD,h1]) (freshYes_a (S:=SP C X V T f G qc n) (M:=maD a d T left s) _ rfl (Nat.le_trans hk.hl (by decide)) (hfu _).1 (show f (3,0,0) < C.s by omega) hk.hs.2 hk.hn (zH rfl) hE)).mono ?_;rintro o w1 ⟨rfl,nx,k',F',G',hnx,-,hE1⟩;have hin:=decP_in (T.ql++[(f (3,0,0)+1,0,0)]) T.e C.l
   by_cases hz:decP (T.ql++[(f (3,0,0)+1,0,0)]) T.e C.l=0
   ·exact ⟨rfl,F',k',G',_,n+1,⟨Nat.le_refl _,(by first | exact Or.inl ⟨rfl,rfl,rfl,rfl⟩ | exact Or.inr (Or.inl ⟨rfl,rfl,rfl,rfl⟩) | exact Or.inr (Or.inr (Or.inl ⟨rfl,rfl,rfl,rfl⟩)) | exact Or.inr (Or.inr (Or.inr ⟨rfl,rfl,rfl,rfl⟩)))⟩,.inr ⟨show decS (T.ql++[(f (3,0,0)+1,0,0)]) T.e C.l≠0 by unfold decS; rw [if_pos hz]; decide,drop hE1⟩⟩
   ·have hnx:=hnx hz;subst hnx;exact ⟨rfl,F',k',G',_,n+1,⟨Nat.le_refl _,(by first | exact Or.inl ⟨rfl,rfl,rfl,rfl⟩ | exact Or.inr (Or.inl ⟨rfl,rfl,rfl,rfl⟩) | exact Or.inr (Or.inr (Or.inl ⟨rfl,rfl,rfl,rfl⟩)) | exact Or.inr (Or.inr (Or.inr ⟨rfl,rfl,rfl,rfl⟩)))⟩,.inl ⟨show decS (T.ql++[(f (3,0,0)+1,0,0)]) T.e C.l=0 by unfold decS; rw [if_neg hz],left,s,[],.of (show decP (T.ql++[(f (3,0,0)+1,0,0)]) T.e C.l<=10 by omega),hE1⟩⟩
 ·have hgl:gl=[]:=by unfold LeftIs at hlf; rw [if_pos (by omega)] at hlf; exact hlf
  subst hgl;have hal:allocM C d T f=(poolS (f (2,0,0)) C.l,{ T with ah:=f (2,0,0),apc:=4 },f):=by unfold allocM; rw [if_neg (by omega),if_neg (by omega),if_pos h1]
  rw [hal];refine (step_ay (S:=SP C X V T f G qc n) (M:=maD a d T left s) 3 _ hE (by simp [maD,h1]) (loadPool_a (S:=SP C X V T f G qc n) (M:=maD a d T left s) _ rfl hg (zH rfl) hE)).mono ?_;rintro o w1 ⟨rfl,nx,hnx,hE1⟩
  by_cases hz:poolS (f (2,0,0)) C.l=0
  ·have hnx:=hnx hz;subst hnx;exact ⟨rfl,X.F,X.kq,G,_,n,⟨by omega,(by first | exact Or.inl ⟨rfl,rfl,rfl,rfl⟩ | exact Or.inr (Or.inl ⟨rfl,rfl,rfl,rfl⟩) | exact Or.inr (Or.inr (Or.inl ⟨rfl,rfl,rfl,rfl⟩)) | exact Or.inr (Or.inr (Or.inr ⟨rfl,rfl,rfl,rfl⟩)))⟩,.inl ⟨hz,left,s,[],.of (show (4:Nat)<=10 by decide),hE1⟩⟩
  ·exact ⟨rfl,X.F,X.kq,G,_,n,⟨by omega,(by first | exact Or.inl ⟨rfl,rfl,rfl,rfl⟩ | exact Or.inr (Or.inl ⟨rfl,rfl,rfl,rfl⟩) | exact Or.inr (Or.inr (Or.inl ⟨rfl,rfl,rfl,rfl⟩)) | exact Or.inr (Or.inr (Or.inr ⟨rfl,rfl,rfl,rfl⟩)))⟩,.inr ⟨hz,drop hE1⟩⟩
 ·have hgl:gl=[]:=by unfold LeftIs at hlf; rw [if_pos (by omega)] at hlf; exact hlf
  subst hgl;have hal:allocM C d T f=(0,{ T with an:=f (5,slotI T.ah,2),apc:=5 },f):=by unfold allocM; rw [if_neg (by omega),if_neg (by omega),if_neg (by omega),if_pos h1]
  rw [hal];refine (step_ay (S:=SP C X V T f G qc n) (M:=maD a d T left s) 4 _ hE (by simp [maD,h1]) (loadChain_a (S:=SP C X V T f G qc n) (M:=maD a d T left s) _ rfl hk.hw.1 hg (zH rfl) hE)).mono ?_;rintro o w1 ⟨rfl,hE1⟩;exact ⟨rfl,X.F,X.kq,G,_,n,⟨by omega,(by first | exact Or.inl ⟨rfl,rfl,rfl,rfl⟩ | exact Or.inr (Or.inl ⟨rfl,rfl,rfl,rfl⟩) | exact Or.inr (Or.inr (Or.inl ⟨rfl,rfl,rfl,rfl⟩)) | exact Or.inr (Or.inr (Or.inr ⟨rfl,rfl,rfl,rfl⟩)))⟩,.inl ⟨rfl,left,s,[],.of (show (5:Nat)<=10 by decide),hE1⟩⟩
 ·have hgl:gl=[]:=by unfold LeftIs at hlf; rw [if_pos (by omega)] at hlf; exact hlf
  subst hgl;have hal:allocM C d T f=(0,{ T with ar:=f (5,slotI T.ah,1),apc:=6 },f):=by unfold allocM; rw [if_neg (by omega),if_neg (by omega),if_neg (by omega),if_neg (by omega),if_pos h1]
  rw [hal];refine (step_ay (S:=SP C X V T f G qc n) (M:=maD a d T left s) 5 _ hE (by simp [maD,h1]) (loadRetired_a (S:=SP C X V T f G qc n) (M:=maD a d T left s) _ rfl hk.hw.1 hg (zH rfl) hE)).mono ?_;rintro o w1 ⟨rfl,hE1⟩;exact ⟨rfl,X.F,X.kq,G,_,n,⟨by omega,(by first | exact Or.inl ⟨rfl,rfl,rfl,rfl⟩ | exact Or.inr (Or.inl ⟨rfl,rfl,rfl,rfl⟩) | exact Or.inr (Or.inr (Or.inl ⟨rfl,rfl,rfl,rfl⟩)) | exact Or.inr (Or.inr (Or.inr ⟨rfl,rfl,rfl,rfl⟩)))⟩,.inl ⟨rfl,left,s,[],.of (show (6:Nat)<=10 by decide),hE1⟩⟩
 ·have hgl:gl=[]:=by unfold LeftIs at hlf; rw [if_pos (by omega)] at hlf; exact hlf
  subst hgl
  by_cases hx:f (2,0,0)=T.ah
  ·have hal:allocM C d T f=(decS (T.ql++[(slotI T.ah,epI T.ar,0)]) T.e C.l,{ T with ql:=T.ql++[(slotI T.ah,epI T.ar,0)],apc:=decP (T.ql++[(slotI T.ah,epI T.ar,0)]) T.e C.l },swf f (2,0,0) T.ah (nextW T.ah (slotI T.an))):=by unfold allocM; rw [if_neg (by omega),if_neg (by omega),if_neg (by omega),if_neg (by omega),if_neg (by omega),if_pos h1,if_pos hx]
   rw [hal];refine (step_ay (S:=SP C X V T f G qc n) (M:=maD a d T left s) 6 _ hE (by simp [maD,h1]) (takeYes_a (S:=SP C X V T f G qc n) (M:=maD a d T left s) hx hk.hw.2.2 (Nat.le_trans hk.hl (by decide)) hk.hw.1 hk.hw.2.1 hg hk.hn (zH rfl) hE)).mono ?_;rintro o w1 ⟨rfl,nx,k',F',G',hnx,-,hE1⟩;have hin:=decP_in (T.ql++[(slotI T.ah,epI T.ar,0)]) T.e C.l
   by_cases hz:decP (T.ql++[(slotI T.ah,epI T.ar,0)]) T.e C.l=0
   ·exact ⟨rfl,F',k',G',_,n+1,⟨Nat.le_refl _,(by first | exact Or.inl ⟨rfl,rfl,rfl,rfl⟩ | exact Or.inr (Or.inl ⟨rfl,rfl,rfl,rfl⟩) | exact Or.inr (Or.inr (Or.inl ⟨rfl,rfl,rfl,rfl⟩)) | exact Or.inr (Or.inr (Or.inr ⟨rfl,rfl,rfl,rfl⟩)))⟩,.inr ⟨show decS (T.ql++[(slotI T.ah,epI T.ar,0)]) T.e C.l≠0 by unfold decS; rw [if_pos hz]; decide,drop hE1⟩⟩
   ·have hnx:=hnx hz;subst hnx;exact ⟨rfl,F',k',G',_,n+1,⟨Nat.le_refl _,(by first | exact Or.inl ⟨rfl,rfl,rfl,rfl⟩ | exact Or.inr (Or.inl ⟨rfl,rfl,rfl,rfl⟩) | exact Or.inr (Or.inr (Or.inl ⟨rfl,rfl,rfl,rfl⟩)) | exact Or.inr (Or.inr (Or.inr ⟨rfl,rfl,rfl,rfl⟩)))⟩,.inl ⟨show decS (T.ql++[(slotI T.ah,epI T.ar,0)]) T.e C.l=0 by unfold decS; rw [if_neg hz],left,s,[],.of (show decP (T.ql++[(slotI T.ah,epI T.ar,0)]) T.e C.l<=10 by omega),hE1⟩⟩
  ·have hal:allocM C d T f=(0,{ T with apc:=3 },swf f (2,0,0) T.ah (nextW T.ah (slotI T.an))):=by unfold allocM; rw [if_neg (by omega),if_neg (by omega),if_neg (by omega),if_neg (by omega),if_neg (by omega),if_pos h1,if_neg hx]
   rw [hal];refine (step_ay (S:=SP C X V T f G qc n) (M:=maD a d T left s) 6 _ hE (by simp [maD,h1]) (takeNo_a (S:=SP C X V T f G qc n) (M:=maD a d T left s) _ rfl hx hk.hw.1 hk.hw.2.1 hg hk.hn (zH rfl) hE)).mono ?_;rintro o w1 ⟨rfl,G',hE1⟩;exact ⟨rfl,X.F,X.kq,G',_,n+1,⟨Nat.le_refl _,(by first | exact Or.inl ⟨rfl,rfl,rfl,rfl⟩ | exact Or.inr (Or.inl ⟨rfl,rfl,rfl,rfl⟩) | exact Or.inr (Or.inr (Or.inl ⟨rfl,rfl,rfl,rfl⟩)) | exact Or.inr (Or.inr (Or.inr ⟨rfl,rfl,rfl,rfl⟩)))⟩,.inl ⟨rfl,left,s,[],.of (show (3:Nat)<=10 by decide),hE1⟩⟩
 ·obtain ⟨hl3,hl5⟩:=WD_len C d T
  by_cases h10:T.apc=10
  ·have hgl:gl=[]:=by unfold LeftIs at hlf; rw [if_pos (by omega)] at hlf; exact hlf
   subst hgl;obtain ⟨hhs,x,y,t,hql,hx1,hx2⟩:=hk.born h10;have hal:allocM C d T f=(lastS 0 (WD C d T).length,{ T with ql:=t,hs:=x,apc:=11 },upd f (5,x,0) T.e):=by
    unfold allocM;rw [if_neg (by omega),if_neg (by omega),if_neg (by omega),if_neg (by omega),if_neg (by omega),if_neg (by omega)];simp only [h10,hql,if_true,List.tail_cons,List.headD_cons];rfl
   have hls:lastS 0 (WD C d T).length=0:=by unfold lastS; rw [if_neg (by omega)]
   rw [hal,hls];refine (step_ay (S:=SP C X V T f G qc n) (M:=maD a d T left s) 10 _ hE (by simp [maD,h10]) (birth_a (S:=SP C X V T f G qc n) (M:=maD a d T left s) x y t hql ⟨hx1,hx2⟩ hk.hs.2 hhs hk.he hk.hn (zH rfl) hE)).mono ?_;rintro o w1 ⟨rfl,g,c,G',hgc,hE1⟩;obtain ⟨N,hN⟩:∃ N,(WD C d T).length=N+2:=⟨(WD C d T).length - 2,by omega⟩;have hgc2:N+2<=c:=by rw [<- hN]; exact hgc
   have hli:LeftIs C d { T with ql:=t,hs:=x,apc:=11 } (.slice (some ⟨g,2,none⟩) ((WD C d T).length - 1) (c - 1)) x [lieI g (flat2 (WD C d T))]:=by
    unfold LeftIs;rw [if_neg (show ¬ (11:Nat)<=10 by decide)];refine ⟨g,c - 1,N,rfl,rfl,?_,by omega,?_⟩
    ·rw [hN];rfl
    ·show (WD C d T).length=(11 - 10)+(N+1);omega
   exact ⟨rfl,X.F,X.kq,G',_,n+1,⟨Nat.le_refl _,(by first | exact Or.inl ⟨rfl,rfl,rfl,rfl⟩ | exact Or.inr (Or.inl ⟨rfl,rfl,rfl,rfl⟩) | exact Or.inr (Or.inr (Or.inl ⟨rfl,rfl,rfl,rfl⟩)) | exact Or.inr (Or.inr (Or.inr ⟨rfl,rfl,rfl,rfl⟩)))⟩,.inl ⟨rfl,_,x,_,hli,hE1⟩⟩
  ·have h11:11<=T.apc:=by omega
   unfold LeftIs at hlf;rw [if_neg (by omega)] at hlf;obtain ⟨g,c9,N,rfl,rfl,rfl,hc9,hlen⟩:=hlf;obtain ⟨k,hk10⟩:∃ k,T.apc=10+k:=⟨T.apc - 10,by omega⟩;have hkk:T.apc - 10=k:=by omega
   rw [hkk] at hlen hE;obtain ⟨⟨part,word⟩,hpw⟩:∃ pw,(WD C d T)[k]?=some pw:=⟨_,List.getElem?_eq_getElem (by omega)⟩;obtain ⟨hp64,hwu⟩:=WD_in hk.he hd hpw;obtain ⟨hc0,hc1⟩:=flat2_at _ _ hpw;have hal:allocM C d T f=(lastS k (WD C d T).length,{ T with apc:=T.apc+1 },upd f (5,T.hs,part) word):=by
    unfold allocM;rw [if_neg (by omega),if_neg (by omega),if_neg (by omega),if_neg (by omega),if_neg (by omega),if_neg (by omega)];have hg:(wordsA C.k T.e d.key d.val (IntKind.u64.wrap d.lv)).getD k (0,0)=(part,word):=by
     have h9:(wordsA C.k T.e d.key d.val (IntKind.u64.wrap d.lv))[k]?=some (part,word):=hpw;rw [List.getD_eq_getElem?_getD,h9];rfl
    simp only [hkk,hg];rw [if_neg (by omega)];rfl
   have hst:=store_a (S:=SP C X V T f G qc n) (M:={ nx:=nxA a T.apc,left:=.slice (some ⟨g,2 * k,none⟩) (N+1) c9,k:=d.ok,key:=d.key,val:=d.val,lv:=d.lv,h:=T.ah,n:=T.an,r:=T.ar,s:=T.hs }) g (2 * k) N c9 part word hc9 hp64 hwu hk.hh hk.hn rfl hc0 hc1 hE;rw [<- fnA_store h11] at hst;rw [hal];have hls:lastS k (WD C d T).length=if N=0 then 1 else 0:=by
    unfold lastS
    by_cases hN:N=0
    ·rw [if_pos hN,if_pos (by omega)]
    ·rw [if_neg hN,if_neg (by omega)]
   rw [hls];refine (step_ay (S:=SP C X V T f G qc n) T.apc _ hE rfl hst).mono ?_;rintro o w1 ⟨rfl,nx,left,G',hnl,hE1⟩
   by_cases hN:N=0
   ·rw [if_pos hN];exact ⟨rfl,X.F,X.kq,G',_,n+1,⟨Nat.le_refl _,(by first | exact Or.inl ⟨rfl,rfl,rfl,rfl⟩ | exact Or.inr (Or.inl ⟨rfl,rfl,rfl,rfl⟩) | exact Or.inr (Or.inr (Or.inl ⟨rfl,rfl,rfl,rfl⟩)) | exact Or.inr (Or.inr (Or.inr ⟨rfl,rfl,rfl,rfl⟩)))⟩,.inr ⟨show (1:Int)≠0 by decide,hE1.sub (.cons _ (.cons_cons _ (.cons_cons _ (.cons_cons _ (.cons_cons _ (.cons _ (List.Sublist.refl _)))))))⟩⟩
   ·obtain ⟨rfl,rfl⟩:=hnl hN;rw [if_neg hN];obtain ⟨M,rfl⟩:∃ M,N=M+1:=⟨N - 1,by omega⟩;have hli:LeftIs C d { T with apc:=T.apc+1 } (.slice (some ⟨g,2 * k+2,none⟩) (M+1) (c9 - 1)) T.hs [lieI g (flat2 (WD C d T))]:=by
     unfold LeftIs;rw [if_neg (show ¬ T.apc+1<=10 by omega)];refine ⟨g,c9 - 1,M,rfl,rfl,?_,by omega,?_⟩
     ·show _=Value.slice (some ⟨g,2 * (T.apc+1 - 10),none⟩) (M+1) (c9 - 1);rw [show 2 * (T.apc+1 - 10)=2 * k+2 by omega]
     ·show (WD C d T).length=(T.apc+1 - 10)+(M+1);omega
    have hnx:nxA a T.apc=nxA a (T.apc+1):=by
     unfold nxA;rw [fnA_store h11,fnA_store (by omega)]
    have hE2:Env w0 (boxI a (avD X.c a d { T with apc:=T.apc+1 } (.slice (some ⟨g,2 * k+2,none⟩) (M+1) (c9 - 1)) T.hs)::LT (SP C X V { T with apc:=T.apc+1 } (upd f (5,T.hs,part) word) G' { qc with s:=wrap64 (qc.s+1) } (n+1)) ([lieI g (flat2 (WD C d T))]++R)) w1:=by
     unfold avD maD;rw [<- hnx];exact hE1
    exact ⟨rfl,X.F,X.kq,G',_,n+1,⟨Nat.le_refl _,(by first | exact Or.inl ⟨rfl,rfl,rfl,rfl⟩ | exact Or.inr (Or.inl ⟨rfl,rfl,rfl,rfl⟩) | exact Or.inr (Or.inr (Or.inl ⟨rfl,rfl,rfl,rfl⟩)) | exact Or.inr (Or.inr (Or.inr ⟨rfl,rfl,rfl,rfl⟩)))⟩,.inl ⟨rfl,_,T.hs,_,hli,hE2⟩⟩
end
end
section
open Go.RowKit Go.Maps Go.Shelf Go.Sort
def orI (a b c:Int):Int:=if a≠0 then a else if b≠0 then b else c
def cmpP (x y:Plc):Int:=orI (Lib.compareInt x.1 y.1) (Lib.compareInt x.2.1 y.2.1) (Lib.compareInt x.2.2 y.2.2)
theorem cmp_neg (a b:Int):Lib.compareInt a b < 0 ↔ a < b:=by unfold Lib.compareInt; split<;>(try split)<;>omega
theorem cmp_zero (a b:Int):Lib.compareInt a b=0 ↔ a=b:=by unfold Lib.compareInt; split<;>(try split)<;>omega
theorem ltP (x y:Plc):ltOf cmpP x y=true ↔ x.1 < y.1\/(x.1=y.1/\(x.2.1 < y.2.1\/(x.2.1=y.2.1/\x.2.2 < y.2.2))):=by
 have h1:=cmp_neg x.1 y.1;have h2:=cmp_neg x.2.1 y.2.1;have h3:=cmp_neg x.2.2 y.2.2;have z1:=cmp_zero x.1 y.1;have z2:=cmp_zero x.2.1 y.2.1;have e:ltOf cmpP x y=true ↔ cmpP x y < 0:=by simp [ltOf]
 rw [e];unfold cmpP orI
 split
 ·rename_i h; rw [h1]; rw [ne_eq,z1] at h; omega
 ·rename_i h;have h:=z1.1 (by simpa using h)
  split
  ·rename_i k; rw [h2]; rw [ne_eq,z2] at k; omega
  ·rename_i k;have k:=z2.1 (by simpa using k);rw [h3]; omega
theorem ltP_false (x y:Plc):ltOf cmpP x y=false ↔ ¬ (x.1 < y.1\/(x.1=y.1/\(x.2.1 < y.2.1\/(x.2.1=y.2.1/\x.2.2 < y.2.2)))):=by rw [<- ltP,Bool.not_eq_true]
theorem swoP:SWO (ltOf cmpP) where
 irrefl x:=by rw [ltP_false]; omega
 trans x y z h1 h2:=by rw [ltP] at *; omega
 ntrans x y z h1 h2:=by rw [ltP_false] at *; omega
theorem totP (x y:Plc) (h1:ltOf cmpP x y=false) (h2:ltOf cmpP y x=false):x=y:=by
 rw [ltP_false] at *;obtain ⟨a,b,c⟩:=x;obtain ⟨a',b',c'⟩:=y;simp only [Prod.mk.injEq];simp only at h1 h2;omega
def encP (x:Plc):List Value:=[.int .i64 x.1,.int .i64 x.2.1,.int .i64 x.2.2]
attribute [local go_sem] Oper.semAt_some
def flatP (l:List Plc):List Value:=l.flatMap encP
theorem flatP_snoc (l:List Plc) (x:Plc):flatP (l++[x])=flatP l++encP x:=by simp [flatP]
theorem flatP_length (l:List Plc):(flatP l).length=l.length * 3:=by
 induction l with
 | nil=>rfl
 | cons x l ih=>simp [flatP,encP] at *; omega
theorem infoPlace:(prog.info? 105).map (fun i=>(i.zero,i.size,i.bytes))=some (some (.agg #[.int .i64 0,.int .i64 0,.int .i64 0]),3,24):=by kernel_rfl
def z3:Plc:=(0,0,0)
def RowP (w:World) (v:Value) (l:List Plc):Prop :=
 (l=[]/\v=.slice none 0 0)\/∃ g cap,v=.slice (some ⟨g,0,none⟩) l.length cap/\g < w.heap.size/\∀ j,j < l.length ->
  w.cell? ⟨g,j * 3,none⟩=some (.int .i64 (l.getD j z3).1)/\w.cell? ⟨g,j * 3+1,none⟩=some (.int .i64 (l.getD j z3).2.1)/\w.cell? ⟨g,j * 3+2,none⟩=some (.int .i64 (l.getD j z3).2.2)
theorem RowP.over {w w':World} {v:Value} {l:List Plc} {T:Nat->Prop} (h:RowP w v l) (ht:Turn T w w') (hT:∀ g len cap,v=.slice (some ⟨g,0,none⟩) len cap->¬ T g):RowP w' v l:=by
 rcases h with h | ⟨g,cap,hv,hg,hc⟩
 ·exact .inl h
 ·have hb:=ht.block g hg (hT g _ cap hv);exact .inr ⟨g,cap,hv,Nat.lt_of_lt_of_le hg ht.size,fun j hj=>by
   obtain ⟨h1,h2,h3⟩:=hc j hj;refine ⟨?_,?_,?_⟩
   ·rw [World.cell?_of_block (w:=w) hb]; exact h1
   ·rw [World.cell?_of_block (w:=w) hb]; exact h2
   ·rw [World.cell?_of_block (w:=w) hb]; exact h3⟩
theorem flatP_get (l:List Plc):∀ (j c:Nat),j < l.length->c < 3->(flatP l)[j * 3+c]?=(encP (l.getD j z3))[c]?:=by
 induction l with
 | nil=>intro j c h; simp at h
 | cons x l ih =>
  intro j c hj hc;have e:flatP (x::l)=encP x++flatP l:=by simp [flatP]
  cases j with
  | zero=>rw [e,List.getElem?_append_left (by simp [encP]; omega)]; simp
  | succ j =>
   rw [e,List.getElem?_append_right (by simp [encP]; omega)];have:=ih j c (by simpa using hj) hc;have e2:(j+1) * 3+c - (encP x).length=j * 3+c:=by simp [encP]; omega
   rw [e2,this];simp
def Rising (l:List Plc):Prop:=l.Pairwise fun x y=>ltOf cmpP x y=true
theorem rising_eq:∀ {l m:List Plc},Rising l->Rising m->(∀ x,x∈l ↔ x∈m)->l=m
 | [],[],_,_,_=>rfl
 | [],y::m,_,_,h=>by have:=(h y).2 (by simp); simp at this
 | x::l,[],_,_,h=>by have:=(h x).1 (by simp); simp at this
 | x::l,y::m,h1,h2,h=>by
  obtain ⟨a1,a2⟩:=List.pairwise_cons.1 h1;obtain ⟨b1,b2⟩:=List.pairwise_cons.1 h2;have no:∀ a b:Plc,ltOf cmpP a b=true->ltOf cmpP b a=true->False:=fun a b p q=>by
   have:=swoP.trans _ _ _ p q;rw [swoP.irrefl] at this;cases this
  have hxy:x=y:=by
   rcases List.mem_cons.1 ((h x).1 (by simp)) with e | hx
   ·exact e
   ·rcases List.mem_cons.1 ((h y).2 (by simp)) with e | hy
    ·exact e.symm
    ·exact (no x y (a1 y hy) (b1 x hx)).elim
  subst hxy;rw [rising_eq a2 b2 fun z=>⟨fun hz=>by
   rcases List.mem_cons.1 ((h z).1 (by simp [hz])) with e | h'
   ·subst e; exact (no _ _ (a1 _ hz) (a1 _ hz)).elim
   ·exact h',fun hz=>by
   rcases List.mem_cons.1 ((h z).2 (by simp [hz])) with e | h'
   ·subst e; exact (no _ _ (b1 _ hz) (b1 _ hz)).elim
   ·exact h'⟩]
def PlacesOf (f:Plc->Int) (l:List Plc):Prop:=Rising l/\∀ x,x∈l ↔ f x≠0
theorem PlacesOf.eq {f:Plc->Int} {l m:List Plc} (h:PlacesOf f l) (k:PlacesOf f m):l=m:=rising_eq h.1 k.1 fun x=>(h.2 x).trans (k.2 x).symm
theorem RowP.len {w:World} {v:Value} {l:List Plc} (h:RowP w v l):∃ a cap,v=.slice a l.length cap:=by
 rcases h with ⟨rfl,rfl⟩ | ⟨g,cap,rfl,_⟩
 ·exact ⟨_,_,rfl⟩
 ·exact ⟨_,_,rfl⟩
theorem RowP.below {w w':World} {v:Value} {l:List Plc} (h:RowP w v l) (hb:Below w.heap.size w w'):RowP w' v l:=h.over (Turn.of_below hb:Turn (fun _=>False) w w') fun _ _ _ _ e=>e
end
section
open Go.RowKit Go.Maps Go.Sort
theorem less_any (x y z a b d:Int) (w:World) :
  Calls prog 128 #[.agg #[.int .i64 x,.int .i64 y,.int .i64 z],.agg #[.int .i64 a,.int .i64 b,.int .i64 d]] w fun e w'=>e=.returned (.bool (ltOf cmpP (x,y,z) (a,b,d)))/\Below w.heap.size w w':=by
 have hE:=((Fr.start w).push w.heap.size rfl [.int .i64 x,.int .i64 y,.int .i64 z] 105).push (w.heap.size+1) (by simp) [.int .i64 a,.int .i64 b,.int .i64 d] 105;have r:=hE.rule 0 rfl;have r1:=hE.rule 1 rfl;have hL:ltOf cmpP (x,y,z) (a,b,d)=if x≠a then decide (x < a) else if y≠b then decide (y < b) else decide (z < d):=by
  have h:=ltP (x,y,z) (a,b,d);rw [Bool.eq_iff_iff,h]
  split
  ·simp; omega
  ·split
   ·simp; omega
   ·simp; omega
 rw [hL];go_enter func128,ntmps128
 by_cases h1:x=a
 ·subst h1
  by_cases h2:y=b
  ·subst h2;go_wp2_with fail;go_ret;exact ⟨by simp,hE.below⟩
  ·go_wp2_with fail;go_ret;exact ⟨by simp [h2],hE.below⟩
 ·go_wp2_with fail;go_ret;exact ⟨by simp [h1],hE.below⟩
end
section
open Go.RowKit Go.Maps
def bv (t:Cnt):List Value:=[.int .i64 t.l,.int .i64 t.s,.int .i64 t.w,.int .i64 t.f,.int .i64 t.a]
theorem swf_getL (l:List OneR) (x:Plc) (o v:Int):swf (getL l) x o v=getL (swL l x o v):=by
 unfold swf swL
 split
 ·rw [getL_set]
 ·rfl
def SR (C:Cf) (X:Tm) (V:Wm) (T:Th) (FU:Nat->Prop) (ml:List OneR):SU:={ u:=X.u,m:=V.m,ck:=C.k,cs:=C.s,cb:=C.b,ch:=C.h,cl:=C.l,ce:=T.e,hs:=T.hs,ro:=X.ro,N:=X.N,A:=X.A,c:=X.rc,ql:=T.ql,F:=FU,ml:=ml }
theorem nextW_word {x s:Int} (hs:0<=s/\s<=8388607) (hv:verI x < 1099511627775):nextW x s=wordI false s (verI x+1):=by
 unfold nextW;rw [if_pos (by simp [isS]; omega),if_neg (by omega)]
theorem swL_length (l:List OneR) (x:Plc) (o v:Int):(swL l x o v).length<=l.length+1:=by
 unfold swL
 split
 ·exact setL_length _ _ _
 ·omega
section
variable {w0 w:World} {R:List Item} {C:Cf} {d:Dd} {X:Tm} {V:Wm} {T:Th} {FU:Nat->Prop} {ml:List OneR} {n b:Nat}
theorem alR (hk:RowOk C T n) (hml:ml.length<=999999) (hN:0<=X.N/\X.N<=4000000) (hv:T.apc=6->verI T.ah < 1099511627775) (hfu:∀ x,InU (getL ml x)) (hkk:T.apc<=10\/T.apc - 10 < (WD C d T).length) (hE:Env w0 (boxI b (rav (T.apc:Int) T.ah T.an T.ar)::LU (SR C X V T FU ml) R) w) :
  Calls prog 108 #[.pointer (some ⟨b,0,none⟩),.pointer (some ⟨X.u,0,none⟩),.pointer (some ⟨V.m,0,none⟩),.agg #[.int .i64 d.ok,.int .u64 d.key,.int .u64 d.val,.int .i64 d.lv]] w fun o w'=>o=.returned (.int .i64 (allocM C d T (getL ml)).1)/\∃ (A':Option Addr) (rc':Nat) (N':Int) (FU':Nat->Prop) (ml':List OneR),getL ml'=(allocM C d T (getL ml)).2.2/\ml'.length<=ml.length+1/\0<=N'/\N'<=4000000/\(((allocM C d T (getL ml)).1=0/\Env w0 (boxI b (rav ((allocM C d T (getL ml)).2.1.apc:Int) (allocM C d T (getL ml)).2.1.ah (allocM C d T (getL ml)).2.1.an (allocM C d T (getL ml)).2.1.ar)::LU (SR C { X with A:=A',rc:=rc',N:=N' } V (allocM C d T (getL ml)).2.1 FU' ml') R) w')\/((allocM C d T (getL ml)).1≠0/\Env w0 (LU (SR C { X with A:=A',rc:=rc',N:=N' } V (allocM C d T (getL ml)).2.1 FU' ml') R) w')):=by
 have drop:∀ {S:SU} {y:Item} {w':World},Env w0 (y::LU S R) w'->Env w0 (LU S R) w':=fun h=>h.sub (.cons _ (List.Sublist.refl _))
 rcases hk.apc with h1 | h1 | h1 | h1 | h1 | h1 | h1
 ·have hal:allocM C d T (getL ml)=(2,T,swf (getL ml) (1,0,0) T.e (T.e+1)):=by unfold allocM; rw [if_pos h1]
  rw [hal];rw [h1] at hE;refine (ral1 (U:=SR C X V T FU ml) hk.he (by show ml.length<=1000000; omega) hk.hw.1 hE).mono ?_;rintro o w1 ⟨rfl,F5,hE1⟩;exact ⟨rfl,X.A,X.rc,X.N,F5,_,(swf_getL _ _ _ _).symm,swL_length _ _ _ _,hN.1,hN.2,.inr ⟨show (2:Int)≠0 by decide,drop hE1⟩⟩
 ·rw [h1] at hE
  by_cases hx:C.s<=getL ml (3,0,0)
  ·have hal:allocM C d T (getL ml)=(0,{ T with apc:=3 },upd (getL ml) (3,0,0) (IntKind.u64.wrap (getL ml (3,0,0)+1))):=by unfold allocM; rw [if_neg (by omega),if_pos h1,if_pos hx]
   rw [hal];refine (ral2No (U:=SR C X V T FU ml) _ rfl (by show ml.length<=999999; omega) (hfu _).1 hx hk.hs hk.hw.1 hE).mono ?_;rintro o w1 ⟨rfl,F5,hE1⟩;exact ⟨rfl,X.A,X.rc,X.N,F5,_,getL_set _ _ _,setL_length _ _ _,hN.1,hN.2,.inl ⟨rfl,hE1⟩⟩
  ·have hal:allocM C d T (getL ml)=(decS (T.ql++[(getL ml (3,0,0)+1,0,0)]) T.e C.l,{ T with ql:=T.ql++[(getL ml (3,0,0)+1,0,0)],apc:=decP (T.ql++[(getL ml (3,0,0)+1,0,0)]) T.e C.l },upd (getL ml) (3,0,0) (IntKind.u64.wrap (getL ml (3,0,0)+1))):=by unfold allocM; rw [if_neg (by omega),if_pos h1,if_neg hx]
   rw [hal];refine (ral2Yes (U:=SR C X V T FU ml) _ rfl (by show ml.length<=999999; omega) (hfu _).1 (show getL ml (3,0,0) < C.s by omega) hk.hs.2 (by have:=hk.hl; show T.ql.length<=1000000; omega) (by show 0<=X.N/\X.N<=1099511627776; omega) hk.hw.1 hE).mono ?_;rintro o w1 ⟨rfl,pc',F5,A',c',hpc,hE1⟩;have hNN:=roomN_in hN hk.hl
   by_cases hz:decP (T.ql++[(getL ml (3,0,0)+1,0,0)]) T.e C.l=0
   ·exact ⟨rfl,A',c',_,F5,_,getL_set _ _ _,setL_length _ _ _,hNN.1,hNN.2,.inr ⟨show decS (T.ql++[(getL ml (3,0,0)+1,0,0)]) T.e C.l≠0 by unfold decS; rw [if_pos hz]; decide,drop hE1⟩⟩
   ·have hpc:=hpc hz;subst hpc;exact ⟨rfl,A',c',_,F5,_,getL_set _ _ _,setL_length _ _ _,hNN.1,hNN.2,.inl ⟨show decS (T.ql++[(getL ml (3,0,0)+1,0,0)]) T.e C.l=0 by unfold decS; rw [if_neg hz],hE1⟩⟩
 ·rw [h1] at hE;have hal:allocM C d T (getL ml)=(poolS (getL ml (2,0,0)) C.l,{ T with ah:=getL ml (2,0,0),apc:=4 },getL ml):=by unfold allocM; rw [if_neg (by omega),if_neg (by omega),if_pos h1]
  rw [hal];refine (ral3 (U:=SR C X V T FU ml) _ rfl (hfu _) (by show ml.length<=1000000; omega) hk.hw.1 hE).mono ?_;rintro o w1 ⟨rfl,pc',hpc,hE1⟩
  by_cases hz:poolS (getL ml (2,0,0)) C.l=0
  ·have hpc:=hpc hz;subst hpc;exact ⟨rfl,X.A,X.rc,X.N,FU,ml,rfl,by omega,hN.1,hN.2,.inl ⟨hz,hE1⟩⟩
  ·exact ⟨rfl,X.A,X.rc,X.N,FU,ml,rfl,by omega,hN.1,hN.2,.inr ⟨hz,drop hE1⟩⟩
 ·rw [h1] at hE;have hal:allocM C d T (getL ml)=(0,{ T with an:=getL ml (5,slotI T.ah,2),apc:=5 },getL ml):=by unfold allocM; rw [if_neg (by omega),if_neg (by omega),if_neg (by omega),if_pos h1]
  rw [hal];refine (ral4 (U:=SR C X V T FU ml) _ rfl (by show ml.length<=1000000; omega) hk.hw.1 hE).mono ?_;rintro o w1 ⟨rfl,hE1⟩;exact ⟨rfl,X.A,X.rc,X.N,FU,ml,rfl,by omega,hN.1,hN.2,.inl ⟨rfl,hE1⟩⟩
 ·rw [h1] at hE;have hal:allocM C d T (getL ml)=(0,{ T with ar:=getL ml (5,slotI T.ah,1),apc:=6 },getL ml):=by unfold allocM; rw [if_neg (by omega),if_neg (by omega),if_neg (by omega),if_neg (by omega),if_pos h1]
  rw [hal];refine (ral5 (U:=SR C X V T FU ml) _ rfl (by show ml.length<=1000000; omega) hk.hw.1 hE).mono ?_;rintro o w1 ⟨rfl,hE1⟩;exact ⟨rfl,X.A,X.rc,X.N,FU,ml,rfl,by omega,hN.1,hN.2,.inl ⟨rfl,hE1⟩⟩
 ·rw [h1] at hE;have hnx:=nextW_word (slotI_in T.an) (hv h1)
  by_cases hx:getL ml (2,0,0)=T.ah
  ·have hal:allocM C d T (getL ml)=(decS (T.ql++[(slotI T.ah,epI T.ar,0)]) T.e C.l,{ T with ql:=T.ql++[(slotI T.ah,epI T.ar,0)],apc:=decP (T.ql++[(slotI T.ah,epI T.ar,0)]) T.e C.l },swf (getL ml) (2,0,0) T.ah (nextW T.ah (slotI T.an))):=by unfold allocM; rw [if_neg (by omega),if_neg (by omega),if_neg (by omega),if_neg (by omega),if_neg (by omega),if_pos h1,if_pos hx]
   rw [hal,hnx];refine (ral6Yes (U:=SR C X V T FU ml) hk.hw.2.1 (by show ml.length<=1000000; omega) hx hk.hw.2.2 (by have:=hk.hl; show T.ql.length<=1000000; omega) (by show 0<=X.N/\X.N<=1099511627776; omega) hk.hw.1 hE).mono ?_;rintro o w1 ⟨rfl,pc',F5,A',c',hpc,hE1⟩;have hNN:=roomN_in hN hk.hl
   by_cases hz:decP (T.ql++[(slotI T.ah,epI T.ar,0)]) T.e C.l=0
   ·exact ⟨rfl,A',c',_,F5,_,(swf_getL _ _ _ _).symm,swL_length _ _ _ _,hNN.1,hNN.2,.inr ⟨show decS (T.ql++[(slotI T.ah,epI T.ar,0)]) T.e C.l≠0 by unfold decS; rw [if_pos hz]; decide,drop hE1⟩⟩
   ·have hpc:=hpc hz;subst hpc;exact ⟨rfl,A',c',_,F5,_,(swf_getL _ _ _ _).symm,swL_length _ _ _ _,hNN.1,hNN.2,.inl ⟨show decS (T.ql++[(slotI T.ah,epI T.ar,0)]) T.e C.l=0 by unfold decS; rw [if_neg hz],hE1⟩⟩
  ·have hal:allocM C d T (getL ml)=(0,{ T with apc:=3 },swf (getL ml) (2,0,0) T.ah (nextW T.ah (slotI T.an))):=by unfold allocM; rw [if_neg (by omega),if_neg (by omega),if_neg (by omega),if_neg (by omega),if_neg (by omega),if_pos h1,if_neg hx]
   rw [hal,hnx];refine (ral6No (U:=SR C X V T FU ml) hk.hw.2.1 (by show ml.length<=1000000; omega) hx hk.hw.1 hE).mono ?_;rintro o w1 ⟨rfl,F5,hE1⟩;exact ⟨rfl,X.A,X.rc,X.N,F5,_,(swf_getL _ _ _ _).symm,swL_length _ _ _ _,hN.1,hN.2,.inl ⟨rfl,hE1⟩⟩
 ·obtain ⟨hl3,hl5⟩:=WD_len C d T
  by_cases h10:T.apc=10
  ·rw [h10] at hE;obtain ⟨hhs,x,y,t,hql,hx1,hx2⟩:=hk.born h10;have hal:allocM C d T (getL ml)=(lastS 0 (WD C d T).length,{ T with ql:=t,hs:=x,apc:=11 },upd (getL ml) (5,x,0) T.e):=by
    unfold allocM;rw [if_neg (by omega),if_neg (by omega),if_neg (by omega),if_neg (by omega),if_neg (by omega),if_neg (by omega)];simp only [h10,hql,if_true,List.tail_cons,List.headD_cons];rfl
   have hls:lastS 0 (WD C d T).length=0:=by unfold lastS; rw [if_neg (by omega)]
   rw [hal,hls];have hl:=hk.hl;rw [hql] at hl;have hct:=ral10 (U:=SR C X V T FU ml) (ok:=d.ok) (key:=d.key) (val:=d.val) (lv:=d.lv) x y t hql (by simp at hl; omega) 0 T.e rfl hk.he (by show ml.length<=1000000; omega) hk.hw.1 hE;have hls2:lastS 0 (wordsA (SR C X V T FU ml).ck (SR C X V T FU ml).ce d.key d.val (IntKind.u64.wrap d.lv)).length=0:=hls;rw [hls2] at hct;refine hct.mono ?_;rintro o w1 ⟨rfl,F5,A',c',hE1⟩;exact ⟨rfl,A',c',X.N,F5,_,getL_set _ _ _,setL_length _ _ _,hN.1,hN.2,.inl ⟨rfl,hE1⟩⟩
  ·obtain ⟨k,hk10⟩:∃ k,T.apc=10+k:=⟨T.apc - 10,by omega⟩;have hkk2:T.apc - 10=k:=by omega
   have hkl:k < (WD C d T).length:=by omega
   obtain ⟨⟨part,word⟩,hpw⟩:∃ pw,(WD C d T)[k]?=some pw:=⟨_,List.getElem?_eq_getElem hkl⟩;have hal:allocM C d T (getL ml)=(lastS k (WD C d T).length,{ T with apc:=T.apc+1 },upd (getL ml) (5,T.hs,part) word):=by
    unfold allocM;rw [if_neg (by omega),if_neg (by omega),if_neg (by omega),if_neg (by omega),if_neg (by omega),if_neg (by omega)];have hg:(wordsA C.k T.e d.key d.val (IntKind.u64.wrap d.lv)).getD k (0,0)=(part,word):=by
     have h9:(wordsA C.k T.e d.key d.val (IntKind.u64.wrap d.lv))[k]?=some (part,word):=hpw;rw [List.getD_eq_getElem?_getD,h9];rfl
    simp only [hkk2,hg];rw [if_neg (by omega)];rfl
   have hpc:((T.apc:Nat):Int)=10+(k:Int):=by omega
   rw [hpc] at hE;rw [hal];refine (ralS (U:=SR C X V T FU ml) (ok:=d.ok) (key:=d.key) (val:=d.val) (lv:=d.lv) k (by omega) part word hpw hk.he (by show ml.length<=1000000; omega) hk.hw.1 hE).mono ?_;rintro o w1 ⟨rfl,F5,hE1⟩;have hpc2:(10+(k:Int)+1)=((T.apc+1:Nat):Int):=by omega
   rw [hpc2] at hE1
   by_cases hz:lastS k (WD C d T).length=0
   ·exact ⟨rfl,X.A,X.rc,X.N,F5,_,getL_set _ _ _,setL_length _ _ _,hN.1,hN.2,.inl ⟨hz,hE1⟩⟩
   ·exact ⟨rfl,X.A,X.rc,X.N,F5,_,getL_set _ _ _,setL_length _ _ _,hN.1,hN.2,.inr ⟨hz,drop hE1⟩⟩
end
theorem perm_of {L L':List Item} (h:∀ [BEq Item] [LawfulBEq Item] (z:Item),L.count z=L'.count z):L.Perm L':=by
 classical
 exact List.perm_iff_count.2 fun z=>h z
theorem gen_post {P:Program} {g:FuncId} {args:Array Value} {w:World} {Q:Ending->World->Prop} (h:∀ PP:Ending->World->Prop,Hid (∀ o w',Q o w'->PP o w')->Calls P g args w PP):Calls P g args w Q:=h Q (zH fun _ _ h=>h)
theorem allocM_keep (C:Cf) (d:Dd) (T:Th) (f:Mem):(allocM C d T f).2.1.e=T.e/\(allocM C d T f).2.1.nd=T.nd/\(allocM C d T f).2.1.pc=T.pc/\(allocM C d T f).2.1.rs=T.rs/\(allocM C d T f).2.1.rpc=T.rpc/\(allocM C d T f).2.1.re=T.re/\(allocM C d T f).2.1.gpc=T.gpc/\(allocM C d T f).2.1.gh=T.gh/\(allocM C d T f).2.1.gg=T.gg/\(allocM C d T f).2.1.done=T.done/\(allocM C d T f).2.1.full=T.full:=by
 unfold allocM
 repeat' split
 all_goals exact ⟨rfl,rfl,rfl,rfl,rfl,rfl,rfl,rfl,rfl,rfl,rfl⟩
theorem allocM_state (C:Cf) (d:Dd) (T:Th) (f:Mem):(allocM C d T f).1=0\/(allocM C d T f).1=1\/(allocM C d T f).1=2\/(allocM C d T f).1=3\/(allocM C d T f).1=4:=by
 unfold allocM decS poolS lastS
 repeat' split
 all_goals first | exact .inl rfl | exact .inr (.inl rfl) | exact .inr (.inr (.inl rfl)) | exact .inr (.inr (.inr (.inl rfl))) | exact .inr (.inr (.inr (.inr rfl))) | (dsimp only; repeat' split)<;>simp
def Same (X X':Tm):Prop:=X'.thr=X.thr/\X'.c=X.c/\X'.q=X.q/\X'.u=X.u/\X'.dA=X.dA/\X'.dn=X.dn/\X'.dc=X.dc
section
variable {w0 w:World} {R:List Item} {C:Cf} {d:Dd} {X:Tm} {V:Wm} {T:Th} {f:Plc->Int} {G FU:Nat->Prop} {qc:Cnt} {n r b:Nat} {ml:List OneR}
theorem rePx (hn:n < maxLen) (hl:T.ql.length+1<=1000000) (he:InU T.re) (hs:In64 T.rs) (hE:Env w0 (boxI r (rtv X.c (nxR r T.rpc) T.rs T.re)::LT (SP C X V T f G qc n) R) w) :
  Calls prog 322 #[.pointer (some ⟨r,0,none⟩),.iface 26 (.pointer (some ⟨V.p,0,none⟩))] w fun o w'=>o=.returned (.int .i64 (retireM T f).1)/\∃ (F':Nat->Prop) (k':Nat) (G':Nat->Prop) (qc':Cnt) (n':Nat),Nx n qc n' qc'/\(((retireM T f).1=0/\Env w0 (boxI r (rtv X.c (nxR r (retireM T f).2.1.rpc) (retireM T f).2.1.rs (retireM T f).2.1.re)::LT (SP C { X with F:=F',kq:=k' } V (retireM T f).2.1 (retireM T f).2.2 G' qc' n') R) w')\/((retireM T f).1≠0/\Env w0 (LT (SP C { X with F:=F',kq:=k' } V (retireM T f).2.1 (retireM T f).2.2 G' qc' n') R) w')):=by
 by_cases h0:T.rpc=0
 ·have hal:retireM T f=(0,{ T with re:=f (1,0,0),rpc:=1 },f):=by unfold retireM; rw [if_pos h0]
  rw [hal];rw [h0] at hE;refine (step_ry (S:=SP C X V T f G qc n) 0 _ hE rfl (loadEpoch_r (S:=SP C X V T f G qc n) _ rfl (zH rfl) hE)).mono ?_;rintro o w1 ⟨rfl,hE1⟩;exact ⟨rfl,X.F,X.kq,G,_,n,⟨by omega,(by first | exact Or.inl ⟨rfl,rfl,rfl,rfl⟩ | exact Or.inr (Or.inl ⟨rfl,rfl,rfl,rfl⟩) | exact Or.inr (Or.inr (Or.inl ⟨rfl,rfl,rfl,rfl⟩)) | exact Or.inr (Or.inr (Or.inr ⟨rfl,rfl,rfl,rfl⟩)))⟩,.inl ⟨rfl,hE1⟩⟩
 ·have hal:retireM T f=(1,{ T with ql:=T.ql++[(T.rs,epI T.re,0)] },upd f (5,T.rs,1) T.re):=by unfold retireM; rw [if_neg h0]
  rw [hal];have hnx:nxR r T.rpc=nxR r 1:=by unfold nxR fnR; rw [if_neg h0,if_neg (by decide)]
  rw [hnx] at hE;refine (step_ry (S:=SP C X V T f G qc n) 1 _ hE rfl (store_r (S:=SP C X V T f G qc n) he hs hn (Nat.le_trans hl (by decide)) hE)).mono ?_;rintro o w1 ⟨rfl,k',F',G',-,hE1⟩;exact ⟨rfl,F',k',G',_,n+1,⟨Nat.le_refl _,(by first | exact Or.inl ⟨rfl,rfl,rfl,rfl⟩ | exact Or.inr (Or.inl ⟨rfl,rfl,rfl,rfl⟩) | exact Or.inr (Or.inr (Or.inl ⟨rfl,rfl,rfl,rfl⟩)) | exact Or.inr (Or.inr (Or.inr ⟨rfl,rfl,rfl,rfl⟩)))⟩,.inr ⟨show (1:Int)≠0 by decide,hE1⟩⟩
theorem reR (hl:T.ql.length+1<=1000000) (he:InU T.re) (hre:T.rpc≠0->epI T.re=T.re) (hpc:T.rpc=0\/T.rpc=1) (hml:ml.length<=999999) (hN:0<=X.N/\X.N<=4000000) (hE:Env w0 (boxI b (rrv T.rs (T.rpc:Int) T.re)::LU (SR C X V T FU ml) R) w) :
  Calls prog 138 #[.pointer (some ⟨b,0,none⟩),.pointer (some ⟨X.u,0,none⟩),.pointer (some ⟨V.m,0,none⟩)] w fun o w'=>o=.returned (.int .i64 (retireM T (getL ml)).1)/\∃ (A':Option Addr) (rc':Nat) (N':Int) (FU':Nat->Prop) (ml':List OneR),getL ml'=(retireM T (getL ml)).2.2/\ml'.length<=ml.length+1/\0<=N'/\N'<=4000000/\(((retireM T (getL ml)).1=0/\Env w0 (boxI b (rrv (retireM T (getL ml)).2.1.rs ((retireM T (getL ml)).2.1.rpc:Int) (retireM T (getL ml)).2.1.re)::LU (SR C { X with A:=A',rc:=rc',N:=N' } V (retireM T (getL ml)).2.1 FU' ml') R) w')\/((retireM T (getL ml)).1≠0/\Env w0 (LU (SR C { X with A:=A',rc:=rc',N:=N' } V (retireM T (getL ml)).2.1 FU' ml') R) w')):=by
 rcases hpc with h0 | h0
 ·have hal:retireM T (getL ml)=(0,{ T with re:=getL ml (1,0,0),rpc:=1 },getL ml):=by unfold retireM; rw [if_pos h0]
  rw [hal];rw [h0] at hE;refine (rret0 (U:=SR C X V T FU ml) _ rfl (by show ml.length<=1000000; omega) hE).mono ?_;rintro o w1 ⟨rfl,hE1⟩;exact ⟨rfl,X.A,X.rc,X.N,FU,ml,rfl,by omega,hN.1,hN.2,.inl ⟨rfl,hE1⟩⟩
 ·have hal:retireM T (getL ml)=(1,{ T with ql:=T.ql++[(T.rs,epI T.re,0)] },upd (getL ml) (5,T.rs,1) T.re):=by unfold retireM; rw [if_neg (by omega)]
  rw [hal];have hee:=hre (by omega);rw [h0] at hE;refine (rret1 (U:=SR C X V T FU ml) he (by show ml.length<=1000000; omega) (by show T.ql.length<=1000000; omega) (by show 0<=X.N/\X.N<=1099511627776; omega) hE).mono ?_;rintro o w1 ⟨rfl,F5,A',c',hE1⟩;have hNN:=roomN_in hN hl;have hms:(getL (setL ml (5,T.rs,1) (epI T.re)))=upd (getL ml) (5,T.rs,1) T.re:=by rw [getL_set,hee]
  exact ⟨rfl,A',c',_,F5,_,hms,setL_length _ _ _,hNN.1,hNN.2,.inr ⟨show (1:Int)≠0 by decide,hE1⟩⟩
theorem gePx (hg:Glo w0) (hn:n < maxLen) (hgh:InU T.gh) (hpc:T.gpc<=3) (hq:2<=T.gpc->∃ x y t,T.ql=(x,y,0)::t/\In64 x) (hE:Env w0 (boxI r (gvv X.c (nxG r T.gpc) T.gh T.gg)::LT (SP C X V T f G qc n) R) w) :
  Calls prog 58 #[.pointer (some ⟨r,0,none⟩),.iface 26 (.pointer (some ⟨V.p,0,none⟩))] w fun o w'=>o=.returned (.int .i64 (giveM C T f).1)/\∃ (G':Nat->Prop) (qc':Cnt) (n':Nat) (nx:Value × Value),Nx n qc n' qc'/\((giveM C T f).1=0->nx=nxG r (giveM C T f).2.1.gpc)/\Env w0 (boxI r (gvv X.c nx (giveM C T f).2.1.gh (giveM C T f).2.1.gg)::LT (SP C X V (giveM C T f).2.1 (giveM C T f).2.2 G' qc' n') R) w':=by
 rcases (show T.gpc=0\/T.gpc=1\/T.gpc=2\/T.gpc=3 by omega) with h0 | h0 | h0 | h0
 ·have hal:giveM C T f=(gdS T.ql,{ T with e:=epI (f (1,0,0)),gpc:=1 },f):=by unfold giveM; rw [if_pos h0]
  rw [hal];rw [h0] at hE;refine (step_gy (S:=SP C X V T f G qc n) 0 _ hE rfl (check_g (S:=SP C X V T f G qc n) _ rfl (zH rfl) hE)).mono ?_;rintro o w1 ⟨rfl,nx,hnx,hE1⟩;refine ⟨rfl,G,_,n,nx,⟨by omega,(by first | exact Or.inl ⟨rfl,rfl,rfl,rfl⟩ | exact Or.inr (Or.inl ⟨rfl,rfl,rfl,rfl⟩) | exact Or.inr (Or.inr (Or.inl ⟨rfl,rfl,rfl,rfl⟩)) | exact Or.inr (Or.inr (Or.inr ⟨rfl,rfl,rfl,rfl⟩)))⟩,fun h=>hnx ?_,hE1⟩;intro hq0;have hq1:T.ql=[]:=hq0;have h':gdS T.ql=0:=h;rw [hq1] at h';exact absurd h' (by decide)
 ·have hal:giveM C T f=(poolG (f (2,0,0)) C.l,{ T with gh:=f (2,0,0),gpc:=2 },f):=by unfold giveM; rw [if_neg (by omega),if_pos h0]
  rw [hal];rw [h0] at hE;refine (step_gy (S:=SP C X V T f G qc n) 1 _ hE rfl (loadPool_g (S:=SP C X V T f G qc n) _ rfl hg (zH rfl) hE)).mono ?_;rintro o w1 ⟨rfl,nx,hnx,hE1⟩;exact ⟨rfl,G,_,n,nx,⟨by omega,(by first | exact Or.inl ⟨rfl,rfl,rfl,rfl⟩ | exact Or.inr (Or.inl ⟨rfl,rfl,rfl,rfl⟩) | exact Or.inr (Or.inr (Or.inl ⟨rfl,rfl,rfl,rfl⟩)) | exact Or.inr (Or.inr (Or.inr ⟨rfl,rfl,rfl,rfl⟩)))⟩,hnx,hE1⟩
 ·obtain ⟨x,y,t,hql,hx⟩:=hq (by omega);have hal:giveM C T f=(0,{ T with gpc:=3 },upd f (5,x,2) (wordI false (slotI T.gh) 0)):=by unfold giveM; rw [if_neg (by omega),if_neg (by omega),if_pos h0,hql]; rfl
  rw [hal];rw [h0] at hE;refine (step_gy (S:=SP C X V T f G qc n) 2 _ hE rfl (storeChain_g (S:=SP C X V T f G qc n) x y t hql hx hgh hg hn (zH rfl) hE)).mono ?_;rintro o w1 ⟨rfl,G',hE1⟩;exact ⟨rfl,G',_,n+1,_,⟨Nat.le_refl _,(by first | exact Or.inl ⟨rfl,rfl,rfl,rfl⟩ | exact Or.inr (Or.inl ⟨rfl,rfl,rfl,rfl⟩) | exact Or.inr (Or.inr (Or.inl ⟨rfl,rfl,rfl,rfl⟩)) | exact Or.inr (Or.inr (Or.inr ⟨rfl,rfl,rfl,rfl⟩)))⟩,fun _=>rfl,hE1⟩
 ·obtain ⟨x,y,t,hql,hx⟩:=hq (by omega);rw [h0] at hE
  by_cases hx2:f (2,0,0)=T.gh
  ·have hal:giveM C T f=(gdS t,{ T with ql:=t,gg:=wrap64 (T.gg+1),gpc:=1 },swf f (2,0,0) T.gh (nextW T.gh x)):=by unfold giveM; rw [if_neg (by omega),if_neg (by omega),if_neg (by omega),if_pos hx2,hql]; rfl
   rw [hal];refine (step_gy (S:=SP C X V T f G qc n) 3 _ hE rfl (putYes_g (S:=SP C X V T f G qc n) x y t hql hx2 hgh hg hn (zH rfl) hE)).mono ?_;rintro o w1 ⟨rfl,nx,G',hnx,hE1⟩;refine ⟨rfl,G',_,n+1,nx,⟨Nat.le_refl _,(by first | exact Or.inl ⟨rfl,rfl,rfl,rfl⟩ | exact Or.inr (Or.inl ⟨rfl,rfl,rfl,rfl⟩) | exact Or.inr (Or.inr (Or.inl ⟨rfl,rfl,rfl,rfl⟩)) | exact Or.inr (Or.inr (Or.inr ⟨rfl,rfl,rfl,rfl⟩)))⟩,fun h=>hnx ?_,hE1⟩;intro hq0;have h':gdS t=0:=h;rw [hq0] at h';exact absurd h' (by decide)
  ·have hal:giveM C T f=(0,{ T with gpc:=1 },swf f (2,0,0) T.gh (nextW T.gh x)):=by unfold giveM; rw [if_neg (by omega),if_neg (by omega),if_neg (by omega),if_neg hx2,hql]; rfl
   rw [hal];refine (step_gy (S:=SP C X V T f G qc n) 3 _ hE rfl (putNo_g (S:=SP C X V T f G qc n) x y t hql hx2 hgh hg hn (zH rfl) hE)).mono ?_;rintro o w1 ⟨rfl,G',hE1⟩;exact ⟨rfl,G',_,n+1,_,⟨Nat.le_refl _,(by first | exact Or.inl ⟨rfl,rfl,rfl,rfl⟩ | exact Or.inr (Or.inl ⟨rfl,rfl,rfl,rfl⟩) | exact Or.inr (Or.inr (Or.inl ⟨rfl,rfl,rfl,rfl⟩)) | exact Or.inr (Or.inr (Or.inr ⟨rfl,rfl,rfl,rfl⟩)))⟩,fun _=>rfl,hE1⟩
theorem geR (hl:T.ql.length+1<=1000000) (hgh:InU T.gh) (hfu:∀ x,InU (getL ml x)) (hpc:T.gpc<=3) (hq:2<=T.gpc->∃ x y t,T.ql=(x,y,0)::t/\0<=x/\x<=8388607) (hv:T.gpc=3->verI T.gh < 1099511627775) (hml:ml.length<=999999) (hN:0<=X.N/\X.N<=4000000) (hE:Env w0 (boxI b (rgv (T.gpc:Int) T.gh T.gg)::LU (SR C X V T FU ml) R) w) :
  Calls prog 59 #[.pointer (some ⟨b,0,none⟩),.pointer (some ⟨X.u,0,none⟩),.pointer (some ⟨V.m,0,none⟩)] w fun o w'=>o=.returned (.int .i64 (giveM C T (getL ml)).1)/\∃ (A':Option Addr) (rc':Nat) (FU':Nat->Prop) (ml':List OneR) (pc':Int),getL ml'=(giveM C T (getL ml)).2.2/\ml'.length<=ml.length+1/\((giveM C T (getL ml)).1=0->pc'=((giveM C T (getL ml)).2.1.gpc:Int))/\Env w0 (boxI b (rgv pc' (giveM C T (getL ml)).2.1.gh (giveM C T (getL ml)).2.1.gg)::LU (SR C { X with A:=A',rc:=rc' } V (giveM C T (getL ml)).2.1 FU' ml') R) w':=by
 rcases (show T.gpc=0\/T.gpc=1\/T.gpc=2\/T.gpc=3 by omega) with h0 | h0 | h0 | h0
 ·have hal:giveM C T (getL ml)=(gdS T.ql,{ T with e:=epI (getL ml (1,0,0)),gpc:=1 },getL ml):=by unfold giveM; rw [if_pos h0]
  rw [hal];rw [h0] at hE;refine (rgive0 (U:=SR C X V T FU ml) _ rfl (hfu _) (by show ml.length<=1000000; omega) hE).mono ?_;rintro o w1 ⟨rfl,hE1⟩;exact ⟨rfl,X.A,X.rc,FU,ml,1,rfl,by omega,fun _=>rfl,hE1⟩
 ·have hal:giveM C T (getL ml)=(poolG (getL ml (2,0,0)) C.l,{ T with gh:=getL ml (2,0,0),gpc:=2 },getL ml):=by unfold giveM; rw [if_neg (by omega),if_pos h0]
  rw [hal];rw [h0] at hE;refine (rgive1 (U:=SR C X V T FU ml) _ rfl (hfu _) (by show ml.length<=1000000; omega) hE).mono ?_;rintro o w1 ⟨rfl,pc',hpc',hE1⟩;exact ⟨rfl,X.A,X.rc,FU,ml,pc',rfl,by omega,hpc',hE1⟩
 ·obtain ⟨x,y,t,hql,hx⟩:=hq (by omega);have hal:giveM C T (getL ml)=(0,{ T with gpc:=3 },upd (getL ml) (5,x,2) (wordI false (slotI T.gh) 0)):=by unfold giveM; rw [if_neg (by omega),if_neg (by omega),if_pos h0,hql]; rfl
  rw [hal];rw [h0] at hE;refine (rgive2 (U:=SR C X V T FU ml) x y t hql hgh (by show ml.length<=1000000; omega) hE).mono ?_;rintro o w1 ⟨rfl,F5,hE1⟩;exact ⟨rfl,X.A,X.rc,F5,_,3,getL_set _ _ _,setL_length _ _ _,fun _=>rfl,hE1⟩
 ·obtain ⟨x,y,t,hql,hx⟩:=hq (by omega);have hnx:=nextW_word hx (hv h0);rw [h0] at hE
  by_cases hx2:getL ml (2,0,0)=T.gh
  ·have hal:giveM C T (getL ml)=(gdS t,{ T with ql:=t,gg:=wrap64 (T.gg+1),gpc:=1 },swf (getL ml) (2,0,0) T.gh (nextW T.gh x)):=by unfold giveM; rw [if_neg (by omega),if_neg (by omega),if_neg (by omega),if_pos hx2,hql]; rfl
   rw [hal,hnx];rw [hql] at hl;refine (rgive3Yes (U:=SR C X V T FU ml) x y t hql hx2 (by simp at hl; omega) hgh (by show ml.length<=1000000; omega) hE).mono ?_;rintro o w1 ⟨rfl,F5,A',c',hE1⟩;exact ⟨rfl,A',c',F5,_,1,(swf_getL _ _ _ _).symm,swL_length _ _ _ _,fun _=>rfl,hE1⟩
  ·have hal:giveM C T (getL ml)=(0,{ T with gpc:=1 },swf (getL ml) (2,0,0) T.gh (nextW T.gh x)):=by unfold giveM; rw [if_neg (by omega),if_neg (by omega),if_neg (by omega),if_neg hx2,hql]; rfl
   rw [hal,hnx];refine (rgive3No (U:=SR C X V T FU ml) x y t hql hx2 hgh (by show ml.length<=1000000; omega) hE).mono ?_;rintro o w1 ⟨rfl,F5,hE1⟩;exact ⟨rfl,X.A,X.rc,F5,_,1,(swf_getL _ _ _ _).symm,swL_length _ _ _ _,fun _=>rfl,hE1⟩
end
theorem rmarked_any (x:Int) (w:World) (hx:InU x) :
  Calls prog 177 #[.int .u64 x] w fun o w'=>o=.returned (.bool (markB x))/\Below w.heap.size w w':=by
 unfold InU at hx;have hfm:∀ (v:World) (m:Bool) (s b:Int),(Instr.field 199 (.agg #[.bool m,.int .i64 s,.int .i64 b]) 0).run prog v=.ok (.bool m) v:=fun v m s b=>by kernel_rfl
 go_enter func177,ntmps177;go_wp2_with fail;refine (refOf_any x _ hx.1 hx.2).mono ?_;rintro o w1 ⟨rfl,hb⟩;go_wp2_with fail;go_ret;exact ⟨rfl,hb⟩
section
variable {w:World} {u n c:Nat} {A:Option Addr} {k s b h l e N hs r:Int}
theorem rto_c (a:Int) (hb:Blk 0 w u (urv k s b h l e A n c N hs r)) :
  Calls prog 121 #[.pointer (some ⟨u,0,none⟩),.int .i64 a] w fun o w'=>o=.returned (.int .u64 (wordI false a e))/\Below w.heap.size w w':=by
 have r1:=hb.rule;unfold urv at r1;clear hb;go_enter func121,ntmps121;go_wp2_with fail;refine (refWord_any false a e _).mono ?_;rintro o w1 ⟨rfl,hb⟩;go_wp2_with fail;go_ret;exact ⟨rfl,hb⟩
theorem rmark_c (x a:Int) (hx:InU x) (hb:Blk 0 w u (urv k s b h l e A n c N hs r)) :
  Calls prog 154 #[.pointer (some ⟨u,0,none⟩),.int .u64 x,.int .i64 a] w fun o w'=>o=.returned (.int .u64 (markedW x a e))/\Below w.heap.size w w':=by
 cases hB:markB x
 ·have hm:markedW x a e=wordI true a e:=by simp [markedW,hB]
  have HB:=zH hB;have HM:=zH hm;have HX:=zH hx;clear hB hm hx;go_enter func154,ntmps154;go_wp2_with fail;refine (rmarked_any x _ HX.out).mono ?_;rintro o w1 ⟨rfl,hb1⟩;rw [HB.out];have r1:=(hb.under hb1).rule;unfold urv at r1;clear hb;go_wp2_with fail;refine (refWord_any true a e _).mono ?_;rintro o w2 ⟨rfl,hb2⟩;go_wp2_with fail;go_ret;exact ⟨ret_int HM.out.symm,hb1.trans (hb2.mono hb1.size)⟩
 ·have hm:markedW x a e=x:=by simp [markedW,hB]
  have HB:=zH hB;have HM:=zH hm;have HX:=zH hx;clear hB hm hx hb;go_enter func154,ntmps154;go_wp2_with fail;refine (rmarked_any x _ HX.out).mono ?_;rintro o w1 ⟨rfl,hb1⟩;rw [HB.out];go_wp2_with fail;go_ret;exact ⟨ret_int HM.out.symm,hb1⟩
end
theorem ok_wrap {x e:Int} (hx:InU x) (h0:0<=e) (h1:e<=9223372036854775807):(x==IntKind.u64.wrap e)=okB x e:=by
 unfold InU at hx;have hw:IntKind.u64.wrap e=e:=by rw [IntKind.wrap_u64]; omega
 rw [hw];unfold okB epB epI
 by_cases h:x<=9223372036854775807
 ·simp [h]
 ·simp [h]; omega
section
variable {w0 w:World} {L:List Item} {u m n c:Nat} {F:Nat->Prop} {ml:List OneR} {A:Option Addr} {k s b h l e N hs r:Int}
theorem rvalid_w (x:Int) (hmx:getL ml (1,0,0)=x) (hx:InU x) (h0:0<=e) (h1:e<=9223372036854775807) (hml:ml.length<=1000000) (i j:Nat) (hE:Env w0 L w) (hi:L[i]?=some (boxI u (urv k s b h l e A n c N hs r))) (hj:L[j]?=some (refI m F ml)) :
  Calls prog 176 #[.pointer (some ⟨u,0,none⟩),.pointer (some ⟨m,0,none⟩)] w fun o w'=>o=.returned (.bool (okB x e))/\Env w0 (L.set i (boxI u (urv k s b h l e A n c N hs (if okB x e then r else wrap64 (r+1))))) w':=by
 have hok:=ok_wrap hx h0 h1;have hsame:∀ w',Env w0 L w'->Env w0 (L.set i (boxI u (urv k s b h l e A n c N hs r))) w':=fun w' h=>by
  rw [set_same hi]; exact h
 have HS:=zH hsame;clear hsame hx;generalize hR:(if okB x e then r else wrap64 (r+1))=R;generalize okB x e=B at *;have HR:=zH hR;have HCB:Hid (∀ v,Env w0 L v->∀ z,v.cell? ⟨u,z,none⟩=(urv k s b h l e A n c N hs r)[z]?):=zH fun v hv=>hv.rule i hi;unfold urv at HCB;have HGC:Hid (∀ v,Env w0 L v->Calls prog 80 #[.pointer (some ⟨m,0,none⟩),.agg #[.int .i64 1,.int .i64 0,.int .i64 0]] v fun o w'=>o=.returned (.int .u64 x)/\Below v.heap.size v w'):=zH fun v hv=>by
  have:=refGet_any 1 0 0 hml (hv.ref j hj);rw [hmx] at this;exact this
 have HOK:=zH hok;clear hR hok hmx;go_enter func176,ntmps176;go_wp2_with fail;have hok:=HOK.out;refine wp_text (S:=(Env w0 L)) (by kernel_rfl) (by kernel_rfl) hE.drew (fun hT=>?_);have hT9:=zH hT;clear hT
 repeat ((first
  | (refine text_value (v:=?_) hT9.o (by rfl) ?_ ?_; rotate_left; (intro w5 hS; have r1:=HCB.out _ hS; go_simp<;>rfl))
  | (refine text_off hT9.o (by rfl) ?_)
  | (refine text_call (v:=?_) (f:=?_) (args:=?_) hT9.o (by rfl) ?_ ?_ ?_; rotate_left 3; (intro w5 hS; have r1:=HCB.out _ hS; go_simp; constructor<;>rfl); (intro w5 hS; (first | (with_reducible refine kp (epoch13_any _) ?_ ?_; rfl; exact fun w6 hb5=>hS.over hb5) | (with_reducible refine kp (HGC.out _ hS) ?_ ?_; rfl; exact fun w6 hb5=>hS.over hb5)))));try simp only [Act.put,zA,zZ,zS])
 refine InText.nil fun w5 hS5=>?_;clear hT9;clear hE;have HE:=zH hS5;clear hS5;cases B
 ·have HR2:=HR.out;simp only [Bool.false_eq_true,if_false] at HR2;subst HR2;have hE:=HE.out;have r1:=HCB.out _ hE;have ff:=hE.thaw i hi;have f9:=ff 9 (by simp [urv]);clear ff HOK HR;go_wp2_with fail;go_ret;exact ⟨rfl,hE.put i hi (j:=9) (by simp [urv]) (.int .i64 (wrap64 (r+1)))⟩
 ·have HR2:=HR.out;simp only [if_true] at HR2;subst HR2;clear HOK;go_wp2_with fail;go_ret;exact ⟨rfl,HS.out _ HE.out⟩
end
end
end Go.Proofs.YtdknbegcflldjaaGreatDoor
