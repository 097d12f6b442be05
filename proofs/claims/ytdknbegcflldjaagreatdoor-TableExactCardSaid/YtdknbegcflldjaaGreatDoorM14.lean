/- What is proved on the way to the statement, part 14: contracts of the functions, among other things in memory. -/
import Derived.Test.YtdknbegcflldjaaGreatDoorM13

open _root_.Go.Proofs.Tryz
set_option maxRecDepth 100000
set_option maxHeartbeats 25600000
namespace Go.Proofs.YtdknbegcflldjaaGreatDoor
section
open Go.RowKit Go.Maps
section
variable {w0 w:World} {R L:List Item} {q a l b sb u m:Nat} {U:SU} {kd key val lv pc er vl k:Int} {vs on:Bool} {lp ps pa pl pu:Option Addr} {dn:Bool} {x y z lpc W X K V Cc:Int} {fd:Bool}
theorem rt1 (Q:Int->World->Prop) (hE:Env w0 (boxI q (rtC kd key val lv 1 (some ⟨sb,0,none⟩) pa pl pu er dn vl)::boxI sb (rsC k key vs on lp)::L) w)
  (hc:Calls prog 105 #[.pointer (some ⟨sb,0,none⟩),.pointer (some ⟨u,0,none⟩),.pointer (some ⟨m,0,none⟩)] w fun o w1=>∃ s,o=.returned (.int .i64 s)/\(s=0\/s=1)/\(s=0->Q 0 w1)/\(s=1->Calls prog 120 #[.pointer (some ⟨q,0,none⟩),.pointer (some ⟨u,0,none⟩)] w1 fun o2 w2=>∃ s2,o2=.returned (.int .i64 s2)/\Q s2 w2)) :
  Calls prog 71 #[.pointer (some ⟨q,0,none⟩),.pointer (some ⟨u,0,none⟩),.pointer (some ⟨m,0,none⟩)] w fun o w'=>∃ s,o=.returned (.int .i64 s)/\Q s w':=by
 have r:=hE.rule 0 rfl;have rs:=hE.rule 1 rfl;unfold rtC at r;unfold rsC at rs;have HC:=zH hc;clear hc hE;go_enter func71,ntmps71;go_wp2_with fail;refine HC.out.mono ?_;rintro e w1 ⟨s,rfl,hs,h0,h1⟩
 rcases hs with rfl | rfl
 ·have hq:=h0 rfl;clear h0 h1 HC;go_wp2_with fail;go_ret;exact ⟨0,rfl,hq⟩
 ·have HF:=zH (h1 rfl);clear h0 h1 HC;go_wp2_with fail;refine HF.out.mono ?_;rintro e w2 ⟨s2,rfl,hq⟩;go_wp2_with fail;go_ret;exact ⟨s2,rfl,hq⟩
theorem rt0 {rt:Int} (hky:InU key) (hcb:1<=U.cb/\U.cb<=64) (hrt:buI U.cb key=rt) (Q:Int->World->Prop) (hE:Env w0 (boxI q (rtC kd key val lv 0 ps pa pl pu er dn vl)::LU U R) w)
  (hc:∀ sb v,Env w0 (boxI q (rtC kd key val lv 1 (some ⟨sb,0,none⟩) pa pl pu er dn vl)::boxI sb (rsC rt key true false none)::LU U R) v->Calls prog 105 #[.pointer (some ⟨sb,0,none⟩),.pointer (some ⟨U.u,0,none⟩),.pointer (some ⟨m,0,none⟩)] v fun o w1=>o=.returned (.int .i64 0)/\Q 0 w1) :
  Calls prog 71 #[.pointer (some ⟨q,0,none⟩),.pointer (some ⟨U.u,0,none⟩),.pointer (some ⟨m,0,none⟩)] w fun o w'=>∃ s,o=.returned (.int .i64 s)/\Q s w':=by
 have r:=hE.rule 0 rfl;unfold rtC at r;have HC0:=zH hc;have hrt9:=fun (v:World) (h:Env w0 (boxI q (rtC kd key val lv 0 ps pa pl pu er dn vl)::LU U R) v)=>rroot hky hcb (h.get 0 rfl) (h.get 1 rfl);rw [hrt] at hrt9;have HR:=zH hrt9;have HC:=zH fun (v:World) (h:Env w0 (boxI q (rtC kd key val lv 0 ps pa pl pu er dn vl)::LU U R) v)=>ragain (k:=rt) (vs:=true) h;clear hc hky hcb hrt hrt9;go_enter func71,ntmps71;go_wp2_with fail;clear r;refine Ord3.wp_chain [?_,?_,?_,?_,?_,?_,?_] [5,6] (fun _=>True) (Ord3.Stage fun κs=>[Env w0 (boxI q (rtC kd key val lv 0 ps pa pl pu er dn vl)::LU U R),Env w0 (boxI q (rtC kd key val lv 0 ps pa pl pu er dn vl)::LU U R),(fun w'=>∃ sb,Env w0 (boxI q (rtC kd key val lv 1 (some ⟨sb,0,none⟩) pa pl pu er dn vl)::boxI sb (rsC rt key true false none)::LU U R) w')]) (by kernel_rfl) (by kernel_rfl) (by kernel_rfl) trivial ⟨_,rfl,hE.drew⟩ (fun hT=>?_);rotate_left 7;have hT9:=zH hT;clear hT
 repeat ((first
  | (focus (refine Ord3.in_value (v:=?_) hT9.o (by decide) ?_ (by rfl) ?_ ?_; rotate_left 2; (intro w5 hS; skip; go_simp<;>rfl); rotate_right; (focus rfl)))
  | (focus (refine Ord3.in_off hT9.o (by decide) ?_ (by rfl) ?_; (focus rfl))));try simp only [Act.put,zA,zZ,zS])
 refine Ord3.in_turn (fun x=>x=.int .i64 rt) _ rfl hT9.o rfl (by decide) (by rfl) ?_ (Or.inl rfl) (by rfl) ?_ ?_
 ·rfl
 ·rintro w7 hC7 ⟨P7,hP7,hA7⟩;cases hP7;go_simp;simp only [Ord3.Lands];refine (HR.out _ hA7).mono ?_;rintro o w8 ⟨rfl,hb8⟩;exact ⟨_,rfl,rfl,_,rfl,hA7.over hb8⟩
 rintro _ rfl
 try simp only [Act.put,zA,zZ,zS]
 repeat ((first
  | (focus (refine Ord3.in_value (v:=?_) hT9.o (by decide) ?_ (by rfl) ?_ ?_; rotate_left 2; (intro w5 hS; skip; go_simp<;>rfl); rotate_right; (focus rfl)))
  | (focus (refine Ord3.in_off hT9.o (by decide) ?_ (by rfl) ?_; (focus rfl))));try simp only [Act.put,zA,zZ,zS])
 refine Ord3.in_turn (fun x=>x=.int .i64 0) _ rfl hT9.o rfl (by decide) (by rfl) ?_ (Or.inr ⟨_,5,[],rfl,by kernel_rfl,by kernel_rfl,rfl⟩) (by rfl) ?_ ?_
 ·rfl
 ·rintro w7 hC7 ⟨P7,hP7,hA7⟩;cases hP7;go_simp;simp only [Ord3.Lands];refine (HC.out _ hA7).mono ?_;rintro o w8 ⟨rfl,hA8⟩;exact ⟨_,rfl,rfl,_,rfl,hA8⟩
 rintro _ rfl
 try simp only [Act.put,zA,zZ,zS]
 refine Ord3.in_nil rfl ?_;rintro w9 hC9 ⟨P9,hP9,hA9⟩;cases hP9;clear hT9 hC9;obtain ⟨sb,hE1⟩:=hA9;clear hE HR HC;have r:=hE1.rule 0 rfl;have rs:=hE1.rule 1 rfl;unfold rtC at r;unfold rsC at rs;have HC2:=zH (HC0.out sb _ hE1);clear HC0 hE1;go_wp2_with fail;refine HC2.out.mono ?_;rintro e w2 ⟨rfl,hq⟩;go_wp2_with fail;go_ret;exact ⟨0,rfl,hq⟩
theorem rt2 {rt:Int} (s s2:Int) (A1 A2:World->Prop) (hE:Env w0 (boxI q (rtC kd key val lv 2 (some ⟨sb,0,none⟩) (some ⟨a,0,none⟩) pl pu er dn vl)::boxI sb (rsC k key vs true lp)::L) w)
  (hq:∀ v,A1 v->Blk 0 v q (rtC kd key val lv 2 (some ⟨sb,0,none⟩) (some ⟨a,0,none⟩) pl pu er dn vl)) (hq2:∀ v,A2 v->∃ sp9 pc9 e9,Blk 0 v q (rtC kd key val lv pc9 sp9 (some ⟨a,0,none⟩) pl pu e9 dn vl))
  (hr:∀ v,A1 v->Calls prog 119 #[.pointer (some ⟨q,0,none⟩),.pointer (some ⟨u,0,none⟩)] v fun e v'=>e=.returned (.int .i64 rt)/\A1 v')
  (hc:∀ v,Env w0 (boxI q (rtC kd key val lv 2 (some ⟨sb,0,none⟩) (some ⟨a,0,none⟩) pl pu er dn vl)::boxI sb (rsC k key vs true lp)::L) v->Calls prog 108 #[.pointer (some ⟨a,0,none⟩),.pointer (some ⟨u,0,none⟩),.pointer (some ⟨m,0,none⟩),.agg #[.int .i64 kd,.int .u64 key,.int .u64 val,.int .i64 lv]] v fun o w1=>o=.returned (.int .i64 s)/\A1 w1)
  (hc2:∀ v,A1 v->Calls prog 107 #[.pointer (some ⟨q,0,none⟩),.int .i64 s,.int .i64 rt,.bool true] v fun o w1=>o=.returned (.int .i64 s2)/\A2 w1) :
  Calls prog 71 #[.pointer (some ⟨q,0,none⟩),.pointer (some ⟨u,0,none⟩),.pointer (some ⟨m,0,none⟩)] w fun o w'=>o=.returned (.int .i64 s2)/\A2 w':=by
 have r:=hE.rule 0 rfl;have rs:=hE.rule 1 rfl;unfold rtC at r;unfold rsC at rs;have HC:=zH hc;have HC2:=zH hc2;have HR:=zH hr;have HQ:=zH hq;have HQ2:=zH hq2;clear hc hc2 hq hq2 hr;go_enter func71,ntmps71;go_wp2_with fail;clear r rs;refine Ord3.wp_chain [?_,?_,?_,?_,?_,?_,?_,?_,?_,?_,?_,?_,?_,?_,?_,?_,?_,?_,?_,?_,?_] [15,18,19] (fun w'=>∃ sp9 pc9 e9,Blk 0 w' q (rtC kd key val lv pc9 sp9 (some ⟨a,0,none⟩) pl pu e9 dn vl)) (Ord3.Stage fun κs=>[Env w0 (boxI q (rtC kd key val lv 2 (some ⟨sb,0,none⟩) (some ⟨a,0,none⟩) pl pu er dn vl)::boxI sb (rsC k key vs true lp)::L),A1,A1,A2]) (by kernel_rfl) (by kernel_rfl) (by kernel_rfl) ⟨some ⟨sb,0,none⟩,2,er,hE.drew.get 0 rfl⟩ ⟨_,rfl,hE.drew⟩ (fun hT=>?_);rotate_left 21;have hT9:=zH hT;clear hT
 repeat ((first
  | (focus (refine Ord3.in_value (v:=?_) hT9.o (by decide) ?_ (by rfl) ?_ ?_; rotate_left 2; (intro w5 hS; obtain ⟨sp9,pc9,e9,hS9⟩:=hS; have r1:=Blk.rule hS9; unfold rtC at r1; go_simp<;>rfl); rotate_right; (focus rfl)))
  | (focus (refine Ord3.in_off hT9.o (by decide) ?_ (by rfl) ?_; (focus rfl))));try simp only [Act.put,zA,zZ,zS])
 refine Ord3.in_turn (fun x=>x=.int .i64 s) _ rfl hT9.o rfl (by decide) (by rfl) ?_ (Or.inl rfl) (by rfl) ?_ ?_
 ·rfl
 ·rintro w7 hC7 ⟨P7,hP7,hA7⟩;cases hP7;go_simp;simp only [Ord3.Lands];refine (HC.out _ hA7).mono ?_;rintro o w8 ⟨rfl,hA8⟩;exact ⟨_,rfl,rfl,⟨_,_,_,HQ.out _ hA8⟩,_,rfl,hA8⟩
 rintro _ rfl
 try simp only [Act.put,zA,zZ,zS]
 repeat ((first
  | (focus (refine Ord3.in_value (v:=?_) hT9.o (by decide) ?_ (by rfl) ?_ ?_; rotate_left 2; (intro w5 hS; obtain ⟨sp9,pc9,e9,hS9⟩:=hS; have r1:=Blk.rule hS9; unfold rtC at r1; go_simp<;>rfl); rotate_right; (focus rfl)))
  | (focus (refine Ord3.in_off hT9.o (by decide) ?_ (by rfl) ?_; (focus rfl))));try simp only [Act.put,zA,zZ,zS])
 refine Ord3.in_turn (fun x=>x=.int .i64 rt) _ rfl hT9.o rfl (by decide) (by rfl) ?_ (Or.inr ⟨_,15,[],rfl,by kernel_rfl,by kernel_rfl,rfl⟩) (by rfl) ?_ ?_
 ·rfl
 ·rintro w7 hC7 ⟨P7,hP7,hA7⟩;cases hP7;go_simp;simp only [Ord3.Lands];refine (HR.out _ hA7).mono ?_;rintro o w8 ⟨rfl,hA8⟩;exact ⟨_,rfl,rfl,⟨_,_,_,HQ.out _ hA8⟩,_,rfl,hA8⟩
 rintro _ rfl
 try simp only [Act.put,zA,zZ,zS]
 refine Ord3.in_turn (fun x=>x=.int .i64 s2) _ rfl hT9.o rfl (by decide) (by rfl) ?_ (Or.inr ⟨_,18,[],rfl,by kernel_rfl,by kernel_rfl,rfl⟩) (by rfl) ?_ ?_
 ·rfl
 ·rintro w7 hC7 ⟨P7,hP7,hA7⟩;cases hP7;go_simp;simp only [Ord3.Lands];refine (HC2.out _ hA7).mono ?_;rintro o w8 ⟨rfl,hA8⟩;exact ⟨_,rfl,rfl,HQ2.out _ hA8,_,rfl,hA8⟩
 rintro _ rfl
 try simp only [Act.put,zA,zZ,zS]
 repeat ((first
  | (focus (refine Ord3.in_value (v:=?_) hT9.o (by decide) ?_ (by rfl) ?_ ?_; rotate_left 2; (intro w5 hS; skip; go_simp<;>rfl); rotate_right; (focus rfl)))
  | (focus (refine Ord3.in_off hT9.o (by decide) ?_ (by rfl) ?_; (focus rfl))));try simp only [Act.put,zA,zZ,zS])
 refine Ord3.in_nil rfl ?_;rintro w9 hC9 ⟨P9,hP9,hA9⟩;cases hP9;clear hT9 hC9 hE;have HA:=zH hA9;clear hA9;go_wp2_with fail;go_ret;exact ⟨rfl,HA.out⟩
theorem rt3 (s:Int) (hs:s=0\/s=1) (Y:World->Prop) (hE:Env w0 (boxI q (rtC kd key val lv 3 (some ⟨sb,0,none⟩) pa (some ⟨l,0,none⟩) pu er dn vl)::boxI sb (rsC k key vs true lp)::L) w)
  (hc:Calls prog 109 #[.pointer (some ⟨l,0,none⟩),.pointer (some ⟨u,0,none⟩),.pointer (some ⟨m,0,none⟩)] w fun o w1=>o=.returned (.int .i64 s)/\∃ L1,Env w0 (boxI q (rtC kd key val lv 3 (some ⟨sb,0,none⟩) pa (some ⟨l,0,none⟩) pu er dn vl)::L1) w1/\∀ v,Env w0 (boxI q (rtC kd key val lv 3 (some ⟨sb,0,none⟩) pa (some ⟨l,0,none⟩) pu er (decide (s=1/\kd=5)) vl)::L1) v->Y v) :
  Calls prog 71 #[.pointer (some ⟨q,0,none⟩),.pointer (some ⟨u,0,none⟩),.pointer (some ⟨m,0,none⟩)] w fun o w'=>o=.returned (.int .i64 s)/\Y w':=by
 have r:=hE.rule 0 rfl;have rs:=hE.rule 1 rfl;unfold rtC at r;unfold rsC at rs;have HC:=zH hc;clear hc hE;go_enter func71,ntmps71;go_wp2_with fail;refine HC.out.mono ?_;rintro e w1 ⟨rfl,L1,hE1,hY⟩;have HY:=zH hY;clear hY HC r rs;have r:=hE1.rule 0 rfl;unfold rtC at r;have f:=hE1.thaw 0 rfl 10 (by simp [rtC])
 rcases hs with rfl | rfl
 ·have hP:=hE1.put 0 rfl (j:=10) (by simp [rtC]) (.bool false);go_wp2_with fail;go_ret;exact ⟨rfl,HY.out _ hP⟩
 ·by_cases h5:kd=5
  ·have b5:(kd==5)=true:=by simpa using h5
   have hd:decide ((1:Int)=1/\kd=5)=true:=by simpa using h5
   have hP:=hE1.put 0 rfl (j:=10) (by simp [rtC]) (.bool true);rw [hd] at HY;clear h5 hd;go_wp2_with fail;go_ret;exact ⟨rfl,HY.out _ hP⟩
  ·have b5:(kd==5)=false:=by simpa using h5
   have hd:decide ((1:Int)=1/\kd=5)=false:=by simpa using h5
   have hP:=hE1.put 0 rfl (j:=10) (by simp [rtC]) (.bool false);rw [hd] at HY;clear h5 hd;go_wp2_with fail;go_ret;exact ⟨rfl,HY.out _ hP⟩
theorem rt3a {rt:Int} (Y:World->Prop) (hE:Env w0 (boxI q (rtC kd key val lv 3 (some ⟨sb,0,none⟩) pa (some ⟨l,0,none⟩) pu er dn vl)::boxI sb (rsC k key vs true lp)::L) w)
  (hc:Calls prog 109 #[.pointer (some ⟨l,0,none⟩),.pointer (some ⟨u,0,none⟩),.pointer (some ⟨m,0,none⟩)] w fun o w1=>o=.returned (.int .i64 2)/\∃ L1,Env w0 L1 w1/\(∀ v,Env w0 L1 v->Calls prog 119 #[.pointer (some ⟨q,0,none⟩),.pointer (some ⟨u,0,none⟩)] v fun e v'=>e=.returned (.int .i64 rt)/\Env w0 L1 v')/\∀ v,Env w0 L1 v->Calls prog 104 #[.pointer (some ⟨q,0,none⟩),.int .i64 rt,.bool true] v fun o2 w2=>o2=.returned (.int .i64 0)/\Y w2) :
  Calls prog 71 #[.pointer (some ⟨q,0,none⟩),.pointer (some ⟨u,0,none⟩),.pointer (some ⟨m,0,none⟩)] w fun o w'=>o=.returned (.int .i64 0)/\Y w':=by
 have r:=hE.rule 0 rfl;have rs:=hE.rule 1 rfl;unfold rtC at r;unfold rsC at rs;have HC0:=zH hc;clear hc hE;go_enter func71,ntmps71;go_wp2_with fail;refine HC0.out.mono ?_;rintro e w1 ⟨rfl,L1,hE,hr,hA⟩;have HR:=zH hr;have HC:=zH hA;clear hA hr HC0 r rs;go_wp2_with fail;refine Ord3.wp_chain [?_,?_,?_,?_,?_,?_,?_,?_] [5,6] (fun _=>True) (Ord3.Stage fun κs=>[Env w0 L1,Env w0 L1,Y]) (by kernel_rfl) (by kernel_rfl) (by kernel_rfl) trivial ⟨_,rfl,hE.drew⟩ (fun hT=>?_);rotate_left 8;have hT9:=zH hT;clear hT
 repeat ((first
  | (focus (refine Ord3.in_value (v:=?_) hT9.o (by decide) ?_ (by rfl) ?_ ?_; rotate_left 2; (intro w5 hS; skip; go_simp<;>rfl); rotate_right; (focus rfl)))
  | (focus (refine Ord3.in_off hT9.o (by decide) ?_ (by rfl) ?_; (focus rfl))));try simp only [Act.put,zA,zZ,zS])
 refine Ord3.in_turn (fun x=>x=.int .i64 rt) _ rfl hT9.o rfl (by decide) (by rfl) ?_ (Or.inl rfl) (by rfl) ?_ ?_
 ·rfl
 ·rintro w7 hC7 ⟨P7,hP7,hA7⟩;cases hP7;go_simp;simp only [Ord3.Lands];refine (HR.out _ hA7).mono ?_;rintro o w8 ⟨rfl,hb8⟩;exact ⟨_,rfl,rfl,_,rfl,hb8⟩
 rintro _ rfl
 try simp only [Act.put,zA,zZ,zS]
 repeat ((first
  | (focus (refine Ord3.in_value (v:=?_) hT9.o (by decide) ?_ (by rfl) ?_ ?_; rotate_left 2; (intro w5 hS; skip; go_simp<;>rfl); rotate_right; (focus rfl)))
  | (focus (refine Ord3.in_off hT9.o (by decide) ?_ (by rfl) ?_; (focus rfl))));try simp only [Act.put,zA,zZ,zS])
 refine Ord3.in_turn (fun x=>x=.int .i64 0) _ rfl hT9.o rfl (by decide) (by rfl) ?_ (Or.inr ⟨_,5,[],rfl,by kernel_rfl,by kernel_rfl,rfl⟩) (by rfl) ?_ ?_
 ·rfl
 ·rintro w7 hC7 ⟨P7,hP7,hA7⟩;cases hP7;go_simp;simp only [Ord3.Lands];refine (HC.out _ hA7).mono ?_;rintro o w8 ⟨rfl,hA8⟩;exact ⟨_,rfl,rfl,_,rfl,hA8⟩
 rintro _ rfl
 try simp only [Act.put,zA,zZ,zS]
 repeat ((first
  | (focus (refine Ord3.in_value (v:=?_) hT9.o (by decide) ?_ (by rfl) ?_ ?_; rotate_left 2; (intro w5 hS; skip; go_simp<;>rfl); rotate_right; (focus rfl)))
  | (focus (refine Ord3.in_off hT9.o (by decide) ?_ (by rfl) ?_; (focus rfl))));try simp only [Act.put,zA,zZ,zS])
 refine Ord3.in_nil rfl ?_;rintro w9 hC9 ⟨P9,hP9,hA9⟩;cases hP9;clear hT9 hC9;have HA:=zH hA9;clear hA9;go_wp2_with fail;go_ret;exact ⟨rfl,HA.out⟩
theorem rt4a {rt:Int} (Y:World->Prop) (hE:Env w0 (boxI q (rtC kd key val lv 4 (some ⟨sb,0,none⟩) pa pl (some ⟨l,0,none⟩) er dn vl)::boxI sb (rsC k key vs true lp)::L) w)
  (hc:Calls prog 110 #[.pointer (some ⟨l,0,none⟩),.pointer (some ⟨u,0,none⟩),.pointer (some ⟨m,0,none⟩)] w fun o w1=>o=.returned (.int .i64 2)/\∃ L1,Env w0 L1 w1/\(∀ v,Env w0 L1 v->Calls prog 119 #[.pointer (some ⟨q,0,none⟩),.pointer (some ⟨u,0,none⟩)] v fun e v'=>e=.returned (.int .i64 rt)/\Env w0 L1 v')/\∀ v,Env w0 L1 v->Calls prog 104 #[.pointer (some ⟨q,0,none⟩),.int .i64 rt,.bool true] v fun o2 w2=>o2=.returned (.int .i64 0)/\Y w2) :
  Calls prog 71 #[.pointer (some ⟨q,0,none⟩),.pointer (some ⟨u,0,none⟩),.pointer (some ⟨m,0,none⟩)] w fun o w'=>o=.returned (.int .i64 0)/\Y w':=by
 have r:=hE.rule 0 rfl;have rs:=hE.rule 1 rfl;unfold rtC at r;unfold rsC at rs;have HC0:=zH hc;clear hc hE;go_enter func71,ntmps71;go_wp2_with fail;refine HC0.out.mono ?_;rintro e w1 ⟨rfl,L1,hE,hr,hA⟩;have HR:=zH hr;have HC:=zH hA;clear hA hr HC0 r rs;go_wp2_with fail;refine Ord3.wp_chain [?_,?_,?_,?_,?_,?_,?_,?_] [5,6] (fun _=>True) (Ord3.Stage fun κs=>[Env w0 L1,Env w0 L1,Y]) (by kernel_rfl) (by kernel_rfl) (by kernel_rfl) trivial ⟨_,rfl,hE.drew⟩ (fun hT=>?_);rotate_left 8;have hT9:=zH hT;clear hT
 repeat ((first
  | (focus (refine Ord3.in_value (v:=?_) hT9.o (by decide) ?_ (by rfl) ?_ ?_; rotate_left 2; (intro w5 hS; skip; go_simp<;>rfl); rotate_right; (focus rfl)))
  | (focus (refine Ord3.in_off hT9.o (by decide) ?_ (by rfl) ?_; (focus rfl))));try simp only [Act.put,zA,zZ,zS])
 refine Ord3.in_turn (fun x=>x=.int .i64 rt) _ rfl hT9.o rfl (by decide) (by rfl) ?_ (Or.inl rfl) (by rfl) ?_ ?_
 ·rfl
 ·rintro w7 hC7 ⟨P7,hP7,hA7⟩;cases hP7;go_simp;simp only [Ord3.Lands];refine (HR.out _ hA7).mono ?_;rintro o w8 ⟨rfl,hb8⟩;exact ⟨_,rfl,rfl,_,rfl,hb8⟩
 rintro _ rfl
 try simp only [Act.put,zA,zZ,zS]
 repeat ((first
  | (focus (refine Ord3.in_value (v:=?_) hT9.o (by decide) ?_ (by rfl) ?_ ?_; rotate_left 2; (intro w5 hS; skip; go_simp<;>rfl); rotate_right; (focus rfl)))
  | (focus (refine Ord3.in_off hT9.o (by decide) ?_ (by rfl) ?_; (focus rfl))));try simp only [Act.put,zA,zZ,zS])
 refine Ord3.in_turn (fun x=>x=.int .i64 0) _ rfl hT9.o rfl (by decide) (by rfl) ?_ (Or.inr ⟨_,5,[],rfl,by kernel_rfl,by kernel_rfl,rfl⟩) (by rfl) ?_ ?_
 ·rfl
 ·rintro w7 hC7 ⟨P7,hP7,hA7⟩;cases hP7;go_simp;simp only [Ord3.Lands];refine (HC.out _ hA7).mono ?_;rintro o w8 ⟨rfl,hA8⟩;exact ⟨_,rfl,rfl,_,rfl,hA8⟩
 rintro _ rfl
 try simp only [Act.put,zA,zZ,zS]
 repeat ((first
  | (focus (refine Ord3.in_value (v:=?_) hT9.o (by decide) ?_ (by rfl) ?_ ?_; rotate_left 2; (intro w5 hS; skip; go_simp<;>rfl); rotate_right; (focus rfl)))
  | (focus (refine Ord3.in_off hT9.o (by decide) ?_ (by rfl) ?_; (focus rfl))));try simp only [Act.put,zA,zZ,zS])
 refine Ord3.in_nil rfl ?_;rintro w9 hC9 ⟨P9,hP9,hA9⟩;cases hP9;clear hT9 hC9;have HA:=zH hA9;clear hA9;go_wp2_with fail;go_ret;exact ⟨rfl,HA.out⟩
theorem rt4 (Y:World->Prop) (hE:Env w0 (boxI q (rtC kd key val lv 4 (some ⟨sb,0,none⟩) pa pl (some ⟨l,0,none⟩) er dn vl)::boxI sb (rsC k key vs true lp)::L) w)
  (hc:Calls prog 110 #[.pointer (some ⟨l,0,none⟩),.pointer (some ⟨u,0,none⟩),.pointer (some ⟨m,0,none⟩)] w fun o w1=>o=.returned (.int .i64 0)/\Y w1) :
  Calls prog 71 #[.pointer (some ⟨q,0,none⟩),.pointer (some ⟨u,0,none⟩),.pointer (some ⟨m,0,none⟩)] w fun o w'=>o=.returned (.int .i64 0)/\Y w':=by
 have r:=hE.rule 0 rfl;have rs:=hE.rule 1 rfl;unfold rtC at r;unfold rsC at rs;have HC:=zH hc;clear hc hE;go_enter func71,ntmps71;go_wp2_with fail;refine HC.out.mono ?_;rintro e w1 ⟨rfl,hY⟩;go_wp2_with fail;go_ret;exact ⟨rfl,hY⟩
theorem rt4e (Y:World->Prop) (hE:Env w0 (boxI q (rtC kd key val lv 4 (some ⟨sb,0,none⟩) pa pl (some ⟨l,0,none⟩) er dn vl)::boxI sb (rsC k key vs true (some ⟨b,0,none⟩))::L) w)
  (hc:Calls prog 110 #[.pointer (some ⟨l,0,none⟩),.pointer (some ⟨u,0,none⟩),.pointer (some ⟨m,0,none⟩)] w fun o w1=>o=.returned (.int .i64 1)/\∃ L1,Env w0 (boxI q (rtC kd key val lv 4 (some ⟨sb,0,none⟩) pa pl (some ⟨l,0,none⟩) er dn vl)::boxI b (rlC 0 key vs x y z lpc W X K V Cc fd)::L1) w1/\∀ v,Env w0 (boxI q (rtC kd key val lv 4 (some ⟨sb,0,none⟩) pa pl (some ⟨l,0,none⟩) er true V)::boxI b (rlC 0 key vs x y z lpc W X K V Cc fd)::L1) v->Y v) :
  Calls prog 71 #[.pointer (some ⟨q,0,none⟩),.pointer (some ⟨u,0,none⟩),.pointer (some ⟨m,0,none⟩)] w fun o w'=>o=.returned (.int .i64 1)/\Y w':=by
 have r:=hE.rule 0 rfl;have rs:=hE.rule 1 rfl;unfold rtC at r;unfold rsC at rs;have HC:=zH hc;clear hc hE;go_enter func71,ntmps71;go_wp2_with fail;refine HC.out.mono ?_;rintro e w1 ⟨rfl,L1,hE1,hY⟩;have HY:=zH hY;clear hY HC r rs;have r:=hE1.rule 0 rfl;have rb:=hE1.rule 1 rfl;unfold rtC at r;unfold rlC at rb;have f:=hE1.thaw 0 rfl 10 (by simp [rtC]);have hP:=hE1.put 0 rfl (j:=10) (by simp [rtC]) (.bool true);have f2:=hP.thaw 0 rfl 11 (by simp [rtC]);have rb2:=hP.rule 1 rfl;unfold rlC at rb2;have hQ:=hP.put 0 rfl (j:=11) (by simp [rtC]) (.int .u64 V);clear hE1 hP;go_wp2_with fail;go_ret;exact ⟨rfl,HY.out _ hQ⟩
theorem rt5 {rt:Int} (hky:InU key) (hcb:1<=U.cb/\U.cb<=64) (hrt:buI U.cb key=rt) (hX:InU X) (hml:U.ml.length<=1000000) (hE:Env w0 (boxI q (rtC kd key val lv 5 (some ⟨sb,0,none⟩) pa pl pu er dn vl)::boxI sb (rsC k key vs true (some ⟨b,0,none⟩))::boxI b (rlC 0 key vs x y z lpc W X K V Cc fd)::LU U R) w) :
  Calls prog 71 #[.pointer (some ⟨q,0,none⟩),.pointer (some ⟨U.u,0,none⟩),.pointer (some ⟨U.m,0,none⟩)] w fun o w'=>o=.returned (.int .i64 0)/\∃ F5 l,Env w0 (boxI q (rtC kd key val lv 4 (some ⟨sb,0,none⟩) pa pl (some ⟨l,0,none⟩) er dn vl)::boxI sb (rsC k key vs true (some ⟨b,0,none⟩))::boxI l (rnC (some ⟨b,0,none⟩) rt key U.hs 0 none none)::boxI b (rlC 0 key vs x y z lpc W X K V Cc fd)::LU { U with F:=F5,ml:=setL U.ml (5,U.hs,7) (wordI false (slotI X) U.ce) } R) w':=by
 have r:=hE.rule 0 rfl;have rs:=hE.rule 1 rfl;have rb:=hE.rule 2 rfl;unfold rtC at r;unfold rsC at rs;unfold rlC at rb;have hsn:=fun (v:World)=>slot13_any X hX v;have hto:=fun (v:World) (hv:Blk 0 v U.u (ruv U))=>rto_c (slotI X) hv;obtain ⟨s,hs⟩:∃ s,slotI X=s:=⟨_,rfl⟩;rw [hs];simp only [hs] at hsn hto;obtain ⟨y9,hy⟩:∃ y,wordI false s U.ce=y:=⟨_,rfl⟩;rw [hy];simp only [hy] at hto;have HSN:=zH hsn;have HTO:=zH hto;have HKY:=zH (And.intro hky (And.intro hcb hrt));clear hs hy hsn hto hX hky hcb hrt;go_enter func71,ntmps71;go_wp2_with fail;clear r rs rb;refine Ord.wc [13] (fun v=>Blk 0 v U.u (ruv U)/\Blk 0 v b (rlC 0 key vs x y z lpc W X K V Cc fd)) (fun k9 w'=>∃ F5,Env w0 (boxI q (rtC kd key val lv 5 (some ⟨sb,0,none⟩) pa pl pu er dn vl)::boxI sb (rsC k key vs true (some ⟨b,0,none⟩))::boxI b (rlC 0 key vs x y z lpc W X K V Cc fd)::LU (if k9=0 then U else { U with F:=F5,ml:=setL U.ml (5,U.hs,7) y9 }) R) w') ⟨hE.drew.get 3 rfl,hE.drew.get 2 rfl⟩ ⟨U.F,hE.drew⟩ fun hT9=>?_
 repeat ((first
  | (refine Ord.cv ?_ hT9.o ?_ ?_; rotate_left; (intro w5 hS; have ru:=hS.1.rule; have rc:=hS.2.rule; unfold ruv urv at ru; unfold rlC at rc; go_simp<;>rfl))
  | (refine Ord.co hT9.o ?_)
  | (refine Ord.cc ?_ ?_ ?_ hT9.o ?_ ?_ ?_; rotate_left 3; (intro w5 hS; have ru:=hS.1.rule; have rc:=hS.2.rule; unfold ruv urv at ru; unfold rlC at rc; go_simp; constructor<;>rfl); (intro w5 hS; (first | (with_reducible refine kp (cell13_any _ _ _) ?_ ?_; rfl; exact fun w6 hb6=>⟨⟨hS.1.under hb6,hS.2.under hb6⟩,fun k h=>h.elim fun F5 h=>⟨F5,h.over hb6⟩⟩) | (with_reducible refine kp (HSN.out _) ?_ ?_; rfl; exact fun w6 hb6=>⟨⟨hS.1.under hb6,hS.2.under hb6⟩,fun k h=>h.elim fun F5 h=>⟨F5,h.over hb6⟩⟩) | (with_reducible refine kp (HTO.out _ hS.1) ?_ ?_; rfl; exact fun w6 hb6=>⟨⟨hS.1.under hb6,hS.2.under hb6⟩,fun k h=>h.elim fun F5 h=>⟨F5,h.over hb6⟩⟩)))));try simp only [Act.put,zA,zZ,zS])
 refine Ord.ch_turn (v:=.tuple #[]) 0 hT9.o rfl (by decide) (Or.inl rfl) (by rfl) ?_ ?_
 ·rintro w5 hC5 ⟨F5,hA5⟩;simp only [if_true] at hA5;go_simp;simp only [Ord.LandsIn];refine (refSet_any 5 U.hs 7 y9 hml (hA5.ref 5 rfl)).mono ?_;rintro e w6 ⟨rfl,F6,hU,hs9⟩;have hE6:=hA5.turnU 5 rfl hU hs9;exact ⟨rfl,⟨hE6.get 3 rfl,hE6.get 2 rfl⟩,F6,hE6⟩
 try simp only [Act.put,zA,zZ,zS]
 repeat ((first
  | (refine Ord.cv ?_ hT9.o ?_ ?_; rotate_left; (intro w5 hS; skip; go_simp<;>rfl))
  | (refine Ord.co hT9.o ?_));try simp only [Act.put,zA,zZ,zS])
 refine Ord.InText.nil fun w5 hS=>?_;clear hT9;obtain ⟨hC9,hA9⟩:=Ord.chain_end hS;clear hS;obtain ⟨F9,hA9⟩:=hA9;simp only [List.length_cons,List.length_nil,Nat.zero_add,Nat.one_ne_zero,if_false] at hA9;clear hC9 hE HSN HTO;obtain ⟨U2,hU2⟩:∃ U2:SU,{ U with F:=F9,ml:=setL U.ml (5,U.hs,7) y9 }=U2:=⟨_,rfl⟩;have hu2:U2.u=U.u:=by rw [<- hU2]
 have hh2:U2.hs=U.hs:=by rw [<- hU2]
 have hc2:U2.cb=U.cb:=by rw [<- hU2]
 rw [hU2] at hA9;obtain ⟨hky,hcb,hrt⟩:=HKY.out;rw [<- hc2] at hcb hrt;have hrt9:=fun (v:World) (h1:∃ p9,Blk 0 v q (rtC kd key val lv 5 (some ⟨sb,0,none⟩) pa pl p9 er dn vl)) (h2:Blk 0 v U2.u (ruv U2))=>h1.elim fun p9 h1=>rroot hky hcb h1 h2;rw [hrt] at hrt9;have HRT:=zH hrt9;have HU2:=zH hU2;clear hU2 HKY hky hcb hrt hrt9 hml hc2;rw [<- hu2] at ⊢;rw [<- hh2] at ⊢;clear hu2 hh2;have hE:=hA9;clear hA9;go_wp2_with fail;refine Ord3.wp_chain [?_,?_,?_,?_,?_,?_,?_,?_,?_,?_,?_,?_,?_,?_,?_,?_,?_,?_,?_,?_,?_] [16,20] (fun w'=>(∃ p9,Blk 0 w' q (rtC kd key val lv 5 (some ⟨sb,0,none⟩) pa pl p9 er dn vl))/\Blk 0 w' b (rlC 0 key vs x y z lpc W X K V Cc fd)/\Blk 0 w' U2.u (ruv U2)) (Ord3.Stage fun κs=>[Env w0 (boxI q (rtC kd key val lv 5 (some ⟨sb,0,none⟩) pa pl pu er dn vl)::boxI sb (rsC k key vs true (some ⟨b,0,none⟩))::boxI b (rlC 0 key vs x y z lpc W X K V Cc fd)::LU U2 R),fun w'=>∃ l,κs.getD 0 undef=.pointer (some ⟨l,0,none⟩)/\Env w0 (boxI l (rnC (some ⟨b,0,none⟩) rt key U2.hs 0 none none)::boxI q (rtC kd key val lv 5 (some ⟨sb,0,none⟩) pa pl pu er dn vl)::boxI sb (rsC k key vs true (some ⟨b,0,none⟩))::boxI b (rlC 0 key vs x y z lpc W X K V Cc fd)::LU U2 R) w',fun w'=>∃ l,Env w0 (boxI l (rnC (some ⟨b,0,none⟩) rt key U2.hs 0 none none)::boxI q (rtC kd key val lv 5 (some ⟨sb,0,none⟩) pa pl (some ⟨l,0,none⟩) er dn vl)::boxI sb (rsC k key vs true (some ⟨b,0,none⟩))::boxI b (rlC 0 key vs x y z lpc W X K V Cc fd)::LU U2 R) w']) (by kernel_rfl) (by kernel_rfl) (by kernel_rfl) ⟨⟨pu,hE.drew.get 0 rfl⟩,hE.drew.get 2 rfl,hE.drew.get 3 rfl⟩ ⟨_,rfl,hE.drew⟩ (fun hT=>?_);rotate_left 21;have hT9:=zH hT;clear hT
 repeat ((first
  | (focus (refine Ord3.in_value (v:=?_) hT9.o (by decide) ?_ (by rfl) ?_ ?_; rotate_left 2; (intro w5 hS; obtain ⟨⟨p9,hS8⟩,hS9,hS7⟩:=hS; have r1:=Blk.rule hS8; have r2:=Blk.rule hS9; have r3:=Blk.rule hS7; unfold rtC at r1; unfold rlC at r2; unfold ruv urv at r3; go_simp<;>rfl); rotate_right; (focus rfl)))
  | (focus (refine Ord3.in_off hT9.o (by decide) ?_ (by rfl) ?_; (focus rfl)))
  | (focus (refine Ord3.in_call (v:=?_) (f:=?_) (args:=?_) hT9.o (by decide) ?_ (by rfl) ?_ ?_ ?_; rotate_left 4; (intro w5 hS; obtain ⟨⟨p9,hS8⟩,hS9,hS7⟩:=hS; have r1:=Blk.rule hS8; have r2:=Blk.rule hS9; have r3:=Blk.rule hS7; unfold rtC at r1; unfold rlC at r2; unfold ruv urv at r3; go_simp; constructor<;>rfl); (intro w5 hS; (first | (with_reducible refine kp (HRT.out _ hS.1 hS.2.2) ?_ ?_; rfl; exact fun w6 hb6=>⟨⟨hS.1.elim fun p h=>⟨p,h.under hb6⟩,hS.2.1.under hb6,hS.2.2.under hb6⟩,fun us h=>Ord3.Stage.three h (fun h=>h.over hb6) (fun h=>h.elim fun a h=>⟨a,h.1,h.2.over hb6⟩) (fun h=>h.elim fun a h=>⟨a,h.over hb6⟩)⟩))); rotate_right; (focus rfl))));try simp only [Act.put,zA,zZ,zS])
 refine Ord3.in_turn (fun u=>∃ q,u=.pointer (some ⟨q,0,none⟩)) _ ⟨0,rfl⟩ hT9.o rfl (by decide) (by rfl) ?_ (Or.inl rfl) (by rfl) ?_ ?_
 ·rfl
 ·rintro w7 hC7 ⟨P7,hP7,hA7⟩;cases hP7;go_simp;simp only [Ord3.Lands];have hE8:=hA7.box w7.heap.size rfl (rnC (some ⟨b,0,none⟩) rt key U2.hs 0 none none) 224;exact ⟨⟨_,rfl⟩,⟨⟨pu,hE8.get 1 rfl⟩,hE8.get 3 rfl,hE8.get 4 rfl⟩,_,rfl,w7.heap.size,rfl,hE8⟩
 rintro _ ⟨l9,rfl⟩
 try simp only [Act.put,zA,zZ,zS]
 repeat ((first
  | (focus (refine Ord3.in_value (v:=?_) hT9.o (by decide) ?_ (by rfl) ?_ ?_; rotate_left 2; (intro w5 hS; skip; go_simp<;>rfl); rotate_right; (focus rfl)))
  | (focus (refine Ord3.in_off hT9.o (by decide) ?_ (by rfl) ?_; (focus rfl))));try simp only [Act.put,zA,zZ,zS])
 refine Ord3.in_turn (fun u=>u=undef) _ rfl hT9.o rfl (by decide) (by rfl) ?_ (Or.inr ⟨_,16,[],rfl,by kernel_rfl,by kernel_rfl,rfl⟩) (by rfl) ?_ ?_
 ·rfl
 ·rintro w7 hC7 ⟨P7,hP7,hA7⟩;cases hP7;obtain ⟨s8,he,hA7⟩:=hA7;cases he;have r:=hA7.rule 1 rfl;unfold rtC at r;have g:=hA7.thaw 1 rfl 8 (by simp [rtC]);go_simp;simp only [Ord3.Lands];have h9:=hA7.put 1 rfl (j:=8) (by simp [rtC]) (.pointer (some ⟨l9,0,none⟩));exact ⟨trivial,⟨⟨_,h9.get 1 rfl⟩,h9.get 3 rfl,h9.get 4 rfl⟩,_,rfl,l9,h9⟩
 rintro _ rfl
 try simp only [Act.put,zA,zZ,zS]
 refine Ord3.in_nil rfl ?_;rintro w9 hC9 ⟨P9,hP9,hA9⟩;cases hP9;obtain ⟨l,hA9⟩:=hA9;clear hT9 hC9 hE;have f4:=hA9.thaw 1 rfl 4 (by simp [rtC]);have r:=hA9.rule 1 rfl;unfold rtC at r;have hQ:=hA9.put 1 rfl (j:=4) (by simp [rtC]) (.int .i64 4);replace hQ:Env w0 (boxI l (rnC (some ⟨b,0,none⟩) rt key U2.hs 0 none none)::boxI q (rtC kd key val lv 4 (some ⟨sb,0,none⟩) pa pl (some ⟨l,0,none⟩) er dn vl)::boxI sb (rsC k key vs true (some ⟨b,0,none⟩))::boxI b (rlC 0 key vs x y z lpc W X K V Cc fd)::LU U2 R) _:=hQ;go_wp2_with fail;go_ret;have h2:=HU2.out;subst h2;exact ⟨rfl,F9,l,hQ.perm (L':=boxI q (rtC kd key val lv 4 (some ⟨sb,0,none⟩) pa pl (some ⟨l,0,none⟩) er dn vl)::boxI sb (rsC k key vs true (some ⟨b,0,none⟩))::boxI l (rnC (some ⟨b,0,none⟩) rt key U.hs 0 none none)::boxI b (rlC 0 key vs x y z lpc W X K V Cc fd)::LU { U with F:=F9,ml:=setL U.ml (5,U.hs,7) y9 } R) (perm_of fun z=>by simp only [List.count_cons]; omega)⟩
end
def SRK (C:Cf) (X:Tm) (V:Wm) (K:Kt) (FU:Nat->Prop) (ml:List OneR):SU:=SR C { X with ro:=K.r } V K.T FU ml
def RSit (sb:Nat) (k key:Int) (vs:Bool) (on:Bool) (L:Lm) (sub:List Item):Prop :=
 (on=false/\∃ lp,sub=[boxI sb (rsC k key vs false lp)])\/(on=true/\∃ b,sub=[boxI sb (rsC k key vs true (some ⟨b,0,none⟩)),boxI b (rlV 0 key vs L)])
section
variable {w0 w:World} {R sub:List Item} {C:Cf} {X:Tm} {V:Wm} {T:Th} {FU:Nat->Prop} {ml:List OneR} {sb:Nat} {k key r:Int} {vs on:Bool} {L:Lm}
theorem search_R (hT:on=true->LaneOk C L) (he:0<=T.e/\T.e<=9223372036854775807) (hu:∀ x,InU (getL ml x)) (hml:ml.length<=1000000) (hS:RSit sb k key vs on L sub) (hE:Env w0 (sub++LU (SR C { X with ro:=r } V T FU ml) R) w) :
  Calls prog 105 #[.pointer (some ⟨sb,0,none⟩),.pointer (some ⟨X.u,0,none⟩),.pointer (some ⟨V.m,0,none⟩)] w fun o w'=>o=.returned (.int .i64 (searchM k key vs ⟨on,L,T.e,r⟩ (getL ml)).1)/\∃ FU' ml' sub',getL ml'=(searchM k key vs ⟨on,L,T.e,r⟩ (getL ml)).2.2/\ml'.length<=ml.length+1/\RSit sb k key vs (searchM k key vs ⟨on,L,T.e,r⟩ (getL ml)).2.1.on (searchM k key vs ⟨on,L,T.e,r⟩ (getL ml)).2.1.L sub'/\Env w0 (sub'++LU (SR C { X with ro:=(searchM k key vs ⟨on,L,T.e,r⟩ (getL ml)).2.1.r } V { T with e:=(searchM k key vs ⟨on,L,T.e,r⟩ (getL ml)).2.1.e } FU' ml') R) w':=by
 obtain ⟨uc,huc⟩:∃ uc:Uc,uc=⟨C.k,C.s,C.b,C.h,C.l,X.A,T.ql.length,X.rc,X.N,T.hs⟩:=⟨_,rfl⟩;have hR:RSr uc w0 (rrI X.A X.rc T.ql::R) sb X.u V.m k key vs ⟨on,L,T.e,r⟩ (getL ml) ml.length w:=by
  subst huc
  rcases hS with ⟨rfl,lp,rfl⟩ | ⟨rfl,b,rfl⟩
  ·refine .inl ⟨rfl,lp,FU,ml,rfl,Nat.le_refl _,hE.perm (perm_of fun z=>?_)⟩;simp only [List.count_append,List.count_cons,List.count_nil,LU,SR,ruC];omega
  ·refine .inr ⟨rfl,b,FU,ml,rfl,Nat.le_refl _,hE.perm (perm_of fun z=>?_)⟩;simp only [List.count_append,List.count_cons,List.count_nil,LU,SR,ruC];omega
 refine (rsearch (T:=⟨on,L,T.e,r⟩) (fun h=>⟨(hT h).ok,(hT h).wf⟩) he hu hml hR).mono ?_;rintro o w1 ⟨rfl,hR'⟩;subst huc
 rcases hR' with ⟨hoff,lp,F,ml',hf,hl,hE'⟩ | ⟨hon,b,F,ml',hf,hl,hE'⟩
 ·refine ⟨rfl,F,ml',_,hf,hl,.inl ⟨hoff,lp,rfl⟩,hE'.perm (perm_of fun z=>?_)⟩;simp only [List.count_append,List.count_cons,List.count_nil,LU,SR,ruC];omega
 ·refine ⟨rfl,F,ml',_,hf,hl,.inr ⟨hon,b,rfl⟩,hE'.perm (perm_of fun z=>?_)⟩;simp only [List.count_append,List.count_cons,List.count_nil,LU,SR,ruC];omega
end
def RSub (C:Cf) (d:Dd) (K:Kt) (q:Nat) (rs:List Item):Prop :=
 (K.pc=1/\∃ sb pa pl pu sub,RSit sb (rtM C d) d.key true K.on K.L sub/\rs=boxI q (rtC d.ok d.key d.val d.lv 1 (some ⟨sb,0,none⟩) pa pl pu 0 false 0)::sub) \/
 (K.pc=2/\∃ sb lp a pl pu,rs=[boxI q (rtC d.ok d.key d.val d.lv 2 (some ⟨sb,0,none⟩) (some ⟨a,0,none⟩) pl pu 0 false 0),boxI sb (rsC (rtM C d) d.key true true lp),boxI a (rav (K.T.apc:Int) K.T.ah K.T.an K.T.ar)]) \/
 (K.pc=3/\∃ sb pa l b pu,rs=[boxI q (rtC d.ok d.key d.val d.lv 3 (some ⟨sb,0,none⟩) pa (some ⟨l,0,none⟩) pu 0 false 0),boxI sb (rsC (rtM C d) d.key true true (some ⟨b,0,none⟩)),boxI l (rkC (some ⟨b,0,none⟩) K.laid),boxI b (rlV 0 d.key true K.L)]) \/
 (K.pc=9/\∃ sb pa pl pu b,rs=[boxI q (rtC d.ok d.key d.val d.lv 5 (some ⟨sb,0,none⟩) pa pl pu 0 false 0),boxI sb (rsC (rtM C d) d.key true true (some ⟨b,0,none⟩)),boxI b (rlV 0 d.key true K.L)]) \/
 ((K.pc=4\/K.pc=5)/\∃ sb pa pl l b sp rp,rs=[boxI q (rtC d.ok d.key d.val d.lv 4 (some ⟨sb,0,none⟩) pa pl (some ⟨l,0,none⟩) 0 false 0),boxI sb (rsC (rtM C d) d.key true true (some ⟨b,0,none⟩)),boxI l (rnC (some ⟨b,0,none⟩) (rtM C d) d.key K.to (if K.pc=4 then 0 else 1) sp rp),boxI b (rlV 0 d.key true K.L)]) \/
 (K.pc=6/\∃ sb pa pl l b s2 rb sub2,RSit s2 (rtM C d) d.key false K.on2 K.L2 sub2/\rs=boxI q (rtC d.ok d.key d.val d.lv 4 (some ⟨sb,0,none⟩) pa pl (some ⟨l,0,none⟩) 0 false 0)::boxI sb (rsC (rtM C d) d.key true true (some ⟨b,0,none⟩))::boxI l (rnC (some ⟨b,0,none⟩) (rtM C d) d.key K.to 2 (some ⟨s2,0,none⟩) (some ⟨rb,0,none⟩))::boxI b (rlV 0 d.key true K.L)::boxI rb (rrv K.L.C 0 0)::sub2) \/
 (K.pc=7/\∃ sb pa pl l b sp rb,rs=[boxI q (rtC d.ok d.key d.val d.lv 4 (some ⟨sb,0,none⟩) pa pl (some ⟨l,0,none⟩) 0 false 0),boxI sb (rsC (rtM C d) d.key true true (some ⟨b,0,none⟩)),boxI l (rnC (some ⟨b,0,none⟩) (rtM C d) d.key K.to 3 sp (some ⟨rb,0,none⟩)),boxI b (rlV 0 d.key true K.L),boxI rb (rrv K.T.rs (K.T.rpc:Int) K.T.re)])
def OutR (w0:World) (R:List Item) (C:Cf) (X:Tm) (V:Wm) (d:Dd) (q:Nat) (ml:List OneR) (z:Int × Kt × Mem) (s:Int) (w':World):Prop :=
 s=z.1/\∃ A' c' N' FU' ml' rs',getL ml'=z.2.2/\ml'.length<=ml.length+1/\0<=N'/\N'<=4000000/\(z.1=0->RSub C d z.2.1 q rs')/\(z.1≠0->∃ pc ps pa pl pu,rs'=[boxI q (rtC d.ok d.key d.val d.lv pc ps pa pl pu z.2.1.err z.2.1.dn z.2.1.vl)])/\Env w0 (rs'++LU (SRK C { X with A:=A',rc:=c',N:=N' } V z.2.1 FU' ml') R) w'
section
variable {w0 w:World} {R sub:List Item} {C:Cf} {X:Tm} {V:Wm} {K:Kt} {d:Dd} {q sb b:Nat} {FU:Nat->Prop} {ml ml':List OneR} {A:Option Addr} {c:Nat} {N:Int} {f:Mem} {s:Int}
theorem OutR.fin {pc:Int} {ps pa pl pu:Option Addr} (hf:getL ml'=f) (hl:ml'.length<=ml.length+1) (hN:0<=N/\N<=4000000) (hs:s≠0) (hE:Env w0 (boxI q (rtC d.ok d.key d.val d.lv pc ps pa pl pu K.err K.dn K.vl)::LU (SRK C { X with A:=A,rc:=c,N:=N } V K FU ml') R) w):OutR w0 R C X V d q ml (s,K,f) s w :=
 ⟨rfl,A,c,N,FU,ml',[_],hf,hl,hN.1,hN.2,fun h=>absurd h hs,fun _=>⟨pc,ps,pa,pl,pu,rfl⟩,hE⟩
theorem OutR.go (hf:getL ml'=f) (hl:ml'.length<=ml.length+1) (hN:0<=N/\N<=4000000) (hp:RSub C d K q sub) (hE:Env w0 (sub++LU (SRK C { X with A:=A,rc:=c,N:=N } V K FU ml') R) w):OutR w0 R C X V d q ml (0,K,f) 0 w :=
 ⟨rfl,A,c,N,FU,ml',sub,hf,hl,hN.1,hN.2,fun _=>hp,fun h=>absurd rfl h,hE⟩
theorem OutR.find {pa pl pu:Option Addr} {K0:Kt} (hf:getL ml'=f) (hl:ml'.length<=ml.length+1) (hN:0<=N/\N<=4000000) (hE:Env w0 (boxI q (rtC d.ok d.key d.val d.lv 1 (some ⟨sb,0,none⟩) pa pl pu 0 false 0)::boxI sb (rsC (rtM C d) d.key true false none)::LU (SRK C { X with A:=A,rc:=c,N:=N } V K0 FU ml') R) w):OutR w0 R C X V d q ml (0,findM C d K0,f) 0 w :=
 OutR.go (sub:=[_,_]) (K:=findM C d K0) hf hl hN (.inl ⟨rfl,sb,pa,pl,pu,[_],.inl ⟨rfl,none,rfl⟩,rfl⟩) hE
theorem found_r (K':Kt) (pa pl pu:Option Addr) (hX:InU K'.L.X) (hda:K'.err=0/\K'.dn=false/\K'.vl=0) (hl0:K'.T.ql.length+1<=1000000) (hN:0<=X.N/\X.N<=4000000) (hhs:0<=K'.T.hs) (hk4:d.ok=4\/d.ok=5\/d.ok=6\/d.ok=7) (hky:InU d.key) (hcb:1<=C.b/\C.b<=64) (hl:ml'.length<=ml.length+1)
  (hE:Env w0 (boxI q (rtC d.ok d.key d.val d.lv 1 (some ⟨sb,0,none⟩) pa pl pu 0 false 0)::boxI sb (rsC (rtM C d) d.key true true (some ⟨b,0,none⟩))::boxI b (rlV 0 d.key true K'.L)::LU (SRK C X V K' FU ml') R) w) :
  Calls prog 120 #[.pointer (some ⟨q,0,none⟩),.pointer (some ⟨X.u,0,none⟩)] w fun e w'=>∃ s,e=.returned (.int .i64 s)/\OutR w0 R C X V d q ml ((foundM C d K').1,(foundM C d K').2,getL ml') s w':=by
 obtain ⟨hd1,hd2,hd3⟩:=hda;obtain ⟨kk,ok,key,val,lv⟩:=d;obtain ⟨T',pc',on',L',laid',on2',L2',err',dn',r',to',vl'⟩:=K';dsimp only at hd1 hd2 hd3 hX hl0 hhs hk4 hky;subst hd1;subst hd2;subst hd3;have hroot:=fun (v:World) hq hu=>rroot (q:=q) (U:=SRK C X V ⟨T',pc',on',L',laid',on2',L2',0,false,r',to',0⟩ FU ml') (kd:=ok) (key:=key) (val:=val) (lv:=lv) (pc:=1) (ps:=some ⟨sb,0,none⟩) (pa:=pa) (pl:=pl) (pu:=pu) (er:=0) (dn:=false) (vl:=0) (w:=v) hky hcb hq hu;have hrt9:buI C.b key=rtM C ⟨kk,ok,key,val,lv⟩:=rfl;change ∀ v:World,_->_->Calls _ _ _ _ fun e w'=>e=.returned (.int .i64 (buI C.b key))/\Below v.heap.size v w' at hroot;rw [hrt9] at hroot;generalize hrt:rtM C ⟨kk,ok,key,val,lv⟩=rt at *;have drop:∀ {y z9:Item} {M:List Item} {v:World} {t:Item},Env w0 (t::y::z9::M) v->Env w0 (t::M) v:=fun h=>h.sub (.cons_cons _ (.cons _ (.cons _ (List.Sublist.refl _))));obtain ⟨fd9,hfd⟩:∃ x,L'.fd=x:=⟨_,rfl⟩;have hE0:Env w0 (boxI q (rtC ok key val lv 1 (some ⟨sb,0,none⟩) pa pl pu 0 false 0)::boxI sb (rsC rt key true true (some ⟨b,0,none⟩))::boxI b (rlC 0 key true L'.p.1 L'.p.2.1 L'.p.2.2 (L'.pc:Int) L'.W L'.X L'.K L'.V L'.C fd9)::LU (SRK C X V ⟨T',pc',on',L',laid',on2',L2',0,false,r',to',0⟩ FU ml') R) w:=by unfold rlV at hE; rw [hfd] at hE; exact hE
 have hln:rlV 0 key true L'=[.int .i64 L'.p.1,.int .i64 L'.p.2.1,.int .i64 L'.p.2.2,.int .i64 0,.int .u64 key,.bool true,.int .i64 (L'.pc:Int),.int .u64 L'.W,.int .u64 L'.X,.int .u64 L'.K,.int .u64 L'.V,.int .i64 L'.C,.bool fd9]:=by rw [<- hfd]; rfl
 clear hE;cases fd9
 ·by_cases h45:ok=4\/ok=5
  ·by_cases hh:T'.hs=0
   by_cases hdp:decP T'.ql T'.e C.l=0
   ·have hM:foundM C ⟨kk,ok,key,val,lv⟩ ⟨T',pc',on',L',laid',on2',L2',0,false,r',to',0⟩=(1,⟨T',pc',on',L',laid',on2',L2',7,false,r',to',0⟩):=by simp [foundM,takeM,hfd,h45,hh,hdp]
    rw [hM];refine (rtInsN (L:=LU (SRK C X V ⟨T',pc',on',L',laid',on2',L2',0,false,r',to',0⟩ FU ml') R) h45 (fun v hv=>hroot v (hv.get 0 rfl) (hv.get 3 rfl)) 1 _ hE0 (fun v hv=>rinsLate (k:=rt) (vs:=true) (U:=(SRK C X V ⟨T',pc',on',L',laid',on2',L2',0,false,r',to',0⟩ FU ml')) (show T'.hs<=0 by omega) hdp (drop hv))).mono ?_;rintro e w2 ⟨rfl,a,hE2⟩;subst hrt;exact ⟨1,rfl,OutR.fin (A:=X.A) (c:=X.rc) (N:=X.N) rfl hl hN (show (1:Int)≠0 by decide) hE2⟩
   ·have hM:foundM C ⟨kk,ok,key,val,lv⟩ ⟨T',pc',on',L',laid',on2',L2',0,false,r',to',0⟩=(0,⟨{ T' with pc:=2,apc:=decP T'.ql T'.e C.l,ah:=0,an:=0,ar:=0 },2,on',L',laid',on2',L2',0,false,r',to',0⟩):=by simp [foundM,takeM,hfd,h45,hh,hdp]
    rw [hM];have hP4:List.Perm (boxI q (rtC ok key val lv 1 (some ⟨sb,0,none⟩) pa pl pu 0 false 0)::boxI sb (rsC rt key true true (some ⟨b,0,none⟩))::boxI b (rlC 0 key true L'.p.1 L'.p.2.1 L'.p.2.2 (L'.pc:Int) L'.W L'.X L'.K L'.V L'.C false)::LU (SRK C X V ⟨T',pc',on',L',laid',on2',L2',0,false,r',to',0⟩ FU ml') R) (boxI q (rtC ok key val lv 1 (some ⟨sb,0,none⟩) pa pl pu 0 false 0)::LU (SRK C X V ⟨T',pc',on',L',laid',on2',L2',0,false,r',to',0⟩ FU ml') (boxI sb (rsC rt key true true (some ⟨b,0,none⟩))::boxI b (rlC 0 key true L'.p.1 L'.p.2.1 L'.p.2.2 (L'.pc:Int) L'.W L'.X L'.K L'.V L'.C false)::R)):=(perm_of fun z=>by simp only [LU,List.count_cons]; omega);refine (rtInsN (L:=LU (SRK C X V ⟨T',pc',on',L',laid',on2',L2',0,false,r',to',0⟩ FU ml') R) h45 (fun v hv=>hroot v (hv.get 0 rfl) (hv.get 3 rfl)) 0 _ hE0 (fun v hv=>rinsAlloc (k:=rt) (vs:=true) (U:=(SRK C X V ⟨T',pc',on',L',laid',on2',L2',0,false,r',to',0⟩ FU ml')) (show T'.hs<=0 by omega) hdp (hv.perm hP4))).mono ?_;rintro e w2 ⟨rfl,a,hE2⟩;have hE5:=(hE2.perm (L':=boxI b (rlC 0 key true L'.p.1 L'.p.2.1 L'.p.2.2 (L'.pc:Int) L'.W L'.X L'.K L'.V L'.C false)::boxI q (rtC ok key val lv 2 (some ⟨sb,0,none⟩) (some ⟨a,0,none⟩) pl pu 0 false 0)::boxI sb (rsC rt key true true (some ⟨b,0,none⟩))::boxI a (rav ((decP T'.ql T'.e C.l:Nat):Int) 0 0 0)::LU (SRK C X V ⟨T',pc',on',L',laid',on2',L2',0,false,r',to',0⟩ FU ml') R) (perm_of fun z=>by
     have hx:(SRK C X V ⟨T',pc',on',L',laid',on2',L2',0,false,r',to',0⟩ FU ml').ql=T'.ql/\(SRK C X V ⟨T',pc',on',L',laid',on2',L2',0,false,r',to',0⟩ FU ml').ce=T'.e/\(SRK C X V ⟨T',pc',on',L',laid',on2',L2',0,false,r',to',0⟩ FU ml').cl=C.l:=⟨rfl,rfl,rfl⟩;rw [hx.1,hx.2.1,hx.2.2];simp only [LU,List.count_cons];omega)).sub (.cons _ (List.Sublist.refl _))
    subst hrt;exact ⟨0,rfl,OutR.go (A:=X.A) (c:=X.rc) (N:=X.N) (sub:=[_,_,_]) rfl hl hN (.inr (.inl ⟨rfl,sb,_,a,pl,pu,rfl⟩)) hE5⟩
   ·have hM:foundM C ⟨kk,ok,key,val,lv⟩ ⟨T',pc',on',L',laid',on2',L2',0,false,r',to',0⟩=(0,⟨T',3,on',L',false,on2',L2',0,false,r',to',0⟩):=by simp [foundM,takeM,hfd,h45,hh]
    rw [hM];refine (rtInsN (L:=LU (SRK C X V ⟨T',pc',on',L',laid',on2',L2',0,false,r',to',0⟩ FU ml') R) h45 (fun v hv=>hroot v (hv.get 0 rfl) (hv.get 3 rfl)) 0 _ hE0 (fun v hv=>rinsLink (k:=rt) (vs:=true) (U:=(SRK C X V ⟨T',pc',on',L',laid',on2',L2',0,false,r',to',0⟩ FU ml')) (show 0 < T'.hs by omega) hv)).mono ?_;rintro e w2 ⟨rfl,l,hE2⟩;have hE3:=hE2.perm (L':=boxI q (rtC ok key val lv 3 (some ⟨sb,0,none⟩) pa (some ⟨l,0,none⟩) pu 0 false 0)::boxI sb (rsC rt key true true (some ⟨b,0,none⟩))::boxI l (rkC (some ⟨b,0,none⟩) false)::boxI b (rlV 0 key true L')::LU (SRK C X V ⟨T',pc',on',L',laid',on2',L2',0,false,r',to',0⟩ FU ml') R) (by rw [hln]; exact (List.Perm.swap _ _ _).cons _);subst hrt;exact ⟨0,rfl,OutR.go (A:=X.A) (c:=X.rc) (N:=X.N) (sub:=[_,_,_,_]) rfl hl hN (.inr (.inr (.inl ⟨rfl,sb,pa,l,b,pu,rfl⟩))) hE3⟩
  ·have h4:ok≠4:=fun h=>h45 (.inl h);have h5:ok≠5:=fun h=>h45 (.inr h);have hM:foundM C ⟨kk,ok,key,val,lv⟩ ⟨T',pc',on',L',laid',on2',L2',0,false,r',to',0⟩=(1,⟨T',pc',on',L',laid',on2',L2',0,false,r',to',0⟩):=by simp [foundM,takeM,hfd,h4,h5]
   rw [hM];refine (rtMiss h4 h5 hE0).mono ?_;rintro e w2 ⟨rfl,hE2⟩;subst hrt;exact ⟨1,rfl,OutR.fin (A:=X.A) (c:=X.rc) (N:=X.N) rfl hl hN (show (1:Int)≠0 by decide) (drop hE2)⟩
 ·rcases hk4 with rfl | rfl | rfl | rfl
  ·by_cases hh:T'.hs=0
   by_cases hdp:decP T'.ql T'.e C.l=0
   ·have hM:foundM C ⟨kk,4,key,val,lv⟩ ⟨T',pc',on',L',laid',on2',L2',0,false,r',to',0⟩=(1,⟨T',pc',on',L',laid',on2',L2',7,false,r',to',0⟩):=by simp [foundM,takeM,hfd,hh,hdp]
    rw [hM];refine (rtInsF (U:=(SRK C X V ⟨T',pc',on',L',laid',on2',L2',0,false,r',to',0⟩ FU ml')) hh (fun v hv=>hroot v (hv.get 0 rfl) (hv.get 3 rfl)) 1 _ hE0 (fun v hv=>rinsLate (k:=rt) (vs:=true) (U:=(SRK C X V ⟨T',pc',on',L',laid',on2',L2',0,false,r',to',0⟩ FU ml')) (show T'.hs<=0 by omega) hdp (drop hv))).mono ?_;rintro e w2 ⟨rfl,a,hE2⟩;subst hrt;exact ⟨1,rfl,OutR.fin (A:=X.A) (c:=X.rc) (N:=X.N) rfl hl hN (show (1:Int)≠0 by decide) hE2⟩
   ·have hM:foundM C ⟨kk,4,key,val,lv⟩ ⟨T',pc',on',L',laid',on2',L2',0,false,r',to',0⟩=(0,⟨{ T' with pc:=2,apc:=decP T'.ql T'.e C.l,ah:=0,an:=0,ar:=0 },2,on',L',laid',on2',L2',0,false,r',to',0⟩):=by simp [foundM,takeM,hfd,hh,hdp]
    rw [hM];have hP4:List.Perm (boxI q (rtC 4 key val lv 1 (some ⟨sb,0,none⟩) pa pl pu 0 false 0)::boxI sb (rsC rt key true true (some ⟨b,0,none⟩))::boxI b (rlC 0 key true L'.p.1 L'.p.2.1 L'.p.2.2 (L'.pc:Int) L'.W L'.X L'.K L'.V L'.C true)::LU (SRK C X V ⟨T',pc',on',L',laid',on2',L2',0,false,r',to',0⟩ FU ml') R) (boxI q (rtC 4 key val lv 1 (some ⟨sb,0,none⟩) pa pl pu 0 false 0)::LU (SRK C X V ⟨T',pc',on',L',laid',on2',L2',0,false,r',to',0⟩ FU ml') (boxI sb (rsC rt key true true (some ⟨b,0,none⟩))::boxI b (rlC 0 key true L'.p.1 L'.p.2.1 L'.p.2.2 (L'.pc:Int) L'.W L'.X L'.K L'.V L'.C true)::R)):=(perm_of fun z=>by simp only [LU,List.count_cons]; omega);refine (rtInsF (U:=(SRK C X V ⟨T',pc',on',L',laid',on2',L2',0,false,r',to',0⟩ FU ml')) hh (fun v hv=>hroot v (hv.get 0 rfl) (hv.get 3 rfl)) 0 _ hE0 (fun v hv=>rinsAlloc (k:=rt) (vs:=true) (U:=(SRK C X V ⟨T',pc',on',L',laid',on2',L2',0,false,r',to',0⟩ FU ml')) (show T'.hs<=0 by omega) hdp (hv.perm hP4))).mono ?_;rintro e w2 ⟨rfl,a,hE2⟩;have hE5:=(hE2.perm (L':=boxI b (rlC 0 key true L'.p.1 L'.p.2.1 L'.p.2.2 (L'.pc:Int) L'.W L'.X L'.K L'.V L'.C true)::boxI q (rtC 4 key val lv 2 (some ⟨sb,0,none⟩) (some ⟨a,0,none⟩) pl pu 0 false 0)::boxI sb (rsC rt key true true (some ⟨b,0,none⟩))::boxI a (rav ((decP T'.ql T'.e C.l:Nat):Int) 0 0 0)::LU (SRK C X V ⟨T',pc',on',L',laid',on2',L2',0,false,r',to',0⟩ FU ml') R) (perm_of fun z=>by
     have hx:(SRK C X V ⟨T',pc',on',L',laid',on2',L2',0,false,r',to',0⟩ FU ml').ql=T'.ql/\(SRK C X V ⟨T',pc',on',L',laid',on2',L2',0,false,r',to',0⟩ FU ml').ce=T'.e/\(SRK C X V ⟨T',pc',on',L',laid',on2',L2',0,false,r',to',0⟩ FU ml').cl=C.l:=⟨rfl,rfl,rfl⟩;rw [hx.1,hx.2.1,hx.2.2];simp only [LU,List.count_cons];omega)).sub (.cons _ (List.Sublist.refl _))
    subst hrt;exact ⟨0,rfl,OutR.go (A:=X.A) (c:=X.rc) (N:=X.N) (sub:=[_,_,_]) rfl hl hN (.inr (.inl ⟨rfl,sb,_,a,pl,pu,rfl⟩)) hE5⟩
   ·have hM:foundM C ⟨kk,4,key,val,lv⟩ ⟨T',pc',on',L',laid',on2',L2',0,false,r',to',0⟩=(0,⟨T',9,on',L',laid',on2',L2',0,false,r',to',0⟩):=by simp [foundM,takeM,hfd,hh]
    rw [hM];refine (rtPut (U:=(SRK C X V ⟨T',pc',on',L',laid',on2',L2',0,false,r',to',0⟩ FU ml')) hh hE0).mono ?_;rintro e w2 ⟨rfl,hE2⟩;have hE3:Env w0 (boxI q (rtC 4 key val lv 5 (some ⟨sb,0,none⟩) pa pl pu 0 false 0)::boxI sb (rsC rt key true true (some ⟨b,0,none⟩))::boxI b (rlV 0 key true L')::LU (SRK C X V ⟨T',pc',on',L',laid',on2',L2',0,false,r',to',0⟩ FU ml') R) w2:=by rw [hln]; exact hE2
    subst hrt;exact ⟨0,rfl,OutR.go (A:=X.A) (c:=X.rc) (N:=X.N) (sub:=[_,_,_]) rfl hl hN (.inr (.inr (.inr (.inl ⟨rfl,sb,pa,pl,pu,b,rfl⟩)))) hE3⟩
  ·have hM:foundM C ⟨kk,5,key,val,lv⟩ ⟨T',pc',on',L',laid',on2',L2',0,false,r',to',0⟩=(1,⟨{ T' with ql:=dropQ T'.hs T'.ql,hs:=0 },pc',on',L',laid',on2',L2',0,false,r',to',L'.V⟩):=by simp [foundM,takeM,hfd]
   rw [hM];refine (rtAdd (U:=(SRK C X V ⟨T',pc',on',L',laid',on2',L2',0,false,r',to',0⟩ FU ml')) hhs (show T'.ql.length<=1000000 by omega) (show 0<=X.N/\X.N<=1099511627776 by omega) hE0).mono ?_;rintro e w2 ⟨rfl,A',c',N',hN',hE2⟩;have hNN:0<=N'/\N'<=4000000:=by
    rcases hN' with h | h
    ·rw [h]; exact hN
    ·rw [h]; exact roomN_in hN hl0
   subst hrt;exact ⟨1,rfl,OutR.fin (A:=A') (c:=c') (N:=N') rfl hl hNN (show (1:Int)≠0 by decide) hE2⟩
  ·have hM:foundM C ⟨kk,6,key,val,lv⟩ ⟨T',pc',on',L',laid',on2',L2',0,false,r',to',0⟩=(0,⟨T',4,on',L',laid',on2',L2',0,false,r',slotI L'.X,0⟩):=by simp [foundM,takeM,hfd]
   rw [hM];refine (rtRem (U:=(SRK C X V ⟨T',pc',on',L',laid',on2',L2',0,false,r',to',0⟩ FU ml')) (rt:=rt) hky hcb hrt9 hX hE0).mono ?_;rintro e w2 ⟨rfl,l,hE2⟩;have hE3:Env w0 (boxI q (rtC 6 key val lv 4 (some ⟨sb,0,none⟩) pa pl (some ⟨l,0,none⟩) 0 false 0)::boxI sb (rsC rt key true true (some ⟨b,0,none⟩))::boxI l (rnC (some ⟨b,0,none⟩) rt key (slotI L'.X) 0 none none)::boxI b (rlV 0 key true L')::LU (SRK C X V ⟨T',pc',on',L',laid',on2',L2',0,false,r',to',0⟩ FU ml') R) w2:=by rw [hln]; exact hE2
   subst hrt;exact ⟨0,rfl,OutR.go (A:=X.A) (c:=X.rc) (N:=X.N) (sub:=[_,_,_,_]) rfl hl hN (.inr (.inr (.inr (.inr (.inl ⟨.inl rfl,sb,pa,pl,l,b,none,none,rfl⟩))))) hE3⟩
  ·have hM:foundM C ⟨kk,7,key,val,lv⟩ ⟨T',pc',on',L',laid',on2',L2',0,false,r',to',0⟩=(1,⟨T',pc',on',L',laid',on2',L2',0,true,r',to',L'.V⟩):=by simp [foundM,takeM,hfd]
   rw [hM];refine (rtGet hE0).mono ?_;rintro e w2 ⟨rfl,hE2⟩;subst hrt;exact ⟨1,rfl,OutR.fin (A:=X.A) (c:=X.rc) (N:=X.N) rfl hl hN (show (1:Int)≠0 by decide) (drop hE2)⟩
end
theorem lu_perm (x:Item) (U:SU) (sub R:List Item):((x::sub)++LU U R).Perm (sub++LU U (x::R)):=perm_of fun z=>by
 simp only [LU,List.count_append,List.count_cons];omega
theorem swL_get (l:List OneR) (x:Plc) (o v:Int):getL (swL l x o v)=swf (getL l) x o v:=by
 unfold swL swf
 split
 ·rw [getL_set]
 ·rfl
section
variable {w0 w:World} {R sub:List Item} {C:Cf} {X:Tm} {V:Wm} {K:Kt} {d:Dd} {q sb b a l:Nat} {FU:Nat->Prop} {ml:List OneR} {lp ps pa pl pu sp rp:Option Addr}
theorem root_r (hky:InU d.key) (hcb:1<=C.b/\C.b<=64) {K0:Kt} {X0:Tm} {ml0:List OneR} {FU0:Nat->Prop} {pc er vl:Int} {ps pa pl pu:Option Addr} {dn:Bool} (hu9:X0.u=X.u) (hq:Blk 0 w q (rtC d.ok d.key d.val d.lv pc ps pa pl pu er dn vl)) (hu:Blk 0 w X0.u (ruv (SRK C X0 V K0 FU0 ml0))) :
  Calls prog 119 #[.pointer (some ⟨q,0,none⟩),.pointer (some ⟨X.u,0,none⟩)] w fun e w'=>e=.returned (.int .i64 (rtM C d))/\Below w.heap.size w w':=by
 rw [<- hu9];exact rroot (U:=SRK C X0 V K0 FU0 ml0) hky hcb hq hu
theorem op1_r (hpc:K.pc=1) (hky:InU d.key) (hcb:1<=C.b/\C.b<=64) (hk4:d.ok=4\/d.ok=5\/d.ok=6\/d.ok=7) (hon:K.on=true->LaneOk C K.L) (hsx:(searchM (rtM C d) d.key true ⟨K.on,K.L,K.T.e,K.r⟩ (getL ml)).1=1->InU (searchM (rtM C d) d.key true ⟨K.on,K.L,K.T.e,K.r⟩ (getL ml)).2.1.L.X) (hda:K.err=0/\K.dn=false/\K.vl=0) (hl:K.T.ql.length+1<=1000000) (hhs:0<=K.T.hs) (he:0<=K.T.e/\K.T.e<=9223372036854775807) (hu:∀ x,InU (getL ml x)) (hml:ml.length<=1000000) (hN:0<=X.N/\X.N<=4000000) (hS:RSit sb (rtM C d) d.key true K.on K.L sub)
  (hE:Env w0 ((boxI q (rtC d.ok d.key d.val d.lv 1 (some ⟨sb,0,none⟩) pa pl pu 0 false 0)::sub)++LU (SRK C X V K FU ml) R) w) :
  Calls prog 71 #[.pointer (some ⟨q,0,none⟩),.pointer (some ⟨X.u,0,none⟩),.pointer (some ⟨V.m,0,none⟩)] w fun e w'=>∃ s,e=.returned (.int .i64 s)/\OutR w0 R C X V d q ml (opM C d K (getL ml)) s w':=by
 have hM:opM C d K (getL ml)=if (searchM (rtM C d) d.key true ⟨K.on,K.L,K.T.e,K.r⟩ (getL ml)).1=1 then ((foundM C d { K with on:=(searchM (rtM C d) d.key true ⟨K.on,K.L,K.T.e,K.r⟩ (getL ml)).2.1.on,L:=(searchM (rtM C d) d.key true ⟨K.on,K.L,K.T.e,K.r⟩ (getL ml)).2.1.L,r:=(searchM (rtM C d) d.key true ⟨K.on,K.L,K.T.e,K.r⟩ (getL ml)).2.1.r,T:={ K.T with e:=(searchM (rtM C d) d.key true ⟨K.on,K.L,K.T.e,K.r⟩ (getL ml)).2.1.e } }).1,(foundM C d { K with on:=(searchM (rtM C d) d.key true ⟨K.on,K.L,K.T.e,K.r⟩ (getL ml)).2.1.on,L:=(searchM (rtM C d) d.key true ⟨K.on,K.L,K.T.e,K.r⟩ (getL ml)).2.1.L,r:=(searchM (rtM C d) d.key true ⟨K.on,K.L,K.T.e,K.r⟩ (getL ml)).2.1.r,T:={ K.T with e:=(searchM (rtM C d) d.key true ⟨K.on,K.L,K.T.e,K.r⟩ (getL ml)).2.1.e } }).2,(searchM (rtM C d) d.key true ⟨K.on,K.L,K.T.e,K.r⟩ (getL ml)).2.2) else (0,{ K with on:=(searchM (rtM C d) d.key true ⟨K.on,K.L,K.T.e,K.r⟩ (getL ml)).2.1.on,L:=(searchM (rtM C d) d.key true ⟨K.on,K.L,K.T.e,K.r⟩ (getL ml)).2.1.L,r:=(searchM (rtM C d) d.key true ⟨K.on,K.L,K.T.e,K.r⟩ (getL ml)).2.1.r,T:={ K.T with e:=(searchM (rtM C d) d.key true ⟨K.on,K.L,K.T.e,K.r⟩ (getL ml)).2.1.e } },(searchM (rtM C d) d.key true ⟨K.on,K.L,K.T.e,K.r⟩ (getL ml)).2.2):=by
  unfold opM;rw [if_pos hpc]
 rw [hM];have hsr:=fun (v:World) (hv:Env w0 ((boxI q (rtC d.ok d.key d.val d.lv 1 (some ⟨sb,0,none⟩) pa pl pu 0 false 0)::sub)++LU (SRK C X V K FU ml) R) v)=>search_R (C:=C) (X:=X) (V:=V) (T:=K.T) (r:=K.r) (k:=rtM C d) (vs:=true) hon he hu hml hS (hv.perm (lu_perm _ _ _ _));have hst:=search_state (rtM C d) d.key true ⟨K.on,K.L,K.T.e,K.r⟩ (getL ml);generalize searchM (rtM C d) d.key true ⟨K.on,K.L,K.T.e,K.r⟩ (getL ml)=z at *;obtain ⟨q1,⟨on',L',e',r'⟩,f'⟩:=z;dsimp only at hst hsr hsx ⊢;have hbk:∀ v,(∃ FU' ml' sub',getL ml'=f'/\ml'.length<=ml.length+1/\RSit sb (rtM C d) d.key true on' L' sub'/\Env w0 (sub'++LU (SR C { X with ro:=r' } V { K.T with e:=e' } FU' ml') (boxI q (rtC d.ok d.key d.val d.lv 1 (some ⟨sb,0,none⟩) pa pl pu 0 false 0)::R)) v)->∃ s,(q1=0\/q1=1)/\s=q1/\(s=0->OutR w0 R C X V d q ml (if q1=1 then ((foundM C d { K with on:=on',L:=L',r:=r',T:={ K.T with e:=e' } }).1,(foundM C d { K with on:=on',L:=L',r:=r',T:={ K.T with e:=e' } }).2,f') else (0,{ K with on:=on',L:=L',r:=r',T:={ K.T with e:=e' } },f')) 0 v)/\(s=1->Calls prog 120 #[.pointer (some ⟨q,0,none⟩),.pointer (some ⟨X.u,0,none⟩)] v fun o2 w2=>∃ s2,o2=.returned (.int .i64 s2)/\OutR w0 R C X V d q ml (if q1=1 then ((foundM C d { K with on:=on',L:=L',r:=r',T:={ K.T with e:=e' } }).1,(foundM C d { K with on:=on',L:=L',r:=r',T:={ K.T with e:=e' } }).2,f') else (0,{ K with on:=on',L:=L',r:=r',T:={ K.T with e:=e' } },f')) s2 w2):=by
  rintro v ⟨FU',ml',sub',hf',hl',hS',hE'⟩;have hE2:=hE'.perm (lu_perm _ _ _ _).symm;refine ⟨q1,by rcases hst with h | h; exact .inl h; exact .inr h.1,rfl,fun h0=>?_,fun h1=>?_⟩
  ·subst h0;rw [if_neg (by decide)];exact OutR.go (A:=X.A) (c:=X.rc) (N:=X.N) (sub:=_::sub') hf' hl' hN (.inl ⟨hpc,sb,pa,pl,pu,sub',hS',rfl⟩) hE2
  ·subst h1;rw [if_pos rfl]
   rcases hst with h9 | ⟨-,h8⟩
   ·exact absurd h9 (by decide)
   subst h8
   rcases hS' with ⟨h7,-⟩ | ⟨-,b',rfl⟩
   ·exact absurd h7 (by decide)
   subst hf';exact found_r (C:=C) (X:=X) (V:=V) (d:=d) (ml:=ml) (ml':=ml') { K with on:=true,L:=L',r:=r',T:={ K.T with e:=e' } } pa pl pu (hsx rfl) hda hl hN hhs hk4 hky hcb hl' hE2
 have hlp:∃ lp sub9 on9,sub=boxI sb (rsC (rtM C d) d.key true on9 lp)::sub9:=by
  rcases hS with ⟨-,lp,rfl⟩ | ⟨-,b,rfl⟩
  ·exact ⟨lp,[],false,rfl⟩
  ·exact ⟨_,_,true,rfl⟩
 obtain ⟨lp,sub9,on9,rfl⟩:=hlp;refine rt1 (L:=sub9++LU (SRK C X V K FU ml) R) _ hE ?_;refine (hsr _ hE).mono ?_;rintro e w1 ⟨rfl,hX⟩;obtain ⟨s,h1,rfl,h2,h3⟩:=hbk w1 hX;exact ⟨_,rfl,h1,h2,h3⟩
theorem op2_r {n:Nat} (hpc:K.pc=2) (hky:InU d.key) (hcb:1<=C.b/\C.b<=64) (hk:RowOk C K.T n) (hda:K.err=0/\K.dn=false/\K.vl=0) (hml:ml.length<=999999) (hN:0<=X.N/\X.N<=4000000) (hv:K.T.apc=6->verI K.T.ah < 1099511627775) (hfu:∀ x,InU (getL ml x)) (hkk:K.T.apc<=10\/K.T.apc - 10 < (WD C d K.T).length)
  (hE:Env w0 ([boxI q (rtC d.ok d.key d.val d.lv 2 (some ⟨sb,0,none⟩) (some ⟨a,0,none⟩) pl pu 0 false 0),boxI sb (rsC (rtM C d) d.key true true lp),boxI a (rav (K.T.apc:Int) K.T.ah K.T.an K.T.ar)]++LU (SRK C X V K FU ml) R) w) :
  Calls prog 71 #[.pointer (some ⟨q,0,none⟩),.pointer (some ⟨X.u,0,none⟩),.pointer (some ⟨V.m,0,none⟩)] w fun e w'=>∃ s,e=.returned (.int .i64 s)/\OutR w0 R C X V d q ml (opM C d K (getL ml)) s w':=by
 have hM:opM C d K (getL ml)=if (allocM C d K.T (getL ml)).1=0 then (0,{ K with T:=(allocM C d K.T (getL ml)).2.1 },(allocM C d K.T (getL ml)).2.2) else if (allocM C d K.T (getL ml)).1=3 then (1,{ K with T:={ (allocM C d K.T (getL ml)).2.1 with pc:=0 },err:=6 },(allocM C d K.T (getL ml)).2.2) else if (allocM C d K.T (getL ml)).1=4 then (1,{ K with T:={ (allocM C d K.T (getL ml)).2.1 with pc:=0 },err:=7 },(allocM C d K.T (getL ml)).2.2) else (0,findM C d { K with T:={ (allocM C d K.T (getL ml)).2.1 with pc:=0 } },(allocM C d K.T (getL ml)).2.2):=by
  unfold opM;rw [if_neg (by omega),if_pos hpc]
 rw [hM];have hst:=allocM_state C d K.T (getL ml);have hal:=fun (v:World) (hE:Env w0 ([boxI q (rtC d.ok d.key d.val d.lv 2 (some ⟨sb,0,none⟩) (some ⟨a,0,none⟩) pl pu 0 false 0),boxI sb (rsC (rtM C d) d.key true true lp),boxI a (rav (K.T.apc:Int) K.T.ah K.T.an K.T.ar)]++LU (SRK C X V K FU ml) R) v)=>alR (C:=C) (X:={ X with ro:=K.r }) (V:=V) (T:=K.T) (d:=d) hk hml hN hv hfu hkk (hE.perm (L':=boxI a (rav (K.T.apc:Int) K.T.ah K.T.an K.T.ar)::LU (SR C { X with ro:=K.r } V K.T FU ml) (boxI q (rtC d.ok d.key d.val d.lv 2 (some ⟨sb,0,none⟩) (some ⟨a,0,none⟩) pl pu 0 false 0)::boxI sb (rsC (rtM C d) d.key true true lp)::R)) (perm_of fun z=>by simp only [LU,SRK,List.count_append,List.count_cons,List.count_nil]; omega));generalize allocM C d K.T (getL ml)=z at *;obtain ⟨q1,T',f'⟩:=z;dsimp only at hst hal ⊢;have hfin:∀ (s2:Int) (z2:Int × Kt × Mem),(∀ v,(∃ (A':Option Addr) (rc':Nat) (N':Int) (FU':Nat->Prop) (ml':List OneR),getL ml'=f'/\ml'.length<=ml.length+1/\0<=N'/\N'<=4000000/\((q1=0/\Env w0 (boxI a (rav (T'.apc:Int) T'.ah T'.an T'.ar)::LU (SR C { { X with ro:=K.r } with A:=A',rc:=rc',N:=N' } V T' FU' ml') (boxI q (rtC d.ok d.key d.val d.lv 2 (some ⟨sb,0,none⟩) (some ⟨a,0,none⟩) pl pu 0 false 0)::boxI sb (rsC (rtM C d) d.key true true lp)::R)) v)\/(q1≠0/\Env w0 (LU (SR C { { X with ro:=K.r } with A:=A',rc:=rc',N:=N' } V T' FU' ml') (boxI q (rtC d.ok d.key d.val d.lv 2 (some ⟨sb,0,none⟩) (some ⟨a,0,none⟩) pl pu 0 false 0)::boxI sb (rsC (rtM C d) d.key true true lp)::R)) v)))->Calls prog 107 #[.pointer (some ⟨q,0,none⟩),.int .i64 q1,.int .i64 (rtM C d),.bool true] v fun o w1=>o=.returned (.int .i64 s2)/\OutR w0 R C X V d q ml z2 s2 w1/\∃ sp9 pc9 e9,Blk 0 w1 q (rtC d.ok d.key d.val d.lv pc9 sp9 (some ⟨a,0,none⟩) pl pu e9 false 0))->Calls prog 71 #[.pointer (some ⟨q,0,none⟩),.pointer (some ⟨X.u,0,none⟩),.pointer (some ⟨V.m,0,none⟩)] w fun e w'=>∃ s,e=.returned (.int .i64 s)/\OutR w0 R C X V d q ml z2 s w':=by
  intro s2 z2 hcame;refine (rt2 q1 s2 _ (fun v=>OutR w0 R C X V d q ml z2 s2 v/\∃ sp9 pc9 e9,Blk 0 v q (rtC d.ok d.key d.val d.lv pc9 sp9 (some ⟨a,0,none⟩) pl pu e9 false 0)) hE ?_ (fun v h=>h.2) ?_ (fun v hv=>hal v hv) hcame).mono (fun e w' h=>⟨s2,h.1,h.2.1⟩)
  ·rintro v ⟨A',rc',N',FU',ml',-,-,-,-,⟨-,h⟩ | ⟨-,h⟩⟩
   ·exact h.get 4 rfl
   ·exact h.get 3 rfl
  ·rintro v ⟨A',rc',N',FU',ml',g1,g2,g3,g4,⟨h0,h⟩ | ⟨h0,h⟩⟩
   ·refine (root_r (X:=X) (V:=V) (X0:={ X with A:=A',rc:=rc',N:=N' }) (K0:={ K with T:=T' }) (FU0:=FU') (ml0:=ml') hky hcb rfl (h.get 4 rfl) (h.get 1 rfl)).mono ?_;rintro e v' ⟨rfl,hb⟩;exact ⟨rfl,A',rc',N',FU',ml',g1,g2,g3,g4,.inl ⟨h0,h.over hb⟩⟩
   ·refine (root_r (X:=X) (V:=V) (X0:={ X with A:=A',rc:=rc',N:=N' }) (K0:={ K with T:=T' }) (FU0:=FU') (ml0:=ml') hky hcb rfl (h.get 3 rfl) (h.get 0 rfl)).mono ?_;rintro e v' ⟨rfl,hb⟩;exact ⟨rfl,A',rc',N',FU',ml',g1,g2,g3,g4,.inr ⟨h0,h.over hb⟩⟩
 rcases hst with h | h | h | h | h
 ·subst h;rw [if_pos rfl];refine hfin 0 _ ?_;rintro v ⟨A',rc',N',FU',ml',hf,hl,hN0,hN1,⟨-,h⟩ | ⟨h9,-⟩⟩
  ·have h2:=h.perm (L':=boxI q (rtC d.ok d.key d.val d.lv 2 (some ⟨sb,0,none⟩) (some ⟨a,0,none⟩) pl pu 0 false 0)::boxI sb (rsC (rtM C d) d.key true true lp)::boxI a (rav (T'.apc:Int) T'.ah T'.an T'.ar)::LU (SR C { { X with ro:=K.r } with A:=A',rc:=rc',N:=N' } V T' FU' ml') R) (perm_of fun z=>by simp only [LU,List.count_cons]; omega);refine (rcameGo h2).mono ?_;rintro e w2 ⟨rfl,hE2⟩;exact ⟨rfl,OutR.go (K:={ K with T:=T' }) (A:=A') (c:=rc') (N:=N') (sub:=[_,_,_]) hf hl ⟨hN0,hN1⟩ (.inr (.inl ⟨hpc,sb,lp,a,pl,pu,rfl⟩)) hE2,some ⟨sb,0,none⟩,2,0,hE2.get 0 rfl⟩
  ·exact absurd rfl h9
 all_goals
  subst h;rw [if_neg (by decide)]
 ·rw [if_neg (by decide),if_neg (by decide)];refine hfin 0 _ ?_;rintro v ⟨A',rc',N',FU',ml',hf,hl,hN0,hN1,⟨h9,-⟩ | ⟨-,h⟩⟩
  ·exact absurd h9 (by decide)
  have h2:=(h.perm (L':=boxI sb (rsC (rtM C d) d.key true true lp)::boxI q (rtC d.ok d.key d.val d.lv 2 (some ⟨sb,0,none⟩) (some ⟨a,0,none⟩) pl pu 0 false 0)::LU (SR C { { X with ro:=K.r } with A:=A',rc:=rc',N:=N' } V T' FU' ml') R) (perm_of fun z=>by simp only [LU,List.count_cons]; omega)).sub (.cons _ (List.Sublist.refl _));refine (rcameFind 1 (.inl rfl) h2).mono ?_;rintro e w2 ⟨rfl,sb9,hE2⟩;exact ⟨rfl,OutR.find (K0:={ K with T:={ T' with pc:=0 } }) (A:=A') (c:=rc') (N:=N') hf hl ⟨hN0,hN1⟩ hE2,_,1,0,hE2.get 0 rfl⟩
 ·rw [if_neg (by decide),if_neg (by decide)];refine hfin 0 _ ?_;rintro v ⟨A',rc',N',FU',ml',hf,hl,hN0,hN1,⟨h9,-⟩ | ⟨-,h⟩⟩
  ·exact absurd h9 (by decide)
  have h2:=(h.perm (L':=boxI sb (rsC (rtM C d) d.key true true lp)::boxI q (rtC d.ok d.key d.val d.lv 2 (some ⟨sb,0,none⟩) (some ⟨a,0,none⟩) pl pu 0 false 0)::LU (SR C { { X with ro:=K.r } with A:=A',rc:=rc',N:=N' } V T' FU' ml') R) (perm_of fun z=>by simp only [LU,List.count_cons]; omega)).sub (.cons _ (List.Sublist.refl _));refine (rcameFind 2 (.inr rfl) h2).mono ?_;rintro e w2 ⟨rfl,sb9,hE2⟩;exact ⟨rfl,OutR.find (K0:={ K with T:={ T' with pc:=0 } }) (A:=A') (c:=rc') (N:=N') hf hl ⟨hN0,hN1⟩ hE2,_,1,0,hE2.get 0 rfl⟩
 ·rw [if_pos rfl];refine hfin 1 _ ?_;rintro v ⟨A',rc',N',FU',ml',hf,hl,hN0,hN1,⟨h9,-⟩ | ⟨-,h⟩⟩
  ·exact absurd h9 (by decide)
  have h2:=(h.perm (L':=boxI sb (rsC (rtM C d) d.key true true lp)::boxI q (rtC d.ok d.key d.val d.lv 2 (some ⟨sb,0,none⟩) (some ⟨a,0,none⟩) pl pu 0 false 0)::LU (SR C { { X with ro:=K.r } with A:=A',rc:=rc',N:=N' } V T' FU' ml') R) (perm_of fun z=>by simp only [LU,List.count_cons]; omega)).sub (.cons _ (List.Sublist.refl _));refine (rcameOver 3 (.inl rfl) h2).mono ?_;rintro e w2 ⟨rfl,hE2⟩;have hE3:Env w0 (boxI q (rtC d.ok d.key d.val d.lv 2 (some ⟨sb,0,none⟩) (some ⟨a,0,none⟩) pl pu 6 K.dn K.vl)::LU (SR C { { X with ro:=K.r } with A:=A',rc:=rc',N:=N' } V T' FU' ml') R) w2:=by rw [hda.2.1,hda.2.2]; exact hE2
  exact ⟨rfl,OutR.fin (K:={ K with T:={ T' with pc:=0 },err:=6 }) (A:=A') (c:=rc') (N:=N') hf hl ⟨hN0,hN1⟩ (show (1:Int)≠0 by decide) hE3,_,2,_,hE2.get 0 rfl⟩
 ·rw [if_neg (by decide),if_pos rfl];refine hfin 1 _ ?_;rintro v ⟨A',rc',N',FU',ml',hf,hl,hN0,hN1,⟨h9,-⟩ | ⟨-,h⟩⟩
  ·exact absurd h9 (by decide)
  have h2:=(h.perm (L':=boxI sb (rsC (rtM C d) d.key true true lp)::boxI q (rtC d.ok d.key d.val d.lv 2 (some ⟨sb,0,none⟩) (some ⟨a,0,none⟩) pl pu 0 false 0)::LU (SR C { { X with ro:=K.r } with A:=A',rc:=rc',N:=N' } V T' FU' ml') R) (perm_of fun z=>by simp only [LU,List.count_cons]; omega)).sub (.cons _ (List.Sublist.refl _));refine (rcameOver 4 (.inr rfl) h2).mono ?_;rintro e w2 ⟨rfl,hE2⟩;have hE3:Env w0 (boxI q (rtC d.ok d.key d.val d.lv 2 (some ⟨sb,0,none⟩) (some ⟨a,0,none⟩) pl pu 7 K.dn K.vl)::LU (SR C { { X with ro:=K.r } with A:=A',rc:=rc',N:=N' } V T' FU' ml') R) w2:=by rw [hda.2.1,hda.2.2]; exact hE2
  exact ⟨rfl,OutR.fin (K:={ K with T:={ T' with pc:=0 },err:=7 }) (A:=A') (c:=rc') (N:=N') hf hl ⟨hN0,hN1⟩ (show (1:Int)≠0 by decide) hE3,_,2,_,hE2.get 0 rfl⟩
end
section
variable {w0 w:World} {R sub2:List Item} {C:Cf} {X:Tm} {V:Wm} {K:Kt} {d:Dd} {q sb b l s2 rb:Nat} {FU:Nat->Prop} {ml:List OneR} {ps pa pl pu sp rp:Option Addr}
theorem op3_r (hpc:K.pc=3) (hky:InU d.key) (hcb:1<=C.b/\C.b<=64) (hk45:d.ok=4\/d.ok=5) (hW:InU K.L.W) (hda:K.err=0/\K.dn=false/\K.vl=0) (hml:ml.length<=999999) (hN:0<=X.N/\X.N<=4000000)
  (hE:Env w0 ([boxI q (rtC d.ok d.key d.val d.lv 3 (some ⟨sb,0,none⟩) pa (some ⟨l,0,none⟩) pu 0 false 0),boxI sb (rsC (rtM C d) d.key true true (some ⟨b,0,none⟩)),boxI l (rkC (some ⟨b,0,none⟩) K.laid),boxI b (rlV 0 d.key true K.L)]++LU (SRK C X V K FU ml) R) w) :
  Calls prog 71 #[.pointer (some ⟨q,0,none⟩),.pointer (some ⟨X.u,0,none⟩),.pointer (some ⟨V.m,0,none⟩)] w fun e w'=>∃ s,e=.returned (.int .i64 s)/\OutR w0 R C X V d q ml (opM C d K (getL ml)) s w':=by
 have hE1:=hE.perm (L':=boxI l (rkC (some ⟨b,0,none⟩) K.laid)::boxI b (rlV 0 d.key true K.L)::LU (SRK C X V K FU ml) (boxI q (rtC d.ok d.key d.val d.lv 3 (some ⟨sb,0,none⟩) pa (some ⟨l,0,none⟩) pu 0 false 0)::boxI sb (rsC (rtM C d) d.key true true (some ⟨b,0,none⟩))::R)) (perm_of fun z=>by simp only [LU,rlV,List.count_append,List.count_cons,List.count_nil]; omega);cases hl:K.laid
 ·rw [hl] at hE1;have hM:opM C d K (getL ml)=(0,{ K with laid:=true },upd (getL ml) (5,K.T.hs,7) (wordI false (slotI K.L.W) K.T.e)):=by
   unfold opM;rw [if_neg (by omega),if_neg (by omega),if_pos hpc,hl,if_neg (by decide)]
  rw [hM];refine (rt3 0 (.inl rfl) (OutR w0 R C X V d q ml (0,{ K with laid:=true },upd (getL ml) (5,K.T.hs,7) (wordI false (slotI K.L.W) K.T.e)) 0) hE ?_).mono (fun e w' h=>⟨0,h.1,h.2⟩);refine (rlink0 (U:=SRK C X V K FU ml) hW (show ml.length<=1000000 by omega) hE1).mono ?_;rintro e w1 ⟨rfl,F5,hE2⟩;refine ⟨rfl,_,hE2.perm (L':=boxI q (rtC d.ok d.key d.val d.lv 3 (some ⟨sb,0,none⟩) pa (some ⟨l,0,none⟩) pu 0 false 0)::boxI sb (rsC (rtM C d) d.key true true (some ⟨b,0,none⟩))::boxI l (rkC (some ⟨b,0,none⟩) true)::boxI b (rlV 0 d.key true K.L)::LU { SRK C X V K FU ml with F:=F5,ml:=setL (SRK C X V K FU ml).ml (5,(SRK C X V K FU ml).hs,7) (wordI false (slotI K.L.W) (SRK C X V K FU ml).ce) } R) (perm_of fun z=>by simp only [LU,rlV,List.count_append,List.count_cons,List.count_nil]; omega),fun v hv=>?_⟩;exact OutR.go (K:={ K with laid:=true }) (A:=X.A) (c:=X.rc) (N:=X.N) (sub:=[_,_,_,_]) (getL_set _ _ _) (setL_length _ _ _) hN (.inr (.inr (.inl ⟨hpc,sb,pa,l,b,pu,rfl⟩))) hv
 ·rw [hl] at hE1;have hlk:=rlink1 (U:=SRK C X V K FU ml) (show ml.length<=1000000 by omega) hE1
  by_cases heq:getL ml K.L.p=K.L.W
  ·have heq':getL (SRK C X V K FU ml).ml (K.L.p.1,K.L.p.2.1,K.L.p.2.2)=K.L.W:=heq;have hM:opM C d K (getL ml)=(1,{ K with T:={ K.T with hs:=0 },dn:=decide (d.ok=5) },swf (getL ml) K.L.p K.L.W (wordI false K.T.hs K.T.e)):=by
    unfold opM;rw [if_neg (by omega),if_neg (by omega),if_pos hpc,hl,if_pos rfl,if_pos heq]
   rw [hM];simp only [heq',if_true] at hlk;refine (rt3 1 (.inr rfl) (OutR w0 R C X V d q ml (1,{ K with T:={ K.T with hs:=0 },dn:=decide (d.ok=5) },swf (getL ml) K.L.p K.L.W (wordI false K.T.hs K.T.e)) 1) hE (hlk.mono ?_)).mono (fun e w' h=>⟨1,h.1,h.2⟩);rintro e w1 ⟨rfl,F5,hE2⟩;refine ⟨rfl,_,hE2.perm (L':=boxI q (rtC d.ok d.key d.val d.lv 3 (some ⟨sb,0,none⟩) pa (some ⟨l,0,none⟩) pu 0 false 0)::boxI sb (rsC (rtM C d) d.key true true (some ⟨b,0,none⟩))::boxI l (rkC (some ⟨b,0,none⟩) true)::boxI b (rlV 0 d.key true K.L)::LU { SRK C X V K FU ml with F:=F5,ml:=swL (SRK C X V K FU ml).ml (K.L.p.1,K.L.p.2.1,K.L.p.2.2) K.L.W (wordI false (SRK C X V K FU ml).hs (SRK C X V K FU ml).ce),hs:=0 } R) (perm_of fun z=>by simp only [LU,rlV,List.count_append,List.count_cons,List.count_nil]; omega),fun v hv=>?_⟩;have hd5:decide ((1:Int)=1/\d.ok=5)=decide (d.ok=5):=by simp
   rw [hd5] at hv;have hv2:=hv.sub (L':=boxI q (rtC d.ok d.key d.val d.lv 3 (some ⟨sb,0,none⟩) pa (some ⟨l,0,none⟩) pu 0 (decide (d.ok=5)) 0)::LU _ R) (.cons_cons _ (.cons _ (.cons _ (.cons _ (List.Sublist.refl _)))));exact OutR.fin (K:={ K with T:={ K.T with hs:=0 },dn:=decide (d.ok=5) }) (A:=X.A) (c:=X.rc) (N:=X.N) (swL_get ml K.L.p _ _) (swL_length _ _ _ _) hN (show (1:Int)≠0 by decide) (by rw [hda.1,hda.2.2]; exact hv2)
  ·have heq':¬ getL (SRK C X V K FU ml).ml (K.L.p.1,K.L.p.2.1,K.L.p.2.2)=K.L.W:=heq;have hM:opM C d K (getL ml)=(0,findM C d K,swf (getL ml) K.L.p K.L.W (wordI false K.T.hs K.T.e)):=by
    unfold opM;rw [if_neg (by omega),if_neg (by omega),if_pos hpc,hl,if_pos rfl,if_neg heq]
   rw [hM];simp only [heq',if_false] at hlk;refine (rt3a (rt:=rtM C d) (OutR w0 R C X V d q ml (0,findM C d K,swf (getL ml) K.L.p K.L.W (wordI false K.T.hs K.T.e)) 0) hE (hlk.mono ?_)).mono (fun e w' h=>⟨0,h.1,h.2⟩);rintro e w1 ⟨rfl,F5,hE2⟩;have hE4:=(hE2.perm (L':=boxI q (rtC d.ok d.key d.val d.lv 3 (some ⟨sb,0,none⟩) pa (some ⟨l,0,none⟩) pu 0 false 0)::boxI sb (rsC (rtM C d) d.key true true (some ⟨b,0,none⟩))::boxI l (rkC (some ⟨b,0,none⟩) true)::boxI b (rlV 0 d.key true K.L)::LU { SRK C X V K FU ml with F:=F5,ml:=swL (SRK C X V K FU ml).ml (K.L.p.1,K.L.p.2.1,K.L.p.2.2) K.L.W (wordI false (SRK C X V K FU ml).hs (SRK C X V K FU ml).ce) } R) (perm_of fun z=>by simp only [LU,rlV,List.count_append,List.count_cons,List.count_nil]; omega)).sub (L':=boxI q (rtC d.ok d.key d.val d.lv 3 (some ⟨sb,0,none⟩) pa (some ⟨l,0,none⟩) pu 0 false 0)::LU { SRK C X V K FU ml with F:=F5,ml:=swL (SRK C X V K FU ml).ml (K.L.p.1,K.L.p.2.1,K.L.p.2.2) K.L.W (wordI false (SRK C X V K FU ml).hs (SRK C X V K FU ml).ce) } R) (.cons_cons _ (.cons _ (.cons _ (.cons _ (List.Sublist.refl _)))));refine ⟨rfl,_,hE4,fun v hv=>(root_r (X0:=X) (FU0:=F5) (K0:=K) (ml0:=swL (SRK C X V K FU ml).ml (K.L.p.1,K.L.p.2.1,K.L.p.2.2) K.L.W (wordI false (SRK C X V K FU ml).hs (SRK C X V K FU ml).ce)) hky hcb rfl (hv.get 0 rfl) (hv.get 1 rfl)).mono (fun e v' h=>⟨h.1,hv.over h.2⟩),fun v hv=>(ragain (k:=rtM C d) (vs:=true) hv).mono ?_⟩;rintro e w2 ⟨rfl,sb9,hE5⟩;exact ⟨rfl,OutR.find (K0:=K) (A:=X.A) (c:=X.rc) (N:=X.N) (swL_get ml K.L.p _ _) (swL_length _ _ _ _) hN hE5⟩
theorem op9_r (hpc:K.pc=9) (hky:InU d.key) (hcb:1<=C.b/\C.b<=64) (hX:InU K.L.X) (hml:ml.length<=999999) (hN:0<=X.N/\X.N<=4000000)
  (hE:Env w0 ([boxI q (rtC d.ok d.key d.val d.lv 5 (some ⟨sb,0,none⟩) pa pl pu 0 false 0),boxI sb (rsC (rtM C d) d.key true true (some ⟨b,0,none⟩)),boxI b (rlV 0 d.key true K.L)]++LU (SRK C X V K FU ml) R) w) :
  Calls prog 71 #[.pointer (some ⟨q,0,none⟩),.pointer (some ⟨X.u,0,none⟩),.pointer (some ⟨V.m,0,none⟩)] w fun e w'=>∃ s,e=.returned (.int .i64 s)/\OutR w0 R C X V d q ml (opM C d K (getL ml)) s w':=by
 have hM:opM C d K (getL ml)=(0,{ K with pc:=4,to:=K.T.hs },upd (getL ml) (5,K.T.hs,7) (wordI false (slotI K.L.X) K.T.e)):=by
  unfold opM;rw [if_neg (by omega),if_neg (by omega),if_neg (by omega),if_pos hpc]
 rw [hM];refine (rt5 (U:=SRK C X V K FU ml) (rt:=rtM C d) hky hcb rfl hX (show ml.length<=1000000 by omega) hE).mono ?_;rintro e w1 ⟨rfl,F5,l,hE2⟩;exact ⟨0,rfl,OutR.go (K:={ K with pc:=4,to:=K.T.hs }) (A:=X.A) (c:=X.rc) (N:=X.N) (sub:=[_,_,_,_]) (getL_set _ _ _) (setL_length _ _ _) hN (.inr (.inr (.inr (.inr (.inl ⟨.inl rfl,sb,pa,pl,l,b,none,none,rfl⟩))))) hE2⟩
theorem op4_r (hpc:K.pc=4) (hky:InU d.key) (hcb:1<=C.b/\C.b<=64) (hX:InU K.L.X) (hmk:markB K.L.X=false) (hs0:K.T.hs=0\/K.to=K.T.hs) (hml:ml.length<=999999) (hN:0<=X.N/\X.N<=4000000)
  (hE:Env w0 ([boxI q (rtC d.ok d.key d.val d.lv 4 (some ⟨sb,0,none⟩) pa pl (some ⟨l,0,none⟩) 0 false 0),boxI sb (rsC (rtM C d) d.key true true (some ⟨b,0,none⟩)),boxI l (rnC (some ⟨b,0,none⟩) (rtM C d) d.key K.to 0 sp rp),boxI b (rlV 0 d.key true K.L)]++LU (SRK C X V K FU ml) R) w) :
  Calls prog 71 #[.pointer (some ⟨q,0,none⟩),.pointer (some ⟨X.u,0,none⟩),.pointer (some ⟨V.m,0,none⟩)] w fun e w'=>∃ s,e=.returned (.int .i64 s)/\OutR w0 R C X V d q ml (opM C d K (getL ml)) s w':=by
 have hE1:=hE.perm (L':=boxI l (rnC (some ⟨b,0,none⟩) (rtM C d) d.key K.to 0 sp rp)::boxI b (rlV 0 d.key true K.L)::LU (SRK C X V K FU ml) (boxI q (rtC d.ok d.key d.val d.lv 4 (some ⟨sb,0,none⟩) pa pl (some ⟨l,0,none⟩) 0 false 0)::boxI sb (rsC (rtM C d) d.key true true (some ⟨b,0,none⟩))::R)) (perm_of fun z=>by simp only [LU,rlV,List.count_append,List.count_cons,List.count_nil]; omega);have hlk:=rmarkT (U:=SRK C X V K FU ml) hX hmk hs0 (show ml.length<=1000000 by omega) hE1
 by_cases heq:getL ml (5,K.L.C,7)=K.L.X
 ·have heq':getL (SRK C X V K FU ml).ml (5,K.L.C,7)=K.L.X:=heq;have hM:opM C d K (getL ml)=(0,{ K with pc:=5,T:={ K.T with hs:=0 } },swf (getL ml) (5,K.L.C,7) K.L.X (markM K.to K.T.e)):=by
   unfold opM;rw [if_neg (by omega),if_neg (by omega),if_neg (by omega),if_neg (by omega),if_pos hpc,if_pos heq]
  rw [hM];simp only [heq',if_true] at hlk;refine (rt4 (OutR w0 R C X V d q ml (0,{ K with pc:=5,T:={ K.T with hs:=0 } },swf (getL ml) (5,K.L.C,7) K.L.X (markM K.to K.T.e)) 0) hE (hlk.mono ?_)).mono (fun e w' h=>⟨0,h.1,h.2⟩);rintro e w1 ⟨rfl,F5,hE2⟩;refine ⟨rfl,?_⟩;have hv:=hE2.perm (L':=boxI q (rtC d.ok d.key d.val d.lv 4 (some ⟨sb,0,none⟩) pa pl (some ⟨l,0,none⟩) 0 false 0)::boxI sb (rsC (rtM C d) d.key true true (some ⟨b,0,none⟩))::boxI l (rnC (some ⟨b,0,none⟩) (rtM C d) d.key K.to 1 sp rp)::boxI b (rlV 0 d.key true K.L)::LU { SRK C X V K FU ml with F:=F5,ml:=swL (SRK C X V K FU ml).ml (5,K.L.C,7) K.L.X (wordI true K.to (SRK C X V K FU ml).ce),hs:=0 } R) (perm_of fun z=>by simp only [LU,rlV,List.count_append,List.count_cons,List.count_nil]; omega);exact OutR.go (K:={ K with pc:=5,T:={ K.T with hs:=0 } }) (A:=X.A) (c:=X.rc) (N:=X.N) (sub:=[_,_,_,_]) (swL_get ml _ _ _) (swL_length _ _ _ _) hN (.inr (.inr (.inr (.inr (.inl ⟨.inr rfl,sb,pa,pl,l,b,sp,rp,rfl⟩))))) hv
 ·have heq':¬ getL (SRK C X V K FU ml).ml (5,K.L.C,7)=K.L.X:=heq;have hM:opM C d K (getL ml)=(0,findM C d K,swf (getL ml) (5,K.L.C,7) K.L.X (markM K.to K.T.e)):=by
   unfold opM;rw [if_neg (by omega),if_neg (by omega),if_neg (by omega),if_neg (by omega),if_pos hpc,if_neg heq]
  rw [hM];simp only [heq',if_false] at hlk;refine (rt4a (rt:=rtM C d) (OutR w0 R C X V d q ml (0,findM C d K,swf (getL ml) (5,K.L.C,7) K.L.X (markM K.to K.T.e)) 0) hE (hlk.mono ?_)).mono (fun e w' h=>⟨0,h.1,h.2⟩);rintro e w1 ⟨rfl,F5,hE2⟩;have hE4:=(hE2.perm (L':=boxI q (rtC d.ok d.key d.val d.lv 4 (some ⟨sb,0,none⟩) pa pl (some ⟨l,0,none⟩) 0 false 0)::boxI sb (rsC (rtM C d) d.key true true (some ⟨b,0,none⟩))::boxI l (rnC (some ⟨b,0,none⟩) (rtM C d) d.key K.to 0 sp rp)::boxI b (rlV 0 d.key true K.L)::LU { SRK C X V K FU ml with F:=F5,ml:=swL (SRK C X V K FU ml).ml (5,K.L.C,7) K.L.X (wordI true K.to (SRK C X V K FU ml).ce) } R) (perm_of fun z=>by simp only [LU,rlV,List.count_append,List.count_cons,List.count_nil]; omega)).sub (L':=boxI q (rtC d.ok d.key d.val d.lv 4 (some ⟨sb,0,none⟩) pa pl (some ⟨l,0,none⟩) 0 false 0)::LU { SRK C X V K FU ml with F:=F5,ml:=swL (SRK C X V K FU ml).ml (5,K.L.C,7) K.L.X (wordI true K.to (SRK C X V K FU ml).ce) } R) (.cons_cons _ (.cons _ (.cons _ (.cons _ (List.Sublist.refl _)))));refine ⟨rfl,_,hE4,fun v hv=>(root_r (X0:=X) (FU0:=F5) (K0:=K) (ml0:=swL (SRK C X V K FU ml).ml (5,K.L.C,7) K.L.X (wordI true K.to (SRK C X V K FU ml).ce)) hky hcb rfl (hv.get 0 rfl) (hv.get 1 rfl)).mono (fun e v' h=>⟨h.1,hv.over h.2⟩),fun v hv=>(ragain (k:=rtM C d) (vs:=true) hv).mono ?_⟩;rintro e w2 ⟨rfl,sb9,hE5⟩;exact ⟨rfl,OutR.find (K0:=K) (A:=X.A) (c:=X.rc) (N:=X.N) (swL_get ml _ _ _) (swL_length _ _ _ _) hN hE5⟩
theorem op5_r (hpc:K.pc=5) (hml:ml.length<=999999) (hN:0<=X.N/\X.N<=4000000)
  (hE:Env w0 ([boxI q (rtC d.ok d.key d.val d.lv 4 (some ⟨sb,0,none⟩) pa pl (some ⟨l,0,none⟩) 0 false 0),boxI sb (rsC (rtM C d) d.key true true (some ⟨b,0,none⟩)),boxI l (rnC (some ⟨b,0,none⟩) (rtM C d) d.key K.to 1 sp rp),boxI b (rlV 0 d.key true K.L)]++LU (SRK C X V K FU ml) R) w) :
  Calls prog 71 #[.pointer (some ⟨q,0,none⟩),.pointer (some ⟨X.u,0,none⟩),.pointer (some ⟨V.m,0,none⟩)] w fun e w'=>∃ s,e=.returned (.int .i64 s)/\OutR w0 R C X V d q ml (opM C d K (getL ml)) s w':=by
 have hE1:=hE.perm (L':=boxI l (rnC (some ⟨b,0,none⟩) (rtM C d) d.key K.to 1 sp rp)::boxI b (rlV 0 d.key true K.L)::LU (SRK C X V K FU ml) (boxI q (rtC d.ok d.key d.val d.lv 4 (some ⟨sb,0,none⟩) pa pl (some ⟨l,0,none⟩) 0 false 0)::boxI sb (rsC (rtM C d) d.key true true (some ⟨b,0,none⟩))::R)) (perm_of fun z=>by simp only [LU,rlV,List.count_append,List.count_cons,List.count_nil]; omega);have hlk:=rcut1 (U:=SRK C X V K FU ml) (show ml.length<=1000000 by omega) hE1
 by_cases heq:getL ml K.L.p=K.L.W
 ·have heq':getL (SRK C X V K FU ml).ml (K.L.p.1,K.L.p.2.1,K.L.p.2.2)=K.L.W:=heq;have hM:opM C d K (getL ml)=(0,{ K with pc:=7,T:={ K.T with pc:=3,rs:=K.L.C,rpc:=0,re:=0 } },swf (getL ml) K.L.p K.L.W (wordI false K.to K.T.e)):=by
   unfold opM;rw [if_neg (by omega),if_neg (by omega),if_neg (by omega),if_neg (by omega),if_neg (by omega),if_pos hpc,if_pos heq]
  rw [hM];simp only [heq',if_true] at hlk;refine (rt4 (OutR w0 R C X V d q ml (0,{ K with pc:=7,T:={ K.T with pc:=3,rs:=K.L.C,rpc:=0,re:=0 } },swf (getL ml) K.L.p K.L.W (wordI false K.to K.T.e)) 0) hE (hlk.mono ?_)).mono (fun e w' h=>⟨0,h.1,h.2⟩);rintro e w1 ⟨rfl,F5,sb9,rb9,hE2⟩;refine ⟨rfl,?_⟩;have hv2:=(hE2.perm (L':=boxI sb9 (rsC (rtM C d) d.key false false none)::boxI q (rtC d.ok d.key d.val d.lv 4 (some ⟨sb,0,none⟩) pa pl (some ⟨l,0,none⟩) 0 false 0)::boxI sb (rsC (rtM C d) d.key true true (some ⟨b,0,none⟩))::boxI l (rnC (some ⟨b,0,none⟩) (rtM C d) d.key K.to 3 (some ⟨sb9,0,none⟩) (some ⟨rb9,0,none⟩))::boxI b (rlV 0 d.key true K.L)::boxI rb9 (rrv K.L.C 0 0)::LU { SRK C X V K FU ml with F:=F5,ml:=swL (SRK C X V K FU ml).ml (K.L.p.1,K.L.p.2.1,K.L.p.2.2) K.L.W (wordI false K.to (SRK C X V K FU ml).ce) } R) (perm_of fun z=>by simp only [LU,rlV,List.count_append,List.count_cons,List.count_nil]; omega)).sub (.cons _ (List.Sublist.refl _));exact OutR.go (K:={ K with pc:=7,T:={ K.T with pc:=3,rs:=K.L.C,rpc:=0,re:=0 } }) (A:=X.A) (c:=X.rc) (N:=X.N) (sub:=[_,_,_,_,_]) (swL_get ml _ _ _) (swL_length _ _ _ _) hN (.inr (.inr (.inr (.inr (.inr (.inr ⟨rfl,sb,pa,pl,l,b,some ⟨sb9,0,none⟩,rb9,rfl⟩)))))) hv2
 ·have heq':¬ getL (SRK C X V K FU ml).ml (K.L.p.1,K.L.p.2.1,K.L.p.2.2)=K.L.W:=heq;have hM:opM C d K (getL ml)=(0,{ K with pc:=6,on2:=false,L2:=L0 (4,0,rtM C d) },swf (getL ml) K.L.p K.L.W (wordI false K.to K.T.e)):=by
   unfold opM;rw [if_neg (by omega),if_neg (by omega),if_neg (by omega),if_neg (by omega),if_neg (by omega),if_pos hpc,if_neg heq]
  rw [hM];simp only [heq',if_false] at hlk;refine (rt4 (OutR w0 R C X V d q ml (0,{ K with pc:=6,on2:=false,L2:=L0 (4,0,rtM C d) },swf (getL ml) K.L.p K.L.W (wordI false K.to K.T.e)) 0) hE (hlk.mono ?_)).mono (fun e w' h=>⟨0,h.1,h.2⟩);rintro e w1 ⟨rfl,F5,sb9,rb9,hE2⟩;refine ⟨rfl,?_⟩;have hv2:=hE2.perm (L':=boxI q (rtC d.ok d.key d.val d.lv 4 (some ⟨sb,0,none⟩) pa pl (some ⟨l,0,none⟩) 0 false 0)::boxI sb (rsC (rtM C d) d.key true true (some ⟨b,0,none⟩))::boxI l (rnC (some ⟨b,0,none⟩) (rtM C d) d.key K.to 2 (some ⟨sb9,0,none⟩) (some ⟨rb9,0,none⟩))::boxI b (rlV 0 d.key true K.L)::boxI rb9 (rrv K.L.C 0 0)::boxI sb9 (rsC (rtM C d) d.key false false none)::LU { SRK C X V K FU ml with F:=F5,ml:=swL (SRK C X V K FU ml).ml (K.L.p.1,K.L.p.2.1,K.L.p.2.2) K.L.W (wordI false K.to (SRK C X V K FU ml).ce) } R) (perm_of fun z=>by simp only [LU,rlV,List.count_append,List.count_cons,List.count_nil]; omega);exact OutR.go (K:={ K with pc:=6,on2:=false,L2:=L0 (4,0,rtM C d) }) (A:=X.A) (c:=X.rc) (N:=X.N) (sub:=[_,_,_,_,_,_]) (swL_get ml _ _ _) (swL_length _ _ _ _) hN (.inr (.inr (.inr (.inr (.inr (.inl ⟨rfl,sb,pa,pl,l,b,sb9,rb9,[_],.inl ⟨rfl,none,rfl⟩,rfl⟩)))))) hv2
theorem op6_r (hpc:K.pc=6) (hon:K.on2=true->LaneOk C K.L2) (he:0<=K.T.e/\K.T.e<=9223372036854775807) (hu:∀ x,InU (getL ml x)) (hml:ml.length<=999999) (hN:0<=X.N/\X.N<=4000000) (hS:RSit s2 (rtM C d) d.key false K.on2 K.L2 sub2)
  (hE:Env w0 ((boxI q (rtC d.ok d.key d.val d.lv 4 (some ⟨sb,0,none⟩) pa pl (some ⟨l,0,none⟩) 0 false 0)::boxI sb (rsC (rtM C d) d.key true true (some ⟨b,0,none⟩))::boxI l (rnC (some ⟨b,0,none⟩) (rtM C d) d.key K.to 2 (some ⟨s2,0,none⟩) (some ⟨rb,0,none⟩))::boxI b (rlV 0 d.key true K.L)::boxI rb (rrv K.L.C 0 0)::sub2)++LU (SRK C X V K FU ml) R) w) :
  Calls prog 71 #[.pointer (some ⟨q,0,none⟩),.pointer (some ⟨X.u,0,none⟩),.pointer (some ⟨V.m,0,none⟩)] w fun e w'=>∃ s,e=.returned (.int .i64 s)/\OutR w0 R C X V d q ml (opM C d K (getL ml)) s w':=by
 have hM:opM C d K (getL ml)=if (searchM (rtM C d) d.key false ⟨K.on2,K.L2,K.T.e,K.r⟩ (getL ml)).1=1 then (0,{ K with on2:=(searchM (rtM C d) d.key false ⟨K.on2,K.L2,K.T.e,K.r⟩ (getL ml)).2.1.on,L2:=(searchM (rtM C d) d.key false ⟨K.on2,K.L2,K.T.e,K.r⟩ (getL ml)).2.1.L,r:=(searchM (rtM C d) d.key false ⟨K.on2,K.L2,K.T.e,K.r⟩ (getL ml)).2.1.r,pc:=7,T:={ K.T with e:=(searchM (rtM C d) d.key false ⟨K.on2,K.L2,K.T.e,K.r⟩ (getL ml)).2.1.e,pc:=3,rs:=K.L.C,rpc:=0,re:=0 } },(searchM (rtM C d) d.key false ⟨K.on2,K.L2,K.T.e,K.r⟩ (getL ml)).2.2) else (0,{ K with on2:=(searchM (rtM C d) d.key false ⟨K.on2,K.L2,K.T.e,K.r⟩ (getL ml)).2.1.on,L2:=(searchM (rtM C d) d.key false ⟨K.on2,K.L2,K.T.e,K.r⟩ (getL ml)).2.1.L,r:=(searchM (rtM C d) d.key false ⟨K.on2,K.L2,K.T.e,K.r⟩ (getL ml)).2.1.r,T:={ K.T with e:=(searchM (rtM C d) d.key false ⟨K.on2,K.L2,K.T.e,K.r⟩ (getL ml)).2.1.e } },(searchM (rtM C d) d.key false ⟨K.on2,K.L2,K.T.e,K.r⟩ (getL ml)).2.2):=by
  unfold opM;rw [if_neg (by omega),if_neg (by omega),if_neg (by omega),if_neg (by omega),if_neg (by omega),if_neg (by omega),if_pos hpc]
 rw [hM];have hsr:=search_R (C:=C) (X:=X) (V:=V) (T:=K.T) (r:=K.r) (k:=rtM C d) (vs:=false) (R:=boxI q (rtC d.ok d.key d.val d.lv 4 (some ⟨sb,0,none⟩) pa pl (some ⟨l,0,none⟩) 0 false 0)::boxI sb (rsC (rtM C d) d.key true true (some ⟨b,0,none⟩))::boxI l (rnC (some ⟨b,0,none⟩) (rtM C d) d.key K.to 2 (some ⟨s2,0,none⟩) (some ⟨rb,0,none⟩))::boxI b (rlV 0 d.key true K.L)::boxI rb (rrv K.L.C 0 0)::R) hon he hu (show ml.length<=1000000 by omega) hS (hE.perm (L':=sub2++LU (SRK C X V K FU ml) (boxI q (rtC d.ok d.key d.val d.lv 4 (some ⟨sb,0,none⟩) pa pl (some ⟨l,0,none⟩) 0 false 0)::boxI sb (rsC (rtM C d) d.key true true (some ⟨b,0,none⟩))::boxI l (rnC (some ⟨b,0,none⟩) (rtM C d) d.key K.to 2 (some ⟨s2,0,none⟩) (some ⟨rb,0,none⟩))::boxI b (rlV 0 d.key true K.L)::boxI rb (rrv K.L.C 0 0)::R)) (perm_of fun z=>by
  simp only [LU,List.count_append,List.count_cons];omega))
 have hst:=search_state (rtM C d) d.key false ⟨K.on2,K.L2,K.T.e,K.r⟩ (getL ml);generalize searchM (rtM C d) d.key false ⟨K.on2,K.L2,K.T.e,K.r⟩ (getL ml)=z at *;obtain ⟨q1,⟨on',L',e',r'⟩,f'⟩:=z;dsimp only at hst hsr ⊢;have hq1:q1=0\/q1=1:=by rcases hst with h | h; exact .inl h; exact .inr h.1
 have hbk:∀ (z9:Int × Kt × Mem),(∀ v,(∃ FU' ml' sub',getL ml'=f'/\ml'.length<=ml.length+1/\RSit s2 (rtM C d) d.key false on' L' sub'/\Env w0 (boxI q (rtC d.ok d.key d.val d.lv 4 (some ⟨sb,0,none⟩) pa pl (some ⟨l,0,none⟩) 0 false 0)::boxI sb (rsC (rtM C d) d.key true true (some ⟨b,0,none⟩))::boxI l (rnC (some ⟨b,0,none⟩) (rtM C d) d.key K.to (if q1=1 then 3 else 2) (some ⟨s2,0,none⟩) (some ⟨rb,0,none⟩))::boxI b (rlV 0 d.key true K.L)::boxI rb (rrv K.L.C 0 0)::(sub'++LU (SR C { X with ro:=r' } V { K.T with e:=e' } FU' ml') R)) v)->OutR w0 R C X V d q ml z9 0 v)->Calls prog 71 #[.pointer (some ⟨q,0,none⟩),.pointer (some ⟨X.u,0,none⟩),.pointer (some ⟨V.m,0,none⟩)] w fun e w'=>∃ s,e=.returned (.int .i64 s)/\OutR w0 R C X V d q ml z9 s w':=by
  intro z9 hz;refine (rt4 (OutR w0 R C X V d q ml z9 0) hE ?_).mono (fun e w' h=>⟨0,h.1,h.2⟩);have hE9:=hE.perm (L':=boxI l (rnC (some ⟨b,0,none⟩) (rtM C d) d.key K.to 2 (some ⟨s2,0,none⟩) (some ⟨rb,0,none⟩))::boxI q (rtC d.ok d.key d.val d.lv 4 (some ⟨sb,0,none⟩) pa pl (some ⟨l,0,none⟩) 0 false 0)::boxI sb (rsC (rtM C d) d.key true true (some ⟨b,0,none⟩))::boxI b (rlV 0 d.key true K.L)::boxI rb (rrv K.L.C 0 0)::(sub2++LU (SRK C X V K FU ml) R)) (perm_of fun z=>by simp only [LU,List.count_append,List.count_cons]; omega);refine (rseek2 q1 hq1 s2 (fun v=>OutR w0 R C X V d q ml z9 0 v) hE9 (hsr.mono ?_));rintro e w1 ⟨rfl,FU',ml',sub',hf',hl',hS',hE'⟩;refine ⟨rfl,boxI q (rtC d.ok d.key d.val d.lv 4 (some ⟨sb,0,none⟩) pa pl (some ⟨l,0,none⟩) 0 false 0)::boxI sb (rsC (rtM C d) d.key true true (some ⟨b,0,none⟩))::boxI b (rlV 0 d.key true K.L)::boxI rb (rrv K.L.C 0 0)::(sub'++LU (SR C { X with ro:=r' } V { K.T with e:=e' } FU' ml') R),hE'.perm (perm_of fun z=>by simp only [LU,List.count_append,List.count_cons]; omega),fun v hv=>?_⟩;exact hz v ⟨FU',ml',sub',hf',hl',hS',hv.perm (perm_of fun z=>by simp only [LU,List.count_append,List.count_cons]; omega)⟩
 rcases hq1 with h | h
 ·subst h;rw [if_neg (by decide)];refine hbk _ ?_;rintro v ⟨FU',ml',sub',hf',hl',hS',hv⟩;exact OutR.go (K:={ K with on2:=on',L2:=L',r:=r',T:={ K.T with e:=e' } }) (A:=X.A) (c:=X.rc) (N:=X.N) (sub:=_::_::_::_::_::sub') hf' hl' hN (.inr (.inr (.inr (.inr (.inr (.inl ⟨hpc,sb,pa,pl,l,b,s2,rb,sub',hS',rfl⟩)))))) hv
 ·subst h;rw [if_pos rfl];refine hbk _ ?_;rintro v ⟨FU',ml',sub',hf',hl',hS',hv⟩;have hv2:=(hv.perm (L':=sub'++(boxI q (rtC d.ok d.key d.val d.lv 4 (some ⟨sb,0,none⟩) pa pl (some ⟨l,0,none⟩) 0 false 0)::boxI sb (rsC (rtM C d) d.key true true (some ⟨b,0,none⟩))::boxI l (rnC (some ⟨b,0,none⟩) (rtM C d) d.key K.to 3 (some ⟨s2,0,none⟩) (some ⟨rb,0,none⟩))::boxI b (rlV 0 d.key true K.L)::boxI rb (rrv K.L.C 0 0)::LU (SR C { X with ro:=r' } V { K.T with e:=e' } FU' ml') R)) (perm_of fun z=>by
   rw [if_pos rfl];simp only [LU,List.count_append,List.count_cons];omega)).sub (List.sublist_append_right sub' _)
  exact OutR.go (K:={ K with on2:=on',L2:=L',r:=r',pc:=7,T:={ K.T with e:=e',pc:=3,rs:=K.L.C,rpc:=0,re:=0 } }) (A:=X.A) (c:=X.rc) (N:=X.N) (sub:=[_,_,_,_,_]) hf' hl' hN (.inr (.inr (.inr (.inr (.inr (.inr ⟨rfl,sb,pa,pl,l,b,some ⟨s2,0,none⟩,rb,rfl⟩)))))) hv2
theorem op7_r (hpc:K.pc=7) (hl:K.T.ql.length+1<=1000000) (hre:InU K.T.re) (hep:K.T.rpc≠0->epI K.T.re=K.T.re) (hr:K.T.rpc=0\/K.T.rpc=1) (hda:K.err=0/\K.dn=false/\K.vl=0) (hml:ml.length<=999999) (hN:0<=X.N/\X.N<=4000000)
  (hE:Env w0 ([boxI q (rtC d.ok d.key d.val d.lv 4 (some ⟨sb,0,none⟩) pa pl (some ⟨l,0,none⟩) 0 false 0),boxI sb (rsC (rtM C d) d.key true true (some ⟨b,0,none⟩)),boxI l (rnC (some ⟨b,0,none⟩) (rtM C d) d.key K.to 3 sp (some ⟨rb,0,none⟩)),boxI b (rlV 0 d.key true K.L),boxI rb (rrv K.T.rs (K.T.rpc:Int) K.T.re)]++LU (SRK C X V K FU ml) R) w) :
  Calls prog 71 #[.pointer (some ⟨q,0,none⟩),.pointer (some ⟨X.u,0,none⟩),.pointer (some ⟨V.m,0,none⟩)] w fun e w'=>∃ s,e=.returned (.int .i64 s)/\OutR w0 R C X V d q ml (opM C d K (getL ml)) s w':=by
 have hM:opM C d K (getL ml)=if (retireM K.T (getL ml)).1=0 then (0,{ K with T:=(retireM K.T (getL ml)).2.1 },(retireM K.T (getL ml)).2.2) else (1,{ K with T:={ (retireM K.T (getL ml)).2.1 with pc:=0 },dn:=true,vl:=K.L.V },(retireM K.T (getL ml)).2.2):=by
  unfold opM;rw [if_neg (by omega),if_neg (by omega),if_neg (by omega),if_neg (by omega),if_neg (by omega),if_neg (by omega),if_neg (by omega)]
 rw [hM];have hE1:=hE.perm (L':=boxI rb (rrv K.T.rs (K.T.rpc:Int) K.T.re)::LU (SRK C X V K FU ml) (boxI q (rtC d.ok d.key d.val d.lv 4 (some ⟨sb,0,none⟩) pa pl (some ⟨l,0,none⟩) 0 false 0)::boxI sb (rsC (rtM C d) d.key true true (some ⟨b,0,none⟩))::boxI l (rnC (some ⟨b,0,none⟩) (rtM C d) d.key K.to 3 sp (some ⟨rb,0,none⟩))::boxI b (rlV 0 d.key true K.L)::R)) (perm_of fun z=>by simp only [LU,List.count_append,List.count_cons,List.count_nil]; omega);have hrr:=reR (C:=C) (X:={ X with ro:=K.r }) (V:=V) (T:=K.T) hl hre hep hr hml hN hE1;have hE9:=hE.perm (L':=boxI l (rnC (some ⟨b,0,none⟩) (rtM C d) d.key K.to 3 sp (some ⟨rb,0,none⟩))::boxI q (rtC d.ok d.key d.val d.lv 4 (some ⟨sb,0,none⟩) pa pl (some ⟨l,0,none⟩) 0 false 0)::boxI sb (rsC (rtM C d) d.key true true (some ⟨b,0,none⟩))::boxI b (rlV 0 d.key true K.L)::boxI rb (rrv K.T.rs (K.T.rpc:Int) K.T.re)::LU (SRK C X V K FU ml) R) (perm_of fun z=>by simp only [List.cons_append,List.nil_append,List.count_cons]; omega);have hrs:(retireM K.T (getL ml)).1=0\/(retireM K.T (getL ml)).1=1:=by
  unfold retireM
  split
  ·exact .inl rfl
  ·exact .inr rfl
 generalize retireM K.T (getL ml)=z at *;obtain ⟨q1,T',f'⟩:=z;dsimp only at hrs hrr ⊢
 rcases hrs with h | h
 ·subst h;rw [if_pos rfl];refine (rt4 (OutR w0 R C X V d q ml (0,{ K with T:=T' },f') 0) hE ?_).mono (fun e w' h=>⟨0,h.1,h.2⟩);refine rret3 rb (fun o w9=>o=.returned (.int .i64 0)/\OutR w0 R C X V d q ml (0,{ K with T:=T' },f') 0 w9) hE9 (hrr.mono ?_);rintro e w1 ⟨rfl,A',rc',N',FU',ml',hf',hl',hN0,hN1,⟨-,hE'⟩ | ⟨h9,-⟩⟩
  ·refine ⟨0,rfl,rfl,?_⟩;have hv:=hE'.perm (L':=boxI q (rtC d.ok d.key d.val d.lv 4 (some ⟨sb,0,none⟩) pa pl (some ⟨l,0,none⟩) 0 false 0)::boxI sb (rsC (rtM C d) d.key true true (some ⟨b,0,none⟩))::boxI l (rnC (some ⟨b,0,none⟩) (rtM C d) d.key K.to 3 sp (some ⟨rb,0,none⟩))::boxI b (rlV 0 d.key true K.L)::boxI rb (rrv T'.rs (T'.rpc:Int) T'.re)::LU (SR C { { X with ro:=K.r } with A:=A',rc:=rc',N:=N' } V T' FU' ml') R) (perm_of fun z=>by simp only [LU,List.count_append,List.count_cons]; omega);exact OutR.go (K:={ K with T:=T' }) (A:=A') (c:=rc') (N:=N') (sub:=[_,_,_,_,_]) hf' hl' ⟨hN0,hN1⟩ (.inr (.inr (.inr (.inr (.inr (.inr ⟨hpc,sb,pa,pl,l,b,sp,rb,rfl⟩)))))) hv
  ·exact absurd rfl h9
 ·subst h;rw [if_neg (by decide)];refine (rt4e (x:=K.L.p.1) (y:=K.L.p.2.1) (z:=K.L.p.2.2) (lpc:=(K.L.pc:Int)) (W:=K.L.W) (X:=K.L.X) (K:=K.L.K) (V:=K.L.V) (Cc:=K.L.C) (fd:=K.L.fd) (OutR w0 R C X V d q ml (1,{ K with T:={ T' with pc:=0 },dn:=true,vl:=K.L.V },f') 1) hE ?_).mono (fun e w' h=>⟨1,h.1,h.2⟩);refine rret3 rb (fun o w9=>o=.returned (.int .i64 1)/\∃ L1,Env w0 (boxI q (rtC d.ok d.key d.val d.lv 4 (some ⟨sb,0,none⟩) pa pl (some ⟨l,0,none⟩) 0 false 0)::boxI b (rlV 0 d.key true K.L)::L1) w9/\∀ v,Env w0 (boxI q (rtC d.ok d.key d.val d.lv 4 (some ⟨sb,0,none⟩) pa pl (some ⟨l,0,none⟩) 0 true K.L.V)::boxI b (rlV 0 d.key true K.L)::L1) v->OutR w0 R C X V d q ml (1,{ K with T:={ T' with pc:=0 },dn:=true,vl:=K.L.V },f') 1 v) hE9 (hrr.mono ?_);rintro e w1 ⟨rfl,A',rc',N',FU',ml',hf',hl',hN0,hN1,⟨h9,-⟩ | ⟨-,hE'⟩⟩
  ·exact absurd h9 (by decide)
  ·refine ⟨1,rfl,rfl,boxI sb (rsC (rtM C d) d.key true true (some ⟨b,0,none⟩))::boxI l (rnC (some ⟨b,0,none⟩) (rtM C d) d.key K.to 3 sp (some ⟨rb,0,none⟩))::LU (SR C { { X with ro:=K.r } with A:=A',rc:=rc',N:=N' } V T' FU' ml') R,hE'.perm (L':=boxI q (rtC d.ok d.key d.val d.lv 4 (some ⟨sb,0,none⟩) pa pl (some ⟨l,0,none⟩) 0 false 0)::boxI b (rlV 0 d.key true K.L)::boxI sb (rsC (rtM C d) d.key true true (some ⟨b,0,none⟩))::boxI l (rnC (some ⟨b,0,none⟩) (rtM C d) d.key K.to 3 sp (some ⟨rb,0,none⟩))::LU (SR C { { X with ro:=K.r } with A:=A',rc:=rc',N:=N' } V T' FU' ml') R) (perm_of fun z=>by simp only [LU,List.count_append,List.count_cons]; omega),fun v hv=>?_⟩;have hv2:Env w0 (boxI q (rtC d.ok d.key d.val d.lv 4 (some ⟨sb,0,none⟩) pa pl (some ⟨l,0,none⟩) K.err true K.L.V)::LU (SR C { { X with ro:=K.r } with A:=A',rc:=rc',N:=N' } V T' FU' ml') R) v:=by
    rw [hda.1];exact hv.sub (.cons_cons _ (.cons _ (.cons _ (.cons _ (List.Sublist.refl _)))))
   exact OutR.fin (K:={ K with T:={ T' with pc:=0 },dn:=true,vl:=K.L.V }) (A:=A') (c:=rc') (N:=N') hf' hl' ⟨hN0,hN1⟩ (show (1:Int)≠0 by decide) hv2
structure KrOk (C:Cf) (d:Dd) (K:Kt) (ml:List OneR) (N:Int):Prop where
 (mlr:ml.length<=999999)
 (Nr:0<=N/\N<=4000000)
 (hs:0<=K.T.hs)
 (e:0<=K.T.e/\K.T.e<=9223372036854775807)
 (u:∀ x,InU (getL ml x))
 (v:K.pc=2->K.T.apc=6->verI K.T.ah < 1099511627775)
 (kk:K.pc=2->K.T.apc<=10\/K.T.apc - 10 < (WD C d K.T).length)
 (ep:K.pc=7->K.T.rpc≠0->epI K.T.re=K.T.re)
 (k4:d.ok=4\/d.ok=5\/d.ok=6\/d.ok=7)
 (ky:InU d.key)
 (cb:1<=C.b/\C.b<=64)
 (i3:K.pc=3->d.ok=4\/d.ok=5)
theorem op_r {n:Nat} {rs:List Item} (h:KcOk C d K (getL ml) n) (hr:KrOk C d K ml X.N) (hM:RSub C d K q rs) (hE:Env w0 (rs++LU (SRK C X V K FU ml) R) w) :
  Calls prog 71 #[.pointer (some ⟨q,0,none⟩),.pointer (some ⟨X.u,0,none⟩),.pointer (some ⟨V.m,0,none⟩)] w fun e w'=>∃ s,e=.returned (.int .i64 s)/\OutR w0 R C X V d q ml (opM C d K (getL ml)) s w':=by
 have hml:=hr.mlr
 rcases hM with ⟨hpc,sb,pa,pl,pu,sub,hS,rfl⟩ | ⟨hpc,sb,lp,a,pl,pu,rfl⟩ | ⟨hpc,sb,pa,l,b,pu,rfl⟩ | ⟨hpc,sb,pa,pl,pu,b,rfl⟩ | ⟨hpc,sb,pa,pl,l,b,sp,rp,rfl⟩ | ⟨hpc,sb,pa,pl,l,b,s2,rb,sub2,hS,rfl⟩ | ⟨hpc,sb,pa,pl,l,b,sp,rb,rfl⟩
 ·exact op1_r hpc hr.ky hr.cb hr.k4 (h.s1 hpc) (h.sx hpc) h.da h.len hr.hs hr.e hr.u (by omega) hr.Nr hS hE
 ·exact op2_r hpc hr.ky hr.cb (h.row hpc) h.da hml hr.Nr (hr.v hpc) hr.u (hr.kk hpc) hE
 ·exact op3_r hpc hr.ky hr.cb (hr.i3 hpc) (h.sp (by omega)).W h.da hml hr.Nr hE
 ·exact op9_r hpc hr.ky hr.cb (h.sp (by omega)).X hml hr.Nr hE
 ·rcases hpc with hpc | hpc
  ·rw [if_pos hpc] at hE;exact op4_r hpc hr.ky hr.cb (h.sp (by omega)).X (h.un (by omega)).1 (h.un (by omega)).2 hml hr.Nr hE
  ·rw [if_neg (by omega)] at hE;exact op5_r hpc hml hr.Nr hE
 ·exact op6_r hpc (h.s2 hpc) hr.e hr.u hml hr.Nr hS hE
 ·obtain ⟨h1,h2,h3⟩:=h.re hpc;exact op7_r hpc h.len h1 (hr.ep hpc) h3 h.da hml hr.Nr hE
end
section
variable {C:Cf} {ds:List Dd} {B:Nat} {T:Th} {d:Dd} {K:Kt} {f:Mem} {n:Nat}
theorem KOk.kr {ml:List OneR} {N:Int} (hC:COk C) (hF:OkF C (getL ml)) (h:KOk C ds B d K) (hml:ml.length<=999999) (hN:0<=N/\N<=4000000) (hk4:d.ok=4\/d.ok=5\/d.ok=6\/d.ok=7) (hcb:1<=C.b/\C.b<=64) (hky:InU d.key):KrOk C d K ml N:=by
 have hl:=hC.l;have hs:=hC.s;refine ⟨hml,hN,h.t.hs.1,by have:=h.t.e; constructor<;>omega,hF.u,fun hp h6=>?_,h.kk,fun hp _=>?_,hk4,hky,hcb,fun hp=>h.ins (.inr hp)⟩
 ·have h2:K.T.pc=2:=by have:=h.tp; rw [if_pos hp] at this; exact this
  have:=(h.t.pool h2 (by omega) (by omega)).2.2;omega
 ·have:=h.t.re;unfold epI;rw [if_pos (by omega)]
theorem cb_of (h:chkI 2 C.s C.b C.h C.l=0):1<=C.b/\C.b<=64:=by
 have:=chk_yes h;omega
theorem kinds2 {s b h l kd key val lv:Int} (h8:kd≠8) (h9:opI 2 s b h l kd key val lv=0):kd=4\/kd=5\/kd=6\/kd=7:=by
 unfold opI at h9
 by_cases hc:chkI 2 s b h l=0
 ·rw [if_pos hc] at h9
  by_cases ha:askB 2 kd=true
  ·unfold askB at ha
   by_cases h1:kd=1\/kd=2\/kd=3
   ·rw [if_pos h1] at ha;simp at ha
   ·rw [if_neg h1] at ha
    by_cases h2:kd=4\/kd=5\/kd=6\/kd=7
    ·exact h2
    ·rw [if_neg h2] at ha;exact absurd (of_decide_eq_true ha) h8
  ·rw [if_neg ha] at h9;exact absurd h9 (by decide)
 ·rw [if_neg hc] at h9;exact absurd h9 hc
end
section
variable {w0 w:World} {R ps rs:List Item} {C:Cf} {X:Tm} {V:Wm} {K:Kt} {d:Dd} {G FU:Nat->Prop} {qc:Cnt} {ml:List OneR} {n o q:Nat} {nd st:Int} {ph:Value}
def OutK (w0:World) (R:List Item) (C:Cf) (X:Tm) (V:Wm) (d:Dd) (o q n:Nat) (qc:Cnt) (ml:List OneR) (nd:Int) (ph:Value) (r:Int × Kt × Mem) (w':World):Prop :=
 ∃ (X':Tm) (G' FU':Nat->Prop) (qc':Cnt) (n':Nat) (ml':List OneR) (ms':List Item),Same X X'/\getL ml'=r.2.2/\ml'.length<=ml.length+1/\Nx n qc n' qc'/\0<=X'.N/\X'.N<=4000000/\(r.1=0->∃ ps rs,ms'=ps++rs/\PM C X'.c d r.2.1 o ps/\RSub C d r.2.1 q rs)/\(r.1≠0->∃ nx sp,ms'=[boxI o (opT X.c d.ok d.key d.val d.lv (rtM C d) nx r.1 sp r.2.1.err r.2.1.dn r.2.1.vl)])/\Env w0 (LT (SPK C X' V r.2.1 (getL ml') G' qc' n') (LU (SRK C X' V r.2.1 FU' ml') (boxI X.thr (thk X.c X.u X.dA X.dn X.dc nd (decide (r.1=0)) (.pointer (some ⟨o,0,none⟩)) (.pointer (some ⟨q,0,none⟩)) (.pointer none) ph r.1)::(ms'++R)))) w'
theorem stepOp_k (hg:Glo w0) (h:KcOk C d K (getL ml) n) (hr:KrOk C d K ml X.N) (hP:PM C X.c d K o ps) (hR:RSub C d K q rs)
  (hE:Env w0 (LT (SPK C X V K (getL ml) G qc n) (LU (SRK C X V K FU ml) (boxI X.thr (thk X.c X.u X.dA X.dn X.dc nd true (.pointer (some ⟨o,0,none⟩)) (.pointer (some ⟨q,0,none⟩)) (.pointer none) ph st)::(ps++rs++R)))) w) :
  Calls prog 28 #[.pointer (some ⟨X.thr,0,none⟩),.pointer (some ⟨V.p,0,none⟩),.pointer (some ⟨V.m,0,none⟩)] w fun e w'=>e=.returned (.bool true)/\OutK w0 R C X V d o q n qc ml nd ph (opM C d K (getL ml)) w':=by
 obtain ⟨z,hz⟩:∃ z,opM C d K (getL ml)=z:=⟨_,rfl⟩;obtain ⟨s,K',f'⟩:=z;have hp:=fun (v:World) (L:List Item) hv=>op_p (w:=v) (R:=L) (V:=V) (G:=G) (qc:=qc) h hg hP hv;have hq:=fun (v:World) (L:List Item) hv=>op_r (w:=v) (w0:=w0) (R:=L) (V:=V) (FU:=FU) h hr hR hv;rw [hz] at hp hq ⊢;refine (stepOp_b (w0:=w0) (s:=s) (p:=V.p) (m:=V.m) (o9:=o) (q9:=q) (thr:=X.thr) (c:=X.c) (u:=X.u) (dA:=X.dA) (dn:=X.dn) (dc:=X.dc) (nd:=nd) (st:=st) (ph:=ph) (L:=ps++LT (SPK C X V K (getL ml) G qc n) (rs++LU (SRK C X V K FU ml) R))
  (Q1:=fun L1=>∃ F' k' G' qc' n' ps',Nx n qc n' qc'/\(s=0->PM C X.c d K' o ps')/\(s≠0->∃ nx sp,ps'=[boxI o (opT X.c d.ok d.key d.val d.lv (rtM C d) nx s sp K'.err K'.dn K'.vl)])/\L1=ps'++LT (SPK C { X with F:=F',kq:=k' } V K' f' G' qc' n') (rs++LU (SRK C X V K FU ml) R))
  (Q2:=fun L2=>∃ F' k' G' qc' n' ps' A' c' N' FU' ml' rs',Nx n qc n' qc'/\(s=0->PM C X.c d K' o ps')/\(s≠0->∃ nx sp,ps'=[boxI o (opT X.c d.ok d.key d.val d.lv (rtM C d) nx s sp K'.err K'.dn K'.vl)])/\getL ml'=f'/\ml'.length<=ml.length+1/\0<=N'/\N'<=4000000/\(s=0->RSub C d K' q rs')/\(s≠0->∃ pc pa pb pl pu,rs'=[boxI q (rtC d.ok d.key d.val d.lv pc pa pb pl pu K'.err K'.dn K'.vl)])/\L2=rs'++LU (SRK C { X with A:=A',rc:=c',N:=N' } V K' FU' ml') (ps'++LT (SPK C { X with F:=F',kq:=k' } V K' f' G' qc' n') R))
  ?_ ?_ ?_ ?_).mono ?_
 ·exact hE.perm (perm_of fun z=>by simp only [LT,LU,List.count_append,List.count_cons]; omega)
 ·intro v hv;refine (hp v (boxI X.thr (thk X.c X.u X.dA X.dn X.dc nd true (.pointer (some ⟨o,0,none⟩)) (.pointer (some ⟨q,0,none⟩)) (.pointer none) ph 0)::(rs++LU (SRK C X V K FU ml) R)) (hv.perm (perm_of fun z=>by simp only [LT,LU,List.count_append,List.count_cons]; omega))).mono ?_;rintro e v' ⟨s',he,hs',F',k',G',qc',n',ps',h1,h2,h3,h4⟩;dsimp only at hs' h2 h3 h4;subst hs';refine ⟨he,ps'++LT (SPK C { X with F:=F',kq:=k' } V K' f' G' qc' n') (rs++LU (SRK C X V K FU ml) R),⟨F',k',G',qc',n',ps',h1,h2,h3,rfl⟩,?_⟩;exact h4.perm (perm_of fun z=>by simp only [LT,LU,List.count_append,List.count_cons]; omega)
 ·rintro L1 v ⟨F',k',G',qc',n',ps',h1,h2,h3,rfl⟩ hv;refine (hq v (boxI X.thr (thk X.c X.u X.dA X.dn X.dc nd true (.pointer (some ⟨o,0,none⟩)) (.pointer (some ⟨q,0,none⟩)) (.pointer none) ph s)::(ps'++LT (SPK C { X with F:=F',kq:=k' } V K' f' G' qc' n') R)) (hv.perm (perm_of fun z=>by simp only [LT,LU,List.count_append,List.count_cons]; omega))).mono ?_;rintro e v' ⟨s',he,hs',A',c',N',FU',ml',rs',g1,g2,g3,g4,g5,g6,g7⟩;dsimp only at hs' g1 g5 g6 g7;subst hs';refine ⟨he,rs'++LU (SRK C { X with A:=A',rc:=c',N:=N' } V K' FU' ml') (ps'++LT (SPK C { X with F:=F',kq:=k' } V K' f' G' qc' n') R),⟨F',k',G',qc',n',ps',A',c',N',FU',ml',rs',h1,h2,h3,g1,g2,g3,g4,g5,g6,rfl⟩,?_⟩;exact g7.perm (perm_of fun z=>by simp only [LT,LU,List.count_append,List.count_cons]; omega)
 ·rintro L2 ⟨F',k',G',qc',n',ps',A',c',N',FU',ml',rs',h1,h2,h3,g1,g2,g3,g4,g5,g6,rfl⟩ hs;obtain ⟨nx,sp,rfl⟩:=h3 hs;obtain ⟨pc,pa,pb,pl,pu,rfl⟩:=g6 hs;exact ⟨4,0,_,_,_,_,_,nx,s,sp,pc,pa,pb,pl,pu,_,_,_,rfl,rfl⟩
 ·rintro e w' ⟨rfl,L2,⟨F',k',G',qc',n',ps',A',c',N',FU',ml',rs',h1,h2,h3,g1,g2,g3,g4,g5,g6,rfl⟩,hF⟩;refine ⟨rfl,{ X with F:=F',kq:=k',A:=A',rc:=c',N:=N' },G',FU',qc',n',ml',if s=0 then ps'++rs' else ps',⟨rfl,rfl,rfl,rfl,rfl,rfl,rfl⟩,g1,g2,h1,g3,g4,fun h0=>⟨ps',rs',by show (if s=0 then _ else _)=_; rw [if_pos h0],h2 h0,g5 h0⟩,fun h0=>by obtain ⟨nx,sp,h9⟩:=h3 h0; exact ⟨nx,sp,(if_neg h0).trans h9⟩,?_⟩;have hall:=hF.perm (show List.Perm _ (ps'++rs'++(LT (SPK C { X with F:=F',kq:=k',A:=A',rc:=c',N:=N' } V K' (getL ml') G' qc' n') (LU (SRK C { X with F:=F',kq:=k',A:=A',rc:=c',N:=N' } V K' FU' ml') (boxI X.thr (thk X.c X.u X.dA X.dn X.dc nd (decide (s=0)) (.pointer (some ⟨o,0,none⟩)) (.pointer (some ⟨q,0,none⟩)) (.pointer none) ph s)::R)))) from perm_of fun z=>by
   rw [g1];simp only [LT,LU,SPK,SRK,SP,SR,List.count_append,List.count_cons];omega)
  by_cases h0:s=0
  ·rw [if_pos h0];exact hall.perm (perm_of fun z=>by simp only [LT,LU,List.count_append,List.count_cons]; omega)
  ·rw [if_neg h0];have hall2:=hall.perm (show List.Perm _ (rs'++(LT (SPK C { X with F:=F',kq:=k',A:=A',rc:=c',N:=N' } V K' (getL ml') G' qc' n') (LU (SRK C { X with F:=F',kq:=k',A:=A',rc:=c',N:=N' } V K' FU' ml') (boxI X.thr (thk X.c X.u X.dA X.dn X.dc nd (decide (s=0)) (.pointer (some ⟨o,0,none⟩)) (.pointer (some ⟨q,0,none⟩)) (.pointer none) ph s)::(ps'++R))))) from perm_of fun z=>by
    simp only [LT,LU,List.count_append,List.count_cons];omega)
   exact hall2.sub (List.sublist_append_right _ _)
end
end
end Go.Proofs.YtdknbegcflldjaaGreatDoor
