/- What is proved on the way to the statement, part 11: contracts of the functions, among other things in memory. -/
import Derived.Test.YtdknbegcflldjaaGreatDoorM10

open _root_.Go.Proofs.Tryz
set_option maxRecDepth 100000
set_option maxHeartbeats 25600000
namespace Go.Proofs.YtdknbegcflldjaaGreatDoor
section
open Go.RowKit Go.Maps
def rlC (lv key:Int) (vs:Bool) (x y z pc W X K V C:Int) (fd:Bool):List Value:=[.int .i64 x,.int .i64 y,.int .i64 z,.int .i64 lv,.int .u64 key,.bool vs,.int .i64 pc,.int .u64 W,.int .u64 X,.int .u64 K,.int .u64 V,.int .i64 C,.bool fd]
structure Uc where
 (k s b h l:Int)
 (A:Option Addr)
 (n c:Nat)
 (N hs:Int)
def ruC (uc:Uc) (e ro:Int):List Value:=urv uc.k uc.s uc.b uc.h uc.l e uc.A uc.n uc.c uc.N uc.hs ro
section
variable {uc:Uc} {w:World} {b:Nat} {lv key:Int} {vs fd:Bool} {x y z pc W X K V C:Int}
theorem next_r (hlv:0<=lv/\lv<=1000000) (hb:Blk 0 w b (rlC lv key vs x y z pc W X K V C fd)):Calls prog 190 #[.pointer (some ⟨b,0,none⟩)] w fun e w'=>e=.returned (.agg #[.int .i64 5,.int .i64 C,.int .i64 (7+lv)])/\Below w.heap.size w w':=by
 have hal:=hb.1;have hX:=hb.more (.cells [.int .i64 0,.int .i64 0,.int .i64 0].toArray 105);have hZ:=Blk.new 0 w [.int .i64 0,.int .i64 0,.int .i64 0] 105;have hE:=(Below.refl w.heap.size w).alloc (Nat.le_refl _) (.cells [.int .i64 0,.int .i64 0,.int .i64 0].toArray 105);have hw7:wrap64 (7+lv)=7+lv:=w64 _ (by omega);have hw8:IntKind.i64.wrap (7+lv)=7+lv:=by rw [wrap_i]; exact hw7
 have HW:=zH hw7;clear hb hlv hw7;go_enter func190,ntmps190;go_wp2_with fail;refine Ord.wc [10] (fun w'=>Below w.heap.size w w'/\Blk 0 w' b (rlC lv key vs x y z pc W X K V C fd)) (fun j w'=>Blk 0 w' w.heap.size (if j=0 then [.int .i64 0,.int .i64 0,.int .i64 0] else [.int .i64 5,.int .i64 C,.int .i64 (7+lv)])) ⟨hE.drew,hX.drew⟩ hZ.drew fun hT9=>?_
 repeat ((first
  | (refine Ord.cv ?_ hT9.o ?_ ?_; rotate_left; (intro w5 hS; have r:=Blk.rule hS.2; unfold rlC at r; go_simp<;>rfl))
  | (refine Ord.co hT9.o ?_)
  | (refine Ord.cc ?_ ?_ ?_ hT9.o ?_ ?_ ?_; rotate_left 3; (intro w5 hS; have r:=Blk.rule hS.2; unfold rlC at r; go_simp; constructor<;>rfl); (intro w5 hS; (first | (with_reducible refine kp (cell13_any _ _ _) ?_ ?_; rfl; exact fun w6 hb6=>⟨⟨hS.1.trans (hb6.mono hS.1.size),hS.2.under hb6⟩,fun _ h=>h.under hb6⟩)))));try simp only [Act.put,zA,zZ,zS])
 refine Ord.ch_turn (v:=undef) 0 hT9.o rfl (by decide) (Or.inl rfl) (by rfl) ?_ ?_
 ·rintro w5 hS hA2;simp only [if_true] at hA2;have r:=hA2.rule;have f0:=hA2.thaw 0 (by simp);have f1:=hA2.thaw 1 (by simp);have f2:=hA2.thaw 2 (by simp);have hz:=hS.1.size;go_simp;refine ⟨rfl,⟨?_,?_⟩,?_⟩
  ·exact below_set (below_set (below_set hS.1 hz (by omega) _) (by simp; omega) (by omega) _) (by simp; omega) (by omega) _
  ·exact ((hS.2.off (by omega) _).off (by omega) _).off (by omega) _
  ·exact ((hA2.set (i:=0) (by simp) _).set (i:=1) (by simp) _).set (i:=2) (by simp) _
 try simp only [Act.put,zA,zZ,zS]
 repeat ((first
  | (refine Ord.cv ?_ hT9.o ?_ ?_; rotate_left; (intro w5 hS; skip; go_simp<;>rfl))
  | (refine Ord.co hT9.o ?_));try simp only [Act.put,zA,zZ,zS])
 refine Ord.InText.nil fun w5 hS=>?_;clear hT9;obtain ⟨hC9,hA9⟩:=Ord.chain_end hS;clear hS;have q:=hA9.rule;simp only [show ¬ [10].length=0 by decide,if_false] at q
 go_wp2
 exact bodyPost_ret (v:=.agg #[.int .i64 5,.int .i64 C,.int .i64 (7+lv)]) (by simp [results,results190,go_sem,q]) rfl ⟨rfl,hC9.1⟩
end
section
variable {uc:Uc} {w0 w:World} {L:List Item} {b:Nat} {lv key:Int} {vs fd:Bool} {x y z pc W X K V C:Int}
theorem come_r (v:Int) (hv:InU v) (hE:Env w0 (boxI b (rlC lv key vs x y z pc W X K V C fd)::L) w) :
  Calls prog 191 #[.pointer (some ⟨b,0,none⟩),.int .u64 v] w fun o w'=>o=.returned (.int .i64 (cS v))/\Env w0 (boxI b (rlC lv key vs x y z 3 v 0 K V (slotI v) fd)::L) w':=by
 have hs13:=fun (u:World)=>slot13_any v hv u;obtain ⟨s,hs⟩:∃ s,slotI v=s:=⟨_,rfl⟩;have hcs:cS v=if s=0 then 1 else 0:=by unfold cS; rw [hs]
 rw [hcs,hs];simp only [hs] at hs13;have HS:=zH hs13;clear hs hcs hs13 hv;have r:=hE.rule 0 rfl;unfold rlC at r;have f7:=hE.thaw 0 rfl 7 (by simp [rlC]);have f8:=hE.thaw 0 rfl 8 (by simp [rlC]);have hP:=(hE.put 0 rfl (j:=7) (by simp [rlC]) (.int .u64 v)).put 0 rfl (j:=8) (by simp [rlC]) (.int .u64 0);replace hP:Env w0 (boxI b (rlC lv key vs x y z pc v 0 K V C fd)::L) _:=hP;go_enter func191,ntmps191;go_wp2_with fail;refine (HS.out _).mono ?_;rintro o w1 ⟨rfl,hb⟩;have hE1:=hP.over hb;clear hb r f7 f8 hP hE;have r:=hE1.rule 0 rfl;unfold rlC at r;have f11:=hE1.thaw 0 rfl 11 (by simp [rlC]);have f6:=hE1.thaw 0 rfl 6 (by simp [rlC]);have hP:=(hE1.put 0 rfl (j:=11) (by simp [rlC]) (.int .i64 s)).put 0 rfl (j:=6) (by simp [rlC]) (.int .i64 3);replace hP:Env w0 (boxI b (rlC lv key vs x y z 3 v 0 K V s fd)::L) _:=hP
 by_cases h0:s=0
 ·subst h0;go_wp2_with fail;go_ret;exact ⟨rfl,hP⟩
 ·have hsb:(s==0)=false:=by simpa using h0
  have H0:=zH h0;clear h0;go_wp2_with fail;go_ret;exact ⟨rfl,hP⟩
theorem holds2a_r (hm:markB W=true) (hv:InU W) (hE:Env w0 (boxI b (rlC lv key vs x y z 2 W X K V C fd)::L) w) :
  Calls prog 192 #[.pointer (some ⟨b,0,none⟩)] w fun o w'=>o=.returned (.int .i64 2)/\Env w0 (boxI b (rlC lv key vs x y z 2 W X K V C fd)::L) w':=by
 have h1:=rmarked_any W w hv;rw [hm] at h1;have r:=hE.rule 0 rfl;unfold rlC at r;clear hm hv;go_enter func192,ntmps192;go_wp2_with fail;refine h1.mono ?_;rintro o w1 ⟨rfl,hb⟩;go_wp2_with fail;go_ret;exact ⟨rfl,hE.over hb⟩
theorem holds2b_r (hm:markB W=false) (hv:InU W) (hE:Env w0 (boxI b (rlC lv key vs x y z 2 W X K V C fd)::L) w) :
  Calls prog 192 #[.pointer (some ⟨b,0,none⟩)] w fun o w'=>o=.returned (.int .i64 (cS W))/\Env w0 (boxI b (rlC lv key vs x y z 3 W 0 K V (slotI W) fd)::L) w':=by
 have h1:=rmarked_any W w hv;rw [hm] at h1;have r:=hE.rule 0 rfl;unfold rlC at r;have HV:=zH hv;clear hm hv;go_enter func192,ntmps192;go_wp2_with fail;refine h1.mono ?_;rintro o w1 ⟨rfl,hb⟩;replace hE:=hE.over hb;clear hb r;have r:=hE.rule 0 rfl;unfold rlC at r;go_wp2_with fail;refine (come_r W HV.out hE).mono ?_;rintro o w2 ⟨rfl,hE2⟩;go_wp2_with fail;go_ret;exact ⟨rfl,hE2⟩
theorem holds4_r (hv:InU X) (hE:Env w0 (boxI b (rlC lv key vs x y z 4 W X K V C fd)::L) w) :
  Calls prog 192 #[.pointer (some ⟨b,0,none⟩)] w fun o w'=>o=.returned (.int .i64 0)/\Env w0 (boxI b (rlC lv key vs x y z (if markB X then 5 else 6) W X K V C fd)::L) w':=by
 obtain ⟨mk,hmk⟩:∃ mk,markB X=mk:=⟨_,rfl⟩;have h1:=fun (u:World)=>rmarked_any X u hv;simp only [hmk] at h1;rw [hmk];have H1:=zH h1;have r:=hE.rule 0 rfl;unfold rlC at r;have f6:=hE.thaw 0 rfl 6 (by simp [rlC]);have hP:=hE.put 0 rfl (j:=6) (by simp [rlC]) (.int .i64 6);replace hP:Env w0 (boxI b (rlC lv key vs x y z 6 W X K V C fd)::L) _:=hP;clear hmk hv h1;go_enter func192,ntmps192;go_wp2_with fail;refine (H1.out _).mono ?_;rintro o w1 ⟨rfl,hb⟩;replace hP:=hP.over hb;clear hb r f6;cases mk
 ·go_wp2_with fail;go_ret;exact ⟨rfl,hP⟩
 ·have r:=hP.rule 0 rfl;unfold rlC at r;have f6:=hP.thaw 0 rfl 6 (by simp [rlC]);have hQ:=hP.put 0 rfl (j:=6) (by simp [rlC]) (.int .i64 5);go_wp2_with fail;go_ret;exact ⟨rfl,hQ⟩
theorem holds7a_r (hk:K < key) (hlv:0<=lv/\lv<=1000000) (hv:InU X) (hE:Env w0 (boxI b (rlC lv key vs x y z 7 W X K V C fd)::L) w) :
  Calls prog 192 #[.pointer (some ⟨b,0,none⟩)] w fun o w'=>o=.returned (.int .i64 (cS X))/\Env w0 (boxI b (rlC lv key vs 5 C (7+lv) 3 X 0 K V (slotI X) fd)::L) w':=by
 have hkb:decide (K < key)=true:=by simpa using hk
 have r:=hE.rule 0 rfl;unfold rlC at r;have HV:=zH hv;clear hv hk;go_enter func192,ntmps192;go_wp2_with fail;clear r;refine wp_text (S:=(Env w0 (boxI b (rlC lv key vs x y z 7 W X K V C fd)::L))) (by kernel_rfl) (by kernel_rfl) hE.drew (fun hT=>?_);have hT9:=zH hT;clear hT
 repeat ((first
  | (refine text_value (v:=?_) hT9.o (by rfl) ?_ ?_; rotate_left; (intro w5 hS; have r:=hS.rule 0 rfl; unfold rlC at r; go_simp<;>rfl))
  | (refine text_off hT9.o (by rfl) ?_)
  | (refine text_call (v:=?_) (f:=?_) (args:=?_) hT9.o (by rfl) ?_ ?_ ?_; rotate_left 3; (intro w5 hS; have r:=hS.rule 0 rfl; unfold rlC at r; go_simp; constructor<;>rfl); (intro w5 hS; (first | fail))));try simp only [Act.put,zA,zZ,zS])
 refine InText.nil fun w5 hS5=>?_;clear hT9;clear hE;go_wp2_with fail;refine (next_r hlv (hS5.get 0 rfl)).mono ?_;rintro o w6 ⟨rfl,hb⟩;have hE:=hS5.over hb;clear hS5 hb;have r:=hE.rule 0 rfl;unfold rlC at r;have g0:=hE.thaw 0 rfl 0 (by simp [rlC]);have g1:=hE.thaw 0 rfl 1 (by simp [rlC]);have g2:=hE.thaw 0 rfl 2 (by simp [rlC]);have hP:=((hE.put 0 rfl (j:=0) (by simp [rlC]) (.int .i64 5)).put 0 rfl (j:=1) (by simp [rlC]) (.int .i64 C)).put 0 rfl (j:=2) (by simp [rlC]) (.int .i64 (7+lv));replace hP:Env w0 (boxI b (rlC lv key vs 5 C (7+lv) 7 W X K V C fd)::L) _:=hP;have r9:=hP.rule 0 rfl;unfold rlC at r9;go_wp2_with fail;refine (come_r X HV.out hP).mono ?_;rintro o w2 ⟨rfl,hE2⟩;go_wp2_with fail;go_ret;exact ⟨rfl,hE2⟩
theorem holds7b_r (hk:K=key) (hE:Env w0 (boxI b (rlC lv key false x y z 7 W X K V C fd)::L) w) :
  Calls prog 192 #[.pointer (some ⟨b,0,none⟩)] w fun o w'=>o=.returned (.int .i64 1)/\Env w0 (boxI b (rlC lv key false x y z 7 W X K V C true)::L) w':=by
 have hkb:decide (K < key)=false:=by simp; omega
 have hkq:(K==key)=true:=by simpa using hk
 clear hk;have r:=hE.rule 0 rfl;unfold rlC at r;go_enter func192,ntmps192;go_wp2_with fail;clear r;refine wp_text (S:=(Env w0 (boxI b (rlC lv key false x y z 7 W X K V C fd)::L))) (by kernel_rfl) (by kernel_rfl) hE.drew (fun hT=>?_);have hT9:=zH hT;clear hT
 repeat ((first
  | (refine text_value (v:=?_) hT9.o (by rfl) ?_ ?_; rotate_left; (intro w5 hS; have r:=hS.rule 0 rfl; unfold rlC at r; go_simp<;>rfl))
  | (refine text_off hT9.o (by rfl) ?_)
  | (refine text_call (v:=?_) (f:=?_) (args:=?_) hT9.o (by rfl) ?_ ?_ ?_; rotate_left 3; (intro w5 hS; have r:=hS.rule 0 rfl; unfold rlC at r; go_simp; constructor<;>rfl); (intro w5 hS; (first | fail))));try simp only [Act.put,zA,zZ,zS])
 refine InText.nil fun w5 hS5=>?_;clear hT9;clear hE;go_wp2_with fail;have hE:=hS5;clear hS5;refine wp_text (S:=(Env w0 (boxI b (rlC lv key false x y z 7 W X K V C fd)::L))) (by kernel_rfl) (by kernel_rfl) hE.drew (fun hT=>?_);have hT9:=zH hT;clear hT
 repeat ((first
  | (refine text_value (v:=?_) hT9.o (by rfl) ?_ ?_; rotate_left; (intro w5 hS; have r:=hS.rule 0 rfl; unfold rlC at r; go_simp<;>rfl))
  | (refine text_off hT9.o (by rfl) ?_)
  | (refine text_call (v:=?_) (f:=?_) (args:=?_) hT9.o (by rfl) ?_ ?_ ?_; rotate_left 3; (intro w5 hS; have r:=hS.rule 0 rfl; unfold rlC at r; go_simp; constructor<;>rfl); (intro w5 hS; (first | fail))));try simp only [Act.put,zA,zZ,zS])
 refine InText.nil fun w5 hS5=>?_;clear hT9;clear hE;have r:=hS5.rule 0 rfl;unfold rlC at r;have f12:=hS5.thaw 0 rfl 12 (by simp [rlC]);have hP:=hS5.put 0 rfl (j:=12) (by simp [rlC]) (.bool true);replace hP:Env w0 (boxI b (rlC lv key false x y z 7 W X K V C true)::L) _:=hP;go_wp2_with fail;go_ret;exact ⟨rfl,hP⟩
theorem holds7c_r (hk:K=key) (hE:Env w0 (boxI b (rlC lv key true x y z 7 W X K V C fd)::L) w) :
  Calls prog 192 #[.pointer (some ⟨b,0,none⟩)] w fun o w'=>o=.returned (.int .i64 0)/\Env w0 (boxI b (rlC lv key true x y z 8 W X K V C true)::L) w':=by
 have hkb:decide (K < key)=false:=by simp; omega
 have hkq:(K==key)=true:=by simpa using hk
 clear hk;have r:=hE.rule 0 rfl;unfold rlC at r;go_enter func192,ntmps192;go_wp2_with fail;clear r;refine wp_text (S:=(Env w0 (boxI b (rlC lv key true x y z 7 W X K V C fd)::L))) (by kernel_rfl) (by kernel_rfl) hE.drew (fun hT=>?_);have hT9:=zH hT;clear hT
 repeat ((first
  | (refine text_value (v:=?_) hT9.o (by rfl) ?_ ?_; rotate_left; (intro w5 hS; have r:=hS.rule 0 rfl; unfold rlC at r; go_simp<;>rfl))
  | (refine text_off hT9.o (by rfl) ?_)
  | (refine text_call (v:=?_) (f:=?_) (args:=?_) hT9.o (by rfl) ?_ ?_ ?_; rotate_left 3; (intro w5 hS; have r:=hS.rule 0 rfl; unfold rlC at r; go_simp; constructor<;>rfl); (intro w5 hS; (first | fail))));try simp only [Act.put,zA,zZ,zS])
 refine InText.nil fun w5 hS5=>?_;clear hT9;clear hE;go_wp2_with fail;have hE:=hS5;clear hS5;refine wp_text (S:=(Env w0 (boxI b (rlC lv key true x y z 7 W X K V C fd)::L))) (by kernel_rfl) (by kernel_rfl) hE.drew (fun hT=>?_);have hT9:=zH hT;clear hT
 repeat ((first
  | (refine text_value (v:=?_) hT9.o (by rfl) ?_ ?_; rotate_left; (intro w5 hS; have r:=hS.rule 0 rfl; unfold rlC at r; go_simp<;>rfl))
  | (refine text_off hT9.o (by rfl) ?_)
  | (refine text_call (v:=?_) (f:=?_) (args:=?_) hT9.o (by rfl) ?_ ?_ ?_; rotate_left 3; (intro w5 hS; have r:=hS.rule 0 rfl; unfold rlC at r; go_simp; constructor<;>rfl); (intro w5 hS; (first | fail))));try simp only [Act.put,zA,zZ,zS])
 refine InText.nil fun w5 hS5=>?_;clear hT9;clear hE;have r:=hS5.rule 0 rfl;unfold rlC at r;have f12:=hS5.thaw 0 rfl 12 (by simp [rlC]);have hP:=hS5.put 0 rfl (j:=12) (by simp [rlC]) (.bool true);replace hP:Env w0 (boxI b (rlC lv key true x y z 7 W X K V C true)::L) _:=hP;have f6:=hS5.thaw 0 rfl 6 (by simp [rlC]);have hQ:=hP.put 0 rfl (j:=6) (by simp [rlC]) (.int .i64 8);go_wp2_with fail;go_ret;exact ⟨rfl,hQ⟩
theorem holds7d_r (hk:key < K) (hE:Env w0 (boxI b (rlC lv key vs x y z 7 W X K V C fd)::L) w) :
  Calls prog 192 #[.pointer (some ⟨b,0,none⟩)] w fun o w'=>o=.returned (.int .i64 1)/\Env w0 (boxI b (rlC lv key vs x y z 7 W X K V C fd)::L) w':=by
 have hkb:decide (K < key)=false:=by simp; omega
 have hkq:(K==key)=false:=by simp; omega
 clear hk;have r:=hE.rule 0 rfl;unfold rlC at r;go_enter func192,ntmps192;go_wp2_with fail;clear r;refine wp_text (S:=(Env w0 (boxI b (rlC lv key vs x y z 7 W X K V C fd)::L))) (by kernel_rfl) (by kernel_rfl) hE.drew (fun hT=>?_);have hT9:=zH hT;clear hT
 repeat ((first
  | (refine text_value (v:=?_) hT9.o (by rfl) ?_ ?_; rotate_left; (intro w5 hS; have r:=hS.rule 0 rfl; unfold rlC at r; go_simp<;>rfl))
  | (refine text_off hT9.o (by rfl) ?_)
  | (refine text_call (v:=?_) (f:=?_) (args:=?_) hT9.o (by rfl) ?_ ?_ ?_; rotate_left 3; (intro w5 hS; have r:=hS.rule 0 rfl; unfold rlC at r; go_simp; constructor<;>rfl); (intro w5 hS; (first | fail))));try simp only [Act.put,zA,zZ,zS])
 refine InText.nil fun w5 hS5=>?_;clear hT9;clear hE;go_wp2_with fail;have hE:=hS5;clear hS5;refine wp_text (S:=(Env w0 (boxI b (rlC lv key vs x y z 7 W X K V C fd)::L))) (by kernel_rfl) (by kernel_rfl) hE.drew (fun hT=>?_);have hT9:=zH hT;clear hT
 repeat ((first
  | (refine text_value (v:=?_) hT9.o (by rfl) ?_ ?_; rotate_left; (intro w5 hS; have r:=hS.rule 0 rfl; unfold rlC at r; go_simp<;>rfl))
  | (refine text_off hT9.o (by rfl) ?_)
  | (refine text_call (v:=?_) (f:=?_) (args:=?_) hT9.o (by rfl) ?_ ?_ ?_; rotate_left 3; (intro w5 hS; have r:=hS.rule 0 rfl; unfold rlC at r; go_simp; constructor<;>rfl); (intro w5 hS; (first | fail))));try simp only [Act.put,zA,zZ,zS])
 refine InText.nil fun w5 hS5=>?_;clear hT9;clear hE;go_wp2_with fail;go_ret;exact ⟨rfl,hS5⟩
theorem holds9_r (hE:Env w0 (boxI b (rlC lv key vs x y z 9 W X K V C fd)::L) w) :
  Calls prog 192 #[.pointer (some ⟨b,0,none⟩)] w fun o w'=>o=.returned (.int .i64 1)/\Env w0 (boxI b (rlC lv key vs x y z 9 W X K V C fd)::L) w':=by
 have r:=hE.rule 0 rfl;unfold rlC at r;go_enter func192,ntmps192;go_wp2_with fail;clear r;refine wp_text (S:=(Env w0 (boxI b (rlC lv key vs x y z 9 W X K V C fd)::L))) (by kernel_rfl) (by kernel_rfl) hE.drew (fun hT=>?_);have hT9:=zH hT;clear hT
 repeat ((first
  | (refine text_value (v:=?_) hT9.o (by rfl) ?_ ?_; rotate_left; (intro w5 hS; have r:=hS.rule 0 rfl; unfold rlC at r; go_simp<;>rfl))
  | (refine text_off hT9.o (by rfl) ?_)
  | (refine text_call (v:=?_) (f:=?_) (args:=?_) hT9.o (by rfl) ?_ ?_ ?_; rotate_left 3; (intro w5 hS; have r:=hS.rule 0 rfl; unfold rlC at r; go_simp; constructor<;>rfl); (intro w5 hS; (first | fail))));try simp only [Act.put,zA,zZ,zS])
 refine InText.nil fun w5 hS5=>?_;clear hT9;clear hE;go_wp2_with fail;have hE:=hS5;clear hS5;refine wp_text (S:=(Env w0 (boxI b (rlC lv key vs x y z 9 W X K V C fd)::L))) (by kernel_rfl) (by kernel_rfl) hE.drew (fun hT=>?_);have hT9:=zH hT;clear hT
 repeat ((first
  | (refine text_value (v:=?_) hT9.o (by rfl) ?_ ?_; rotate_left; (intro w5 hS; have r:=hS.rule 0 rfl; unfold rlC at r; go_simp<;>rfl))
  | (refine text_off hT9.o (by rfl) ?_)
  | (refine text_call (v:=?_) (f:=?_) (args:=?_) hT9.o (by rfl) ?_ ?_ ?_; rotate_left 3; (intro w5 hS; have r:=hS.rule 0 rfl; unfold rlC at r; go_simp; constructor<;>rfl); (intro w5 hS; (first | fail))));try simp only [Act.put,zA,zZ,zS])
 refine InText.nil fun w5 hS5=>?_;clear hT9;clear hE;go_wp2_with fail;go_ret;exact ⟨rfl,hS5⟩
end
section
variable {uc:Uc} {w0 w:World} {R:List Item} {b u m:Nat} {F:Nat->Prop} {ml:List OneR} {lv key e ro:Int} {vs fd:Bool} {x y z pc W X K V C:Int}
theorem rst0 (v:Int) (hfx:getL ml (x,y,z)=v) (hml:ml.length<=1000000) (hE:Env w0 (boxI b (rlC lv key vs x y z 0 W X K V C fd)::boxI u (ruC uc e ro)::refI m F ml::R) w) :
  Calls prog 147 #[.pointer (some ⟨b,0,none⟩),.pointer (some ⟨u,0,none⟩),.pointer (some ⟨m,0,none⟩)] w fun o w'=>o=.returned (.int .i64 0)/\Env w0 (boxI b (rlC lv key vs x y z 2 v X K V C fd)::boxI u (ruC uc e ro)::refI m F ml::R) w':=by
 have HX:=zH hfx;clear hfx;have r:=hE.rule 0 rfl;unfold rlC at r;go_enter func147,ntmps147;go_wp2_with fail;refine (refGet_any x y z hml (hE.ref 2 rfl)).mono ?_;rintro o w2 ⟨rfl,hb⟩;rw [HX.out];replace hE:=hE.over hb;clear hb r;have r:=hE.rule 0 rfl;unfold rlC at r;have f1:=hE.thaw 0 rfl 7 (by simp [rlC]);have f6:=hE.thaw 0 rfl 6 (by simp [rlC]);have hP:=(hE.put 0 rfl (j:=7) (by simp [rlC]) (.int .u64 v)).put 0 rfl (j:=6) (by simp [rlC]) (.int .i64 2);replace hP:Env w0 (boxI b (rlC lv key vs x y z 2 v X K V C fd)::boxI u (ruC uc e ro)::refI m F ml::R) _:=hP;go_wp2_with fail;go_ret;exact ⟨rfl,hP⟩
theorem rst3 (hlv:0<=lv/\lv<=1000000) (v:Int) (hfx:getL ml (5,C,7+lv)=v) (hml:ml.length<=1000000) (hE:Env w0 (boxI b (rlC lv key vs x y z 3 W X K V C fd)::boxI u (ruC uc e ro)::refI m F ml::R) w) :
  Calls prog 147 #[.pointer (some ⟨b,0,none⟩),.pointer (some ⟨u,0,none⟩),.pointer (some ⟨m,0,none⟩)] w fun o w'=>o=.returned (.int .i64 0)/\Env w0 (boxI b (rlC lv key vs x y z 4 W v K V C fd)::boxI u (ruC uc e ro)::refI m F ml::R) w':=by
 have HX:=zH hfx;clear hfx;have r:=hE.rule 0 rfl;unfold rlC at r;go_enter func147,ntmps147;go_wp2_with fail;refine (next_r hlv (hE.get 0 rfl)).mono ?_;rintro o w1 ⟨rfl,hb⟩;replace hE:=hE.over hb;clear hb r;have r:=hE.rule 0 rfl;unfold rlC at r;go_wp2_with fail;refine (refGet_any 5 C (7+lv) hml (hE.ref 2 rfl)).mono ?_;rintro o w2 ⟨rfl,hb⟩;rw [HX.out];replace hE:=hE.over hb;clear hb r;have r:=hE.rule 0 rfl;unfold rlC at r;have f1:=hE.thaw 0 rfl 8 (by simp [rlC]);have f6:=hE.thaw 0 rfl 6 (by simp [rlC]);have hP:=(hE.put 0 rfl (j:=8) (by simp [rlC]) (.int .u64 v)).put 0 rfl (j:=6) (by simp [rlC]) (.int .i64 4);replace hP:Env w0 (boxI b (rlC lv key vs x y z 4 W v K V C fd)::boxI u (ruC uc e ro)::refI m F ml::R) _:=hP;go_wp2_with fail;go_ret;exact ⟨rfl,hP⟩
theorem rst6 (v:Int) (hfx:getL ml (5,C,3)=v) (hml:ml.length<=1000000) (hE:Env w0 (boxI b (rlC lv key vs x y z 6 W X K V C fd)::boxI u (ruC uc e ro)::refI m F ml::R) w) :
  Calls prog 147 #[.pointer (some ⟨b,0,none⟩),.pointer (some ⟨u,0,none⟩),.pointer (some ⟨m,0,none⟩)] w fun o w'=>o=.returned (.int .i64 0)/\Env w0 (boxI b (rlC lv key vs x y z 7 W X v V C fd)::boxI u (ruC uc e ro)::refI m F ml::R) w':=by
 have HX:=zH hfx;clear hfx;have r:=hE.rule 0 rfl;unfold rlC at r;go_enter func147,ntmps147;go_wp2_with fail;refine (cell13_any C 3 _).mono ?_;rintro o w1 ⟨rfl,hb⟩;replace hE:=hE.over hb;clear hb r;have r:=hE.rule 0 rfl;unfold rlC at r;go_wp2_with fail;refine (refGet_any 5 C 3 hml (hE.ref 2 rfl)).mono ?_;rintro o w2 ⟨rfl,hb⟩;rw [HX.out];replace hE:=hE.over hb;clear hb r;have r:=hE.rule 0 rfl;unfold rlC at r;have f1:=hE.thaw 0 rfl 9 (by simp [rlC]);have f6:=hE.thaw 0 rfl 6 (by simp [rlC]);have hP:=(hE.put 0 rfl (j:=9) (by simp [rlC]) (.int .u64 v)).put 0 rfl (j:=6) (by simp [rlC]) (.int .i64 7);replace hP:Env w0 (boxI b (rlC lv key vs x y z 7 W X v V C fd)::boxI u (ruC uc e ro)::refI m F ml::R) _:=hP;go_wp2_with fail;go_ret;exact ⟨rfl,hP⟩
theorem rst8 (v:Int) (hfx:getL ml (5,C,4)=v) (hml:ml.length<=1000000) (hE:Env w0 (boxI b (rlC lv key vs x y z 8 W X K V C fd)::boxI u (ruC uc e ro)::refI m F ml::R) w) :
  Calls prog 147 #[.pointer (some ⟨b,0,none⟩),.pointer (some ⟨u,0,none⟩),.pointer (some ⟨m,0,none⟩)] w fun o w'=>o=.returned (.int .i64 0)/\Env w0 (boxI b (rlC lv key vs x y z 9 W X K v C fd)::boxI u (ruC uc e ro)::refI m F ml::R) w':=by
 have HX:=zH hfx;clear hfx;have r:=hE.rule 0 rfl;unfold rlC at r;go_enter func147,ntmps147;go_wp2_with fail;refine (cell13_any C 4 _).mono ?_;rintro o w1 ⟨rfl,hb⟩;replace hE:=hE.over hb;clear hb r;have r:=hE.rule 0 rfl;unfold rlC at r;go_wp2_with fail;refine (refGet_any 5 C 4 hml (hE.ref 2 rfl)).mono ?_;rintro o w2 ⟨rfl,hb⟩;rw [HX.out];replace hE:=hE.over hb;clear hb r;have r:=hE.rule 0 rfl;unfold rlC at r;have f1:=hE.thaw 0 rfl 10 (by simp [rlC]);have f6:=hE.thaw 0 rfl 6 (by simp [rlC]);have hP:=(hE.put 0 rfl (j:=10) (by simp [rlC]) (.int .u64 v)).put 0 rfl (j:=6) (by simp [rlC]) (.int .i64 9);replace hP:Env w0 (boxI b (rlC lv key vs x y z 9 W X K v C fd)::boxI u (ruC uc e ro)::refI m F ml::R) _:=hP;go_wp2_with fail;go_ret;exact ⟨rfl,hP⟩
theorem rst5n (heq:getL ml (x,y,z)≠W) (hX:InU X) (hml:ml.length<=1000000) (hE:Env w0 (boxI b (rlC lv key vs x y z 5 W X K V C fd)::boxI u (ruC uc e ro)::refI m F ml::R) w) :
  Calls prog 147 #[.pointer (some ⟨b,0,none⟩),.pointer (some ⟨u,0,none⟩),.pointer (some ⟨m,0,none⟩)] w fun o w'=>o=.returned (.int .i64 2)/\∃ F',Env w0 (boxI b (rlC lv key vs x y z 5 W X K V C fd)::boxI u (ruC uc e ro)::refI m F' (swL ml (x,y,z) W (wordI false (slotI X) e))::R) w':=by
 have HD:Hid (decide (getL ml (x,y,z)=W)=false):=zH (by simpa using heq);have HS13:=zH fun (v:World)=>slot13_any X hX v;have hqi:InU (wordI false (slotI X) e):=wordI_in _ _ _;have HQI:=zH hqi;have HTO:=zH fun (v:World) (hv:Blk 0 v u (urv uc.k uc.s uc.b uc.h uc.l e uc.A uc.n uc.c uc.N uc.hs ro))=>rto_c (slotI X) hv;obtain ⟨s,hs⟩:∃ s,slotI X=s:=⟨_,rfl⟩;rw [hs] at HQI ⊢;simp only [hs] at HS13 HTO;obtain ⟨q,hq⟩:∃ q,wordI false s e=q:=⟨_,rfl⟩;rw [hq] at HQI ⊢;simp only [hq] at HTO;clear hs hq heq hX hqi;have r:=hE.rule 0 rfl;unfold rlC at r;go_enter func147,ntmps147;go_wp2_with fail;refine (HS13.out _).mono ?_;rintro o w1 ⟨rfl,hb⟩;replace hE:=hE.over hb;clear hb r;go_wp2_with fail;refine (HTO.out _ (hE.get 1 rfl)).mono ?_;rintro o w2 ⟨rfl,hb⟩;replace hE:=hE.over hb;clear hb;go_wp2_with fail;refine Ord.wc [10] (fun v=>Blk 0 v b (rlC lv key vs x y z 5 W X K V C fd)) (fun k w'=>∃ G5,Env w0 (boxI b (rlC lv key vs x y z 5 W X K V C fd)::boxI u (ruC uc e ro)::refI m G5 (if k=0 then ml else swL ml (x,y,z) W q)::R) w') (hE.drew.get 0 rfl) ⟨_,hE.drew⟩ fun hT9=>?_
 repeat ((first
  | (refine Ord.cv ?_ hT9.o ?_ ?_; rotate_left; (intro w5 hS; have r:=Blk.rule hS; unfold rlC at r; go_simp<;>rfl))
  | (refine Ord.co hT9.o ?_));try simp only [Act.put,zA,zZ,zS])
 refine Ord.ch_turn (v:=.bool false) 0 hT9.o rfl (by decide) (Or.inl rfl) (by rfl) ?_ ?_
 ·rintro w5 hC5 ⟨G5,hA5⟩;simp only [if_true] at hA5;go_simp;simp only [Ord.LandsIn];have hsw:=refSwap_any x y z W q hml (hA5.ref 2 rfl);rw [HD.out] at hsw;refine hsw.mono ?_;rintro e w6 ⟨rfl,G6,hU6,hs6⟩;have hE6:=hA5.turnU 2 rfl hU6 hs6;simp only [zS,zZ] at hE6;exact ⟨rfl,hE6.get 0 rfl,G6,hE6⟩
 try simp only [Act.put,zA,zZ,zS]
 repeat ((first
  | (refine Ord.cv ?_ hT9.o ?_ ?_; rotate_left; (intro w5 hS; skip; go_simp<;>rfl))
  | (refine Ord.co hT9.o ?_));try simp only [Act.put,zA,zZ,zS])
 refine Ord.InText.nil fun w5 hS=>?_;clear hT9;obtain ⟨hC9,hA9⟩:=Ord.chain_end hS;clear hS;obtain ⟨G9,hA9⟩:=hA9;clear hC9 hE;simp only [List.length_cons,List.length_nil,Nat.zero_add,Nat.one_ne_zero,if_false] at hA9;go_wp2_with fail;go_ret;exact ⟨rfl,G9,hA9⟩
theorem rst5y (heq:getL ml (x,y,z)=W) (hX:InU X) (hml:ml.length<=1000000) (hE:Env w0 (boxI b (rlC lv key vs x y z 5 W X K V C fd)::boxI u (ruC uc e ro)::refI m F ml::R) w) :
  Calls prog 147 #[.pointer (some ⟨b,0,none⟩),.pointer (some ⟨u,0,none⟩),.pointer (some ⟨m,0,none⟩)] w fun o w'=>o=.returned (.int .i64 (cS (wordI false (slotI X) e)))/\∃ F',Env w0 (boxI b (rlC lv key vs x y z 3 (wordI false (slotI X) e) 0 K V (slotI (wordI false (slotI X) e)) fd)::boxI u (ruC uc e ro)::refI m F' (swL ml (x,y,z) W (wordI false (slotI X) e))::R) w':=by
 have HD:Hid (decide (getL ml (x,y,z)=W)=true):=zH (by simpa using heq);have HS13:=zH fun (v:World)=>slot13_any X hX v;have hqi:InU (wordI false (slotI X) e):=wordI_in _ _ _;have HQI:=zH hqi;have HTO:=zH fun (v:World) (hv:Blk 0 v u (urv uc.k uc.s uc.b uc.h uc.l e uc.A uc.n uc.c uc.N uc.hs ro))=>rto_c (slotI X) hv;obtain ⟨s,hs⟩:∃ s,slotI X=s:=⟨_,rfl⟩;rw [hs] at HQI ⊢;simp only [hs] at HS13 HTO;obtain ⟨q,hq⟩:∃ q,wordI false s e=q:=⟨_,rfl⟩;rw [hq] at HQI ⊢;simp only [hq] at HTO;clear hs hq heq hX hqi;have r:=hE.rule 0 rfl;unfold rlC at r;go_enter func147,ntmps147;go_wp2_with fail;refine (HS13.out _).mono ?_;rintro o w1 ⟨rfl,hb⟩;replace hE:=hE.over hb;clear hb r;go_wp2_with fail;refine (HTO.out _ (hE.get 1 rfl)).mono ?_;rintro o w2 ⟨rfl,hb⟩;replace hE:=hE.over hb;clear hb;go_wp2_with fail;refine Ord.wc [10] (fun v=>Blk 0 v b (rlC lv key vs x y z 5 W X K V C fd)) (fun k w'=>∃ G5,Env w0 (boxI b (rlC lv key vs x y z 5 W X K V C fd)::boxI u (ruC uc e ro)::refI m G5 (if k=0 then ml else swL ml (x,y,z) W q)::R) w') (hE.drew.get 0 rfl) ⟨_,hE.drew⟩ fun hT9=>?_
 repeat ((first
  | (refine Ord.cv ?_ hT9.o ?_ ?_; rotate_left; (intro w5 hS; have r:=Blk.rule hS; unfold rlC at r; go_simp<;>rfl))
  | (refine Ord.co hT9.o ?_));try simp only [Act.put,zA,zZ,zS])
 refine Ord.ch_turn (v:=.bool true) 0 hT9.o rfl (by decide) (Or.inl rfl) (by rfl) ?_ ?_
 ·rintro w5 hC5 ⟨G5,hA5⟩;simp only [if_true] at hA5;go_simp;simp only [Ord.LandsIn];have hsw:=refSwap_any x y z W q hml (hA5.ref 2 rfl);rw [HD.out] at hsw;refine hsw.mono ?_;rintro e w6 ⟨rfl,G6,hU6,hs6⟩;have hE6:=hA5.turnU 2 rfl hU6 hs6;simp only [zS,zZ] at hE6;exact ⟨rfl,hE6.get 0 rfl,G6,hE6⟩
 try simp only [Act.put,zA,zZ,zS]
 repeat ((first
  | (refine Ord.cv ?_ hT9.o ?_ ?_; rotate_left; (intro w5 hS; skip; go_simp<;>rfl))
  | (refine Ord.co hT9.o ?_));try simp only [Act.put,zA,zZ,zS])
 refine Ord.InText.nil fun w5 hS=>?_;clear hT9;obtain ⟨hC9,hA9⟩:=Ord.chain_end hS;clear hS;obtain ⟨G9,hA9⟩:=hA9;clear hC9 hE;simp only [List.length_cons,List.length_nil,Nat.zero_add,Nat.one_ne_zero,if_false] at hA9;go_wp2_with fail;refine (come_r q HQI.out hA9).mono ?_;rintro o w7 ⟨rfl,hE7⟩;go_wp2_with fail;go_ret;exact ⟨rfl,G9,hE7⟩
theorem rvn2 (hok:okB (getL ml (1,0,0)) e=false) (hu:InU (getL ml (1,0,0))) (he:0<=e/\e<=9223372036854775807) (hml:ml.length<=1000000) (hE:Env w0 (boxI b (rlC lv key vs x y z 2 W X K V C fd)::boxI u (ruC uc e ro)::refI m F ml::R) w) :
  Calls prog 147 #[.pointer (some ⟨b,0,none⟩),.pointer (some ⟨u,0,none⟩),.pointer (some ⟨m,0,none⟩)] w fun o w'=>o=.returned (.int .i64 2)/\Env w0 (boxI b (rlC lv key vs x y z 2 W X K V C fd)::boxI u (ruC uc e (wrap64 (ro+1)))::refI m F ml::R) w':=by
 have hv:=rvalid_w (L:=(boxI b (rlC lv key vs x y z 2 W X K V C fd)::boxI u (ruC uc e ro)::refI m F ml::R)) (k:=uc.k) (s:=uc.s) (b:=uc.b) (h:=uc.h) (l:=uc.l) (A:=uc.A) (n:=uc.n) (c:=uc.c) (N:=uc.N) (hs:=uc.hs) (r:=ro) _ (rfl:getL ml (1,0,0)=getL ml (1,0,0)) hu he.1 he.2 hml 1 2 hE rfl rfl;rw [hok] at hv;simp only [zS,zZ,Bool.false_eq_true,if_false] at hv;have HV:=zH hv;clear hv hok hu;have r:=hE.rule 0 rfl;unfold rlC at r;go_enter func147,ntmps147;go_wp2_with fail;refine HV.out.mono ?_;rintro o w1 ⟨rfl,hE1⟩;go_wp2_with fail;go_ret;exact ⟨rfl,hE1⟩
theorem rvy2 (hok:okB (getL ml (1,0,0)) e=true) (hu:InU (getL ml (1,0,0))) (he:0<=e/\e<=9223372036854775807) (hml:ml.length<=1000000) (s:Int) (Y:World->Prop) (hE:Env w0 (boxI b (rlC lv key vs x y z 2 W X K V C fd)::boxI u (ruC uc e ro)::refI m F ml::R) w)
  (hc:∀ v,Env w0 (boxI b (rlC lv key vs x y z 2 W X K V C fd)::boxI u (ruC uc e ro)::refI m F ml::R) v->Calls prog 192 #[.pointer (some ⟨b,0,none⟩)] v fun o w'=>o=.returned (.int .i64 s)/\Y w') :
  Calls prog 147 #[.pointer (some ⟨b,0,none⟩),.pointer (some ⟨u,0,none⟩),.pointer (some ⟨m,0,none⟩)] w fun o w'=>o=.returned (.int .i64 s)/\Y w':=by
 have hv:=rvalid_w (L:=(boxI b (rlC lv key vs x y z 2 W X K V C fd)::boxI u (ruC uc e ro)::refI m F ml::R)) (k:=uc.k) (s:=uc.s) (b:=uc.b) (h:=uc.h) (l:=uc.l) (A:=uc.A) (n:=uc.n) (c:=uc.c) (N:=uc.N) (hs:=uc.hs) (r:=ro) _ (rfl:getL ml (1,0,0)=getL ml (1,0,0)) hu he.1 he.2 hml 1 2 hE rfl rfl;rw [hok] at hv;simp only [zS,zZ,if_true] at hv;have HV:=zH hv;have HC:=zH hc;clear hv hok hu hc;have r:=hE.rule 0 rfl;unfold rlC at r;go_enter func147,ntmps147;go_wp2_with fail;refine HV.out.mono ?_;rintro o w1 ⟨rfl,hE1⟩;go_wp2_with fail;refine (HC.out _ hE1).mono ?_;rintro o w2 ⟨rfl,hY⟩;go_wp2_with fail;go_ret;exact ⟨rfl,hY⟩
theorem rvn4 (hok:okB (getL ml (1,0,0)) e=false) (hu:InU (getL ml (1,0,0))) (he:0<=e/\e<=9223372036854775807) (hml:ml.length<=1000000) (hE:Env w0 (boxI b (rlC lv key vs x y z 4 W X K V C fd)::boxI u (ruC uc e ro)::refI m F ml::R) w) :
  Calls prog 147 #[.pointer (some ⟨b,0,none⟩),.pointer (some ⟨u,0,none⟩),.pointer (some ⟨m,0,none⟩)] w fun o w'=>o=.returned (.int .i64 2)/\Env w0 (boxI b (rlC lv key vs x y z 4 W X K V C fd)::boxI u (ruC uc e (wrap64 (ro+1)))::refI m F ml::R) w':=by
 have hv:=rvalid_w (L:=(boxI b (rlC lv key vs x y z 4 W X K V C fd)::boxI u (ruC uc e ro)::refI m F ml::R)) (k:=uc.k) (s:=uc.s) (b:=uc.b) (h:=uc.h) (l:=uc.l) (A:=uc.A) (n:=uc.n) (c:=uc.c) (N:=uc.N) (hs:=uc.hs) (r:=ro) _ (rfl:getL ml (1,0,0)=getL ml (1,0,0)) hu he.1 he.2 hml 1 2 hE rfl rfl;rw [hok] at hv;simp only [zS,zZ,Bool.false_eq_true,if_false] at hv;have HV:=zH hv;clear hv hok hu;have r:=hE.rule 0 rfl;unfold rlC at r;go_enter func147,ntmps147;go_wp2_with fail;refine HV.out.mono ?_;rintro o w1 ⟨rfl,hE1⟩;go_wp2_with fail;go_ret;exact ⟨rfl,hE1⟩
theorem rvy4 (hok:okB (getL ml (1,0,0)) e=true) (hu:InU (getL ml (1,0,0))) (he:0<=e/\e<=9223372036854775807) (hml:ml.length<=1000000) (s:Int) (Y:World->Prop) (hE:Env w0 (boxI b (rlC lv key vs x y z 4 W X K V C fd)::boxI u (ruC uc e ro)::refI m F ml::R) w)
  (hc:∀ v,Env w0 (boxI b (rlC lv key vs x y z 4 W X K V C fd)::boxI u (ruC uc e ro)::refI m F ml::R) v->Calls prog 192 #[.pointer (some ⟨b,0,none⟩)] v fun o w'=>o=.returned (.int .i64 s)/\Y w') :
  Calls prog 147 #[.pointer (some ⟨b,0,none⟩),.pointer (some ⟨u,0,none⟩),.pointer (some ⟨m,0,none⟩)] w fun o w'=>o=.returned (.int .i64 s)/\Y w':=by
 have hv:=rvalid_w (L:=(boxI b (rlC lv key vs x y z 4 W X K V C fd)::boxI u (ruC uc e ro)::refI m F ml::R)) (k:=uc.k) (s:=uc.s) (b:=uc.b) (h:=uc.h) (l:=uc.l) (A:=uc.A) (n:=uc.n) (c:=uc.c) (N:=uc.N) (hs:=uc.hs) (r:=ro) _ (rfl:getL ml (1,0,0)=getL ml (1,0,0)) hu he.1 he.2 hml 1 2 hE rfl rfl;rw [hok] at hv;simp only [zS,zZ,if_true] at hv;have HV:=zH hv;have HC:=zH hc;clear hv hok hu hc;have r:=hE.rule 0 rfl;unfold rlC at r;go_enter func147,ntmps147;go_wp2_with fail;refine HV.out.mono ?_;rintro o w1 ⟨rfl,hE1⟩;go_wp2_with fail;refine (HC.out _ hE1).mono ?_;rintro o w2 ⟨rfl,hY⟩;go_wp2_with fail;go_ret;exact ⟨rfl,hY⟩
theorem rvn7 (hok:okB (getL ml (1,0,0)) e=false) (hu:InU (getL ml (1,0,0))) (he:0<=e/\e<=9223372036854775807) (hml:ml.length<=1000000) (hE:Env w0 (boxI b (rlC lv key vs x y z 7 W X K V C fd)::boxI u (ruC uc e ro)::refI m F ml::R) w) :
  Calls prog 147 #[.pointer (some ⟨b,0,none⟩),.pointer (some ⟨u,0,none⟩),.pointer (some ⟨m,0,none⟩)] w fun o w'=>o=.returned (.int .i64 2)/\Env w0 (boxI b (rlC lv key vs x y z 7 W X K V C fd)::boxI u (ruC uc e (wrap64 (ro+1)))::refI m F ml::R) w':=by
 have hv:=rvalid_w (L:=(boxI b (rlC lv key vs x y z 7 W X K V C fd)::boxI u (ruC uc e ro)::refI m F ml::R)) (k:=uc.k) (s:=uc.s) (b:=uc.b) (h:=uc.h) (l:=uc.l) (A:=uc.A) (n:=uc.n) (c:=uc.c) (N:=uc.N) (hs:=uc.hs) (r:=ro) _ (rfl:getL ml (1,0,0)=getL ml (1,0,0)) hu he.1 he.2 hml 1 2 hE rfl rfl;rw [hok] at hv;simp only [zS,zZ,Bool.false_eq_true,if_false] at hv;have HV:=zH hv;clear hv hok hu;have r:=hE.rule 0 rfl;unfold rlC at r;go_enter func147,ntmps147;go_wp2_with fail;refine HV.out.mono ?_;rintro o w1 ⟨rfl,hE1⟩;go_wp2_with fail;go_ret;exact ⟨rfl,hE1⟩
theorem rvy7 (hok:okB (getL ml (1,0,0)) e=true) (hu:InU (getL ml (1,0,0))) (he:0<=e/\e<=9223372036854775807) (hml:ml.length<=1000000) (s:Int) (Y:World->Prop) (hE:Env w0 (boxI b (rlC lv key vs x y z 7 W X K V C fd)::boxI u (ruC uc e ro)::refI m F ml::R) w)
  (hc:∀ v,Env w0 (boxI b (rlC lv key vs x y z 7 W X K V C fd)::boxI u (ruC uc e ro)::refI m F ml::R) v->Calls prog 192 #[.pointer (some ⟨b,0,none⟩)] v fun o w'=>o=.returned (.int .i64 s)/\Y w') :
  Calls prog 147 #[.pointer (some ⟨b,0,none⟩),.pointer (some ⟨u,0,none⟩),.pointer (some ⟨m,0,none⟩)] w fun o w'=>o=.returned (.int .i64 s)/\Y w':=by
 have hv:=rvalid_w (L:=(boxI b (rlC lv key vs x y z 7 W X K V C fd)::boxI u (ruC uc e ro)::refI m F ml::R)) (k:=uc.k) (s:=uc.s) (b:=uc.b) (h:=uc.h) (l:=uc.l) (A:=uc.A) (n:=uc.n) (c:=uc.c) (N:=uc.N) (hs:=uc.hs) (r:=ro) _ (rfl:getL ml (1,0,0)=getL ml (1,0,0)) hu he.1 he.2 hml 1 2 hE rfl rfl;rw [hok] at hv;simp only [zS,zZ,if_true] at hv;have HV:=zH hv;have HC:=zH hc;clear hv hok hu hc;have r:=hE.rule 0 rfl;unfold rlC at r;go_enter func147,ntmps147;go_wp2_with fail;refine HV.out.mono ?_;rintro o w1 ⟨rfl,hE1⟩;go_wp2_with fail;refine (HC.out _ hE1).mono ?_;rintro o w2 ⟨rfl,hY⟩;go_wp2_with fail;go_ret;exact ⟨rfl,hY⟩
theorem rvn9 (hok:okB (getL ml (1,0,0)) e=false) (hu:InU (getL ml (1,0,0))) (he:0<=e/\e<=9223372036854775807) (hml:ml.length<=1000000) (hE:Env w0 (boxI b (rlC lv key vs x y z 9 W X K V C fd)::boxI u (ruC uc e ro)::refI m F ml::R) w) :
  Calls prog 147 #[.pointer (some ⟨b,0,none⟩),.pointer (some ⟨u,0,none⟩),.pointer (some ⟨m,0,none⟩)] w fun o w'=>o=.returned (.int .i64 2)/\Env w0 (boxI b (rlC lv key vs x y z 9 W X K V C fd)::boxI u (ruC uc e (wrap64 (ro+1)))::refI m F ml::R) w':=by
 have hv:=rvalid_w (L:=(boxI b (rlC lv key vs x y z 9 W X K V C fd)::boxI u (ruC uc e ro)::refI m F ml::R)) (k:=uc.k) (s:=uc.s) (b:=uc.b) (h:=uc.h) (l:=uc.l) (A:=uc.A) (n:=uc.n) (c:=uc.c) (N:=uc.N) (hs:=uc.hs) (r:=ro) _ (rfl:getL ml (1,0,0)=getL ml (1,0,0)) hu he.1 he.2 hml 1 2 hE rfl rfl;rw [hok] at hv;simp only [zS,zZ,Bool.false_eq_true,if_false] at hv;have HV:=zH hv;clear hv hok hu;have r:=hE.rule 0 rfl;unfold rlC at r;go_enter func147,ntmps147;go_wp2_with fail;refine HV.out.mono ?_;rintro o w1 ⟨rfl,hE1⟩;go_wp2_with fail;go_ret;exact ⟨rfl,hE1⟩
theorem rvy9 (hok:okB (getL ml (1,0,0)) e=true) (hu:InU (getL ml (1,0,0))) (he:0<=e/\e<=9223372036854775807) (hml:ml.length<=1000000) (s:Int) (Y:World->Prop) (hE:Env w0 (boxI b (rlC lv key vs x y z 9 W X K V C fd)::boxI u (ruC uc e ro)::refI m F ml::R) w)
  (hc:∀ v,Env w0 (boxI b (rlC lv key vs x y z 9 W X K V C fd)::boxI u (ruC uc e ro)::refI m F ml::R) v->Calls prog 192 #[.pointer (some ⟨b,0,none⟩)] v fun o w'=>o=.returned (.int .i64 s)/\Y w') :
  Calls prog 147 #[.pointer (some ⟨b,0,none⟩),.pointer (some ⟨u,0,none⟩),.pointer (some ⟨m,0,none⟩)] w fun o w'=>o=.returned (.int .i64 s)/\Y w':=by
 have hv:=rvalid_w (L:=(boxI b (rlC lv key vs x y z 9 W X K V C fd)::boxI u (ruC uc e ro)::refI m F ml::R)) (k:=uc.k) (s:=uc.s) (b:=uc.b) (h:=uc.h) (l:=uc.l) (A:=uc.A) (n:=uc.n) (c:=uc.c) (N:=uc.N) (hs:=uc.hs) (r:=ro) _ (rfl:getL ml (1,0,0)=getL ml (1,0,0)) hu he.1 he.2 hml 1 2 hE rfl rfl;rw [hok] at hv;simp only [zS,zZ,if_true] at hv;have HV:=zH hv;have HC:=zH hc;clear hv hok hu hc;have r:=hE.rule 0 rfl;unfold rlC at r;go_enter func147,ntmps147;go_wp2_with fail;refine HV.out.mono ?_;rintro o w1 ⟨rfl,hE1⟩;go_wp2_with fail;refine (HC.out _ hE1).mono ?_;rintro o w2 ⟨rfl,hY⟩;go_wp2_with fail;go_ret;exact ⟨rfl,hY⟩
end
def rlV (lv key:Int) (vs:Bool) (L:Lm):List Value:=rlC lv key vs L.p.1 L.p.2.1 L.p.2.2 (L.pc:Int) L.W L.X L.K L.V L.C L.fd
def RLn (uc:Uc) (w0:World) (R:List Item) (b u m:Nat) (lv key:Int) (vs:Bool) (L:Lm) (e ro:Int) (f:Plc->Int) (N:Nat) (w:World):Prop :=
 ∃ F ml,getL ml=f/\ml.length<=N/\Env w0 (boxI b (rlV lv key vs L)::boxI u (ruC uc e ro)::refI m F ml::R) w
section
variable {uc:Uc} {w0 w:World} {R:List Item} {b u m N:Nat} {f:Plc->Int} {lv key e ro:Int} {vs:Bool} {L:Lm}
theorem rlane_0 (hpc:L.pc=0) (hL:LmOk L) (hlv:0<=lv/\lv<=1000000) (he:0<=e/\e<=9223372036854775807) (hu:∀ x,InU (f x)) (hN:N<=1000000) (h:RLn uc w0 R b u m lv key vs L e ro f N w) :
  Calls prog 147 #[.pointer (some ⟨b,0,none⟩),.pointer (some ⟨u,0,none⟩),.pointer (some ⟨m,0,none⟩)] w fun o w'=>o=.returned (.int .i64 (laneM lv key vs e L f).1)/\RLn uc w0 R b u m lv key vs (laneM lv key vs e L f).2.1 e (rollM e L f ro) (laneM lv key vs e L f).2.2 (N+1) w':=by
 obtain ⟨F,ml,rfl,hl,hE⟩:=h;have hE0:Env w0 (boxI b (rlC lv key vs L.p.1 L.p.2.1 L.p.2.2 0 L.W L.X L.K L.V L.C L.fd)::boxI u (ruC uc e ro)::refI m F ml::R) w:=by
  have h9:=hE;unfold rlV at h9;rw [hpc] at h9;exact h9
 clear hE;have hM:laneM lv key vs e L (getL ml)=(0,{ L with W:=getL ml L.p,pc:=2 },getL ml):=by simp [laneM,hpc]
 have hr:rollM e L (getL ml) ro=ro:=by simp [rollM,hpc,isVal]
 rw [hM,hr];refine (rst0 (getL ml L.p) rfl (by omega) hE0).mono ?_;rintro o w1 ⟨rfl,hE1⟩;exact ⟨rfl,F,ml,rfl,by omega,hE1⟩
theorem rlane_3 (hpc:L.pc=3) (hL:LmOk L) (hlv:0<=lv/\lv<=1000000) (he:0<=e/\e<=9223372036854775807) (hu:∀ x,InU (f x)) (hN:N<=1000000) (h:RLn uc w0 R b u m lv key vs L e ro f N w) :
  Calls prog 147 #[.pointer (some ⟨b,0,none⟩),.pointer (some ⟨u,0,none⟩),.pointer (some ⟨m,0,none⟩)] w fun o w'=>o=.returned (.int .i64 (laneM lv key vs e L f).1)/\RLn uc w0 R b u m lv key vs (laneM lv key vs e L f).2.1 e (rollM e L f ro) (laneM lv key vs e L f).2.2 (N+1) w':=by
 obtain ⟨F,ml,rfl,hl,hE⟩:=h;have hE0:Env w0 (boxI b (rlC lv key vs L.p.1 L.p.2.1 L.p.2.2 3 L.W L.X L.K L.V L.C L.fd)::boxI u (ruC uc e ro)::refI m F ml::R) w:=by
  have h9:=hE;unfold rlV at h9;rw [hpc] at h9;exact h9
 clear hE;have hM:laneM lv key vs e L (getL ml)=(0,{ L with X:=getL ml (5,L.C,7+lv),pc:=4 },getL ml):=by simp [laneM,hpc]
 have hr:rollM e L (getL ml) ro=ro:=by simp [rollM,hpc,isVal]
 rw [hM,hr];refine (rst3 hlv (getL ml (5,L.C,7+lv)) rfl (by omega) hE0).mono ?_;rintro o w1 ⟨rfl,hE1⟩;exact ⟨rfl,F,ml,rfl,by omega,hE1⟩
theorem rlane_6 (hpc:L.pc=6) (hL:LmOk L) (hlv:0<=lv/\lv<=1000000) (he:0<=e/\e<=9223372036854775807) (hu:∀ x,InU (f x)) (hN:N<=1000000) (h:RLn uc w0 R b u m lv key vs L e ro f N w) :
  Calls prog 147 #[.pointer (some ⟨b,0,none⟩),.pointer (some ⟨u,0,none⟩),.pointer (some ⟨m,0,none⟩)] w fun o w'=>o=.returned (.int .i64 (laneM lv key vs e L f).1)/\RLn uc w0 R b u m lv key vs (laneM lv key vs e L f).2.1 e (rollM e L f ro) (laneM lv key vs e L f).2.2 (N+1) w':=by
 obtain ⟨F,ml,rfl,hl,hE⟩:=h;have hE0:Env w0 (boxI b (rlC lv key vs L.p.1 L.p.2.1 L.p.2.2 6 L.W L.X L.K L.V L.C L.fd)::boxI u (ruC uc e ro)::refI m F ml::R) w:=by
  have h9:=hE;unfold rlV at h9;rw [hpc] at h9;exact h9
 clear hE;have hM:laneM lv key vs e L (getL ml)=(0,{ L with K:=getL ml (5,L.C,3),pc:=7 },getL ml):=by simp [laneM,hpc]
 have hr:rollM e L (getL ml) ro=ro:=by simp [rollM,hpc,isVal]
 rw [hM,hr];refine (rst6 (getL ml (5,L.C,3)) rfl (by omega) hE0).mono ?_;rintro o w1 ⟨rfl,hE1⟩;exact ⟨rfl,F,ml,rfl,by omega,hE1⟩
theorem rlane_8 (hpc:L.pc=8) (hL:LmOk L) (hlv:0<=lv/\lv<=1000000) (he:0<=e/\e<=9223372036854775807) (hu:∀ x,InU (f x)) (hN:N<=1000000) (h:RLn uc w0 R b u m lv key vs L e ro f N w) :
  Calls prog 147 #[.pointer (some ⟨b,0,none⟩),.pointer (some ⟨u,0,none⟩),.pointer (some ⟨m,0,none⟩)] w fun o w'=>o=.returned (.int .i64 (laneM lv key vs e L f).1)/\RLn uc w0 R b u m lv key vs (laneM lv key vs e L f).2.1 e (rollM e L f ro) (laneM lv key vs e L f).2.2 (N+1) w':=by
 obtain ⟨F,ml,rfl,hl,hE⟩:=h;have hE0:Env w0 (boxI b (rlC lv key vs L.p.1 L.p.2.1 L.p.2.2 8 L.W L.X L.K L.V L.C L.fd)::boxI u (ruC uc e ro)::refI m F ml::R) w:=by
  have h9:=hE;unfold rlV at h9;rw [hpc] at h9;exact h9
 clear hE;have hM:laneM lv key vs e L (getL ml)=(0,{ L with V:=getL ml (5,L.C,4),pc:=9 },getL ml):=by simp [laneM,hpc]
 have hr:rollM e L (getL ml) ro=ro:=by simp [rollM,hpc,isVal]
 rw [hM,hr];refine (rst8 (getL ml (5,L.C,4)) rfl (by omega) hE0).mono ?_;rintro o w1 ⟨rfl,hE1⟩;exact ⟨rfl,F,ml,rfl,by omega,hE1⟩
theorem swL_len (l:List OneR) (x:Plc) (o v:Int):(swL l x o v).length<=l.length+1:=by
 unfold swL
 split
 ·exact setL_length _ _ _
 ·omega
theorem rlane_5 (hpc:L.pc=5) (hL:LmOk L) (hlv:0<=lv/\lv<=1000000) (he:0<=e/\e<=9223372036854775807) (hu:∀ x,InU (f x)) (hN:N<=1000000) (h:RLn uc w0 R b u m lv key vs L e ro f N w) :
  Calls prog 147 #[.pointer (some ⟨b,0,none⟩),.pointer (some ⟨u,0,none⟩),.pointer (some ⟨m,0,none⟩)] w fun o w'=>o=.returned (.int .i64 (laneM lv key vs e L f).1)/\RLn uc w0 R b u m lv key vs (laneM lv key vs e L f).2.1 e (rollM e L f ro) (laneM lv key vs e L f).2.2 (N+1) w':=by
 obtain ⟨F,ml,rfl,hl,hE⟩:=h;have hE0:Env w0 (boxI b (rlC lv key vs L.p.1 L.p.2.1 L.p.2.2 5 L.W L.X L.K L.V L.C L.fd)::boxI u (ruC uc e ro)::refI m F ml::R) w:=by
  have h9:=hE;unfold rlV at h9;rw [hpc] at h9;exact h9
 clear hE;have hr:rollM e L (getL ml) ro=ro:=by simp [rollM,hpc,isVal]
 have hsl:=swL_len ml L.p L.W (wordI false (slotI L.X) e)
 by_cases heq:getL ml L.p=L.W
 ·have hM:laneM lv key vs e L (getL ml)=(cS (wordI false (slotI L.X) e),{ L with W:=wordI false (slotI L.X) e,X:=0,C:=slotI (wordI false (slotI L.X) e),pc:=3 },swf (getL ml) L.p L.W (wordI false (slotI L.X) e)):=by simp [laneM,hpc,heq,comeM_cS]
  rw [hM,hr];refine (rst5y heq hL.X (by omega) hE0).mono ?_;rintro o w1 ⟨rfl,F',hE1⟩;exact ⟨rfl,F',_,(swf_getL _ _ _ _).symm,by omega,hE1⟩
 ·have hM:laneM lv key vs e L (getL ml)=(2,L,swf (getL ml) L.p L.W (wordI false (slotI L.X) e)):=by simp [laneM,hpc,heq]
  rw [hM,hr];refine (rst5n heq hL.X (by omega) hE0).mono ?_;rintro o w1 ⟨rfl,F',hE1⟩;refine ⟨rfl,F',_,(swf_getL _ _ _ _).symm,by omega,?_⟩;unfold rlV;rw [hpc];exact hE1
theorem rlane_2 (hpc:L.pc=2) (hL:LmOk L) (hlv:0<=lv/\lv<=1000000) (he:0<=e/\e<=9223372036854775807) (hu:∀ x,InU (f x)) (hN:N<=1000000) (h:RLn uc w0 R b u m lv key vs L e ro f N w) :
  Calls prog 147 #[.pointer (some ⟨b,0,none⟩),.pointer (some ⟨u,0,none⟩),.pointer (some ⟨m,0,none⟩)] w fun o w'=>o=.returned (.int .i64 (laneM lv key vs e L f).1)/\RLn uc w0 R b u m lv key vs (laneM lv key vs e L f).2.1 e (rollM e L f ro) (laneM lv key vs e L f).2.2 (N+1) w':=by
 obtain ⟨F,ml,rfl,hl,hE⟩:=h;have hE0:Env w0 (boxI b (rlC lv key vs L.p.1 L.p.2.1 L.p.2.2 2 L.W L.X L.K L.V L.C L.fd)::boxI u (ruC uc e ro)::refI m F ml::R) w:=by
  have h9:=hE;unfold rlV at h9;rw [hpc] at h9;exact h9
 clear hE
 by_cases hok:okB (getL ml (1,0,0)) e=true
 ·have hr:rollM e L (getL ml) ro=ro:=by simp [rollM,hok]
  rw [hr]
  by_cases hmk:markB L.W=true
  ·skip
   have hM:laneM lv key vs e L (getL ml)=(2,L,getL ml):=by simp [laneM,holdsM,hpc,hok,comeM_cS,hmk]
   rw [hM];refine rvy2 hok (hu _) he (by omega) _ _ hE0 fun v hv=>?_;refine (holds2a_r hmk hL.W hv).mono ?_;rintro o w1 ⟨rfl,hE1⟩;refine ⟨rfl,F,ml,rfl,by omega,?_⟩;unfold rlV;rw [hpc];exact hE1
  ·have hmk:markB L.W=false:=by simpa using hmk
   have hM:laneM lv key vs e L (getL ml)=(cS L.W,{ L with W:=L.W,X:=0,C:=slotI L.W,pc:=3 },getL ml):=by simp [laneM,holdsM,hpc,hok,comeM_cS,hmk]
   rw [hM];refine rvy2 hok (hu _) he (by omega) _ _ hE0 fun v hv=>?_;refine (holds2b_r hmk hL.W hv).mono ?_;rintro o w1 ⟨rfl,hE1⟩;exact ⟨rfl,F,ml,rfl,by omega,hE1⟩
 ·have hok:okB (getL ml (1,0,0)) e=false:=by simpa using hok
  have hr:rollM e L (getL ml) ro=wrap64 (ro+1):=by simp [rollM,hpc,isVal,hok]
  have hM:laneM lv key vs e L (getL ml)=(2,L,getL ml):=by simp [laneM,hpc,hok]
  rw [hM,hr];refine (rvn2 hok (hu _) he (by omega) hE0).mono ?_;rintro o w1 ⟨rfl,hE1⟩;refine ⟨rfl,F,ml,rfl,by omega,?_⟩;unfold rlV;rw [hpc];exact hE1
theorem rlane_4 (hpc:L.pc=4) (hL:LmOk L) (hlv:0<=lv/\lv<=1000000) (he:0<=e/\e<=9223372036854775807) (hu:∀ x,InU (f x)) (hN:N<=1000000) (h:RLn uc w0 R b u m lv key vs L e ro f N w) :
  Calls prog 147 #[.pointer (some ⟨b,0,none⟩),.pointer (some ⟨u,0,none⟩),.pointer (some ⟨m,0,none⟩)] w fun o w'=>o=.returned (.int .i64 (laneM lv key vs e L f).1)/\RLn uc w0 R b u m lv key vs (laneM lv key vs e L f).2.1 e (rollM e L f ro) (laneM lv key vs e L f).2.2 (N+1) w':=by
 obtain ⟨F,ml,rfl,hl,hE⟩:=h;have hE0:Env w0 (boxI b (rlC lv key vs L.p.1 L.p.2.1 L.p.2.2 4 L.W L.X L.K L.V L.C L.fd)::boxI u (ruC uc e ro)::refI m F ml::R) w:=by
  have h9:=hE;unfold rlV at h9;rw [hpc] at h9;exact h9
 clear hE
 by_cases hok:okB (getL ml (1,0,0)) e=true
 ·have hr:rollM e L (getL ml) ro=ro:=by simp [rollM,hok]
  rw [hr];have hM:laneM lv key vs e L (getL ml)=(0,{ L with pc:=if markB L.X then 5 else 6 },getL ml):=by simp [laneM,holdsM,hpc,hok,comeM_cS]
  rw [hM];refine rvy4 hok (hu _) he (by omega) _ _ hE0 fun v hv=>?_;refine (holds4_r hL.X hv).mono ?_;rintro o w1 ⟨rfl,hE1⟩;refine ⟨rfl,F,ml,rfl,by omega,?_⟩;cases hmk:markB L.X
  ·rw [hmk] at hE1;exact hE1
  ·rw [hmk] at hE1;exact hE1
 ·have hok:okB (getL ml (1,0,0)) e=false:=by simpa using hok
  have hr:rollM e L (getL ml) ro=wrap64 (ro+1):=by simp [rollM,hpc,isVal,hok]
  have hM:laneM lv key vs e L (getL ml)=(2,L,getL ml):=by simp [laneM,hpc,hok]
  rw [hM,hr];refine (rvn4 hok (hu _) he (by omega) hE0).mono ?_;rintro o w1 ⟨rfl,hE1⟩;refine ⟨rfl,F,ml,rfl,by omega,?_⟩;unfold rlV;rw [hpc];exact hE1
theorem rlane_7 (hpc:L.pc=7) (hL:LmOk L) (hlv:0<=lv/\lv<=1000000) (he:0<=e/\e<=9223372036854775807) (hu:∀ x,InU (f x)) (hN:N<=1000000) (h:RLn uc w0 R b u m lv key vs L e ro f N w) :
  Calls prog 147 #[.pointer (some ⟨b,0,none⟩),.pointer (some ⟨u,0,none⟩),.pointer (some ⟨m,0,none⟩)] w fun o w'=>o=.returned (.int .i64 (laneM lv key vs e L f).1)/\RLn uc w0 R b u m lv key vs (laneM lv key vs e L f).2.1 e (rollM e L f ro) (laneM lv key vs e L f).2.2 (N+1) w':=by
 obtain ⟨F,ml,rfl,hl,hE⟩:=h;have hE0:Env w0 (boxI b (rlC lv key vs L.p.1 L.p.2.1 L.p.2.2 7 L.W L.X L.K L.V L.C L.fd)::boxI u (ruC uc e ro)::refI m F ml::R) w:=by
  have h9:=hE;unfold rlV at h9;rw [hpc] at h9;exact h9
 clear hE
 by_cases hok:okB (getL ml (1,0,0)) e=true
 ·have hr:rollM e L (getL ml) ro=ro:=by simp [rollM,hok]
  rw [hr]
  by_cases hlt:L.K < key
  ·skip
   have hM:laneM lv key vs e L (getL ml)=(cS L.X,{ L with p:=(5,L.C,7+lv),W:=L.X,X:=0,C:=slotI L.X,pc:=3 },getL ml):=by simp [laneM,holdsM,hpc,hok,comeM_cS,hlt]
   rw [hM];refine rvy7 hok (hu _) he (by omega) _ _ hE0 fun v hv=>?_;refine (holds7a_r hlt hlv hL.X hv).mono ?_;rintro o w1 ⟨rfl,hE1⟩;exact ⟨rfl,F,ml,rfl,by omega,hE1⟩
  ·by_cases heq:L.K=key
   ·cases vs
    ·skip
     have hM:laneM lv key false e L (getL ml)=(1,{ L with fd:=true },getL ml):=by simp [laneM,holdsM,hpc,hok,comeM_cS,heq]
     rw [hM];refine rvy7 hok (hu _) he (by omega) _ _ hE0 fun v hv=>?_;refine (holds7b_r heq hv).mono ?_;rintro o w1 ⟨rfl,hE1⟩;refine ⟨rfl,F,ml,rfl,by omega,?_⟩;unfold rlV;dsimp only;rw [hpc];exact hE1
    ·skip
     have hM:laneM lv key true e L (getL ml)=(0,{ L with fd:=true,pc:=8 },getL ml):=by simp [laneM,holdsM,hpc,hok,comeM_cS,heq]
     rw [hM];refine rvy7 hok (hu _) he (by omega) _ _ hE0 fun v hv=>?_;refine (holds7c_r heq hv).mono ?_;rintro o w1 ⟨rfl,hE1⟩;exact ⟨rfl,F,ml,rfl,by omega,hE1⟩
   ·skip
    have hM:laneM lv key vs e L (getL ml)=(1,L,getL ml):=by simp [laneM,holdsM,hpc,hok,comeM_cS,hlt,heq]
    rw [hM];refine rvy7 hok (hu _) he (by omega) _ _ hE0 fun v hv=>?_;refine (holds7d_r (by omega) hv).mono ?_;rintro o w1 ⟨rfl,hE1⟩;refine ⟨rfl,F,ml,rfl,by omega,?_⟩;unfold rlV;rw [hpc];exact hE1
 ·have hok:okB (getL ml (1,0,0)) e=false:=by simpa using hok
  have hr:rollM e L (getL ml) ro=wrap64 (ro+1):=by simp [rollM,hpc,isVal,hok]
  have hM:laneM lv key vs e L (getL ml)=(2,L,getL ml):=by simp [laneM,hpc,hok]
  rw [hM,hr];refine (rvn7 hok (hu _) he (by omega) hE0).mono ?_;rintro o w1 ⟨rfl,hE1⟩;refine ⟨rfl,F,ml,rfl,by omega,?_⟩;unfold rlV;rw [hpc];exact hE1
theorem rlane_9 (hpc:L.pc=9) (hL:LmOk L) (hlv:0<=lv/\lv<=1000000) (he:0<=e/\e<=9223372036854775807) (hu:∀ x,InU (f x)) (hN:N<=1000000) (h:RLn uc w0 R b u m lv key vs L e ro f N w) :
  Calls prog 147 #[.pointer (some ⟨b,0,none⟩),.pointer (some ⟨u,0,none⟩),.pointer (some ⟨m,0,none⟩)] w fun o w'=>o=.returned (.int .i64 (laneM lv key vs e L f).1)/\RLn uc w0 R b u m lv key vs (laneM lv key vs e L f).2.1 e (rollM e L f ro) (laneM lv key vs e L f).2.2 (N+1) w':=by
 obtain ⟨F,ml,rfl,hl,hE⟩:=h;have hE0:Env w0 (boxI b (rlC lv key vs L.p.1 L.p.2.1 L.p.2.2 9 L.W L.X L.K L.V L.C L.fd)::boxI u (ruC uc e ro)::refI m F ml::R) w:=by
  have h9:=hE;unfold rlV at h9;rw [hpc] at h9;exact h9
 clear hE
 by_cases hok:okB (getL ml (1,0,0)) e=true
 ·have hr:rollM e L (getL ml) ro=ro:=by simp [rollM,hok]
  rw [hr];have hM:laneM lv key vs e L (getL ml)=(1,L,getL ml):=by simp [laneM,holdsM,hpc,hok,comeM_cS]
  rw [hM];refine rvy9 hok (hu _) he (by omega) _ _ hE0 fun v hv=>?_;refine (holds9_r hv).mono ?_;rintro o w1 ⟨rfl,hE1⟩;refine ⟨rfl,F,ml,rfl,by omega,?_⟩;unfold rlV;rw [hpc];exact hE1
 ·have hok:okB (getL ml (1,0,0)) e=false:=by simpa using hok
  have hr:rollM e L (getL ml) ro=wrap64 (ro+1):=by simp [rollM,hpc,isVal,hok]
  have hM:laneM lv key vs e L (getL ml)=(2,L,getL ml):=by simp [laneM,hpc,hok]
  rw [hM,hr];refine (rvn9 hok (hu _) he (by omega) hE0).mono ?_;rintro o w1 ⟨rfl,hE1⟩;refine ⟨rfl,F,ml,rfl,by omega,?_⟩;unfold rlV;rw [hpc];exact hE1
theorem rlane (hL:LmOk L) (hlv:0<=lv/\lv<=1000000) (he:0<=e/\e<=9223372036854775807) (hu:∀ x,InU (f x)) (hN:N<=1000000) (h:RLn uc w0 R b u m lv key vs L e ro f N w) :
  Calls prog 147 #[.pointer (some ⟨b,0,none⟩),.pointer (some ⟨u,0,none⟩),.pointer (some ⟨m,0,none⟩)] w fun o w'=>o=.returned (.int .i64 (laneM lv key vs e L f).1)/\RLn uc w0 R b u m lv key vs (laneM lv key vs e L f).2.1 e (rollM e L f ro) (laneM lv key vs e L f).2.2 (N+1) w':=by
 rcases hL.pc with h0 | h0 | h0 | h0 | h0 | h0 | h0 | h0 | h0
 ·exact rlane_0 h0 hL hlv he hu hN h
 ·exact rlane_2 h0 hL hlv he hu hN h
 ·exact rlane_3 h0 hL hlv he hu hN h
 ·exact rlane_4 h0 hL hlv he hu hN h
 ·exact rlane_5 h0 hL hlv he hu hN h
 ·exact rlane_6 h0 hL hlv he hu hN h
 ·exact rlane_7 h0 hL hlv he hu hN h
 ·exact rlane_8 h0 hL hlv he hu hN h
 ·exact rlane_9 h0 hL hlv he hu hN h
end
def rsC (k key:Int) (vs on:Bool) (lp:Option Addr):List Value:=[.int .i64 k,.int .u64 key,.bool vs,.bool on,.pointer lp]
def RSr (uc:Uc) (w0:World) (R:List Item) (qb u m:Nat) (k key:Int) (vs:Bool) (T:Sm) (f:Plc->Int) (N:Nat) (w:World):Prop :=
 (T.on=false/\∃ lp F ml,getL ml=f/\ml.length<=N/\Env w0 (boxI qb (rsC k key vs false lp)::boxI u (ruC uc T.e T.r)::refI m F ml::R) w)\/(T.on=true/\∃ b,RLn uc w0 (boxI qb (rsC k key vs true (some ⟨b,0,none⟩))::R) b u m 0 key vs T.L T.e T.r f N w)
section
variable {uc:Uc} {w0 w:World} {R:List Item} {qb u m N:Nat} {F:Nat->Prop} {ml:List OneR} {f:Plc->Int} {k key e ro:Int} {vs:Bool} {T:Sm} {lp:Option Addr}
theorem rsoff (hml:ml.length<=1000000) (hu:InU (getL ml (1,0,0))) (hE:Env w0 (boxI qb (rsC k key vs false lp)::boxI u (ruC uc e ro)::refI m F ml::R) w) :
  Calls prog 105 #[.pointer (some ⟨qb,0,none⟩),.pointer (some ⟨u,0,none⟩),.pointer (some ⟨m,0,none⟩)] w fun o w'=>o=.returned (.int .i64 0)/\∃ b,Env w0 (boxI b (rlC 0 key vs 4 0 k 0 0 0 0 0 0 false)::boxI qb (rsC k key vs true (some ⟨b,0,none⟩))::boxI u (ruC uc (epI (getL ml (1,0,0))) ro)::refI m F ml::R) w':=by
 have hc:=rcheck_w (L:=boxI qb (rsC k key vs false lp)::boxI u (ruC uc e ro)::refI m F ml::R) (k:=uc.k) (s:=uc.s) (b:=uc.b) (h:=uc.h) (l:=uc.l) (A:=uc.A) (n:=uc.n) (c:=uc.c) (N:=uc.N) (hs:=uc.hs) (r:=ro) (e:=e) _ (rfl:getL ml (1,0,0)=getL ml (1,0,0)) hu hml 1 2 hE rfl rfl;simp only [zS,zZ] at hc;have HC:=zH hc;clear hc;have r:=hE.rule 0 rfl;unfold rsC at r;go_enter func105,ntmps105;go_wp2_with fail;refine HC.out.mono ?_;rintro o w1 ⟨rfl,hE1⟩;obtain ⟨e1,he1⟩:∃ e1,epI (getL ml (1,0,0))=e1:=⟨_,rfl⟩;replace hE1:Env w0 (boxI qb (rsC k key vs false lp)::boxI u (ruC uc (epI (getL ml (1,0,0))) ro)::refI m F ml::R) w1:=hE1;rw [he1] at hE1;have HE1:=zH he1;clear HC hE r he1;go_wp2_with fail;refine Ord3.wp_chain [?_,?_,?_,?_,?_,?_,?_,?_,?_,?_,?_,?_,?_,?_,?_,?_,?_,?_,?_] [15,18] (fun w'=>∃ l9,Blk 0 w' qb (rsC k key vs false l9)) (Ord3.Stage fun κs=>[Env w0 (boxI qb (rsC k key vs false lp)::boxI u (ruC uc e1 ro)::refI m F ml::R),fun w'=>∃ b,κs.getD 0 undef=.pointer (some ⟨b,0,none⟩)/\Env w0 (boxI b (rlC 0 key vs 4 0 k 0 0 0 0 0 0 false)::boxI qb (rsC k key vs false lp)::boxI u (ruC uc e1 ro)::refI m F ml::R) w',fun w'=>∃ b,Env w0 (boxI b (rlC 0 key vs 4 0 k 0 0 0 0 0 0 false)::boxI qb (rsC k key vs false (some ⟨b,0,none⟩))::boxI u (ruC uc e1 ro)::refI m F ml::R) w']) (by kernel_rfl) (by kernel_rfl) (by kernel_rfl) ⟨lp,hE1.drew.get 0 rfl⟩ ⟨_,rfl,hE1.drew⟩ (fun hT=>?_);rotate_left 19;have hT9:=zH hT;clear hT
 repeat ((first
  | (focus (refine Ord3.in_value (v:=?_) hT9.o (by decide) ?_ (by rfl) ?_ ?_; rotate_left 2; (intro w5 hS; obtain ⟨l9,hS9⟩:=hS; have r1:=Blk.rule hS9; unfold rsC at r1; go_simp<;>rfl); rotate_right; (focus rfl)))
  | (focus (refine Ord3.in_off hT9.o (by decide) ?_ (by rfl) ?_; (focus rfl))));try simp only [Act.put,zA,zZ,zS])
 refine Ord3.in_turn (fun u=>∃ q,u=.pointer (some ⟨q,0,none⟩)) _ ⟨0,rfl⟩ hT9.o rfl (by decide) (by rfl) ?_ (Or.inl rfl) (by rfl) ?_ ?_
 ·rfl
 ·rintro w7 hC7 ⟨P7,hP7,hA7⟩;cases hP7;go_simp;simp only [Ord3.Lands];have hE8:=hA7.box w7.heap.size rfl (rlC 0 key vs 4 0 k 0 0 0 0 0 0 false) 222;exact ⟨⟨_,rfl⟩,⟨lp,hE8.get 1 rfl⟩,_,rfl,w7.heap.size,rfl,hE8⟩
 rintro _ ⟨b9,rfl⟩
 try simp only [Act.put,zA,zZ,zS]
 repeat ((first
  | (focus (refine Ord3.in_value (v:=?_) hT9.o (by decide) ?_ (by rfl) ?_ ?_; rotate_left 2; (intro w5 hS; obtain ⟨l9,hS9⟩:=hS; have r1:=Blk.rule hS9; unfold rsC at r1; go_simp<;>rfl); rotate_right; (focus rfl)))
  | (focus (refine Ord3.in_off hT9.o (by decide) ?_ (by rfl) ?_; (focus rfl))));try simp only [Act.put,zA,zZ,zS])
 refine Ord3.in_turn (fun u=>u=undef) _ rfl hT9.o rfl (by decide) (by rfl) ?_ (Or.inr ⟨_,15,[],rfl,by kernel_rfl,by kernel_rfl,rfl⟩) (by rfl) ?_ ?_
 ·rfl
 ·rintro w7 hC7 ⟨P7,hP7,hA7⟩;cases hP7;obtain ⟨b8,he,hA7⟩:=hA7;cases he;have r:=hA7.rule 1 rfl;unfold rsC at r;have g:=hA7.thaw 1 rfl 4 (by simp [rsC]);go_simp;simp only [Ord3.Lands];have h9:=hA7.put 1 rfl (j:=4) (by simp [rsC]) (.pointer (some ⟨b9,0,none⟩));exact ⟨trivial,⟨_,h9.get 1 rfl⟩,_,rfl,b9,h9⟩
 rintro _ rfl
 try simp only [Act.put,zA,zZ,zS]
 refine Ord3.in_nil rfl ?_;rintro w9 hC9 ⟨P9,hP9,hA9⟩;cases hP9;obtain ⟨b8,hA9⟩:=hA9;clear hT9 hC9 hE1;have r:=hA9.rule 1 rfl;unfold rsC at r;have g:=hA9.thaw 1 rfl 3 (by simp [rsC]);have hP:=hA9.put 1 rfl (j:=3) (by simp [rsC]) (.bool true);go_wp2_with fail;go_ret;refine ⟨rfl,b8,?_⟩;rw [HE1.out];exact hP
theorem rsearch (hT:SmOk T) (he:0<=T.e/\T.e<=9223372036854775807) (hu:∀ x,InU (f x)) (hN:N<=1000000) (h:RSr uc w0 R qb u m k key vs T f N w) :
  Calls prog 105 #[.pointer (some ⟨qb,0,none⟩),.pointer (some ⟨u,0,none⟩),.pointer (some ⟨m,0,none⟩)] w fun o w'=>o=.returned (.int .i64 (searchM k key vs T f).1)/\RSr uc w0 R qb u m k key vs (searchM k key vs T f).2.1 (searchM k key vs T f).2.2 (N+1) w':=by
 rcases h with ⟨hoff,lp,F,ml,rfl,hl,hE⟩ | ⟨hon,b,hR⟩
 ·have hM:searchM k key vs T (getL ml)=(0,{ on:=true,L:=L0 (4,0,k),e:=epI (getL ml (1,0,0)),r:=T.r },getL ml):=by unfold searchM; rw [hoff]; rfl
  rw [hM];refine (rsoff (by omega) (hu _) hE).mono ?_;rintro o w1 ⟨rfl,b,hE1⟩;refine ⟨rfl,.inr ⟨rfl,b,F,ml,rfl,by omega,?_⟩⟩;exact hE1.perm (List.Perm.cons _ (List.perm_middle (l₁:=[_,_])).symm)
 ·obtain ⟨hL,hp⟩:=hT hon;have hM:searchM k key vs T f=(if (laneM 0 key vs T.e T.L f).1=1 then 1 else 0,{ on:=decide ((laneM 0 key vs T.e T.L f).1≠2),L:=(laneM 0 key vs T.e T.L f).2.1,e:=T.e,r:=rollM T.e T.L f T.r },(laneM 0 key vs T.e T.L f).2.2):=by unfold searchM; rw [if_pos hon]
  have hst:=rlane hL (show (0:Int)<=0/\(0:Int)<=1000000 by omega) he hu hN hR;have hsl:=lane_state 0 key vs T.e T.L f;rw [hM];obtain ⟨F,ml,-,-,hE⟩:=hR;have r:∀ i,w.cell? ⟨qb,i,none⟩=_:=hE.rule 3 rfl;unfold rsC at r;clear hE;generalize hq:laneM 0 key vs T.e T.L f=q at *;obtain ⟨q1,q2,q3⟩:=q;have HST:=zH hst;have HSL:=zH hsl;clear hst hsl hq hM hu he;go_enter func105,ntmps105;go_wp2_with fail;refine HST.out.mono ?_;rintro o w1 ⟨rfl,hR'⟩;have HR':=zH hR';clear hR' HST r
  rcases HSL.out with h1 | h1 | h1
  ·have h1':q1=0:=h1;subst h1';go_wp2_with fail;go_ret;exact ⟨rfl,.inr ⟨rfl,b,HR'.out⟩⟩
  ·have h1':q1=1:=h1;subst h1';go_wp2_with fail;go_ret;exact ⟨rfl,.inr ⟨rfl,b,HR'.out⟩⟩
  ·have h1':q1=2:=h1;subst h1';obtain ⟨F',ml',hg',hl',hE'⟩:=HR'.out;have r:∀ i,w1.cell? ⟨qb,i,none⟩=_:=hE'.rule 3 rfl;unfold rsC at r;have g:=hE'.thaw 3 rfl 3 (by simp [rsC]);have hP:=hE'.put 3 rfl (j:=3) (by simp [rsC]) (.bool false);go_wp2_with fail;go_ret;refine ⟨rfl,.inl ⟨rfl,some ⟨b,0,none⟩,F',ml',hg',hl',?_⟩⟩;have hP2:=hP.sub (L':=boxI u (ruC uc T.e (rollM T.e T.L f T.r))::refI m F' ml'::boxI qb (rsC k key vs false (some ⟨b,0,none⟩))::R) (.cons _ (List.Sublist.refl _));exact hP2.perm (List.perm_middle (l₁:=[_,_]))
end
def rkC (lp:Option Addr) (laid:Bool):List Value:=[.pointer lp,.bool laid]
def rnC (lp:Option Addr) (k key to pc:Int) (sp rp:Option Addr):List Value:=[.pointer lp,.int .i64 k,.int .u64 key,.int .i64 to,.int .i64 pc,.pointer sp,.pointer rp]
def ruv (U:SU):List Value:=urv U.ck U.cs U.cb U.ch U.cl U.ce U.A U.ql.length U.c U.N U.hs U.ro
section
variable {w0 w:World} {R:List Item} {q b:Nat} {U:SU} {lv key:Int} {vs fd:Bool} {x y z pc W X K V Cc:Int}
theorem rlink0 (hW:InU W) (hml:U.ml.length<=1000000) (hE:Env w0 (boxI q (rkC (some ⟨b,0,none⟩) false)::boxI b (rlC lv key vs x y z pc W X K V Cc fd)::LU U R) w) :
  Calls prog 109 #[.pointer (some ⟨q,0,none⟩),.pointer (some ⟨U.u,0,none⟩),.pointer (some ⟨U.m,0,none⟩)] w fun o w'=>o=.returned (.int .i64 0)/\∃ F5,Env w0 (boxI q (rkC (some ⟨b,0,none⟩) true)::boxI b (rlC lv key vs x y z pc W X K V Cc fd)::LU { U with F:=F5,ml:=setL U.ml (5,U.hs,7) (wordI false (slotI W) U.ce) } R) w':=by
 have hsn:=fun (v:World)=>slot13_any W hW v;have hto:=fun (v:World) (hv:Blk 0 v U.u (ruv U))=>rto_c (slotI W) hv;obtain ⟨s,hs⟩:∃ s,slotI W=s:=⟨_,rfl⟩;rw [hs];simp only [hs] at hsn hto;obtain ⟨y9,hy⟩:∃ y,wordI false s U.ce=y:=⟨_,rfl⟩;rw [hy];simp only [hy] at hto;have HSN:=zH hsn;have HTO:=zH hto;clear hs hy hsn hto hW;have r:=hE.rule 0 rfl;unfold rkC at r;have f1:=hE.thaw 0 rfl 1 (by simp [rkC]);have hP:=hE.put 0 rfl (j:=1) (by simp [rkC]) (.bool true);replace hP:Env w0 (boxI q (rkC (some ⟨b,0,none⟩) true)::boxI b (rlC lv key vs x y z pc W X K V Cc fd)::LU U R) _:=hP;clear hE;go_enter func109,ntmps109;go_wp2_with fail;clear r f1;refine Ord.wc [16] (fun v=>Blk 0 v U.u (ruv U)/\Blk 0 v q (rkC (some ⟨b,0,none⟩) true)/\Blk 0 v b (rlC lv key vs x y z pc W X K V Cc fd)) (fun k w'=>∃ F5,Env w0 (boxI q (rkC (some ⟨b,0,none⟩) true)::boxI b (rlC lv key vs x y z pc W X K V Cc fd)::LU (if k=0 then U else { U with F:=F5,ml:=setL U.ml (5,U.hs,7) y9 }) R) w') ⟨hP.drew.get 2 rfl,hP.drew.get 0 rfl,hP.drew.get 1 rfl⟩ ⟨U.F,hP.drew⟩ fun hT9=>?_
 repeat ((first
  | (refine Ord.cv ?_ hT9.o ?_ ?_; rotate_left; (intro w5 hS; have ru:=hS.1.rule; have rb:=hS.2.1.rule; have rc:=hS.2.2.rule; unfold ruv urv at ru; unfold rkC at rb; unfold rlC at rc; go_simp<;>rfl))
  | (refine Ord.co hT9.o ?_)
  | (refine Ord.cc ?_ ?_ ?_ hT9.o ?_ ?_ ?_; rotate_left 3; (intro w5 hS; have ru:=hS.1.rule; have rb:=hS.2.1.rule; have rc:=hS.2.2.rule; unfold ruv urv at ru; unfold rkC at rb; unfold rlC at rc; go_simp; constructor<;>rfl); (intro w5 hS; (first | (with_reducible refine kp (cell13_any _ _ _) ?_ ?_; rfl; exact fun w6 hb6=>⟨⟨hS.1.under hb6,hS.2.1.under hb6,hS.2.2.under hb6⟩,fun k h=>h.elim fun F5 h=>⟨F5,h.over hb6⟩⟩) | (with_reducible refine kp (HSN.out _) ?_ ?_; rfl; exact fun w6 hb6=>⟨⟨hS.1.under hb6,hS.2.1.under hb6,hS.2.2.under hb6⟩,fun k h=>h.elim fun F5 h=>⟨F5,h.over hb6⟩⟩) | (with_reducible refine kp (HTO.out _ hS.1) ?_ ?_; rfl; exact fun w6 hb6=>⟨⟨hS.1.under hb6,hS.2.1.under hb6,hS.2.2.under hb6⟩,fun k h=>h.elim fun F5 h=>⟨F5,h.over hb6⟩⟩)))));try simp only [Act.put,zA,zZ,zS])
 refine Ord.ch_turn (v:=.tuple #[]) 0 hT9.o rfl (by decide) (Or.inl rfl) (by rfl) ?_ ?_
 ·rintro w5 hC5 ⟨F5,hA5⟩;simp only [if_true] at hA5;go_simp;simp only [Ord.LandsIn];refine (refSet_any 5 U.hs 7 y9 hml (hA5.ref 4 rfl)).mono ?_;rintro e w6 ⟨rfl,F6,hU,hs9⟩;have hE6:=hA5.turnU 4 rfl hU hs9;exact ⟨rfl,⟨hE6.get 2 rfl,hE6.get 0 rfl,hE6.get 1 rfl⟩,F6,hE6⟩
 try simp only [Act.put,zA,zZ,zS]
 repeat ((first
  | (refine Ord.cv ?_ hT9.o ?_ ?_; rotate_left; (intro w5 hS; skip; go_simp<;>rfl))
  | (refine Ord.co hT9.o ?_));try simp only [Act.put,zA,zZ,zS])
 refine Ord.InText.nil fun w5 hS=>?_;clear hT9;obtain ⟨hC9,hA9⟩:=Ord.chain_end hS;clear hS;obtain ⟨F9,hA9⟩:=hA9;simp only [List.length_cons,List.length_nil,Nat.zero_add,Nat.one_ne_zero,if_false] at hA9;clear hC9 hP;go_wp2_with fail;go_ret;exact ⟨rfl,F9,hA9⟩
theorem rlink1 (hml:U.ml.length<=1000000) (hE:Env w0 (boxI q (rkC (some ⟨b,0,none⟩) true)::boxI b (rlC lv key vs x y z pc W X K V Cc fd)::LU U R) w) :
  Calls prog 109 #[.pointer (some ⟨q,0,none⟩),.pointer (some ⟨U.u,0,none⟩),.pointer (some ⟨U.m,0,none⟩)] w fun o w'=>o=.returned (.int .i64 (if getL U.ml (x,y,z)=W then 1 else 2))/\∃ F5,Env w0 (boxI q (rkC (some ⟨b,0,none⟩) true)::boxI b (rlC lv key vs x y z pc W X K V Cc fd)::LU { U with F:=F5,ml:=swL U.ml (x,y,z) W (wordI false U.hs U.ce),hs:=if getL U.ml (x,y,z)=W then 0 else U.hs } R) w':=by
 have hto:=fun (v:World) (hv:Blk 0 v U.u (ruv U))=>rto_c U.hs hv;obtain ⟨y9,hy⟩:∃ y,wordI false U.hs U.ce=y:=⟨_,rfl⟩;rw [hy];simp only [hy] at hto;have HTO:=zH hto;clear hy hto;obtain ⟨dd,hdd⟩:∃ dd,decide (getL U.ml (x,y,z)=W)=dd:=⟨_,rfl⟩;have hds:(if getL U.ml (x,y,z)=W then (1:Int) else 2)=if dd then 1 else 2:=by rw [<- hdd]; by_cases h:getL U.ml (x,y,z)=W<;>simp [h]
 have hdh:(if getL U.ml (x,y,z)=W then (0:Int) else U.hs)=if dd then 0 else U.hs:=by rw [<- hdd]; by_cases h:getL U.ml (x,y,z)=W<;>simp [h]
 rw [hds];simp only [hdh];clear hds hdh;have HDD:=zH hdd;clear hdd;have r:=hE.rule 0 rfl;unfold rkC at r;go_enter func109,ntmps109;go_wp2_with fail;clear r;refine Ord.wc [21] (fun v=>Blk 0 v U.u (ruv U)/\Blk 0 v q (rkC (some ⟨b,0,none⟩) true)/\Blk 0 v b (rlC lv key vs x y z pc W X K V Cc fd)) (fun k w'=>∃ F5,Env w0 (boxI q (rkC (some ⟨b,0,none⟩) true)::boxI b (rlC lv key vs x y z pc W X K V Cc fd)::LU (if k=0 then U else { U with F:=F5,ml:=swL U.ml (x,y,z) W y9 }) R) w') ⟨hE.drew.get 2 rfl,hE.drew.get 0 rfl,hE.drew.get 1 rfl⟩ ⟨U.F,hE.drew⟩ fun hT9=>?_
 repeat ((first
  | (refine Ord.cv ?_ hT9.o ?_ ?_; rotate_left; (intro w5 hS; have ru:=hS.1.rule; have rb:=hS.2.1.rule; have rc:=hS.2.2.rule; unfold ruv urv at ru; unfold rkC at rb; unfold rlC at rc; go_simp<;>rfl))
  | (refine Ord.co hT9.o ?_)
  | (refine Ord.cc ?_ ?_ ?_ hT9.o ?_ ?_ ?_; rotate_left 3; (intro w5 hS; have ru:=hS.1.rule; have rb:=hS.2.1.rule; have rc:=hS.2.2.rule; unfold ruv urv at ru; unfold rkC at rb; unfold rlC at rc; go_simp; constructor<;>rfl); (intro w5 hS; (first | (with_reducible refine kp (HTO.out _ hS.1) ?_ ?_; rfl; exact fun w6 hb6=>⟨⟨hS.1.under hb6,hS.2.1.under hb6,hS.2.2.under hb6⟩,fun k h=>h.elim fun F5 h=>⟨F5,h.over hb6⟩⟩)))));try simp only [Act.put,zA,zZ,zS])
 refine Ord.ch_turn (v:=.bool dd) 0 hT9.o rfl (by decide) (Or.inl rfl) (by rfl) ?_ ?_
 ·rintro w5 hC5 ⟨F5,hA5⟩;simp only [if_true] at hA5;go_simp;simp only [Ord.LandsIn];have hsw:=refSwap_any x y z W y9 hml (hA5.ref 4 rfl);rw [HDD.out] at hsw;refine hsw.mono ?_;rintro e w6 ⟨rfl,F6,hU,hs9⟩;have hE6:=hA5.turnU 4 rfl hU hs9;exact ⟨rfl,⟨hE6.get 2 rfl,hE6.get 0 rfl,hE6.get 1 rfl⟩,F6,hE6⟩
 try simp only [Act.put,zA,zZ,zS]
 repeat ((first
  | (refine Ord.cv ?_ hT9.o ?_ ?_; rotate_left; (intro w5 hS; skip; go_simp<;>rfl))
  | (refine Ord.co hT9.o ?_));try simp only [Act.put,zA,zZ,zS])
 refine Ord.InText.nil fun w5 hS=>?_;clear hT9;obtain ⟨hC9,hA9⟩:=Ord.chain_end hS;clear hS;obtain ⟨F9,hA9⟩:=hA9;simp only [List.length_cons,List.length_nil,Nat.zero_add,Nat.one_ne_zero,if_false] at hA9;clear hC9 hE HTO HDD;cases dd
 ·go_wp2_with fail;go_ret;exact ⟨rfl,F9,hA9⟩
 ·have r:=hA9.rule 2 rfl;unfold urv at r;have f1:=hA9.thaw 2 rfl 8 (by simp [urv]);have hP:=hA9.put 2 rfl (j:=8) (by simp [urv]) (.int .i64 0);go_wp2_with fail;go_ret;exact ⟨rfl,F9,hP⟩
end
section
variable {w0 w:World} {R L:List Item} {q b:Nat} {U:SU} {lv key:Int} {vs fd:Bool} {x y z pc W X K V Cc k ky to:Int} {sp rp:Option Addr}
theorem rcut1 (hml:U.ml.length<=1000000) (hE:Env w0 (boxI q (rnC (some ⟨b,0,none⟩) k ky to 1 sp rp)::boxI b (rlC lv key vs x y z pc W X K V Cc fd)::LU U R) w) :
  Calls prog 110 #[.pointer (some ⟨q,0,none⟩),.pointer (some ⟨U.u,0,none⟩),.pointer (some ⟨U.m,0,none⟩)] w fun o w'=>o=.returned (.int .i64 0)/\∃ F5 sb rb,Env w0 (boxI q (rnC (some ⟨b,0,none⟩) k ky to (if getL U.ml (x,y,z)=W then 3 else 2) (some ⟨sb,0,none⟩) (some ⟨rb,0,none⟩))::boxI sb (rsC k ky false false none)::boxI rb (rrv Cc 0 0)::boxI b (rlC lv key vs x y z pc W X K V Cc fd)::LU { U with F:=F5,ml:=swL U.ml (x,y,z) W (wordI false to U.ce) } R) w':=by
 have hto:=fun (v:World) (hv:Blk 0 v U.u (ruv U))=>rto_c to hv;obtain ⟨y9,hy⟩:∃ y,wordI false to U.ce=y:=⟨_,rfl⟩;rw [hy];simp only [hy] at hto;have HTO:=zH hto;clear hy hto;obtain ⟨dd,hdd⟩:∃ dd,decide (getL U.ml (x,y,z)=W)=dd:=⟨_,rfl⟩;have hdh:(if getL U.ml (x,y,z)=W then (3:Int) else 2)=if dd then 3 else 2:=by rw [<- hdd]; by_cases h:getL U.ml (x,y,z)=W<;>simp [h]
 simp only [hdh];clear hdh;have HDD:=zH hdd;clear hdd;have r:=hE.rule 0 rfl;unfold rnC at r;have rb:=hE.rule 1 rfl;unfold rlC at rb;have hE1:=hE.box w.heap.size rfl (rrv Cc 0 0) 250;have f6:=hE1.thaw 1 rfl 6 (by simp [rnC]);unfold rrv at f6;have r1:=hE1.rule 1 rfl;unfold rnC rrv at r1;have hP:=hE1.put 1 rfl (j:=6) (by simp [rnC]) (.pointer (some ⟨w.heap.size,0,none⟩));replace hP:Env w0 (boxI w.heap.size (rrv Cc 0 0)::boxI q (rnC (some ⟨b,0,none⟩) k ky to 1 sp (some ⟨w.heap.size,0,none⟩))::boxI b (rlC lv key vs x y z pc W X K V Cc fd)::LU U R) _:=hP;unfold rrv at hP;clear hE hE1;go_enter func110,ntmps110;go_wp2_with fail;clear r rb f6 r1;generalize World.setCell _ _ _=w2 at *;replace hP:Env w0 (boxI w.heap.size (rrv Cc 0 0)::boxI q (rnC (some ⟨b,0,none⟩) k ky to 1 sp (some ⟨w.heap.size,0,none⟩))::boxI b (rlC lv key vs x y z pc W X K V Cc fd)::LU U R) w2:=hP;generalize w.heap.size=Y at *;obtain ⟨L2,hL2⟩:∃ L2,boxI b (rlC lv key vs x y z pc W X K V Cc fd)::LU U R=L2:=⟨_,rfl⟩;rw [hL2] at hP;have HL2:=zH hL2;clear hL2;refine Ord3.wp_chain [?_,?_,?_,?_,?_,?_,?_,?_,?_,?_,?_,?_,?_,?_] [10,13] (fun w'=>∃ s9,Blk 0 w' q (rnC (some ⟨b,0,none⟩) k ky to 1 s9 (some ⟨Y,0,none⟩))) (Ord3.Stage fun κs=>[Env w0 (boxI Y (rrv Cc 0 0)::boxI q (rnC (some ⟨b,0,none⟩) k ky to 1 sp (some ⟨Y,0,none⟩))::L2),fun w'=>∃ s,κs.getD 0 undef=.pointer (some ⟨s,0,none⟩)/\Env w0 (boxI s (rsC k ky false false none)::boxI Y (rrv Cc 0 0)::boxI q (rnC (some ⟨b,0,none⟩) k ky to 1 sp (some ⟨Y,0,none⟩))::L2) w',fun w'=>∃ s,Env w0 (boxI s (rsC k ky false false none)::boxI Y (rrv Cc 0 0)::boxI q (rnC (some ⟨b,0,none⟩) k ky to 1 (some ⟨s,0,none⟩) (some ⟨Y,0,none⟩))::L2) w']) (by kernel_rfl) (by kernel_rfl) (by kernel_rfl) ⟨sp,hP.drew.get 1 rfl⟩ ⟨_,rfl,hP.drew⟩ (fun hT=>?_);rotate_left 14;have hT9:=zH hT;clear hT
 repeat ((first
  | (focus (refine Ord3.in_value (v:=?_) hT9.o (by decide) ?_ (by rfl) ?_ ?_; rotate_left 2; (intro w5 hS; obtain ⟨s9,hS9⟩:=hS; have r1:=Blk.rule hS9; unfold rnC at r1; go_simp<;>rfl); rotate_right; (focus rfl)))
  | (focus (refine Ord3.in_off hT9.o (by decide) ?_ (by rfl) ?_; (focus rfl))));try simp only [Act.put,zA,zZ,zS])
 refine Ord3.in_turn (fun u=>∃ q,u=.pointer (some ⟨q,0,none⟩)) _ ⟨0,rfl⟩ hT9.o rfl (by decide) (by rfl) ?_ (Or.inl rfl) (by rfl) ?_ ?_
 ·rfl
 ·rintro w7 hC7 ⟨P7,hP7,hA7⟩;cases hP7;go_simp;simp only [Ord3.Lands];have hE8:=hA7.box w7.heap.size rfl (rsC k ky false false none) 219;exact ⟨⟨_,rfl⟩,⟨sp,hE8.get 2 rfl⟩,_,rfl,w7.heap.size,rfl,hE8⟩
 rintro _ ⟨s9,rfl⟩
 try simp only [Act.put,zA,zZ,zS]
 repeat ((first
  | (focus (refine Ord3.in_value (v:=?_) hT9.o (by decide) ?_ (by rfl) ?_ ?_; rotate_left 2; (intro w5 hS; obtain ⟨s9,hS9⟩:=hS; have r1:=Blk.rule hS9; unfold rnC at r1; go_simp<;>rfl); rotate_right; (focus rfl)))
  | (focus (refine Ord3.in_off hT9.o (by decide) ?_ (by rfl) ?_; (focus rfl))));try simp only [Act.put,zA,zZ,zS])
 refine Ord3.in_turn (fun u=>u=undef) _ rfl hT9.o rfl (by decide) (by rfl) ?_ (Or.inr ⟨_,10,[],rfl,by kernel_rfl,by kernel_rfl,rfl⟩) (by rfl) ?_ ?_
 ·rfl
 ·rintro w7 hC7 ⟨P7,hP7,hA7⟩;cases hP7;obtain ⟨s8,he,hA7⟩:=hA7;cases he;have r:=hA7.rule 2 rfl;unfold rnC at r;have g:=hA7.thaw 2 rfl 5 (by simp [rnC]);go_simp;simp only [Ord3.Lands];have h9:=hA7.put 2 rfl (j:=5) (by simp [rnC]) (.pointer (some ⟨s9,0,none⟩));exact ⟨trivial,⟨_,h9.get 2 rfl⟩,_,rfl,s9,h9⟩
 rintro _ rfl
 try simp only [Act.put,zA,zZ,zS]
 refine Ord3.in_nil rfl ?_;rintro w9 hC9 ⟨P9,hP9,hA9⟩;cases hP9;obtain ⟨sb,hA9⟩:=hA9;clear hT9 hC9 hP;have h2:=HL2.out;subst h2;clear HL2;have f4:=hA9.thaw 2 rfl 4 (by simp [rnC]);have hQ:=hA9.put 2 rfl (j:=4) (by simp [rnC]) (.int .i64 2);replace hQ:Env w0 (boxI sb (rsC k ky false false none)::boxI Y (rrv Cc 0 0)::boxI q (rnC (some ⟨b,0,none⟩) k ky to 2 (some ⟨sb,0,none⟩) (some ⟨Y,0,none⟩))::boxI b (rlC lv key vs x y z pc W X K V Cc fd)::LU U R) _:=hQ;have r2:=hA9.rule 2 rfl;unfold rnC at r2;clear hA9;go_wp2_with fail;clear r2 f4;refine Ord.wc [15] (fun v=>Blk 0 v U.u (ruv U)/\Blk 0 v q (rnC (some ⟨b,0,none⟩) k ky to 2 (some ⟨sb,0,none⟩) (some ⟨Y,0,none⟩))/\Blk 0 v b (rlC lv key vs x y z pc W X K V Cc fd)) (fun k9 w'=>∃ F5,Env w0 (boxI sb (rsC k ky false false none)::boxI Y (rrv Cc 0 0)::boxI q (rnC (some ⟨b,0,none⟩) k ky to 2 (some ⟨sb,0,none⟩) (some ⟨Y,0,none⟩))::boxI b (rlC lv key vs x y z pc W X K V Cc fd)::LU (if k9=0 then U else { U with F:=F5,ml:=swL U.ml (x,y,z) W y9 }) R) w') ⟨hQ.drew.get 4 rfl,hQ.drew.get 2 rfl,hQ.drew.get 3 rfl⟩ ⟨U.F,hQ.drew⟩ fun hT9=>?_
 repeat ((first
  | (refine Ord.cv ?_ hT9.o ?_ ?_; rotate_left; (intro w5 hS; have ru:=hS.1.rule; have rb:=hS.2.1.rule; have rc:=hS.2.2.rule; unfold ruv urv at ru; unfold rnC at rb; unfold rlC at rc; go_simp<;>rfl))
  | (refine Ord.co hT9.o ?_)
  | (refine Ord.cc ?_ ?_ ?_ hT9.o ?_ ?_ ?_; rotate_left 3; (intro w5 hS; have ru:=hS.1.rule; have rb:=hS.2.1.rule; have rc:=hS.2.2.rule; unfold ruv urv at ru; unfold rnC at rb; unfold rlC at rc; go_simp; constructor<;>rfl); (intro w5 hS; (first | (with_reducible refine kp (HTO.out _ hS.1) ?_ ?_; rfl; exact fun w6 hb6=>⟨⟨hS.1.under hb6,hS.2.1.under hb6,hS.2.2.under hb6⟩,fun k h=>h.elim fun F5 h=>⟨F5,h.over hb6⟩⟩)))));try simp only [Act.put,zA,zZ,zS])
 refine Ord.ch_turn (v:=.bool dd) 0 hT9.o rfl (by decide) (Or.inl rfl) (by rfl) ?_ ?_
 ·rintro w5 hC5 ⟨F5,hA5⟩;simp only [if_true] at hA5;go_simp;simp only [Ord.LandsIn];have hsw:=refSwap_any x y z W y9 hml (hA5.ref 6 rfl);rw [HDD.out] at hsw;refine hsw.mono ?_;rintro e w6 ⟨rfl,F6,hU,hs9⟩;have hE6:=hA5.turnU 6 rfl hU hs9;exact ⟨rfl,⟨hE6.get 4 rfl,hE6.get 2 rfl,hE6.get 3 rfl⟩,F6,hE6⟩
 try simp only [Act.put,zA,zZ,zS]
 repeat ((first
  | (refine Ord.cv ?_ hT9.o ?_ ?_; rotate_left; (intro w5 hS; skip; go_simp<;>rfl))
  | (refine Ord.co hT9.o ?_));try simp only [Act.put,zA,zZ,zS])
 refine Ord.InText.nil fun w5 hS=>?_;clear hT9;obtain ⟨hC9,hA9⟩:=Ord.chain_end hS;clear hS;obtain ⟨F9,hA9⟩:=hA9;simp only [List.length_cons,List.length_nil,Nat.zero_add,Nat.one_ne_zero,if_false] at hA9;clear hC9 hQ HTO HDD;have hB:=hA9.perm (L':=boxI q (rnC (some ⟨b,0,none⟩) k ky to 2 (some ⟨sb,0,none⟩) (some ⟨Y,0,none⟩))::boxI sb (rsC k ky false false none)::boxI Y (rrv Cc 0 0)::boxI b (rlC lv key vs x y z pc W X K V Cc fd)::LU { U with F:=F9,ml:=swL U.ml (x,y,z) W y9 } R) (List.perm_middle (l₁:=[_,_]));clear hA9;cases dd
 ·go_wp2_with fail;go_ret;exact ⟨rfl,F9,sb,Y,hB⟩
 ·have r:=hB.rule 0 rfl;unfold rnC at r;have f1:=hB.thaw 0 rfl 4 (by simp [rnC]);have hP:=hB.put 0 rfl (j:=4) (by simp [rnC]) (.int .i64 3);go_wp2_with fail;go_ret;exact ⟨rfl,F9,sb,Y,hP⟩
theorem rseek2 {u m:Nat} (s:Int) (hs:s=0\/s=1) (sb:Nat) (Y:World->Prop) (hE:Env w0 (boxI q (rnC (some ⟨b,0,none⟩) k ky to 2 (some ⟨sb,0,none⟩) rp)::L) w)
  (hc:Calls prog 105 #[.pointer (some ⟨sb,0,none⟩),.pointer (some ⟨u,0,none⟩),.pointer (some ⟨m,0,none⟩)] w fun o w'=>o=.returned (.int .i64 s)/\∃ L',Env w0 (boxI q (rnC (some ⟨b,0,none⟩) k ky to 2 (some ⟨sb,0,none⟩) rp)::L') w'/\∀ v,Env w0 (boxI q (rnC (some ⟨b,0,none⟩) k ky to (if s=1 then 3 else 2) (some ⟨sb,0,none⟩) rp)::L') v->Y v) :
  Calls prog 110 #[.pointer (some ⟨q,0,none⟩),.pointer (some ⟨u,0,none⟩),.pointer (some ⟨m,0,none⟩)] w fun o w'=>o=.returned (.int .i64 0)/\Y w':=by
 have r:=hE.rule 0 rfl;unfold rnC at r;have HC:=zH hc;clear hc hE;go_enter func110,ntmps110;go_wp2_with fail;refine HC.out.mono ?_;rintro o w1 ⟨rfl,L',hE1,hY⟩;have HY:=zH hY;clear hY HC r
 rcases hs with rfl | rfl
 ·go_wp2_with fail;go_ret;exact ⟨rfl,HY.out _ hE1⟩
 ·have r:=hE1.rule 0 rfl;unfold rnC at r;have f1:=hE1.thaw 0 rfl 4 (by simp [rnC]);have hP:=hE1.put 0 rfl (j:=4) (by simp [rnC]) (.int .i64 3);go_wp2_with fail;go_ret;exact ⟨rfl,HY.out _ hP⟩
theorem rret3 {u m:Nat} (rb:Nat) (Q:Ending->World->Prop) (hE:Env w0 (boxI q (rnC (some ⟨b,0,none⟩) k ky to 3 sp (some ⟨rb,0,none⟩))::L) w)
  (hc:Calls prog 138 #[.pointer (some ⟨rb,0,none⟩),.pointer (some ⟨u,0,none⟩),.pointer (some ⟨m,0,none⟩)] w fun o w'=>∃ s,o=.returned (.int .i64 s)/\Q (.returned (.int .i64 s)) w') :
  Calls prog 110 #[.pointer (some ⟨q,0,none⟩),.pointer (some ⟨u,0,none⟩),.pointer (some ⟨m,0,none⟩)] w Q:=by
 have r:=hE.rule 0 rfl;unfold rnC at r;have HC:=zH hc;clear hc hE;go_enter func110,ntmps110;go_wp2_with fail;refine HC.out.mono ?_;rintro o w1 ⟨s,rfl,hq⟩;go_wp2_with fail;exact hq
end
def rtC (kd key val lv pc:Int) (ps pa pl pu:Option Addr) (er:Int) (dn:Bool) (vl:Int):List Value:=[.int .i64 kd,.int .u64 key,.int .u64 val,.int .i64 lv,.int .i64 pc,.pointer ps,.pointer pa,.pointer pl,.pointer pu,.int .i64 er,.bool dn,.int .u64 vl]
section
variable {w0 w:World} {R L:List Item} {q b sb:Nat} {U:SU} {kd key val lv pc er vl k:Int} {vs:Bool} {ps pa pl pu:Option Addr} {dn:Bool} {x y z lpc W X K V Cc:Int} {fd:Bool}
theorem ragain (hE:Env w0 (boxI q (rtC kd key val lv pc ps pa pl pu er dn vl)::L) w) :
  Calls prog 104 #[.pointer (some ⟨q,0,none⟩),.int .i64 k,.bool vs] w fun o w'=>o=.returned (.int .i64 0)/\∃ sb,Env w0 (boxI q (rtC kd key val lv 1 (some ⟨sb,0,none⟩) pa pl pu er dn vl)::boxI sb (rsC k key vs false none)::L) w':=by
 have r:=hE.rule 0 rfl;unfold rtC at r;have hE1:=hE.box w.heap.size rfl (rsC k key vs false none) 219;have f5:=hE1.thaw 1 rfl 5 (by simp [rtC]);unfold rsC at f5;have r1:=hE1.rule 1 rfl;unfold rtC rsC at r1;have hP:=(hE1.put 1 rfl (j:=5) (by simp [rtC]) (.pointer (some ⟨w.heap.size,0,none⟩)));replace hP:Env w0 (boxI w.heap.size (rsC k key vs false none)::boxI q (rtC kd key val lv pc (some ⟨w.heap.size,0,none⟩) pa pl pu er dn vl)::L) _:=hP;have f4:=hP.thaw 1 rfl 4 (by simp [rtC]);have r2:=hP.rule 1 rfl;unfold rsC at f4;unfold rtC rsC at r2;have hQ:=hP.put 1 rfl (j:=4) (by simp [rtC]) (.int .i64 1);unfold rsC at hQ;clear hE hE1 hP;go_enter func104,ntmps104;go_wp2_with fail;go_ret;exact ⟨rfl,w.heap.size,hQ.perm (List.Perm.swap _ _ _)⟩
theorem rcameFind (s:Int) (hs:s=1\/s=2) (hE:Env w0 (boxI q (rtC kd key val lv pc ps pa pl pu er dn vl)::L) w) :
  Calls prog 107 #[.pointer (some ⟨q,0,none⟩),.int .i64 s,.int .i64 k,.bool vs] w fun o w'=>o=.returned (.int .i64 0)/\∃ sb,Env w0 (boxI q (rtC kd key val lv 1 (some ⟨sb,0,none⟩) pa pl pu er dn vl)::boxI sb (rsC k key vs false none)::L) w':=by
 have HF:=zH (ragain (k:=k) (vs:=vs) hE);clear hE
 rcases hs with rfl | rfl
 all_goals
  go_enter func107,ntmps107;go_wp2_with fail;refine HF.out.mono ?_;rintro e w1 ⟨rfl,sb,hE2⟩;go_wp2_with fail;go_ret;exact ⟨rfl,sb,hE2⟩
theorem rcameOver (s:Int) (hs:s=3\/s=4) (hE:Env w0 (boxI q (rtC kd key val lv pc ps pa pl pu er dn vl)::L) w) :
  Calls prog 107 #[.pointer (some ⟨q,0,none⟩),.int .i64 s,.int .i64 k,.bool vs] w fun o w'=>o=.returned (.int .i64 1)/\Env w0 (boxI q (rtC kd key val lv pc ps pa pl pu (s+3) dn vl)::L) w':=by
 have r:=hE.rule 0 rfl;unfold rtC at r;have f:=hE.thaw 0 rfl 9 (by simp [rtC]);have h6:=hE.put 0 rfl (j:=9) (by simp [rtC]) (.int .i64 6);have h7:=hE.put 0 rfl (j:=9) (by simp [rtC]) (.int .i64 7);clear hE
 rcases hs with rfl | rfl
 ·go_enter func107,ntmps107;go_wp2_with fail;go_ret;exact ⟨rfl,h6⟩
 ·go_enter func107,ntmps107;go_wp2_with fail;go_ret;exact ⟨rfl,h7⟩
theorem rcameGo (hE:Env w0 (boxI q (rtC kd key val lv pc ps pa pl pu er dn vl)::L) w) :
  Calls prog 107 #[.pointer (some ⟨q,0,none⟩),.int .i64 0,.int .i64 k,.bool vs] w fun o w'=>o=.returned (.int .i64 0)/\Env w0 (boxI q (rtC kd key val lv pc ps pa pl pu er dn vl)::L) w':=by
 go_enter func107,ntmps107;go_wp2_with fail;go_ret;exact ⟨rfl,hE⟩
theorem rinsLink (hh:0 < U.hs) (hE:Env w0 (boxI q (rtC kd key val lv pc (some ⟨sb,0,none⟩) pa pl pu er dn vl)::boxI sb (rsC k key vs true (some ⟨b,0,none⟩))::boxI b (rlC 0 key vs x y z lpc W X K V Cc fd)::LU U R) w) :
  Calls prog 149 #[.pointer (some ⟨q,0,none⟩),.pointer (some ⟨U.u,0,none⟩),.int .i64 k,.bool vs] w fun o w'=>o=.returned (.int .i64 0)/\∃ l,Env w0 (boxI q (rtC kd key val lv 3 (some ⟨sb,0,none⟩) pa (some ⟨l,0,none⟩) pu er dn vl)::boxI l (rkC (some ⟨b,0,none⟩) false)::boxI sb (rsC k key vs true (some ⟨b,0,none⟩))::boxI b (rlC 0 key vs x y z lpc W X K V Cc fd)::LU U R) w':=by
 have hb:decide (U.hs > 0)=true:=by simpa using hh
 have hb2:decide (0 < U.hs)=true:=by simpa using hh
 have r:=hE.rule 0 rfl;have rs:=hE.rule 1 rfl;have ru:=hE.rule 3 rfl;unfold rtC at r;unfold rsC at rs;unfold urv at ru;have hE1:=hE.box w.heap.size rfl (rkC (some ⟨b,0,none⟩) false) 248;have f7:=hE1.thaw 1 rfl 7 (by simp [rtC]);unfold rkC at f7;have r1:=hE1.rule 1 rfl;unfold rtC rkC at r1;have hP:=(hE1.put 1 rfl (j:=7) (by simp [rtC]) (.pointer (some ⟨w.heap.size,0,none⟩)));replace hP:Env w0 (boxI w.heap.size (rkC (some ⟨b,0,none⟩) false)::boxI q (rtC kd key val lv pc (some ⟨sb,0,none⟩) pa (some ⟨w.heap.size,0,none⟩) pu er dn vl)::boxI sb (rsC k key vs true (some ⟨b,0,none⟩))::boxI b (rlC 0 key vs x y z lpc W X K V Cc fd)::LU U R) _:=hP;have f4:=hP.thaw 1 rfl 4 (by simp [rtC]);have r2:=hP.rule 1 rfl;unfold rkC at f4;unfold rtC rkC at r2;have hQ:=hP.put 1 rfl (j:=4) (by simp [rtC]) (.int .i64 3);unfold rkC at hQ;clear hE hE1 hP hh;go_enter func149,ntmps149;go_wp2_with fail;go_ret;exact ⟨rfl,w.heap.size,hQ.perm (List.Perm.swap _ _ _)⟩
theorem rinsLate (hh:U.hs<=0) (hd:decP U.ql U.ce U.cl=0) (hE:Env w0 (boxI q (rtC kd key val lv pc ps pa pl pu 0 false vl)::LU U R) w) :
  Calls prog 149 #[.pointer (some ⟨q,0,none⟩),.pointer (some ⟨U.u,0,none⟩),.int .i64 k,.bool vs] w fun o w'=>o=.returned (.int .i64 1)/\∃ a,Env w0 (boxI q (rtC kd key val lv 2 ps (some ⟨a,0,none⟩) pl pu 7 false vl)::LU U R) w':=by
 have hb:decide (U.hs > 0)=false:=by simp; omega
 have hb2:decide (0 < U.hs)=false:=by simp; omega
 have r:=hE.rule 0 rfl;have ru:=hE.rule 1 rfl;unfold rtC at r;unfold urv at ru;have hE1:=hE.box w.heap.size rfl (rav 0 0 0 0) 245;have f6:=hE1.thaw 1 rfl 6 (by simp [rtC]);unfold rav at f6;have r1:=hE1.rule 1 rfl;unfold rtC rav at r1;have hP:=(hE1.put 1 rfl (j:=6) (by simp [rtC]) (.pointer (some ⟨w.heap.size,0,none⟩)));replace hP:Env w0 (boxI w.heap.size (rav 0 0 0 0)::boxI q (rtC kd key val lv pc ps (some ⟨w.heap.size,0,none⟩) pl pu 0 false vl)::LU U R) _:=hP;have f4:=hP.thaw 1 rfl 4 (by simp [rtC]);have r2:=hP.rule 1 rfl;unfold rav at f4;unfold rtC rav at r2;have hQ:=hP.put 1 rfl (j:=4) (by simp [rtC]) (.int .i64 2);replace hQ:Env w0 (boxI w.heap.size (rav 0 0 0 0)::boxI q (rtC kd key val lv 2 ps (some ⟨w.heap.size,0,none⟩) pl pu 0 false vl)::LU U R) _:=hQ;have hQ2:=hQ.perm (L':=boxI w.heap.size (rav 0 0 0 0)::LU U (boxI q (rtC kd key val lv 2 ps (some ⟨w.heap.size,0,none⟩) pl pu 0 false vl)::R)) ((List.perm_middle (l₁:=[_,_,_])).symm.cons _);have hQ3:=hQ.rule 1 rfl;have HD:=zH (rdecide_a hQ2);unfold rtC rav at hQ3;unfold rav at HD;clear hE hE1 hP hh hQ hQ2;have HDS:Hid (decS U.ql U.ce U.cl=4):=zH (by unfold decS; rw [if_pos hd]);clear hd;go_enter func149,ntmps149;go_wp2_with fail;refine HD.out.mono ?_;rintro o w1 ⟨rfl,pc',hpc',hE2⟩;rw [HDS.out];have hE3:=hE2.perm (L':=boxI q (rtC kd key val lv 2 ps (some ⟨w.heap.size,0,none⟩) pl pu 0 false vl)::boxI w.heap.size (rav pc' 0 0 0)::LU U R) ((List.perm_middle (l₁:=[_,_,_,_])));clear hE2 r ru f6 r1 f4 r2 hQ3 HD hpc';go_wp2_with fail;refine (rcameOver (k:=k) (vs:=vs) 4 (.inr rfl) hE3).mono ?_;rintro o w2 ⟨rfl,hE4⟩;go_wp2_with fail;go_ret;exact ⟨rfl,w.heap.size,hE4.sub (.cons_cons _ (.cons _ (List.Sublist.refl _)))⟩
theorem rinsAlloc (hh:U.hs<=0) (hd:decP U.ql U.ce U.cl≠0) (hE:Env w0 (boxI q (rtC kd key val lv pc ps pa pl pu 0 false vl)::LU U R) w) :
  Calls prog 149 #[.pointer (some ⟨q,0,none⟩),.pointer (some ⟨U.u,0,none⟩),.int .i64 k,.bool vs] w fun o w'=>o=.returned (.int .i64 0)/\∃ a,Env w0 (boxI q (rtC kd key val lv 2 ps (some ⟨a,0,none⟩) pl pu 0 false vl)::boxI a (rav ((decP U.ql U.ce U.cl:Nat):Int) 0 0 0)::LU U R) w':=by
 have hb:decide (U.hs > 0)=false:=by simp; omega
 have hb2:decide (0 < U.hs)=false:=by simp; omega
 have r:=hE.rule 0 rfl;have ru:=hE.rule 1 rfl;unfold rtC at r;unfold urv at ru;have hE1:=hE.box w.heap.size rfl (rav 0 0 0 0) 245;have f6:=hE1.thaw 1 rfl 6 (by simp [rtC]);unfold rav at f6;have r1:=hE1.rule 1 rfl;unfold rtC rav at r1;have hP:=(hE1.put 1 rfl (j:=6) (by simp [rtC]) (.pointer (some ⟨w.heap.size,0,none⟩)));replace hP:Env w0 (boxI w.heap.size (rav 0 0 0 0)::boxI q (rtC kd key val lv pc ps (some ⟨w.heap.size,0,none⟩) pl pu 0 false vl)::LU U R) _:=hP;have f4:=hP.thaw 1 rfl 4 (by simp [rtC]);have r2:=hP.rule 1 rfl;unfold rav at f4;unfold rtC rav at r2;have hQ:=hP.put 1 rfl (j:=4) (by simp [rtC]) (.int .i64 2);replace hQ:Env w0 (boxI w.heap.size (rav 0 0 0 0)::boxI q (rtC kd key val lv 2 ps (some ⟨w.heap.size,0,none⟩) pl pu 0 false vl)::LU U R) _:=hQ;have hQ2:=hQ.perm (L':=boxI w.heap.size (rav 0 0 0 0)::LU U (boxI q (rtC kd key val lv 2 ps (some ⟨w.heap.size,0,none⟩) pl pu 0 false vl)::R)) ((List.perm_middle (l₁:=[_,_,_])).symm.cons _);have hQ3:=hQ.rule 1 rfl;have HD:=zH (rdecide_a hQ2);unfold rtC rav at hQ3;unfold rav at HD;clear hE hE1 hP hh hQ hQ2;have HDS:Hid (decS U.ql U.ce U.cl=0):=zH (by unfold decS; rw [if_neg hd]);have HDD:=zH hd;clear hd;go_enter func149,ntmps149;go_wp2_with fail;refine HD.out.mono ?_;rintro o w1 ⟨rfl,pc',hpc',hE2⟩;rw [HDS.out];have hE3:=hE2.perm (L':=boxI q (rtC kd key val lv 2 ps (some ⟨w.heap.size,0,none⟩) pl pu 0 false vl)::boxI w.heap.size (rav pc' 0 0 0)::LU U R) ((List.perm_middle (l₁:=[_,_,_,_])));have HPC:=zH (hpc' HDD.out);clear hE2 r ru f6 r1 f4 r2 hQ3 HD hpc';go_wp2_with fail;refine (rcameGo (k:=k) (vs:=vs) hE3).mono ?_;rintro o w2 ⟨rfl,hE4⟩;go_wp2_with fail;go_ret;rw [HPC.out] at hE4;exact ⟨rfl,w.heap.size,hE4⟩
end
def encOp (d:Dd):List Value:=[.int .i64 d.ok,.int .u64 d.key,.int .u64 d.val,.int .i64 d.lv]
def OsAt (w0:World) (R:List Item) (A:Option Addr) (ds:List Dd):Prop :=
 ds=[]\/∃ g off,A=some ⟨g,off,none⟩/\∀ i,i < ds.length->∀ v,KR w0 R v->CellsAt v g (off+i * 4) (encOp (ds.getD i default))
theorem rowO {w0:World} {R:List Item} {A:Option Addr} {ds:List Dd} (hd:OsAt w0 R A ds) (i:Nat) (hi:i < ds.length) :
  ∃ g off,A=some ⟨g,off,none⟩/\∀ v,KR w0 R v->CellsAt v g (off+i * 4) (encOp (ds.getD i default)):=by
 rcases hd with h | ⟨g,off,hA,hc⟩
 ·rw [h] at hi; simp at hi
 ·exact ⟨g,off,hA,hc i hi⟩
theorem Env.put4c {w0 w:World} {L:List Item} (h:Env w0 L w) (i:Nat) {B:Nat} {a b c d:Value} (hi:L[i]?=some (boxI B [a,b,c,d])) (u v t x:Value) :
  Env w0 (L.set i (boxI B [u,v,t,x])) ((((w.setCell ⟨B,0,none⟩ u).setCell ⟨B,1,none⟩ v).setCell ⟨B,2,none⟩ t).setCell ⟨B,3,none⟩ x):=by
 have hl:i < L.length:=(List.getElem?_eq_some_iff.1 hi).1;have h1:=h.put i hi (j:=0) (by simp) u;have h2:=h1.put i (by rw [List.getElem?_set_self hl]) (j:=1) (by simp) v;have h3:=h2.put i (by rw [List.getElem?_set_self (by simpa using hl)]) (j:=2) (by simp) t;have h4:=h3.put i (by rw [List.getElem?_set_self (by simpa using hl)]) (j:=3) (by simp) x
 simpa using h4
def thk (c u:Nat) (dA:Option Addr) (dn dc:Nat) (nd:Int) (busy:Bool) (po pq pg ph:Value) (st:Int):List Value:=[.pointer (some ⟨c,0,none⟩),.pointer (some ⟨u,0,none⟩),.slice dA dn dc,.int .i64 nd,.bool busy,po,pq,pg,ph,.int .i64 st]
structure Rw where
 (A:Option Addr)
 (cap:Nat)
 (ds:List Dd)
instance:Inhabited Rw:=⟨⟨none,0,[]⟩⟩
def encRw (r:Rw):List Value:=[.slice r.A r.ds.length r.cap]
theorem rowRw {w0 v:World} {A:Option Addr} {rs:List Rw} (hd:RowX encRw 1 w0 A rs) (hb:Below w0.heap.size w0 v) (i:Nat) (hi:i < rs.length) :
  ∃ g off,A=some ⟨g,off,none⟩/\∀ v,Below w0.heap.size w0 v->v.cell? ⟨g,off+i,none⟩=some (.slice (rs.getD i default).A (rs.getD i default).ds.length (rs.getD i default).cap):=by
 rcases hd with h | ⟨b,off,hA,hl,hc⟩
 ·rw [h] at hi; simp at hi
 ·refine ⟨b,off,hA,fun v hv=>?_⟩;have:=((hc i hi).below hv hl) 0 _ rfl
  simpa using this
end
end Go.Proofs.YtdknbegcflldjaaGreatDoor
