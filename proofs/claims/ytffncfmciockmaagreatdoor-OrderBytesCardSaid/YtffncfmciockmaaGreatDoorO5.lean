/- What is proved on the way to the statement, part 5: contracts of the functions, among other things in memory. -/
import Derived.Test.YtffncfmciockmaaGreatDoorO4

open _root_.Go.Proofs.Tryz
set_option maxRecDepth 100000
set_option maxHeartbeats 25600000
namespace Go.Proofs.YtffncfmciockmaaGreatDoor
section
open Go.RowKit Go.Maps
def cS (v:Int):Int:=if slotI v=0 then 1 else 0
section
variable {w0 w:World} {L:List Item} {a c:Nat} {lv key:Int} {vs:Bool} {nx:Value} {x y z W C X wd:Int} {pf:Bool} {pv:Int}
theorem come_l (v:Int) (hv:InU v) (hg:Glo w0) (hE:Env w0 (boxI a (laneC c lv key vs nx 0 x y z W C X wd pf pv)::L) w) :
  Calls prog 289 #[.pointer (some ⟨a,0,none⟩),.agg #[.int .u64 v,.int .i64 0,.bool false]] w fun o w'=>o=.returned (.int .i64 (cS v))/\∃ nx,(slotI v≠0->nx=mvL 301 a)/\Env w0 (boxI a (laneC c lv key vs nx (cS v) x y z v (slotI v) 0 wd pf pv)::L) w':=by
 by_cases hs:slotI v=0
 ·refine (come0_l v hs hv hg hE).mono ?_;rintro o w1 ⟨rfl,nx,hE1⟩;have hc:cS v=1:=if_pos hs;rw [hc,hs];exact ⟨rfl,nx,fun h=>absurd rfl h,hE1⟩
 ·refine (comeY_l v hs hv hg hE).mono ?_;rintro o w1 ⟨rfl,hE1⟩;have hc:cS v=0:=if_neg hs;rw [hc];exact ⟨rfl,_,fun _=>rfl,hE1⟩
theorem intoMark_l (hm:markB W=true) (hv:InU W) (hg:Glo w0) (hE:Env w0 (boxI a (laneC c lv key vs nx 0 x y z W C X wd pf pv)::L) w) :
  Calls prog 265 #[.pointer (some ⟨a,0,none⟩)] w fun o w'=>o=.returned (.int .i64 2)/\∃ nx,Env w0 (boxI a (laneC c lv key vs nx 2 x y z W C X wd pf pv)::L) w':=by
 have r:=hE.rule 0 rfl;unfold laneC at r;have h1:=isMarked_any W w (hg.keep' hE.below) hv.1 hv.2;rw [hm] at h1;clear hm hv hg;go_enter func265,ntmps265;go_wp2_with fail;refine h1.mono ?_;rintro o w1 ⟨rfl,hb⟩;replace hE:=hE.over hb;clear hb r;go_wp2_with fail;refine (end_l 0 2 (by simp [laneC]) hE rfl).mono ?_;rintro o w6 ⟨rfl,nx,hE6⟩;go_wp2_with fail;go_ret;exact ⟨rfl,nx,hE6⟩
theorem intoCome_l (hm:markB W=false) (hv:InU W) (hg:Glo w0) (hE:Env w0 (boxI a (laneC c lv key vs nx 0 x y z W C X wd pf pv)::L) w) :
  Calls prog 265 #[.pointer (some ⟨a,0,none⟩)] w fun o w'=>o=.returned (.int .i64 (cS W))/\∃ nx,(slotI W≠0->nx=mvL 301 a)/\Env w0 (boxI a (laneC c lv key vs nx (cS W) x y z W (slotI W) 0 wd pf pv)::L) w':=by
 have r:=hE.rule 0 rfl;unfold laneC at r;have h1:=isMarked_any W w (hg.keep' hE.below) hv.1 hv.2;rw [hm] at h1;have HV:=zH hv;have HG:=zH hg;clear hm hv hg;go_enter func265,ntmps265;go_wp2_with fail;refine h1.mono ?_;rintro o w1 ⟨rfl,hb⟩;replace hE:=hE.over hb;clear hb r;have r:=hE.rule 0 rfl;unfold laneC at r;go_wp2_with fail;refine (come_l W HV.out HG.out hE).mono ?_;rintro o w6 ⟨rfl,nx,hnx,hE6⟩;go_wp2_with fail;go_ret;exact ⟨rfl,nx,hnx,hE6⟩
theorem out_l (hv:InU X) (hg:Glo w0) (hE:Env w0 (boxI a (laneC c lv key vs nx 0 x y z W C X wd pf pv)::L) w) :
  Calls prog 308 #[.pointer (some ⟨a,0,none⟩)] w fun o w'=>o=.returned (.int .i64 0)/\Env w0 (boxI a (laneC c lv key vs (mvL (if markB X then 311 else 312) a) 0 x y z W C X wd pf pv)::L) w':=by
 have hmf:=makeF;have r:=hE.rule 0 rfl;unfold laneC at r;have h1:=isMarked_any X w (hg.keep' hE.below) hv.1 hv.2;obtain ⟨b,hb9⟩:∃ b,markB X=b:=⟨_,rfl⟩;rw [hb9] at h1 ⊢;clear hb9 hv hg;go_enter func308,ntmps308;go_wp2_with fail;refine h1.mono ?_;rintro o w1 ⟨rfl,hb⟩;replace hE:=hE.over hb;clear hb r;cases b
 ·go_wp2_with fail;refine (goOn_l 0 _ _ _ (by simp [laneC]) hE rfl).mono ?_;rintro o w6 ⟨rfl,hE6⟩;go_wp2_with fail;go_ret;exact ⟨rfl,hE6⟩
 ·go_wp2_with fail;refine (goOn_l 0 _ _ _ (by simp [laneC]) hE rfl).mono ?_;rintro o w6 ⟨rfl,hE6⟩;go_wp2_with fail;go_ret;exact ⟨rfl,hE6⟩
theorem val_l (hE:Env w0 (boxI a (laneC c lv key vs nx 0 x y z W C X wd pf pv)::L) w) :
  Calls prog 318 #[.pointer (some ⟨a,0,none⟩)] w fun o w'=>o=.returned (.int .i64 1)/\∃ nx,Env w0 (boxI a (laneC c lv key vs nx 1 x y z W C X wd true wd)::L) w':=by
 have r:=hE.rule 0 rfl;unfold laneC at r;have g0:=hE.thaw 0 rfl 19 (by simp [laneC]);have g1:=hE.thaw 0 rfl 20 (by simp [laneC]);have hP:=(hE.put 0 rfl (j:=19) (by simp [laneC]) (.bool true)).put 0 rfl (j:=20) (by simp [laneC]) (.int .u64 wd);replace hP:Env w0 (boxI a (laneC c lv key vs nx 0 x y z W C X wd true wd)::L) _:=hP;go_enter func318,ntmps318;go_wp2_with fail;refine (end_l 0 1 (by simp [laneC]) hP rfl).mono ?_;rintro o w6 ⟨rfl,nx,hE6⟩;go_wp2_with fail;go_ret;exact ⟨rfl,nx,hE6⟩
theorem keyLess_l (hk:wd < key) (hlv:0<=lv/\lv<=1000000) (hv:InU X) (hg:Glo w0) (hE:Env w0 (boxI a (laneC c lv key vs nx 0 x y z W C X wd pf pv)::L) w) :
  Calls prog 316 #[.pointer (some ⟨a,0,none⟩)] w fun o w'=>o=.returned (.int .i64 (cS X))/\∃ nx,(slotI X≠0->nx=mvL 301 a)/\Env w0 (boxI a (laneC c lv key vs nx (cS X) 5 C (7+lv) X (slotI X) 0 wd pf pv)::L) w':=by
 have hkb:decide (wd < key)=true:=by simpa using hk
 have HV:=zH hv;have HG:=zH hg;clear hk hv hg;go_enter func316,ntmps316;go_wp2_with fail;refine wp_text (S:=(Env w0 (boxI a (laneC c lv key vs nx 0 x y z W C X wd pf pv)::L))) (by kernel_rfl) (by kernel_rfl) hE.drew (fun hT=>?_);have hT9:=zH hT;clear hT
 repeat ((first
  | (refine text_value (v:=?_) hT9.o (by rfl) ?_ ?_; rotate_left; (intro w5 hS; have r:=hS.rule 0 rfl; unfold laneC at r; go_simp<;>rfl))
  | (refine text_off hT9.o (by rfl) ?_)
  | (refine text_call (v:=?_) (f:=?_) (args:=?_) hT9.o (by rfl) ?_ ?_ ?_; rotate_left 3; (intro w5 hS; have r:=hS.rule 0 rfl; unfold laneC at r; go_simp; constructor<;>rfl); (intro w5 hS; (first | fail))));try simp only [Act.put,zA,zZ,zS])
 refine InText.nil fun w5 hS5=>?_;clear hT9;clear hE;go_wp2_with fail;refine (nextLink_l hlv (hS5.get 0 rfl)).mono ?_;rintro o w6 ⟨rfl,hb⟩;have hE:=hS5.over hb;clear hS5 hb;have r:=hE.rule 0 rfl;unfold laneC at r;have g0:=hE.thaw 0 rfl 6 (by simp [laneC]);have g1:=hE.thaw 0 rfl 7 (by simp [laneC]);have g2:=hE.thaw 0 rfl 8 (by simp [laneC]);have g3:=hE.thaw 0 rfl 9 (by simp [laneC]);have hP:=(((hE.put 0 rfl (j:=6) (by simp [laneC]) (.int .i64 5)).put 0 rfl (j:=7) (by simp [laneC]) (.int .i64 C)).put 0 rfl (j:=8) (by simp [laneC]) (.int .i64 (7+lv))).put 0 rfl (j:=9) (by simp [laneC]) (.int .i64 0);replace hP:Env w0 (boxI a (laneC c lv key vs nx 0 5 C (7+lv) W C X wd pf pv)::L) _:=hP;clear hE;have r9:=hP.rule 0 rfl;unfold laneC at r9;go_wp2_with fail;refine (come_l X HV.out HG.out hP).mono ?_;rintro o w7 ⟨rfl,nx,hnx,hE6⟩;go_wp2_with fail;go_ret;exact ⟨rfl,nx,hnx,hE6⟩
theorem keyVal_l (hk:wd=key) (hE:Env w0 (boxI a (laneC c lv key true nx 0 x y z W C X wd pf pv)::L) w) :
  Calls prog 316 #[.pointer (some ⟨a,0,none⟩)] w fun o w'=>o=.returned (.int .i64 0)/\Env w0 (boxI a (laneC c lv key true (mvL 317 a) 0 x y z W C X wd pf pv)::L) w':=by
 have hmf:=makeF;subst hk;have hlt:decide (wd < wd)=false:=by simp
 have heq:(wd==wd)=true:=by simp
 go_enter func316,ntmps316;go_wp2_with fail;refine wp_text (S:=(Env w0 (boxI a (laneC c lv wd true nx 0 x y z W C X wd pf pv)::L))) (by kernel_rfl) (by kernel_rfl) hE.drew (fun hT=>?_);have hT9:=zH hT;clear hT
 repeat ((first
  | (refine text_value (v:=?_) hT9.o (by rfl) ?_ ?_; rotate_left; (intro w5 hS; have r:=hS.rule 0 rfl; unfold laneC at r; go_simp<;>rfl))
  | (refine text_off hT9.o (by rfl) ?_)
  | (refine text_call (v:=?_) (f:=?_) (args:=?_) hT9.o (by rfl) ?_ ?_ ?_; rotate_left 3; (intro w5 hS; have r:=hS.rule 0 rfl; unfold laneC at r; go_simp; constructor<;>rfl); (intro w5 hS; (first | fail))));try simp only [Act.put,zA,zZ,zS])
 refine InText.nil fun w5 hS5=>?_;clear hT9;clear hE;go_wp2_with fail;have hE:=hS5;clear hS5;refine wp_text (S:=(Env w0 (boxI a (laneC c lv wd true nx 0 x y z W C X wd pf pv)::L))) (by kernel_rfl) (by kernel_rfl) hE.drew (fun hT=>?_);have hT9:=zH hT;clear hT
 repeat ((first
  | (refine text_value (v:=?_) hT9.o (by rfl) ?_ ?_; rotate_left; (intro w5 hS; have r:=hS.rule 0 rfl; unfold laneC at r; go_simp<;>rfl))
  | (refine text_off hT9.o (by rfl) ?_)
  | (refine text_call (v:=?_) (f:=?_) (args:=?_) hT9.o (by rfl) ?_ ?_ ?_; rotate_left 3; (intro w5 hS; have r:=hS.rule 0 rfl; unfold laneC at r; go_simp; constructor<;>rfl); (intro w5 hS; (first | fail))));try simp only [Act.put,zA,zZ,zS])
 refine InText.nil fun w5 hS5=>?_;clear hT9;clear hE;go_wp2_with fail;refine (goOn_l 0 _ _ _ (by simp [laneC]) hS5 rfl).mono ?_;rintro o w6 ⟨rfl,hE6⟩;go_wp2_with fail;go_ret;exact ⟨rfl,hE6⟩
theorem keyFound_l (hk:wd=key) (hE:Env w0 (boxI a (laneC c lv key false nx 0 x y z W C X wd pf pv)::L) w) :
  Calls prog 316 #[.pointer (some ⟨a,0,none⟩)] w fun o w'=>o=.returned (.int .i64 1)/\∃ nx,Env w0 (boxI a (laneC c lv key false nx 1 x y z W C X wd true pv)::L) w':=by
 have hmf:=makeF;subst hk;have hlt:decide (wd < wd)=false:=by simp
 have heq:(wd==wd)=true:=by simp
 go_enter func316,ntmps316;go_wp2_with fail;refine wp_text (S:=(Env w0 (boxI a (laneC c lv wd false nx 0 x y z W C X wd pf pv)::L))) (by kernel_rfl) (by kernel_rfl) hE.drew (fun hT=>?_);have hT9:=zH hT;clear hT
 repeat ((first
  | (refine text_value (v:=?_) hT9.o (by rfl) ?_ ?_; rotate_left; (intro w5 hS; have r:=hS.rule 0 rfl; unfold laneC at r; go_simp<;>rfl))
  | (refine text_off hT9.o (by rfl) ?_)
  | (refine text_call (v:=?_) (f:=?_) (args:=?_) hT9.o (by rfl) ?_ ?_ ?_; rotate_left 3; (intro w5 hS; have r:=hS.rule 0 rfl; unfold laneC at r; go_simp; constructor<;>rfl); (intro w5 hS; (first | fail))));try simp only [Act.put,zA,zZ,zS])
 refine InText.nil fun w5 hS5=>?_;clear hT9;clear hE;go_wp2_with fail;have hE:=hS5;clear hS5;refine wp_text (S:=(Env w0 (boxI a (laneC c lv wd false nx 0 x y z W C X wd pf pv)::L))) (by kernel_rfl) (by kernel_rfl) hE.drew (fun hT=>?_);have hT9:=zH hT;clear hT
 repeat ((first
  | (refine text_value (v:=?_) hT9.o (by rfl) ?_ ?_; rotate_left; (intro w5 hS; have r:=hS.rule 0 rfl; unfold laneC at r; go_simp<;>rfl))
  | (refine text_off hT9.o (by rfl) ?_)
  | (refine text_call (v:=?_) (f:=?_) (args:=?_) hT9.o (by rfl) ?_ ?_ ?_; rotate_left 3; (intro w5 hS; have r:=hS.rule 0 rfl; unfold laneC at r; go_simp; constructor<;>rfl); (intro w5 hS; (first | fail))));try simp only [Act.put,zA,zZ,zS])
 refine InText.nil fun w5 hS5=>?_;clear hT9;clear hE;go_wp2_with fail;have hE:=hS5;clear hS5;refine Ord.wc [12] (fun u=>∃ n8,Blk 0 u a (laneC c lv wd false nx 0 x y z W C X wd n8 pv)) (fun k w'=>Env w0 (boxI a (if k=0 then (laneC c lv wd false nx 0 x y z W C X wd pf pv) else (laneC c lv wd false nx 0 x y z W C X wd true pv))::L) w') ⟨pf,hE.drew.get 0 rfl⟩ hE.drew fun hT9=>?_
 repeat ((first
  | (refine Ord.cv ?_ hT9.o ?_ ?_; rotate_left; (intro w5 hS; obtain ⟨n9,hS1⟩:=hS; have r:=hS1.rule; unfold laneC at r; go_simp<;>rfl))
  | (refine Ord.co hT9.o ?_));try simp only [Act.put,zA,zZ,zS])
 refine Ord.ch_turn (v:=undef) 0 hT9.o rfl (by decide) (Or.inl rfl) (by rfl) ?_ ?_
 ·rintro w5 hC5 hA5;simp only [if_true] at hA5;have r:=hA5.rule 0 rfl;unfold laneC at r;have g0:=hA5.thaw 0 rfl 19 (by simp [laneC]);go_simp;have h9:=hA5.put 0 rfl (j:=19) (by simp [laneC]) (.bool true);replace h9:Env w0 (boxI a (laneC c lv wd false nx 0 x y z W C X wd true pv)::L) _:=h9
  first | exact ⟨rfl,.inl (h9.get 0 rfl),h9⟩ | exact ⟨rfl,.inr (h9.get 0 rfl),h9⟩
 try simp only [Act.put,zA,zZ,zS]
 repeat ((first
  | (refine Ord.cv ?_ hT9.o ?_ ?_; rotate_left; (intro w5 hS; skip; go_simp<;>rfl))
  | (refine Ord.co hT9.o ?_));try simp only [Act.put,zA,zZ,zS])
 refine Ord.InText.nil fun w5 hS=>?_;clear hT9;obtain ⟨hC9,hA9⟩:=Ord.chain_end hS;clear hS;replace hA9:Env w0 (boxI a (laneC c lv wd false nx 0 x y z W C X wd true pv)::L) w5:=hA9;clear hE hC9;go_wp2_with fail;refine (end_l 0 1 (by simp [laneC]) hA9 rfl).mono ?_;rintro o w6 ⟨rfl,nx,hE6⟩;go_wp2_with fail;go_ret;exact ⟨rfl,nx,hE6⟩
theorem keyMore_l (hk:key < wd) (hE:Env w0 (boxI a (laneC c lv key vs nx 0 x y z W C X wd pf pv)::L) w) :
  Calls prog 316 #[.pointer (some ⟨a,0,none⟩)] w fun o w'=>o=.returned (.int .i64 1)/\∃ nx,Env w0 (boxI a (laneC c lv key vs nx 1 x y z W C X wd false pv)::L) w':=by
 have hmf:=makeF;have hlt:decide (wd < key)=false:=by simp; omega
 have heq:(wd==key)=false:=by simp; omega
 clear hk;go_enter func316,ntmps316;go_wp2_with fail;refine wp_text (S:=(Env w0 (boxI a (laneC c lv key vs nx 0 x y z W C X wd pf pv)::L))) (by kernel_rfl) (by kernel_rfl) hE.drew (fun hT=>?_);have hT9:=zH hT;clear hT
 repeat ((first
  | (refine text_value (v:=?_) hT9.o (by rfl) ?_ ?_; rotate_left; (intro w5 hS; have r:=hS.rule 0 rfl; unfold laneC at r; go_simp<;>rfl))
  | (refine text_off hT9.o (by rfl) ?_)
  | (refine text_call (v:=?_) (f:=?_) (args:=?_) hT9.o (by rfl) ?_ ?_ ?_; rotate_left 3; (intro w5 hS; have r:=hS.rule 0 rfl; unfold laneC at r; go_simp; constructor<;>rfl); (intro w5 hS; (first | fail))));try simp only [Act.put,zA,zZ,zS])
 refine InText.nil fun w5 hS5=>?_;clear hT9;clear hE;go_wp2_with fail;have hE:=hS5;clear hS5;refine wp_text (S:=(Env w0 (boxI a (laneC c lv key vs nx 0 x y z W C X wd pf pv)::L))) (by kernel_rfl) (by kernel_rfl) hE.drew (fun hT=>?_);have hT9:=zH hT;clear hT
 repeat ((first
  | (refine text_value (v:=?_) hT9.o (by rfl) ?_ ?_; rotate_left; (intro w5 hS; have r:=hS.rule 0 rfl; unfold laneC at r; go_simp<;>rfl))
  | (refine text_off hT9.o (by rfl) ?_)
  | (refine text_call (v:=?_) (f:=?_) (args:=?_) hT9.o (by rfl) ?_ ?_ ?_; rotate_left 3; (intro w5 hS; have r:=hS.rule 0 rfl; unfold laneC at r; go_simp; constructor<;>rfl); (intro w5 hS; (first | fail))));try simp only [Act.put,zA,zZ,zS])
 refine InText.nil fun w5 hS5=>?_;clear hT9;clear hE;go_wp2_with fail;have hE:=hS5;clear hS5;refine Ord.wc [12] (fun u=>∃ n8,Blk 0 u a (laneC c lv key vs nx 0 x y z W C X wd n8 pv)) (fun k w'=>Env w0 (boxI a (if k=0 then (laneC c lv key vs nx 0 x y z W C X wd pf pv) else (laneC c lv key vs nx 0 x y z W C X wd false pv))::L) w') ⟨pf,hE.drew.get 0 rfl⟩ hE.drew fun hT9=>?_
 repeat ((first
  | (refine Ord.cv ?_ hT9.o ?_ ?_; rotate_left; (intro w5 hS; obtain ⟨n9,hS1⟩:=hS; have r:=hS1.rule; unfold laneC at r; go_simp<;>rfl))
  | (refine Ord.co hT9.o ?_));try simp only [Act.put,zA,zZ,zS])
 refine Ord.ch_turn (v:=undef) 0 hT9.o rfl (by decide) (Or.inl rfl) (by rfl) ?_ ?_
 ·rintro w5 hC5 hA5;simp only [if_true] at hA5;have r:=hA5.rule 0 rfl;unfold laneC at r;have g0:=hA5.thaw 0 rfl 19 (by simp [laneC]);go_simp;have h9:=hA5.put 0 rfl (j:=19) (by simp [laneC]) (.bool false);replace h9:Env w0 (boxI a (laneC c lv key vs nx 0 x y z W C X wd false pv)::L) _:=h9
  first | exact ⟨rfl,.inl (h9.get 0 rfl),h9⟩ | exact ⟨rfl,.inr (h9.get 0 rfl),h9⟩
 try simp only [Act.put,zA,zZ,zS]
 repeat ((first
  | (refine Ord.cv ?_ hT9.o ?_ ?_; rotate_left; (intro w5 hS; skip; go_simp<;>rfl))
  | (refine Ord.co hT9.o ?_));try simp only [Act.put,zA,zZ,zS])
 refine Ord.InText.nil fun w5 hS=>?_;clear hT9;obtain ⟨hC9,hA9⟩:=Ord.chain_end hS;clear hS;replace hA9:Env w0 (boxI a (laneC c lv key vs nx 0 x y z W C X wd false pv)::L) w5:=hA9;clear hE hC9;go_wp2_with fail;refine (end_l 0 1 (by simp [laneC]) hA9 rfl).mono ?_;rintro o w6 ⟨rfl,nx,hE6⟩;go_wp2_with fail;go_ret;exact ⟨rfl,nx,hE6⟩
end
section
variable {w0 w:World} {R:List Item} {a:Nat} {S:ST} {lv key:Int} {vs:Bool} {nx:Value} {x y z W C X wd:Int} {pf:Bool} {pv:Int}
theorem cutNo_l (heq:S.f (x,y,z)≠W) (hwf:Wf (x,y,z)) (hX:InU X) (hg:Glo w0) (hm:S.m < maxLen) (hE:Env w0 (boxI a (laneC S.c lv key vs nx 0 x y z W C X wd pf pv)::LT S R) w) :
  Calls prog 311 #[.pointer (some ⟨a,0,none⟩),.iface 28 (.pointer (some ⟨S.p,0,none⟩))] w fun o w'=>o=.returned (.int .i64 2)/\∃ nx G',Env w0 (boxI a (laneC S.c lv key vs nx 2 x y z W C X wd pf pv)::LT { S with G:=G',f:=swf S.f (x,y,z) W (wordI false (slotI X) S.ce),qc:=swq S.qc false,m:=S.m+1 } R) w':=by
 have hmf:=makeF;have hah:=ahead_swap;have HD:Hid (decide (S.f (x,y,z)=W)=false):=zH (by simpa using heq);have HG:=zH hg;have HWF:=zH hwf;have HLE:=zH fun (v:World) (hv:Below w0.heap.size w0 v)=>lead_c X 0 false v hX (hg.keep' hv);have hqi:InU (wordI false (slotI X) S.ce):=wordI_in _ _ _;have hto:=fun (v:World) (hv:Below w0.heap.size w0 v) (hb:Blk 0 v S.c (crv S.ck S.cs S.cb S.ch S.cl S.ce S.cr S.hs 0 S.q))=>to_c (slotI X) 0 (hg.keep' hv) hb;obtain ⟨s,hs⟩:∃ s,slotI X=s:=⟨_,rfl⟩;rw [hs] at hqi ⊢;simp only [hs] at HLE hto;clear hs;obtain ⟨q,hq⟩:∃ q,wordI false s S.ce=q:=⟨_,rfl⟩;rw [hq] at hqi ⊢;simp only [hq] at hto;have HQI:=zH hqi;have HTO:=zH hto;clear hq hqi hto heq hwf hX hg;go_enter func311,ntmps311;go_wp2_with fail;refine OrdF.wp_float [?_,?_,?_,?_,?_,?_,?_,?_,?_,?_,OrdF.Ptr,?_] [11] 10 (fun v=>Below w0.heap.size w0 v/\Blk 0 v a (laneC S.c lv key vs nx 0 x y z W C X wd pf pv)/\Blk 0 v S.c (crv S.ck S.cs S.cb S.ch S.cl S.ce S.cr S.hs 0 S.q)) (OrdF.AF w0 [.int .u64 0,.int .i64 0,.bool false] (OrdF.Sta [fun N zs=>N=boxI a (laneC S.c lv key vs nx 0 x y z W C X wd pf pv)::LT S R/\zs=[.int .u64 0,.int .i64 0,.bool false],fun N zs=>N=boxI a (laneC S.c lv key vs nx 0 x y z W C X wd pf pv)::LT S R/\zs=[.int .u64 q,.int .i64 0,.bool false]])) (by kernel_rfl) (by kernel_rfl) (by kernel_rfl) ⟨hE.drew.below,hE.drew.get 0 rfl,hE.drew.get 1 rfl⟩ ⟨_,_,⟨_,rfl,rfl,rfl⟩,.inl ⟨rfl,rfl,hE.drew⟩⟩ (fun hT=>?_);rotate_left 11;have hT9:=zH hT;clear hT
 repeat ((first
  | (focus (refine OrdF.in_value (v:=?_) hT9.o (by decide) (by decide) ?_ (by rfl) ?_ ?_; rotate_left 2; (intro w5 hS; have r:=hS.2.1.rule; unfold laneC at r; go_simp<;>rfl); rotate_right; (focus rfl)))
  | (focus (refine OrdF.in_off hT9.o (by decide) (by decide) ?_ (by rfl) ?_; (focus rfl))));try simp only [Act.put,zA,zZ,zS])
 focus (refine OrdF.in_call (v:=.agg #[.int .i64 s,.int .i64 0]) (f:=?_) (args:=?_) hT9.o (by decide) (by decide) ?_ (by rfl) ?_ ?_ ?_; rotate_left 2; (focus rfl); (intro w5 hS; skip; go_simp; constructor<;>rfl); (intro w5 hS; refine (HLE.out _ hS.1).mono ?_; rintro e w6 ⟨rfl,hb6⟩; exact ⟨rfl,⟨hS.1.trans (hb6.mono hS.1.size),hS.2.1.under hb6,hS.2.2.under hb6⟩,fun _ _ h=>AF_over h hb6⟩); (try simp only [Act.put,zA,zZ,zS]))
 focus (refine OrdF.in_call (v:=.agg #[.int .u64 q,.int .i64 0,.bool false]) (f:=?_) (args:=?_) hT9.o (by decide) (by decide) ?_ (by rfl) ?_ ?_ ?_; rotate_left 2; (focus rfl); (intro w5 hS; skip; go_simp; constructor<;>rfl); (intro w5 hS; refine (HTO.out _ hS.1 hS.2.2).mono ?_; rintro e w6 ⟨rfl,hb6⟩; exact ⟨rfl,⟨hS.1.trans (hb6.mono hS.1.size),hS.2.1.under hb6,hS.2.2.under hb6⟩,fun _ _ h=>AF_over h hb6⟩); (try simp only [Act.put,zA,zZ,zS]))
 refine OrdF.in_float OrdF.Ptr (.pointer (some ⟨0,0,none⟩)) ⟨0,rfl⟩ hT9.o rfl (by decide) ?_ (by rfl) ?_ ?_
 ·rfl
 ·intro w5 κs5 hC5 hA5;go_simp;simp only [Ord3.Lands];exact ⟨⟨_,rfl⟩,⟨hC5.1.alloc hC5.1.size _,hC5.2.1.more _,hC5.2.2.more _⟩,hA5.up _⟩
 rintro _ ⟨V,rfl⟩
 try simp only [Act.put,zA,zZ,zS]
 refine OrdF.in_turn_late (by kernel_rfl) (by decide) (by decide) (fun u=>u=undef) (undef) rfl hT9.o rfl (by decide) (by rfl) ?_ (.inl rfl) (by rfl) ?_ ?_
 ·rfl
 ·rintro w5 hC5 ⟨M5,z5,⟨P5,hP5,hM5⟩,⟨hn5,_⟩ | ⟨n5,hn5,hE5⟩⟩
  ·cases hn5
  cases hn5;cases hP5;obtain ⟨rfl,rfl⟩:=hM5;have r:=hE5.rule 0 rfl; have ff:=hE5.thaw 0 rfl; have f0:=ff 0 (by simp); have f1:=ff 1 (by simp); have f2:=ff 2 (by simp); clear ff;go_simp;have hE6:=hE5.put3 0 rfl (.int .u64 q) (.int .i64 0) (.bool false); exact ⟨rfl,⟨hE6.below,hE6.get 1 rfl,hE6.get 2 rfl⟩,_,_,⟨_,rfl,rfl,rfl⟩,.inr ⟨_,rfl,hE6⟩⟩
 rintro _ rfl
 try simp only [Act.put,zA,zZ,zS]
 refine OrdF.in_nil rfl (by decide) (by decide) ?_;rintro w5 hC5 ⟨M5,z5,⟨P5,hP5,hM5⟩,⟨hn5,_⟩ | ⟨n5,hn5,hE5⟩⟩
 ·cases hn5
 cases hn5;cases hP5;obtain ⟨rfl,rfl⟩:=hM5;clear hT9;clear HTO HLE hE;go_wp2_with fail;refine Ord.wc [13] (fun v=>Blk 0 v a (laneC S.c lv key vs nx 0 x y z W C X wd pf pv)/\Blk 0 v V [.int .u64 q,.int .i64 0,.bool false]) (fun k w'=>∃ G5,Env w0 (boxI V [.int .u64 q,.int .i64 0,.bool false]::boxI a (laneC S.c lv key vs nx 0 x y z W C X wd pf pv)::LT (if k=0 then S else { S with G:=G5,f:=swf S.f (x,y,z) W q,qc:=swq S.qc false,m:=S.m+1 }) R) w') ⟨hE5.drew.get 1 rfl,hE5.drew.get 0 rfl⟩ ⟨S.G,hE5.drew⟩ fun hT9=>?_
 repeat ((first
  | (refine Ord.cv ?_ hT9.o ?_ ?_; rotate_left; (intro w5 hS; have r:=hS.1.rule; have r1:=hS.2.rule; unfold laneC at r; go_simp<;>rfl))
  | (refine Ord.co hT9.o ?_));try simp only [Act.put,zA,zZ,zS])
 refine Ord.ch_turn (v:=.bool false) 0 hT9.o rfl (by decide) (Or.inl rfl) (by rfl) ?_ ?_
 ·rintro w5 hC5 ⟨G5,hA5⟩;simp only [if_true] at hA5;go_simp;rw [method_swap];simp only [Result.andThen_ok];go_simp;simp only [Ord.LandsIn];have hsw:=swap_w x y z 0 W 0 q 0 false false HWF.out HQI.out hm 4 5 (by decide) hA5 rfl rfl;rw [HD.out] at hsw;refine hsw.mono ?_;rintro e w6 ⟨rfl,G6,hE6⟩;exact ⟨rfl,⟨hE6.get 1 rfl,hE6.get 0 rfl⟩,G6,hE6⟩
 try simp only [Act.put,zA,zZ,zS]
 repeat ((first
  | (refine Ord.cv ?_ hT9.o ?_ ?_; rotate_left; (intro w5 hS; skip; go_simp<;>rfl))
  | (refine Ord.co hT9.o ?_));try simp only [Act.put,zA,zZ,zS])
 refine Ord.InText.nil fun w5 hS=>?_;clear hT9;obtain ⟨hC9,hA9⟩:=Ord.chain_end hS;clear hS;obtain ⟨G9,hA9⟩:=hA9;clear hC9 hE5;simp only [List.length_cons,List.length_nil,Nat.zero_add,Nat.one_ne_zero,if_false] at hA9;go_wp2_with fail;refine (end_l 1 2 (by simp [laneC]) hA9 rfl).mono ?_;rintro o w7 ⟨rfl,nx,hE7⟩;go_wp2_with fail;go_ret;exact ⟨rfl,nx,G9,hE7.sub (.cons _ (List.Sublist.refl _))⟩
theorem cutYes_l (heq:S.f (x,y,z)=W) (hwf:Wf (x,y,z)) (hX:InU X) (hg:Glo w0) (hm:S.m < maxLen) (hE:Env w0 (boxI a (laneC S.c lv key vs nx 0 x y z W C X wd pf pv)::LT S R) w) :
  Calls prog 311 #[.pointer (some ⟨a,0,none⟩),.iface 28 (.pointer (some ⟨S.p,0,none⟩))] w fun o w'=>o=.returned (.int .i64 (cS (wordI false (slotI X) S.ce)))/\∃ nx G',(slotI (wordI false (slotI X) S.ce)≠0->nx=mvL 301 a)/\Env w0 (boxI a (laneC S.c lv key vs nx (cS (wordI false (slotI X) S.ce)) x y z (wordI false (slotI X) S.ce) (slotI (wordI false (slotI X) S.ce)) 0 wd pf pv)::LT { S with G:=G',f:=swf S.f (x,y,z) W (wordI false (slotI X) S.ce),qc:=swq S.qc true,m:=S.m+1 } R) w':=by
 have hmf:=makeF;have hah:=ahead_swap;have HD:Hid (decide (S.f (x,y,z)=W)=true):=zH (by simpa using heq);have HG:=zH hg;have HWF:=zH hwf;have HLE:=zH fun (v:World) (hv:Below w0.heap.size w0 v)=>lead_c X 0 false v hX (hg.keep' hv);have hqi:InU (wordI false (slotI X) S.ce):=wordI_in _ _ _;have hto:=fun (v:World) (hv:Below w0.heap.size w0 v) (hb:Blk 0 v S.c (crv S.ck S.cs S.cb S.ch S.cl S.ce S.cr S.hs 0 S.q))=>to_c (slotI X) 0 (hg.keep' hv) hb;obtain ⟨s,hs⟩:∃ s,slotI X=s:=⟨_,rfl⟩;rw [hs] at hqi ⊢;simp only [hs] at HLE hto;clear hs;obtain ⟨q,hq⟩:∃ q,wordI false s S.ce=q:=⟨_,rfl⟩;rw [hq] at hqi ⊢;simp only [hq] at hto;have HQI:=zH hqi;have HTO:=zH hto;clear hq hqi hto heq hwf hX hg;go_enter func311,ntmps311;go_wp2_with fail;refine OrdF.wp_float [?_,?_,?_,?_,?_,?_,?_,?_,?_,?_,OrdF.Ptr,?_] [11] 10 (fun v=>Below w0.heap.size w0 v/\Blk 0 v a (laneC S.c lv key vs nx 0 x y z W C X wd pf pv)/\Blk 0 v S.c (crv S.ck S.cs S.cb S.ch S.cl S.ce S.cr S.hs 0 S.q)) (OrdF.AF w0 [.int .u64 0,.int .i64 0,.bool false] (OrdF.Sta [fun N zs=>N=boxI a (laneC S.c lv key vs nx 0 x y z W C X wd pf pv)::LT S R/\zs=[.int .u64 0,.int .i64 0,.bool false],fun N zs=>N=boxI a (laneC S.c lv key vs nx 0 x y z W C X wd pf pv)::LT S R/\zs=[.int .u64 q,.int .i64 0,.bool false]])) (by kernel_rfl) (by kernel_rfl) (by kernel_rfl) ⟨hE.drew.below,hE.drew.get 0 rfl,hE.drew.get 1 rfl⟩ ⟨_,_,⟨_,rfl,rfl,rfl⟩,.inl ⟨rfl,rfl,hE.drew⟩⟩ (fun hT=>?_);rotate_left 11;have hT9:=zH hT;clear hT
 repeat ((first
  | (focus (refine OrdF.in_value (v:=?_) hT9.o (by decide) (by decide) ?_ (by rfl) ?_ ?_; rotate_left 2; (intro w5 hS; have r:=hS.2.1.rule; unfold laneC at r; go_simp<;>rfl); rotate_right; (focus rfl)))
  | (focus (refine OrdF.in_off hT9.o (by decide) (by decide) ?_ (by rfl) ?_; (focus rfl))));try simp only [Act.put,zA,zZ,zS])
 focus (refine OrdF.in_call (v:=.agg #[.int .i64 s,.int .i64 0]) (f:=?_) (args:=?_) hT9.o (by decide) (by decide) ?_ (by rfl) ?_ ?_ ?_; rotate_left 2; (focus rfl); (intro w5 hS; skip; go_simp; constructor<;>rfl); (intro w5 hS; refine (HLE.out _ hS.1).mono ?_; rintro e w6 ⟨rfl,hb6⟩; exact ⟨rfl,⟨hS.1.trans (hb6.mono hS.1.size),hS.2.1.under hb6,hS.2.2.under hb6⟩,fun _ _ h=>AF_over h hb6⟩); (try simp only [Act.put,zA,zZ,zS]))
 focus (refine OrdF.in_call (v:=.agg #[.int .u64 q,.int .i64 0,.bool false]) (f:=?_) (args:=?_) hT9.o (by decide) (by decide) ?_ (by rfl) ?_ ?_ ?_; rotate_left 2; (focus rfl); (intro w5 hS; skip; go_simp; constructor<;>rfl); (intro w5 hS; refine (HTO.out _ hS.1 hS.2.2).mono ?_; rintro e w6 ⟨rfl,hb6⟩; exact ⟨rfl,⟨hS.1.trans (hb6.mono hS.1.size),hS.2.1.under hb6,hS.2.2.under hb6⟩,fun _ _ h=>AF_over h hb6⟩); (try simp only [Act.put,zA,zZ,zS]))
 refine OrdF.in_float OrdF.Ptr (.pointer (some ⟨0,0,none⟩)) ⟨0,rfl⟩ hT9.o rfl (by decide) ?_ (by rfl) ?_ ?_
 ·rfl
 ·intro w5 κs5 hC5 hA5;go_simp;simp only [Ord3.Lands];exact ⟨⟨_,rfl⟩,⟨hC5.1.alloc hC5.1.size _,hC5.2.1.more _,hC5.2.2.more _⟩,hA5.up _⟩
 rintro _ ⟨V,rfl⟩
 try simp only [Act.put,zA,zZ,zS]
 refine OrdF.in_turn_late (by kernel_rfl) (by decide) (by decide) (fun u=>u=undef) (undef) rfl hT9.o rfl (by decide) (by rfl) ?_ (.inl rfl) (by rfl) ?_ ?_
 ·rfl
 ·rintro w5 hC5 ⟨M5,z5,⟨P5,hP5,hM5⟩,⟨hn5,_⟩ | ⟨n5,hn5,hE5⟩⟩
  ·cases hn5
  cases hn5;cases hP5;obtain ⟨rfl,rfl⟩:=hM5;have r:=hE5.rule 0 rfl; have ff:=hE5.thaw 0 rfl; have f0:=ff 0 (by simp); have f1:=ff 1 (by simp); have f2:=ff 2 (by simp); clear ff;go_simp;have hE6:=hE5.put3 0 rfl (.int .u64 q) (.int .i64 0) (.bool false); exact ⟨rfl,⟨hE6.below,hE6.get 1 rfl,hE6.get 2 rfl⟩,_,_,⟨_,rfl,rfl,rfl⟩,.inr ⟨_,rfl,hE6⟩⟩
 rintro _ rfl
 try simp only [Act.put,zA,zZ,zS]
 refine OrdF.in_nil rfl (by decide) (by decide) ?_;rintro w5 hC5 ⟨M5,z5,⟨P5,hP5,hM5⟩,⟨hn5,_⟩ | ⟨n5,hn5,hE5⟩⟩
 ·cases hn5
 cases hn5;cases hP5;obtain ⟨rfl,rfl⟩:=hM5;clear hT9;clear HTO HLE hE;go_wp2_with fail;refine Ord.wc [13] (fun v=>Blk 0 v a (laneC S.c lv key vs nx 0 x y z W C X wd pf pv)/\Blk 0 v V [.int .u64 q,.int .i64 0,.bool false]) (fun k w'=>∃ G5,Env w0 (boxI V [.int .u64 q,.int .i64 0,.bool false]::boxI a (laneC S.c lv key vs nx 0 x y z W C X wd pf pv)::LT (if k=0 then S else { S with G:=G5,f:=swf S.f (x,y,z) W q,qc:=swq S.qc true,m:=S.m+1 }) R) w') ⟨hE5.drew.get 1 rfl,hE5.drew.get 0 rfl⟩ ⟨S.G,hE5.drew⟩ fun hT9=>?_
 repeat ((first
  | (refine Ord.cv ?_ hT9.o ?_ ?_; rotate_left; (intro w5 hS; have r:=hS.1.rule; have r1:=hS.2.rule; unfold laneC at r; go_simp<;>rfl))
  | (refine Ord.co hT9.o ?_));try simp only [Act.put,zA,zZ,zS])
 refine Ord.ch_turn (v:=.bool true) 0 hT9.o rfl (by decide) (Or.inl rfl) (by rfl) ?_ ?_
 ·rintro w5 hC5 ⟨G5,hA5⟩;simp only [if_true] at hA5;go_simp;rw [method_swap];simp only [Result.andThen_ok];go_simp;simp only [Ord.LandsIn];have hsw:=swap_w x y z 0 W 0 q 0 false false HWF.out HQI.out hm 4 5 (by decide) hA5 rfl rfl;rw [HD.out] at hsw;refine hsw.mono ?_;rintro e w6 ⟨rfl,G6,hE6⟩;exact ⟨rfl,⟨hE6.get 1 rfl,hE6.get 0 rfl⟩,G6,hE6⟩
 try simp only [Act.put,zA,zZ,zS]
 repeat ((first
  | (refine Ord.cv ?_ hT9.o ?_ ?_; rotate_left; (intro w5 hS; skip; go_simp<;>rfl))
  | (refine Ord.co hT9.o ?_));try simp only [Act.put,zA,zZ,zS])
 refine Ord.InText.nil fun w5 hS=>?_;clear hT9;obtain ⟨hC9,hA9⟩:=Ord.chain_end hS;clear hS;obtain ⟨G9,hA9⟩:=hA9;clear hC9 hE5;simp only [List.length_cons,List.length_nil,Nat.zero_add,Nat.one_ne_zero,if_false] at hA9;have rV:=hA9.rule 0 rfl;go_wp2_with fail;refine (come_l q HQI.out HG.out (hA9.sub (.cons _ (List.Sublist.refl _)))).mono ?_;rintro o w7 ⟨rfl,nx,hnx,hE7⟩;go_wp2_with fail;go_ret;exact ⟨rfl,nx,G9,hnx,hE7⟩
end
section
variable {w0 w:World} {R:List Item} {a b1 b2:Nat} {S:ST} {lv key:Int} {vs:Bool} {nx:Value} {x y z W C X wd:Int} {pf:Bool} {pv:Int}
theorem val1No_l (T:Value) (hok:okB (S.f (1,0,0)) S.ce=false) (hE:Env w0 (boxI a (laneC S.c lv key vs nx 0 x y z W C X wd pf pv)::boxI b1 [.pointer (some ⟨a,0,none⟩)]::boxI b2 [T]::LT S R) w) :
  Calls prog 288 #[.iface 28 (.pointer (some ⟨S.p,0,none⟩)),.pointer (some ⟨b1,0,none⟩),.pointer (some ⟨b2,0,none⟩)] w fun o w'=>o=.returned (.int .i64 2)/\∃ nx,Env w0 (boxI a (laneC S.c lv key vs nx 2 x y z W C X wd pf pv)::boxI b1 [.pointer (some ⟨a,0,none⟩)]::boxI b2 [T]::LT { S with qc:={ S.qc with l:=wrap64 (S.qc.l+1) },cr:=wrap64 (S.cr+1) } R) w':=by
 have hv:=valid_w _ (rfl:S.f (1,0,0)=S.f (1,0,0)) 3 5 6 (by decide) (by decide) hE rfl rfl rfl;rw [hok] at hv;simp only [zS,zZ,Bool.false_eq_true,if_false] at hv;have HV:=zH hv;clear hv hok;have r0:=hE.rule 1 rfl;have r:=hE.rule 0 rfl;unfold laneC at r;go_enter func288,ntmps288;go_wp2_with fail;refine HV.out.mono ?_;rintro o w1 ⟨rfl,hE1⟩;replace hE1:Env w0 (boxI a (laneC S.c lv key vs nx 0 x y z W C X wd pf pv)::boxI b1 [.pointer (some ⟨a,0,none⟩)]::boxI b2 [T]::LT { S with qc:={ S.qc with l:=wrap64 (S.qc.l+1) },cr:=wrap64 (S.cr+1) } R) w1:=hE1;clear HV hE r0 r;have r0:=hE1.rule 1 rfl;go_wp2_with fail;refine (end_l 0 2 (by simp [laneC]) hE1 rfl).mono ?_;rintro o w6 ⟨rfl,nx,hE6⟩;go_wp2_with fail;go_ret;exact ⟨rfl,nx,hE6⟩
theorem val1Yes_l (F:Nat) (hx:∀ (ar:Array Value) (v:World),(callFunc F ar).run prog v=.ok (.enter F ar) v) (hok:okB (S.f (1,0,0)) S.ce=true) (hE:Env w0 (boxI a (laneC S.c lv key vs nx 0 x y z W C X wd pf pv)::boxI b1 [.pointer (some ⟨a,0,none⟩)]::boxI b2 [mvL F a]::LT S R) w) (s:Int) (Y:World->Prop)
  (hc:∀ v,Env w0 (boxI a (laneC S.c lv key vs nx 0 x y z W C X wd pf pv)::boxI b1 [.pointer (some ⟨a,0,none⟩)]::boxI b2 [mvL F a]::LT { S with qc:={ S.qc with l:=wrap64 (S.qc.l+1) } } R) v->Calls prog F #[.pointer (some ⟨a,0,none⟩)] v fun o w'=>o=.returned (.int .i64 s)/\Y w') :
  Calls prog 288 #[.iface 28 (.pointer (some ⟨S.p,0,none⟩)),.pointer (some ⟨b1,0,none⟩),.pointer (some ⟨b2,0,none⟩)] w fun o w'=>o=.returned (.int .i64 s)/\Y w':=by
 have hv:=valid_w _ (rfl:S.f (1,0,0)=S.f (1,0,0)) 3 5 6 (by decide) (by decide) hE rfl rfl rfl;rw [hok] at hv;simp only [zS,zZ,if_true] at hv;have HV:=zH hv;have HC:=zH hc;clear hv hok hc;have r0:=hE.rule 1 rfl;have r:=hE.rule 0 rfl;unfold laneC at r;go_enter func288,ntmps288;go_wp2_with fail;refine HV.out.mono ?_;rintro o w1 ⟨rfl,hE1⟩;replace hE1:Env w0 (boxI a (laneC S.c lv key vs nx 0 x y z W C X wd pf pv)::boxI b1 [.pointer (some ⟨a,0,none⟩)]::boxI b2 [mvL F a]::LT { S with qc:={ S.qc with l:=wrap64 (S.qc.l+1) } } R) w1:=hE1;clear HV hE r0 r;have r0:=hE1.rule 2 rfl;unfold mvL at r0;go_wp2_with fail;refine (HC.out _ hE1).mono ?_;rintro o w6 ⟨rfl,hY⟩;go_wp2_with fail;go_ret;exact ⟨rfl,hY⟩
end
def laneV (c:Nat) (lv key:Int) (vs:Bool) (nx:Value) (st wd:Int) (pf:Bool) (pv:Int) (L:Lm):List Value:=laneC c lv key vs nx st L.p.1 L.p.2.1 L.p.2.2 L.W L.C L.X wd pf pv
def fnL (pc:Nat):Nat:=if pc=0 then 234 else if pc=3 then 301 else if pc=5 then 311 else if pc=6 then 312 else 317
def bhL (pc:Nat):Nat:=if pc=2 then 265 else if pc=4 then 308 else if pc=7 then 316 else 318
theorem enters_fnL (pc:Nat) (ar:Array Value) (v:World):(callFunc (fnL pc) ar).run prog v=.ok (.enter (fnL pc) ar) v:=by
 unfold fnL
 repeat' split
 all_goals kernel_rfl
theorem enters_bhL (pc:Nat) (ar:Array Value) (v:World):(callFunc (bhL pc) ar).run prog v=.ok (.enter (bhL pc) ar) v:=by
 unfold bhL
 repeat' split
 all_goals kernel_rfl
def NxOk (a pc:Nat) (nx:Value) (B1 B2:Item):Prop:=(isVal pc=false->nx=mvL (fnL pc) a)/\(isVal pc=true->∃ b1 b2,nx=cvL b1 b2/\B1=boxI b1 [.pointer (some ⟨a,0,none⟩)]/\B2=boxI b2 [mvL (bhL pc) a])
def pfS (s:Int) (L:Lm):Bool:=if s=1 then L.fd else false
def pvS (s:Int) (L:Lm):Int:=if s=1 then L.V else 0
def LaneR (w0:World) (R:List Item) (a:Nat) (lv key:Int) (vs:Bool) (S:ST) (s:Int) (L:Lm) (w:World):Prop :=
 ∃ nx wd B1 B2,(s=0->NxOk a L.pc nx B1 B2/\(L.pc=7->wd=L.K)/\(L.pc=9->wd=L.V))/\Env w0 (boxI a (laneV S.c lv key vs nx s wd (pfS s L) (pvS s L) L)::B1::B2::LT S R) w
def laneQ (L:Lm) (f:Plc->Int) (q:Cnt):Cnt:=if L.pc=5 then swq q (decide (f L.p=L.W)) else { q with l:=wrap64 (q.l+1) }
def laneS (lv key:Int) (vs:Bool) (S:ST) (L:Lm) (G:Nat->Prop):ST:={ S with G:=G,f:=(laneM lv key vs S.ce L S.f).2.2,qc:=laneQ L S.f S.qc,m:=if L.pc=5 then S.m+1 else S.m,cr:=rollM S.ce L S.f S.cr }
theorem wf_part {C n:Int} (h:0<=C/\C<=8388607) (hn:0<=n/\n<=2000000):Wf (5,C,n):=by unfold Wf In64; simp; omega
theorem comeM_cS (L:Lm) (v:Int):comeM L v=(cS v,{ L with W:=v,X:=0,C:=slotI v,pc:=3 }):=rfl
section
variable {w0 w:World} {R:List Item} {a:Nat} {S:ST} {lv key:Int} {vs:Bool} {L:Lm}
theorem LaneR.came {nx:Value} {v wd:Int} {B1 B2:Item} {L':Lm} (hl:L'={ L with W:=v,X:=0,C:=slotI v,pc:=3 }) (hfd:L.fd=false) (hv:L.V=0) (hnx:slotI v≠0->nx=mvL 301 a) (hE:Env w0 (boxI a (laneC S.c lv key vs nx (cS v) L.p.1 L.p.2.1 L.p.2.2 v (slotI v) 0 wd false 0)::B1::B2::LT S R) w):LaneR w0 R a lv key vs S (cS v) L' w:=by
 subst hl;refine ⟨nx,wd,B1,B2,fun hs=>⟨⟨fun _=>hnx ?_,fun h=>absurd h (by simp [isVal])⟩,fun h=>absurd h (by simp),fun h=>absurd h (by simp)⟩,?_⟩
 ·intro h;rw [cS,if_pos h] at hs;exact absurd hs (by decide)
 ·have h1:pfS (cS v) { L with W:=v,X:=0,C:=slotI v,pc:=3 }=false:=by unfold pfS; split; exact hfd; rfl
  have h2:pvS (cS v) { L with W:=v,X:=0,C:=slotI v,pc:=3 }=0:=by unfold pvS; split; exact hv; rfl
  rw [h1,h2];exact hE
end
def noI:Item where
 F:=fun _=>False
 says:=fun _=>True
 loc:=fun _ _ _ _ _=>trivial
section
variable {w0 w:World} {L:List Item} {x:Item}
theorem Env.none1 (h:Env w0 L w):Env w0 (noI::L) w:=h.add noI (Below.refl _ _) trivial fun k hk=>absurd hk (by simp [noI])
theorem Env.none2 (h:Env w0 (x::L) w):Env w0 (x::noI::noI::L) w:=h.none1.none1.perm (List.perm_middle (l₁:=[noI,noI]))
end
section
variable {w0 w:World} {R:List Item} {a:Nat} {S:ST} {lv key:Int} {vs:Bool} {L:Lm}
theorem lane_0 (hpc:L.pc=0) (hL:LmOk L) (hlv:0<=lv/\lv<=1000000) (hwf:Wf L.p) (hg:Glo w0) (hm:S.m < maxLen) (h:LaneR w0 R a lv key vs S 0 L w) :
  Calls prog 206 #[.pointer (some ⟨a,0,none⟩),.iface 28 (.pointer (some ⟨S.p,0,none⟩))] w fun o w'=>o=.returned (.int .i64 (laneM lv key vs S.ce L S.f).1)/\∃ G',LaneR w0 R a lv key vs (laneS lv key vs S L G') (laneM lv key vs S.ce L S.f).1 (laneM lv key vs S.ce L S.f).2.1 w':=by
 obtain ⟨nx,wd,B1,B2,hn,hE⟩:=h;obtain ⟨⟨hnx,-⟩,-,-⟩:=hn rfl;have hnx:=hnx (by rw [hpc]; rfl);rw [hpc] at hnx;have hV:L.V=0:=hL.v (by omega);have hM:laneM lv key vs S.ce L S.f=(0,{ L with W:=S.f L.p,pc:=2 },S.f):=by simp [laneM,hpc]
 have hS:∀ G,laneS lv key vs S L G={ S with G:=G,qc:={ S.qc with l:=wrap64 (S.qc.l+1) } }:=fun G=>by simp [laneS,laneQ,rollM,hM,hpc,isVal]
 rw [hM];have hn4:w.cell? ⟨a,4,none⟩=some (mvL (fnL 0) a):=by rw [hE.rule 0 rfl 4,<- hnx]; rfl
 have hs5:w.cell? ⟨a,5,none⟩=some (.int .i64 0):=hE.rule 0 rfl 5;refine stepMv_l (fnL 0) (enters_fnL 0) _ _ hn4 hs5 ?_;refine (loadInto_l (S.f L.p) rfl hwf (hE.sub (.cons_cons _ (.cons _ (.cons _ (List.Sublist.refl _)))))).mono ?_;rintro o w1 ⟨rfl,b1,b2,hE1⟩;refine ⟨0,rfl,rfl,S.G,?_⟩;rw [hS];exact ⟨cvL b1 b2,wd,_,_,fun _=>⟨⟨fun h=>absurd h (by simp [isVal]),fun _=>⟨b1,b2,rfl,rfl,rfl⟩⟩,fun h=>absurd h (by simp),fun h=>absurd h (by simp)⟩,hE1⟩
theorem lane_3 (hpc:L.pc=3) (hL:LmOk L) (hlv:0<=lv/\lv<=1000000) (hwf:Wf L.p) (hg:Glo w0) (hm:S.m < maxLen) (h:LaneR w0 R a lv key vs S 0 L w) :
  Calls prog 206 #[.pointer (some ⟨a,0,none⟩),.iface 28 (.pointer (some ⟨S.p,0,none⟩))] w fun o w'=>o=.returned (.int .i64 (laneM lv key vs S.ce L S.f).1)/\∃ G',LaneR w0 R a lv key vs (laneS lv key vs S L G') (laneM lv key vs S.ce L S.f).1 (laneM lv key vs S.ce L S.f).2.1 w':=by
 obtain ⟨nx,wd,B1,B2,hn,hE⟩:=h;obtain ⟨⟨hnx,-⟩,-,-⟩:=hn rfl;have hnx:=hnx (by rw [hpc]; rfl);rw [hpc] at hnx;have hV:L.V=0:=hL.v (by omega);have hM:laneM lv key vs S.ce L S.f=(0,{ L with X:=S.f (5,L.C,7+lv),pc:=4 },S.f):=by simp [laneM,hpc]
 have hS:∀ G,laneS lv key vs S L G={ S with G:=G,qc:={ S.qc with l:=wrap64 (S.qc.l+1) } }:=fun G=>by simp [laneS,laneQ,rollM,hM,hpc,isVal]
 rw [hM];have hn4:w.cell? ⟨a,4,none⟩=some (mvL (fnL 3) a):=by rw [hE.rule 0 rfl 4,<- hnx]; rfl
 have hs5:w.cell? ⟨a,5,none⟩=some (.int .i64 0):=hE.rule 0 rfl 5;refine stepMv_l (fnL 3) (enters_fnL 3) _ _ hn4 hs5 ?_;refine (loadOut_l hlv (S.f (5,L.C,7+lv)) rfl (wf_part hL.C (by omega)) (hE.sub (.cons_cons _ (.cons _ (.cons _ (List.Sublist.refl _)))))).mono ?_;rintro o w1 ⟨rfl,b1,b2,hE1⟩;refine ⟨0,rfl,rfl,S.G,?_⟩;rw [hS];exact ⟨cvL b1 b2,wd,_,_,fun _=>⟨⟨fun h=>absurd h (by simp [isVal]),fun _=>⟨b1,b2,rfl,rfl,rfl⟩⟩,fun h=>absurd h (by simp),fun h=>absurd h (by simp)⟩,hE1⟩
theorem lane_6 (hpc:L.pc=6) (hL:LmOk L) (hlv:0<=lv/\lv<=1000000) (hwf:Wf L.p) (hg:Glo w0) (hm:S.m < maxLen) (h:LaneR w0 R a lv key vs S 0 L w) :
  Calls prog 206 #[.pointer (some ⟨a,0,none⟩),.iface 28 (.pointer (some ⟨S.p,0,none⟩))] w fun o w'=>o=.returned (.int .i64 (laneM lv key vs S.ce L S.f).1)/\∃ G',LaneR w0 R a lv key vs (laneS lv key vs S L G') (laneM lv key vs S.ce L S.f).1 (laneM lv key vs S.ce L S.f).2.1 w':=by
 obtain ⟨nx,wd,B1,B2,hn,hE⟩:=h;obtain ⟨⟨hnx,-⟩,-,-⟩:=hn rfl;have hnx:=hnx (by rw [hpc]; rfl);rw [hpc] at hnx;have hV:L.V=0:=hL.v (by omega);have hM:laneM lv key vs S.ce L S.f=(0,{ L with K:=S.f (5,L.C,3),pc:=7 },S.f):=by simp [laneM,hpc]
 have hS:∀ G,laneS lv key vs S L G={ S with G:=G,qc:={ S.qc with l:=wrap64 (S.qc.l+1) } }:=fun G=>by simp [laneS,laneQ,rollM,hM,hpc,isVal]
 rw [hM];have hn4:w.cell? ⟨a,4,none⟩=some (mvL (fnL 6) a):=by rw [hE.rule 0 rfl 4,<- hnx]; rfl
 have hs5:w.cell? ⟨a,5,none⟩=some (.int .i64 0):=hE.rule 0 rfl 5;refine stepMv_l (fnL 6) (enters_fnL 6) _ _ hn4 hs5 ?_;refine (loadKey_l (S.f (5,L.C,3)) rfl (wf_part hL.C (by omega)) (hE.sub (.cons_cons _ (.cons _ (.cons _ (List.Sublist.refl _)))))).mono ?_;rintro o w1 ⟨rfl,b1,b2,hE1⟩;refine ⟨0,rfl,rfl,S.G,?_⟩;rw [hS];exact ⟨cvL b1 b2,S.f (5,L.C,3),_,_,fun _=>⟨⟨fun h=>absurd h (by simp [isVal]),fun _=>⟨b1,b2,rfl,rfl,rfl⟩⟩,fun _=>rfl,fun h=>absurd h (by simp)⟩,hE1⟩
theorem lane_8 (hpc:L.pc=8) (hL:LmOk L) (hlv:0<=lv/\lv<=1000000) (hwf:Wf L.p) (hg:Glo w0) (hm:S.m < maxLen) (h:LaneR w0 R a lv key vs S 0 L w) :
  Calls prog 206 #[.pointer (some ⟨a,0,none⟩),.iface 28 (.pointer (some ⟨S.p,0,none⟩))] w fun o w'=>o=.returned (.int .i64 (laneM lv key vs S.ce L S.f).1)/\∃ G',LaneR w0 R a lv key vs (laneS lv key vs S L G') (laneM lv key vs S.ce L S.f).1 (laneM lv key vs S.ce L S.f).2.1 w':=by
 obtain ⟨nx,wd,B1,B2,hn,hE⟩:=h;obtain ⟨⟨hnx,-⟩,-,-⟩:=hn rfl;have hnx:=hnx (by rw [hpc]; rfl);rw [hpc] at hnx;have hV:L.V=0:=hL.v (by omega);have hM:laneM lv key vs S.ce L S.f=(0,{ L with V:=S.f (5,L.C,4),pc:=9 },S.f):=by simp [laneM,hpc]
 have hS:∀ G,laneS lv key vs S L G={ S with G:=G,qc:={ S.qc with l:=wrap64 (S.qc.l+1) } }:=fun G=>by simp [laneS,laneQ,rollM,hM,hpc,isVal]
 rw [hM];have hn4:w.cell? ⟨a,4,none⟩=some (mvL (fnL 8) a):=by rw [hE.rule 0 rfl 4,<- hnx]; rfl
 have hs5:w.cell? ⟨a,5,none⟩=some (.int .i64 0):=hE.rule 0 rfl 5;refine stepMv_l (fnL 8) (enters_fnL 8) _ _ hn4 hs5 ?_;refine (loadVal_l (S.f (5,L.C,4)) rfl (wf_part hL.C (by omega)) (hE.sub (.cons_cons _ (.cons _ (.cons _ (List.Sublist.refl _)))))).mono ?_;rintro o w1 ⟨rfl,b1,b2,hE1⟩;refine ⟨0,rfl,rfl,S.G,?_⟩;rw [hS];exact ⟨cvL b1 b2,S.f (5,L.C,4),_,_,fun _=>⟨⟨fun h=>absurd h (by simp [isVal]),fun _=>⟨b1,b2,rfl,rfl,rfl⟩⟩,fun h=>absurd h (by simp),fun _=>rfl⟩,hE1⟩
theorem lane_5 (hpc:L.pc=5) (hL:LmOk L) (hlv:0<=lv/\lv<=1000000) (hwf:Wf L.p) (hg:Glo w0) (hm:S.m < maxLen) (h:LaneR w0 R a lv key vs S 0 L w) :
  Calls prog 206 #[.pointer (some ⟨a,0,none⟩),.iface 28 (.pointer (some ⟨S.p,0,none⟩))] w fun o w'=>o=.returned (.int .i64 (laneM lv key vs S.ce L S.f).1)/\∃ G',LaneR w0 R a lv key vs (laneS lv key vs S L G') (laneM lv key vs S.ce L S.f).1 (laneM lv key vs S.ce L S.f).2.1 w':=by
 obtain ⟨nx,wd,B1,B2,hn,hE⟩:=h;obtain ⟨⟨hnx,-⟩,-,-⟩:=hn rfl;have hnx:=hnx (by rw [hpc]; rfl);rw [hpc] at hnx;have hV:L.V=0:=hL.v (by omega);have hfd:L.fd=false:=hL.fd (by omega);have hn4:w.cell? ⟨a,4,none⟩=some (mvL (fnL 5) a):=by rw [hE.rule 0 rfl 4,<- hnx]; rfl
 have hs5:w.cell? ⟨a,5,none⟩=some (.int .i64 0):=hE.rule 0 rfl 5;have hE0:Env w0 (boxI a (laneC S.c lv key vs nx 0 L.p.1 L.p.2.1 L.p.2.2 L.W L.C L.X wd false 0)::LT S R) w:=(hE.sub (.cons_cons _ (.cons _ (.cons _ (List.Sublist.refl _)))))
 by_cases heq:S.f L.p=L.W
 ·have hM:laneM lv key vs S.ce L S.f=(cS (wordI false (slotI L.X) S.ce),{ L with W:=wordI false (slotI L.X) S.ce,X:=0,C:=slotI (wordI false (slotI L.X) S.ce),pc:=3 },swf S.f L.p L.W (wordI false (slotI L.X) S.ce)):=by simp [laneM,hpc,heq,comeM_cS]
  have hS:∀ G,laneS lv key vs S L G={ S with G:=G,f:=swf S.f L.p L.W (wordI false (slotI L.X) S.ce),qc:=swq S.qc true,m:=S.m+1 }:=fun G=>by simp [laneS,laneQ,rollM,hM,hpc,isVal,heq]
  rw [hM];refine stepMv_l (fnL 5) (enters_fnL 5) _ _ hn4 hs5 ?_;refine (cutYes_l heq hwf hL.X hg hm hE0).mono ?_;rintro o w1 ⟨rfl,nx,G',hnx,hE1⟩;refine ⟨_,rfl,rfl,G',?_⟩;rw [hS];exact LaneR.came rfl hfd hV hnx hE1.none2
 ·have hM:laneM lv key vs S.ce L S.f=(2,L,swf S.f L.p L.W (wordI false (slotI L.X) S.ce)):=by simp [laneM,hpc,heq]
  have hS:∀ G,laneS lv key vs S L G={ S with G:=G,f:=swf S.f L.p L.W (wordI false (slotI L.X) S.ce),qc:=swq S.qc false,m:=S.m+1 }:=fun G=>by simp [laneS,laneQ,rollM,hM,hpc,isVal,heq]
  rw [hM];refine stepMv_l (fnL 5) (enters_fnL 5) _ _ hn4 hs5 ?_;refine (cutNo_l heq hwf hL.X hg hm hE0).mono ?_;rintro o w1 ⟨rfl,nx,G',hE1⟩;refine ⟨_,rfl,rfl,G',?_⟩;rw [hS];exact ⟨nx,wd,noI,noI,fun h=>absurd h (by simp),hE1.none2⟩
theorem lane_2 (hpc:L.pc=2) (hL:LmOk L) (hlv:0<=lv/\lv<=1000000) (hwf:Wf L.p) (hg:Glo w0) (hm:S.m < maxLen) (h:LaneR w0 R a lv key vs S 0 L w) :
  Calls prog 206 #[.pointer (some ⟨a,0,none⟩),.iface 28 (.pointer (some ⟨S.p,0,none⟩))] w fun o w'=>o=.returned (.int .i64 (laneM lv key vs S.ce L S.f).1)/\∃ G',LaneR w0 R a lv key vs (laneS lv key vs S L G') (laneM lv key vs S.ce L S.f).1 (laneM lv key vs S.ce L S.f).2.1 w':=by
 obtain ⟨nx,wd,B1,B2,hn,hE⟩:=h;obtain ⟨⟨-,hnx⟩,hw7,hw9⟩:=hn rfl;obtain ⟨b1,b2,rfl,rfl,rfl⟩:=hnx (by rw [hpc]; rfl);rw [hpc] at hE hw7 hw9;have hn4:w.cell? ⟨a,4,none⟩=some (cvL b1 b2):=by rw [hE.rule 0 rfl 4]; rfl
 have hs5:w.cell? ⟨a,5,none⟩=some (.int .i64 0):=hE.rule 0 rfl 5;have hE0:Env w0 (boxI a (laneC S.c lv key vs (cvL b1 b2) 0 L.p.1 L.p.2.1 L.p.2.2 L.W L.C L.X wd false 0)::boxI b1 [.pointer (some ⟨a,0,none⟩)]::boxI b2 [mvL (bhL 2) a]::LT S R) w:=hE
 by_cases hok:okB (S.f (1,0,0)) S.ce=true
 ·have hS:∀ G,laneS lv key vs S L G={ S with G:=G,qc:={ S.qc with l:=wrap64 (S.qc.l+1) } }:=fun G=>by simp [laneS,laneQ,rollM,laneM,hpc,isVal,hok]
  refine stepCv_l b1 b2 _ _ hn4 hs5 ?_;have hgo:∀ (s:Int) (L':Lm),laneM lv key vs S.ce L S.f=(s,L',S.f)->(∀ v,Env w0 (boxI a (laneC S.c lv key vs (cvL b1 b2) 0 L.p.1 L.p.2.1 L.p.2.2 L.W L.C L.X wd false 0)::boxI b1 [.pointer (some ⟨a,0,none⟩)]::boxI b2 [mvL (bhL 2) a]::LT { S with qc:={ S.qc with l:=wrap64 (S.qc.l+1) } } R) v->Calls prog (bhL 2) #[.pointer (some ⟨a,0,none⟩)] v fun o w'=>o=.returned (.int .i64 s)/\LaneR w0 R a lv key vs { S with qc:={ S.qc with l:=wrap64 (S.qc.l+1) } } s L' w') ->
    Calls prog 288 #[.iface 28 (.pointer (some ⟨S.p,0,none⟩)),.pointer (some ⟨b1,0,none⟩),.pointer (some ⟨b2,0,none⟩)] w fun e w'=>∃ s,e=.returned (.int .i64 s)/\((.returned (.int .i64 s):Ending)=.returned (.int .i64 (laneM lv key vs S.ce L S.f).1)/\∃ G',LaneR w0 R a lv key vs (laneS lv key vs S L G') (laneM lv key vs S.ce L S.f).1 (laneM lv key vs S.ce L S.f).2.1 w'):=fun s L' hM hc=>by
   refine (val1Yes_l (bhL 2) (enters_bhL 2) hok hE0 s _ hc).mono ?_;rintro o w1 ⟨rfl,hR⟩;refine ⟨s,rfl,?_,S.G,?_⟩
   ·rw [hM]
   ·rw [hM,hS];exact hR
  clear hE hn;have hV:L.V=0:=hL.v (by omega);have hfd:L.fd=false:=hL.fd (by omega)
  by_cases hmk:markB L.W=true
  ·refine hgo 2 L (by simp [laneM,holdsM,hpc,hok,hmk]) fun v hv=>?_;refine (intoMark_l hmk hL.W hg hv).mono ?_;rintro o w1 ⟨rfl,nx,hE1⟩;exact ⟨rfl,nx,wd,_,_,fun h=>absurd h (by simp),hE1⟩
  ·have hmk:markB L.W=false:=by simpa using hmk
   refine hgo (cS L.W) { L with W:=L.W,X:=0,C:=slotI L.W,pc:=3 } (by simp [laneM,holdsM,hpc,hok,hmk,comeM_cS]) fun v hv=>?_;refine (intoCome_l hmk hL.W hg hv).mono ?_;rintro o w1 ⟨rfl,nx,hnx,hE1⟩;exact ⟨rfl,LaneR.came rfl hfd hV hnx hE1⟩
 ·have hok:okB (S.f (1,0,0)) S.ce=false:=by simpa using hok
  have hM:laneM lv key vs S.ce L S.f=(2,L,S.f):=by simp [laneM,hpc,hok]
  have hS:∀ G,laneS lv key vs S L G={ S with G:=G,qc:={ S.qc with l:=wrap64 (S.qc.l+1) },cr:=wrap64 (S.cr+1) }:=fun G=>by simp [laneS,laneQ,rollM,hM,hpc,isVal,hok]
  rw [hM];refine stepCv_l b1 b2 _ _ hn4 hs5 ?_;refine (val1No_l _ hok hE0).mono ?_;rintro o w1 ⟨rfl,nx,hE1⟩;refine ⟨2,rfl,rfl,S.G,?_⟩;rw [hS];exact ⟨nx,wd,_,_,fun h=>absurd h (by simp),hE1⟩
theorem lane_4 (hpc:L.pc=4) (hL:LmOk L) (hlv:0<=lv/\lv<=1000000) (hwf:Wf L.p) (hg:Glo w0) (hm:S.m < maxLen) (h:LaneR w0 R a lv key vs S 0 L w) :
  Calls prog 206 #[.pointer (some ⟨a,0,none⟩),.iface 28 (.pointer (some ⟨S.p,0,none⟩))] w fun o w'=>o=.returned (.int .i64 (laneM lv key vs S.ce L S.f).1)/\∃ G',LaneR w0 R a lv key vs (laneS lv key vs S L G') (laneM lv key vs S.ce L S.f).1 (laneM lv key vs S.ce L S.f).2.1 w':=by
 obtain ⟨nx,wd,B1,B2,hn,hE⟩:=h;obtain ⟨⟨-,hnx⟩,hw7,hw9⟩:=hn rfl;obtain ⟨b1,b2,rfl,rfl,rfl⟩:=hnx (by rw [hpc]; rfl);rw [hpc] at hE hw7 hw9;have hn4:w.cell? ⟨a,4,none⟩=some (cvL b1 b2):=by rw [hE.rule 0 rfl 4]; rfl
 have hs5:w.cell? ⟨a,5,none⟩=some (.int .i64 0):=hE.rule 0 rfl 5;have hE0:Env w0 (boxI a (laneC S.c lv key vs (cvL b1 b2) 0 L.p.1 L.p.2.1 L.p.2.2 L.W L.C L.X wd false 0)::boxI b1 [.pointer (some ⟨a,0,none⟩)]::boxI b2 [mvL (bhL 4) a]::LT S R) w:=hE
 by_cases hok:okB (S.f (1,0,0)) S.ce=true
 ·have hS:∀ G,laneS lv key vs S L G={ S with G:=G,qc:={ S.qc with l:=wrap64 (S.qc.l+1) } }:=fun G=>by simp [laneS,laneQ,rollM,laneM,hpc,isVal,hok]
  refine stepCv_l b1 b2 _ _ hn4 hs5 ?_;have hgo:∀ (s:Int) (L':Lm),laneM lv key vs S.ce L S.f=(s,L',S.f)->(∀ v,Env w0 (boxI a (laneC S.c lv key vs (cvL b1 b2) 0 L.p.1 L.p.2.1 L.p.2.2 L.W L.C L.X wd false 0)::boxI b1 [.pointer (some ⟨a,0,none⟩)]::boxI b2 [mvL (bhL 4) a]::LT { S with qc:={ S.qc with l:=wrap64 (S.qc.l+1) } } R) v->Calls prog (bhL 4) #[.pointer (some ⟨a,0,none⟩)] v fun o w'=>o=.returned (.int .i64 s)/\LaneR w0 R a lv key vs { S with qc:={ S.qc with l:=wrap64 (S.qc.l+1) } } s L' w') ->
    Calls prog 288 #[.iface 28 (.pointer (some ⟨S.p,0,none⟩)),.pointer (some ⟨b1,0,none⟩),.pointer (some ⟨b2,0,none⟩)] w fun e w'=>∃ s,e=.returned (.int .i64 s)/\((.returned (.int .i64 s):Ending)=.returned (.int .i64 (laneM lv key vs S.ce L S.f).1)/\∃ G',LaneR w0 R a lv key vs (laneS lv key vs S L G') (laneM lv key vs S.ce L S.f).1 (laneM lv key vs S.ce L S.f).2.1 w'):=fun s L' hM hc=>by
   refine (val1Yes_l (bhL 4) (enters_bhL 4) hok hE0 s _ hc).mono ?_;rintro o w1 ⟨rfl,hR⟩;refine ⟨s,rfl,?_,S.G,?_⟩
   ·rw [hM]
   ·rw [hM,hS];exact hR
  clear hE hn;refine hgo 0 { L with pc:=if markB L.X then 5 else 6 } (by simp [laneM,holdsM,hpc,hok]) fun v hv=>?_;refine (out_l hL.X hg hv).mono ?_;rintro o w1 ⟨rfl,hE1⟩;cases hmk:markB L.X
  ·rw [hmk] at hE1;exact ⟨rfl,_,wd,_,_,fun _=>⟨⟨fun _=>rfl,fun h=>absurd h (by simp [isVal])⟩,fun h=>absurd h (by simp),fun h=>absurd h (by simp)⟩,hE1⟩
  ·rw [hmk] at hE1;exact ⟨rfl,_,wd,_,_,fun _=>⟨⟨fun _=>rfl,fun h=>absurd h (by simp [isVal])⟩,fun h=>absurd h (by simp),fun h=>absurd h (by simp)⟩,hE1⟩
 ·have hok:okB (S.f (1,0,0)) S.ce=false:=by simpa using hok
  have hM:laneM lv key vs S.ce L S.f=(2,L,S.f):=by simp [laneM,hpc,hok]
  have hS:∀ G,laneS lv key vs S L G={ S with G:=G,qc:={ S.qc with l:=wrap64 (S.qc.l+1) },cr:=wrap64 (S.cr+1) }:=fun G=>by simp [laneS,laneQ,rollM,hM,hpc,isVal,hok]
  rw [hM];refine stepCv_l b1 b2 _ _ hn4 hs5 ?_;refine (val1No_l _ hok hE0).mono ?_;rintro o w1 ⟨rfl,nx,hE1⟩;refine ⟨2,rfl,rfl,S.G,?_⟩;rw [hS];exact ⟨nx,wd,_,_,fun h=>absurd h (by simp),hE1⟩
theorem lane_7 (hpc:L.pc=7) (hL:LmOk L) (hlv:0<=lv/\lv<=1000000) (hwf:Wf L.p) (hg:Glo w0) (hm:S.m < maxLen) (h:LaneR w0 R a lv key vs S 0 L w) :
  Calls prog 206 #[.pointer (some ⟨a,0,none⟩),.iface 28 (.pointer (some ⟨S.p,0,none⟩))] w fun o w'=>o=.returned (.int .i64 (laneM lv key vs S.ce L S.f).1)/\∃ G',LaneR w0 R a lv key vs (laneS lv key vs S L G') (laneM lv key vs S.ce L S.f).1 (laneM lv key vs S.ce L S.f).2.1 w':=by
 obtain ⟨nx,wd,B1,B2,hn,hE⟩:=h;obtain ⟨⟨-,hnx⟩,hw7,hw9⟩:=hn rfl;obtain ⟨b1,b2,rfl,rfl,rfl⟩:=hnx (by rw [hpc]; rfl);rw [hpc] at hE hw7 hw9;have hn4:w.cell? ⟨a,4,none⟩=some (cvL b1 b2):=by rw [hE.rule 0 rfl 4]; rfl
 have hs5:w.cell? ⟨a,5,none⟩=some (.int .i64 0):=hE.rule 0 rfl 5;have hE0:Env w0 (boxI a (laneC S.c lv key vs (cvL b1 b2) 0 L.p.1 L.p.2.1 L.p.2.2 L.W L.C L.X wd false 0)::boxI b1 [.pointer (some ⟨a,0,none⟩)]::boxI b2 [mvL (bhL 7) a]::LT S R) w:=hE
 by_cases hok:okB (S.f (1,0,0)) S.ce=true
 ·have hS:∀ G,laneS lv key vs S L G={ S with G:=G,qc:={ S.qc with l:=wrap64 (S.qc.l+1) } }:=fun G=>by simp [laneS,laneQ,rollM,laneM,hpc,isVal,hok]
  refine stepCv_l b1 b2 _ _ hn4 hs5 ?_;have hgo:∀ (s:Int) (L':Lm),laneM lv key vs S.ce L S.f=(s,L',S.f)->(∀ v,Env w0 (boxI a (laneC S.c lv key vs (cvL b1 b2) 0 L.p.1 L.p.2.1 L.p.2.2 L.W L.C L.X wd false 0)::boxI b1 [.pointer (some ⟨a,0,none⟩)]::boxI b2 [mvL (bhL 7) a]::LT { S with qc:={ S.qc with l:=wrap64 (S.qc.l+1) } } R) v->Calls prog (bhL 7) #[.pointer (some ⟨a,0,none⟩)] v fun o w'=>o=.returned (.int .i64 s)/\LaneR w0 R a lv key vs { S with qc:={ S.qc with l:=wrap64 (S.qc.l+1) } } s L' w') ->
    Calls prog 288 #[.iface 28 (.pointer (some ⟨S.p,0,none⟩)),.pointer (some ⟨b1,0,none⟩),.pointer (some ⟨b2,0,none⟩)] w fun e w'=>∃ s,e=.returned (.int .i64 s)/\((.returned (.int .i64 s):Ending)=.returned (.int .i64 (laneM lv key vs S.ce L S.f).1)/\∃ G',LaneR w0 R a lv key vs (laneS lv key vs S L G') (laneM lv key vs S.ce L S.f).1 (laneM lv key vs S.ce L S.f).2.1 w'):=fun s L' hM hc=>by
   refine (val1Yes_l (bhL 7) (enters_bhL 7) hok hE0 s _ hc).mono ?_;rintro o w1 ⟨rfl,hR⟩;refine ⟨s,rfl,?_,S.G,?_⟩
   ·rw [hM]
   ·rw [hM,hS];exact hR
  clear hE hn;have hV:L.V=0:=hL.v (by omega);have hfd:L.fd=false:=hL.fd (by omega);have hwd:wd=L.K:=hw7 rfl;subst hwd
  by_cases hlt:L.K < key
  ·refine hgo (cS L.X) { L with p:=(5,L.C,7+lv),W:=L.X,X:=0,C:=slotI L.X,pc:=3 } (by simp [laneM,holdsM,hpc,hok,hlt,comeM_cS]) fun v hv=>?_;refine (keyLess_l hlt hlv hL.X hg hv).mono ?_;rintro o w1 ⟨rfl,nx,hnx,hE1⟩;exact ⟨rfl,LaneR.came (L:={ L with p:=(5,L.C,7+lv) }) rfl hfd hV hnx hE1⟩
  ·by_cases heq:L.K=key
   ·cases vs
    ·refine hgo 1 { L with fd:=true } (by simp [laneM,holdsM,hpc,hok,heq]) fun v hv=>?_;refine (keyFound_l heq hv).mono ?_;rintro o w1 ⟨rfl,nx,hE1⟩;have h2:pvS 1 { L with fd:=true }=0:=hV;refine ⟨rfl,nx,L.K,boxI b1 [.pointer (some ⟨a,0,none⟩)],boxI b2 [mvL (bhL 7) a],fun h=>absurd h (by simp),?_⟩;rw [h2];exact hE1
    ·refine hgo 0 { L with fd:=true,pc:=8 } (by simp [laneM,holdsM,hpc,hok,heq]) fun v hv=>?_;refine (keyVal_l heq hv).mono ?_;rintro o w1 ⟨rfl,hE1⟩;exact ⟨rfl,_,L.K,_,_,fun _=>⟨⟨fun _=>rfl,fun h=>absurd h (by simp [isVal])⟩,fun h=>absurd h (by simp),fun h=>absurd h (by simp)⟩,hE1⟩
   ·refine hgo 1 L (by simp [laneM,holdsM,hpc,hok,hlt,heq]) fun v hv=>?_;refine (keyMore_l (by omega) hv).mono ?_;rintro o w1 ⟨rfl,nx,hE1⟩;have h1:pfS 1 L=false:=hfd;have h2:pvS 1 L=0:=hV;refine ⟨rfl,nx,L.K,boxI b1 [.pointer (some ⟨a,0,none⟩)],boxI b2 [mvL (bhL 7) a],fun h=>absurd h (by simp),?_⟩;rw [h1,h2];exact hE1
 ·have hok:okB (S.f (1,0,0)) S.ce=false:=by simpa using hok
  have hM:laneM lv key vs S.ce L S.f=(2,L,S.f):=by simp [laneM,hpc,hok]
  have hS:∀ G,laneS lv key vs S L G={ S with G:=G,qc:={ S.qc with l:=wrap64 (S.qc.l+1) },cr:=wrap64 (S.cr+1) }:=fun G=>by simp [laneS,laneQ,rollM,hM,hpc,isVal,hok]
  rw [hM];refine stepCv_l b1 b2 _ _ hn4 hs5 ?_;refine (val1No_l _ hok hE0).mono ?_;rintro o w1 ⟨rfl,nx,hE1⟩;refine ⟨2,rfl,rfl,S.G,?_⟩;rw [hS];exact ⟨nx,wd,_,_,fun h=>absurd h (by simp),hE1⟩
theorem lane_9 (hpc:L.pc=9) (hL:LmOk L) (hlv:0<=lv/\lv<=1000000) (hwf:Wf L.p) (hg:Glo w0) (hm:S.m < maxLen) (h:LaneR w0 R a lv key vs S 0 L w) :
  Calls prog 206 #[.pointer (some ⟨a,0,none⟩),.iface 28 (.pointer (some ⟨S.p,0,none⟩))] w fun o w'=>o=.returned (.int .i64 (laneM lv key vs S.ce L S.f).1)/\∃ G',LaneR w0 R a lv key vs (laneS lv key vs S L G') (laneM lv key vs S.ce L S.f).1 (laneM lv key vs S.ce L S.f).2.1 w':=by
 obtain ⟨nx,wd,B1,B2,hn,hE⟩:=h;obtain ⟨⟨-,hnx⟩,hw7,hw9⟩:=hn rfl;obtain ⟨b1,b2,rfl,rfl,rfl⟩:=hnx (by rw [hpc]; rfl);rw [hpc] at hE hw7 hw9;have hn4:w.cell? ⟨a,4,none⟩=some (cvL b1 b2):=by rw [hE.rule 0 rfl 4]; rfl
 have hs5:w.cell? ⟨a,5,none⟩=some (.int .i64 0):=hE.rule 0 rfl 5;have hE0:Env w0 (boxI a (laneC S.c lv key vs (cvL b1 b2) 0 L.p.1 L.p.2.1 L.p.2.2 L.W L.C L.X wd false 0)::boxI b1 [.pointer (some ⟨a,0,none⟩)]::boxI b2 [mvL (bhL 9) a]::LT S R) w:=hE
 by_cases hok:okB (S.f (1,0,0)) S.ce=true
 ·have hS:∀ G,laneS lv key vs S L G={ S with G:=G,qc:={ S.qc with l:=wrap64 (S.qc.l+1) } }:=fun G=>by simp [laneS,laneQ,rollM,laneM,hpc,isVal,hok]
  refine stepCv_l b1 b2 _ _ hn4 hs5 ?_;have hgo:∀ (s:Int) (L':Lm),laneM lv key vs S.ce L S.f=(s,L',S.f)->(∀ v,Env w0 (boxI a (laneC S.c lv key vs (cvL b1 b2) 0 L.p.1 L.p.2.1 L.p.2.2 L.W L.C L.X wd false 0)::boxI b1 [.pointer (some ⟨a,0,none⟩)]::boxI b2 [mvL (bhL 9) a]::LT { S with qc:={ S.qc with l:=wrap64 (S.qc.l+1) } } R) v->Calls prog (bhL 9) #[.pointer (some ⟨a,0,none⟩)] v fun o w'=>o=.returned (.int .i64 s)/\LaneR w0 R a lv key vs { S with qc:={ S.qc with l:=wrap64 (S.qc.l+1) } } s L' w') ->
    Calls prog 288 #[.iface 28 (.pointer (some ⟨S.p,0,none⟩)),.pointer (some ⟨b1,0,none⟩),.pointer (some ⟨b2,0,none⟩)] w fun e w'=>∃ s,e=.returned (.int .i64 s)/\((.returned (.int .i64 s):Ending)=.returned (.int .i64 (laneM lv key vs S.ce L S.f).1)/\∃ G',LaneR w0 R a lv key vs (laneS lv key vs S L G') (laneM lv key vs S.ce L S.f).1 (laneM lv key vs S.ce L S.f).2.1 w'):=fun s L' hM hc=>by
   refine (val1Yes_l (bhL 9) (enters_bhL 9) hok hE0 s _ hc).mono ?_;rintro o w1 ⟨rfl,hR⟩;refine ⟨s,rfl,?_,S.G,?_⟩
   ·rw [hM]
   ·rw [hM,hS];exact hR
  clear hE hn;have hft:L.fd=true:=hL.ft (by omega);have hwd:wd=L.V:=hw9 rfl;subst hwd;refine hgo 1 L (by simp [laneM,holdsM,hpc,hok]) fun v hv=>?_;refine (val_l hv).mono ?_;rintro o w1 ⟨rfl,nx,hE1⟩;have h1:pfS 1 L=true:=hft;refine ⟨rfl,nx,L.V,boxI b1 [.pointer (some ⟨a,0,none⟩)],boxI b2 [mvL (bhL 9) a],fun h=>absurd h (by simp),?_⟩;rw [h1];exact hE1
 ·have hok:okB (S.f (1,0,0)) S.ce=false:=by simpa using hok
  have hM:laneM lv key vs S.ce L S.f=(2,L,S.f):=by simp [laneM,hpc,hok]
  have hS:∀ G,laneS lv key vs S L G={ S with G:=G,qc:={ S.qc with l:=wrap64 (S.qc.l+1) },cr:=wrap64 (S.cr+1) }:=fun G=>by simp [laneS,laneQ,rollM,hM,hpc,isVal,hok]
  rw [hM];refine stepCv_l b1 b2 _ _ hn4 hs5 ?_;refine (val1No_l _ hok hE0).mono ?_;rintro o w1 ⟨rfl,nx,hE1⟩;refine ⟨2,rfl,rfl,S.G,?_⟩;rw [hS];exact ⟨nx,wd,_,_,fun h=>absurd h (by simp),hE1⟩
theorem lane_l (hL:LmOk L) (hlv:0<=lv/\lv<=1000000) (hwf:Wf L.p) (hg:Glo w0) (hm:S.m < maxLen) (h:LaneR w0 R a lv key vs S 0 L w) :
  Calls prog 206 #[.pointer (some ⟨a,0,none⟩),.iface 28 (.pointer (some ⟨S.p,0,none⟩))] w fun o w'=>o=.returned (.int .i64 (laneM lv key vs S.ce L S.f).1)/\∃ G',LaneR w0 R a lv key vs (laneS lv key vs S L G') (laneM lv key vs S.ce L S.f).1 (laneM lv key vs S.ce L S.f).2.1 w':=by
 rcases hL.pc with h0 | h0 | h0 | h0 | h0 | h0 | h0 | h0 | h0
 ·exact lane_0 h0 hL hlv hwf hg hm h
 ·exact lane_2 h0 hL hlv hwf hg hm h
 ·exact lane_3 h0 hL hlv hwf hg hm h
 ·exact lane_4 h0 hL hlv hwf hg hm h
 ·exact lane_5 h0 hL hlv hwf hg hm h
 ·exact lane_6 h0 hL hlv hwf hg hm h
 ·exact lane_7 h0 hL hlv hwf hg hm h
 ·exact lane_8 h0 hL hlv hwf hg hm h
 ·exact lane_9 h0 hL hlv hwf hg hm h
end
section
variable {w0 w:World} {L:List Item}
theorem new_l (c:Nat) (x y z lv key:Int) (vs:Bool) (hE:Env w0 L w) :
  Calls prog 205 #[.pointer (some ⟨c,0,none⟩),.agg #[.int .i64 x,.int .i64 y,.int .i64 z,.int .i64 0],.int .i64 lv,.int .u64 key,.bool vs] w fun o w'=>∃ a,o=.returned (.pointer (some ⟨a,0,none⟩))/\Env w0 (boxI a (laneC c lv key vs (mvL 234 a) 0 x y z 0 0 0 0 false 0)::L) w':=by
 have hmf:=makeF;have hE1:=hE.box w.heap.size rfl [.int .i64 x,.int .i64 y,.int .i64 z,.int .i64 0] 150;have r0:=hE1.rule 0 rfl;have hE2:=hE1.box (w.heap.size+1) (by simp) (laneC c lv key vs .nilFunc 0 x y z 0 0 0 0 false 0) 289;have HGO:=zH (goOn_l 0 (.func 234) #[.pointer (some ⟨w.heap.size+1,0,none⟩)] #[] (by simp [laneC]) hE2 rfl);clear hE hE1 hE2;go_enter func205,ntmps205;go_wp2_with fail;refine HGO.out.mono ?_;rintro o w1 ⟨rfl,hE3⟩;go_wp2_with fail;go_ret;exact ⟨_,rfl,hE3.sub (.cons_cons _ (.cons _ (List.Sublist.refl _)))⟩
end
section
variable {w:World} {a c:Nat} {lv key:Int} {vs:Bool} {nx:Value} {st x y z W C X wd:Int} {pf:Bool} {pv:Int}
theorem found_g (hb:Blk 0 w a (laneC c lv key vs nx st x y z W C X wd pf pv)):Calls prog 188 #[.pointer (some ⟨a,0,none⟩)] w fun o w'=>o=.returned (.bool pf)/\w'=w:=by
 have r1:=hb.rule;unfold laneC at r1;go_enter func188,ntmps188
 go_wp2
 go_ret;exact ⟨rfl,rfl⟩
theorem who_g (hb:Blk 0 w a (laneC c lv key vs nx st x y z W C X wd pf pv)):Calls prog 184 #[.pointer (some ⟨a,0,none⟩)] w fun o w'=>o=.returned (.agg #[.int .i64 C,.int .i64 0])/\Below w.heap.size w w':=by
 have r1:=cell_more hb.1 hb.rule;unfold laneC at r1;go_enter func184,ntmps184
 go_wp2
 exact bodyPost_ret (v:=.agg #[.int .i64 C,.int .i64 0]) (by simp [results,results184,go_sem]) rfl ⟨rfl,(Below.refl _ _).alloc (Nat.le_refl _) _⟩
theorem at_g (hb:Blk 0 w a (laneC c lv key vs nx st x y z W C X wd pf pv)):Calls prog 266 #[.pointer (some ⟨a,0,none⟩)] w fun o w'=>o=.returned (.agg #[.int .i64 x,.int .i64 y,.int .i64 z,.int .i64 0])/\Below w.heap.size w w':=by
 have r1:=cell_more hb.1 hb.rule;unfold laneC at r1;go_enter func266,ntmps266
 go_wp2
 exact bodyPost_ret (v:=.agg #[.int .i64 x,.int .i64 y,.int .i64 z,.int .i64 0]) (by simp [results,results266,go_sem]) rfl ⟨rfl,(Below.refl _ _).alloc (Nat.le_refl _) _⟩
theorem into_g (hb:Blk 0 w a (laneC c lv key vs nx st x y z W C X wd pf pv)):Calls prog 241 #[.pointer (some ⟨a,0,none⟩)] w fun o w'=>o=.returned (.agg #[.int .u64 W,.int .i64 0,.bool false])/\Below w.heap.size w w':=by
 have r1:=cell_more hb.1 hb.rule;unfold laneC at r1;go_enter func241,ntmps241
 go_wp2
 exact bodyPost_ret (v:=.agg #[.int .u64 W,.int .i64 0,.bool false]) (by simp [results,results241,go_sem]) rfl ⟨rfl,(Below.refl _ _).alloc (Nat.le_refl _) _⟩
theorem out_g (hb:Blk 0 w a (laneC c lv key vs nx st x y z W C X wd pf pv)):Calls prog 251 #[.pointer (some ⟨a,0,none⟩)] w fun o w'=>o=.returned (.agg #[.int .u64 X,.int .i64 0,.bool false])/\Below w.heap.size w w':=by
 have r1:=cell_more hb.1 hb.rule;unfold laneC at r1;go_enter func251,ntmps251
 go_wp2
 exact bodyPost_ret (v:=.agg #[.int .u64 X,.int .i64 0,.bool false]) (by simp [results,results251,go_sem]) rfl ⟨rfl,(Below.refl _ _).alloc (Nat.le_refl _) _⟩
end
def srC (c:Nat) (k key:Int) (vs:Bool) (lp:Value):List Value:=[.pointer (some ⟨c,0,none⟩),.int .i64 k,.int .u64 key,.bool vs,lp]
section
variable {w0 w:World} {L:List Item}
theorem newSearch_l (c:Nat) (k key:Int) (vs:Bool) (hE:Env w0 L w) :
  Calls prog 189 #[.pointer (some ⟨c,0,none⟩),.int .i64 k,.int .u64 key,.bool vs] w fun o w'=>∃ a,o=.returned (.pointer (some ⟨a,0,none⟩))/\Env w0 (boxI a (srC c k key vs (.pointer none))::L) w':=by
 have hE2:=hE.box w.heap.size rfl (srC c k key vs (.pointer none)) 291;clear hE;go_enter func189,ntmps189;go_wp2_with fail;go_ret;exact ⟨_,rfl,hE2⟩
end
section
variable {w:World} {a c:Nat} {lv key:Int} {vs:Bool} {nx:Value} {st x y z W C X wd:Int} {pf:Bool} {pv:Int}
theorem lane_g {k:Int} {lp:Option Addr} (hb:Blk 0 w a (srC c k key vs (.pointer lp))):Calls prog 220 #[.pointer (some ⟨a,0,none⟩)] w fun o w'=>o=.returned (.pointer lp)/\w'=w:=by
 have r1:=hb.rule;unfold srC at r1;go_enter func220,ntmps220
 go_wp2
 go_ret;exact ⟨rfl,rfl⟩
end
section
variable {w0 w:World} {R:List Item} {sb:Nat} {S:ST} {k key:Int} {vs:Bool} {lp:Value}
theorem check_s (hE:Env w0 (boxI sb (srC S.c k key vs lp)::LT S R) w) :
  Calls prog 219 #[.pointer (some ⟨sb,0,none⟩),.iface 28 (.pointer (some ⟨S.p,0,none⟩))] w fun o w'=>o=.returned (.int .i64 0)/\∃ a,Env w0 (boxI a (laneC S.c 0 key vs (mvL 234 a) 0 4 0 k 0 0 0 0 false 0)::boxI sb (srC S.c k key vs (.pointer (some ⟨a,0,none⟩)))::LT { S with ce:=epI (S.f (1,0,0)),qc:={ S.qc with l:=wrap64 (S.qc.l+1) } } R) w':=by
 have hc:=check_w _ (rfl:S.f (1,0,0)=S.f (1,0,0)) 1 3 4 (by decide) (by decide) hE rfl rfl rfl;simp only [zS,zZ] at hc;have HC:=zH hc;clear hc;have r:=hE.rule 0 rfl;unfold srC at r;go_enter func219,ntmps219;go_wp2_with fail;refine HC.out.mono ?_;rintro o w1 ⟨rfl,hE1⟩;replace hE1:Env w0 (boxI sb (srC S.c k key vs lp)::LT { S with ce:=epI (S.f (1,0,0)),qc:={ S.qc with l:=wrap64 (S.qc.l+1) } } R) w1:=hE1;clear HC hE r;generalize hS1:({ S with ce:=epI (S.f (1,0,0)),qc:={ S.qc with l:=wrap64 (S.qc.l+1) } }:ST)=S1 at *;have HS1:=zH hS1;clear hS1;go_wp2_with fail;refine Ord3.wp_chain [?_,?_,?_,?_,?_,?_,?_,?_,?_,?_,?_,?_,?_,?_,?_,?_,?_,?_,?_,?_,?_,?_,?_] [19,22] (fun w'=>∃ l9,Blk 0 w' sb (srC S.c k key vs l9)) (Ord3.Stage fun κs=>[Env w0 (boxI sb (srC S.c k key vs lp)::LT S1 R),fun w'=>∃ a,κs.getD 0 undef=.pointer (some ⟨a,0,none⟩)/\Env w0 (boxI a (laneC S.c 0 key vs (mvL 234 a) 0 4 0 k 0 0 0 0 false 0)::boxI sb (srC S.c k key vs lp)::LT S1 R) w',fun w'=>∃ a,Env w0 (boxI a (laneC S.c 0 key vs (mvL 234 a) 0 4 0 k 0 0 0 0 false 0)::boxI sb (srC S.c k key vs (.pointer (some ⟨a,0,none⟩)))::LT S1 R) w']) (by kernel_rfl) (by kernel_rfl) (by kernel_rfl) ⟨lp,hE1.drew.get 0 rfl⟩ ⟨_,rfl,hE1.drew⟩ (fun hT=>?_);rotate_left 23;have hT9:=zH hT;clear hT
 repeat ((first
  | (focus (refine Ord3.in_value (v:=?_) hT9.o (by decide) ?_ (by rfl) ?_ ?_; rotate_left 2; (intro w5 hS; obtain ⟨l9,hS9⟩:=hS; have r1:=Blk.rule hS9; unfold srC at r1; go_simp<;>rfl); rotate_right; (focus rfl)))
  | (focus (refine Ord3.in_off hT9.o (by decide) ?_ (by rfl) ?_; (focus rfl)))
  | (focus (refine Ord3.in_call (v:=?_) (f:=?_) (args:=?_) hT9.o (by decide) ?_ (by rfl) ?_ ?_ ?_; rotate_left 4; (intro w5 hS; obtain ⟨l9,hS9⟩:=hS; have r1:=Blk.rule hS9; unfold srC at r1; go_simp; constructor<;>rfl); (intro w5 hS; (first | (with_reducible refine kp (root_any _ _) ?_ ?_; rfl; exact fun w6 hb6=>⟨hS.elim fun l9 h=>⟨l9,h.under hb6⟩,fun us h=>Ord3.Stage.three h (fun h=>h.over hb6) (fun h=>h.elim fun a h=>⟨a,h.1,h.2.over hb6⟩) (fun h=>h.elim fun a h=>⟨a,h.over hb6⟩)⟩))); rotate_right; (focus rfl))));try simp only [Act.put,zA,zZ,zS])
 refine Ord3.in_turn (fun u=>∃ q,u=.pointer (some ⟨q,0,none⟩)) _ ⟨0,rfl⟩ hT9.o rfl (by decide) (by rfl) ?_ (Or.inl rfl) (by rfl) ?_ ?_
 ·rfl
 ·rintro w7 hC7 ⟨P7,hP7,hA7⟩;cases hP7;go_simp;simp only [Ord3.Lands];refine (new_l S.c 4 0 k 0 key vs hA7).mono ?_;rintro o w8 ⟨a8,rfl,hE8⟩;exact ⟨_,rfl,⟨a8,rfl⟩,⟨lp,hE8.get 1 rfl⟩,_,rfl,a8,rfl,hE8⟩
 rintro _ ⟨a9,rfl⟩
 try simp only [Act.put,zA,zZ,zS]
 repeat ((first
  | (focus (refine Ord3.in_value (v:=?_) hT9.o (by decide) ?_ (by rfl) ?_ ?_; rotate_left 2; (intro w5 hS; obtain ⟨l9,hS9⟩:=hS; have r1:=Blk.rule hS9; unfold srC at r1; go_simp<;>rfl); rotate_right; (focus rfl)))
  | (focus (refine Ord3.in_off hT9.o (by decide) ?_ (by rfl) ?_; (focus rfl))));try simp only [Act.put,zA,zZ,zS])
 refine Ord3.in_turn (fun u=>u=undef) _ rfl hT9.o rfl (by decide) (by rfl) ?_ (Or.inr ⟨_,19,[],rfl,by kernel_rfl,by kernel_rfl,rfl⟩) (by rfl) ?_ ?_
 ·rfl
 ·rintro w7 hC7 ⟨P7,hP7,hA7⟩;cases hP7;obtain ⟨a8,he,hA7⟩:=hA7;cases he;have r:=hA7.rule 1 rfl;unfold srC at r;have g:=hA7.thaw 1 rfl 4 (by simp [srC]);go_simp;simp only [Ord3.Lands];have h9:=hA7.put 1 rfl (j:=4) (by simp [srC]) (.pointer (some ⟨a9,0,none⟩));exact ⟨trivial,⟨_,h9.get 1 rfl⟩,_,rfl,a9,h9⟩
 rintro _ rfl
 try simp only [Act.put,zA,zZ,zS]
 refine Ord3.in_nil rfl ?_;rintro w9 hC9 ⟨P9,hP9,hA9⟩;cases hP9;obtain ⟨a8,hA9⟩:=hA9;clear hT9 hC9 hE1;go_wp2_with fail;go_ret;have h1:=HS1.out;subst h1;exact ⟨rfl,a8,hA9⟩
end
def lkC (c:Nat) (x y z W C X:Int) (nx:Value) (st:Int):List Value :=
 [.pointer (some ⟨c,0,none⟩),.int .i64 x,.int .i64 y,.int .i64 z,.int .i64 0,.int .u64 W,.int .i64 0,.bool false,.int .i64 C,.int .i64 0,.int .u64 X,.int .i64 0,.bool false,nx,.int .i64 st]
def ukC (c:Nat) (x y z W C X k key to:Int) (nx:Value) (st:Int):List Value :=
 [.pointer (some ⟨c,0,none⟩),.int .i64 x,.int .i64 y,.int .i64 z,.int .i64 0,.int .u64 W,.int .i64 0,.bool false,.int .i64 C,.int .i64 0,.int .u64 X,.int .i64 0,.bool false,.int .i64 k,.int .u64 key,.int .i64 to,.int .i64 0,nx,.int .i64 st]
def opC (c:Nat) (kd key val lv:Int) (nx:Value) (st:Int) (sp:Value) (er:Int) (dn:Bool):List Value :=
 [.pointer (some ⟨c,0,none⟩),.int .i64 kd,.int .u64 key,.int .u64 val,.int .i64 lv,nx,.int .i64 st,sp,.int .i64 er,.bool dn,.int .u64 0]
theorem linkOf_any (s d:Int) (w:World):Calls prog 295 #[.agg #[.int .i64 s,.int .i64 d]] w fun e w'=>e=.returned (.agg #[.int .i64 5,.int .i64 s,.int .i64 7,.int .i64 d])/\Below w.heap.size w w':=by
 have hF:=((Fr.start w).push w.heap.size rfl [.int .i64 s,.int .i64 d] 110).push (w.heap.size+1) (by simp) [.int .i64 0,.int .i64 0,.int .i64 0,.int .i64 0] 150;have hX:=hF.blk 1 rfl (by omega);have hZ:=hF.blk 0 rfl (by omega);have hE:=hF.below;clear hF;have HLK:Hid (∀ v,Calls prog 209 #[.int .i64 s,.int .i64 0] v fun e w'=>e=.returned (.agg #[.int .i64 5,.int .i64 s,.int .i64 7])/\Below v.heap.size v w'):=zH fun v=>by
  have:=link_any s 0 v
  rwa [show wrap64 (7+0)=7 by rw [w64 _ (by omega)]; rfl] at this
 go_enter func295,ntmps295;go_wp2_with fail;refine Ord.wc [6] (fun w'=>Below w.heap.size w w'/\Blk 0 w' w.heap.size [.int .i64 s,.int .i64 d]) (fun j w'=>Blk 0 w' (w.heap.size+1) (if j=0 then [.int .i64 0,.int .i64 0,.int .i64 0,.int .i64 0] else [.int .i64 5,.int .i64 s,.int .i64 7,.int .i64 d])) ⟨hE.drew,hX.drew⟩ hZ.drew fun hT9=>?_
 repeat ((first
  | (refine Ord.cv ?_ hT9.o ?_ ?_; rotate_left; (intro w5 hS; have r:=Blk.rule hS.2; go_simp<;>rfl))
  | (refine Ord.co hT9.o ?_)
  | (refine Ord.cc ?_ ?_ ?_ hT9.o ?_ ?_ ?_; rotate_left 3; (intro w5 hS; have r:=Blk.rule hS.2; go_simp; constructor<;>rfl); (intro w5 hS; (first | (with_reducible refine kp (HLK.out _) ?_ ?_; rfl; exact fun w6 hb6=>⟨⟨hS.1.trans (hb6.mono hS.1.size),hS.2.under hb6⟩,fun _ h=>h.under hb6⟩)))));try simp only [Act.put,zA,zZ,zS])
 refine Ord.ch_turn (v:=undef) 0 hT9.o rfl (by decide) (Or.inl rfl) (by rfl) ?_ ?_
 ·rintro w5 hS hA2;simp only [if_true] at hA2;have r:=hA2.rule;have f0:=hA2.thaw 0 (by simp);have f1:=hA2.thaw 1 (by simp);have f2:=hA2.thaw 2 (by simp);have f3:=hA2.thaw 3 (by simp);have hz:=hS.1.size;go_simp;refine ⟨rfl,⟨?_,?_⟩,?_⟩
  ·exact below_set (below_set (below_set (below_set hS.1 hz (by omega) _) (by simp; omega) (by omega) _) (by simp; omega) (by omega) _) (by simp; omega) (by omega) _
  ·exact (((hS.2.off (by omega) _).off (by omega) _).off (by omega) _).off (by omega) _
  ·exact (((hA2.set (i:=0) (by simp) _).set (i:=1) (by simp) _).set (i:=2) (by simp) _).set (i:=3) (by simp) _
 try simp only [Act.put,zA,zZ,zS]
 repeat ((first
  | (refine Ord.cv ?_ hT9.o ?_ ?_; rotate_left; (intro w5 hS; skip; go_simp<;>rfl))
  | (refine Ord.co hT9.o ?_));try simp only [Act.put,zA,zZ,zS])
 refine Ord.InText.nil fun w5 hS=>?_;clear hT9;obtain ⟨hC9,hA9⟩:=Ord.chain_end hS;clear hS;have q:=hA9.rule;simp only [show ¬ [6].length=0 by decide,if_false] at q
 go_wp2
 exact bodyPost_ret (v:=.agg #[.int .i64 5,.int .i64 s,.int .i64 7,.int .i64 d]) (by simp [results,results295,go_sem,q]) rfl ⟨rfl,hC9.1⟩
section
variable {w0 w:World} {L:List Item} {a c:Nat} {lv key:Int} {vs:Bool} {nx:Value} {st x y z W C X wd:Int} {pf:Bool} {pv:Int}
theorem spotOf_l (hb:Blk 0 w a (laneC c lv key vs nx st x y z W C X wd pf pv)):Calls prog 279 #[.pointer (some ⟨a,0,none⟩)] w fun e w'=>e=.returned (.agg #[.int .i64 x,.int .i64 y,.int .i64 z,.int .i64 0,.int .u64 W,.int .i64 0,.bool false,.int .i64 C,.int .i64 0,.int .u64 X,.int .i64 0,.bool false])/\Below w.heap.size w w':=by
 have hZ:=(Env.start w).box w.heap.size rfl [.int .i64 0,.int .i64 0,.int .i64 0,.int .i64 0,.int .u64 0,.int .i64 0,.bool false,.int .i64 0,.int .i64 0,.int .u64 0,.int .i64 0,.bool false] 318;have hL:=hb.under hZ.below;clear hb;go_enter func279,ntmps279;go_wp2_with fail;refine (at_g hL).mono ?_;rintro o w1 ⟨rfl,hb1⟩;replace hZ:=hZ.over hb1;replace hL:=hL.under hb1;clear hb1;go_wp2_with fail;refine (into_g hL).mono ?_;rintro o w1 ⟨rfl,hb1⟩;replace hZ:=hZ.over hb1;replace hL:=hL.under hb1;clear hb1;go_wp2_with fail;refine (who_g hL).mono ?_;rintro o w1 ⟨rfl,hb1⟩;replace hZ:=hZ.over hb1;replace hL:=hL.under hb1;clear hb1;go_wp2_with fail;refine (out_g hL).mono ?_;rintro o w1 ⟨rfl,hb1⟩;replace hZ:=hZ.over hb1;clear hb1 hL;have r:=hZ.rule 0 rfl;have f:=hZ.thaw 0 rfl;have f0:=f 0 (by simp);have f1:=f 1 (by simp);have f2:=f 2 (by simp);have f3:=f 3 (by simp);have f4:=f 4 (by simp);have f5:=f 5 (by simp);have f6:=f 6 (by simp);have f7:=f 7 (by simp);have f8:=f 8 (by simp);have f9:=f 9 (by simp);have f10:=f 10 (by simp);have f11:=f 11 (by simp);clear f;have hP:=(((((((((((hZ.put 0 rfl (j:=0) (by simp) (.int .i64 x)).put 0 rfl (j:=1) (by simp) (.int .i64 y)).put 0 rfl (j:=2) (by simp) (.int .i64 z)).put 0 rfl (j:=3) (by simp) (.int .i64 0)).put 0 rfl (j:=4) (by simp) (.int .u64 W)).put 0 rfl (j:=5) (by simp) (.int .i64 0)).put 0 rfl (j:=6) (by simp) (.bool false)).put 0 rfl (j:=7) (by simp) (.int .i64 C)).put 0 rfl (j:=8) (by simp) (.int .i64 0)).put 0 rfl (j:=9) (by simp) (.int .u64 X)).put 0 rfl (j:=10) (by simp) (.int .i64 0)).put 0 rfl (j:=11) (by simp) (.bool false);go_wp2_with fail;have q:=hP.rule 0 rfl;exact bodyPost_ret (v:=.agg #[.int .i64 x,.int .i64 y,.int .i64 z,.int .i64 0,.int .u64 W,.int .i64 0,.bool false,.int .i64 C,.int .i64 0,.int .u64 X,.int .i64 0,.bool false]) (by simp [results,results279,go_sem,q]) rfl ⟨rfl,hP.below⟩
theorem newLink_k (i:Nat) (hi:L[i]?=some (boxI a (laneC c lv key vs nx st x y z W C X wd pf pv))) (hE:Env w0 L w) :
  Calls prog 247 #[.pointer (some ⟨c,0,none⟩),.pointer (some ⟨a,0,none⟩)] w fun o w'=>∃ l,o=.returned (.pointer (some ⟨l,0,none⟩))/\Env w0 (boxI l (lkC c x y z W C X (mvL 280 l) 0)::L) w':=by
 have hmf:=makeF;go_enter func247,ntmps247;go_wp2_with fail;refine (spotOf_l (hE.get i hi)).mono ?_;rintro o w1 ⟨rfl,hb1⟩;replace hE:=hE.over hb1;clear hb1;have hE2:=hE.box w1.heap.size rfl (lkC c x y z W C X .nilFunc 0) 321;have HGO:=zH (goOn_r (o:=13) 0 (.func 280) #[.pointer (some ⟨w1.heap.size,0,none⟩)] #[] (by simp [lkC]) hE2 rfl);clear hE2 hE hi;go_wp2_with fail;refine HGO.out.mono ?_;rintro o w2 ⟨rfl,hE3⟩;go_wp2_with fail;go_ret;exact ⟨_,rfl,hE3⟩
theorem newUnlink_k (k ky to:Int) (i:Nat) (hi:L[i]?=some (boxI a (laneC c lv key vs nx st x y z W C X wd pf pv))) (hE:Env w0 L w) :
  Calls prog 250 #[.pointer (some ⟨c,0,none⟩),.pointer (some ⟨a,0,none⟩),.int .i64 k,.int .u64 ky,.agg #[.int .i64 to,.int .i64 0]] w fun o w'=>∃ l,o=.returned (.pointer (some ⟨l,0,none⟩))/\Env w0 (boxI l (ukC c x y z W C X k ky to (mvL 281 l) 0)::L) w':=by
 have hmf:=makeF;have hE1:=hE.box w.heap.size rfl [.int .i64 to,.int .i64 0] 110;have hi1:(boxI w.heap.size [.int .i64 to,.int .i64 0]::L)[i+1]?=some (boxI a (laneC c lv key vs nx st x y z W C X wd pf pv)):=hi;clear hE;go_enter func250,ntmps250;go_wp2_with fail;generalize w.alloc _=w2 at *;generalize w.heap.size=Y at *;refine Ord3.wp_chain [?_,?_,?_,?_,?_,?_,?_,?_,?_] [7,8] (fun w'=>Blk 0 w' a (laneC c lv key vs nx st x y z W C X wd pf pv)/\Blk 0 w' Y [.int .i64 to,.int .i64 0]) (Ord3.Stage fun κs=>[Env w0 (boxI Y [.int .i64 to,.int .i64 0]::L),fun w'=>∃ q,κs.getD 0 undef=.pointer (some ⟨q,0,none⟩)/\Env w0 (boxI q (ukC c x y z W C X k ky to .nilFunc 0)::boxI Y [.int .i64 to,.int .i64 0]::L) w',fun w'=>∃ q,κs.getD 1 undef=.pointer (some ⟨q,0,none⟩)/\Env w0 (boxI q (ukC c x y z W C X k ky to .nilFunc 0)::boxI Y [.int .i64 to,.int .i64 0]::L) w']) (by kernel_rfl) (by kernel_rfl) (by kernel_rfl) ⟨hE1.drew.get (i+1) hi1,hE1.drew.get 0 rfl⟩ ⟨_,rfl,hE1.drew⟩ (fun hT=>?_);rotate_left 9;have hT9:=zH hT;clear hT
 repeat ((first
  | (focus (refine Ord3.in_value (v:=?_) hT9.o (by decide) ?_ (by rfl) ?_ ?_; rotate_left 2; (intro w5 hS; have r1:=Blk.rule hS.2; go_simp<;>rfl); rotate_right; (focus rfl)))
  | (focus (refine Ord3.in_off hT9.o (by decide) ?_ (by rfl) ?_; (focus rfl)))
  | (focus (refine Ord3.in_call (v:=?_) (f:=?_) (args:=?_) hT9.o (by decide) ?_ (by rfl) ?_ ?_ ?_; rotate_left 4; (intro w5 hS; have r1:=Blk.rule hS.2; go_simp; constructor<;>rfl); (intro w5 hS; (first | (with_reducible refine kp (spotOf_l hS.1) ?_ ?_; rfl; exact fun w6 hb6=>⟨⟨hS.1.under hb6,hS.2.under hb6⟩,fun us h=>Ord3.Stage.three h (fun h=>h.over hb6) (fun h=>h.elim fun q h=>⟨q,h.1,h.2.over hb6⟩) (fun h=>h.elim fun q h=>⟨q,h.1,h.2.over hb6⟩)⟩))); rotate_right; (focus rfl))));try simp only [Act.put,zA,zZ,zS])
 refine Ord3.in_turn (fun u=>∃ q,u=.pointer (some ⟨q,0,none⟩)) _ ⟨0,rfl⟩ hT9.o rfl (by decide) (by rfl) ?_ (Or.inl rfl) (by rfl) ?_ ?_
 ·rfl
 ·rintro w7 hC7 ⟨P7,hP7,hA7⟩;cases hP7;go_simp;simp only [Ord3.Lands];have hE8:=hA7.box w7.heap.size rfl (ukC c x y z W C X k ky to .nilFunc 0) 323;exact ⟨⟨_,rfl⟩,⟨hE8.get (i+2) hi,hE8.get 1 rfl⟩,_,rfl,w7.heap.size,rfl,hE8⟩
 rintro _ ⟨q9,rfl⟩
 try simp only [Act.put,zA,zZ,zS]
 refine Ord3.in_turn (fun u=>∃ q,u=.pointer (some ⟨q,0,none⟩)) _ ⟨0,rfl⟩ hT9.o rfl (by decide) (by rfl) ?_ (Or.inr ⟨_,7,[],rfl,by kernel_rfl,by kernel_rfl,rfl⟩) (by rfl) ?_ ?_
 ·rfl
 ·rintro w7 hC7 ⟨P7,hP7,hA7⟩;cases hP7;obtain ⟨q8,he,hA7⟩:=hA7;cases he;go_simp;simp only [Ord3.Lands];exact ⟨⟨_,rfl⟩,hC7,_,rfl,q9,rfl,hA7⟩
 rintro _ ⟨q9,rfl⟩
 try simp only [Act.put,zA,zZ,zS]
 refine Ord3.in_nil rfl ?_;rintro w9 hC9 ⟨P9,hP9,hA9⟩;cases hP9;obtain ⟨q8,he,hA9⟩:=hA9;cases he;clear hT9 hC9 hE1;have HGO:=zH (goOn_r (o:=17) 0 (.func 281) #[.pointer (some ⟨q9,0,none⟩)] #[] (by simp [ukC]) hA9 rfl);clear hA9;go_wp2_with fail;refine HGO.out.mono ?_;rintro o w8 ⟨rfl,hE3⟩;go_wp2_with fail;go_ret;exact ⟨_,rfl,hE3.sub (.cons_cons _ (.cons _ (List.Sublist.refl _)))⟩
end
section
variable {w0 w:World} {L:List Item} {c q kq:Nat} {F:Nat->Prop} {ql:List Trip} {k s b h l e r hs hi:Int}
theorem takeNo_c (hh:hs=0) (hb:Blk 0 w c (crv k s b h l e r hs hi q)) :
  Calls prog 176 #[.pointer (some ⟨c,0,none⟩)] w fun o w'=>o=.returned (.tuple #[.agg #[.int .i64 hs,.int .i64 hi],.bool false])/\Below w.heap.size w w':=by
 have hF:=(Fr.start w).push w.heap.size rfl [.int .i64 0,.int .i64 0] 110;have hb1:=hb.under hF.below;have hn:(hs != 0)=false:=by simpa using hh
 clear hb hh;go_enter func176,ntmps176;go_wp2_with fail;refine (held_c hb1).mono ?_;rintro o w1 ⟨rfl,hb⟩;rw [hn];replace hF:=hF.over hb;clear hb hb1;replace hF:=hF.push w1.heap.size rfl [.int .i64 hs,.int .i64 hi] 110;have hlt:=hF.lt 1 rfl;have hX:=hF.blk 1 rfl (by omega);have hZ:=hF.blk 0 rfl (by have:=hF.below.size; have:=hF.lt 1 rfl; simp at this; omega);have hE:=hF.below;clear hF
 go_upto_region 2 with fail
 generalize w1.alloc _=w2 at *;generalize w1.heap.size=Y at *;have r0:=hX.rule;have r1:=hZ.rule;have f0:=hX.thaw 0 (by simp);have f1:=hX.thaw 1 (by simp);go_wp2_with fail;have q:=((hX.set (i:=0) (by simp) (.int .i64 hs)).set (i:=1) (by simp) (.int .i64 hi)).rule;exact bodyPost_ret (v:=.tuple #[.agg #[.int .i64 hs,.int .i64 hi],.bool false]) (by simp [results,results176,go_sem,q]) rfl ⟨rfl,below_set (below_set hE (by omega) (Nat.le_refl _) _) (by simp; omega) (Nat.le_refl _) _⟩
theorem takeYes_c (hh:hs≠0) (m:Nat) (hE:Env w0 L w) (hm:L[m]?=some (coreI c k s b h l e r hs hi q)) :
  Calls prog 176 #[.pointer (some ⟨c,0,none⟩)] w fun o w'=>o=.returned (.tuple #[.agg #[.int .i64 hs,.int .i64 hi],.bool true])/\Env w0 (L.set m (coreI c k s b h l e r 0 0 q)) w':=by
 have hn:(hs != 0)=true:=by simpa using hh
 have hml:m < L.length:=(List.getElem?_eq_some_iff.1 hm).1;have hE1:=hE.box w.heap.size rfl [.int .i64 0,.int .i64 0] 110;have hm1:(boxI w.heap.size [.int .i64 0,.int .i64 0]::L)[m+1]?=some (coreI c k s b h l e r hs hi q):=hm;clear hE hh;go_enter func176,ntmps176;go_wp2_with fail;refine (held_c (hE1.get (m+1) hm1)).mono ?_;rintro o w1 ⟨rfl,hb⟩;rw [hn];replace hE1:=(hE1.over hb).box w1.heap.size rfl [.int .i64 hs,.int .i64 hi] 110;clear hb;generalize w.heap.size=X at *
 go_upto_region 2 with fail
 generalize w1.alloc _=w2 at *;generalize w1.heap.size=Y at *;have hm2:(boxI Y [.int .i64 hs,.int .i64 hi]::boxI X [.int .i64 0,.int .i64 0]::L)[m+2]?=some (coreI c k s b h l e r hs hi q):=hm;have rc:=hE1.rule (m+2) hm2;unfold crv at rc;have ff:=hE1.thaw (m+2) hm2;have f7:=ff 7 (by simp [crv]);have f8:=ff 8 (by simp [crv]);clear ff
 go_upto_region 4 with fail
 have hE2:=hE1.put (m+2) hm2 (j:=7) (by simp [crv]) (.int .i64 0);have hE3:=hE2.put (m+2) (by rw [List.getElem?_set_self (by simpa using hml)]) (j:=8) (by simp [crv]) (.int .i64 0);rw [List.set_set] at hE3;generalize World.setCell (World.setCell w2 ⟨c,7,none⟩ _) ⟨c,8,none⟩ _=w3 at *;replace hE3:Env w0 (boxI Y [.int .i64 hs,.int .i64 hi]::boxI X [.int .i64 0,.int .i64 0]::L.set m (coreI c k s b h l e r 0 0 q)) w3:=hE3;have r0:=hE3.rule 0 rfl;have r1:=hE3.rule 1 rfl;have ff:=hE3.thaw 1 rfl;have f0:=ff 0 (by simp);have f1:=ff 1 (by simp);clear ff;clear rc f7 f8;go_wp2_with fail;have hE4:=(hE3.put 1 rfl (j:=0) (by simp) (.int .i64 hs)).put 1 rfl (j:=1) (by simp) (.int .i64 hi);have q:=hE4.rule 1 rfl;exact bodyPost_ret (v:=.tuple #[.agg #[.int .i64 hs,.int .i64 hi],.bool true]) (by simp [results,results176,go_sem,q]) rfl ⟨rfl,hE4.sub (.cons _ (.cons _ (List.Sublist.refl _)))⟩
theorem dropNo_c (hh:hs=0) (hb:Blk 0 w c (crv k s b h l e r hs hi q)) :
  Calls prog 152 #[.pointer (some ⟨c,0,none⟩)] w fun o w'=>o=.returned (.tuple #[])/\Below w.heap.size w w':=by
 go_enter func152,ntmps152;go_wp2_with fail;refine (takeNo_c hh hb).mono ?_;rintro o w1 ⟨rfl,hb1⟩;clear hh hb;go_wp2_with fail
 go_end0
 exact ⟨rfl,hb1.alloc hb1.size _⟩
theorem dropYes_c (hh:hs≠0) (m n:Nat) (hnm:n≠m) (hE:Env w0 L w) (hm:L[m]?=some (coreI c k s b h l e r hs hi q)) (hn:L[n]?=some (queueI q F ql kq)) (hl:ql.length+1<=1048576) :
  Calls prog 152 #[.pointer (some ⟨c,0,none⟩)] w fun o w'=>o=.returned (.tuple #[])/\∃ k' F',Rm kq (ql.length+1) k'/\Env w0 ((L.set m (coreI c k s b h l e r 0 0 q)).set n (queueI q F' (ql++[(hs,0,hi)]) k')) w':=by
 have hml:m < L.length:=(List.getElem?_eq_some_iff.1 hm).1;have hn1:=wset (b:=coreI c k s b h l e r 0 0 q) hnm.symm hn;have hm1:(L.set m (coreI c k s b h l e r 0 0 q))[m]?=some (coreI c k s b h l e r 0 0 q):=by rw [List.getElem?_set_self hml]
 have HT:=zH (takeYes_c hh m hE hm);clear hh hE hm hn;generalize L.set m (coreI c k s b h l e r 0 0 q)=M at *;go_enter func152,ntmps152;go_wp2_with fail;refine HT.out.mono ?_;rintro o w1 ⟨rfl,hE1⟩;clear HT;replace hE1:=hE1.box w1.heap.size rfl [.int .i64 hs,.int .i64 hi] 110;go_wp2_with fail;generalize w1.alloc _=w2 at *;generalize w1.heap.size=Y at *;have hn2:(boxI Y [.int .i64 hs,.int .i64 hi]::M)[n+1]?=some (queueI q F ql kq):=hn1;have hm2:(boxI Y [.int .i64 hs,.int .i64 hi]::M)[m+1]?=some (coreI c k s b h l e r 0 0 q):=hm1;refine Ord3.wp_chain [?_,?_,?_,?_,?_,?_,?_,?_,?_,?_,?_] [9,10] (fun w'=>Blk 0 w' c [.int .i64 k,.int .i64 s,.int .i64 b,.int .i64 h,.int .i64 l,.int .i64 e,.int .i64 r,.int .i64 0,.int .i64 0,.pointer (some ⟨q,0,none⟩)]/\Blk 0 w' Y [.int .i64 hs,.int .i64 hi]) (Ord3.Stage fun κs=>[Env w0 (boxI Y [.int .i64 hs,.int .i64 hi]::M),fun w'=>∃ z,κs.getD 0 undef=.slice (some ⟨z,0,none⟩) 1 1/\Env w0 (boxI z [.int .i64 hs,.int .i64 0,.int .i64 hi]::boxI Y [.int .i64 hs,.int .i64 hi]::M) w',fun w'=>∃ k',Rm kq (ql.length+1) k'/\∃ F' z,Env w0 (boxI z [.int .i64 hs,.int .i64 0,.int .i64 hi]::boxI Y [.int .i64 hs,.int .i64 hi]::M.set n (queueI q F' (ql++[(hs,0,hi)]) k')) w']) (by kernel_rfl) (by kernel_rfl) (by kernel_rfl) ⟨hE1.drew.get (m+1) hm2,hE1.drew.get 0 rfl⟩ ⟨_,rfl,hE1.drew⟩ (fun hT=>?_);rotate_left 11;have hT9:=zH hT;clear hT
 repeat ((first
  | (focus (refine Ord3.in_value (v:=?_) hT9.o (by decide) ?_ (by rfl) ?_ ?_; rotate_left 2; (intro w5 hS; have r1:=Blk.rule hS.1; have r2:=Blk.rule hS.2; go_simp<;>rfl); rotate_right; (focus rfl)))
  | (focus (refine Ord3.in_off hT9.o (by decide) ?_ (by rfl) ?_; (focus rfl))));try simp only [Act.put,zA,zZ,zS])
 refine Ord3.in_turn (fun u=>∃ z,u=.slice (some ⟨z,0,none⟩) 1 1) _ ⟨0,rfl⟩ hT9.o rfl (by decide) (by rfl) ?_ (Or.inl rfl) (by rfl) ?_ ?_
 ·rfl
 ·rintro w7 hC7 ⟨P7,hP7,hA7⟩;cases hP7;go_simp;simp only [Ord3.Lands];have hE8:=hA7.box w7.heap.size rfl [.int .i64 hs,.int .i64 0,.int .i64 hi] 114;exact ⟨⟨_,rfl⟩,⟨hE8.get (m+2) hm1,hE8.get 1 rfl⟩,_,rfl,w7.heap.size,rfl,hE8⟩
 rintro _ ⟨z9,rfl⟩
 try simp only [Act.put,zA,zZ,zS]
 refine Ord3.in_turn (fun u=>u=.int .i64 0) _ rfl hT9.o rfl (by decide) (by rfl) ?_ (Or.inr ⟨_,9,[],rfl,by kernel_rfl,by kernel_rfl,rfl⟩) (by rfl) ?_ ?_
 ·rfl
 ·rintro w7 hC7 ⟨P7,hP7,hA7⟩;cases hP7;obtain ⟨z8,he,hA7⟩:=hA7;cases he;go_simp;simp only [Ord3.Lands];have hA:Row3 w7 (some ⟨z9,0,none⟩) [(hs,0,hi)]:=Blk.row3 (l:=[(hs,0,hi)]) (hA7.get 0 rfl);refine (push_any (l:=ql) (xs:=[(hs,0,hi)]) (A:=some ⟨z9,0,none⟩) (cap:=1) (by simp; omega) hA (fun _ b hb hFb=>?_) (hA7.queue (n+2) hn1)).mono ?_
  ·obtain ⟨off,he⟩:=hb;cases he;exact (hA7.off (i:=0) (j:=n+2) rfl hn1 (by omega)) z9 rfl hFb
  rintro o w8 ⟨rfl,k8,F8,hrm,hQ8,hs8⟩;have hE8:=hA7.turnQ (n+2) hn1 hQ8 hs8;simp only [zS,zZ] at hE8;have hm8:=wset (b:=queueI q F8 (ql++[(hs,0,hi)]) k8) hnm hm1;exact ⟨_,rfl,rfl,⟨hE8.get (m+2) hm8,hE8.get 1 rfl⟩,_,rfl,k8,by simpa using hrm,F8,z9,hE8⟩
 rintro _ rfl
 try simp only [Act.put,zA,zZ,zS]
 refine Ord3.in_nil rfl ?_;rintro w9 hC9 ⟨P9,hP9,hA9⟩;cases hP9;obtain ⟨k8,hrm,F8,z8,hA9⟩:=hA9;clear hT9 hC9;go_wp2_with fail
 go_end0
 exact ⟨rfl,k8,F8,hrm,hA9.sub (.cons _ (.cons _ (List.Sublist.refl _)))⟩
end
section
variable {w0 w:World} {R:List Item} {l:Nat} {S:ST} {nx:Value} {x y z W C X:Int}
theorem store_k (hh:S.hs≠0) (hhs:In64 S.hs) (hW:InU W) (hg:Glo w0) (hm:S.m < maxLen) (hE:Env w0 (boxI l (lkC S.c x y z W C X nx 0)::LT S R) w) :
  Calls prog 280 #[.pointer (some ⟨l,0,none⟩),.iface 28 (.pointer (some ⟨S.p,0,none⟩))] w fun o w'=>o=.returned (.int .i64 0)/\∃ G',Env w0 (boxI l (lkC S.c x y z W C X (mvL 296 l) 0)::LT { S with G:=G',f:=upd S.f (5,S.hs,7) (wordI false (slotI W) S.ce),qc:={ S.qc with s:=wrap64 (S.qc.s+1) },m:=S.m+1 } R) w':=by
 have hmf:=makeF;have hah:=ahead_store;have hb:(S.hs != 0)=true:=by simpa using hh
 have HWF:Hid (Wf (5,S.hs,7)):=zH (by unfold Wf; exact ⟨by show In64 5; unfold In64; omega,hhs,by show In64 7; unfold In64; omega⟩);have HLE:=zH fun (v:World) (hv:Below w0.heap.size w0 v)=>lead_c W 0 false v hW (hg.keep' hv);have hqi:InU (wordI false (slotI W) S.ce):=wordI_in _ _ _;have hto:=fun (v:World) (hv:Below w0.heap.size w0 v) (hb:Blk 0 v S.c (crv S.ck S.cs S.cb S.ch S.cl S.ce S.cr S.hs 0 S.q))=>to_c (slotI W) 0 (hg.keep' hv) hb;obtain ⟨s,hs⟩:∃ s,slotI W=s:=⟨_,rfl⟩;rw [hs] at hqi ⊢;simp only [hs] at HLE hto;clear hs;obtain ⟨q,hq⟩:∃ q,wordI false s S.ce=q:=⟨_,rfl⟩;rw [hq] at hqi ⊢;simp only [hq] at hto;have HQI:=zH hqi;have HTO:=zH hto;have r:=hE.rule 0 rfl;unfold lkC at r;clear hq hqi hto hhs hW hg hh;go_enter func280,ntmps280;go_wp2_with fail;refine (held_c (hE.get 1 rfl)).mono ?_;rintro o w1 ⟨rfl,hb1⟩;rw [hb];have hE2:=(hE.over hb1).box w1.heap.size rfl [.int .i64 S.hs,.int .i64 0] 110;clear hb1 hE r hb;go_wp2_with fail;generalize w1.alloc _=w2 at *;generalize w1.heap.size=Y at *;refine Ord.wc [17] (fun v=>Below w0.heap.size w0 v/\Blk 0 v l (lkC S.c x y z W C X nx 0)/\Blk 0 v S.c (crv S.ck S.cs S.cb S.ch S.cl S.ce S.cr S.hs 0 S.q)/\Blk 0 v Y [.int .i64 S.hs,.int .i64 0]) (fun k w'=>∃ G5,Env w0 (boxI Y [.int .i64 S.hs,.int .i64 0]::boxI l (lkC S.c x y z W C X nx 0)::LT (if k=0 then S else { S with G:=G5,f:=upd S.f (5,S.hs,7) q,qc:={ S.qc with s:=wrap64 (S.qc.s+1) },m:=S.m+1 }) R) w') ⟨hE2.drew.below,hE2.drew.get 1 rfl,hE2.drew.get 2 rfl,hE2.drew.get 0 rfl⟩ ⟨S.G,hE2.drew⟩ fun hT9=>?_
 repeat ((first
  | (refine Ord.cv ?_ hT9.o ?_ ?_; rotate_left; (intro w5 hS; have r:=hS.2.1.rule; have r1:=hS.2.2.2.rule; unfold lkC at r; go_simp<;>rfl))
  | (refine Ord.co hT9.o ?_)
  | (refine Ord.cc ?_ ?_ ?_ hT9.o ?_ ?_ ?_; rotate_left 3; (intro w5 hS; have r:=hS.2.1.rule; have r1:=hS.2.2.2.rule; unfold lkC at r; go_simp; constructor<;>rfl); (intro w5 hS; (first | (with_reducible refine kp (linkOf_any _ _ _) ?_ ?_; rfl; exact fun w6 hb6=>⟨⟨hS.1.trans (hb6.mono hS.1.size),hS.2.1.under hb6,hS.2.2.1.under hb6,hS.2.2.2.under hb6⟩,fun k h=>h.elim fun G5 h=>⟨G5,h.over hb6⟩⟩) | (with_reducible refine kp (HLE.out _ hS.1) ?_ ?_; rfl; exact fun w6 hb6=>⟨⟨hS.1.trans (hb6.mono hS.1.size),hS.2.1.under hb6,hS.2.2.1.under hb6,hS.2.2.2.under hb6⟩,fun k h=>h.elim fun G5 h=>⟨G5,h.over hb6⟩⟩) | (with_reducible refine kp (HTO.out _ hS.1 hS.2.2.1) ?_ ?_; rfl; exact fun w6 hb6=>⟨⟨hS.1.trans (hb6.mono hS.1.size),hS.2.1.under hb6,hS.2.2.1.under hb6,hS.2.2.2.under hb6⟩,fun k h=>h.elim fun G5 h=>⟨G5,h.over hb6⟩⟩)))));try simp only [Act.put,zA,zZ,zS])
 refine Ord.ch_turn (v:=.tuple #[]) 0 hT9.o rfl (by decide) (Or.inl rfl) (by rfl) ?_ ?_
 ·rintro w5 hC5 ⟨G5,hA5⟩;simp only [if_true] at hA5;go_simp;rw [method_store];simp only [Result.andThen_ok];go_simp;simp only [Ord.LandsIn];refine (store_w 5 S.hs 7 0 q 0 false HWF.out HQI.out hm 4 5 (by decide) hA5 rfl rfl).mono ?_;rintro e w6 ⟨rfl,G6,hE6⟩;exact ⟨rfl,⟨hE6.below,hE6.get 1 rfl,hE6.get 2 rfl,hE6.get 0 rfl⟩,G6,hE6⟩
 try simp only [Act.put,zA,zZ,zS]
 repeat ((first
  | (refine Ord.cv ?_ hT9.o ?_ ?_; rotate_left; (intro w5 hS; skip; go_simp<;>rfl))
  | (refine Ord.co hT9.o ?_));try simp only [Act.put,zA,zZ,zS])
 refine Ord.InText.nil fun w5 hS=>?_;clear hT9;obtain ⟨hC9,hA9⟩:=Ord.chain_end hS;clear hS;obtain ⟨G9,hA9⟩:=hA9;simp only [List.length_cons,List.length_nil,Nat.zero_add,Nat.one_ne_zero,if_false] at hA9;clear hC9 hE2 HTO HLE;go_wp2_with fail;refine (goOn_r (o:=13) 1 _ _ _ (by simp [lkC]) hA9 rfl).mono ?_;rintro o w5 ⟨rfl,hE5⟩;go_wp2_with fail;go_ret;exact ⟨rfl,G9,hE5.sub (.cons _ (List.Sublist.refl _))⟩
theorem put_k (hh:S.hs≠0) (hwf:Wf (x,y,z)) (hg:Glo w0) (hm:S.m < maxLen) (hE:Env w0 (boxI l (lkC S.c x y z W C X nx 0)::LT S R) w) :
  Calls prog 296 #[.pointer (some ⟨l,0,none⟩),.iface 28 (.pointer (some ⟨S.p,0,none⟩))] w fun o w'=>o=.returned (.int .i64 (if S.f (x,y,z)=W then 1 else 2))/\∃ G',Env w0 (LT { S with G:=G',f:=swf S.f (x,y,z) W (wordI false S.hs S.ce),qc:=swq S.qc (decide (S.f (x,y,z)=W)),m:=S.m+1,hs:=if S.f (x,y,z)=W then 0 else S.hs } R) w':=by
 have hmf:=makeF;have hah:=ahead_swap;have hb:(S.hs != 0)=true:=by simpa using hh
 have HWF:=zH hwf;have hqi:InU (wordI false S.hs S.ce):=wordI_in _ _ _;have hto:=fun (v:World) (hv:Below w0.heap.size w0 v) (hb:Blk 0 v S.c (crv S.ck S.cs S.cb S.ch S.cl S.ce S.cr S.hs 0 S.q))=>to_c S.hs 0 (hg.keep' hv) hb;obtain ⟨q,hq⟩:∃ q,wordI false S.hs S.ce=q:=⟨_,rfl⟩;rw [hq] at hqi ⊢;simp only [hq] at hto;have HQI:=zH hqi;have HTO:=zH hto;have HH:=zH hh;have r:=hE.rule 0 rfl;unfold lkC at r;clear hq hqi hto hwf hg hh;obtain ⟨dd,hdd⟩:∃ dd,decide (S.f (x,y,z)=W)=dd:=⟨_,rfl⟩;have hds:(if S.f (x,y,z)=W then (1:Int) else 2)=if dd then 1 else 2:=by rw [<- hdd]; by_cases h:S.f (x,y,z)=W<;>simp [h]
 have hdh:(if S.f (x,y,z)=W then (0:Int) else S.hs)=if dd then 0 else S.hs:=by rw [<- hdd]; by_cases h:S.f (x,y,z)=W<;>simp [h]
 rw [hds,hdd];simp only [hdh];clear hds hdh;have HDD:=zH hdd;clear hdd;go_enter func296,ntmps296;go_wp2_with fail;refine (held_c (hE.get 1 rfl)).mono ?_;rintro o w1 ⟨rfl,hb1⟩;rw [hb];have hE2:=(hE.over hb1).box w1.heap.size rfl [.int .i64 S.hs,.int .i64 0] 110;clear hb1 hE r hb;go_wp2_with fail;generalize w1.alloc _=w2 at *;generalize w1.heap.size=Y at *;refine Ord.wc [20] (fun v=>Below w0.heap.size w0 v/\Blk 0 v l (lkC S.c x y z W C X nx 0)/\Blk 0 v S.c (crv S.ck S.cs S.cb S.ch S.cl S.ce S.cr S.hs 0 S.q)/\Blk 0 v Y [.int .i64 S.hs,.int .i64 0]) (fun k w'=>∃ G5,Env w0 (boxI Y [.int .i64 S.hs,.int .i64 0]::boxI l (lkC S.c x y z W C X nx 0)::LT (if k=0 then S else { S with G:=G5,f:=swf S.f (x,y,z) W q,qc:=swq S.qc dd,m:=S.m+1 }) R) w') ⟨hE2.drew.below,hE2.drew.get 1 rfl,hE2.drew.get 2 rfl,hE2.drew.get 0 rfl⟩ ⟨S.G,hE2.drew⟩ fun hT9=>?_
 repeat ((first
  | (refine Ord.cv ?_ hT9.o ?_ ?_; rotate_left; (intro w5 hS; have r:=hS.2.1.rule; have r1:=hS.2.2.2.rule; unfold lkC at r; go_simp<;>rfl))
  | (refine Ord.co hT9.o ?_)
  | (refine Ord.cc ?_ ?_ ?_ hT9.o ?_ ?_ ?_; rotate_left 3; (intro w5 hS; have r:=hS.2.1.rule; have r1:=hS.2.2.2.rule; unfold lkC at r; go_simp; constructor<;>rfl); (intro w5 hS; (first | (with_reducible refine kp (HTO.out _ hS.1 hS.2.2.1) ?_ ?_; rfl; exact fun w6 hb6=>⟨⟨hS.1.trans (hb6.mono hS.1.size),hS.2.1.under hb6,hS.2.2.1.under hb6,hS.2.2.2.under hb6⟩,fun k h=>h.elim fun G5 h=>⟨G5,h.over hb6⟩⟩)))));try simp only [Act.put,zA,zZ,zS])
 refine Ord.ch_turn (v:=.bool dd) 0 hT9.o rfl (by decide) (Or.inl rfl) (by rfl) ?_ ?_
 ·rintro w5 hC5 ⟨G5,hA5⟩;simp only [if_true] at hA5;go_simp;rw [method_swap];simp only [Result.andThen_ok];go_simp;simp only [Ord.LandsIn];have hsw:=swap_w x y z 0 W 0 q 0 false false HWF.out HQI.out hm 4 5 (by decide) hA5 rfl rfl;rw [HDD.out] at hsw;refine hsw.mono ?_;rintro e w6 ⟨rfl,G6,hE6⟩;exact ⟨rfl,⟨hE6.below,hE6.get 1 rfl,hE6.get 2 rfl,hE6.get 0 rfl⟩,G6,hE6⟩
 try simp only [Act.put,zA,zZ,zS]
 repeat ((first
  | (refine Ord.cv ?_ hT9.o ?_ ?_; rotate_left; (intro w5 hS; skip; go_simp<;>rfl))
  | (refine Ord.co hT9.o ?_));try simp only [Act.put,zA,zZ,zS])
 refine Ord.InText.nil fun w5 hS=>?_;clear hT9;obtain ⟨hC9,hA9⟩:=Ord.chain_end hS;clear hS;obtain ⟨G9,hA9⟩:=hA9;simp only [List.length_cons,List.length_nil,Nat.zero_add,Nat.one_ne_zero,if_false] at hA9;replace hA9:=hA9.sub (.cons _ (List.Sublist.refl _));clear hC9 hE2 HTO HDD;have r:=hA9.rule 0 rfl;unfold lkC at r;cases dd
 ·go_wp2_with fail;refine (end_r (o:=13) 0 2 (by simp [lkC]) hA9 rfl).mono ?_;rintro o w5 ⟨rfl,hE5⟩;go_wp2_with fail;go_ret;exact ⟨rfl,G9,hE5.sub (.cons _ (List.Sublist.refl _))⟩
 ·go_wp2_with fail;refine (takeYes_c HH.out 1 hA9 rfl).mono ?_;rintro o w4 ⟨rfl,hE4⟩;simp only [zZ,zS] at hE4;clear hA9 r;have r:=hE4.rule 0 rfl;unfold lkC at r;go_wp2_with fail;refine (end_r (o:=13) 0 1 (by simp [lkC]) hE4 rfl).mono ?_;rintro o w5 ⟨rfl,hE5⟩;go_wp2_with fail;go_ret;exact ⟨rfl,G9,hE5.sub (.cons _ (List.Sublist.refl _))⟩
end
end
section
open Go.RowKit
theorem marked_any (x s v:Int) (w:World) (hg:Glo w) (h0:0<=x) (h1:x<=18446744073709551615) :
  Calls prog 305 #[.int .u64 x,.int .i64 s,.int .i64 v] w fun e w'=>e=.returned (.int .u64 (markedW x s v))/\Below w.heap.size w w':=by
 cases h:markB x
 ·have hm:markedW x s v=wordI true s v:=by simp [markedW,h]
  have H:=zH h;have HM:=zH hm;clear h hm;go_enter func305,ntmps305;go_wp2_with fail;refine (isMarked_any x _ hg h0 h1).mono ?_;rintro e w1 ⟨rfl,hb⟩;rw [H.out];go_wp2_with fail;refine (word_any true s v _ (hg.keep' hb)).mono ?_;rintro e w2 ⟨rfl,hb2⟩;go_wp2_with fail;go_ret;exact ⟨ret_int HM.out.symm,hb.trans (hb2.mono (by have:=hb.size; omega))⟩
 ·have hm:markedW x s v=x:=by simp [markedW,h]
  have H:=zH h;have HM:=zH hm;clear h hm;go_enter func305,ntmps305;go_wp2_with fail;refine (isMarked_any x _ hg h0 h1).mono ?_;rintro e w1 ⟨rfl,hb⟩;rw [H.out];go_wp2_with fail;go_ret;exact ⟨ret_int HM.out.symm,hb⟩
end
end Go.Proofs.YtffncfmciockmaaGreatDoor
