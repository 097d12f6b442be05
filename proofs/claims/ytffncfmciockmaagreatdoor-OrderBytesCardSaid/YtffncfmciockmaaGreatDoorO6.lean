/- What is proved on the way to the statement, part 6: contracts of the functions, among other things in memory. -/
import Derived.Test.YtffncfmciockmaaGreatDoorO5
import Derived.LoopIn

open _root_.Go.Proofs.Tryz
set_option maxRecDepth 100000
set_option maxHeartbeats 25600000
namespace Go.Proofs.YtffncfmciockmaaGreatDoor
section
open Go.RowKit Go.Maps
section
variable {w:World} {c q:Nat} {k s b h l e r hs hi:Int}
theorem markNew_c (v d2:Int) (t:Bool) (a d:Int) (hv:InU v) (hm:markB v=false) (hg:Glo w) (hb:Blk 0 w c (crv k s b h l e r hs hi q)) :
  Calls prog 293 #[.pointer (some ⟨c,0,none⟩),.agg #[.int .u64 v,.int .i64 d2,.bool t],.agg #[.int .i64 a,.int .i64 d]] w fun o w'=>o=.returned (.agg #[.int .u64 (wordI true a e),.int .i64 d,.bool false])/\Below w.heap.size w w':=by
 unfold InU at hv;have hmw:markedW v a e=wordI true a e:=by simp [markedW,hm]
 have HGB:Hid (∀ (x:World) (hx:Below w.heap.size w x),Calls prog 305 #[.int .u64 v,.int .i64 a,.int .i64 e] x fun o w'=>o=.returned (.int .u64 (wordI true a e))/\Below x.heap.size x w'):=zH fun x hx=>by
  rw [<- hmw]; exact marked_any v a e x (hg.keep' hx) hv.1 hv.2
 have HM:=zH hm;clear hm hmw;have hF:=(((Fr.start w).push w.heap.size rfl [.int .u64 v,.int .i64 d2,.bool t] 127).push (w.heap.size+1) (by simp) [.int .i64 a,.int .i64 d] 110).push (w.heap.size+1+1) (by simp) [.int .u64 0,.int .i64 0,.bool false] 127;have r:=hF.rule 2 rfl;have hg1:=hg.keep' hF.below;have hcl:=hb.1;have hb1:=hb.under hF.below;clear hb hg;go_enter func293,ntmps293;go_wp2_with fail;refine (isMarked_any v _ hg1 hv.1 hv.2).mono ?_;rintro o w1 ⟨rfl,hb⟩;rw [HM.out];replace hF:=hF.over hb;replace hb1:=hb1.under hb;clear hb r hg1;unfold crv at hb1;go_wp2_with fail;have hX:=hF.blk 2 rfl (by omega);have hY:=hF.blk 1 rfl (by omega);have hZ:=hF.blk 0 rfl (by omega);have hE:=hF.below;clear hF;refine Ord.wc [12] (fun w'=>Below w.heap.size w w'/\Blk 0 w' c [.int .i64 k,.int .i64 s,.int .i64 b,.int .i64 h,.int .i64 l,.int .i64 e,.int .i64 r,.int .i64 hs,.int .i64 hi,.pointer (some ⟨q,0,none⟩)]/\Blk 0 w' w.heap.size [.int .u64 v,.int .i64 d2,.bool t]/\Blk 0 w' (w.heap.size+1) [.int .i64 a,.int .i64 d]) (fun j w'=>Blk 0 w' (w.heap.size+1+1) (if j=0 then [.int .u64 0,.int .i64 0,.bool false] else [.int .u64 (wordI true a e),.int .i64 d,.bool false])) ⟨hE.drew,hb1.drew,hX.drew,hY.drew⟩ hZ.drew fun hT9=>?_
 repeat ((first
  | (refine Ord.cv ?_ hT9.o ?_ ?_; rotate_left; (intro w5 hS; have r1:=Blk.rule hS.2.1; have r2:=Blk.rule hS.2.2.1; have r3:=Blk.rule hS.2.2.2; go_simp<;>rfl))
  | (refine Ord.co hT9.o ?_)
  | (refine Ord.cc ?_ ?_ ?_ hT9.o ?_ ?_ ?_; rotate_left 3; (intro w5 hS; have r1:=Blk.rule hS.2.1; have r2:=Blk.rule hS.2.2.1; have r3:=Blk.rule hS.2.2.2; go_simp; constructor<;>rfl); (intro w5 hS; (first | (with_reducible refine kp (HGB.out _ hS.1) ?_ ?_; rfl; exact fun w6 hb6=>⟨⟨hS.1.trans (hb6.mono hS.1.size),hS.2.1.under hb6,hS.2.2.1.under hb6,hS.2.2.2.under hb6⟩,fun _ h=>h.under hb6⟩)))));try simp only [Act.put,zA,zZ,zS])
 refine Ord.ch_turn (v:=undef) 0 hT9.o rfl (by decide) (Or.inl rfl) (by rfl) ?_ ?_
 ·rintro w5 hS hA2;simp only [if_true] at hA2;have r:=hA2.rule;have f0:=hA2.thaw 0 (by simp);have f1:=hA2.thaw 1 (by simp);have f2:=hA2.thaw 2 (by simp);have hz:=hS.1.size;go_simp;refine ⟨rfl,⟨?_,?_,?_,?_⟩,?_⟩
  ·exact below_set (below_set (below_set hS.1 hz (by omega) _) (by simp; omega) (by omega) _) (by simp; omega) (by omega) _
  ·exact ((hS.2.1.off (by omega) _).off (by omega) _).off (by omega) _
  ·exact ((hS.2.2.1.off (by omega) _).off (by omega) _).off (by omega) _
  ·exact ((hS.2.2.2.off (by omega) _).off (by omega) _).off (by omega) _
  ·exact Blk.put3 hA2 _ _ _
 try simp only [Act.put,zA,zZ,zS]
 repeat ((first
  | (refine Ord.cv ?_ hT9.o ?_ ?_; rotate_left; (intro w5 hS; skip; go_simp<;>rfl))
  | (refine Ord.co hT9.o ?_));try simp only [Act.put,zA,zZ,zS])
 refine Ord.InText.nil fun w5 hS=>?_;clear hT9;obtain ⟨hC9,hA9⟩:=Ord.chain_end hS;clear hS;have q:=hA9.rule;simp only [show ¬ [12].length=0 by decide,if_false] at q
 go_wp2
 exact bodyPost_ret (v:=.agg #[.int .u64 (wordI true a e),.int .i64 d,.bool false]) (by simp [results,results293,go_sem,q]) rfl ⟨rfl,hC9.1⟩
end
def rtv (c:Nat) (nx:Value × Value) (s e:Int):List Value:=[.pointer (some ⟨c,0,none⟩),nx.1,nx.2,.int .i64 s,.int .i64 0,.int .u64 e,.int .i64 0,.bool false]
def fnR (pc:Nat):Nat:=if pc=0 then 310 else 314
def nxR (a pc:Nat):Value × Value:=(mvL (fnR pc) a,.int .i64 0)
theorem enters_fnR (pc:Nat) (ar:Array Value) (v:World):(callFunc (fnR pc) ar).run prog v=.ok (.enter (fnR pc) ar) v:=by
 unfold fnR
 split
 all_goals kernel_rfl
section
variable {w0 w:World} {R:List Item} {a:Nat} {S:ST} {nx:Value × Value} {s e:Int}
theorem step_r (pc:Nat) (u:Value) (Q:Ending->World->Prop) (hE:Env w0 (boxI a (rtv S.c nx s e)::LT S R) w) (hnx:nx=nxR a pc)
  (hc:Calls prog (fnR pc) #[.pointer (some ⟨a,0,none⟩),u] w fun e w'=>∃ s,e=.returned (.int .i64 s)/\Q (.returned (.int .i64 s)) w') :
  Calls prog 304 #[.pointer (some ⟨a,0,none⟩),u] w Q:=by
 have hn:w.cell? ⟨a,1,none⟩=some (.func (.func (fnR pc)) #[.pointer (some ⟨a,0,none⟩)] #[]):=by
  have:=hE.rule 0 rfl 1;rw [this,show (rtv S.c nx s e)[1]?=some nx.1 from rfl,hnx];rfl
 have hs0:w.cell? ⟨a,1+1,none⟩=some (.int .i64 0):=by
  have:=hE.rule 0 rfl 2;rw [this,show (rtv S.c nx s e)[2]?=some nx.2 from rfl,hnx];rfl
 have hst:=stepMv_r (o:=1) (fnR pc) (enters_fnR pc) (.pointer (some ⟨a,0,none⟩)) u (fun o w'=>∃ s,o=.returned (.int .i64 s)/\Q (.returned (.int .i64 s)) w') hn hs0 (hc.mono fun e w' ⟨s,he,hq⟩=>⟨s,he,s,rfl,hq⟩);have HST:=zH hst;clear hst hc;go_enter func304,ntmps304;go_wp2_with fail;refine HST.out.mono ?_;rintro o w1 ⟨s,rfl,hQ⟩;go_wp2_with fail;exact hQ
theorem step_ry {st:Int} {Y:World->Prop} (pc:Nat) (u:Value) (hE:Env w0 (boxI a (rtv S.c nx s e)::LT S R) w) (hnx:nx=nxR a pc)
  (hc:Calls prog (fnR pc) #[.pointer (some ⟨a,0,none⟩),u] w fun o w'=>o=.returned (.int .i64 st)/\Y w') :
  Calls prog 304 #[.pointer (some ⟨a,0,none⟩),u] w fun o w'=>o=.returned (.int .i64 st)/\Y w' :=
 step_r pc u _ hE hnx (hc.mono fun _ _ h=>⟨st,h.1,rfl,h.2⟩)
theorem new_r (d:Int) {L:List Item} {c:Nat} (hE:Env w0 L w) :
  Calls prog 303 #[.pointer (some ⟨c,0,none⟩),.agg #[.int .i64 d,.int .i64 0]] w fun o w'=>∃ a,o=.returned (.pointer (some ⟨a,0,none⟩))/\Env w0 (boxI a (rtv c (nxR a 0) d 0)::L) w':=by
 have hmf:=makeF;have hE0:=hE.box w.heap.size rfl [.int .i64 d,.int .i64 0] 110;have hE1:=hE0.box (w.heap.size+1) (by simp) (rtv c (.nilFunc,.int .i64 0) d 0) 336;have r0:=hE0.rule 0 rfl;have hgo:=goOn_m (fn:=.func 310) (fs:=#[.pointer (some ⟨w.heap.size+1,0,none⟩)]) (cs:=#[]) 0 (by simp [rtv]) rfl hE1 rfl;have HGO:=zH hgo;clear hE hE0 hE1 hgo;go_enter func303,ntmps303;go_wp2_with fail;refine HGO.out.mono ?_;rintro o w1 ⟨rfl,hE2⟩;go_wp2_with fail;go_ret;exact ⟨_,rfl,hE2.sub (.cons_cons _ (.cons _ (List.Sublist.refl _)))⟩
theorem loadEpoch_r (x:Int) (hfx:S.f (1,0,0)=x) (hz:Hid (nx.2=.int .i64 0)) (hE:Env w0 (boxI a (rtv S.c nx s e)::LT S R) w) :
  Calls prog 310 #[.pointer (some ⟨a,0,none⟩),.iface 28 (.pointer (some ⟨S.p,0,none⟩))] w fun o w'=>o=.returned (.int .i64 0)/\Env w0 (boxI a (rtv S.c (nxR a 1) s x)::LT { S with qc:={ S.qc with l:=wrap64 (S.qc.l+1) } } R) w':=by
 have hmf:=makeF;have hah:=ahead_load;have HX:=zH hfx;clear hfx;go_enter func310,ntmps310;go_wp2_with fail;refine Ord.wc [7,10] (fun _=>True) (fun k w'=>Env w0 (pick3 (boxI a (rtv S.c nx s e)::LT S R) (boxI a (rtv S.c nx s e)::LT { S with qc:={ S.qc with l:=wrap64 (S.qc.l+1) } } R) (boxI a (rtv S.c nx s x)::LT { S with qc:={ S.qc with l:=wrap64 (S.qc.l+1) } } R) k) w') trivial hE.drew fun hT9=>?_
 repeat ((first
  | (refine Ord.cv ?_ hT9.o ?_ ?_; rotate_left; (intro w5 hS; skip; go_simp<;>rfl))
  | (refine Ord.co hT9.o ?_)
  | (refine Ord.cc ?_ ?_ ?_ hT9.o ?_ ?_ ?_; rotate_left 3; (intro w5 hS; skip; go_simp; constructor<;>rfl); (intro w5 hS; (first | (with_reducible refine kp (epoch_any _) ?_ ?_; rfl; exact fun w6 hb6=>⟨trivial,fun k h=>h.over hb6⟩) | (with_reducible refine kp (shared_any _ _ _ _) ?_ ?_; rfl; exact fun w6 hb6=>⟨trivial,fun k h=>h.over hb6⟩)))));try simp only [Act.put,zA,zZ,zS])
 refine Ord.ch_turn (v:=.agg #[.int .u64 x,.int .i64 0,.bool false]) 0 hT9.o rfl (by decide) (Or.inl rfl) (by rfl) ?_ ?_
 ·rintro w5 hC5 hA5;replace hA5:Env w0 (boxI a (rtv S.c nx s e)::LT S R) w5:=hA5;go_simp;rw [method_load];simp only [Result.andThen_ok];go_simp;simp only [Ord.LandsIn];have hl:=load_w 1 0 0 0 (by unfold Wf In64; simp) 3 4 (by decide) hA5 rfl rfl;rw [HX.out] at hl;refine hl.mono ?_;rintro e w6 ⟨rfl,hE6⟩;exact ⟨rfl,hE6⟩
 try simp only [Act.put,zA,zZ,zS]
 repeat ((first
  | (refine Ord.cv ?_ hT9.o ?_ ?_; rotate_left; (intro w5 hS; skip; go_simp<;>rfl))
  | (refine Ord.co hT9.o ?_));try simp only [Act.put,zA,zZ,zS])
 refine Ord.ch_turn (v:=undef) 1 hT9.o rfl (by decide) (Or.inr ⟨_,rfl,by kernel_rfl⟩) (by rfl) ?_ ?_
 ·rintro w5 hC5 hA5;replace hA5:Env w0 (boxI a (rtv S.c nx s e)::LT { S with qc:={ S.qc with l:=wrap64 (S.qc.l+1) } } R) w5:=hA5;have r:=hA5.rule 0 rfl;unfold rtv at r;have f6:=hA5.thaw 0 rfl 5 (by simp [rtv]);have f7:=hA5.thaw 0 rfl 6 (by simp [rtv]);have f8:=hA5.thaw 0 rfl 7 (by simp [rtv]);go_simp;have h9:=((hA5.put 0 rfl (j:=5) (by simp [rtv]) (.int .u64 x)).put 0 rfl (j:=6) (by simp [rtv]) (.int .i64 0)).put 0 rfl (j:=7) (by simp [rtv]) (.bool false);exact ⟨rfl,h9⟩
 try simp only [Act.put,zA,zZ,zS]
 repeat ((first
  | (refine Ord.cv ?_ hT9.o ?_ ?_; rotate_left; (intro w5 hS; skip; go_simp<;>rfl))
  | (refine Ord.co hT9.o ?_));try simp only [Act.put,zA,zZ,zS])
 refine Ord.InText.nil fun w5 hS=>?_;clear hT9;obtain ⟨hC9,hA9⟩:=Ord.chain_end hS;clear hS;replace hA9:Env w0 (boxI a (rtv S.c nx s x)::LT { S with qc:={ S.qc with l:=wrap64 (S.qc.l+1) } } R) w5:=hA9;have r:=hA9.rule 0 rfl;unfold rtv at r;go_wp2_with fail;refine (goOn_m 0 _ _ _ (by simp [rtv]) (by exact congrArg some hz.out) hA9 rfl).mono ?_;rintro o w7 ⟨rfl,hE7⟩;go_wp2_with fail;go_ret;exact ⟨rfl,hE7⟩
theorem store_r (he:InU e) (hs:In64 s) (hm:S.m < maxLen) (hl:S.ql.length+1<=1048576) (hE:Env w0 (boxI a (rtv S.c nx s e)::LT S R) w) :
  Calls prog 314 #[.pointer (some ⟨a,0,none⟩),.iface 28 (.pointer (some ⟨S.p,0,none⟩))] w fun o w'=>o=.returned (.int .i64 1)/\∃ k' F' G',Rm S.kq (S.ql.length+1) k'/\Env w0 (LT { S with G:=G',f:=upd S.f (5,s,1) e,qc:={ S.qc with s:=wrap64 (S.qc.s+1) },m:=S.m+1,ql:=S.ql++[(s,epI e,0)],kq:=k',F:=F' } R) w':=by
 have hmf:=makeF;have hah:=ahead_store;have HWF:Hid (Wf (5,s,1)):=zH (by unfold Wf; exact ⟨by unfold In64; simp,hs,by unfold In64; simp⟩);have HIE:=zH he;clear he hs;go_enter func314,ntmps314;go_wp2_with fail;refine Ord.wc [13] (fun v=>Blk 0 v a (rtv S.c nx s e)) (fun k w'=>∃ G5,Env w0 (boxI a (rtv S.c nx s e)::LT (if k=0 then S else { S with G:=G5,f:=upd S.f (5,s,1) e,qc:={ S.qc with s:=wrap64 (S.qc.s+1) },m:=S.m+1 }) R) w') (hE.drew.get 0 rfl) ⟨S.G,hE.drew⟩ fun hT9=>?_
 repeat ((first
  | (refine Ord.cv ?_ hT9.o ?_ ?_; rotate_left; (intro w5 hS; have r:=hS.rule; unfold rtv at r; go_simp<;>rfl))
  | (refine Ord.co hT9.o ?_)
  | (refine Ord.cc ?_ ?_ ?_ hT9.o ?_ ?_ ?_; rotate_left 3; (intro w5 hS; have r:=hS.rule; unfold rtv at r; go_simp; constructor<;>rfl); (intro w5 hS; (first | (with_reducible refine kp (part_any _ _ _ _) ?_ ?_; rfl; exact fun w6 hb6=>⟨hS.under hb6,fun k h=>h.elim fun G5 h=>⟨G5,h.over hb6⟩⟩)))));try simp only [Act.put,zA,zZ,zS])
 refine Ord.ch_turn (v:=.tuple #[]) 0 hT9.o rfl (by decide) (Or.inl rfl) (by rfl) ?_ ?_
 ·rintro w5 hC5 ⟨G5,hA5⟩;simp only [if_true] at hA5;go_simp;rw [method_store];simp only [Result.andThen_ok];go_simp;simp only [Ord.LandsIn];refine (store_w 5 s 1 0 e 0 false HWF.out HIE.out hm 3 4 (by decide) hA5 rfl rfl).mono ?_;rintro e w6 ⟨rfl,G6,hE6⟩;exact ⟨rfl,hE6.get 0 rfl,G6,hE6⟩
 try simp only [Act.put,zA,zZ,zS]
 repeat ((first
  | (refine Ord.cv ?_ hT9.o ?_ ?_; rotate_left; (intro w5 hS; skip; go_simp<;>rfl))
  | (refine Ord.co hT9.o ?_));try simp only [Act.put,zA,zZ,zS])
 refine Ord.InText.nil fun w5 hS=>?_;clear hT9;obtain ⟨hC9,hA9⟩:=Ord.chain_end hS;clear hS;obtain ⟨G9,hA9⟩:=hA9;simp only [List.length_cons,List.length_nil,Nat.zero_add,Nat.one_ne_zero,if_false] at hA9;clear hC9 hE;go_wp2_with fail;refine Ord3.wp_chain [?_,?_,?_,?_,?_,?_,?_,?_,?_,?_,?_,?_,?_,?_,?_,?_,?_,?_,?_,?_,?_,?_,?_,?_] [22,23] (fun w'=>Blk 0 w' a (rtv S.c nx s e)/\Blk 0 w' S.c (crv S.ck S.cs S.cb S.ch S.cl S.ce S.cr S.hs 0 S.q)) (Ord3.Stage fun κs=>[Env w0 (boxI a (rtv S.c nx s e)::LT { S with G:=G9,f:=upd S.f (5,s,1) e,qc:={ S.qc with s:=wrap64 (S.qc.s+1) },m:=S.m+1 } R),fun w'=>∃ z,κs.getD 0 undef=.slice (some ⟨z,0,none⟩) 1 1/\Env w0 (boxI z [.int .i64 s,.int .i64 (epI e),.int .i64 0]::boxI a (rtv S.c nx s e)::LT { S with G:=G9,f:=upd S.f (5,s,1) e,qc:={ S.qc with s:=wrap64 (S.qc.s+1) },m:=S.m+1 } R) w',fun w'=>∃ k',Rm S.kq (S.ql.length+1) k'/\∃ F' z,Env w0 (boxI z [.int .i64 s,.int .i64 (epI e),.int .i64 0]::boxI a (rtv S.c nx s e)::LT { S with G:=G9,f:=upd S.f (5,s,1) e,qc:={ S.qc with s:=wrap64 (S.qc.s+1) },m:=S.m+1,ql:=S.ql++[(s,epI e,0)],kq:=k',F:=F' } R) w']) (by kernel_rfl) (by kernel_rfl) (by kernel_rfl) ⟨hA9.drew.get 0 rfl,hA9.drew.get 1 rfl⟩ ⟨_,rfl,hA9.drew⟩ (fun hT=>?_);rotate_left 24;have hT9:=zH hT;clear hT
 repeat ((first
  | (focus (refine Ord3.in_value (v:=?_) hT9.o (by decide) ?_ (by rfl) ?_ ?_; rotate_left 2; (intro w5 hS; have r1:=Blk.rule hS.1; unfold rtv at r1; go_simp<;>rfl); rotate_right; (focus rfl)))
  | (focus (refine Ord3.in_off hT9.o (by decide) ?_ (by rfl) ?_; (focus rfl)))
  | (focus (refine Ord3.in_call (v:=?_) (f:=?_) (args:=?_) hT9.o (by decide) ?_ (by rfl) ?_ ?_ ?_; rotate_left 4; (intro w5 hS; have r1:=Blk.rule hS.1; unfold rtv at r1; go_simp; constructor<;>rfl); (intro w5 hS; (first | (with_reducible refine (queue_c hS.2).mono ?_; rintro o w6 ⟨rfl,rfl⟩; constructor; rfl; exact ⟨hS,fun _ h=>h⟩) | (with_reducible refine kp (epochOf_any _ _ _ HIE.out _) ?_ ?_; rfl; exact fun w6 hb6=>⟨⟨hS.1.under hb6,hS.2.under hb6⟩,fun κs h=>Ord3.Stage.three h (fun h=>h.over hb6) (fun h=>h.elim fun z h=>⟨z,h.1,h.2.over hb6⟩) (fun h=>h.elim fun k h=>⟨k,h.1,h.2.elim fun F h=>⟨F,h.elim fun z h=>⟨z,h.over hb6⟩⟩⟩)⟩))); rotate_right; (focus rfl))));try simp only [Act.put,zA,zZ,zS])
 refine Ord3.in_turn (fun u=>∃ z,u=.slice (some ⟨z,0,none⟩) 1 1) _ ⟨0,rfl⟩ hT9.o rfl (by decide) (by rfl) ?_ (Or.inl rfl) (by rfl) ?_ ?_
 ·rfl
 ·rintro w7 hC7 ⟨P7,hP7,hA7⟩;cases hP7;go_simp;simp only [Ord3.Lands];have hE8:=hA7.box w7.heap.size rfl [.int .i64 s,.int .i64 (epI e),.int .i64 0] 114;exact ⟨⟨_,rfl⟩,⟨hE8.get 1 rfl,hE8.get 2 rfl⟩,_,rfl,w7.heap.size,rfl,hE8⟩
 rintro _ ⟨z9,rfl⟩
 try simp only [Act.put,zA,zZ,zS]
 refine Ord3.in_turn (fun u=>u=.int .i64 0) _ rfl hT9.o rfl (by decide) (by rfl) ?_ (Or.inr ⟨_,22,[],rfl,by kernel_rfl,by kernel_rfl,rfl⟩) (by rfl) ?_ ?_
 ·rfl
 ·rintro w7 hC7 ⟨P7,hP7,hA7⟩;cases hP7;obtain ⟨z8,he,hA7⟩:=hA7;cases he;go_simp;simp only [Ord3.Lands];have hA:Row3 w7 (some ⟨z9,0,none⟩) [(s,epI e,0)]:=Blk.row3 (l:=[(s,epI e,0)]) (hA7.get 0 rfl);refine (push_any (l:=S.ql) (xs:=[(s,epI e,0)]) (A:=some ⟨z9,0,none⟩) (cap:=1) (by simp; omega) hA (fun _ b hb hFb=>?_) (hA7.queue 3 rfl)).mono ?_
  ·obtain ⟨off,he⟩:=hb;cases he;exact (hA7.off (i:=0) (j:=3) rfl rfl (by omega)) z9 rfl hFb
  rintro o w8 ⟨rfl,k8,F8,hrm,hQ8,hs8⟩;have hE8:=hA7.turnQ 3 rfl hQ8 hs8;exact ⟨_,rfl,rfl,⟨hE8.get 1 rfl,hE8.get 2 rfl⟩,_,rfl,k8,by simpa using hrm,F8,z9,hE8⟩
 rintro _ rfl
 try simp only [Act.put,zA,zZ,zS]
 refine Ord3.in_nil rfl ?_;rintro w9 hC9 ⟨P9,hP9,hA8⟩;cases hP9;obtain ⟨k8,hrm,F8,z8,hA8⟩:=hA8;clear hT9 hC9 hA9;have hE9:=hA8.sub (.cons _ (List.Sublist.refl _));have r:=hE9.rule 0 rfl;unfold rtv at r;go_wp2_with fail;refine (end_m 0 1 (by simp [rtv]) hE9 rfl).mono ?_;rintro o w10 ⟨rfl,nx',hE10⟩;go_wp2_with fail;go_ret;exact ⟨rfl,k8,F8,G9,hrm,hE10.sub (.cons _ (List.Sublist.refl _))⟩
end
def mvE (a o:Nat):Value:=.func (.func 140) #[.pointer (some ⟨a,o,none⟩)] #[]
section
variable {w0 w:World} {R L:List Item} {l:Nat} {S:ST} {nx:Value} {x y z W C X k key to:Int}
theorem mark_k (hX:InU X) (hmk:markB X=false) (hs0:S.hs=0) (hC:In64 C) (hg:Glo w0) (hm:S.m < maxLen) (hE:Env w0 (boxI l (ukC S.c x y z W C X k key to nx 0)::LT S R) w) :
  Calls prog 281 #[.pointer (some ⟨l,0,none⟩),.iface 28 (.pointer (some ⟨S.p,0,none⟩))] w fun o w'=>o=.returned (.int .i64 (if S.f (5,C,7)=X then 0 else 2))/\∃ G' nx',(S.f (5,C,7)=X->nx'=mvL 297 l)/\Env w0 (boxI l (ukC S.c x y z W C X k key to nx' (if S.f (5,C,7)=X then 0 else 2))::LT { S with G:=G',f:=swf S.f (5,C,7) X (wordI true to S.ce),qc:=swq S.qc (decide (S.f (5,C,7)=X)),m:=S.m+1 } R) w':=by
 have hmf:=makeF;have hah:=ahead_swap;have hb:(S.hs != 0)=false:=by simpa using hs0
 have HWF:Hid (Wf (5,C,7)):=zH (by unfold Wf; exact ⟨by show In64 5; unfold In64; omega,hC,by show In64 7; unfold In64; omega⟩);have hqi:InU (wordI true to S.ce):=wordI_in _ _ _;have hto:=fun (v:World) (hv:Below w0.heap.size w0 v) (hb:Blk 0 v S.c (crv S.ck S.cs S.cb S.ch S.cl S.ce S.cr S.hs 0 S.q))=>markNew_c X 0 false to 0 hX hmk (hg.keep' hv) hb;obtain ⟨q,hq⟩:∃ q,wordI true to S.ce=q:=⟨_,rfl⟩;rw [hq] at hqi ⊢;simp only [hq] at hto;have HQI:=zH hqi;have HTO:=zH hto;clear hq hqi hto hg hs0 hmk hC;obtain ⟨dd,hdd⟩:∃ dd,decide (S.f (5,C,7)=X)=dd:=⟨_,rfl⟩;have hds:(if S.f (5,C,7)=X then (0:Int) else 2)=if dd then 0 else 2:=by rw [<- hdd]; by_cases h:S.f (5,C,7)=X<;>simp [h]
 have hdp:S.f (5,C,7)=X ↔ dd=true:=by rw [<- hdd]; simp
 rw [hds,hdd];simp only [hdp];clear hds hdp;have HDD:=zH hdd;clear hdd hX;go_enter func281,ntmps281;go_wp2_with fail;refine Ord.wc [29] (fun v=>Below w0.heap.size w0 v/\Blk 0 v l (ukC S.c x y z W C X k key to nx 0)/\Blk 0 v S.c (crv S.ck S.cs S.cb S.ch S.cl S.ce S.cr S.hs 0 S.q)) (fun k9 w'=>∃ G5,Env w0 (boxI l (ukC S.c x y z W C X k key to nx 0)::LT (if k9=0 then S else { S with G:=G5,f:=swf S.f (5,C,7) X q,qc:=swq S.qc dd,m:=S.m+1 }) R) w') ⟨hE.drew.below,hE.drew.get 0 rfl,hE.drew.get 1 rfl⟩ ⟨S.G,hE.drew⟩ fun hT9=>?_
 repeat ((first
  | (refine Ord.cv ?_ hT9.o ?_ ?_; rotate_left; (intro w5 hS; have r:=hS.2.1.rule; unfold ukC at r; go_simp<;>rfl))
  | (refine Ord.co hT9.o ?_)
  | (refine Ord.cc ?_ ?_ ?_ hT9.o ?_ ?_ ?_; rotate_left 3; (intro w5 hS; have r:=hS.2.1.rule; unfold ukC at r; go_simp; constructor<;>rfl); (intro w5 hS; (first | (with_reducible refine kp (linkOf_any _ _ _) ?_ ?_; rfl; exact fun w6 hb6=>⟨⟨hS.1.trans (hb6.mono hS.1.size),hS.2.1.under hb6,hS.2.2.under hb6⟩,fun k h=>h.elim fun G5 h=>⟨G5,h.over hb6⟩⟩) | (with_reducible refine kp (HTO.out _ hS.1 hS.2.2) ?_ ?_; rfl; exact fun w6 hb6=>⟨⟨hS.1.trans (hb6.mono hS.1.size),hS.2.1.under hb6,hS.2.2.under hb6⟩,fun k h=>h.elim fun G5 h=>⟨G5,h.over hb6⟩⟩)))));try simp only [Act.put,zA,zZ,zS])
 refine Ord.ch_turn (v:=.bool dd) 0 hT9.o rfl (by decide) (Or.inl rfl) (by rfl) ?_ ?_
 ·rintro w5 hC5 ⟨G5,hA5⟩;simp only [if_true] at hA5;go_simp;rw [method_swap];simp only [Result.andThen_ok];go_simp;simp only [Ord.LandsIn];have hsw:=swap_w 5 C 7 0 X 0 q 0 false false HWF.out HQI.out hm 3 4 (by decide) hA5 rfl rfl;rw [HDD.out] at hsw;refine hsw.mono ?_;rintro e w6 ⟨rfl,G6,hE6⟩;exact ⟨rfl,⟨hE6.below,hE6.get 0 rfl,hE6.get 1 rfl⟩,G6,hE6⟩
 try simp only [Act.put,zA,zZ,zS]
 repeat ((first
  | (refine Ord.cv ?_ hT9.o ?_ ?_; rotate_left; (intro w5 hS; skip; go_simp<;>rfl))
  | (refine Ord.co hT9.o ?_));try simp only [Act.put,zA,zZ,zS])
 refine Ord.InText.nil fun w5 hS=>?_;clear hT9;obtain ⟨hC9,hA9⟩:=Ord.chain_end hS;clear hS;obtain ⟨G9,hA9⟩:=hA9;simp only [List.length_cons,List.length_nil,Nat.zero_add,Nat.one_ne_zero,if_false] at hA9;clear hC9 hE HTO HDD;have r:=hA9.rule 0 rfl;unfold ukC at r;cases dd
 ·go_wp2_with fail;refine (end_r (o:=17) 0 2 (by simp [ukC]) hA9 rfl).mono ?_;rintro o w5 ⟨rfl,hE5⟩;go_wp2_with fail;go_ret
  first | exact ⟨rfl,G9,nx,fun h=>absurd h (by decide),hE5⟩ | exact ⟨rfl,G9,nx,hE5⟩
 ·go_wp2_with fail;refine (held_c (hA9.get 1 rfl)).mono ?_;rintro o w4 ⟨rfl,hb1⟩;rw [hb];have hE2:=(hA9.over hb1).box w4.heap.size rfl [.int .i64 S.hs,.int .i64 0] 110;clear hb1 hA9 r hb;go_wp2_with fail;generalize w4.alloc _=w6 at *;generalize w4.heap.size=Y at *;obtain ⟨S2,hS2⟩:∃ S2:ST,{ S with G:=G9,f:=swf S.f (5,C,7) X q,qc:=swq S.qc true,m:=S.m+1 }=S2:=⟨_,rfl⟩;rw [hS2] at hE2;have HS2:=zH hS2;clear hS2;refine wp_text (S:=(Env w0 (boxI Y [.int .i64 S.hs,.int .i64 0]::boxI l (ukC S.c x y z W C X k key to nx 0)::LT S2 R))) (by kernel_rfl) (by kernel_rfl) hE2.drew (fun hT=>?_);have hT9:=zH hT;clear hT
  repeat ((first
   | (refine text_value (v:=?_) hT9.o (by rfl) ?_ ?_; rotate_left; (intro w5 hS; have r:=hS.rule 1 rfl; have r1:=hS.rule 0 rfl; unfold ukC at r; go_simp<;>rfl))
   | (refine text_off hT9.o (by rfl) ?_)
   | (refine text_call (v:=?_) (f:=?_) (args:=?_) hT9.o (by rfl) ?_ ?_ ?_; rotate_left 3; (intro w5 hS; have r:=hS.rule 1 rfl; have r1:=hS.rule 0 rfl; unfold ukC at r; go_simp; constructor<;>rfl); (intro w5 hS; (first | fail))));try simp only [Act.put,zA,zZ,zS])
  refine InText.nil fun w5 hS5=>?_;clear hT9;clear hE2;go_wp2_with fail;refine (goOn_r (o:=17) 1 _ _ _ (by simp [ukC]) hS5 rfl).mono ?_;rintro o w7 ⟨rfl,hE7⟩;go_wp2_with fail;go_ret;have h2:=HS2.out;subst h2
  first | exact ⟨rfl,G9,_,fun _=>rfl,hE7.sub (.cons _ (List.Sublist.refl _))⟩ | exact ⟨rfl,G9,_,rfl,hE7.sub (.cons _ (List.Sublist.refl _))⟩ | exact ⟨rfl,G9,hE7.sub (.cons _ (List.Sublist.refl _))⟩
theorem retire_k (u:Int) (hE:Env w0 (boxI l (ukC S.c x y z W C X k key to nx 0)::L) w) :
  Calls prog 306 #[.pointer (some ⟨l,0,none⟩),.int .i64 u] w fun o w'=>o=.returned (.int .i64 0)/\∃ b1 b2 r,Env w0 (boxI l (ukC S.c x y z W C X k key to (cvP b1 b2) 0)::boxI b1 [mvL 304 r]::boxI b2 [mvE l 17]::boxI r (rtv S.c (nxR r 0) C 0)::L) w':=by
 have hmf:=makeF;go_enter func306,ntmps306;go_wp2_with fail;refine Ord3.wp_chain [?_,?_,?_,?_,?_,?_,?_,?_,?_,?_,?_,?_,?_,?_,?_,?_,?_,?_,?_,?_] [12,13,18] (fun w'=>∃ nx9,Blk 0 w' l (ukC S.c x y z W C X k key to nx9 0)) (Ord3.Stage fun κs=>[Env w0 (boxI l (ukC S.c x y z W C X k key to nx 0)::L),fun w'=>∃ r,κs.getD 0 undef=.pointer (some ⟨r,0,none⟩)/\Env w0 (boxI r (rtv S.c (nxR r 0) C 0)::boxI l (ukC S.c x y z W C X k key to nx 0)::L) w',fun w'=>∃ r,κs.getD 1 undef=mvL 304 r/\Env w0 (boxI r (rtv S.c (nxR r 0) C 0)::boxI l (ukC S.c x y z W C X k key to nx 0)::L) w',fun w'=>∃ b1 b2 r,Env w0 (boxI b1 [mvL 304 r]::boxI b2 [mvE l 17]::boxI r (rtv S.c (nxR r 0) C 0)::boxI l (ukC S.c x y z W C X k key to (cvP b1 b2) 0)::L) w']) (by kernel_rfl) (by kernel_rfl) (by kernel_rfl) ⟨nx,hE.drew.get 0 rfl⟩ ⟨_,rfl,hE.drew⟩ (fun hT=>?_);rotate_left 20;have hT9:=zH hT;clear hT
 repeat ((first
  | (focus (refine Ord3.in_value (v:=?_) hT9.o (by decide) ?_ (by rfl) ?_ ?_; rotate_left 2; (intro w5 hS; obtain ⟨nx9,hS9⟩:=hS; have r1:=Blk.rule hS9; unfold ukC at r1; go_simp<;>rfl); rotate_right; (focus rfl)))
  | (focus (refine Ord3.in_off hT9.o (by decide) ?_ (by rfl) ?_; (focus rfl))));try simp only [Act.put,zA,zZ,zS])
 refine Ord3.in_turn (fun u=>∃ q,u=.pointer (some ⟨q,0,none⟩)) _ ⟨0,rfl⟩ hT9.o rfl (by decide) (by rfl) ?_ (Or.inl rfl) (by rfl) ?_ ?_
 ·rfl
 ·rintro w7 hC7 ⟨P7,hP7,hA7⟩;cases hP7;go_simp;simp only [Ord3.Lands];refine (new_r C hA7).mono ?_;rintro o w8 ⟨r8,rfl,hE8⟩;exact ⟨_,rfl,⟨r8,rfl⟩,⟨nx,hE8.get 1 rfl⟩,_,rfl,r8,rfl,hE8⟩
 rintro _ ⟨r9,rfl⟩
 try simp only [Act.put,zA,zZ,zS]
 refine Ord3.in_turn (fun u=>∃ q,u=mvL 304 q) _ ⟨0,rfl⟩ hT9.o rfl (by decide) (by rfl) ?_ (Or.inr ⟨_,12,[],rfl,by kernel_rfl,by kernel_rfl,rfl⟩) (by rfl) ?_ ?_
 ·rfl
 ·rintro w7 hC7 ⟨P7,hP7,hA7⟩;cases hP7;obtain ⟨r8,he,hA7⟩:=hA7;cases he;go_simp;simp only [Ord3.Lands];exact ⟨⟨_,rfl⟩,hC7,_,rfl,r9,rfl,hA7⟩
 rintro _ ⟨r9,rfl⟩
 try simp only [Act.put,zA,zZ,zS]
 repeat ((first
  | (focus (refine Ord3.in_value (v:=?_) hT9.o (by decide) ?_ (by rfl) ?_ ?_; rotate_left 2; (intro w5 hS; obtain ⟨nx9,hS9⟩:=hS; have r1:=Blk.rule hS9; unfold ukC at r1; go_simp<;>rfl); rotate_right; (focus rfl)))
  | (focus (refine Ord3.in_off hT9.o (by decide) ?_ (by rfl) ?_; (focus rfl))));try simp only [Act.put,zA,zZ,zS])
 refine Ord3.in_turn (fun u=>u=.int .i64 0) _ rfl hT9.o rfl (by decide) (by rfl) ?_ (Or.inr ⟨_,13,[],rfl,by kernel_rfl,by kernel_rfl,rfl⟩) (by rfl) ?_ ?_
 ·rfl
 ·rintro w7 hC7 ⟨P7,hP7,hA7⟩;cases hP7;obtain ⟨r8,he,hA7⟩:=hA7;cases he;go_simp;simp only [Ord3.Lands];refine (play_r (o:=17) 1 _ _ _ _ _ _ (by simp [ukC]) hA7 rfl).mono ?_;rintro o w8 ⟨rfl,b1,b2,hE8⟩;exact ⟨_,rfl,rfl,⟨_,hE8.get 3 rfl⟩,_,rfl,b1,b2,r9,hE8⟩
 rintro _ rfl
 try simp only [Act.put,zA,zZ,zS]
 repeat ((first
  | (focus (refine Ord3.in_value (v:=?_) hT9.o (by decide) ?_ (by rfl) ?_ ?_; rotate_left 2; (intro w5 hS; skip; go_simp<;>rfl); rotate_right; (focus rfl)))
  | (focus (refine Ord3.in_off hT9.o (by decide) ?_ (by rfl) ?_; (focus rfl))));try simp only [Act.put,zA,zZ,zS])
 refine Ord3.in_nil rfl ?_;rintro w9 hC9 ⟨P9,hP9,hA9⟩;cases hP9;obtain ⟨b1,b2,r8,hA9⟩:=hA9;clear hT9 hC9 hE;go_wp2_with fail;go_ret;exact ⟨rfl,b1,b2,r8,hA9.perm (List.perm_middle (l₁:=[_,_,_]))⟩
theorem cut_k (hwf:Wf (x,y,z)) (hg:Glo w0) (hm:S.m < maxLen) (hE:Env w0 (boxI l (ukC S.c x y z W C X k key to nx 0)::LT S R) w) :
  Calls prog 297 #[.pointer (some ⟨l,0,none⟩),.iface 28 (.pointer (some ⟨S.p,0,none⟩))] w fun o w'=>o=.returned (.int .i64 0)/\∃ G' b1 b2,
   (S.f (x,y,z)=W/\∃ r,Env w0 (boxI l (ukC S.c x y z W C X k key to (cvP b1 b2) 0)::boxI b1 [mvL 304 r]::boxI b2 [mvE l 17]::boxI r (rtv S.c (nxR r 0) C 0)::LT { S with G:=G',f:=swf S.f (x,y,z) W (wordI false to S.ce),qc:=swq S.qc true,m:=S.m+1 } R) w') \/
   (S.f (x,y,z)≠W/\∃ sb,Env w0 (boxI l (ukC S.c x y z W C X k key to (cvP b1 b2) 0)::boxI b1 [mvL 190 sb]::boxI b2 [mvL 306 l]::boxI sb (srC S.c k key false (.pointer none))::LT { S with G:=G',f:=swf S.f (x,y,z) W (wordI false to S.ce),qc:=swq S.qc false,m:=S.m+1 } R) w'):=by
 have hmf:=makeF;have hah:=ahead_swap;have HWF:=zH hwf;have hqi:InU (wordI false to S.ce):=wordI_in _ _ _;have hto:=fun (v:World) (hv:Below w0.heap.size w0 v) (hb:Blk 0 v S.c (crv S.ck S.cs S.cb S.ch S.cl S.ce S.cr S.hs 0 S.q))=>to_c to 0 (hg.keep' hv) hb;obtain ⟨q,hq⟩:∃ q,wordI false to S.ce=q:=⟨_,rfl⟩;rw [hq] at hqi ⊢;simp only [hq] at hto;have HQI:=zH hqi;have HTO:=zH hto;clear hq hqi hto hg hwf;obtain ⟨dd,hdd⟩:∃ dd,decide (S.f (x,y,z)=W)=dd:=⟨_,rfl⟩;have HDD:=zH hdd;clear hdd;go_enter func297,ntmps297;go_wp2_with fail;refine Ord.wc [23] (fun v=>Below w0.heap.size w0 v/\Blk 0 v l (ukC S.c x y z W C X k key to nx 0)/\Blk 0 v S.c (crv S.ck S.cs S.cb S.ch S.cl S.ce S.cr S.hs 0 S.q)) (fun k9 w'=>∃ G5,Env w0 (boxI l (ukC S.c x y z W C X k key to nx 0)::LT (if k9=0 then S else { S with G:=G5,f:=swf S.f (x,y,z) W q,qc:=swq S.qc dd,m:=S.m+1 }) R) w') ⟨hE.drew.below,hE.drew.get 0 rfl,hE.drew.get 1 rfl⟩ ⟨S.G,hE.drew⟩ fun hT9=>?_
 repeat ((first
  | (refine Ord.cv ?_ hT9.o ?_ ?_; rotate_left; (intro w5 hS; have r:=hS.2.1.rule; unfold ukC at r; go_simp<;>rfl))
  | (refine Ord.co hT9.o ?_)
  | (refine Ord.cc ?_ ?_ ?_ hT9.o ?_ ?_ ?_; rotate_left 3; (intro w5 hS; have r:=hS.2.1.rule; unfold ukC at r; go_simp; constructor<;>rfl); (intro w5 hS; (first | (with_reducible refine kp (HTO.out _ hS.1 hS.2.2) ?_ ?_; rfl; exact fun w6 hb6=>⟨⟨hS.1.trans (hb6.mono hS.1.size),hS.2.1.under hb6,hS.2.2.under hb6⟩,fun k h=>h.elim fun G5 h=>⟨G5,h.over hb6⟩⟩)))));try simp only [Act.put,zA,zZ,zS])
 refine Ord.ch_turn (v:=.bool dd) 0 hT9.o rfl (by decide) (Or.inl rfl) (by rfl) ?_ ?_
 ·rintro w5 hC5 ⟨G5,hA5⟩;simp only [if_true] at hA5;go_simp;rw [method_swap];simp only [Result.andThen_ok];go_simp;simp only [Ord.LandsIn];have hsw:=swap_w x y z 0 W 0 q 0 false false HWF.out HQI.out hm 3 4 (by decide) hA5 rfl rfl;rw [HDD.out] at hsw;refine hsw.mono ?_;rintro e w6 ⟨rfl,G6,hE6⟩;exact ⟨rfl,⟨hE6.below,hE6.get 0 rfl,hE6.get 1 rfl⟩,G6,hE6⟩
 try simp only [Act.put,zA,zZ,zS]
 repeat ((first
  | (refine Ord.cv ?_ hT9.o ?_ ?_; rotate_left; (intro w5 hS; skip; go_simp<;>rfl))
  | (refine Ord.co hT9.o ?_));try simp only [Act.put,zA,zZ,zS])
 refine Ord.InText.nil fun w5 hS=>?_;clear hT9;obtain ⟨hC9,hA9⟩:=Ord.chain_end hS;clear hS;obtain ⟨G9,hA9⟩:=hA9;simp only [List.length_cons,List.length_nil,Nat.zero_add,Nat.one_ne_zero,if_false] at hA9;clear hC9 hE HTO;cases dd
 ·have hne:S.f (x,y,z)≠W:=by simpa using HDD.out
  have HNE:=zH hne;clear hne HDD;obtain ⟨S2,hS2⟩:∃ S2:ST,{ S with G:=G9,f:=swf S.f (x,y,z) W q,qc:=swq S.qc false,m:=S.m+1 }=S2:=⟨_,rfl⟩;have hc2:S2.c=S.c:=by rw [<- hS2]
  rw [hS2] at hA9;have HS2:=zH hS2;obtain ⟨L2,hL2⟩:∃ L2,LT S2 R=L2:=⟨_,rfl⟩;rw [hL2] at hA9;have HL2:=zH hL2;clear hS2 hc2 hL2;go_wp2_with fail;refine Ord3.wp_chain [?_,?_,?_,?_,?_,?_,?_,?_,?_,?_,?_,?_,?_,?_,?_,?_,?_,?_,?_,?_,?_] [15,16,19] (fun w'=>∃ nx9,Blk 0 w' l (ukC S.c x y z W C X k key to nx9 0)) (Ord3.Stage fun κs=>[Env w0 (boxI l (ukC S.c x y z W C X k key to nx 0)::L2),fun w'=>∃ r,κs.getD 0 undef=.pointer (some ⟨r,0,none⟩)/\Env w0 (boxI r (srC S.c k key false (.pointer none))::boxI l (ukC S.c x y z W C X k key to nx 0)::L2) w',fun w'=>∃ r,κs.getD 1 undef=mvL 190 r/\Env w0 (boxI r (srC S.c k key false (.pointer none))::boxI l (ukC S.c x y z W C X k key to nx 0)::L2) w',fun w'=>∃ b1 b2 r,Env w0 (boxI b1 [mvL 190 r]::boxI b2 [mvL 306 l]::boxI r (srC S.c k key false (.pointer none))::boxI l (ukC S.c x y z W C X k key to (cvP b1 b2) 0)::L2) w']) (by kernel_rfl) (by kernel_rfl) (by kernel_rfl) ⟨nx,hA9.drew.get 0 rfl⟩ ⟨_,rfl,hA9.drew⟩ (fun hT=>?_);rotate_left 21;have hT9:=zH hT;clear hT
  repeat ((first
   | (focus (refine Ord3.in_value (v:=?_) hT9.o (by decide) ?_ (by rfl) ?_ ?_; rotate_left 2; (intro w5 hS; obtain ⟨nx9,hS9⟩:=hS; have r1:=Blk.rule hS9; unfold ukC at r1; go_simp<;>rfl); rotate_right; (focus rfl)))
   | (focus (refine Ord3.in_off hT9.o (by decide) ?_ (by rfl) ?_; (focus rfl))));try simp only [Act.put,zA,zZ,zS])
  refine Ord3.in_turn (fun u=>∃ q,u=.pointer (some ⟨q,0,none⟩)) _ ⟨0,rfl⟩ hT9.o rfl (by decide) (by rfl) ?_ (Or.inl rfl) (by rfl) ?_ ?_
  ·rfl
  ·rintro w7 hC7 ⟨P7,hP7,hA7⟩;cases hP7;go_simp;simp only [Ord3.Lands];refine (newSearch_l S.c k key false hA7).mono ?_;rintro o w8 ⟨r8,rfl,hE8⟩;exact ⟨_,rfl,⟨r8,rfl⟩,⟨nx,hE8.get 1 rfl⟩,_,rfl,r8,rfl,hE8⟩
  rintro _ ⟨r9,rfl⟩
  try simp only [Act.put,zA,zZ,zS]
  refine Ord3.in_turn (fun u=>∃ q,u=mvL 190 q) _ ⟨0,rfl⟩ hT9.o rfl (by decide) (by rfl) ?_ (Or.inr ⟨_,15,[],rfl,by kernel_rfl,by kernel_rfl,rfl⟩) (by rfl) ?_ ?_
  ·rfl
  ·rintro w7 hC7 ⟨P7,hP7,hA7⟩;cases hP7;obtain ⟨r8,he,hA7⟩:=hA7;cases he;go_simp;simp only [Ord3.Lands];exact ⟨⟨_,rfl⟩,hC7,_,rfl,r9,rfl,hA7⟩
  rintro _ ⟨r9,rfl⟩
  try simp only [Act.put,zA,zZ,zS]
  repeat ((first
   | (focus (refine Ord3.in_value (v:=?_) hT9.o (by decide) ?_ (by rfl) ?_ ?_; rotate_left 2; (intro w5 hS; obtain ⟨nx9,hS9⟩:=hS; have r1:=Blk.rule hS9; unfold ukC at r1; go_simp<;>rfl); rotate_right; (focus rfl)))
   | (focus (refine Ord3.in_off hT9.o (by decide) ?_ (by rfl) ?_; (focus rfl))));try simp only [Act.put,zA,zZ,zS])
  refine Ord3.in_turn (fun u=>u=.int .i64 0) _ rfl hT9.o rfl (by decide) (by rfl) ?_ (Or.inr ⟨_,16,[],rfl,by kernel_rfl,by kernel_rfl,rfl⟩) (by rfl) ?_ ?_
  ·rfl
  ·rintro w7 hC7 ⟨P7,hP7,hA7⟩;cases hP7;obtain ⟨r8,he,hA7⟩:=hA7;cases he;go_simp;simp only [Ord3.Lands];refine (play_r (o:=17) 1 _ _ _ _ _ _ (by simp [ukC]) hA7 rfl).mono ?_;rintro o w8 ⟨rfl,b1,b2,hE8⟩;exact ⟨_,rfl,rfl,⟨_,hE8.get 3 rfl⟩,_,rfl,b1,b2,r9,hE8⟩
  rintro _ rfl
  try simp only [Act.put,zA,zZ,zS]
  repeat ((first
   | (focus (refine Ord3.in_value (v:=?_) hT9.o (by decide) ?_ (by rfl) ?_ ?_; rotate_left 2; (intro w5 hS; skip; go_simp<;>rfl); rotate_right; (focus rfl)))
   | (focus (refine Ord3.in_off hT9.o (by decide) ?_ (by rfl) ?_; (focus rfl))));try simp only [Act.put,zA,zZ,zS])
  refine Ord3.in_nil rfl ?_;rintro w9 hC9 ⟨P9,hP9,hA9⟩;cases hP9;obtain ⟨b1,b2,r8,hA9⟩:=hA9;clear hT9 hC9;go_wp2_with fail;go_ret;have h3:=HL2.out;subst h3;have h2:=HS2.out;subst h2;exact ⟨rfl,G9,b1,b2,.inr ⟨HNE.out,r8,hA9.perm (List.perm_middle (l₁:=[_,_,_]))⟩⟩
 ·have hne:S.f (x,y,z)=W:=by simpa using HDD.out
  have HNE:=zH hne;clear hne HDD;go_wp2_with fail;refine (retire_k 1 hA9).mono ?_;rintro o w7 ⟨rfl,b1,b2,r8,hE7⟩;go_wp2_with fail;go_ret;exact ⟨rfl,G9,b1,b2,.inl ⟨HNE.out,r8,hE7⟩⟩
end
section
variable {w0 w:World} {L:List Item} {o c:Nat} {kd key val lv:Int} {nx sp:Value} {er st:Int} {dn:Bool}
theorem find_o (hE:Env w0 (boxI o (opC c kd key val lv nx 0 sp er dn)::L) w) :
  Calls prog 159 #[.pointer (some ⟨o,0,none⟩)] w fun r w'=>r=.returned (.int .i64 0)/\∃ b1 b2 sb,Env w0 (boxI o (opC c kd key val lv (cvP b1 b2) 0 (.pointer (some ⟨sb,0,none⟩)) er dn)::boxI b1 [mvL 190 sb]::boxI b2 [mvL 191 o]::boxI sb (srC c 0 key false (.pointer none))::L) w':=by
 have hmf:=makeF;go_enter func159,ntmps159;go_wp2_with fail;refine Ord3.wp_chain [?_,?_,?_,?_,?_,?_,?_,?_,?_,?_,?_,?_,?_,?_] [10,13] (fun w'=>∃ sp9,Blk 0 w' o (opC c kd key val lv nx 0 sp9 er dn)) (Ord3.Stage fun κs=>[Env w0 (boxI o (opC c kd key val lv nx 0 sp er dn)::L),fun w'=>∃ r,κs.getD 0 undef=.pointer (some ⟨r,0,none⟩)/\Env w0 (boxI r (srC c 0 key false (.pointer none))::boxI o (opC c kd key val lv nx 0 sp er dn)::L) w',fun w'=>∃ r,Env w0 (boxI r (srC c 0 key false (.pointer none))::boxI o (opC c kd key val lv nx 0 (.pointer (some ⟨r,0,none⟩)) er dn)::L) w']) (by kernel_rfl) (by kernel_rfl) (by kernel_rfl) ⟨sp,hE.drew.get 0 rfl⟩ ⟨_,rfl,hE.drew⟩ (fun hT=>?_);rotate_left 14;have hT9:=zH hT;clear hT
 repeat ((first
  | (focus (refine Ord3.in_value (v:=?_) hT9.o (by decide) ?_ (by rfl) ?_ ?_; rotate_left 2; (intro w5 hS; obtain ⟨sp9,hS9⟩:=hS; have r1:=Blk.rule hS9; unfold opC at r1; go_simp<;>rfl); rotate_right; (focus rfl)))
  | (focus (refine Ord3.in_off hT9.o (by decide) ?_ (by rfl) ?_; (focus rfl))));try simp only [Act.put,zA,zZ,zS])
 refine Ord3.in_turn (fun u=>∃ q,u=.pointer (some ⟨q,0,none⟩)) _ ⟨0,rfl⟩ hT9.o rfl (by decide) (by rfl) ?_ (Or.inl rfl) (by rfl) ?_ ?_
 ·rfl
 ·rintro w7 hC7 ⟨P7,hP7,hA7⟩;cases hP7;go_simp;simp only [Ord3.Lands];refine (newSearch_l c 0 key false hA7).mono ?_;rintro o8 w8 ⟨r8,rfl,hE8⟩;exact ⟨_,rfl,⟨r8,rfl⟩,⟨sp,hE8.get 1 rfl⟩,_,rfl,r8,rfl,hE8⟩
 rintro _ ⟨r9,rfl⟩
 try simp only [Act.put,zA,zZ,zS]
 repeat ((first
  | (focus (refine Ord3.in_value (v:=?_) hT9.o (by decide) ?_ (by rfl) ?_ ?_; rotate_left 2; (intro w5 hS; obtain ⟨sp9,hS9⟩:=hS; have r1:=Blk.rule hS9; unfold opC at r1; go_simp<;>rfl); rotate_right; (focus rfl)))
  | (focus (refine Ord3.in_off hT9.o (by decide) ?_ (by rfl) ?_; (focus rfl))));try simp only [Act.put,zA,zZ,zS])
 refine Ord3.in_turn (fun u=>u=undef) _ rfl hT9.o rfl (by decide) (by rfl) ?_ (Or.inr ⟨_,10,[],rfl,by kernel_rfl,by kernel_rfl,rfl⟩) (by rfl) ?_ ?_
 ·rfl
 ·rintro w7 hC7 ⟨P7,hP7,hA7⟩;cases hP7;obtain ⟨a8,he,hA7⟩:=hA7;cases he;have r:=hA7.rule 1 rfl;unfold opC at r;have g:=hA7.thaw 1 rfl 7 (by simp [opC]);go_simp;simp only [Ord3.Lands];have h9:=hA7.put 1 rfl (j:=7) (by simp [opC]) (.pointer (some ⟨r9,0,none⟩));exact ⟨trivial,⟨_,h9.get 1 rfl⟩,_,rfl,r9,h9⟩
 rintro _ rfl
 try simp only [Act.put,zA,zZ,zS]
 refine Ord3.in_nil rfl ?_;rintro w9 hC9 ⟨P9,hP9,hA9⟩;cases hP9;obtain ⟨sb,hA9⟩:=hA9;clear hT9 hC9 hE;go_wp2_with fail;refine Ord3.wp_chain [?_,?_,?_,?_,?_,?_,?_,?_,?_,?_,?_,?_] [10] (fun w'=>∃ nx9,Blk 0 w' o (opC c kd key val lv nx9 0 (.pointer (some ⟨sb,0,none⟩)) er dn)) (Ord3.Stage fun κs=>[Env w0 (boxI sb (srC c 0 key false (.pointer none))::boxI o (opC c kd key val lv nx 0 (.pointer (some ⟨sb,0,none⟩)) er dn)::L),fun w'=>∃ b1 b2,Env w0 (boxI b1 [mvL 190 sb]::boxI b2 [mvL 191 o]::boxI sb (srC c 0 key false (.pointer none))::boxI o (opC c kd key val lv (cvP b1 b2) 0 (.pointer (some ⟨sb,0,none⟩)) er dn)::L) w']) (by kernel_rfl) (by kernel_rfl) (by kernel_rfl) ⟨nx,hA9.drew.get 1 rfl⟩ ⟨_,rfl,hA9.drew⟩ (fun hT=>?_);rotate_left 12;have hT9:=zH hT;clear hT
 repeat ((first
  | (focus (refine Ord3.in_value (v:=?_) hT9.o (by decide) ?_ (by rfl) ?_ ?_; rotate_left 2; (intro w5 hS; obtain ⟨nx9,hS9⟩:=hS; have r1:=Blk.rule hS9; unfold opC at r1; go_simp<;>rfl); rotate_right; (focus rfl)))
  | (focus (refine Ord3.in_off hT9.o (by decide) ?_ (by rfl) ?_; (focus rfl))));try simp only [Act.put,zA,zZ,zS])
 refine Ord3.in_turn (fun u=>u=.int .i64 0) _ rfl hT9.o rfl (by decide) (by rfl) ?_ (Or.inl rfl) (by rfl) ?_ ?_
 ·rfl
 ·rintro w7 hC7 ⟨P7,hP7,hA7⟩;cases hP7;go_simp;simp only [Ord3.Lands];refine (play_r (o:=5) 1 _ _ _ _ _ _ (by simp [opC]) hA7 rfl).mono ?_;rintro o8 w8 ⟨rfl,b1,b2,hE8⟩;exact ⟨_,rfl,rfl,⟨_,hE8.get 3 rfl⟩,_,rfl,b1,b2,hE8⟩
 rintro _ rfl
 try simp only [Act.put,zA,zZ,zS]
 repeat ((first
  | (focus (refine Ord3.in_value (v:=?_) hT9.o (by decide) ?_ (by rfl) ?_ ?_; rotate_left 2; (intro w5 hS; skip; go_simp<;>rfl); rotate_right; (focus rfl)))
  | (focus (refine Ord3.in_off hT9.o (by decide) ?_ (by rfl) ?_; (focus rfl))));try simp only [Act.put,zA,zZ,zS])
 refine Ord3.in_nil rfl ?_;rintro w9 hC9 ⟨P9,hP9,hA9⟩;cases hP9;obtain ⟨b1,b2,hA9⟩:=hA9;clear hT9 hC9;go_wp2_with fail;go_ret;exact ⟨rfl,b1,b2,sb,hA9.perm (List.perm_middle (l₁:=[_,_,_]))⟩
theorem over_o (e2:Int) (d2:Bool) (hE:Env w0 (boxI o (opC c kd key val lv nx st sp er dn)::L) w) :
  Calls prog 223 #[.pointer (some ⟨o,0,none⟩),.agg #[.int .i64 e2,.bool d2,.int .u64 0]] w fun r w'=>r=.returned (.int .i64 1)/\Env w0 (boxI o (opC c kd key val lv nx 1 sp e2 d2)::L) w':=by
 have hE1:=hE.box w.heap.size rfl [.int .i64 e2,.bool d2,.int .u64 0] 57;have r0:=hE1.rule 0 rfl;have r:=hE1.rule 1 rfl;unfold opC at r;have f:=hE1.thaw 1 rfl;have f0:=f 8 (by simp [opC]);have f1:=f 9 (by simp [opC]);have f2:=f 10 (by simp [opC]);clear f;have hP:=((hE1.put 1 rfl (j:=8) (by simp [opC]) (.int .i64 e2)).put 1 rfl (j:=9) (by simp [opC]) (.bool d2)).put 1 rfl (j:=10) (by simp [opC]) (.int .u64 0);have HEN:=zH (end_r (o:=5) 1 1 (by simp [opC]) hP rfl);clear hE hE1 hP;go_enter func223,ntmps223;go_wp2_with fail;refine HEN.out.mono ?_;rintro e w1 ⟨rfl,hE2⟩;go_wp2_with fail;go_ret;exact ⟨rfl,hE2.sub (.cons _ (List.Sublist.refl _))⟩
theorem changedDone_o (hE:Env w0 (boxI o (opC c kd key val lv nx 0 sp er dn)::L) w) :
  Calls prog 249 #[.pointer (some ⟨o,0,none⟩),.int .i64 1] w fun r w'=>r=.returned (.int .i64 1)/\Env w0 (boxI o (opC c kd key val lv nx 1 sp 0 true)::L) w':=by
 have HO:=zH (over_o 0 true hE);clear hE;go_enter func249,ntmps249;go_wp2_with fail;refine HO.out.mono ?_;rintro e w1 ⟨rfl,hE2⟩;go_wp2_with fail;go_ret;exact ⟨rfl,hE2⟩
theorem changedFind_o (hE:Env w0 (boxI o (opC c kd key val lv nx 0 sp er dn)::L) w) :
  Calls prog 249 #[.pointer (some ⟨o,0,none⟩),.int .i64 2] w fun r w'=>r=.returned (.int .i64 0)/\∃ b1 b2 sb,Env w0 (boxI o (opC c kd key val lv (cvP b1 b2) 0 (.pointer (some ⟨sb,0,none⟩)) er dn)::boxI b1 [mvL 190 sb]::boxI b2 [mvL 191 o]::boxI sb (srC c 0 key false (.pointer none))::L) w':=by
 have HF:=zH (find_o hE);clear hE;go_enter func249,ntmps249;go_wp2_with fail;refine HF.out.mono ?_;rintro e w1 ⟨rfl,b1,b2,sb,hE2⟩;go_wp2_with fail;go_ret;exact ⟨rfl,b1,b2,sb,hE2⟩
end
section
variable {w0 w:World} {L R:List Item} {o sb a c:Nat} {S:ST} {kd key val lv:Int} {nx lnx:Value} {er st x y z W C X wd:Int} {dn pf:Bool} {pv:Int}
theorem seaHas_o (u:Int) (hk1:kd≠1) (hk2:kd≠2) (hE:Env w0 (boxI o (opC c kd key val lv nx 0 (.pointer (some ⟨sb,0,none⟩)) er dn)::boxI sb (srC c 0 key false (.pointer (some ⟨a,0,none⟩)))::boxI a (laneC c 0 key false lnx st x y z W C X wd pf pv)::L) w) :
  Calls prog 191 #[.pointer (some ⟨o,0,none⟩),.int .i64 u] w fun r w'=>r=.returned (.int .i64 1)/\Env w0 (boxI o (opC c kd key val lv nx 1 (.pointer (some ⟨sb,0,none⟩)) 0 pf)::L) w':=by
 have h1:(kd==1)=false:=by simpa using hk1
 have h2:(kd==2)=false:=by simpa using hk2
 have r:=hE.rule 0 rfl;unfold opC at r;clear hk1 hk2;go_enter func191,ntmps191;go_wp2_with fail;refine (lane_g (hE.get 1 rfl)).mono ?_;rintro e w1 ⟨rfl,rfl⟩;go_wp2_with fail;refine (found_g (hE.get 2 rfl)).mono ?_;rintro e w1 ⟨rfl,rfl⟩;go_wp2_with fail;refine (over_o 0 pf hE).mono ?_;rintro e w1 ⟨rfl,hE2⟩;go_wp2_with fail;go_ret;exact ⟨rfl,hE2.sub (.cons_cons _ (.cons _ (.cons _ (List.Sublist.refl _))))⟩
theorem removeNo_o (hE:Env w0 (boxI o (opC c kd key val lv nx 0 (.pointer (some ⟨sb,0,none⟩)) er dn)::boxI sb (srC c 0 key false (.pointer (some ⟨a,0,none⟩)))::boxI a (laneC c 0 key false lnx st x y z W C X wd false pv)::L) w) :
  Calls prog 222 #[.pointer (some ⟨o,0,none⟩),.pointer (some ⟨a,0,none⟩)] w fun r w'=>r=.returned (.int .i64 1)/\Env w0 (boxI o (opC c kd key val lv nx 1 (.pointer (some ⟨sb,0,none⟩)) 0 false)::L) w':=by
 go_enter func222,ntmps222;go_wp2_with fail;refine (found_g (hE.get 2 rfl)).mono ?_;rintro e w1 ⟨rfl,rfl⟩;go_wp2_with fail;refine (over_o 0 false hE).mono ?_;rintro e w1 ⟨rfl,hE2⟩;go_wp2_with fail;go_ret;exact ⟨rfl,hE2.sub (.cons_cons _ (.cons _ (.cons _ (List.Sublist.refl _))))⟩
theorem removeYes_o (hX:InU X) (hg:Glo w0) (hE:Env w0 (boxI o (opC c kd key val lv nx 0 (.pointer (some ⟨sb,0,none⟩)) er dn)::boxI sb (srC c 0 key false (.pointer (some ⟨a,0,none⟩)))::boxI a (laneC c 0 key false lnx st x y z W C X wd true pv)::L) w) :
  Calls prog 222 #[.pointer (some ⟨o,0,none⟩),.pointer (some ⟨a,0,none⟩)] w fun r w'=>r=.returned (.int .i64 0)/\∃ b1 b2 l,Env w0 (boxI o (opC c kd key val lv (cvP b1 b2) 0 (.pointer (some ⟨sb,0,none⟩)) er dn)::boxI b1 [mvL 252 l]::boxI b2 [mvL 249 o]::boxI l (ukC c x y z W C X 0 key (slotI X) (mvL 281 l) 0)::L) w':=by
 have hmf:=makeF;have HLE:=zH fun (v:World) (hv:Below w0.heap.size w0 v)=>lead_c X 0 false v hX (hg.keep' hv);obtain ⟨s,hs⟩:∃ s,slotI X=s:=⟨_,rfl⟩;rw [hs];simp only [hs] at HLE;clear hs hX hg;go_enter func222,ntmps222;go_wp2_with fail;refine (found_g (hE.get 2 rfl)).mono ?_;rintro e w1 ⟨rfl,rfl⟩;go_wp2_with fail;refine Ord3.wp_chain [?_,?_,?_,?_,?_,?_,?_,?_,?_,?_,?_,?_,?_,?_,?_] [13,14] (fun w'=>Below w0.heap.size w0 w'/\Blk 0 w' o (opC c kd key val lv nx 0 (.pointer (some ⟨sb,0,none⟩)) er dn)/\Blk 0 w' a (laneC c 0 key false lnx st x y z W C X wd true pv)) (Ord3.Stage fun κs=>[Env w0 (boxI o (opC c kd key val lv nx 0 (.pointer (some ⟨sb,0,none⟩)) er dn)::boxI sb (srC c 0 key false (.pointer (some ⟨a,0,none⟩)))::boxI a (laneC c 0 key false lnx st x y z W C X wd true pv)::L),fun w'=>∃ q,κs.getD 0 undef=.pointer (some ⟨q,0,none⟩)/\Env w0 (boxI q (ukC c x y z W C X 0 key s (mvL 281 q) 0)::boxI o (opC c kd key val lv nx 0 (.pointer (some ⟨sb,0,none⟩)) er dn)::boxI sb (srC c 0 key false (.pointer (some ⟨a,0,none⟩)))::boxI a (laneC c 0 key false lnx st x y z W C X wd true pv)::L) w',fun w'=>∃ q,κs.getD 1 undef=.pointer (some ⟨q,0,none⟩)/\Env w0 (boxI q (ukC c x y z W C X 0 key s (mvL 281 q) 0)::boxI o (opC c kd key val lv nx 0 (.pointer (some ⟨sb,0,none⟩)) er dn)::boxI sb (srC c 0 key false (.pointer (some ⟨a,0,none⟩)))::boxI a (laneC c 0 key false lnx st x y z W C X wd true pv)::L) w']) (by kernel_rfl) (by kernel_rfl) (by kernel_rfl) ⟨hE.drew.below,hE.drew.get 0 rfl,hE.drew.get 2 rfl⟩ ⟨_,rfl,hE.drew⟩ (fun hT=>?_);rotate_left 15;have hT9:=zH hT;clear hT
 repeat ((first
  | (focus (refine Ord3.in_value (v:=?_) hT9.o (by decide) ?_ (by rfl) ?_ ?_; rotate_left 2; (intro w5 hS; have r1:=Blk.rule hS.2.1; unfold opC at r1; go_simp<;>rfl); rotate_right; (focus rfl)))
  | (focus (refine Ord3.in_off hT9.o (by decide) ?_ (by rfl) ?_; (focus rfl)))
  | (focus (refine Ord3.in_call (v:=?_) (f:=?_) (args:=?_) hT9.o (by decide) ?_ (by rfl) ?_ ?_ ?_; rotate_left 4; (intro w5 hS; have r1:=Blk.rule hS.2.1; unfold opC at r1; go_simp; constructor<;>rfl); (intro w5 hS; (first | (with_reducible refine kp (out_g hS.2.2) ?_ ?_; rfl; exact fun w6 hb6=>⟨⟨hS.1.trans (hb6.mono hS.1.size),hS.2.1.under hb6,hS.2.2.under hb6⟩,fun us h=>Ord3.Stage.three h (fun h=>h.over hb6) (fun h=>h.elim fun q h=>⟨q,h.1,h.2.over hb6⟩) (fun h=>h.elim fun q h=>⟨q,h.1,h.2.over hb6⟩)⟩) | (with_reducible refine kp (HLE.out _ hS.1) ?_ ?_; rfl; exact fun w6 hb6=>⟨⟨hS.1.trans (hb6.mono hS.1.size),hS.2.1.under hb6,hS.2.2.under hb6⟩,fun us h=>Ord3.Stage.three h (fun h=>h.over hb6) (fun h=>h.elim fun q h=>⟨q,h.1,h.2.over hb6⟩) (fun h=>h.elim fun q h=>⟨q,h.1,h.2.over hb6⟩)⟩))); rotate_right; (focus rfl))));try simp only [Act.put,zA,zZ,zS])
 refine Ord3.in_turn (fun u=>∃ q,u=.pointer (some ⟨q,0,none⟩)) _ ⟨0,rfl⟩ hT9.o rfl (by decide) (by rfl) ?_ (Or.inl rfl) (by rfl) ?_ ?_
 ·rfl
 ·rintro w7 hC7 ⟨P7,hP7,hA7⟩;cases hP7;go_simp;simp only [Ord3.Lands];refine (newUnlink_k 0 key s 2 rfl hA7).mono ?_;rintro o8 w8 ⟨r8,rfl,hE8⟩;exact ⟨_,rfl,⟨r8,rfl⟩,⟨hE8.below,hE8.get 1 rfl,hE8.get 3 rfl⟩,_,rfl,r8,rfl,hE8⟩
 rintro _ ⟨q9,rfl⟩
 try simp only [Act.put,zA,zZ,zS]
 refine Ord3.in_turn (fun u=>∃ q,u=.pointer (some ⟨q,0,none⟩)) _ ⟨0,rfl⟩ hT9.o rfl (by decide) (by rfl) ?_ (Or.inr ⟨_,13,[],rfl,by kernel_rfl,by kernel_rfl,rfl⟩) (by rfl) ?_ ?_
 ·rfl
 ·rintro w7 hC7 ⟨P7,hP7,hA7⟩;cases hP7;obtain ⟨q8,he,hA7⟩:=hA7;cases he;go_simp;simp only [Ord3.Lands];exact ⟨⟨_,rfl⟩,hC7,_,rfl,q9,rfl,hA7⟩
 rintro _ ⟨q9,rfl⟩
 try simp only [Act.put,zA,zZ,zS]
 refine Ord3.in_nil rfl ?_;rintro w9 hC9 ⟨P9,hP9,hA9⟩;cases hP9;obtain ⟨q8,he,hA9⟩:=hA9;cases he;clear hT9 hC9 hE HLE;go_wp2_with fail;refine (play_r (o:=5) 1 _ _ _ _ _ _ (by simp [opC]) hA9 rfl).mono ?_;rintro o8 w8 ⟨rfl,b1,b2,hE8⟩;go_wp2_with fail;go_ret;refine ⟨rfl,b1,b2,q9,?_⟩;have h9:=hE8.sub (L':=boxI b1 [mvL 252 q9]::boxI b2 [mvL 249 o]::boxI q9 (ukC c x y z W C X 0 key s (mvL 281 q9) 0)::boxI o (opC c kd key val lv (cvP b1 b2) 0 (.pointer (some ⟨sb,0,none⟩)) er dn)::L) (.cons_cons _ (.cons_cons _ (.cons_cons _ (.cons_cons _ (.cons _ (.cons _ (List.Sublist.refl _)))))));exact h9.perm (List.perm_middle (l₁:=[_,_,_]))
theorem seaDelNo_o (u:Int) (hE:Env w0 (boxI o (opC c 2 key val lv nx 0 (.pointer (some ⟨sb,0,none⟩)) er dn)::boxI sb (srC c 0 key false (.pointer (some ⟨a,0,none⟩)))::boxI a (laneC c 0 key false lnx st x y z W C X wd false pv)::L) w) :
  Calls prog 191 #[.pointer (some ⟨o,0,none⟩),.int .i64 u] w fun r w'=>r=.returned (.int .i64 1)/\Env w0 (boxI o (opC c 2 key val lv nx 1 (.pointer (some ⟨sb,0,none⟩)) 0 false)::L) w':=by
 have r:=hE.rule 0 rfl;unfold opC at r;have HR:=zH (removeNo_o hE);go_enter func191,ntmps191;go_wp2_with fail;refine (lane_g (hE.get 1 rfl)).mono ?_;rintro e w1 ⟨rfl,rfl⟩;go_wp2_with fail;refine HR.out.mono ?_;rintro e w1 ⟨rfl,hE2⟩;go_wp2_with fail;go_ret;exact ⟨rfl,hE2⟩
theorem seaDelYes_o (u:Int) (hX:InU X) (hg:Glo w0) (hE:Env w0 (boxI o (opC c 2 key val lv nx 0 (.pointer (some ⟨sb,0,none⟩)) er dn)::boxI sb (srC c 0 key false (.pointer (some ⟨a,0,none⟩)))::boxI a (laneC c 0 key false lnx st x y z W C X wd true pv)::L) w) :
  Calls prog 191 #[.pointer (some ⟨o,0,none⟩),.int .i64 u] w fun r w'=>r=.returned (.int .i64 0)/\∃ b1 b2 l,Env w0 (boxI o (opC c 2 key val lv (cvP b1 b2) 0 (.pointer (some ⟨sb,0,none⟩)) er dn)::boxI b1 [mvL 252 l]::boxI b2 [mvL 249 o]::boxI l (ukC c x y z W C X 0 key (slotI X) (mvL 281 l) 0)::L) w':=by
 have r:=hE.rule 0 rfl;unfold opC at r;have HR:=zH (removeYes_o hX hg hE);clear hX hg;go_enter func191,ntmps191;go_wp2_with fail;refine (lane_g (hE.get 1 rfl)).mono ?_;rintro e w1 ⟨rfl,rfl⟩;go_wp2_with fail;refine HR.out.mono ?_;rintro e w1 ⟨rfl,b1,b2,l,hE2⟩;go_wp2_with fail;go_ret;exact ⟨rfl,b1,b2,l,hE2⟩
theorem insFound_o (hl:S.ql.length+1<=1048576) (hE:Env w0 (boxI o (opC S.c kd key val lv nx 0 (.pointer (some ⟨sb,0,none⟩)) er dn)::boxI sb (srC S.c 0 key false (.pointer (some ⟨a,0,none⟩)))::boxI a (laneC S.c 0 key false lnx st x y z W C X wd true pv)::LT S R) w) :
  Calls prog 221 #[.pointer (some ⟨o,0,none⟩),.pointer (some ⟨a,0,none⟩)] w fun r w'=>r=.returned (.int .i64 1)/\∃ F' k',Env w0 (boxI o (opC S.c kd key val lv nx 1 (.pointer (some ⟨sb,0,none⟩)) 0 false)::LT { S with ql:=dropQ S.hs S.ql,hs:=0,F:=F',kq:=k' } R) w':=by
 have r:=hE.rule 0 rfl;unfold opC at r
 by_cases hh:S.hs=0
 ·have HH:=zH hh;clear hh;go_enter func221,ntmps221;go_wp2_with fail;refine (found_g (hE.get 2 rfl)).mono ?_;rintro e w1 ⟨rfl,rfl⟩;go_wp2_with fail;refine (dropNo_c HH.out (hE.get 3 rfl)).mono ?_;rintro e w1 ⟨rfl,hb1⟩;replace hE:=hE.over hb1;clear hb1 r;go_wp2_with fail;refine (over_o 0 false hE).mono ?_;rintro e w1 ⟨rfl,hE2⟩;go_wp2_with fail;go_ret;have hh:=HH.out;rw [show dropQ S.hs S.ql=S.ql from if_pos hh];have h9:=hE2.sub (L':=boxI o (opC S.c kd key val lv nx 1 (.pointer (some ⟨sb,0,none⟩)) 0 false)::LT S R) (.cons_cons _ (.cons _ (.cons _ (List.Sublist.refl _))));have hS0:({ S with hs:=0 }:ST)=S:=by rw [<- hh]
  rw [<- hS0] at h9;exact ⟨rfl,S.F,S.kq,h9⟩
 ·have HH:=zH hh;have HL:=zH hl;clear hh hl;go_enter func221,ntmps221;go_wp2_with fail;refine (found_g (hE.get 2 rfl)).mono ?_;rintro e w1 ⟨rfl,rfl⟩;go_wp2_with fail;refine (dropYes_c HH.out 3 4 (by decide) hE rfl rfl HL.out).mono ?_;rintro e w1 ⟨rfl,k',F',-,hE1⟩;simp only [zZ,zS] at hE1;clear hE r;have r:=hE1.rule 0 rfl;unfold opC at r;go_wp2_with fail;refine (over_o 0 false hE1).mono ?_;rintro e w1 ⟨rfl,hE2⟩;go_wp2_with fail;go_ret;rw [show dropQ S.hs S.ql=S.ql++[(S.hs,0,0)] from if_neg HH.out];exact ⟨rfl,F',k',hE2.sub (.cons_cons _ (.cons _ (.cons _ (List.Sublist.refl _))))⟩
theorem seaInsFound_o (u:Int) (hl:S.ql.length+1<=1048576) (hE:Env w0 (boxI o (opC S.c 1 key val lv nx 0 (.pointer (some ⟨sb,0,none⟩)) er dn)::boxI sb (srC S.c 0 key false (.pointer (some ⟨a,0,none⟩)))::boxI a (laneC S.c 0 key false lnx st x y z W C X wd true pv)::LT S R) w) :
  Calls prog 191 #[.pointer (some ⟨o,0,none⟩),.int .i64 u] w fun r w'=>r=.returned (.int .i64 1)/\∃ F' k',Env w0 (boxI o (opC S.c 1 key val lv nx 1 (.pointer (some ⟨sb,0,none⟩)) 0 false)::LT { S with ql:=dropQ S.hs S.ql,hs:=0,F:=F',kq:=k' } R) w':=by
 have r:=hE.rule 0 rfl;unfold opC at r;have HR:=zH (insFound_o hl hE);clear hl;go_enter func191,ntmps191;go_wp2_with fail;refine (lane_g (hE.get 1 rfl)).mono ?_;rintro e w1 ⟨rfl,rfl⟩;go_wp2_with fail;refine HR.out.mono ?_;rintro e w1 ⟨rfl,F',k',hE2⟩;go_wp2_with fail;go_ret;exact ⟨rfl,F',k',hE2⟩
end
theorem enters_fn (pc:Nat) (ar:Array Value) (v:World):(callFunc (fnA pc) ar).run prog v=.ok (.enter (fnA pc) ar) v:=by
 unfold fnA
 repeat' split
 all_goals kernel_rfl
section
variable {w0 w:World} {R:List Item} {a:Nat} {S:ST} {M:MA}
theorem step_a (pc:Nat) (u:Value) (Q:Ending->World->Prop) (hE:Env w0 (boxI a (av S.c M)::LT S R) w) (hnx:M.nx=nxA a pc)
  (hc:Calls prog (fnA pc) #[.pointer (some ⟨a,0,none⟩),u] w fun e w'=>∃ s,e=.returned (.int .i64 s)/\Q (.returned (.int .i64 s)) w') :
  Calls prog 179 #[.pointer (some ⟨a,0,none⟩),u] w Q:=by
 have hn:w.cell? ⟨a,1,none⟩=some (.func (.func (fnA pc)) #[.pointer (some ⟨a,0,none⟩)] #[]):=by
  have:=hE.rule 0 rfl 1;rw [this,show (av S.c M)[1]?=some M.nx.1 from rfl,hnx];rfl
 have hs0:w.cell? ⟨a,1+1,none⟩=some (.int .i64 0):=by
  have:=hE.rule 0 rfl 2;rw [this,show (av S.c M)[2]?=some M.nx.2 from rfl,hnx];rfl
 have hst:=stepMv_r (o:=1) (fnA pc) (enters_fn pc) (.pointer (some ⟨a,0,none⟩)) u (fun o w'=>∃ s,o=.returned (.int .i64 s)/\Q (.returned (.int .i64 s)) w') hn hs0 (hc.mono fun e w' ⟨s,he,hq⟩=>⟨s,he,s,rfl,hq⟩);have HST:=zH hst;clear hst hc;go_enter func179,ntmps179;go_wp2_with fail;refine HST.out.mono ?_;rintro o w1 ⟨s,rfl,hQ⟩;go_wp2_with fail;exact hQ
theorem step_ay {st:Int} {Y:World->Prop} (pc:Nat) (u:Value) (hE:Env w0 (boxI a (av S.c M)::LT S R) w) (hnx:M.nx=nxA a pc)
  (hc:Calls prog (fnA pc) #[.pointer (some ⟨a,0,none⟩),u] w fun o w'=>o=.returned (.int .i64 st)/\Y w') :
  Calls prog 179 #[.pointer (some ⟨a,0,none⟩),u] w fun o w'=>o=.returned (.int .i64 st)/\Y w' :=
 step_a pc u _ hE hnx (hc.mono fun _ _ h=>⟨st,h.1,rfl,h.2⟩)
theorem new_a (k key val lv:Int) (hh:S.hs=0) (hE:Env w0 (LT S R) w) :
  Calls prog 177 #[.pointer (some ⟨S.c,0,none⟩),.agg #[.int .i64 k,.int .u64 key,.int .u64 val,.int .i64 lv]] w fun o w'=>(decP S.ql S.ce S.cl=0/\o=.returned (.tuple #[.pointer none,.int .i64 4])/\Env w0 (LT S R) w')\/(decP S.ql S.ce S.cl≠0/\∃ a,o=.returned (.tuple #[.pointer (some ⟨a,0,none⟩),.int .i64 0])/\Env w0 (boxI a (av S.c { nx:=nxA a (decP S.ql S.ce S.cl),left:=.slice none 0 0,k:=k,key:=key,val:=val,lv:=lv,h:=0,n:=0,r:=0,s:=0 })::LT S R) w'):=by
 have hE1:=hE.box w.heap.size rfl [.int .i64 k,.int .u64 key,.int .u64 val,.int .i64 lv] 51;have hb:(S.hs != 0)=false:=by simpa using hh
 clear hE;go_enter func177,ntmps177;go_wp2_with fail;refine (held_c (hE1.get 1 rfl)).mono ?_;rintro o w1 ⟨rfl,hb1⟩;rw [hb];have hE2:=(hE1.over hb1).more (.cells [.int .i64 0,.int .i64 0].toArray 110);clear hb1 hE1;have r0:=hE2.rule 0 rfl;go_wp2_with fail;have hE3:=(hE2.box (w1.heap.size+1) (by simp) (av S.c { nx:=(.nilFunc,.int .i64 0),left:=.slice none 0 0,k:=k,key:=key,val:=val,lv:=lv,h:=0,n:=0,r:=0,s:=0 }) 283).sub (L':=boxI (w1.heap.size+1) (av S.c { nx:=(.nilFunc,.int .i64 0),left:=.slice none 0 0,k:=k,key:=key,val:=val,lv:=lv,h:=0,n:=0,r:=0,s:=0 })::LT S R) (.cons_cons _ (.cons _ (List.Sublist.refl _)));refine (decide_a (zH rfl) hE3).mono ?_;rintro o w2 ⟨rfl,nx,hnx,hE4⟩;clear r0 hE2 hE3
 by_cases hd:decP S.ql S.ce S.cl=0
 ·have hds:decS S.ql S.ce S.cl=4:=by unfold decS; rw [if_pos hd]
  rw [hds];have HD:=zH hd;clear hd hds hnx;go_wp2_with fail
  go_ret2
  exact .inl ⟨HD.out,rfl,hE4.sub (.cons _ (List.Sublist.refl _))⟩
 ·have hds:decS S.ql S.ce S.cl=0:=by unfold decS; rw [if_neg hd]
  rw [hds];have HD:=zH hd;have HNX:=zH (hnx hd);clear hd hds hnx;go_wp2_with fail
  go_ret2
  rw [HNX.out] at hE4;exact .inr ⟨HD.out,_,rfl,hE4⟩
end
def ndL (c:Nat) (kd key val lv:Int) (o ro FF OV:Nat):List Value:=[.pointer (some ⟨c,0,none⟩),.int .i64 kd,.int .u64 key,.int .u64 val,.int .i64 lv,.pointer (some ⟨o,ro,none⟩),mvL FF o,mvL OV o]
def ndV (c:Nat) (kd key val lv:Int) (o ro FF OV:Nat):Value:=.agg #[.pointer (some ⟨c,0,none⟩),.int .i64 kd,.int .u64 key,.int .u64 val,.int .i64 lv,.pointer (some ⟨o,ro,none⟩),mvL FF o,mvL OV o]
def cmV (c:Nat) (kd key val lv:Int) (o ro FF OV:Nat):Value:=.func (.func 178) #[ndV c kd key val lv o ro FF OV] #[]
section
variable {w0 w:World} {L R:List Item} {c o ro FF OV:Nat} {kd key val lv:Int} {S:ST}
theorem cameOver_n (s:Int) (hs:s=3\/s=4) (hx:∀ (ar:Array Value) (v:World),(callFunc OV ar).run prog v=.ok (.enter OV ar) v) (Q:Int->World->Prop) (hE:Env w0 L w) (ho:∀ v,Env w0 L v->Calls prog OV #[.pointer (some ⟨o,0,none⟩),.agg #[.int .i64 (s+3),.bool false,.int .u64 0]] v fun e w'=>∃ s2,e=.returned (.int .i64 s2)/\Q s2 w') :
  Calls prog 178 #[ndV c kd key val lv o ro FF OV,.int .i64 s] w fun e w'=>∃ s2,e=.returned (.int .i64 s2)/\Q s2 w':=by
 have hE1:=hE.box w.heap.size rfl (ndL c kd key val lv o ro FF OV) 238;have r:=hE1.rule 0 rfl;have HO:=zH (ho _ (hE1.sub (.cons _ (List.Sublist.refl _))));unfold ndL at r HO;unfold ndV;unfold mvL at r HO ⊢;clear ho hE hE1
 rcases hs with rfl | rfl
 all_goals
  go_enter func178,ntmps178;go_wp2_with fail;refine HO.out.mono ?_;rintro e w2 ⟨s2,rfl,hq⟩;go_wp2_with fail;go_ret;exact ⟨s2,rfl,hq⟩
theorem cameFind_n (s:Int) (hs:s=1\/s=2) (hx:∀ (ar:Array Value) (v:World),(callFunc FF ar).run prog v=.ok (.enter FF ar) v) (Q:Int->World->Prop) (hE:Env w0 L w) (ho:∀ v,Env w0 L v->Calls prog FF #[.pointer (some ⟨o,0,none⟩)] v fun e w'=>∃ s2,e=.returned (.int .i64 s2)/\Q s2 w') :
  Calls prog 178 #[ndV c kd key val lv o ro FF OV,.int .i64 s] w fun e w'=>∃ s2,e=.returned (.int .i64 s2)/\Q s2 w':=by
 have hE1:=hE.box w.heap.size rfl (ndL c kd key val lv o ro FF OV) 238;have r:=hE1.rule 0 rfl;have HO:=zH (ho _ (hE1.sub (.cons _ (List.Sublist.refl _))));unfold ndL at r HO;unfold ndV;unfold mvL at r HO ⊢;clear ho hE hE1
 rcases hs with rfl | rfl
 all_goals
  go_enter func178,ntmps178;go_wp2_with fail;refine HO.out.mono ?_;rintro e w2 ⟨s2,rfl,hq⟩;go_wp2_with fail;go_ret;exact ⟨s2,rfl,hq⟩
theorem slotLate_n (hx:∀ (ar:Array Value) (v:World),(callFunc OV ar).run prog v=.ok (.enter OV ar) v) (hh:S.hs=0) (hd:decP S.ql S.ce S.cl=0) (Q:Int->World->Prop) (hE:Env w0 (LT S R) w) (ho:∀ v,Env w0 (LT S R) v->Calls prog OV #[.pointer (some ⟨o,0,none⟩),.agg #[.int .i64 7,.bool false,.int .u64 0]] v fun e w'=>∃ s2,e=.returned (.int .i64 s2)/\Q s2 w') :
  Calls prog 153 #[ndV S.c kd key val lv o ro FF OV] w fun e w'=>∃ s2,e=.returned (.int .i64 s2)/\Q s2 w':=by
 have hE1:=hE.box w.heap.size rfl (ndL S.c kd key val lv o ro FF OV) 238;have r:=hE1.rule 0 rfl;have HO:=zH ho;have HH:=zH hh;have HD:=zH hd;have hV:ndV S.c kd key val lv o ro FF OV=.agg #[.pointer (some ⟨S.c,0,none⟩),.int .i64 kd,.int .u64 key,.int .u64 val,.int .i64 lv,.pointer (some ⟨o,ro,none⟩),mvL FF o,mvL OV o]:=rfl;have HV:=zH hV;rw [hV];unfold ndL at r hE1;clear ho hE hV hh hd;go_enter func153,ntmps153;go_wp2_with fail;generalize w.alloc _=w1 at *;generalize w.heap.size=Y at *;have hE2:Env w0 (LT S (boxI Y [.pointer (some ⟨S.c,0,none⟩),.int .i64 kd,.int .u64 key,.int .u64 val,.int .i64 lv,.pointer (some ⟨o,ro,none⟩),mvL FF o,mvL OV o]::R)) w1:=hE1.perm (List.perm_middle (l₁:=[_,_,_,_])).symm;refine (new_a kd key val lv HH.out hE2).mono ?_;rintro e w6 hc6
 rcases hc6 with ⟨-,rfl,hE6⟩ | ⟨h9,-⟩
 rotate_left
 ·exact absurd HD.out h9
 clear hE1 hE2 r;have r:=hE6.rule 4 rfl;have hE7:=(hE6.perm (List.perm_middle (l₁:=[_,_,_,_]))).sub (.cons _ (List.Sublist.refl _));have HC:=zH (cameOver_n (c:=S.c) (kd:=kd) (key:=key) (val:=val) (lv:=lv) (ro:=ro) (FF:=FF) 4 (.inr rfl) hx Q hE7 HO.out);rw [HV.out] at HC;go_wp2_with fail;refine HC.out.mono ?_;rintro e w2 ⟨s2,rfl,hq⟩;go_wp2_with fail;go_ret;exact ⟨s2,rfl,hq⟩
theorem slotAlloc_n {m:Nat} {vs:List Value} (hm:R[m]?=some (boxI o vs)) (hv:ro < vs.length) (hh:S.hs=0) (hd:decP S.ql S.ce S.cl≠0) (hE:Env w0 (LT S R) w) :
  Calls prog 153 #[ndV S.c kd key val lv o ro FF OV] w fun e w'=>e=.returned (.int .i64 0)/\∃ b1 b2 l,Env w0 (boxI b1 [mvL 179 l]::boxI b2 [cmV S.c kd key val lv o ro FF OV]::boxI l (av S.c { nx:=nxA l (decP S.ql S.ce S.cl),left:=.slice none 0 0,k:=kd,key:=key,val:=val,lv:=lv,h:=0,n:=0,r:=0,s:=0 })::LT S (R.set m (boxI o (vs.set ro (cvP b1 b2))))) w':=by
 have hmf:=makeF;have hE1:=hE.box w.heap.size rfl (ndL S.c kd key val lv o ro FF OV) 238;have r:=hE1.rule 0 rfl;have HH:=zH hh;have HD:=zH hd;have HM:=zH hm;have HVS:=zH hv;have hV:ndV S.c kd key val lv o ro FF OV=.agg #[.pointer (some ⟨S.c,0,none⟩),.int .i64 kd,.int .u64 key,.int .u64 val,.int .i64 lv,.pointer (some ⟨o,ro,none⟩),mvL FF o,mvL OV o]:=rfl;have HV:=zH hV;rw [hV];unfold ndL at r hE1;clear hE hV hh hd hm hv;go_enter func153,ntmps153;go_wp2_with fail;generalize w.alloc _=w1 at *;generalize w.heap.size=Y at *;have hE2:Env w0 (LT S (boxI Y [.pointer (some ⟨S.c,0,none⟩),.int .i64 kd,.int .u64 key,.int .u64 val,.int .i64 lv,.pointer (some ⟨o,ro,none⟩),mvL FF o,mvL OV o]::R)) w1:=hE1.perm (List.perm_middle (l₁:=[_,_,_,_])).symm;refine (new_a kd key val lv HH.out hE2).mono ?_;rintro e w6 (⟨h9,-⟩ | ⟨-,l,rfl,hE6⟩)
 ·exact absurd h9 HD.out
 clear hE1 hE2 r;have r:=hE6.rule 5 rfl;have HP:=zH (play_r (a:=o) (o:=ro) (m+6) (.func 179) (.func 178) #[.pointer (some ⟨l,0,none⟩)] #[] #[ndV S.c kd key val lv o ro FF OV] #[] HVS.out hE6 HM.out);rw [HV.out] at HP;go_wp2_with fail;refine HP.out.mono ?_;rintro e w2 ⟨rfl,b1,b2,hE7⟩;go_wp2_with fail;go_ret;refine ⟨rfl,b1,b2,l,?_⟩;rw [<- HV.out] at hE7;have hE8:Env w0 (boxI b1 [mvL 179 l]::boxI b2 [cmV S.c kd key val lv o ro FF OV]::boxI l (av S.c { nx:=nxA l (decP S.ql S.ce S.cl),left:=.slice none 0 0,k:=kd,key:=key,val:=val,lv:=lv,h:=0,n:=0,r:=0,s:=0 })::LT S (boxI Y [.pointer (some ⟨S.c,0,none⟩),.int .i64 kd,.int .u64 key,.int .u64 val,.int .i64 lv,.pointer (some ⟨o,ro,none⟩),mvL FF o,mvL OV o]::R.set m (boxI o (vs.set ro (cvP b1 b2))))) w2:=hE7;exact hE8.sub (.cons_cons _ (.cons_cons _ (.cons_cons _ (.cons_cons _ (.cons_cons _ (.cons_cons _ (.cons_cons _ (.cons _ (List.Sublist.refl _)))))))))
end
section
variable {w:World} {a o:Nat}
theorem state_r {s:Int} (hs:w.cell? ⟨a,o+1,none⟩=some (.int .i64 s)) :
  Calls prog 106 #[.pointer (some ⟨a,o,none⟩)] w fun r w'=>r=.returned (.int .i64 s)/\w'=w:=by
 go_enter func106,ntmps106
 go_wp2
 go_ret;exact ⟨rfl,rfl⟩
end
def St3 {α:Type} (q:Int × α):Prop:=q.1=0\/q.1=1\/q.1=2
theorem come_state (L:Lm) (v:Int):St3 (comeM L v):=by
 unfold comeM
 by_cases h:slotI v=0
 ·simp [h,St3]
 ·simp [h,St3]
theorem holds_state (lv key:Int) (vs:Bool) (L:Lm):St3 (holdsM lv key vs L):=by
 unfold holdsM
 repeat' split
 all_goals first | exact come_state _ _ | simp [St3]
theorem lane_state (lv key:Int) (vs:Bool) (e:Int) (L:Lm) (f:Plc->Int):(laneM lv key vs e L f).1=0\/(laneM lv key vs e L f).1=1\/(laneM lv key vs e L f).1=2:=by
 show St3 (laneM lv key vs e L f);unfold laneM
 repeat' split
 all_goals first | exact come_state L (wordI false (slotI L.X) e) | exact holds_state lv key vs L | simp [St3]
theorem LmOk.come {L:Lm} (hL:LmOk L) (h7:L.pc<=7) (v:Int) (hv:InU v):LmOk { L with W:=v,X:=0,C:=slotI v,pc:=3 } :=
 ⟨by simp,fun _=>hL.v (by omega),fun _=>hL.fd h7,fun h=>absurd h (by simp),fun _=>rfl,fun h=>absurd h (by simp),hv,by simp [InU],slotI_in v⟩
theorem lane_ok {lv key:Int} {vs:Bool} {e:Int} {L:Lm} {f:Plc->Int} (hL:LmOk L) (hW:∀ x,InU (f x)) (hp:Wf L.p) (hlv:0<=lv/\lv<=1000000) (h0:(laneM lv key vs e L f).1=0):LmOk (laneM lv key vs e L f).2.1/\Wf (laneM lv key vs e L f).2.1.p:=by
 have hpc9:L.pc<=9:=by rcases hL.pc with h | h | h | h | h | h | h | h | h<;>omega
 rcases hL.pc with hpc | hpc | hpc | hpc | hpc | hpc | hpc | hpc | hpc
 ·have hM:laneM lv key vs e L f=(0,{ L with W:=f L.p,pc:=2 },f):=by simp [laneM,hpc]
  rw [hM];exact ⟨⟨by simp,fun _=>hL.v (by omega),fun _=>hL.fd (by omega),fun h=>absurd h (by simp),fun _=>hL.x (by omega),fun _=>hL.c0 (by omega),hW _,hL.X,hL.C⟩,hp⟩
 ·by_cases hok:okB (f (1,0,0)) e=true
  ·by_cases hmk:markB L.W=true
   ·have hM:laneM lv key vs e L f=(2,L,f):=by simp [laneM,holdsM,hpc,hok,hmk]
    rw [hM] at h0;exact absurd h0 (by simp)
   ·have hM:laneM lv key vs e L f=(cS L.W,{ L with W:=L.W,X:=0,C:=slotI L.W,pc:=3 },f):=by simp [laneM,holdsM,hpc,hok,hmk,comeM_cS]
    rw [hM];exact ⟨hL.come (by omega) _ hL.W,hp⟩
  ·have hM:laneM lv key vs e L f=(2,L,f):=by simp [laneM,hpc,hok]
   rw [hM] at h0;exact absurd h0 (by simp)
 ·have hM:laneM lv key vs e L f=(0,{ L with X:=f (5,L.C,7+lv),pc:=4 },f):=by simp [laneM,hpc]
  rw [hM];exact ⟨⟨by simp,fun _=>hL.v (by omega),fun _=>hL.fd (by omega),fun h=>absurd h (by simp),fun h=>absurd h (by simp),fun h=>absurd h (by simp),hL.W,hW _,hL.C⟩,hp⟩
 ·by_cases hok:okB (f (1,0,0)) e=true
  ·have hM:laneM lv key vs e L f=(0,{ L with pc:=if markB L.X then 5 else 6 },f):=by simp [laneM,holdsM,hpc,hok]
   rw [hM];cases markB L.X
   ·exact ⟨⟨by simp,fun _=>hL.v (by omega),fun _=>hL.fd (by omega),fun h=>absurd h (by simp),fun h=>absurd h (by simp),fun h=>absurd h (by simp),hL.W,hL.X,hL.C⟩,hp⟩
   ·exact ⟨⟨by simp,fun _=>hL.v (by omega),fun _=>hL.fd (by omega),fun h=>absurd h (by simp),fun h=>absurd h (by simp),fun h=>absurd h (by simp),hL.W,hL.X,hL.C⟩,hp⟩
  ·have hM:laneM lv key vs e L f=(2,L,f):=by simp [laneM,hpc,hok]
   rw [hM] at h0;exact absurd h0 (by simp)
 ·by_cases heq:f L.p=L.W
  ·have hM:laneM lv key vs e L f=(cS (wordI false (slotI L.X) e),{ L with W:=wordI false (slotI L.X) e,X:=0,C:=slotI (wordI false (slotI L.X) e),pc:=3 },swf f L.p L.W (wordI false (slotI L.X) e)):=by simp [laneM,hpc,heq,comeM_cS]
   rw [hM];exact ⟨hL.come (by omega) _ (wordI_in _ _ _),hp⟩
  ·have hM:laneM lv key vs e L f=(2,L,swf f L.p L.W (wordI false (slotI L.X) e)):=by simp [laneM,hpc,heq]
   rw [hM] at h0;exact absurd h0 (by simp)
 ·have hM:laneM lv key vs e L f=(0,{ L with K:=f (5,L.C,3),pc:=7 },f):=by simp [laneM,hpc]
  rw [hM];exact ⟨⟨by simp,fun _=>hL.v (by omega),fun _=>hL.fd (by omega),fun h=>absurd h (by simp),fun h=>absurd h (by simp),fun h=>absurd h (by simp),hL.W,hL.X,hL.C⟩,hp⟩
 ·by_cases hok:okB (f (1,0,0)) e=true
  ·by_cases hlt:L.K < key
   ·have hM:laneM lv key vs e L f=(cS L.X,{ L with p:=(5,L.C,7+lv),W:=L.X,X:=0,C:=slotI L.X,pc:=3 },f):=by simp [laneM,holdsM,hpc,hok,hlt,comeM_cS]
    rw [hM];have hLp:LmOk { L with p:=(5,L.C,7+lv) }:=⟨hL.pc,hL.v,hL.fd,hL.ft,hL.x,hL.c0,hL.W,hL.X,hL.C⟩;exact ⟨hLp.come (by show L.pc<=7; omega) _ hL.X,wf_part hL.C (by omega)⟩
   ·by_cases heq:L.K=key
    ·cases vs
     ·have hM:laneM lv key false e L f=(1,{ L with fd:=true },f):=by simp [laneM,holdsM,hpc,hok,heq]
      rw [hM] at h0;exact absurd h0 (by simp)
     ·have hM:laneM lv key true e L f=(0,{ L with fd:=true,pc:=8 },f):=by simp [laneM,holdsM,hpc,hok,heq]
      rw [hM];exact ⟨⟨by simp,fun _=>hL.v (by omega),fun h=>absurd h (by simp),fun _=>rfl,fun h=>absurd h (by simp),fun h=>absurd h (by simp),hL.W,hL.X,hL.C⟩,hp⟩
    ·have hM:laneM lv key vs e L f=(1,L,f):=by simp [laneM,holdsM,hpc,hok,hlt,heq]
     rw [hM] at h0;exact absurd h0 (by simp)
  ·have hM:laneM lv key vs e L f=(2,L,f):=by simp [laneM,hpc,hok]
   rw [hM] at h0;exact absurd h0 (by simp)
 ·have hM:laneM lv key vs e L f=(0,{ L with V:=f (5,L.C,4),pc:=9 },f):=by simp [laneM,hpc]
  rw [hM];exact ⟨⟨by simp,fun h=>absurd h (by simp),fun h=>absurd h (by simp),fun _=>hL.ft (by omega),fun h=>absurd h (by simp),fun h=>absurd h (by simp),hL.W,hL.X,hL.C⟩,hp⟩
 ·by_cases hok:okB (f (1,0,0)) e=true
  ·have hM:laneM lv key vs e L f=(1,L,f):=by simp [laneM,holdsM,hpc,hok]
   rw [hM] at h0;exact absurd h0 (by simp)
  ·have hM:laneM lv key vs e L f=(2,L,f):=by simp [laneM,hpc,hok]
   rw [hM] at h0;exact absurd h0 (by simp)
def SmOk (T:Sm):Prop:=T.on=true->LmOk T.L/\Wf T.L.p
def SrchR (w0:World) (R:List Item) (sb:Nat) (k key:Int) (vs:Bool) (S:ST) (s:Int) (T:Sm) (w:World):Prop :=
 S.ce=T.e/\S.cr=T.r/\((T.on=false/\s=0/\(Env w0 (boxI sb (srC S.c k key vs (.pointer none))::LT S R) w\/∃ a L,LaneR w0 (boxI sb (srC S.c k key vs (.pointer (some ⟨a,0,none⟩)))::R) a 0 key vs S 2 L w))\/(T.on=true/\∃ a,LaneR w0 (boxI sb (srC S.c k key vs (.pointer (some ⟨a,0,none⟩)))::R) a 0 key vs S s T.L w))
def searchS (key:Int) (vs:Bool) (S:ST) (T:Sm) (G:Nat->Prop):ST:=if T.on then laneS 0 key vs S T.L G else { S with ce:=epI (S.f (1,0,0)),qc:={ S.qc with l:=wrap64 (S.qc.l+1) } }
section
variable {w0 w:World} {R:List Item} {sb:Nat} {S:ST} {k key:Int} {vs:Bool} {T:Sm} {lp:Value}
theorem Env.sfront {x:Item} (h:Env w0 (LT S (x::R)) w):Env w0 (x::LT S R) w:=h.perm (List.perm_middle (l₁:=[_,_,_,_]))
theorem check_r (hoff:T.on=false) (he:S.ce=T.e) (hr:S.cr=T.r) (hE:Env w0 (boxI sb (srC S.c k key vs lp)::LT S R) w) :
  Calls prog 219 #[.pointer (some ⟨sb,0,none⟩),.iface 28 (.pointer (some ⟨S.p,0,none⟩))] w fun o w'=>o=.returned (.int .i64 (searchM k key vs T S.f).1)/\∃ G',SrchR w0 R sb k key vs (searchS key vs S T G') (searchM k key vs T S.f).1 (searchM k key vs T S.f).2.1 w':=by
 have hM:searchM k key vs T S.f=(0,{ on:=true,L:=L0 (4,0,k),e:=epI (S.f (1,0,0)),r:=T.r },S.f):=by unfold searchM; rw [hoff]; rfl
 have hS:∀ G,searchS key vs S T G={ S with ce:=epI (S.f (1,0,0)),qc:={ S.qc with l:=wrap64 (S.qc.l+1) } }:=fun G=>by unfold searchS; rw [hoff]; rfl
 refine (check_s hE).mono ?_;rintro o w1 ⟨rfl,a,hE1⟩;rw [hM];refine ⟨rfl,S.G,?_⟩;rw [hS];refine ⟨rfl,hr,.inr ⟨rfl,a,mvL (fnL 0) a,0,noI,noI,fun _=>⟨⟨fun _=>rfl,fun h=>absurd h (by simp [L0,isVal])⟩,fun h=>absurd h (by simp [L0]),fun h=>absurd h (by simp [L0])⟩,?_⟩⟩;have hE2:=hE1.perm (L':=boxI a (laneC S.c 0 key vs (mvL (fnL 0) a) 0 4 0 k 0 0 0 0 false 0)::LT { S with ce:=epI (S.f (1,0,0)),qc:={ S.qc with l:=wrap64 (S.qc.l+1) } } (boxI sb (srC S.c k key vs (.pointer (some ⟨a,0,none⟩)))::R)) (List.Perm.cons _ (List.perm_middle (l₁:=[_,_,_,_])).symm);exact hE2.none2
theorem search_l (hT:SmOk T) (hg:Glo w0) (hm:S.m < maxLen) (h:SrchR w0 R sb k key vs S 0 T w) :
  Calls prog 190 #[.pointer (some ⟨sb,0,none⟩),.iface 28 (.pointer (some ⟨S.p,0,none⟩))] w fun o w'=>o=.returned (.int .i64 (searchM k key vs T S.f).1)/\∃ G',SrchR w0 R sb k key vs (searchS key vs S T G') (searchM k key vs T S.f).1 (searchM k key vs T S.f).2.1 w':=by
 obtain ⟨he,hr,⟨hoff,-,hE | ⟨a,L,nx,wd,B1,B2,-,hE⟩⟩ | ⟨hon,a,hR⟩⟩:=h
 ·have HC:=zH (check_r hoff he hr hE);have r:=hE.rule 0 rfl;unfold srC at r;clear hE;go_enter func190,ntmps190;go_wp2_with fail;refine HC.out.mono ?_;rintro o w1 ⟨rfl,hP⟩;go_wp2_with fail;go_ret;exact ⟨rfl,hP⟩
 ·have hE1:Env w0 (boxI sb (srC S.c k key vs (.pointer (some ⟨a,0,none⟩)))::LT S R) w:=(hE.sub (.cons _ (.cons _ (.cons _ (List.Sublist.refl _))))).sfront;have HC:=zH (check_r hoff he hr hE1);have r:=hE1.rule 0 rfl;unfold srC at r;have ra:=hE.rule 0 rfl;have RA:=zH ra;unfold laneV laneC at ra;clear hE hE1;go_enter func190,ntmps190;go_wp2_with fail;refine (state_r (o:=4) (s:=2) (show w.cell? ⟨a,5,none⟩=some (.int .i64 2) from RA.out 5)).mono ?_;rintro o w0' ⟨rfl,rfl⟩;go_wp2_with fail;refine HC.out.mono ?_;rintro o w1 ⟨rfl,hP⟩;go_wp2_with fail;go_ret;exact ⟨rfl,hP⟩
 ·obtain ⟨hL,hp⟩:=hT hon;have hst:=lane_l hL (show (0:Int)<=0/\(0:Int)<=1000000 by omega) hp hg hm hR;have hM:searchM k key vs T S.f=(if (laneM 0 key vs T.e T.L S.f).1=1 then 1 else 0,{ on:=decide ((laneM 0 key vs T.e T.L S.f).1≠2),L:=(laneM 0 key vs T.e T.L S.f).2.1,e:=T.e,r:=rollM T.e T.L S.f T.r },(laneM 0 key vs T.e T.L S.f).2.2):=by unfold searchM; rw [if_pos hon]
  have hS:∀ G,searchS key vs S T G=laneS 0 key vs S T.L G:=fun G=>by unfold searchS; rw [if_pos hon]
  have hsl:=lane_state 0 key vs S.ce T.L S.f;obtain ⟨nx,wd,B1,B2,-,hE⟩:=hR;have r:∀ i,w.cell? ⟨sb,i,none⟩=_:=hE.rule 7 rfl;unfold srC at r;have ra:=hE.rule 0 rfl;have RA:=zH ra;unfold laneV laneC at ra;clear hE;rw [hM];simp only [hS];rw [<- he,<- hr];clear he hr;have hce:∀ G,(laneS 0 key vs S T.L G).ce=S.ce/\(laneS 0 key vs S T.L G).cr=rollM S.ce T.L S.f S.cr/\(laneS 0 key vs S T.L G).c=S.c:=fun G=>⟨rfl,rfl,rfl⟩;generalize hq:laneM 0 key vs S.ce T.L S.f=q at *;obtain ⟨q1,q2,q3⟩:=q;have HST:=zH hst;have HSL:=zH hsl;have HCE:=zH hce;clear hst hsl hq hM hS hce;go_enter func190,ntmps190;go_wp2_with fail;refine (state_r (o:=4) (s:=0) (show w.cell? ⟨a,5,none⟩=some (.int .i64 0) from RA.out 5)).mono ?_;rintro o w0' ⟨rfl,rfl⟩;go_wp2_with fail;refine HST.out.mono ?_;rintro o w1 ⟨rfl,G',hR'⟩;have HR':=zH hR';clear hR' HST r ra
  rcases HSL.out with h1 | h1 | h1
  ·have h1':q1=0:=h1;subst h1';go_wp2_with fail;go_ret;refine ⟨rfl,G',(HCE.out G').1,(HCE.out G').2.1,.inr ⟨rfl,a,?_⟩⟩;exact HR'.out
  ·have h1':q1=1:=h1;subst h1';go_wp2_with fail;go_ret;refine ⟨rfl,G',(HCE.out G').1,(HCE.out G').2.1,.inr ⟨rfl,a,?_⟩⟩;exact HR'.out
  ·have h1':q1=2:=h1;subst h1';go_wp2_with fail;go_ret;refine ⟨rfl,G',(HCE.out G').1,(HCE.out G').2.1,.inl ⟨rfl,rfl,.inr ⟨a,q2,?_⟩⟩⟩;exact HR'.out
end
def OpAny (c:Nat) (kd key val lv:Int) (o sb:Nat) (v:World):Prop:=∃ nx9 st9 er9 dn9,Blk 0 v o (opC c kd key val lv nx9 st9 (.pointer (some ⟨sb,0,none⟩)) er9 dn9)
section
variable {w0 w:World} {L R:List Item} {o sb a c:Nat} {S:ST} {kd key val lv:Int} {nx lnx:Value} {er st x y z W C X wd:Int} {dn pf:Bool} {pv:Int}
theorem Env.sback {b:Item} (h:Env w0 (b::LT S R) w):Env w0 (LT S (b::R)) w:=h.perm (List.perm_middle (l₁:=[_,_,_,_])).symm
theorem insLink_o (hh:S.hs≠0) (hE:Env w0 (boxI o (opC S.c kd key val lv nx 0 (.pointer (some ⟨sb,0,none⟩)) er dn)::boxI sb (srC S.c 0 key false (.pointer (some ⟨a,0,none⟩)))::boxI a (laneC S.c 0 key false lnx st x y z W C X wd false pv)::LT S R) w) :
  Calls prog 221 #[.pointer (some ⟨o,0,none⟩),.pointer (some ⟨a,0,none⟩)] w fun r w'=>r=.returned (.int .i64 0)/\∃ b1 b2 l,Env w0 (boxI o (opC S.c kd key val lv (cvP b1 b2) 0 (.pointer (some ⟨sb,0,none⟩)) er dn)::boxI b1 [mvL 248 l]::boxI b2 [mvL 249 o]::boxI l (lkC S.c x y z W C X (mvL 280 l) 0)::LT S R) w':=by
 have hmf:=makeF;have hb:(S.hs != 0)=true:=by simpa using hh
 have r:=hE.rule 0 rfl;unfold opC at r;clear hh;go_enter func221,ntmps221;go_wp2_with fail;refine (found_g (hE.get 2 rfl)).mono ?_;rintro e w1 ⟨rfl,rfl⟩;go_wp2_with fail;refine (held_c (hE.get 3 rfl)).mono ?_;rintro e w2 ⟨rfl,hb1⟩;rw [hb];have hE2:=(hE.over hb1).box w2.heap.size rfl [.int .i64 S.hs,.int .i64 0] 110;clear hb1 hE r hb;go_wp2_with fail;replace hE2:=hE2.sub (.cons _ (List.Sublist.refl _));obtain ⟨L2,hL2⟩:∃ L2,LT S R=L2:=⟨_,rfl⟩;rw [hL2] at hE2;have HL2:=zH hL2;clear hL2;generalize w2.alloc _=w3 at *;refine Ord3.wp_chain [?_,?_,?_,?_,?_,?_,?_,?_,?_,?_,?_,?_,?_,?_] [8,9,12] (fun w'=>∃ nx9,Blk 0 w' o (opC S.c kd key val lv nx9 0 (.pointer (some ⟨sb,0,none⟩)) er dn)) (Ord3.Stage fun κs=>[Env w0 (boxI o (opC S.c kd key val lv nx 0 (.pointer (some ⟨sb,0,none⟩)) er dn)::boxI sb (srC S.c 0 key false (.pointer (some ⟨a,0,none⟩)))::boxI a (laneC S.c 0 key false lnx st x y z W C X wd false pv)::L2),fun w'=>∃ q,κs.getD 0 undef=.pointer (some ⟨q,0,none⟩)/\Env w0 (boxI q (lkC S.c x y z W C X (mvL 280 q) 0)::boxI o (opC S.c kd key val lv nx 0 (.pointer (some ⟨sb,0,none⟩)) er dn)::boxI sb (srC S.c 0 key false (.pointer (some ⟨a,0,none⟩)))::boxI a (laneC S.c 0 key false lnx st x y z W C X wd false pv)::L2) w',fun w'=>∃ q,κs.getD 1 undef=mvL 248 q/\Env w0 (boxI q (lkC S.c x y z W C X (mvL 280 q) 0)::boxI o (opC S.c kd key val lv nx 0 (.pointer (some ⟨sb,0,none⟩)) er dn)::boxI sb (srC S.c 0 key false (.pointer (some ⟨a,0,none⟩)))::boxI a (laneC S.c 0 key false lnx st x y z W C X wd false pv)::L2) w',fun w'=>∃ b1 b2 q,Env w0 (boxI b1 [mvL 248 q]::boxI b2 [mvL 249 o]::boxI q (lkC S.c x y z W C X (mvL 280 q) 0)::boxI o (opC S.c kd key val lv (cvP b1 b2) 0 (.pointer (some ⟨sb,0,none⟩)) er dn)::boxI sb (srC S.c 0 key false (.pointer (some ⟨a,0,none⟩)))::boxI a (laneC S.c 0 key false lnx st x y z W C X wd false pv)::L2) w']) (by kernel_rfl) (by kernel_rfl) (by kernel_rfl) ⟨nx,hE2.drew.get 0 rfl⟩ ⟨_,rfl,hE2.drew⟩ (fun hT=>?_);rotate_left 14;have hT9:=zH hT;clear hT
 repeat ((first
  | (focus (refine Ord3.in_value (v:=?_) hT9.o (by decide) ?_ (by rfl) ?_ ?_; rotate_left 2; (intro w5 hS; obtain ⟨nx9,hS9⟩:=hS; have r1:=Blk.rule hS9; unfold opC at r1; go_simp<;>rfl); rotate_right; (focus rfl)))
  | (focus (refine Ord3.in_off hT9.o (by decide) ?_ (by rfl) ?_; (focus rfl))));try simp only [Act.put,zA,zZ,zS])
 refine Ord3.in_turn (fun u=>∃ q,u=.pointer (some ⟨q,0,none⟩)) _ ⟨0,rfl⟩ hT9.o rfl (by decide) (by rfl) ?_ (Or.inl rfl) (by rfl) ?_ ?_
 ·rfl
 ·rintro w7 hC7 ⟨P7,hP7,hA7⟩;cases hP7;go_simp;simp only [Ord3.Lands];refine (newLink_k 2 rfl hA7).mono ?_;rintro o8 w8 ⟨r8,rfl,hE8⟩;exact ⟨_,rfl,⟨r8,rfl⟩,⟨nx,hE8.get 1 rfl⟩,_,rfl,r8,rfl,hE8⟩
 rintro _ ⟨r9,rfl⟩
 try simp only [Act.put,zA,zZ,zS]
 refine Ord3.in_turn (fun u=>∃ q,u=mvL 248 q) _ ⟨0,rfl⟩ hT9.o rfl (by decide) (by rfl) ?_ (Or.inr ⟨_,8,[],rfl,by kernel_rfl,by kernel_rfl,rfl⟩) (by rfl) ?_ ?_
 ·rfl
 ·rintro w7 hC7 ⟨P7,hP7,hA7⟩;cases hP7;obtain ⟨r8,he,hA7⟩:=hA7;cases he;go_simp;simp only [Ord3.Lands];exact ⟨⟨_,rfl⟩,hC7,_,rfl,r9,rfl,hA7⟩
 rintro _ ⟨r9,rfl⟩
 try simp only [Act.put,zA,zZ,zS]
 repeat ((first
  | (focus (refine Ord3.in_value (v:=?_) hT9.o (by decide) ?_ (by rfl) ?_ ?_; rotate_left 2; (intro w5 hS; obtain ⟨nx9,hS9⟩:=hS; have r1:=Blk.rule hS9; unfold opC at r1; go_simp<;>rfl); rotate_right; (focus rfl)))
  | (focus (refine Ord3.in_off hT9.o (by decide) ?_ (by rfl) ?_; (focus rfl))));try simp only [Act.put,zA,zZ,zS])
 refine Ord3.in_turn (fun u=>u=.int .i64 0) _ rfl hT9.o rfl (by decide) (by rfl) ?_ (Or.inr ⟨_,9,[],rfl,by kernel_rfl,by kernel_rfl,rfl⟩) (by rfl) ?_ ?_
 ·rfl
 ·rintro w7 hC7 ⟨P7,hP7,hA7⟩;cases hP7;obtain ⟨r8,he,hA7⟩:=hA7;cases he;go_simp;simp only [Ord3.Lands];refine (play_r (o:=5) 1 _ _ _ _ _ _ (by simp [opC]) hA7 rfl).mono ?_;rintro o8 w8 ⟨rfl,b1,b2,hE8⟩;exact ⟨_,rfl,rfl,⟨_,hE8.get 3 rfl⟩,_,rfl,b1,b2,r9,hE8⟩
 rintro _ rfl
 try simp only [Act.put,zA,zZ,zS]
 repeat ((first
  | (focus (refine Ord3.in_value (v:=?_) hT9.o (by decide) ?_ (by rfl) ?_ ?_; rotate_left 2; (intro w5 hS; skip; go_simp<;>rfl); rotate_right; (focus rfl)))
  | (focus (refine Ord3.in_off hT9.o (by decide) ?_ (by rfl) ?_; (focus rfl))));try simp only [Act.put,zA,zZ,zS])
 refine Ord3.in_nil rfl ?_;rintro w9 hC9 ⟨P9,hP9,hA9⟩;cases hP9;obtain ⟨b1,b2,q,hA9⟩:=hA9;clear hT9 hC9 hE2;go_wp2_with fail;go_ret;have h3:=HL2.out;subst h3;refine ⟨rfl,b1,b2,q,?_⟩;have h9:=hA9.sub (L':=boxI b1 [mvL 248 q]::boxI b2 [mvL 249 o]::boxI q (lkC S.c x y z W C X (mvL 280 q) 0)::boxI o (opC S.c kd key val lv (cvP b1 b2) 0 (.pointer (some ⟨sb,0,none⟩)) er dn)::LT S R) (.cons_cons _ (.cons_cons _ (.cons_cons _ (.cons_cons _ (.cons _ (.cons _ (List.Sublist.refl _)))))));exact h9.perm (List.perm_middle (l₁:=[_,_,_]))
theorem seaInsLink_o (u:Int) (hh:S.hs≠0) (hE:Env w0 (boxI o (opC S.c 1 key val lv nx 0 (.pointer (some ⟨sb,0,none⟩)) er dn)::boxI sb (srC S.c 0 key false (.pointer (some ⟨a,0,none⟩)))::boxI a (laneC S.c 0 key false lnx st x y z W C X wd false pv)::LT S R) w) :
  Calls prog 191 #[.pointer (some ⟨o,0,none⟩),.int .i64 u] w fun r w'=>r=.returned (.int .i64 0)/\∃ b1 b2 l,Env w0 (boxI o (opC S.c 1 key val lv (cvP b1 b2) 0 (.pointer (some ⟨sb,0,none⟩)) er dn)::boxI b1 [mvL 248 l]::boxI b2 [mvL 249 o]::boxI l (lkC S.c x y z W C X (mvL 280 l) 0)::LT S R) w':=by
 have r:=hE.rule 0 rfl;unfold opC at r;have HR:=zH (insLink_o hh hE);clear hh;go_enter func191,ntmps191;go_wp2_with fail;refine (lane_g (hE.get 1 rfl)).mono ?_;rintro e w1 ⟨rfl,rfl⟩;go_wp2_with fail;refine HR.out.mono ?_;rintro e w1 ⟨rfl,b1,b2,l,hE2⟩;go_wp2_with fail;go_ret;exact ⟨rfl,b1,b2,l,hE2⟩
theorem insLate_o (hh:S.hs=0) (hd:decP S.ql S.ce S.cl=0) (hE:Env w0 (boxI o (opC S.c kd key val lv nx 0 (.pointer (some ⟨sb,0,none⟩)) er dn)::boxI sb (srC S.c 0 key false (.pointer (some ⟨a,0,none⟩)))::boxI a (laneC S.c 0 key false lnx st x y z W C X wd false pv)::LT S R) w) :
  Calls prog 221 #[.pointer (some ⟨o,0,none⟩),.pointer (some ⟨a,0,none⟩)] w fun r w'=>r=.returned (.int .i64 1)/\Env w0 (boxI o (opC S.c kd key val lv nx 1 (.pointer (some ⟨sb,0,none⟩)) 7 false)::LT S R) w':=by
 have hmf:=makeF;have hb:(S.hs != 0)=false:=by simpa using hh
 have HH:=zH hh;have HD:=zH hd;have r:=hE.rule 0 rfl;unfold opC at r;clear hh hd;go_enter func221,ntmps221;go_wp2_with fail;refine (found_g (hE.get 2 rfl)).mono ?_;rintro e w1 ⟨rfl,rfl⟩;go_wp2_with fail;refine (held_c (hE.get 3 rfl)).mono ?_;rintro e w2 ⟨rfl,hb1⟩;rw [hb];have hE2:=(hE.over hb1).box w2.heap.size rfl [.int .i64 S.hs,.int .i64 0] 110;clear hb1 hE r hb;go_wp2_with fail;replace hE2:=hE2.sub (L':=boxI o (opC S.c kd key val lv nx 0 (.pointer (some ⟨sb,0,none⟩)) er dn)::LT S R) (.cons _ (.cons_cons _ (.cons _ (.cons _ (List.Sublist.refl _)))));generalize w2.alloc _=w3 at *;refine Ord.wc [16] (OpAny S.c kd key val lv o sb) (Stage [Env w0 (boxI o (opC S.c kd key val lv nx 0 (.pointer (some ⟨sb,0,none⟩)) er dn)::LT S R),Env w0 (boxI o (opC S.c kd key val lv nx 1 (.pointer (some ⟨sb,0,none⟩)) 7 false)::LT S R)]) ⟨nx,0,er,dn,hE2.drew.get 0 rfl⟩ ⟨_,rfl,hE2.drew⟩ fun hT9=>?_
 repeat ((first
  | (refine Ord.cv ?_ hT9.o ?_ ?_; rotate_left; (intro w5 hS; obtain ⟨nx9,st9,er9,dn9,hS9⟩:=hS; have r:=Blk.rule hS9; unfold opC at r; go_simp<;>rfl))
  | (refine Ord.co hT9.o ?_));try simp only [Act.put,zA,zZ,zS])
 refine Ord.ch_turn (v:=.int .i64 1) 0 hT9.o rfl (by decide) (Or.inl rfl) (by rfl) ?_ ?_
 ·rintro w5 hC5 ⟨P5,hP5,hA5⟩;cases hP5;go_simp;simp only [Ord.LandsIn];refine (slotLate_n (S:=S) (R:=boxI o (opC S.c kd key val lv nx 0 (.pointer (some ⟨sb,0,none⟩)) er dn)::R) (kd:=kd) (key:=key) (val:=val) (lv:=lv) (o:=o) (ro:=5) (FF:=159) (OV:=223) (fun _ _=>by kernel_rfl) HH.out HD.out (fun s2 v=>s2=1/\Env w0 (boxI o (opC S.c kd key val lv nx 1 (.pointer (some ⟨sb,0,none⟩)) 7 false)::LT S R) v) hA5.sback fun v hv=>(over_o 7 false hv.sfront).mono ?_).mono ?_
  ·rintro e w6 ⟨rfl,hE6⟩;exact ⟨1,rfl,rfl,hE6⟩
  ·rintro e w6 ⟨s2,rfl,rfl,hE6⟩;exact ⟨rfl,⟨_,_,_,_,hE6.get 0 rfl⟩,_,rfl,hE6⟩
 try simp only [Act.put,zA,zZ,zS]
 repeat ((first
  | (refine Ord.cv ?_ hT9.o ?_ ?_; rotate_left; (intro w5 hS; skip; go_simp<;>rfl))
  | (refine Ord.co hT9.o ?_));try simp only [Act.put,zA,zZ,zS])
 refine Ord.InText.nil fun w5 hS=>?_;clear hT9;obtain ⟨hC9,hA9⟩:=Ord.chain_end hS;clear hS;obtain ⟨P9,hP9,hA9⟩:=hA9;cases hP9;clear hC9 hE2;go_wp2_with fail;go_ret;exact ⟨rfl,hA9⟩
theorem seaInsLate_o (u:Int) (hh:S.hs=0) (hd:decP S.ql S.ce S.cl=0) (hE:Env w0 (boxI o (opC S.c 1 key val lv nx 0 (.pointer (some ⟨sb,0,none⟩)) er dn)::boxI sb (srC S.c 0 key false (.pointer (some ⟨a,0,none⟩)))::boxI a (laneC S.c 0 key false lnx st x y z W C X wd false pv)::LT S R) w) :
  Calls prog 191 #[.pointer (some ⟨o,0,none⟩),.int .i64 u] w fun r w'=>r=.returned (.int .i64 1)/\Env w0 (boxI o (opC S.c 1 key val lv nx 1 (.pointer (some ⟨sb,0,none⟩)) 7 false)::LT S R) w':=by
 have r:=hE.rule 0 rfl;unfold opC at r;have HR:=zH (insLate_o hh hd hE);clear hh hd;go_enter func191,ntmps191;go_wp2_with fail;refine (lane_g (hE.get 1 rfl)).mono ?_;rintro e w1 ⟨rfl,rfl⟩;go_wp2_with fail;refine HR.out.mono ?_;rintro e w1 ⟨rfl,hE2⟩;go_wp2_with fail;go_ret;exact ⟨rfl,hE2⟩
theorem insAlloc_o (hh:S.hs=0) (hd:decP S.ql S.ce S.cl≠0) (hE:Env w0 (boxI o (opC S.c kd key val lv nx 0 (.pointer (some ⟨sb,0,none⟩)) er dn)::boxI sb (srC S.c 0 key false (.pointer (some ⟨a,0,none⟩)))::boxI a (laneC S.c 0 key false lnx st x y z W C X wd false pv)::LT S R) w) :
  Calls prog 221 #[.pointer (some ⟨o,0,none⟩),.pointer (some ⟨a,0,none⟩)] w fun r w'=>r=.returned (.int .i64 0)/\∃ b1 b2 l,Env w0 (boxI o (opC S.c kd key val lv (cvP b1 b2) 0 (.pointer (some ⟨sb,0,none⟩)) er dn)::boxI b1 [mvL 179 l]::boxI b2 [cmV S.c kd key val lv o 5 159 223]::boxI l (av S.c { nx:=nxA l (decP S.ql S.ce S.cl),left:=.slice none 0 0,k:=kd,key:=key,val:=val,lv:=lv,h:=0,n:=0,r:=0,s:=0 })::LT S R) w':=by
 have hmf:=makeF;have hb:(S.hs != 0)=false:=by simpa using hh
 have HH:=zH hh;have HD:=zH hd;have r:=hE.rule 0 rfl;unfold opC at r;clear hh hd;go_enter func221,ntmps221;go_wp2_with fail;refine (found_g (hE.get 2 rfl)).mono ?_;rintro e w1 ⟨rfl,rfl⟩;go_wp2_with fail;refine (held_c (hE.get 3 rfl)).mono ?_;rintro e w2 ⟨rfl,hb1⟩;rw [hb];have hE2:=(hE.over hb1).box w2.heap.size rfl [.int .i64 S.hs,.int .i64 0] 110;clear hb1 hE r hb;go_wp2_with fail;replace hE2:=hE2.sub (L':=boxI o (opC S.c kd key val lv nx 0 (.pointer (some ⟨sb,0,none⟩)) er dn)::LT S R) (.cons _ (.cons_cons _ (.cons _ (.cons _ (List.Sublist.refl _)))));generalize w2.alloc _=w3 at *;refine Ord.wc [16] (OpAny S.c kd key val lv o sb) (Stage [Env w0 (boxI o (opC S.c kd key val lv nx 0 (.pointer (some ⟨sb,0,none⟩)) er dn)::LT S R),fun v=>∃ b1 b2 l,Env w0 (boxI o (opC S.c kd key val lv (cvP b1 b2) 0 (.pointer (some ⟨sb,0,none⟩)) er dn)::boxI b1 [mvL 179 l]::boxI b2 [cmV S.c kd key val lv o 5 159 223]::boxI l (av S.c { nx:=nxA l (decP S.ql S.ce S.cl),left:=.slice none 0 0,k:=kd,key:=key,val:=val,lv:=lv,h:=0,n:=0,r:=0,s:=0 })::LT S R) v]) ⟨nx,0,er,dn,hE2.drew.get 0 rfl⟩ ⟨_,rfl,hE2.drew⟩ fun hT9=>?_
 repeat ((first
  | (refine Ord.cv ?_ hT9.o ?_ ?_; rotate_left; (intro w5 hS; obtain ⟨nx9,st9,er9,dn9,hS9⟩:=hS; have r:=Blk.rule hS9; unfold opC at r; go_simp<;>rfl))
  | (refine Ord.co hT9.o ?_));try simp only [Act.put,zA,zZ,zS])
 refine Ord.ch_turn (v:=.int .i64 0) 0 hT9.o rfl (by decide) (Or.inl rfl) (by rfl) ?_ ?_
 ·rintro w5 hC5 ⟨P5,hP5,hA5⟩;cases hP5;go_simp;simp only [Ord.LandsIn];refine (slotAlloc_n (S:=S) (R:=boxI o (opC S.c kd key val lv nx 0 (.pointer (some ⟨sb,0,none⟩)) er dn)::R) (kd:=kd) (key:=key) (val:=val) (lv:=lv) (o:=o) (ro:=5) (FF:=159) (OV:=223) (m:=0) rfl (by simp [opC]) HH.out HD.out hA5.sback).mono ?_;rintro e w6 ⟨rfl,b1,b2,l,hE6⟩;have hE7:Env w0 (boxI o (opC S.c kd key val lv (cvP b1 b2) 0 (.pointer (some ⟨sb,0,none⟩)) er dn)::boxI b1 [mvL 179 l]::boxI b2 [cmV S.c kd key val lv o 5 159 223]::boxI l (av S.c { nx:=nxA l (decP S.ql S.ce S.cl),left:=.slice none 0 0,k:=kd,key:=key,val:=val,lv:=lv,h:=0,n:=0,r:=0,s:=0 })::LT S R) w6:=hE6.perm (List.perm_middle (l₁:=[_,_,_,_,_,_,_]));exact ⟨rfl,⟨_,_,_,_,hE7.get 0 rfl⟩,_,rfl,b1,b2,l,hE7⟩
 try simp only [Act.put,zA,zZ,zS]
 repeat ((first
  | (refine Ord.cv ?_ hT9.o ?_ ?_; rotate_left; (intro w5 hS; skip; go_simp<;>rfl))
  | (refine Ord.co hT9.o ?_));try simp only [Act.put,zA,zZ,zS])
 refine Ord.InText.nil fun w5 hS=>?_;clear hT9;obtain ⟨hC9,hA9⟩:=Ord.chain_end hS;clear hS;obtain ⟨P9,hP9,hA9⟩:=hA9;cases hP9;obtain ⟨b1,b2,l,hA9⟩:=hA9;clear hC9 hE2;go_wp2_with fail;go_ret;exact ⟨rfl,b1,b2,l,hA9⟩
theorem seaInsAlloc_o (u:Int) (hh:S.hs=0) (hd:decP S.ql S.ce S.cl≠0) (hE:Env w0 (boxI o (opC S.c 1 key val lv nx 0 (.pointer (some ⟨sb,0,none⟩)) er dn)::boxI sb (srC S.c 0 key false (.pointer (some ⟨a,0,none⟩)))::boxI a (laneC S.c 0 key false lnx st x y z W C X wd false pv)::LT S R) w) :
  Calls prog 191 #[.pointer (some ⟨o,0,none⟩),.int .i64 u] w fun r w'=>r=.returned (.int .i64 0)/\∃ b1 b2 l,Env w0 (boxI o (opC S.c 1 key val lv (cvP b1 b2) 0 (.pointer (some ⟨sb,0,none⟩)) er dn)::boxI b1 [mvL 179 l]::boxI b2 [cmV S.c 1 key val lv o 5 159 223]::boxI l (av S.c { nx:=nxA l (decP S.ql S.ce S.cl),left:=.slice none 0 0,k:=1,key:=key,val:=val,lv:=lv,h:=0,n:=0,r:=0,s:=0 })::LT S R) w':=by
 have r:=hE.rule 0 rfl;unfold opC at r;have HR:=zH (insAlloc_o hh hd hE);clear hh hd;go_enter func191,ntmps191;go_wp2_with fail;refine (lane_g (hE.get 1 rfl)).mono ?_;rintro e w1 ⟨rfl,rfl⟩;go_wp2_with fail;refine HR.out.mono ?_;rintro e w1 ⟨rfl,b1,b2,l,hE2⟩;go_wp2_with fail;go_ret;exact ⟨rfl,b1,b2,l,hE2⟩
end
structure Tm where
 (thr c q u:Nat)
 (F:Nat->Prop)
 (kq:Nat)
 (A:Option Addr)
 (rc:Nat)
 (N cr ro:Int)
 (dA:Option Addr)
 (dn dc:Nat)
 (pa pb pr pq pg ph:Value)
structure Wm where
 (p cc m:Nat)
 (G FU:Nat->Prop)
 (qc:Cnt)
 (n:Nat)
 (ml:List OneR)
instance:Inhabited Dd:=⟨⟨0,0,0,0,0⟩⟩
end
section
open Go.RowKit
theorem born_w (v:Value) (m:Int) (w:World):Calls prog 335 #[v,.int .i64 m] w fun e w'=>e=.returned (.int .i64 0)/\w'=w:=by
 go_enter func335,ntmps335
 go_wp2
 go_ret;exact ⟨rfl,rfl⟩
end
end Go.Proofs.YtffncfmciockmaaGreatDoor
