/- What is proved on the way to the statement, part 5: contracts of the functions, among other things in memory. -/
import Derived.Test.YtffncfmciockmaaGreatDoorM4

open _root_.Go.Proofs.Tryz
set_option maxRecDepth 100000
set_option maxHeartbeats 25600000
namespace Go.Proofs.YtffncfmciockmaaGreatDoor
section
open Go.RowKit Go.Maps
def pick4 {α:Type _} (a b c d:α):Nat->α
 | 0=>a
 | 1=>b
 | 2=>c
 | _=>d
section
variable {w0 w:World} {L:List Item} {a c:Nat} {lv key:Int} {vs:Bool} {nx:Value} {st x y z W C X wd:Int} {pf:Bool} {pv:Int}
theorem come0_l (v:Int) (hs:slotI v=0) (hv:InU v) (hg:Glo w0) (hE:Env w0 (boxI a (laneC c lv key vs nx st x y z W C X wd pf pv)::L) w) :
  Calls prog 289 #[.pointer (some ⟨a,0,none⟩),.agg #[.int .u64 v,.int .i64 0,.bool false]] w fun o w'=>o=.returned (.int .i64 1)/\∃ nx,Env w0 (boxI a (laneC c lv key vs nx 1 x y z v 0 0 wd pf pv)::L) w':=by
 have hmf:=makeF;have hso:=slot_of;have hE1:=hE.box w.heap.size rfl [.int .u64 v,.int .i64 0,.bool false] 127;have HLE:=zH fun (u:World) (hu:Below w0.heap.size w0 u)=>lead_c v 0 false u hv (hg.keep' hu);simp only [hs] at HLE;clear hs;clear hE hv hg;go_enter func289,ntmps289;go_wp2_with fail;refine Ord.wc [9,12,15] (fun u=>Below w0.heap.size w0 u/\Blk 0 u w.heap.size [.int .u64 v,.int .i64 0,.bool false]) (fun k w'=>Env w0 (pick4 (boxI w.heap.size [.int .u64 v,.int .i64 0,.bool false]::boxI a (laneC c lv key vs nx st x y z W C X wd pf pv)::L) (boxI w.heap.size [.int .u64 v,.int .i64 0,.bool false]::boxI a (laneC c lv key vs nx st x y z v C X wd pf pv)::L) (boxI w.heap.size [.int .u64 v,.int .i64 0,.bool false]::boxI a (laneC c lv key vs nx st x y z v 0 X wd pf pv)::L) (boxI w.heap.size [.int .u64 v,.int .i64 0,.bool false]::boxI a (laneC c lv key vs nx st x y z v 0 0 wd pf pv)::L) k) w') ⟨hE1.drew.below,hE1.drew.get 0 rfl⟩ hE1.drew fun hT9=>?_
 repeat ((first
  | (refine Ord.cv ?_ hT9.o ?_ ?_; rotate_left; (intro w5 hS; have r:=Blk.rule hS.2; go_simp<;>rfl))
  | (refine Ord.co hT9.o ?_)
  | (refine Ord.cc ?_ ?_ ?_ hT9.o ?_ ?_ ?_; rotate_left 3; (intro w5 hS; have r:=Blk.rule hS.2; go_simp; constructor<;>rfl); (intro w5 hS; (first | (with_reducible refine kp (HLE.out _ hS.1) ?_ ?_; rfl; exact fun w6 hb6=>⟨⟨hS.1.trans (hb6.mono hS.1.size),hS.2.under hb6⟩,fun _ h=>h.over hb6⟩)))));try simp only [Act.put,zA,zZ,zS])
 refine Ord.ch_turn (v:=undef) 0 hT9.o rfl (by decide) (Or.inl rfl) (by rfl) ?_ ?_
 ·rintro w5 hC5 hA5;replace hA5:Env w0 (boxI w.heap.size [.int .u64 v,.int .i64 0,.bool false]::boxI a (laneC c lv key vs nx st x y z W C X wd pf pv)::L) w5:=hA5;have r:=hA5.rule 1 rfl;unfold laneC at r;have g0:=hA5.thaw 1 rfl 10 (by simp [laneC]);have g1:=hA5.thaw 1 rfl 11 (by simp [laneC]);have g2:=hA5.thaw 1 rfl 12 (by simp [laneC]);go_simp;have h9:=(((hA5.put 1 rfl (j:=10) (by simp [laneC]) (.int .u64 v)).put 1 rfl (j:=11) (by simp [laneC]) (.int .i64 0)).put 1 rfl (j:=12) (by simp [laneC]) (.bool false));replace h9:Env w0 (boxI w.heap.size [.int .u64 v,.int .i64 0,.bool false]::boxI a (laneC c lv key vs nx st x y z v C X wd pf pv)::L) _:=h9;exact ⟨rfl,⟨h9.below,h9.get 0 rfl⟩,h9⟩
 try simp only [Act.put,zA,zZ,zS]
 repeat ((first
  | (refine Ord.cv ?_ hT9.o ?_ ?_; rotate_left; (intro w5 hS; have r:=Blk.rule hS.2; go_simp<;>rfl))
  | (refine Ord.co hT9.o ?_)
  | (refine Ord.cc ?_ ?_ ?_ hT9.o ?_ ?_ ?_; rotate_left 3; (intro w5 hS; have r:=Blk.rule hS.2; go_simp; constructor<;>rfl); (intro w5 hS; (first | (with_reducible refine kp (HLE.out _ hS.1) ?_ ?_; rfl; exact fun w6 hb6=>⟨⟨hS.1.trans (hb6.mono hS.1.size),hS.2.under hb6⟩,fun _ h=>h.over hb6⟩)))));try simp only [Act.put,zA,zZ,zS])
 refine Ord.ch_turn (v:=undef) 1 hT9.o rfl (by decide) (Or.inr ⟨_,rfl,by kernel_rfl⟩) (by rfl) ?_ ?_
 ·rintro w5 hC5 hA5;replace hA5:Env w0 (boxI w.heap.size [.int .u64 v,.int .i64 0,.bool false]::boxI a (laneC c lv key vs nx st x y z v C X wd pf pv)::L) w5:=hA5;have r:=hA5.rule 1 rfl;unfold laneC at r;have g0:=hA5.thaw 1 rfl 13 (by simp [laneC]);have g1:=hA5.thaw 1 rfl 14 (by simp [laneC]);go_simp;have h9:=((hA5.put 1 rfl (j:=13) (by simp [laneC]) (.int .i64 0)).put 1 rfl (j:=14) (by simp [laneC]) (.int .i64 0));replace h9:Env w0 (boxI w.heap.size [.int .u64 v,.int .i64 0,.bool false]::boxI a (laneC c lv key vs nx st x y z v 0 X wd pf pv)::L) _:=h9;exact ⟨rfl,⟨h9.below,h9.get 0 rfl⟩,h9⟩
 try simp only [Act.put,zA,zZ,zS]
 repeat ((first
  | (refine Ord.cv ?_ hT9.o ?_ ?_; rotate_left; (intro w5 hS; have r:=Blk.rule hS.2; go_simp<;>rfl))
  | (refine Ord.co hT9.o ?_)
  | (refine Ord.cc ?_ ?_ ?_ hT9.o ?_ ?_ ?_; rotate_left 3; (intro w5 hS; have r:=Blk.rule hS.2; go_simp; constructor<;>rfl); (intro w5 hS; (first | (with_reducible refine kp (HLE.out _ hS.1) ?_ ?_; rfl; exact fun w6 hb6=>⟨⟨hS.1.trans (hb6.mono hS.1.size),hS.2.under hb6⟩,fun _ h=>h.over hb6⟩)))));try simp only [Act.put,zA,zZ,zS])
 refine Ord.ch_turn (v:=undef) 2 hT9.o rfl (by decide) (Or.inr ⟨_,rfl,by kernel_rfl⟩) (by rfl) ?_ ?_
 ·rintro w5 hC5 hA5;replace hA5:Env w0 (boxI w.heap.size [.int .u64 v,.int .i64 0,.bool false]::boxI a (laneC c lv key vs nx st x y z v 0 X wd pf pv)::L) w5:=hA5;have r:=hA5.rule 1 rfl;unfold laneC at r;have g0:=hA5.thaw 1 rfl 15 (by simp [laneC]);have g1:=hA5.thaw 1 rfl 16 (by simp [laneC]);have g2:=hA5.thaw 1 rfl 17 (by simp [laneC]);go_simp;have h9:=(((hA5.put 1 rfl (j:=15) (by simp [laneC]) (.int .u64 0)).put 1 rfl (j:=16) (by simp [laneC]) (.int .i64 0)).put 1 rfl (j:=17) (by simp [laneC]) (.bool false));replace h9:Env w0 (boxI w.heap.size [.int .u64 v,.int .i64 0,.bool false]::boxI a (laneC c lv key vs nx st x y z v 0 0 wd pf pv)::L) _:=h9;exact ⟨rfl,⟨h9.below,h9.get 0 rfl⟩,h9⟩
 try simp only [Act.put,zA,zZ,zS]
 repeat ((first
  | (refine Ord.cv ?_ hT9.o ?_ ?_; rotate_left; (intro w5 hS; have r:=Blk.rule hS.2; go_simp<;>rfl))
  | (refine Ord.co hT9.o ?_)
  | (refine Ord.cc ?_ ?_ ?_ hT9.o ?_ ?_ ?_; rotate_left 3; (intro w5 hS; have r:=Blk.rule hS.2; go_simp; constructor<;>rfl); (intro w5 hS; (first | (with_reducible refine kp (HLE.out _ hS.1) ?_ ?_; rfl; exact fun w6 hb6=>⟨⟨hS.1.trans (hb6.mono hS.1.size),hS.2.under hb6⟩,fun _ h=>h.over hb6⟩)))));try simp only [Act.put,zA,zZ,zS])
 refine Ord.InText.nil fun w5 hS=>?_;clear hT9;obtain ⟨hC9,hA9⟩:=Ord.chain_end hS;clear hS;replace hA9:Env w0 (boxI w.heap.size [.int .u64 v,.int .i64 0,.bool false]::boxI a (laneC c lv key vs nx st x y z v 0 0 wd pf pv)::L) w5:=hA9;clear hE1 hC9 HLE;have r:=hA9.rule 1 rfl;unfold laneC at r;have g0:=hA9.thaw 1 rfl 13 (by simp [laneC]);have g1:=hA9.thaw 1 rfl 14 (by simp [laneC]);have hP:=(hA9.put 1 rfl (j:=13) (by simp [laneC]) (.int .i64 0)).put 1 rfl (j:=14) (by simp [laneC]) (.int .i64 0);replace hP:Env w0 (boxI w.heap.size [.int .u64 v,.int .i64 0,.bool false]::boxI a (laneC c lv key vs nx st x y z v 0 0 wd pf pv)::L) _:=hP;go_wp2_with fail;refine (end_l 1 1 (by simp [laneC]) hP rfl).mono ?_;rintro o w6 ⟨rfl,nx,hE6⟩;go_wp2_with fail;go_ret;exact ⟨rfl,nx,hE6.sub (.cons _ (List.Sublist.refl _))⟩
theorem comeY_l (v:Int) (hs:slotI v≠0) (hv:InU v) (hg:Glo w0) (hE:Env w0 (boxI a (laneC c lv key vs nx st x y z W C X wd pf pv)::L) w) :
  Calls prog 289 #[.pointer (some ⟨a,0,none⟩),.agg #[.int .u64 v,.int .i64 0,.bool false]] w fun o w'=>o=.returned (.int .i64 0)/\Env w0 (boxI a (laneC c lv key vs (mvL 301 a) st x y z v (slotI v) 0 wd pf pv)::L) w':=by
 have hmf:=makeF;have hso:=slot_of;have hE1:=hE.box w.heap.size rfl [.int .u64 v,.int .i64 0,.bool false] 127;have HLE:=zH fun (u:World) (hu:Below w0.heap.size w0 u)=>lead_c v 0 false u hv (hg.keep' hu);obtain ⟨s,hs9⟩:∃ s,slotI v=s:=⟨_,rfl⟩;rw [hs9] at hs ⊢;simp only [hs9] at HLE;have hsb:(s==0)=false:=by simpa using hs
 clear hs9 hs;clear hE hv hg;go_enter func289,ntmps289;go_wp2_with fail;refine Ord.wc [9,12,15] (fun u=>Below w0.heap.size w0 u/\Blk 0 u w.heap.size [.int .u64 v,.int .i64 0,.bool false]) (fun k w'=>Env w0 (pick4 (boxI w.heap.size [.int .u64 v,.int .i64 0,.bool false]::boxI a (laneC c lv key vs nx st x y z W C X wd pf pv)::L) (boxI w.heap.size [.int .u64 v,.int .i64 0,.bool false]::boxI a (laneC c lv key vs nx st x y z v C X wd pf pv)::L) (boxI w.heap.size [.int .u64 v,.int .i64 0,.bool false]::boxI a (laneC c lv key vs nx st x y z v s X wd pf pv)::L) (boxI w.heap.size [.int .u64 v,.int .i64 0,.bool false]::boxI a (laneC c lv key vs nx st x y z v s 0 wd pf pv)::L) k) w') ⟨hE1.drew.below,hE1.drew.get 0 rfl⟩ hE1.drew fun hT9=>?_
 repeat ((first
  | (refine Ord.cv ?_ hT9.o ?_ ?_; rotate_left; (intro w5 hS; have r:=Blk.rule hS.2; go_simp<;>rfl))
  | (refine Ord.co hT9.o ?_)
  | (refine Ord.cc ?_ ?_ ?_ hT9.o ?_ ?_ ?_; rotate_left 3; (intro w5 hS; have r:=Blk.rule hS.2; go_simp; constructor<;>rfl); (intro w5 hS; (first | (with_reducible refine kp (HLE.out _ hS.1) ?_ ?_; rfl; exact fun w6 hb6=>⟨⟨hS.1.trans (hb6.mono hS.1.size),hS.2.under hb6⟩,fun _ h=>h.over hb6⟩)))));try simp only [Act.put,zA,zZ,zS])
 refine Ord.ch_turn (v:=undef) 0 hT9.o rfl (by decide) (Or.inl rfl) (by rfl) ?_ ?_
 ·rintro w5 hC5 hA5;replace hA5:Env w0 (boxI w.heap.size [.int .u64 v,.int .i64 0,.bool false]::boxI a (laneC c lv key vs nx st x y z W C X wd pf pv)::L) w5:=hA5;have r:=hA5.rule 1 rfl;unfold laneC at r;have g0:=hA5.thaw 1 rfl 10 (by simp [laneC]);have g1:=hA5.thaw 1 rfl 11 (by simp [laneC]);have g2:=hA5.thaw 1 rfl 12 (by simp [laneC]);go_simp;have h9:=(((hA5.put 1 rfl (j:=10) (by simp [laneC]) (.int .u64 v)).put 1 rfl (j:=11) (by simp [laneC]) (.int .i64 0)).put 1 rfl (j:=12) (by simp [laneC]) (.bool false));replace h9:Env w0 (boxI w.heap.size [.int .u64 v,.int .i64 0,.bool false]::boxI a (laneC c lv key vs nx st x y z v C X wd pf pv)::L) _:=h9;exact ⟨rfl,⟨h9.below,h9.get 0 rfl⟩,h9⟩
 try simp only [Act.put,zA,zZ,zS]
 repeat ((first
  | (refine Ord.cv ?_ hT9.o ?_ ?_; rotate_left; (intro w5 hS; have r:=Blk.rule hS.2; go_simp<;>rfl))
  | (refine Ord.co hT9.o ?_)
  | (refine Ord.cc ?_ ?_ ?_ hT9.o ?_ ?_ ?_; rotate_left 3; (intro w5 hS; have r:=Blk.rule hS.2; go_simp; constructor<;>rfl); (intro w5 hS; (first | (with_reducible refine kp (HLE.out _ hS.1) ?_ ?_; rfl; exact fun w6 hb6=>⟨⟨hS.1.trans (hb6.mono hS.1.size),hS.2.under hb6⟩,fun _ h=>h.over hb6⟩)))));try simp only [Act.put,zA,zZ,zS])
 refine Ord.ch_turn (v:=undef) 1 hT9.o rfl (by decide) (Or.inr ⟨_,rfl,by kernel_rfl⟩) (by rfl) ?_ ?_
 ·rintro w5 hC5 hA5;replace hA5:Env w0 (boxI w.heap.size [.int .u64 v,.int .i64 0,.bool false]::boxI a (laneC c lv key vs nx st x y z v C X wd pf pv)::L) w5:=hA5;have r:=hA5.rule 1 rfl;unfold laneC at r;have g0:=hA5.thaw 1 rfl 13 (by simp [laneC]);have g1:=hA5.thaw 1 rfl 14 (by simp [laneC]);go_simp;have h9:=((hA5.put 1 rfl (j:=13) (by simp [laneC]) (.int .i64 s)).put 1 rfl (j:=14) (by simp [laneC]) (.int .i64 0));replace h9:Env w0 (boxI w.heap.size [.int .u64 v,.int .i64 0,.bool false]::boxI a (laneC c lv key vs nx st x y z v s X wd pf pv)::L) _:=h9;exact ⟨rfl,⟨h9.below,h9.get 0 rfl⟩,h9⟩
 try simp only [Act.put,zA,zZ,zS]
 repeat ((first
  | (refine Ord.cv ?_ hT9.o ?_ ?_; rotate_left; (intro w5 hS; have r:=Blk.rule hS.2; go_simp<;>rfl))
  | (refine Ord.co hT9.o ?_)
  | (refine Ord.cc ?_ ?_ ?_ hT9.o ?_ ?_ ?_; rotate_left 3; (intro w5 hS; have r:=Blk.rule hS.2; go_simp; constructor<;>rfl); (intro w5 hS; (first | (with_reducible refine kp (HLE.out _ hS.1) ?_ ?_; rfl; exact fun w6 hb6=>⟨⟨hS.1.trans (hb6.mono hS.1.size),hS.2.under hb6⟩,fun _ h=>h.over hb6⟩)))));try simp only [Act.put,zA,zZ,zS])
 refine Ord.ch_turn (v:=undef) 2 hT9.o rfl (by decide) (Or.inr ⟨_,rfl,by kernel_rfl⟩) (by rfl) ?_ ?_
 ·rintro w5 hC5 hA5;replace hA5:Env w0 (boxI w.heap.size [.int .u64 v,.int .i64 0,.bool false]::boxI a (laneC c lv key vs nx st x y z v s X wd pf pv)::L) w5:=hA5;have r:=hA5.rule 1 rfl;unfold laneC at r;have g0:=hA5.thaw 1 rfl 15 (by simp [laneC]);have g1:=hA5.thaw 1 rfl 16 (by simp [laneC]);have g2:=hA5.thaw 1 rfl 17 (by simp [laneC]);go_simp;have h9:=(((hA5.put 1 rfl (j:=15) (by simp [laneC]) (.int .u64 0)).put 1 rfl (j:=16) (by simp [laneC]) (.int .i64 0)).put 1 rfl (j:=17) (by simp [laneC]) (.bool false));replace h9:Env w0 (boxI w.heap.size [.int .u64 v,.int .i64 0,.bool false]::boxI a (laneC c lv key vs nx st x y z v s 0 wd pf pv)::L) _:=h9;exact ⟨rfl,⟨h9.below,h9.get 0 rfl⟩,h9⟩
 try simp only [Act.put,zA,zZ,zS]
 repeat ((first
  | (refine Ord.cv ?_ hT9.o ?_ ?_; rotate_left; (intro w5 hS; have r:=Blk.rule hS.2; go_simp<;>rfl))
  | (refine Ord.co hT9.o ?_)
  | (refine Ord.cc ?_ ?_ ?_ hT9.o ?_ ?_ ?_; rotate_left 3; (intro w5 hS; have r:=Blk.rule hS.2; go_simp; constructor<;>rfl); (intro w5 hS; (first | (with_reducible refine kp (HLE.out _ hS.1) ?_ ?_; rfl; exact fun w6 hb6=>⟨⟨hS.1.trans (hb6.mono hS.1.size),hS.2.under hb6⟩,fun _ h=>h.over hb6⟩)))));try simp only [Act.put,zA,zZ,zS])
 refine Ord.InText.nil fun w5 hS=>?_;clear hT9;obtain ⟨hC9,hA9⟩:=Ord.chain_end hS;clear hS;replace hA9:Env w0 (boxI w.heap.size [.int .u64 v,.int .i64 0,.bool false]::boxI a (laneC c lv key vs nx st x y z v s 0 wd pf pv)::L) w5:=hA9;clear hE1 hC9 HLE;have r:=hA9.rule 1 rfl;unfold laneC at r;go_wp2_with fail;refine (goOn_l 1 _ _ _ (by simp [laneC]) hA9 rfl).mono ?_;rintro o w6 ⟨rfl,hE6⟩;go_wp2_with fail;go_ret;exact ⟨rfl,hE6.sub (.cons _ (List.Sublist.refl _))⟩
end
section
variable {w0 w:World} {R:List Item} {a:Nat} {S:ST} {lv key:Int} {vs:Bool} {nx:Value} {st x y z W C X wd:Int} {pf:Bool} {pv:Int}
theorem loadInto_l (v:Int) (hfx:S.f (x,y,z)=v) (hwf:Wf (x,y,z)) (hE:Env w0 (boxI a (laneC S.c lv key vs nx st x y z W C X wd pf pv)::LT S R) w) :
  Calls prog 234 #[.pointer (some ⟨a,0,none⟩),.iface 28 (.pointer (some ⟨S.p,0,none⟩))] w fun o w'=>o=.returned (.int .i64 0)/\∃ b1 b2,Env w0 (boxI a (laneC S.c lv key vs (cvL b1 b2) st x y z v C X wd pf pv)::boxI b1 [.pointer (some ⟨a,0,none⟩)]::boxI b2 [mvL 265 a]::LT { S with qc:={ S.qc with l:=wrap64 (S.qc.l+1) } } R) w':=by
 have hmf:=makeF;have hah:=ahead_load;have hvw:=val_word;have HX:=zH hfx;have HWF:=zH hwf;clear hfx hwf;go_enter func234,ntmps234;go_wp2_with fail;refine Ord.wc [9,12] (fun u=>Below w0.heap.size w0 u/\∃ n8,Blk 0 u a (laneC S.c lv key vs nx st x y z n8 C X wd pf pv)) (fun k w'=>Env w0 (pick3 (boxI a (laneC S.c lv key vs nx st x y z W C X wd pf pv)::LT S R) (boxI a (laneC S.c lv key vs nx st x y z W C X wd pf pv)::LT { S with qc:={ S.qc with l:=wrap64 (S.qc.l+1) } } R) (boxI a (laneC S.c lv key vs nx st x y z v C X wd pf pv)::LT { S with qc:={ S.qc with l:=wrap64 (S.qc.l+1) } } R) k) w') ⟨hE.drew.below,W,hE.drew.get 0 rfl⟩ hE.drew fun hT9=>?_
 repeat ((first
  | (refine Ord.cv ?_ hT9.o ?_ ?_; rotate_left; (intro w5 hS; obtain ⟨hS0,n9,hS1⟩:=hS; have r:=Blk.rule hS1; unfold laneC at r; go_simp<;>rfl))
  | (refine Ord.co hT9.o ?_));try simp only [Act.put,zA,zZ,zS])
 refine Ord.ch_turn (v:=.agg #[.int .u64 v,.int .i64 0,.bool false]) 0 hT9.o rfl (by decide) (Or.inl rfl) (by rfl) ?_ ?_
 ·rintro w5 hC5 hA5;replace hA5:Env w0 (boxI a (laneC S.c lv key vs nx st x y z W C X wd pf pv)::LT S R) w5:=hA5;go_simp;rw [method_load];simp only [Result.andThen_ok];go_simp;simp only [Ord.LandsIn];have hl:=load_w x y z 0 HWF.out 3 4 (by decide) hA5 rfl rfl;rw [HX.out] at hl;refine hl.mono ?_;rintro e w6 ⟨rfl,hE6⟩;exact ⟨rfl,⟨hE6.below,_,hE6.get 0 rfl⟩,hE6⟩
 try simp only [Act.put,zA,zZ,zS]
 repeat ((first
  | (refine Ord.cv ?_ hT9.o ?_ ?_; rotate_left; (intro w5 hS; skip; go_simp<;>rfl))
  | (refine Ord.co hT9.o ?_));try simp only [Act.put,zA,zZ,zS])
 refine Ord.ch_turn (v:=undef) 1 hT9.o rfl (by decide) (Or.inr ⟨_,rfl,by kernel_rfl⟩) (by rfl) ?_ ?_
 ·rintro w5 hC5 hA5;replace hA5:Env w0 (boxI a (laneC S.c lv key vs nx st x y z W C X wd pf pv)::LT { S with qc:={ S.qc with l:=wrap64 (S.qc.l+1) } } R) w5:=hA5;have r:=hA5.rule 0 rfl;unfold laneC at r;have g0:=hA5.thaw 0 rfl 10 (by simp [laneC]);have g1:=hA5.thaw 0 rfl 11 (by simp [laneC]);have g2:=hA5.thaw 0 rfl 12 (by simp [laneC]);go_simp;have h9:=(((hA5.put 0 rfl (j:=10) (by simp [laneC]) (.int .u64 v)).put 0 rfl (j:=11) (by simp [laneC]) (.int .i64 0)).put 0 rfl (j:=12) (by simp [laneC]) (.bool false));replace h9:Env w0 (boxI a (laneC S.c lv key vs nx st x y z v C X wd pf pv)::LT { S with qc:={ S.qc with l:=wrap64 (S.qc.l+1) } } R) _:=h9;exact ⟨rfl,⟨h9.below,_,h9.get 0 rfl⟩,h9⟩
 try simp only [Act.put,zA,zZ,zS]
 repeat ((first
  | (refine Ord.cv ?_ hT9.o ?_ ?_; rotate_left; (intro w5 hS; skip; go_simp<;>rfl))
  | (refine Ord.co hT9.o ?_));try simp only [Act.put,zA,zZ,zS])
 refine Ord.InText.nil fun w5 hS=>?_;clear hT9;obtain ⟨hC9,hA9⟩:=Ord.chain_end hS;clear hS;replace hA9:Env w0 (boxI a (laneC S.c lv key vs nx st x y z v C X wd pf pv)::LT { S with qc:={ S.qc with l:=wrap64 (S.qc.l+1) } } R) w5:=hA9;clear hE hC9;have r:=hA9.rule 0 rfl;unfold laneC at r;go_wp2_with fail;refine (validate_l _ _ _ (by simp [laneC]) hA9).mono ?_;rintro o w6 ⟨rfl,b1,b2,hE6⟩;go_wp2_with fail;go_ret;exact ⟨rfl,b1,b2,hE6⟩
theorem loadOut_l (hlv:0<=lv/\lv<=1000000) (v:Int) (hfx:S.f (5,C,7+lv)=v) (hwf:Wf (5,C,7+lv)) (hE:Env w0 (boxI a (laneC S.c lv key vs nx st x y z W C X wd pf pv)::LT S R) w) :
  Calls prog 301 #[.pointer (some ⟨a,0,none⟩),.iface 28 (.pointer (some ⟨S.p,0,none⟩))] w fun o w'=>o=.returned (.int .i64 0)/\∃ b1 b2,Env w0 (boxI a (laneC S.c lv key vs (cvL b1 b2) st x y z W C v wd pf pv)::boxI b1 [.pointer (some ⟨a,0,none⟩)]::boxI b2 [mvL 308 a]::LT { S with qc:={ S.qc with l:=wrap64 (S.qc.l+1) } } R) w':=by
 have hmf:=makeF;have hah:=ahead_load;have hvw:=val_word;have HX:=zH hfx;have HWF:=zH hwf;clear hfx hwf;go_enter func301,ntmps301;go_wp2_with fail;refine Ord.wc [7,10] (fun u=>Below w0.heap.size w0 u/\∃ n8,Blk 0 u a (laneC S.c lv key vs nx st x y z W C n8 wd pf pv)) (fun k w'=>Env w0 (pick3 (boxI a (laneC S.c lv key vs nx st x y z W C X wd pf pv)::LT S R) (boxI a (laneC S.c lv key vs nx st x y z W C X wd pf pv)::LT { S with qc:={ S.qc with l:=wrap64 (S.qc.l+1) } } R) (boxI a (laneC S.c lv key vs nx st x y z W C v wd pf pv)::LT { S with qc:={ S.qc with l:=wrap64 (S.qc.l+1) } } R) k) w') ⟨hE.drew.below,X,hE.drew.get 0 rfl⟩ hE.drew fun hT9=>?_
 repeat ((first
  | (refine Ord.cv ?_ hT9.o ?_ ?_; rotate_left; (intro w5 hS; obtain ⟨hS0,n9,hS1⟩:=hS; have r:=Blk.rule hS1; unfold laneC at r; go_simp<;>rfl))
  | (refine Ord.co hT9.o ?_)
  | (refine Ord.cc ?_ ?_ ?_ hT9.o ?_ ?_ ?_; rotate_left 3; (intro w5 hS; obtain ⟨hS0,n9,hS1⟩:=hS; have r:=Blk.rule hS1; unfold laneC at r; go_simp; constructor<;>rfl); (intro w5 hS; (first | (obtain ⟨hS0,n9,hS1⟩:=hS; with_reducible refine kp (nextLink_l hlv hS1) ?_ ?_; rfl; exact fun w6 hb6=>⟨⟨hS0.trans (hb6.mono hS0.size),n9,hS1.under hb6⟩,fun k h=>h.over hb6⟩)))));try simp only [Act.put,zA,zZ,zS])
 refine Ord.ch_turn (v:=.agg #[.int .u64 v,.int .i64 0,.bool false]) 0 hT9.o rfl (by decide) (Or.inl rfl) (by rfl) ?_ ?_
 ·rintro w5 hC5 hA5;replace hA5:Env w0 (boxI a (laneC S.c lv key vs nx st x y z W C X wd pf pv)::LT S R) w5:=hA5;go_simp;rw [method_load];simp only [Result.andThen_ok];go_simp;simp only [Ord.LandsIn];have hl:=load_w 5 C (7+lv) 0 HWF.out 3 4 (by decide) hA5 rfl rfl;rw [HX.out] at hl;refine hl.mono ?_;rintro e w6 ⟨rfl,hE6⟩;exact ⟨rfl,⟨hE6.below,_,hE6.get 0 rfl⟩,hE6⟩
 try simp only [Act.put,zA,zZ,zS]
 repeat ((first
  | (refine Ord.cv ?_ hT9.o ?_ ?_; rotate_left; (intro w5 hS; skip; go_simp<;>rfl))
  | (refine Ord.co hT9.o ?_));try simp only [Act.put,zA,zZ,zS])
 refine Ord.ch_turn (v:=undef) 1 hT9.o rfl (by decide) (Or.inr ⟨_,rfl,by kernel_rfl⟩) (by rfl) ?_ ?_
 ·rintro w5 hC5 hA5;replace hA5:Env w0 (boxI a (laneC S.c lv key vs nx st x y z W C X wd pf pv)::LT { S with qc:={ S.qc with l:=wrap64 (S.qc.l+1) } } R) w5:=hA5;have r:=hA5.rule 0 rfl;unfold laneC at r;have g0:=hA5.thaw 0 rfl 15 (by simp [laneC]);have g1:=hA5.thaw 0 rfl 16 (by simp [laneC]);have g2:=hA5.thaw 0 rfl 17 (by simp [laneC]);go_simp;have h9:=(((hA5.put 0 rfl (j:=15) (by simp [laneC]) (.int .u64 v)).put 0 rfl (j:=16) (by simp [laneC]) (.int .i64 0)).put 0 rfl (j:=17) (by simp [laneC]) (.bool false));replace h9:Env w0 (boxI a (laneC S.c lv key vs nx st x y z W C v wd pf pv)::LT { S with qc:={ S.qc with l:=wrap64 (S.qc.l+1) } } R) _:=h9;exact ⟨rfl,⟨h9.below,_,h9.get 0 rfl⟩,h9⟩
 try simp only [Act.put,zA,zZ,zS]
 repeat ((first
  | (refine Ord.cv ?_ hT9.o ?_ ?_; rotate_left; (intro w5 hS; skip; go_simp<;>rfl))
  | (refine Ord.co hT9.o ?_));try simp only [Act.put,zA,zZ,zS])
 refine Ord.InText.nil fun w5 hS=>?_;clear hT9;obtain ⟨hC9,hA9⟩:=Ord.chain_end hS;clear hS;replace hA9:Env w0 (boxI a (laneC S.c lv key vs nx st x y z W C v wd pf pv)::LT { S with qc:={ S.qc with l:=wrap64 (S.qc.l+1) } } R) w5:=hA9;clear hE hC9;have r:=hA9.rule 0 rfl;unfold laneC at r;go_wp2_with fail;refine (validate_l _ _ _ (by simp [laneC]) hA9).mono ?_;rintro o w6 ⟨rfl,b1,b2,hE6⟩;go_wp2_with fail;go_ret;exact ⟨rfl,b1,b2,hE6⟩
theorem loadKey_l (v:Int) (hfx:S.f (5,C,3)=v) (hwf:Wf (5,C,3)) (hE:Env w0 (boxI a (laneC S.c lv key vs nx st x y z W C X wd pf pv)::LT S R) w) :
  Calls prog 312 #[.pointer (some ⟨a,0,none⟩),.iface 28 (.pointer (some ⟨S.p,0,none⟩))] w fun o w'=>o=.returned (.int .i64 0)/\∃ b1 b2,Env w0 (boxI a (laneC S.c lv key vs (cvL b1 b2) st x y z W C X v pf pv)::boxI b1 [.pointer (some ⟨a,0,none⟩)]::boxI b2 [mvL 316 a]::LT { S with qc:={ S.qc with l:=wrap64 (S.qc.l+1) } } R) w':=by
 have hmf:=makeF;have hah:=ahead_load;have hvw:=val_word;have HX:=zH hfx;have HWF:=zH hwf;clear hfx hwf;go_enter func312,ntmps312;go_wp2_with fail;refine Ord.wc [7,11] (fun u=>Below w0.heap.size w0 u/\∃ n8,Blk 0 u a (laneC S.c lv key vs nx st x y z W C X n8 pf pv)) (fun k w'=>Env w0 (pick3 (boxI a (laneC S.c lv key vs nx st x y z W C X wd pf pv)::LT S R) (boxI a (laneC S.c lv key vs nx st x y z W C X wd pf pv)::LT { S with qc:={ S.qc with l:=wrap64 (S.qc.l+1) } } R) (boxI a (laneC S.c lv key vs nx st x y z W C X v pf pv)::LT { S with qc:={ S.qc with l:=wrap64 (S.qc.l+1) } } R) k) w') ⟨hE.drew.below,wd,hE.drew.get 0 rfl⟩ hE.drew fun hT9=>?_
 repeat ((first
  | (refine Ord.cv ?_ hT9.o ?_ ?_; rotate_left; (intro w5 hS; obtain ⟨hS0,n9,hS1⟩:=hS; have r:=Blk.rule hS1; unfold laneC at r; go_simp<;>rfl))
  | (refine Ord.co hT9.o ?_)
  | (refine Ord.cc ?_ ?_ ?_ hT9.o ?_ ?_ ?_; rotate_left 3; (intro w5 hS; obtain ⟨hS0,n9,hS1⟩:=hS; have r:=Blk.rule hS1; unfold laneC at r; go_simp; constructor<;>rfl); (intro w5 hS; (first | (obtain ⟨hS0,n9,hS1⟩:=hS; with_reducible refine kp (part_l 3 hS1) ?_ ?_; rfl; exact fun w6 hb6=>⟨⟨hS0.trans (hb6.mono hS0.size),n9,hS1.under hb6⟩,fun k h=>h.over hb6⟩)))));try simp only [Act.put,zA,zZ,zS])
 refine Ord.ch_turn (v:=.agg #[.int .u64 v,.int .i64 0,.bool false]) 0 hT9.o rfl (by decide) (Or.inl rfl) (by rfl) ?_ ?_
 ·rintro w5 hC5 hA5;replace hA5:Env w0 (boxI a (laneC S.c lv key vs nx st x y z W C X wd pf pv)::LT S R) w5:=hA5;go_simp;rw [method_load];simp only [Result.andThen_ok];go_simp;simp only [Ord.LandsIn];have hl:=load_w 5 C 3 0 HWF.out 3 4 (by decide) hA5 rfl rfl;rw [HX.out] at hl;refine hl.mono ?_;rintro e w6 ⟨rfl,hE6⟩;exact ⟨rfl,⟨hE6.below,_,hE6.get 0 rfl⟩,hE6⟩
 try simp only [Act.put,zA,zZ,zS]
 repeat ((first
  | (refine Ord.cv ?_ hT9.o ?_ ?_; rotate_left; (intro w5 hS; skip; go_simp<;>rfl))
  | (refine Ord.co hT9.o ?_));try simp only [Act.put,zA,zZ,zS])
 refine Ord.ch_turn (v:=undef) 1 hT9.o rfl (by decide) (Or.inr ⟨_,rfl,by kernel_rfl⟩) (by rfl) ?_ ?_
 ·rintro w5 hC5 hA5;replace hA5:Env w0 (boxI a (laneC S.c lv key vs nx st x y z W C X wd pf pv)::LT { S with qc:={ S.qc with l:=wrap64 (S.qc.l+1) } } R) w5:=hA5;have r:=hA5.rule 0 rfl;unfold laneC at r;have g0:=hA5.thaw 0 rfl 18 (by simp [laneC]);go_simp;have h9:=(hA5.put 0 rfl (j:=18) (by simp [laneC]) (.int .u64 v));replace h9:Env w0 (boxI a (laneC S.c lv key vs nx st x y z W C X v pf pv)::LT { S with qc:={ S.qc with l:=wrap64 (S.qc.l+1) } } R) _:=h9;exact ⟨rfl,⟨h9.below,_,h9.get 0 rfl⟩,h9⟩
 try simp only [Act.put,zA,zZ,zS]
 repeat ((first
  | (refine Ord.cv ?_ hT9.o ?_ ?_; rotate_left; (intro w5 hS; skip; go_simp<;>rfl))
  | (refine Ord.co hT9.o ?_));try simp only [Act.put,zA,zZ,zS])
 refine Ord.InText.nil fun w5 hS=>?_;clear hT9;obtain ⟨hC9,hA9⟩:=Ord.chain_end hS;clear hS;replace hA9:Env w0 (boxI a (laneC S.c lv key vs nx st x y z W C X v pf pv)::LT { S with qc:={ S.qc with l:=wrap64 (S.qc.l+1) } } R) w5:=hA9;clear hE hC9;have r:=hA9.rule 0 rfl;unfold laneC at r;go_wp2_with fail;refine (validate_l _ _ _ (by simp [laneC]) hA9).mono ?_;rintro o w6 ⟨rfl,b1,b2,hE6⟩;go_wp2_with fail;go_ret;exact ⟨rfl,b1,b2,hE6⟩
theorem loadVal_l (v:Int) (hfx:S.f (5,C,4)=v) (hwf:Wf (5,C,4)) (hE:Env w0 (boxI a (laneC S.c lv key vs nx st x y z W C X wd pf pv)::LT S R) w) :
  Calls prog 317 #[.pointer (some ⟨a,0,none⟩),.iface 28 (.pointer (some ⟨S.p,0,none⟩))] w fun o w'=>o=.returned (.int .i64 0)/\∃ b1 b2,Env w0 (boxI a (laneC S.c lv key vs (cvL b1 b2) st x y z W C X v pf pv)::boxI b1 [.pointer (some ⟨a,0,none⟩)]::boxI b2 [mvL 318 a]::LT { S with qc:={ S.qc with l:=wrap64 (S.qc.l+1) } } R) w':=by
 have hmf:=makeF;have hah:=ahead_load;have hvw:=val_word;have HX:=zH hfx;have HWF:=zH hwf;clear hfx hwf;go_enter func317,ntmps317;go_wp2_with fail;refine Ord.wc [7,11] (fun u=>Below w0.heap.size w0 u/\∃ n8,Blk 0 u a (laneC S.c lv key vs nx st x y z W C X n8 pf pv)) (fun k w'=>Env w0 (pick3 (boxI a (laneC S.c lv key vs nx st x y z W C X wd pf pv)::LT S R) (boxI a (laneC S.c lv key vs nx st x y z W C X wd pf pv)::LT { S with qc:={ S.qc with l:=wrap64 (S.qc.l+1) } } R) (boxI a (laneC S.c lv key vs nx st x y z W C X v pf pv)::LT { S with qc:={ S.qc with l:=wrap64 (S.qc.l+1) } } R) k) w') ⟨hE.drew.below,wd,hE.drew.get 0 rfl⟩ hE.drew fun hT9=>?_
 repeat ((first
  | (refine Ord.cv ?_ hT9.o ?_ ?_; rotate_left; (intro w5 hS; obtain ⟨hS0,n9,hS1⟩:=hS; have r:=Blk.rule hS1; unfold laneC at r; go_simp<;>rfl))
  | (refine Ord.co hT9.o ?_)
  | (refine Ord.cc ?_ ?_ ?_ hT9.o ?_ ?_ ?_; rotate_left 3; (intro w5 hS; obtain ⟨hS0,n9,hS1⟩:=hS; have r:=Blk.rule hS1; unfold laneC at r; go_simp; constructor<;>rfl); (intro w5 hS; (first | (obtain ⟨hS0,n9,hS1⟩:=hS; with_reducible refine kp (part_l 4 hS1) ?_ ?_; rfl; exact fun w6 hb6=>⟨⟨hS0.trans (hb6.mono hS0.size),n9,hS1.under hb6⟩,fun k h=>h.over hb6⟩)))));try simp only [Act.put,zA,zZ,zS])
 refine Ord.ch_turn (v:=.agg #[.int .u64 v,.int .i64 0,.bool false]) 0 hT9.o rfl (by decide) (Or.inl rfl) (by rfl) ?_ ?_
 ·rintro w5 hC5 hA5;replace hA5:Env w0 (boxI a (laneC S.c lv key vs nx st x y z W C X wd pf pv)::LT S R) w5:=hA5;go_simp;rw [method_load];simp only [Result.andThen_ok];go_simp;simp only [Ord.LandsIn];have hl:=load_w 5 C 4 0 HWF.out 3 4 (by decide) hA5 rfl rfl;rw [HX.out] at hl;refine hl.mono ?_;rintro e w6 ⟨rfl,hE6⟩;exact ⟨rfl,⟨hE6.below,_,hE6.get 0 rfl⟩,hE6⟩
 try simp only [Act.put,zA,zZ,zS]
 repeat ((first
  | (refine Ord.cv ?_ hT9.o ?_ ?_; rotate_left; (intro w5 hS; skip; go_simp<;>rfl))
  | (refine Ord.co hT9.o ?_));try simp only [Act.put,zA,zZ,zS])
 refine Ord.ch_turn (v:=undef) 1 hT9.o rfl (by decide) (Or.inr ⟨_,rfl,by kernel_rfl⟩) (by rfl) ?_ ?_
 ·rintro w5 hC5 hA5;replace hA5:Env w0 (boxI a (laneC S.c lv key vs nx st x y z W C X wd pf pv)::LT { S with qc:={ S.qc with l:=wrap64 (S.qc.l+1) } } R) w5:=hA5;have r:=hA5.rule 0 rfl;unfold laneC at r;have g0:=hA5.thaw 0 rfl 18 (by simp [laneC]);go_simp;have h9:=(hA5.put 0 rfl (j:=18) (by simp [laneC]) (.int .u64 v));replace h9:Env w0 (boxI a (laneC S.c lv key vs nx st x y z W C X v pf pv)::LT { S with qc:={ S.qc with l:=wrap64 (S.qc.l+1) } } R) _:=h9;exact ⟨rfl,⟨h9.below,_,h9.get 0 rfl⟩,h9⟩
 try simp only [Act.put,zA,zZ,zS]
 repeat ((first
  | (refine Ord.cv ?_ hT9.o ?_ ?_; rotate_left; (intro w5 hS; skip; go_simp<;>rfl))
  | (refine Ord.co hT9.o ?_));try simp only [Act.put,zA,zZ,zS])
 refine Ord.InText.nil fun w5 hS=>?_;clear hT9;obtain ⟨hC9,hA9⟩:=Ord.chain_end hS;clear hS;replace hA9:Env w0 (boxI a (laneC S.c lv key vs nx st x y z W C X v pf pv)::LT { S with qc:={ S.qc with l:=wrap64 (S.qc.l+1) } } R) w5:=hA9;clear hE hC9;have r:=hA9.rule 0 rfl;unfold laneC at r;go_wp2_with fail;refine (validate_l _ _ _ (by simp [laneC]) hA9).mono ?_;rintro o w6 ⟨rfl,b1,b2,hE6⟩;go_wp2_with fail;go_ret;exact ⟨rfl,b1,b2,hE6⟩
end
def cS (v:Int):Int:=if slotI v=0 then 1 else 0
section
variable {w0 w:World} {L:List Item} {a c:Nat} {lv key:Int} {vs:Bool} {nx:Value} {x y z W C X wd:Int} {pf:Bool} {pv:Int}
theorem come_l (v:Int) (hv:InU v) (hg:Glo w0) (hE:Env w0 (boxI a (laneC c lv key vs nx 0 x y z W C X wd pf pv)::L) w) :
  Calls prog 289 #[.pointer (some ⟨a,0,none⟩),.agg #[.int .u64 v,.int .i64 0,.bool false]] w fun o w'=>o=.returned (.int .i64 (cS v))/\∃ nx,(slotI v≠0->nx=mvL 301 a)/\Env w0 (boxI a (laneC c lv key vs nx (cS v) x y z v (slotI v) 0 wd pf pv)::L) w':=by
 by_cases hs:slotI v=0
 ·refine (come0_l v hs hv hg hE).mono ?_;rintro o w1 ⟨rfl,nx,hE1⟩;have hc:cS v=1:=if_pos hs;rw [hc,hs];exact ⟨rfl,nx,fun h=>absurd rfl h,hE1⟩
 ·refine (comeY_l v hs hv hg hE).mono ?_;rintro o w1 ⟨rfl,hE1⟩;have hc:cS v=0:=if_neg hs;rw [hc];exact ⟨rfl,_,fun _=>rfl,hE1⟩
theorem intoMark_l (hm:markB W=true) (hv:InU W) (hg:Glo w0) (hE:Env w0 (boxI a (laneC c lv key vs nx 0 x y z W C X wd pf pv)::L) w) :
  Calls prog 265 #[.pointer (some ⟨a,0,none⟩)] w fun o w'=>o=.returned (.int .i64 2)/\∃ nx,Env w0 (boxI a (laneC c lv key vs nx 2 x y z W C X wd pf pv)::L) w':=by
 have r:=hE.rule 0 rfl;unfold laneC at r;have h1:=isMarked_any W w (hg.keep' hE.below) hv.1 hv.2;rw [hm] at h1;clear hm hv hg;go_enter func265,ntmps265;go_wp2_with fail;refine h1.mono ?_;rintro o w1 ⟨rfl,hb⟩;replace hE:=hE.over hb;clear hb r;go_wp2_with fail;refine (end_l 0 2 (by simp [laneC]) hE rfl).mono ?_;rintro o w6 ⟨rfl,nx,hE6⟩;go_wp2_with fail;go_ret;exact ⟨rfl,nx,hE6⟩
theorem intoCome_l (hm:markB W=false) (hv:InU W) (hg:Glo w0) (hE:Env w0 (boxI a (laneC c lv key vs nx 0 x y z W C X wd pf pv)::L) w) :
  Calls prog 265 #[.pointer (some ⟨a,0,none⟩)] w fun o w'=>o=.returned (.int .i64 (cS W))/\∃ nx,(slotI W≠0->nx=mvL 301 a)/\Env w0 (boxI a (laneC c lv key vs nx (cS W) x y z W (slotI W) 0 wd pf pv)::L) w':=by
 have r:=hE.rule 0 rfl;unfold laneC at r;have h1:=isMarked_any W w (hg.keep' hE.below) hv.1 hv.2;rw [hm] at h1;have HV:=zH hv;have HG:=zH hg;clear hm hv hg;go_enter func265,ntmps265;go_wp2_with fail;refine h1.mono ?_;rintro o w1 ⟨rfl,hb⟩;replace hE:=hE.over hb;clear hb r;have r:=hE.rule 0 rfl;unfold laneC at r;go_wp2_with fail;refine (come_l W HV.out HG.out hE).mono ?_;rintro o w6 ⟨rfl,nx,hnx,hE6⟩;go_wp2_with fail;go_ret;exact ⟨rfl,nx,hnx,hE6⟩
theorem out_l (hv:InU X) (hg:Glo w0) (hE:Env w0 (boxI a (laneC c lv key vs nx 0 x y z W C X wd pf pv)::L) w) :
  Calls prog 308 #[.pointer (some ⟨a,0,none⟩)] w fun o w'=>o=.returned (.int .i64 0)/\Env w0 (boxI a (laneC c lv key vs (mvL (if markB X then 311 else 312) a) 0 x y z W C X wd pf pv)::L) w':=by
 have hmf:=makeF;have r:=hE.rule 0 rfl;unfold laneC at r;have h1:=isMarked_any X w (hg.keep' hE.below) hv.1 hv.2;obtain ⟨b,hb9⟩:∃ b,markB X=b:=⟨_,rfl⟩;rw [hb9] at h1 ⊢;clear hb9 hv hg;go_enter func308,ntmps308;go_wp2_with fail;refine h1.mono ?_;rintro o w1 ⟨rfl,hb⟩;replace hE:=hE.over hb;clear hb r;cases b
 ·go_wp2_with fail;refine (goOn_l 0 _ _ _ (by simp [laneC]) hE rfl).mono ?_;rintro o w6 ⟨rfl,hE6⟩;go_wp2_with fail;go_ret;exact ⟨rfl,hE6⟩
 ·go_wp2_with fail;refine (goOn_l 0 _ _ _ (by simp [laneC]) hE rfl).mono ?_;rintro o w6 ⟨rfl,hE6⟩;go_wp2_with fail;go_ret;exact ⟨rfl,hE6⟩
theorem val_l (hE:Env w0 (boxI a (laneC c lv key vs nx 0 x y z W C X wd pf pv)::L) w) :
  Calls prog 318 #[.pointer (some ⟨a,0,none⟩)] w fun o w'=>o=.returned (.int .i64 1)/\∃ nx,Env w0 (boxI a (laneC c lv key vs nx 1 x y z W C X wd true wd)::L) w':=by
 have r:=hE.rule 0 rfl;unfold laneC at r;have g0:=hE.thaw 0 rfl 19 (by simp [laneC]);have g1:=hE.thaw 0 rfl 20 (by simp [laneC]);have hP:=(hE.put 0 rfl (j:=19) (by simp [laneC]) (.bool true)).put 0 rfl (j:=20) (by simp [laneC]) (.int .u64 wd);replace hP:Env w0 (boxI a (laneC c lv key vs nx 0 x y z W C X wd true wd)::L) _:=hP;go_enter func318,ntmps318;go_wp2_with fail;refine (end_l 0 1 (by simp [laneC]) hP rfl).mono ?_;rintro o w6 ⟨rfl,nx,hE6⟩;go_wp2_with fail;go_ret;exact ⟨rfl,nx,hE6⟩
theorem keyLess_l (hk:wd < key) (hlv:0<=lv/\lv<=1000000) (hv:InU X) (hg:Glo w0) (hE:Env w0 (boxI a (laneC c lv key vs nx 0 x y z W C X wd pf pv)::L) w) :
  Calls prog 316 #[.pointer (some ⟨a,0,none⟩)] w fun o w'=>o=.returned (.int .i64 (cS X))/\∃ nx,(slotI X≠0->nx=mvL 301 a)/\Env w0 (boxI a (laneC c lv key vs nx (cS X) 5 C (7+lv) X (slotI X) 0 wd pf pv)::L) w':=by
 have hkb:decide (wd < key)=true:=by simpa using hk
 have HV:=zH hv;have HG:=zH hg;clear hk hv hg;go_enter func316,ntmps316;go_wp2_with fail;refine wp_text (S:=(Env w0 (boxI a (laneC c lv key vs nx 0 x y z W C X wd pf pv)::L))) (by kernel_rfl) (by kernel_rfl) hE.drew (fun hT=>?_);have hT9:=zH hT;clear hT
 repeat ((first
  | (refine text_value (v:=?_) hT9.o (by rfl) ?_ ?_; rotate_left; (intro w5 hS; have r:=hS.rule 0 rfl; unfold laneC at r; go_simp<;>rfl))
  | (refine text_off hT9.o (by rfl) ?_)
  | (refine text_call (v:=?_) (f:=?_) (args:=?_) hT9.o (by rfl) ?_ ?_ ?_; rotate_left 3; (intro w5 hS; have r:=hS.rule 0 rfl; unfold laneC at r; go_simp; constructor<;>rfl); (intro w5 hS; (first | fail))));try simp only [Act.put,zA,zZ,zS])
 refine InText.nil fun w5 hS5=>?_;clear hT9;clear hE;go_wp2_with fail;refine (nextLink_l hlv (hS5.get 0 rfl)).mono ?_;rintro o w6 ⟨rfl,hb⟩;have hE:=hS5.over hb;clear hS5 hb;have r:=hE.rule 0 rfl;unfold laneC at r;have g0:=hE.thaw 0 rfl 6 (by simp [laneC]);have g1:=hE.thaw 0 rfl 7 (by simp [laneC]);have g2:=hE.thaw 0 rfl 8 (by simp [laneC]);have g3:=hE.thaw 0 rfl 9 (by simp [laneC]);have hP:=(((hE.put 0 rfl (j:=6) (by simp [laneC]) (.int .i64 5)).put 0 rfl (j:=7) (by simp [laneC]) (.int .i64 C)).put 0 rfl (j:=8) (by simp [laneC]) (.int .i64 (7+lv))).put 0 rfl (j:=9) (by simp [laneC]) (.int .i64 0);replace hP:Env w0 (boxI a (laneC c lv key vs nx 0 5 C (7+lv) W C X wd pf pv)::L) _:=hP;clear hE;have r9:=hP.rule 0 rfl;unfold laneC at r9;go_wp2_with fail;refine (come_l X HV.out HG.out hP).mono ?_;rintro o w7 ⟨rfl,nx,hnx,hE6⟩;go_wp2_with fail;go_ret;exact ⟨rfl,nx,hnx,hE6⟩
theorem keyVal_l (hk:wd=key) (hE:Env w0 (boxI a (laneC c lv key true nx 0 x y z W C X wd pf pv)::L) w) :
  Calls prog 316 #[.pointer (some ⟨a,0,none⟩)] w fun o w'=>o=.returned (.int .i64 0)/\Env w0 (boxI a (laneC c lv key true (mvL 317 a) 0 x y z W C X wd pf pv)::L) w':=by
 have hmf:=makeF;subst hk;have hlt:decide (wd < wd)=false:=by simp
 have heq:(wd==wd)=true:=by simp
 go_enter func316,ntmps316;go_wp2_with fail;refine wp_text (S:=(Env w0 (boxI a (laneC c lv wd true nx 0 x y z W C X wd pf pv)::L))) (by kernel_rfl) (by kernel_rfl) hE.drew (fun hT=>?_);have hT9:=zH hT;clear hT
 repeat ((first
  | (refine text_value (v:=?_) hT9.o (by rfl) ?_ ?_; rotate_left; (intro w5 hS; have r:=hS.rule 0 rfl; unfold laneC at r; go_simp<;>rfl))
  | (refine text_off hT9.o (by rfl) ?_)
  | (refine text_call (v:=?_) (f:=?_) (args:=?_) hT9.o (by rfl) ?_ ?_ ?_; rotate_left 3; (intro w5 hS; have r:=hS.rule 0 rfl; unfold laneC at r; go_simp; constructor<;>rfl); (intro w5 hS; (first | fail))));try simp only [Act.put,zA,zZ,zS])
 refine InText.nil fun w5 hS5=>?_;clear hT9;clear hE;go_wp2_with fail;have hE:=hS5;clear hS5;refine wp_text (S:=(Env w0 (boxI a (laneC c lv wd true nx 0 x y z W C X wd pf pv)::L))) (by kernel_rfl) (by kernel_rfl) hE.drew (fun hT=>?_);have hT9:=zH hT;clear hT
 repeat ((first
  | (refine text_value (v:=?_) hT9.o (by rfl) ?_ ?_; rotate_left; (intro w5 hS; have r:=hS.rule 0 rfl; unfold laneC at r; go_simp<;>rfl))
  | (refine text_off hT9.o (by rfl) ?_)
  | (refine text_call (v:=?_) (f:=?_) (args:=?_) hT9.o (by rfl) ?_ ?_ ?_; rotate_left 3; (intro w5 hS; have r:=hS.rule 0 rfl; unfold laneC at r; go_simp; constructor<;>rfl); (intro w5 hS; (first | fail))));try simp only [Act.put,zA,zZ,zS])
 refine InText.nil fun w5 hS5=>?_;clear hT9;clear hE;go_wp2_with fail;refine (goOn_l 0 _ _ _ (by simp [laneC]) hS5 rfl).mono ?_;rintro o w6 ⟨rfl,hE6⟩;go_wp2_with fail;go_ret;exact ⟨rfl,hE6⟩
theorem keyFound_l (hk:wd=key) (hE:Env w0 (boxI a (laneC c lv key false nx 0 x y z W C X wd pf pv)::L) w) :
  Calls prog 316 #[.pointer (some ⟨a,0,none⟩)] w fun o w'=>o=.returned (.int .i64 1)/\∃ nx,Env w0 (boxI a (laneC c lv key false nx 1 x y z W C X wd true pv)::L) w':=by
 have hmf:=makeF;subst hk;have hlt:decide (wd < wd)=false:=by simp
 have heq:(wd==wd)=true:=by simp
 go_enter func316,ntmps316;go_wp2_with fail;refine wp_text (S:=(Env w0 (boxI a (laneC c lv wd false nx 0 x y z W C X wd pf pv)::L))) (by kernel_rfl) (by kernel_rfl) hE.drew (fun hT=>?_);have hT9:=zH hT;clear hT
 repeat ((first
  | (refine text_value (v:=?_) hT9.o (by rfl) ?_ ?_; rotate_left; (intro w5 hS; have r:=hS.rule 0 rfl; unfold laneC at r; go_simp<;>rfl))
  | (refine text_off hT9.o (by rfl) ?_)
  | (refine text_call (v:=?_) (f:=?_) (args:=?_) hT9.o (by rfl) ?_ ?_ ?_; rotate_left 3; (intro w5 hS; have r:=hS.rule 0 rfl; unfold laneC at r; go_simp; constructor<;>rfl); (intro w5 hS; (first | fail))));try simp only [Act.put,zA,zZ,zS])
 refine InText.nil fun w5 hS5=>?_;clear hT9;clear hE;go_wp2_with fail;have hE:=hS5;clear hS5;refine wp_text (S:=(Env w0 (boxI a (laneC c lv wd false nx 0 x y z W C X wd pf pv)::L))) (by kernel_rfl) (by kernel_rfl) hE.drew (fun hT=>?_);have hT9:=zH hT;clear hT
 repeat ((first
  | (refine text_value (v:=?_) hT9.o (by rfl) ?_ ?_; rotate_left; (intro w5 hS; have r:=hS.rule 0 rfl; unfold laneC at r; go_simp<;>rfl))
  | (refine text_off hT9.o (by rfl) ?_)
  | (refine text_call (v:=?_) (f:=?_) (args:=?_) hT9.o (by rfl) ?_ ?_ ?_; rotate_left 3; (intro w5 hS; have r:=hS.rule 0 rfl; unfold laneC at r; go_simp; constructor<;>rfl); (intro w5 hS; (first | fail))));try simp only [Act.put,zA,zZ,zS])
 refine InText.nil fun w5 hS5=>?_;clear hT9;clear hE;go_wp2_with fail;have hE:=hS5;clear hS5;refine Ord.wc [12] (fun u=>∃ n8,Blk 0 u a (laneC c lv wd false nx 0 x y z W C X wd n8 pv)) (fun k w'=>Env w0 (boxI a (if k=0 then (laneC c lv wd false nx 0 x y z W C X wd pf pv) else (laneC c lv wd false nx 0 x y z W C X wd true pv))::L) w') ⟨pf,hE.drew.get 0 rfl⟩ hE.drew fun hT9=>?_
 repeat ((first
  | (refine Ord.cv ?_ hT9.o ?_ ?_; rotate_left; (intro w5 hS; obtain ⟨n9,hS1⟩:=hS; have r:=hS1.rule; unfold laneC at r; go_simp<;>rfl))
  | (refine Ord.co hT9.o ?_));try simp only [Act.put,zA,zZ,zS])
 refine Ord.ch_turn (v:=undef) 0 hT9.o rfl (by decide) (Or.inl rfl) (by rfl) ?_ ?_
 ·rintro w5 hC5 hA5;simp only [if_true] at hA5;have r:=hA5.rule 0 rfl;unfold laneC at r;have g0:=hA5.thaw 0 rfl 19 (by simp [laneC]);go_simp;have h9:=hA5.put 0 rfl (j:=19) (by simp [laneC]) (.bool true);replace h9:Env w0 (boxI a (laneC c lv wd false nx 0 x y z W C X wd true pv)::L) _:=h9
  first | exact ⟨rfl,.inl (h9.get 0 rfl),h9⟩ | exact ⟨rfl,.inr (h9.get 0 rfl),h9⟩
 try simp only [Act.put,zA,zZ,zS]
 repeat ((first
  | (refine Ord.cv ?_ hT9.o ?_ ?_; rotate_left; (intro w5 hS; skip; go_simp<;>rfl))
  | (refine Ord.co hT9.o ?_));try simp only [Act.put,zA,zZ,zS])
 refine Ord.InText.nil fun w5 hS=>?_;clear hT9;obtain ⟨hC9,hA9⟩:=Ord.chain_end hS;clear hS;replace hA9:Env w0 (boxI a (laneC c lv wd false nx 0 x y z W C X wd true pv)::L) w5:=hA9;clear hE hC9;go_wp2_with fail;refine (end_l 0 1 (by simp [laneC]) hA9 rfl).mono ?_;rintro o w6 ⟨rfl,nx,hE6⟩;go_wp2_with fail;go_ret;exact ⟨rfl,nx,hE6⟩
theorem keyMore_l (hk:key < wd) (hE:Env w0 (boxI a (laneC c lv key vs nx 0 x y z W C X wd pf pv)::L) w) :
  Calls prog 316 #[.pointer (some ⟨a,0,none⟩)] w fun o w'=>o=.returned (.int .i64 1)/\∃ nx,Env w0 (boxI a (laneC c lv key vs nx 1 x y z W C X wd false pv)::L) w':=by
 have hmf:=makeF;have hlt:decide (wd < key)=false:=by simp; omega
 have heq:(wd==key)=false:=by simp; omega
 clear hk;go_enter func316,ntmps316;go_wp2_with fail;refine wp_text (S:=(Env w0 (boxI a (laneC c lv key vs nx 0 x y z W C X wd pf pv)::L))) (by kernel_rfl) (by kernel_rfl) hE.drew (fun hT=>?_);have hT9:=zH hT;clear hT
 repeat ((first
  | (refine text_value (v:=?_) hT9.o (by rfl) ?_ ?_; rotate_left; (intro w5 hS; have r:=hS.rule 0 rfl; unfold laneC at r; go_simp<;>rfl))
  | (refine text_off hT9.o (by rfl) ?_)
  | (refine text_call (v:=?_) (f:=?_) (args:=?_) hT9.o (by rfl) ?_ ?_ ?_; rotate_left 3; (intro w5 hS; have r:=hS.rule 0 rfl; unfold laneC at r; go_simp; constructor<;>rfl); (intro w5 hS; (first | fail))));try simp only [Act.put,zA,zZ,zS])
 refine InText.nil fun w5 hS5=>?_;clear hT9;clear hE;go_wp2_with fail;have hE:=hS5;clear hS5;refine wp_text (S:=(Env w0 (boxI a (laneC c lv key vs nx 0 x y z W C X wd pf pv)::L))) (by kernel_rfl) (by kernel_rfl) hE.drew (fun hT=>?_);have hT9:=zH hT;clear hT
 repeat ((first
  | (refine text_value (v:=?_) hT9.o (by rfl) ?_ ?_; rotate_left; (intro w5 hS; have r:=hS.rule 0 rfl; unfold laneC at r; go_simp<;>rfl))
  | (refine text_off hT9.o (by rfl) ?_)
  | (refine text_call (v:=?_) (f:=?_) (args:=?_) hT9.o (by rfl) ?_ ?_ ?_; rotate_left 3; (intro w5 hS; have r:=hS.rule 0 rfl; unfold laneC at r; go_simp; constructor<;>rfl); (intro w5 hS; (first | fail))));try simp only [Act.put,zA,zZ,zS])
 refine InText.nil fun w5 hS5=>?_;clear hT9;clear hE;go_wp2_with fail;have hE:=hS5;clear hS5;refine Ord.wc [12] (fun u=>∃ n8,Blk 0 u a (laneC c lv key vs nx 0 x y z W C X wd n8 pv)) (fun k w'=>Env w0 (boxI a (if k=0 then (laneC c lv key vs nx 0 x y z W C X wd pf pv) else (laneC c lv key vs nx 0 x y z W C X wd false pv))::L) w') ⟨pf,hE.drew.get 0 rfl⟩ hE.drew fun hT9=>?_
 repeat ((first
  | (refine Ord.cv ?_ hT9.o ?_ ?_; rotate_left; (intro w5 hS; obtain ⟨n9,hS1⟩:=hS; have r:=hS1.rule; unfold laneC at r; go_simp<;>rfl))
  | (refine Ord.co hT9.o ?_));try simp only [Act.put,zA,zZ,zS])
 refine Ord.ch_turn (v:=undef) 0 hT9.o rfl (by decide) (Or.inl rfl) (by rfl) ?_ ?_
 ·rintro w5 hC5 hA5;simp only [if_true] at hA5;have r:=hA5.rule 0 rfl;unfold laneC at r;have g0:=hA5.thaw 0 rfl 19 (by simp [laneC]);go_simp;have h9:=hA5.put 0 rfl (j:=19) (by simp [laneC]) (.bool false);replace h9:Env w0 (boxI a (laneC c lv key vs nx 0 x y z W C X wd false pv)::L) _:=h9
  first | exact ⟨rfl,.inl (h9.get 0 rfl),h9⟩ | exact ⟨rfl,.inr (h9.get 0 rfl),h9⟩
 try simp only [Act.put,zA,zZ,zS]
 repeat ((first
  | (refine Ord.cv ?_ hT9.o ?_ ?_; rotate_left; (intro w5 hS; skip; go_simp<;>rfl))
  | (refine Ord.co hT9.o ?_));try simp only [Act.put,zA,zZ,zS])
 refine Ord.InText.nil fun w5 hS=>?_;clear hT9;obtain ⟨hC9,hA9⟩:=Ord.chain_end hS;clear hS;replace hA9:Env w0 (boxI a (laneC c lv key vs nx 0 x y z W C X wd false pv)::L) w5:=hA9;clear hE hC9;go_wp2_with fail;refine (end_l 0 1 (by simp [laneC]) hA9 rfl).mono ?_;rintro o w6 ⟨rfl,nx,hE6⟩;go_wp2_with fail;go_ret;exact ⟨rfl,nx,hE6⟩
end
section
variable {w0 w:World} {R:List Item} {a:Nat} {S:ST} {lv key:Int} {vs:Bool} {nx:Value} {x y z W C X wd:Int} {pf:Bool} {pv:Int}
theorem cutNo_l (heq:S.f (x,y,z)≠W) (hwf:Wf (x,y,z)) (hX:InU X) (hg:Glo w0) (hm:S.m < maxLen) (hE:Env w0 (boxI a (laneC S.c lv key vs nx 0 x y z W C X wd pf pv)::LT S R) w) :
  Calls prog 311 #[.pointer (some ⟨a,0,none⟩),.iface 28 (.pointer (some ⟨S.p,0,none⟩))] w fun o w'=>o=.returned (.int .i64 2)/\∃ nx G',Env w0 (boxI a (laneC S.c lv key vs nx 2 x y z W C X wd pf pv)::LT { S with G:=G',f:=swf S.f (x,y,z) W (wordI false (slotI X) S.ce),qc:=swq S.qc false,m:=S.m+1 } R) w':=by
 have hmf:=makeF;have hah:=ahead_swap;have HD:Hid (decide (S.f (x,y,z)=W)=false):=zH (by simpa using heq);have HG:=zH hg;have HWF:=zH hwf;have HLE:=zH fun (v:World) (hv:Below w0.heap.size w0 v)=>lead_c X 0 false v hX (hg.keep' hv);have hqi:InU (wordI false (slotI X) S.ce):=wordI_in _ _ _;have hto:=fun (v:World) (hv:Below w0.heap.size w0 v) (hb:Blk 0 v S.c (crv S.ck S.cs S.cb S.ch S.cl S.ce S.cr S.hs 0 S.q))=>to_c (slotI X) 0 (hg.keep' hv) hb;obtain ⟨s,hs⟩:∃ s,slotI X=s:=⟨_,rfl⟩;rw [hs] at hqi ⊢;simp only [hs] at HLE hto;clear hs;obtain ⟨q,hq⟩:∃ q,wordI false s S.ce=q:=⟨_,rfl⟩;rw [hq] at hqi ⊢;simp only [hq] at hto;have HQI:=zH hqi;have HTO:=zH hto;clear hq hqi hto heq hwf hX hg;go_enter func311,ntmps311;go_wp2_with fail;refine OrdF.wp_float [?_,?_,?_,?_,?_,?_,?_,?_,?_,?_,OrdF.Ptr,?_] [11] 10 (fun v=>Below w0.heap.size w0 v/\Blk 0 v a (laneC S.c lv key vs nx 0 x y z W C X wd pf pv)/\Blk 0 v S.c (crv S.ck S.cs S.cb S.ch S.cl S.ce S.cr S.hs 0 S.q)) (OrdF.AF w0 [.int .u64 0,.int .i64 0,.bool false] (OrdF.Sta [fun N zs=>N=boxI a (laneC S.c lv key vs nx 0 x y z W C X wd pf pv)::LT S R/\zs=[.int .u64 0,.int .i64 0,.bool false],fun N zs=>N=boxI a (laneC S.c lv key vs nx 0 x y z W C X wd pf pv)::LT S R/\zs=[.int .u64 q,.int .i64 0,.bool false]])) (by kernel_rfl) (by kernel_rfl) (by kernel_rfl) ⟨hE.drew.below,hE.drew.get 0 rfl,hE.drew.get 1 rfl⟩ ⟨_,_,⟨_,rfl,rfl,rfl⟩,.inl ⟨rfl,rfl,hE.drew⟩⟩ (fun hT=>?_);rotate_left 11;have hT9:=zH hT;clear hT
 repeat ((first
  | (focus (refine OrdF.in_value (v:=?_) hT9.o (by decide) (by decide) ?_ (by rfl) ?_ ?_; rotate_left 2; (intro w5 hS; have r:=hS.2.1.rule; unfold laneC at r; go_simp<;>rfl); rotate_right; (focus rfl)))
  | (focus (refine OrdF.in_off hT9.o (by decide) (by decide) ?_ (by rfl) ?_; (focus rfl))));try simp only [Act.put,zA,zZ,zS])
 focus (refine OrdF.in_call (v:=.agg #[.int .i64 s,.int .i64 0]) (f:=?_) (args:=?_) hT9.o (by decide) (by decide) ?_ (by rfl) ?_ ?_ ?_; rotate_left 2; (focus rfl); (intro w5 hS; skip; go_simp; constructor<;>rfl); (intro w5 hS; refine (HLE.out _ hS.1).mono ?_; rintro e w6 ⟨rfl,hb6⟩; exact ⟨rfl,⟨hS.1.trans (hb6.mono hS.1.size),hS.2.1.under hb6,hS.2.2.under hb6⟩,fun _ _ h=>AF_over h hb6⟩); (try simp only [Act.put,zA,zZ,zS]))
 focus (refine OrdF.in_call (v:=.agg #[.int .u64 q,.int .i64 0,.bool false]) (f:=?_) (args:=?_) hT9.o (by decide) (by decide) ?_ (by rfl) ?_ ?_ ?_; rotate_left 2; (focus rfl); (intro w5 hS; skip; go_simp; constructor<;>rfl); (intro w5 hS; refine (HTO.out _ hS.1 hS.2.2).mono ?_; rintro e w6 ⟨rfl,hb6⟩; exact ⟨rfl,⟨hS.1.trans (hb6.mono hS.1.size),hS.2.1.under hb6,hS.2.2.under hb6⟩,fun _ _ h=>AF_over h hb6⟩); (try simp only [Act.put,zA,zZ,zS]))
 refine OrdF.in_float OrdF.Ptr (.pointer (some ⟨0,0,none⟩)) ⟨0,rfl⟩ hT9.o rfl (by decide) ?_ (by rfl) ?_ ?_
 ·rfl
 ·intro w5 κs5 hC5 hA5;go_simp;simp only [Ord3.Lands];exact ⟨⟨_,rfl⟩,⟨hC5.1.alloc hC5.1.size _,hC5.2.1.more _,hC5.2.2.more _⟩,hA5.up _⟩
 rintro _ ⟨V,rfl⟩
 try simp only [Act.put,zA,zZ,zS]
 refine OrdF.in_turn_late (by kernel_rfl) (by decide) (by decide) (fun u=>u=undef) (undef) rfl hT9.o rfl (by decide) (by rfl) ?_ (.inl rfl) (by rfl) ?_ ?_
 ·rfl
 ·rintro w5 hC5 ⟨M5,z5,⟨P5,hP5,hM5⟩,⟨hn5,_⟩ | ⟨n5,hn5,hE5⟩⟩
  ·cases hn5
  cases hn5;cases hP5;obtain ⟨rfl,rfl⟩:=hM5;have r:=hE5.rule 0 rfl; have ff:=hE5.thaw 0 rfl; have f0:=ff 0 (by simp); have f1:=ff 1 (by simp); have f2:=ff 2 (by simp); clear ff;go_simp;have hE6:=hE5.put3 0 rfl (.int .u64 q) (.int .i64 0) (.bool false); exact ⟨rfl,⟨hE6.below,hE6.get 1 rfl,hE6.get 2 rfl⟩,_,_,⟨_,rfl,rfl,rfl⟩,.inr ⟨_,rfl,hE6⟩⟩
 rintro _ rfl
 try simp only [Act.put,zA,zZ,zS]
 refine OrdF.in_nil rfl (by decide) (by decide) ?_;rintro w5 hC5 ⟨M5,z5,⟨P5,hP5,hM5⟩,⟨hn5,_⟩ | ⟨n5,hn5,hE5⟩⟩
 ·cases hn5
 cases hn5;cases hP5;obtain ⟨rfl,rfl⟩:=hM5;clear hT9;clear HTO HLE hE;go_wp2_with fail;refine Ord.wc [13] (fun v=>Blk 0 v a (laneC S.c lv key vs nx 0 x y z W C X wd pf pv)/\Blk 0 v V [.int .u64 q,.int .i64 0,.bool false]) (fun k w'=>∃ G5,Env w0 (boxI V [.int .u64 q,.int .i64 0,.bool false]::boxI a (laneC S.c lv key vs nx 0 x y z W C X wd pf pv)::LT (if k=0 then S else { S with G:=G5,f:=swf S.f (x,y,z) W q,qc:=swq S.qc false,m:=S.m+1 }) R) w') ⟨hE5.drew.get 1 rfl,hE5.drew.get 0 rfl⟩ ⟨S.G,hE5.drew⟩ fun hT9=>?_
 repeat ((first
  | (refine Ord.cv ?_ hT9.o ?_ ?_; rotate_left; (intro w5 hS; have r:=hS.1.rule; have r1:=hS.2.rule; unfold laneC at r; go_simp<;>rfl))
  | (refine Ord.co hT9.o ?_));try simp only [Act.put,zA,zZ,zS])
 refine Ord.ch_turn (v:=.bool false) 0 hT9.o rfl (by decide) (Or.inl rfl) (by rfl) ?_ ?_
 ·rintro w5 hC5 ⟨G5,hA5⟩;simp only [if_true] at hA5;go_simp;rw [method_swap];simp only [Result.andThen_ok];go_simp;simp only [Ord.LandsIn];have hsw:=swap_w x y z 0 W 0 q 0 false false HWF.out HQI.out hm 4 5 (by decide) hA5 rfl rfl;rw [HD.out] at hsw;refine hsw.mono ?_;rintro e w6 ⟨rfl,G6,hE6⟩;exact ⟨rfl,⟨hE6.get 1 rfl,hE6.get 0 rfl⟩,G6,hE6⟩
 try simp only [Act.put,zA,zZ,zS]
 repeat ((first
  | (refine Ord.cv ?_ hT9.o ?_ ?_; rotate_left; (intro w5 hS; skip; go_simp<;>rfl))
  | (refine Ord.co hT9.o ?_));try simp only [Act.put,zA,zZ,zS])
 refine Ord.InText.nil fun w5 hS=>?_;clear hT9;obtain ⟨hC9,hA9⟩:=Ord.chain_end hS;clear hS;obtain ⟨G9,hA9⟩:=hA9;clear hC9 hE5;simp only [List.length_cons,List.length_nil,Nat.zero_add,Nat.one_ne_zero,if_false] at hA9;go_wp2_with fail;refine (end_l 1 2 (by simp [laneC]) hA9 rfl).mono ?_;rintro o w7 ⟨rfl,nx,hE7⟩;go_wp2_with fail;go_ret;exact ⟨rfl,nx,G9,hE7.sub (.cons _ (List.Sublist.refl _))⟩
theorem cutYes_l (heq:S.f (x,y,z)=W) (hwf:Wf (x,y,z)) (hX:InU X) (hg:Glo w0) (hm:S.m < maxLen) (hE:Env w0 (boxI a (laneC S.c lv key vs nx 0 x y z W C X wd pf pv)::LT S R) w) :
  Calls prog 311 #[.pointer (some ⟨a,0,none⟩),.iface 28 (.pointer (some ⟨S.p,0,none⟩))] w fun o w'=>o=.returned (.int .i64 (cS (wordI false (slotI X) S.ce)))/\∃ nx G',(slotI (wordI false (slotI X) S.ce)≠0->nx=mvL 301 a)/\Env w0 (boxI a (laneC S.c lv key vs nx (cS (wordI false (slotI X) S.ce)) x y z (wordI false (slotI X) S.ce) (slotI (wordI false (slotI X) S.ce)) 0 wd pf pv)::LT { S with G:=G',f:=swf S.f (x,y,z) W (wordI false (slotI X) S.ce),qc:=swq S.qc true,m:=S.m+1 } R) w':=by
 have hmf:=makeF;have hah:=ahead_swap;have HD:Hid (decide (S.f (x,y,z)=W)=true):=zH (by simpa using heq);have HG:=zH hg;have HWF:=zH hwf;have HLE:=zH fun (v:World) (hv:Below w0.heap.size w0 v)=>lead_c X 0 false v hX (hg.keep' hv);have hqi:InU (wordI false (slotI X) S.ce):=wordI_in _ _ _;have hto:=fun (v:World) (hv:Below w0.heap.size w0 v) (hb:Blk 0 v S.c (crv S.ck S.cs S.cb S.ch S.cl S.ce S.cr S.hs 0 S.q))=>to_c (slotI X) 0 (hg.keep' hv) hb;obtain ⟨s,hs⟩:∃ s,slotI X=s:=⟨_,rfl⟩;rw [hs] at hqi ⊢;simp only [hs] at HLE hto;clear hs;obtain ⟨q,hq⟩:∃ q,wordI false s S.ce=q:=⟨_,rfl⟩;rw [hq] at hqi ⊢;simp only [hq] at hto;have HQI:=zH hqi;have HTO:=zH hto;clear hq hqi hto heq hwf hX hg;go_enter func311,ntmps311;go_wp2_with fail;refine OrdF.wp_float [?_,?_,?_,?_,?_,?_,?_,?_,?_,?_,OrdF.Ptr,?_] [11] 10 (fun v=>Below w0.heap.size w0 v/\Blk 0 v a (laneC S.c lv key vs nx 0 x y z W C X wd pf pv)/\Blk 0 v S.c (crv S.ck S.cs S.cb S.ch S.cl S.ce S.cr S.hs 0 S.q)) (OrdF.AF w0 [.int .u64 0,.int .i64 0,.bool false] (OrdF.Sta [fun N zs=>N=boxI a (laneC S.c lv key vs nx 0 x y z W C X wd pf pv)::LT S R/\zs=[.int .u64 0,.int .i64 0,.bool false],fun N zs=>N=boxI a (laneC S.c lv key vs nx 0 x y z W C X wd pf pv)::LT S R/\zs=[.int .u64 q,.int .i64 0,.bool false]])) (by kernel_rfl) (by kernel_rfl) (by kernel_rfl) ⟨hE.drew.below,hE.drew.get 0 rfl,hE.drew.get 1 rfl⟩ ⟨_,_,⟨_,rfl,rfl,rfl⟩,.inl ⟨rfl,rfl,hE.drew⟩⟩ (fun hT=>?_);rotate_left 11;have hT9:=zH hT;clear hT
 repeat ((first
  | (focus (refine OrdF.in_value (v:=?_) hT9.o (by decide) (by decide) ?_ (by rfl) ?_ ?_; rotate_left 2; (intro w5 hS; have r:=hS.2.1.rule; unfold laneC at r; go_simp<;>rfl); rotate_right; (focus rfl)))
  | (focus (refine OrdF.in_off hT9.o (by decide) (by decide) ?_ (by rfl) ?_; (focus rfl))));try simp only [Act.put,zA,zZ,zS])
 focus (refine OrdF.in_call (v:=.agg #[.int .i64 s,.int .i64 0]) (f:=?_) (args:=?_) hT9.o (by decide) (by decide) ?_ (by rfl) ?_ ?_ ?_; rotate_left 2; (focus rfl); (intro w5 hS; skip; go_simp; constructor<;>rfl); (intro w5 hS; refine (HLE.out _ hS.1).mono ?_; rintro e w6 ⟨rfl,hb6⟩; exact ⟨rfl,⟨hS.1.trans (hb6.mono hS.1.size),hS.2.1.under hb6,hS.2.2.under hb6⟩,fun _ _ h=>AF_over h hb6⟩); (try simp only [Act.put,zA,zZ,zS]))
 focus (refine OrdF.in_call (v:=.agg #[.int .u64 q,.int .i64 0,.bool false]) (f:=?_) (args:=?_) hT9.o (by decide) (by decide) ?_ (by rfl) ?_ ?_ ?_; rotate_left 2; (focus rfl); (intro w5 hS; skip; go_simp; constructor<;>rfl); (intro w5 hS; refine (HTO.out _ hS.1 hS.2.2).mono ?_; rintro e w6 ⟨rfl,hb6⟩; exact ⟨rfl,⟨hS.1.trans (hb6.mono hS.1.size),hS.2.1.under hb6,hS.2.2.under hb6⟩,fun _ _ h=>AF_over h hb6⟩); (try simp only [Act.put,zA,zZ,zS]))
 refine OrdF.in_float OrdF.Ptr (.pointer (some ⟨0,0,none⟩)) ⟨0,rfl⟩ hT9.o rfl (by decide) ?_ (by rfl) ?_ ?_
 ·rfl
 ·intro w5 κs5 hC5 hA5;go_simp;simp only [Ord3.Lands];exact ⟨⟨_,rfl⟩,⟨hC5.1.alloc hC5.1.size _,hC5.2.1.more _,hC5.2.2.more _⟩,hA5.up _⟩
 rintro _ ⟨V,rfl⟩
 try simp only [Act.put,zA,zZ,zS]
 refine OrdF.in_turn_late (by kernel_rfl) (by decide) (by decide) (fun u=>u=undef) (undef) rfl hT9.o rfl (by decide) (by rfl) ?_ (.inl rfl) (by rfl) ?_ ?_
 ·rfl
 ·rintro w5 hC5 ⟨M5,z5,⟨P5,hP5,hM5⟩,⟨hn5,_⟩ | ⟨n5,hn5,hE5⟩⟩
  ·cases hn5
  cases hn5;cases hP5;obtain ⟨rfl,rfl⟩:=hM5;have r:=hE5.rule 0 rfl; have ff:=hE5.thaw 0 rfl; have f0:=ff 0 (by simp); have f1:=ff 1 (by simp); have f2:=ff 2 (by simp); clear ff;go_simp;have hE6:=hE5.put3 0 rfl (.int .u64 q) (.int .i64 0) (.bool false); exact ⟨rfl,⟨hE6.below,hE6.get 1 rfl,hE6.get 2 rfl⟩,_,_,⟨_,rfl,rfl,rfl⟩,.inr ⟨_,rfl,hE6⟩⟩
 rintro _ rfl
 try simp only [Act.put,zA,zZ,zS]
 refine OrdF.in_nil rfl (by decide) (by decide) ?_;rintro w5 hC5 ⟨M5,z5,⟨P5,hP5,hM5⟩,⟨hn5,_⟩ | ⟨n5,hn5,hE5⟩⟩
 ·cases hn5
 cases hn5;cases hP5;obtain ⟨rfl,rfl⟩:=hM5;clear hT9;clear HTO HLE hE;go_wp2_with fail;refine Ord.wc [13] (fun v=>Blk 0 v a (laneC S.c lv key vs nx 0 x y z W C X wd pf pv)/\Blk 0 v V [.int .u64 q,.int .i64 0,.bool false]) (fun k w'=>∃ G5,Env w0 (boxI V [.int .u64 q,.int .i64 0,.bool false]::boxI a (laneC S.c lv key vs nx 0 x y z W C X wd pf pv)::LT (if k=0 then S else { S with G:=G5,f:=swf S.f (x,y,z) W q,qc:=swq S.qc true,m:=S.m+1 }) R) w') ⟨hE5.drew.get 1 rfl,hE5.drew.get 0 rfl⟩ ⟨S.G,hE5.drew⟩ fun hT9=>?_
 repeat ((first
  | (refine Ord.cv ?_ hT9.o ?_ ?_; rotate_left; (intro w5 hS; have r:=hS.1.rule; have r1:=hS.2.rule; unfold laneC at r; go_simp<;>rfl))
  | (refine Ord.co hT9.o ?_));try simp only [Act.put,zA,zZ,zS])
 refine Ord.ch_turn (v:=.bool true) 0 hT9.o rfl (by decide) (Or.inl rfl) (by rfl) ?_ ?_
 ·rintro w5 hC5 ⟨G5,hA5⟩;simp only [if_true] at hA5;go_simp;rw [method_swap];simp only [Result.andThen_ok];go_simp;simp only [Ord.LandsIn];have hsw:=swap_w x y z 0 W 0 q 0 false false HWF.out HQI.out hm 4 5 (by decide) hA5 rfl rfl;rw [HD.out] at hsw;refine hsw.mono ?_;rintro e w6 ⟨rfl,G6,hE6⟩;exact ⟨rfl,⟨hE6.get 1 rfl,hE6.get 0 rfl⟩,G6,hE6⟩
 try simp only [Act.put,zA,zZ,zS]
 repeat ((first
  | (refine Ord.cv ?_ hT9.o ?_ ?_; rotate_left; (intro w5 hS; skip; go_simp<;>rfl))
  | (refine Ord.co hT9.o ?_));try simp only [Act.put,zA,zZ,zS])
 refine Ord.InText.nil fun w5 hS=>?_;clear hT9;obtain ⟨hC9,hA9⟩:=Ord.chain_end hS;clear hS;obtain ⟨G9,hA9⟩:=hA9;clear hC9 hE5;simp only [List.length_cons,List.length_nil,Nat.zero_add,Nat.one_ne_zero,if_false] at hA9;have rV:=hA9.rule 0 rfl;go_wp2_with fail;refine (come_l q HQI.out HG.out (hA9.sub (.cons _ (List.Sublist.refl _)))).mono ?_;rintro o w7 ⟨rfl,nx,hnx,hE7⟩;go_wp2_with fail;go_ret;exact ⟨rfl,nx,G9,hnx,hE7⟩
end
section
variable {w0 w:World} {R:List Item} {a b1 b2:Nat} {S:ST} {lv key:Int} {vs:Bool} {nx:Value} {x y z W C X wd:Int} {pf:Bool} {pv:Int}
theorem val1No_l (T:Value) (hok:okB (S.f (1,0,0)) S.ce=false) (hE:Env w0 (boxI a (laneC S.c lv key vs nx 0 x y z W C X wd pf pv)::boxI b1 [.pointer (some ⟨a,0,none⟩)]::boxI b2 [T]::LT S R) w) :
  Calls prog 288 #[.iface 28 (.pointer (some ⟨S.p,0,none⟩)),.pointer (some ⟨b1,0,none⟩),.pointer (some ⟨b2,0,none⟩)] w fun o w'=>o=.returned (.int .i64 2)/\∃ nx,Env w0 (boxI a (laneC S.c lv key vs nx 2 x y z W C X wd pf pv)::boxI b1 [.pointer (some ⟨a,0,none⟩)]::boxI b2 [T]::LT { S with qc:={ S.qc with l:=wrap64 (S.qc.l+1) },cr:=wrap64 (S.cr+1) } R) w':=by
 have hv:=valid_w _ (rfl:S.f (1,0,0)=S.f (1,0,0)) 3 5 6 (by decide) (by decide) hE rfl rfl rfl;rw [hok] at hv;simp only [zS,zZ,Bool.false_eq_true,if_false] at hv;have HV:=zH hv;clear hv hok;have r0:=hE.rule 1 rfl;have r:=hE.rule 0 rfl;unfold laneC at r;go_enter func288,ntmps288;go_wp2_with fail;refine HV.out.mono ?_;rintro o w1 ⟨rfl,hE1⟩;replace hE1:Env w0 (boxI a (laneC S.c lv key vs nx 0 x y z W C X wd pf pv)::boxI b1 [.pointer (some ⟨a,0,none⟩)]::boxI b2 [T]::LT { S with qc:={ S.qc with l:=wrap64 (S.qc.l+1) },cr:=wrap64 (S.cr+1) } R) w1:=hE1;clear HV hE r0 r;have r0:=hE1.rule 1 rfl;go_wp2_with fail;refine (end_l 0 2 (by simp [laneC]) hE1 rfl).mono ?_;rintro o w6 ⟨rfl,nx,hE6⟩;go_wp2_with fail;go_ret;exact ⟨rfl,nx,hE6⟩
theorem val1Yes_l (F:Nat) (hx:∀ (ar:Array Value) (v:World),(callFunc F ar).run prog v=.ok (.enter F ar) v) (hok:okB (S.f (1,0,0)) S.ce=true) (hE:Env w0 (boxI a (laneC S.c lv key vs nx 0 x y z W C X wd pf pv)::boxI b1 [.pointer (some ⟨a,0,none⟩)]::boxI b2 [mvL F a]::LT S R) w) (s:Int) (Y:World->Prop)
  (hc:∀ v,Env w0 (boxI a (laneC S.c lv key vs nx 0 x y z W C X wd pf pv)::boxI b1 [.pointer (some ⟨a,0,none⟩)]::boxI b2 [mvL F a]::LT { S with qc:={ S.qc with l:=wrap64 (S.qc.l+1) } } R) v->Calls prog F #[.pointer (some ⟨a,0,none⟩)] v fun o w'=>o=.returned (.int .i64 s)/\Y w') :
  Calls prog 288 #[.iface 28 (.pointer (some ⟨S.p,0,none⟩)),.pointer (some ⟨b1,0,none⟩),.pointer (some ⟨b2,0,none⟩)] w fun o w'=>o=.returned (.int .i64 s)/\Y w':=by
 have hv:=valid_w _ (rfl:S.f (1,0,0)=S.f (1,0,0)) 3 5 6 (by decide) (by decide) hE rfl rfl rfl;rw [hok] at hv;simp only [zS,zZ,if_true] at hv;have HV:=zH hv;have HC:=zH hc;clear hv hok hc;have r0:=hE.rule 1 rfl;have r:=hE.rule 0 rfl;unfold laneC at r;go_enter func288,ntmps288;go_wp2_with fail;refine HV.out.mono ?_;rintro o w1 ⟨rfl,hE1⟩;replace hE1:Env w0 (boxI a (laneC S.c lv key vs nx 0 x y z W C X wd pf pv)::boxI b1 [.pointer (some ⟨a,0,none⟩)]::boxI b2 [mvL F a]::LT { S with qc:={ S.qc with l:=wrap64 (S.qc.l+1) } } R) w1:=hE1;clear HV hE r0 r;have r0:=hE1.rule 2 rfl;unfold mvL at r0;go_wp2_with fail;refine (HC.out _ hE1).mono ?_;rintro o w6 ⟨rfl,hY⟩;go_wp2_with fail;go_ret;exact ⟨rfl,hY⟩
end
def laneV (c:Nat) (lv key:Int) (vs:Bool) (nx:Value) (st wd:Int) (pf:Bool) (pv:Int) (L:Lm):List Value:=laneC c lv key vs nx st L.p.1 L.p.2.1 L.p.2.2 L.W L.C L.X wd pf pv
def fnL (pc:Nat):Nat:=if pc=0 then 234 else if pc=3 then 301 else if pc=5 then 311 else if pc=6 then 312 else 317
def bhL (pc:Nat):Nat:=if pc=2 then 265 else if pc=4 then 308 else if pc=7 then 316 else 318
theorem enters_fnL (pc:Nat) (ar:Array Value) (v:World):(callFunc (fnL pc) ar).run prog v=.ok (.enter (fnL pc) ar) v:=by
 unfold fnL
 repeat' split
 all_goals kernel_rfl
theorem enters_bhL (pc:Nat) (ar:Array Value) (v:World):(callFunc (bhL pc) ar).run prog v=.ok (.enter (bhL pc) ar) v:=by
 unfold bhL
 repeat' split
 all_goals kernel_rfl
def NxOk (a pc:Nat) (nx:Value) (B1 B2:Item):Prop:=(isVal pc=false->nx=mvL (fnL pc) a)/\(isVal pc=true->∃ b1 b2,nx=cvL b1 b2/\B1=boxI b1 [.pointer (some ⟨a,0,none⟩)]/\B2=boxI b2 [mvL (bhL pc) a])
def pfS (s:Int) (L:Lm):Bool:=if s=1 then L.fd else false
def pvS (s:Int) (L:Lm):Int:=if s=1 then L.V else 0
def LaneR (w0:World) (R:List Item) (a:Nat) (lv key:Int) (vs:Bool) (S:ST) (s:Int) (L:Lm) (w:World):Prop :=
 ∃ nx wd B1 B2,(s=0->NxOk a L.pc nx B1 B2/\(L.pc=7->wd=L.K)/\(L.pc=9->wd=L.V))/\Env w0 (boxI a (laneV S.c lv key vs nx s wd (pfS s L) (pvS s L) L)::B1::B2::LT S R) w
def laneQ (L:Lm) (f:Plc->Int) (q:Cnt):Cnt:=if L.pc=5 then swq q (decide (f L.p=L.W)) else { q with l:=wrap64 (q.l+1) }
def laneS (lv key:Int) (vs:Bool) (S:ST) (L:Lm) (G:Nat->Prop):ST:={ S with G:=G,f:=(laneM lv key vs S.ce L S.f).2.2,qc:=laneQ L S.f S.qc,m:=if L.pc=5 then S.m+1 else S.m,cr:=rollM S.ce L S.f S.cr }
theorem wf_part {C n:Int} (h:0<=C/\C<=8388607) (hn:0<=n/\n<=2000000):Wf (5,C,n):=by unfold Wf In64; simp; omega
theorem comeM_cS (L:Lm) (v:Int):comeM L v=(cS v,{ L with W:=v,X:=0,C:=slotI v,pc:=3 }):=rfl
section
variable {w0 w:World} {R:List Item} {a:Nat} {S:ST} {lv key:Int} {vs:Bool} {L:Lm}
theorem LaneR.came {nx:Value} {v wd:Int} {B1 B2:Item} {L':Lm} (hl:L'={ L with W:=v,X:=0,C:=slotI v,pc:=3 }) (hfd:L.fd=false) (hv:L.V=0) (hnx:slotI v≠0->nx=mvL 301 a) (hE:Env w0 (boxI a (laneC S.c lv key vs nx (cS v) L.p.1 L.p.2.1 L.p.2.2 v (slotI v) 0 wd false 0)::B1::B2::LT S R) w):LaneR w0 R a lv key vs S (cS v) L' w:=by
 subst hl;refine ⟨nx,wd,B1,B2,fun hs=>⟨⟨fun _=>hnx ?_,fun h=>absurd h (by simp [isVal])⟩,fun h=>absurd h (by simp),fun h=>absurd h (by simp)⟩,?_⟩
 ·intro h;rw [cS,if_pos h] at hs;exact absurd hs (by decide)
 ·have h1:pfS (cS v) { L with W:=v,X:=0,C:=slotI v,pc:=3 }=false:=by unfold pfS; split; exact hfd; rfl
  have h2:pvS (cS v) { L with W:=v,X:=0,C:=slotI v,pc:=3 }=0:=by unfold pvS; split; exact hv; rfl
  rw [h1,h2];exact hE
end
def noI:Item where
 F:=fun _=>False
 says:=fun _=>True
 loc:=fun _ _ _ _ _=>trivial
section
variable {w0 w:World} {L:List Item} {x:Item}
theorem Env.none1 (h:Env w0 L w):Env w0 (noI::L) w:=h.add noI (Below.refl _ _) trivial fun k hk=>absurd hk (by simp [noI])
theorem Env.none2 (h:Env w0 (x::L) w):Env w0 (x::noI::noI::L) w:=h.none1.none1.perm (List.perm_middle (l₁:=[noI,noI]))
end
section
variable {w0 w:World} {R:List Item} {a:Nat} {S:ST} {lv key:Int} {vs:Bool} {L:Lm}
theorem lane_0 (hpc:L.pc=0) (hL:LmOk L) (hlv:0<=lv/\lv<=1000000) (hwf:Wf L.p) (hg:Glo w0) (hm:S.m < maxLen) (h:LaneR w0 R a lv key vs S 0 L w) :
  Calls prog 206 #[.pointer (some ⟨a,0,none⟩),.iface 28 (.pointer (some ⟨S.p,0,none⟩))] w fun o w'=>o=.returned (.int .i64 (laneM lv key vs S.ce L S.f).1)/\∃ G',LaneR w0 R a lv key vs (laneS lv key vs S L G') (laneM lv key vs S.ce L S.f).1 (laneM lv key vs S.ce L S.f).2.1 w':=by
 obtain ⟨nx,wd,B1,B2,hn,hE⟩:=h;obtain ⟨⟨hnx,-⟩,-,-⟩:=hn rfl;have hnx:=hnx (by rw [hpc]; rfl);rw [hpc] at hnx;have hV:L.V=0:=hL.v (by omega);have hM:laneM lv key vs S.ce L S.f=(0,{ L with W:=S.f L.p,pc:=2 },S.f):=by simp [laneM,hpc]
 have hS:∀ G,laneS lv key vs S L G={ S with G:=G,qc:={ S.qc with l:=wrap64 (S.qc.l+1) } }:=fun G=>by simp [laneS,laneQ,rollM,hM,hpc,isVal]
 rw [hM];have hn4:w.cell? ⟨a,4,none⟩=some (mvL (fnL 0) a):=by rw [hE.rule 0 rfl 4,<- hnx]; rfl
 have hs5:w.cell? ⟨a,5,none⟩=some (.int .i64 0):=hE.rule 0 rfl 5;refine stepMv_l (fnL 0) (enters_fnL 0) _ _ hn4 hs5 ?_;refine (loadInto_l (S.f L.p) rfl hwf (hE.sub (.cons_cons _ (.cons _ (.cons _ (List.Sublist.refl _)))))).mono ?_;rintro o w1 ⟨rfl,b1,b2,hE1⟩;refine ⟨0,rfl,rfl,S.G,?_⟩;rw [hS];exact ⟨cvL b1 b2,wd,_,_,fun _=>⟨⟨fun h=>absurd h (by simp [isVal]),fun _=>⟨b1,b2,rfl,rfl,rfl⟩⟩,fun h=>absurd h (by simp),fun h=>absurd h (by simp)⟩,hE1⟩
theorem lane_3 (hpc:L.pc=3) (hL:LmOk L) (hlv:0<=lv/\lv<=1000000) (hwf:Wf L.p) (hg:Glo w0) (hm:S.m < maxLen) (h:LaneR w0 R a lv key vs S 0 L w) :
  Calls prog 206 #[.pointer (some ⟨a,0,none⟩),.iface 28 (.pointer (some ⟨S.p,0,none⟩))] w fun o w'=>o=.returned (.int .i64 (laneM lv key vs S.ce L S.f).1)/\∃ G',LaneR w0 R a lv key vs (laneS lv key vs S L G') (laneM lv key vs S.ce L S.f).1 (laneM lv key vs S.ce L S.f).2.1 w':=by
 obtain ⟨nx,wd,B1,B2,hn,hE⟩:=h;obtain ⟨⟨hnx,-⟩,-,-⟩:=hn rfl;have hnx:=hnx (by rw [hpc]; rfl);rw [hpc] at hnx;have hV:L.V=0:=hL.v (by omega);have hM:laneM lv key vs S.ce L S.f=(0,{ L with X:=S.f (5,L.C,7+lv),pc:=4 },S.f):=by simp [laneM,hpc]
 have hS:∀ G,laneS lv key vs S L G={ S with G:=G,qc:={ S.qc with l:=wrap64 (S.qc.l+1) } }:=fun G=>by simp [laneS,laneQ,rollM,hM,hpc,isVal]
 rw [hM];have hn4:w.cell? ⟨a,4,none⟩=some (mvL (fnL 3) a):=by rw [hE.rule 0 rfl 4,<- hnx]; rfl
 have hs5:w.cell? ⟨a,5,none⟩=some (.int .i64 0):=hE.rule 0 rfl 5;refine stepMv_l (fnL 3) (enters_fnL 3) _ _ hn4 hs5 ?_;refine (loadOut_l hlv (S.f (5,L.C,7+lv)) rfl (wf_part hL.C (by omega)) (hE.sub (.cons_cons _ (.cons _ (.cons _ (List.Sublist.refl _)))))).mono ?_;rintro o w1 ⟨rfl,b1,b2,hE1⟩;refine ⟨0,rfl,rfl,S.G,?_⟩;rw [hS];exact ⟨cvL b1 b2,wd,_,_,fun _=>⟨⟨fun h=>absurd h (by simp [isVal]),fun _=>⟨b1,b2,rfl,rfl,rfl⟩⟩,fun h=>absurd h (by simp),fun h=>absurd h (by simp)⟩,hE1⟩
theorem lane_6 (hpc:L.pc=6) (hL:LmOk L) (hlv:0<=lv/\lv<=1000000) (hwf:Wf L.p) (hg:Glo w0) (hm:S.m < maxLen) (h:LaneR w0 R a lv key vs S 0 L w) :
  Calls prog 206 #[.pointer (some ⟨a,0,none⟩),.iface 28 (.pointer (some ⟨S.p,0,none⟩))] w fun o w'=>o=.returned (.int .i64 (laneM lv key vs S.ce L S.f).1)/\∃ G',LaneR w0 R a lv key vs (laneS lv key vs S L G') (laneM lv key vs S.ce L S.f).1 (laneM lv key vs S.ce L S.f).2.1 w':=by
 obtain ⟨nx,wd,B1,B2,hn,hE⟩:=h;obtain ⟨⟨hnx,-⟩,-,-⟩:=hn rfl;have hnx:=hnx (by rw [hpc]; rfl);rw [hpc] at hnx;have hV:L.V=0:=hL.v (by omega);have hM:laneM lv key vs S.ce L S.f=(0,{ L with K:=S.f (5,L.C,3),pc:=7 },S.f):=by simp [laneM,hpc]
 have hS:∀ G,laneS lv key vs S L G={ S with G:=G,qc:={ S.qc with l:=wrap64 (S.qc.l+1) } }:=fun G=>by simp [laneS,laneQ,rollM,hM,hpc,isVal]
 rw [hM];have hn4:w.cell? ⟨a,4,none⟩=some (mvL (fnL 6) a):=by rw [hE.rule 0 rfl 4,<- hnx]; rfl
 have hs5:w.cell? ⟨a,5,none⟩=some (.int .i64 0):=hE.rule 0 rfl 5;refine stepMv_l (fnL 6) (enters_fnL 6) _ _ hn4 hs5 ?_;refine (loadKey_l (S.f (5,L.C,3)) rfl (wf_part hL.C (by omega)) (hE.sub (.cons_cons _ (.cons _ (.cons _ (List.Sublist.refl _)))))).mono ?_;rintro o w1 ⟨rfl,b1,b2,hE1⟩;refine ⟨0,rfl,rfl,S.G,?_⟩;rw [hS];exact ⟨cvL b1 b2,S.f (5,L.C,3),_,_,fun _=>⟨⟨fun h=>absurd h (by simp [isVal]),fun _=>⟨b1,b2,rfl,rfl,rfl⟩⟩,fun _=>rfl,fun h=>absurd h (by simp)⟩,hE1⟩
theorem lane_8 (hpc:L.pc=8) (hL:LmOk L) (hlv:0<=lv/\lv<=1000000) (hwf:Wf L.p) (hg:Glo w0) (hm:S.m < maxLen) (h:LaneR w0 R a lv key vs S 0 L w) :
  Calls prog 206 #[.pointer (some ⟨a,0,none⟩),.iface 28 (.pointer (some ⟨S.p,0,none⟩))] w fun o w'=>o=.returned (.int .i64 (laneM lv key vs S.ce L S.f).1)/\∃ G',LaneR w0 R a lv key vs (laneS lv key vs S L G') (laneM lv key vs S.ce L S.f).1 (laneM lv key vs S.ce L S.f).2.1 w':=by
 obtain ⟨nx,wd,B1,B2,hn,hE⟩:=h;obtain ⟨⟨hnx,-⟩,-,-⟩:=hn rfl;have hnx:=hnx (by rw [hpc]; rfl);rw [hpc] at hnx;have hV:L.V=0:=hL.v (by omega);have hM:laneM lv key vs S.ce L S.f=(0,{ L with V:=S.f (5,L.C,4),pc:=9 },S.f):=by simp [laneM,hpc]
 have hS:∀ G,laneS lv key vs S L G={ S with G:=G,qc:={ S.qc with l:=wrap64 (S.qc.l+1) } }:=fun G=>by simp [laneS,laneQ,rollM,hM,hpc,isVal]
 rw [hM];have hn4:w.cell? ⟨a,4,none⟩=some (mvL (fnL 8) a):=by rw [hE.rule 0 rfl 4,<- hnx]; rfl
 have hs5:w.cell? ⟨a,5,none⟩=some (.int .i64 0):=hE.rule 0 rfl 5;refine stepMv_l (fnL 8) (enters_fnL 8) _ _ hn4 hs5 ?_;refine (loadVal_l (S.f (5,L.C,4)) rfl (wf_part hL.C (by omega)) (hE.sub (.cons_cons _ (.cons _ (.cons _ (List.Sublist.refl _)))))).mono ?_;rintro o w1 ⟨rfl,b1,b2,hE1⟩;refine ⟨0,rfl,rfl,S.G,?_⟩;rw [hS];exact ⟨cvL b1 b2,S.f (5,L.C,4),_,_,fun _=>⟨⟨fun h=>absurd h (by simp [isVal]),fun _=>⟨b1,b2,rfl,rfl,rfl⟩⟩,fun h=>absurd h (by simp),fun _=>rfl⟩,hE1⟩
theorem lane_5 (hpc:L.pc=5) (hL:LmOk L) (hlv:0<=lv/\lv<=1000000) (hwf:Wf L.p) (hg:Glo w0) (hm:S.m < maxLen) (h:LaneR w0 R a lv key vs S 0 L w) :
  Calls prog 206 #[.pointer (some ⟨a,0,none⟩),.iface 28 (.pointer (some ⟨S.p,0,none⟩))] w fun o w'=>o=.returned (.int .i64 (laneM lv key vs S.ce L S.f).1)/\∃ G',LaneR w0 R a lv key vs (laneS lv key vs S L G') (laneM lv key vs S.ce L S.f).1 (laneM lv key vs S.ce L S.f).2.1 w':=by
 obtain ⟨nx,wd,B1,B2,hn,hE⟩:=h;obtain ⟨⟨hnx,-⟩,-,-⟩:=hn rfl;have hnx:=hnx (by rw [hpc]; rfl);rw [hpc] at hnx;have hV:L.V=0:=hL.v (by omega);have hfd:L.fd=false:=hL.fd (by omega);have hn4:w.cell? ⟨a,4,none⟩=some (mvL (fnL 5) a):=by rw [hE.rule 0 rfl 4,<- hnx]; rfl
 have hs5:w.cell? ⟨a,5,none⟩=some (.int .i64 0):=hE.rule 0 rfl 5;have hE0:Env w0 (boxI a (laneC S.c lv key vs nx 0 L.p.1 L.p.2.1 L.p.2.2 L.W L.C L.X wd false 0)::LT S R) w:=(hE.sub (.cons_cons _ (.cons _ (.cons _ (List.Sublist.refl _)))))
 by_cases heq:S.f L.p=L.W
 ·have hM:laneM lv key vs S.ce L S.f=(cS (wordI false (slotI L.X) S.ce),{ L with W:=wordI false (slotI L.X) S.ce,X:=0,C:=slotI (wordI false (slotI L.X) S.ce),pc:=3 },swf S.f L.p L.W (wordI false (slotI L.X) S.ce)):=by simp [laneM,hpc,heq,comeM_cS]
  have hS:∀ G,laneS lv key vs S L G={ S with G:=G,f:=swf S.f L.p L.W (wordI false (slotI L.X) S.ce),qc:=swq S.qc true,m:=S.m+1 }:=fun G=>by simp [laneS,laneQ,rollM,hM,hpc,isVal,heq]
  rw [hM];refine stepMv_l (fnL 5) (enters_fnL 5) _ _ hn4 hs5 ?_;refine (cutYes_l heq hwf hL.X hg hm hE0).mono ?_;rintro o w1 ⟨rfl,nx,G',hnx,hE1⟩;refine ⟨_,rfl,rfl,G',?_⟩;rw [hS];exact LaneR.came rfl hfd hV hnx hE1.none2
 ·have hM:laneM lv key vs S.ce L S.f=(2,L,swf S.f L.p L.W (wordI false (slotI L.X) S.ce)):=by simp [laneM,hpc,heq]
  have hS:∀ G,laneS lv key vs S L G={ S with G:=G,f:=swf S.f L.p L.W (wordI false (slotI L.X) S.ce),qc:=swq S.qc false,m:=S.m+1 }:=fun G=>by simp [laneS,laneQ,rollM,hM,hpc,isVal,heq]
  rw [hM];refine stepMv_l (fnL 5) (enters_fnL 5) _ _ hn4 hs5 ?_;refine (cutNo_l heq hwf hL.X hg hm hE0).mono ?_;rintro o w1 ⟨rfl,nx,G',hE1⟩;refine ⟨_,rfl,rfl,G',?_⟩;rw [hS];exact ⟨nx,wd,noI,noI,fun h=>absurd h (by simp),hE1.none2⟩
theorem lane_2 (hpc:L.pc=2) (hL:LmOk L) (hlv:0<=lv/\lv<=1000000) (hwf:Wf L.p) (hg:Glo w0) (hm:S.m < maxLen) (h:LaneR w0 R a lv key vs S 0 L w) :
  Calls prog 206 #[.pointer (some ⟨a,0,none⟩),.iface 28 (.pointer (some ⟨S.p,0,none⟩))] w fun o w'=>o=.returned (.int .i64 (laneM lv key vs S.ce L S.f).1)/\∃ G',LaneR w0 R a lv key vs (laneS lv key vs S L G') (laneM lv key vs S.ce L S.f).1 (laneM lv key vs S.ce L S.f).2.1 w':=by
 obtain ⟨nx,wd,B1,B2,hn,hE⟩:=h;obtain ⟨⟨-,hnx⟩,hw7,hw9⟩:=hn rfl;obtain ⟨b1,b2,rfl,rfl,rfl⟩:=hnx (by rw [hpc]; rfl);rw [hpc] at hE hw7 hw9;have hn4:w.cell? ⟨a,4,none⟩=some (cvL b1 b2):=by rw [hE.rule 0 rfl 4]; rfl
 have hs5:w.cell? ⟨a,5,none⟩=some (.int .i64 0):=hE.rule 0 rfl 5;have hE0:Env w0 (boxI a (laneC S.c lv key vs (cvL b1 b2) 0 L.p.1 L.p.2.1 L.p.2.2 L.W L.C L.X wd false 0)::boxI b1 [.pointer (some ⟨a,0,none⟩)]::boxI b2 [mvL (bhL 2) a]::LT S R) w:=hE
 by_cases hok:okB (S.f (1,0,0)) S.ce=true
 ·have hS:∀ G,laneS lv key vs S L G={ S with G:=G,qc:={ S.qc with l:=wrap64 (S.qc.l+1) } }:=fun G=>by simp [laneS,laneQ,rollM,laneM,hpc,isVal,hok]
  refine stepCv_l b1 b2 _ _ hn4 hs5 ?_;have hgo:∀ (s:Int) (L':Lm),laneM lv key vs S.ce L S.f=(s,L',S.f)->(∀ v,Env w0 (boxI a (laneC S.c lv key vs (cvL b1 b2) 0 L.p.1 L.p.2.1 L.p.2.2 L.W L.C L.X wd false 0)::boxI b1 [.pointer (some ⟨a,0,none⟩)]::boxI b2 [mvL (bhL 2) a]::LT { S with qc:={ S.qc with l:=wrap64 (S.qc.l+1) } } R) v->Calls prog (bhL 2) #[.pointer (some ⟨a,0,none⟩)] v fun o w'=>o=.returned (.int .i64 s)/\LaneR w0 R a lv key vs { S with qc:={ S.qc with l:=wrap64 (S.qc.l+1) } } s L' w') ->
    Calls prog 288 #[.iface 28 (.pointer (some ⟨S.p,0,none⟩)),.pointer (some ⟨b1,0,none⟩),.pointer (some ⟨b2,0,none⟩)] w fun e w'=>∃ s,e=.returned (.int .i64 s)/\((.returned (.int .i64 s):Ending)=.returned (.int .i64 (laneM lv key vs S.ce L S.f).1)/\∃ G',LaneR w0 R a lv key vs (laneS lv key vs S L G') (laneM lv key vs S.ce L S.f).1 (laneM lv key vs S.ce L S.f).2.1 w'):=fun s L' hM hc=>by
   refine (val1Yes_l (bhL 2) (enters_bhL 2) hok hE0 s _ hc).mono ?_;rintro o w1 ⟨rfl,hR⟩;refine ⟨s,rfl,?_,S.G,?_⟩
   ·rw [hM]
   ·rw [hM,hS];exact hR
  clear hE hn;have hV:L.V=0:=hL.v (by omega);have hfd:L.fd=false:=hL.fd (by omega)
  by_cases hmk:markB L.W=true
  ·refine hgo 2 L (by simp [laneM,holdsM,hpc,hok,hmk]) fun v hv=>?_;refine (intoMark_l hmk hL.W hg hv).mono ?_;rintro o w1 ⟨rfl,nx,hE1⟩;exact ⟨rfl,nx,wd,_,_,fun h=>absurd h (by simp),hE1⟩
  ·have hmk:markB L.W=false:=by simpa using hmk
   refine hgo (cS L.W) { L with W:=L.W,X:=0,C:=slotI L.W,pc:=3 } (by simp [laneM,holdsM,hpc,hok,hmk,comeM_cS]) fun v hv=>?_;refine (intoCome_l hmk hL.W hg hv).mono ?_;rintro o w1 ⟨rfl,nx,hnx,hE1⟩;exact ⟨rfl,LaneR.came rfl hfd hV hnx hE1⟩
 ·have hok:okB (S.f (1,0,0)) S.ce=false:=by simpa using hok
  have hM:laneM lv key vs S.ce L S.f=(2,L,S.f):=by simp [laneM,hpc,hok]
  have hS:∀ G,laneS lv key vs S L G={ S with G:=G,qc:={ S.qc with l:=wrap64 (S.qc.l+1) },cr:=wrap64 (S.cr+1) }:=fun G=>by simp [laneS,laneQ,rollM,hM,hpc,isVal,hok]
  rw [hM];refine stepCv_l b1 b2 _ _ hn4 hs5 ?_;refine (val1No_l _ hok hE0).mono ?_;rintro o w1 ⟨rfl,nx,hE1⟩;refine ⟨2,rfl,rfl,S.G,?_⟩;rw [hS];exact ⟨nx,wd,_,_,fun h=>absurd h (by simp),hE1⟩
theorem lane_4 (hpc:L.pc=4) (hL:LmOk L) (hlv:0<=lv/\lv<=1000000) (hwf:Wf L.p) (hg:Glo w0) (hm:S.m < maxLen) (h:LaneR w0 R a lv key vs S 0 L w) :
  Calls prog 206 #[.pointer (some ⟨a,0,none⟩),.iface 28 (.pointer (some ⟨S.p,0,none⟩))] w fun o w'=>o=.returned (.int .i64 (laneM lv key vs S.ce L S.f).1)/\∃ G',LaneR w0 R a lv key vs (laneS lv key vs S L G') (laneM lv key vs S.ce L S.f).1 (laneM lv key vs S.ce L S.f).2.1 w':=by
 obtain ⟨nx,wd,B1,B2,hn,hE⟩:=h;obtain ⟨⟨-,hnx⟩,hw7,hw9⟩:=hn rfl;obtain ⟨b1,b2,rfl,rfl,rfl⟩:=hnx (by rw [hpc]; rfl);rw [hpc] at hE hw7 hw9;have hn4:w.cell? ⟨a,4,none⟩=some (cvL b1 b2):=by rw [hE.rule 0 rfl 4]; rfl
 have hs5:w.cell? ⟨a,5,none⟩=some (.int .i64 0):=hE.rule 0 rfl 5;have hE0:Env w0 (boxI a (laneC S.c lv key vs (cvL b1 b2) 0 L.p.1 L.p.2.1 L.p.2.2 L.W L.C L.X wd false 0)::boxI b1 [.pointer (some ⟨a,0,none⟩)]::boxI b2 [mvL (bhL 4) a]::LT S R) w:=hE
 by_cases hok:okB (S.f (1,0,0)) S.ce=true
 ·have hS:∀ G,laneS lv key vs S L G={ S with G:=G,qc:={ S.qc with l:=wrap64 (S.qc.l+1) } }:=fun G=>by simp [laneS,laneQ,rollM,laneM,hpc,isVal,hok]
  refine stepCv_l b1 b2 _ _ hn4 hs5 ?_;have hgo:∀ (s:Int) (L':Lm),laneM lv key vs S.ce L S.f=(s,L',S.f)->(∀ v,Env w0 (boxI a (laneC S.c lv key vs (cvL b1 b2) 0 L.p.1 L.p.2.1 L.p.2.2 L.W L.C L.X wd false 0)::boxI b1 [.pointer (some ⟨a,0,none⟩)]::boxI b2 [mvL (bhL 4) a]::LT { S with qc:={ S.qc with l:=wrap64 (S.qc.l+1) } } R) v->Calls prog (bhL 4) #[.pointer (some ⟨a,0,none⟩)] v fun o w'=>o=.returned (.int .i64 s)/\LaneR w0 R a lv key vs { S with qc:={ S.qc with l:=wrap64 (S.qc.l+1) } } s L' w') ->
    Calls prog 288 #[.iface 28 (.pointer (some ⟨S.p,0,none⟩)),.pointer (some ⟨b1,0,none⟩),.pointer (some ⟨b2,0,none⟩)] w fun e w'=>∃ s,e=.returned (.int .i64 s)/\((.returned (.int .i64 s):Ending)=.returned (.int .i64 (laneM lv key vs S.ce L S.f).1)/\∃ G',LaneR w0 R a lv key vs (laneS lv key vs S L G') (laneM lv key vs S.ce L S.f).1 (laneM lv key vs S.ce L S.f).2.1 w'):=fun s L' hM hc=>by
   refine (val1Yes_l (bhL 4) (enters_bhL 4) hok hE0 s _ hc).mono ?_;rintro o w1 ⟨rfl,hR⟩;refine ⟨s,rfl,?_,S.G,?_⟩
   ·rw [hM]
   ·rw [hM,hS];exact hR
  clear hE hn;refine hgo 0 { L with pc:=if markB L.X then 5 else 6 } (by simp [laneM,holdsM,hpc,hok]) fun v hv=>?_;refine (out_l hL.X hg hv).mono ?_;rintro o w1 ⟨rfl,hE1⟩;cases hmk:markB L.X
  ·rw [hmk] at hE1;exact ⟨rfl,_,wd,_,_,fun _=>⟨⟨fun _=>rfl,fun h=>absurd h (by simp [isVal])⟩,fun h=>absurd h (by simp),fun h=>absurd h (by simp)⟩,hE1⟩
  ·rw [hmk] at hE1;exact ⟨rfl,_,wd,_,_,fun _=>⟨⟨fun _=>rfl,fun h=>absurd h (by simp [isVal])⟩,fun h=>absurd h (by simp),fun h=>absurd h (by simp)⟩,hE1⟩
 ·have hok:okB (S.f (1,0,0)) S.ce=false:=by simpa using hok
  have hM:laneM lv key vs S.ce L S.f=(2,L,S.f):=by simp [laneM,hpc,hok]
  have hS:∀ G,laneS lv key vs S L G={ S with G:=G,qc:={ S.qc with l:=wrap64 (S.qc.l+1) },cr:=wrap64 (S.cr+1) }:=fun G=>by simp [laneS,laneQ,rollM,hM,hpc,isVal,hok]
  rw [hM];refine stepCv_l b1 b2 _ _ hn4 hs5 ?_;refine (val1No_l _ hok hE0).mono ?_;rintro o w1 ⟨rfl,nx,hE1⟩;refine ⟨2,rfl,rfl,S.G,?_⟩;rw [hS];exact ⟨nx,wd,_,_,fun h=>absurd h (by simp),hE1⟩
theorem lane_7 (hpc:L.pc=7) (hL:LmOk L) (hlv:0<=lv/\lv<=1000000) (hwf:Wf L.p) (hg:Glo w0) (hm:S.m < maxLen) (h:LaneR w0 R a lv key vs S 0 L w) :
  Calls prog 206 #[.pointer (some ⟨a,0,none⟩),.iface 28 (.pointer (some ⟨S.p,0,none⟩))] w fun o w'=>o=.returned (.int .i64 (laneM lv key vs S.ce L S.f).1)/\∃ G',LaneR w0 R a lv key vs (laneS lv key vs S L G') (laneM lv key vs S.ce L S.f).1 (laneM lv key vs S.ce L S.f).2.1 w':=by
 obtain ⟨nx,wd,B1,B2,hn,hE⟩:=h;obtain ⟨⟨-,hnx⟩,hw7,hw9⟩:=hn rfl;obtain ⟨b1,b2,rfl,rfl,rfl⟩:=hnx (by rw [hpc]; rfl);rw [hpc] at hE hw7 hw9;have hn4:w.cell? ⟨a,4,none⟩=some (cvL b1 b2):=by rw [hE.rule 0 rfl 4]; rfl
 have hs5:w.cell? ⟨a,5,none⟩=some (.int .i64 0):=hE.rule 0 rfl 5;have hE0:Env w0 (boxI a (laneC S.c lv key vs (cvL b1 b2) 0 L.p.1 L.p.2.1 L.p.2.2 L.W L.C L.X wd false 0)::boxI b1 [.pointer (some ⟨a,0,none⟩)]::boxI b2 [mvL (bhL 7) a]::LT S R) w:=hE
 by_cases hok:okB (S.f (1,0,0)) S.ce=true
 ·have hS:∀ G,laneS lv key vs S L G={ S with G:=G,qc:={ S.qc with l:=wrap64 (S.qc.l+1) } }:=fun G=>by simp [laneS,laneQ,rollM,laneM,hpc,isVal,hok]
  refine stepCv_l b1 b2 _ _ hn4 hs5 ?_;have hgo:∀ (s:Int) (L':Lm),laneM lv key vs S.ce L S.f=(s,L',S.f)->(∀ v,Env w0 (boxI a (laneC S.c lv key vs (cvL b1 b2) 0 L.p.1 L.p.2.1 L.p.2.2 L.W L.C L.X wd false 0)::boxI b1 [.pointer (some ⟨a,0,none⟩)]::boxI b2 [mvL (bhL 7) a]::LT { S with qc:={ S.qc with l:=wrap64 (S.qc.l+1) } } R) v->Calls prog (bhL 7) #[.pointer (some ⟨a,0,none⟩)] v fun o w'=>o=.returned (.int .i64 s)/\LaneR w0 R a lv key vs { S with qc:={ S.qc with l:=wrap64 (S.qc.l+1) } } s L' w') ->
    Calls prog 288 #[.iface 28 (.pointer (some ⟨S.p,0,none⟩)),.pointer (some ⟨b1,0,none⟩),.pointer (some ⟨b2,0,none⟩)] w fun e w'=>∃ s,e=.returned (.int .i64 s)/\((.returned (.int .i64 s):Ending)=.returned (.int .i64 (laneM lv key vs S.ce L S.f).1)/\∃ G',LaneR w0 R a lv key vs (laneS lv key vs S L G') (laneM lv key vs S.ce L S.f).1 (laneM lv key vs S.ce L S.f).2.1 w'):=fun s L' hM hc=>by
   refine (val1Yes_l (bhL 7) (enters_bhL 7) hok hE0 s _ hc).mono ?_;rintro o w1 ⟨rfl,hR⟩;refine ⟨s,rfl,?_,S.G,?_⟩
   ·rw [hM]
   ·rw [hM,hS];exact hR
  clear hE hn;have hV:L.V=0:=hL.v (by omega);have hfd:L.fd=false:=hL.fd (by omega);have hwd:wd=L.K:=hw7 rfl;subst hwd
  by_cases hlt:L.K < key
  ·refine hgo (cS L.X) { L with p:=(5,L.C,7+lv),W:=L.X,X:=0,C:=slotI L.X,pc:=3 } (by simp [laneM,holdsM,hpc,hok,hlt,comeM_cS]) fun v hv=>?_;refine (keyLess_l hlt hlv hL.X hg hv).mono ?_;rintro o w1 ⟨rfl,nx,hnx,hE1⟩;exact ⟨rfl,LaneR.came (L:={ L with p:=(5,L.C,7+lv) }) rfl hfd hV hnx hE1⟩
  ·by_cases heq:L.K=key
   ·cases vs
    ·refine hgo 1 { L with fd:=true } (by simp [laneM,holdsM,hpc,hok,heq]) fun v hv=>?_;refine (keyFound_l heq hv).mono ?_;rintro o w1 ⟨rfl,nx,hE1⟩;have h2:pvS 1 { L with fd:=true }=0:=hV;refine ⟨rfl,nx,L.K,boxI b1 [.pointer (some ⟨a,0,none⟩)],boxI b2 [mvL (bhL 7) a],fun h=>absurd h (by simp),?_⟩;rw [h2];exact hE1
    ·refine hgo 0 { L with fd:=true,pc:=8 } (by simp [laneM,holdsM,hpc,hok,heq]) fun v hv=>?_;refine (keyVal_l heq hv).mono ?_;rintro o w1 ⟨rfl,hE1⟩;exact ⟨rfl,_,L.K,_,_,fun _=>⟨⟨fun _=>rfl,fun h=>absurd h (by simp [isVal])⟩,fun h=>absurd h (by simp),fun h=>absurd h (by simp)⟩,hE1⟩
   ·refine hgo 1 L (by simp [laneM,holdsM,hpc,hok,hlt,heq]) fun v hv=>?_;refine (keyMore_l (by omega) hv).mono ?_;rintro o w1 ⟨rfl,nx,hE1⟩;have h1:pfS 1 L=false:=hfd;have h2:pvS 1 L=0:=hV;refine ⟨rfl,nx,L.K,boxI b1 [.pointer (some ⟨a,0,none⟩)],boxI b2 [mvL (bhL 7) a],fun h=>absurd h (by simp),?_⟩;rw [h1,h2];exact hE1
 ·have hok:okB (S.f (1,0,0)) S.ce=false:=by simpa using hok
  have hM:laneM lv key vs S.ce L S.f=(2,L,S.f):=by simp [laneM,hpc,hok]
  have hS:∀ G,laneS lv key vs S L G={ S with G:=G,qc:={ S.qc with l:=wrap64 (S.qc.l+1) },cr:=wrap64 (S.cr+1) }:=fun G=>by simp [laneS,laneQ,rollM,hM,hpc,isVal,hok]
  rw [hM];refine stepCv_l b1 b2 _ _ hn4 hs5 ?_;refine (val1No_l _ hok hE0).mono ?_;rintro o w1 ⟨rfl,nx,hE1⟩;refine ⟨2,rfl,rfl,S.G,?_⟩;rw [hS];exact ⟨nx,wd,_,_,fun h=>absurd h (by simp),hE1⟩
theorem lane_9 (hpc:L.pc=9) (hL:LmOk L) (hlv:0<=lv/\lv<=1000000) (hwf:Wf L.p) (hg:Glo w0) (hm:S.m < maxLen) (h:LaneR w0 R a lv key vs S 0 L w) :
  Calls prog 206 #[.pointer (some ⟨a,0,none⟩),.iface 28 (.pointer (some ⟨S.p,0,none⟩))] w fun o w'=>o=.returned (.int .i64 (laneM lv key vs S.ce L S.f).1)/\∃ G',LaneR w0 R a lv key vs (laneS lv key vs S L G') (laneM lv key vs S.ce L S.f).1 (laneM lv key vs S.ce L S.f).2.1 w':=by
 obtain ⟨nx,wd,B1,B2,hn,hE⟩:=h;obtain ⟨⟨-,hnx⟩,hw7,hw9⟩:=hn rfl;obtain ⟨b1,b2,rfl,rfl,rfl⟩:=hnx (by rw [hpc]; rfl);rw [hpc] at hE hw7 hw9;have hn4:w.cell? ⟨a,4,none⟩=some (cvL b1 b2):=by rw [hE.rule 0 rfl 4]; rfl
 have hs5:w.cell? ⟨a,5,none⟩=some (.int .i64 0):=hE.rule 0 rfl 5;have hE0:Env w0 (boxI a (laneC S.c lv key vs (cvL b1 b2) 0 L.p.1 L.p.2.1 L.p.2.2 L.W L.C L.X wd false 0)::boxI b1 [.pointer (some ⟨a,0,none⟩)]::boxI b2 [mvL (bhL 9) a]::LT S R) w:=hE
 by_cases hok:okB (S.f (1,0,0)) S.ce=true
 ·have hS:∀ G,laneS lv key vs S L G={ S with G:=G,qc:={ S.qc with l:=wrap64 (S.qc.l+1) } }:=fun G=>by simp [laneS,laneQ,rollM,laneM,hpc,isVal,hok]
  refine stepCv_l b1 b2 _ _ hn4 hs5 ?_;have hgo:∀ (s:Int) (L':Lm),laneM lv key vs S.ce L S.f=(s,L',S.f)->(∀ v,Env w0 (boxI a (laneC S.c lv key vs (cvL b1 b2) 0 L.p.1 L.p.2.1 L.p.2.2 L.W L.C L.X wd false 0)::boxI b1 [.pointer (some ⟨a,0,none⟩)]::boxI b2 [mvL (bhL 9) a]::LT { S with qc:={ S.qc with l:=wrap64 (S.qc.l+1) } } R) v->Calls prog (bhL 9) #[.pointer (some ⟨a,0,none⟩)] v fun o w'=>o=.returned (.int .i64 s)/\LaneR w0 R a lv key vs { S with qc:={ S.qc with l:=wrap64 (S.qc.l+1) } } s L' w') ->
    Calls prog 288 #[.iface 28 (.pointer (some ⟨S.p,0,none⟩)),.pointer (some ⟨b1,0,none⟩),.pointer (some ⟨b2,0,none⟩)] w fun e w'=>∃ s,e=.returned (.int .i64 s)/\((.returned (.int .i64 s):Ending)=.returned (.int .i64 (laneM lv key vs S.ce L S.f).1)/\∃ G',LaneR w0 R a lv key vs (laneS lv key vs S L G') (laneM lv key vs S.ce L S.f).1 (laneM lv key vs S.ce L S.f).2.1 w'):=fun s L' hM hc=>by
   refine (val1Yes_l (bhL 9) (enters_bhL 9) hok hE0 s _ hc).mono ?_;rintro o w1 ⟨rfl,hR⟩;refine ⟨s,rfl,?_,S.G,?_⟩
   ·rw [hM]
   ·rw [hM,hS];exact hR
  clear hE hn;have hft:L.fd=true:=hL.ft (by omega);have hwd:wd=L.V:=hw9 rfl;subst hwd;refine hgo 1 L (by simp [laneM,holdsM,hpc,hok]) fun v hv=>?_;refine (val_l hv).mono ?_;rintro o w1 ⟨rfl,nx,hE1⟩;have h1:pfS 1 L=true:=hft;refine ⟨rfl,nx,L.V,boxI b1 [.pointer (some ⟨a,0,none⟩)],boxI b2 [mvL (bhL 9) a],fun h=>absurd h (by simp),?_⟩;rw [h1];exact hE1
 ·have hok:okB (S.f (1,0,0)) S.ce=false:=by simpa using hok
  have hM:laneM lv key vs S.ce L S.f=(2,L,S.f):=by simp [laneM,hpc,hok]
  have hS:∀ G,laneS lv key vs S L G={ S with G:=G,qc:={ S.qc with l:=wrap64 (S.qc.l+1) },cr:=wrap64 (S.cr+1) }:=fun G=>by simp [laneS,laneQ,rollM,hM,hpc,isVal,hok]
  rw [hM];refine stepCv_l b1 b2 _ _ hn4 hs5 ?_;refine (val1No_l _ hok hE0).mono ?_;rintro o w1 ⟨rfl,nx,hE1⟩;refine ⟨2,rfl,rfl,S.G,?_⟩;rw [hS];exact ⟨nx,wd,_,_,fun h=>absurd h (by simp),hE1⟩
theorem lane_l (hL:LmOk L) (hlv:0<=lv/\lv<=1000000) (hwf:Wf L.p) (hg:Glo w0) (hm:S.m < maxLen) (h:LaneR w0 R a lv key vs S 0 L w) :
  Calls prog 206 #[.pointer (some ⟨a,0,none⟩),.iface 28 (.pointer (some ⟨S.p,0,none⟩))] w fun o w'=>o=.returned (.int .i64 (laneM lv key vs S.ce L S.f).1)/\∃ G',LaneR w0 R a lv key vs (laneS lv key vs S L G') (laneM lv key vs S.ce L S.f).1 (laneM lv key vs S.ce L S.f).2.1 w':=by
 rcases hL.pc with h0 | h0 | h0 | h0 | h0 | h0 | h0 | h0 | h0
 ·exact lane_0 h0 hL hlv hwf hg hm h
 ·exact lane_2 h0 hL hlv hwf hg hm h
 ·exact lane_3 h0 hL hlv hwf hg hm h
 ·exact lane_4 h0 hL hlv hwf hg hm h
 ·exact lane_5 h0 hL hlv hwf hg hm h
 ·exact lane_6 h0 hL hlv hwf hg hm h
 ·exact lane_7 h0 hL hlv hwf hg hm h
 ·exact lane_8 h0 hL hlv hwf hg hm h
 ·exact lane_9 h0 hL hlv hwf hg hm h
end
def St3 {α:Type} (q:Int × α):Prop:=q.1=0\/q.1=1\/q.1=2
theorem come_state (L:Lm) (v:Int):St3 (comeM L v):=by
 unfold comeM
 by_cases h:slotI v=0
 ·simp [h,St3]
 ·simp [h,St3]
theorem holds_state (lv key:Int) (vs:Bool) (L:Lm):St3 (holdsM lv key vs L):=by
 unfold holdsM
 repeat' split
 all_goals first | exact come_state _ _ | simp [St3]
theorem lane_state (lv key:Int) (vs:Bool) (e:Int) (L:Lm) (f:Plc->Int):(laneM lv key vs e L f).1=0\/(laneM lv key vs e L f).1=1\/(laneM lv key vs e L f).1=2:=by
 show St3 (laneM lv key vs e L f);unfold laneM
 repeat' split
 all_goals first | exact come_state L (wordI false (slotI L.X) e) | exact holds_state lv key vs L | simp [St3]
theorem LmOk.come {L:Lm} (hL:LmOk L) (h7:L.pc<=7) (v:Int) (hv:InU v):LmOk { L with W:=v,X:=0,C:=slotI v,pc:=3 } :=
 ⟨by simp,fun _=>hL.v (by omega),fun _=>hL.fd h7,fun h=>absurd h (by simp),fun _=>rfl,fun h=>absurd h (by simp),hv,by simp [InU],slotI_in v⟩
theorem lane_ok {lv key:Int} {vs:Bool} {e:Int} {L:Lm} {f:Plc->Int} (hL:LmOk L) (hW:∀ x,InU (f x)) (hp:Wf L.p) (hlv:0<=lv/\lv<=1000000) (h0:(laneM lv key vs e L f).1=0):LmOk (laneM lv key vs e L f).2.1/\Wf (laneM lv key vs e L f).2.1.p:=by
 have hpc9:L.pc<=9:=by rcases hL.pc with h | h | h | h | h | h | h | h | h<;>omega
 rcases hL.pc with hpc | hpc | hpc | hpc | hpc | hpc | hpc | hpc | hpc
 ·have hM:laneM lv key vs e L f=(0,{ L with W:=f L.p,pc:=2 },f):=by simp [laneM,hpc]
  rw [hM];exact ⟨⟨by simp,fun _=>hL.v (by omega),fun _=>hL.fd (by omega),fun h=>absurd h (by simp),fun _=>hL.x (by omega),fun _=>hL.c0 (by omega),hW _,hL.X,hL.C⟩,hp⟩
 ·by_cases hok:okB (f (1,0,0)) e=true
  ·by_cases hmk:markB L.W=true
   ·have hM:laneM lv key vs e L f=(2,L,f):=by simp [laneM,holdsM,hpc,hok,hmk]
    rw [hM] at h0;exact absurd h0 (by simp)
   ·have hM:laneM lv key vs e L f=(cS L.W,{ L with W:=L.W,X:=0,C:=slotI L.W,pc:=3 },f):=by simp [laneM,holdsM,hpc,hok,hmk,comeM_cS]
    rw [hM];exact ⟨hL.come (by omega) _ hL.W,hp⟩
  ·have hM:laneM lv key vs e L f=(2,L,f):=by simp [laneM,hpc,hok]
   rw [hM] at h0;exact absurd h0 (by simp)
 ·have hM:laneM lv key vs e L f=(0,{ L with X:=f (5,L.C,7+lv),pc:=4 },f):=by simp [laneM,hpc]
  rw [hM];exact ⟨⟨by simp,fun _=>hL.v (by omega),fun _=>hL.fd (by omega),fun h=>absurd h (by simp),fun h=>absurd h (by simp),fun h=>absurd h (by simp),hL.W,hW _,hL.C⟩,hp⟩
 ·by_cases hok:okB (f (1,0,0)) e=true
  ·have hM:laneM lv key vs e L f=(0,{ L with pc:=if markB L.X then 5 else 6 },f):=by simp [laneM,holdsM,hpc,hok]
   rw [hM];cases markB L.X
   ·exact ⟨⟨by simp,fun _=>hL.v (by omega),fun _=>hL.fd (by omega),fun h=>absurd h (by simp),fun h=>absurd h (by simp),fun h=>absurd h (by simp),hL.W,hL.X,hL.C⟩,hp⟩
   ·exact ⟨⟨by simp,fun _=>hL.v (by omega),fun _=>hL.fd (by omega),fun h=>absurd h (by simp),fun h=>absurd h (by simp),fun h=>absurd h (by simp),hL.W,hL.X,hL.C⟩,hp⟩
  ·have hM:laneM lv key vs e L f=(2,L,f):=by simp [laneM,hpc,hok]
   rw [hM] at h0;exact absurd h0 (by simp)
 ·by_cases heq:f L.p=L.W
  ·have hM:laneM lv key vs e L f=(cS (wordI false (slotI L.X) e),{ L with W:=wordI false (slotI L.X) e,X:=0,C:=slotI (wordI false (slotI L.X) e),pc:=3 },swf f L.p L.W (wordI false (slotI L.X) e)):=by simp [laneM,hpc,heq,comeM_cS]
   rw [hM];exact ⟨hL.come (by omega) _ (wordI_in _ _ _),hp⟩
  ·have hM:laneM lv key vs e L f=(2,L,swf f L.p L.W (wordI false (slotI L.X) e)):=by simp [laneM,hpc,heq]
   rw [hM] at h0;exact absurd h0 (by simp)
 ·have hM:laneM lv key vs e L f=(0,{ L with K:=f (5,L.C,3),pc:=7 },f):=by simp [laneM,hpc]
  rw [hM];exact ⟨⟨by simp,fun _=>hL.v (by omega),fun _=>hL.fd (by omega),fun h=>absurd h (by simp),fun h=>absurd h (by simp),fun h=>absurd h (by simp),hL.W,hL.X,hL.C⟩,hp⟩
 ·by_cases hok:okB (f (1,0,0)) e=true
  ·by_cases hlt:L.K < key
   ·have hM:laneM lv key vs e L f=(cS L.X,{ L with p:=(5,L.C,7+lv),W:=L.X,X:=0,C:=slotI L.X,pc:=3 },f):=by simp [laneM,holdsM,hpc,hok,hlt,comeM_cS]
    rw [hM];have hLp:LmOk { L with p:=(5,L.C,7+lv) }:=⟨hL.pc,hL.v,hL.fd,hL.ft,hL.x,hL.c0,hL.W,hL.X,hL.C⟩;exact ⟨hLp.come (by show L.pc<=7; omega) _ hL.X,wf_part hL.C (by omega)⟩
   ·by_cases heq:L.K=key
    ·cases vs
     ·have hM:laneM lv key false e L f=(1,{ L with fd:=true },f):=by simp [laneM,holdsM,hpc,hok,heq]
      rw [hM] at h0;exact absurd h0 (by simp)
     ·have hM:laneM lv key true e L f=(0,{ L with fd:=true,pc:=8 },f):=by simp [laneM,holdsM,hpc,hok,heq]
      rw [hM];exact ⟨⟨by simp,fun _=>hL.v (by omega),fun h=>absurd h (by simp),fun _=>rfl,fun h=>absurd h (by simp),fun h=>absurd h (by simp),hL.W,hL.X,hL.C⟩,hp⟩
    ·have hM:laneM lv key vs e L f=(1,L,f):=by simp [laneM,holdsM,hpc,hok,hlt,heq]
     rw [hM] at h0;exact absurd h0 (by simp)
  ·have hM:laneM lv key vs e L f=(2,L,f):=by simp [laneM,hpc,hok]
   rw [hM] at h0;exact absurd h0 (by simp)
 ·have hM:laneM lv key vs e L f=(0,{ L with V:=f (5,L.C,4),pc:=9 },f):=by simp [laneM,hpc]
  rw [hM];exact ⟨⟨by simp,fun h=>absurd h (by simp),fun h=>absurd h (by simp),fun _=>hL.ft (by omega),fun h=>absurd h (by simp),fun h=>absurd h (by simp),hL.W,hL.X,hL.C⟩,hp⟩
 ·by_cases hok:okB (f (1,0,0)) e=true
  ·have hM:laneM lv key vs e L f=(1,L,f):=by simp [laneM,holdsM,hpc,hok]
   rw [hM] at h0;exact absurd h0 (by simp)
  ·have hM:laneM lv key vs e L f=(2,L,f):=by simp [laneM,hpc,hok]
   rw [hM] at h0;exact absurd h0 (by simp)
def One (q q':Cnt):Prop :=
 (q'.l=wrap64 (q.l+1)/\q'.s=q.s/\q'.w=q.w/\q'.a=q.a)\/(q'.l=q.l/\q'.s=wrap64 (q.s+1)/\q'.w=q.w/\q'.a=q.a) \/
 (q'.l=q.l/\q'.s=q.s/\q'.w=wrap64 (q.w+1)/\q'.a=q.a)\/(q'.l=q.l/\q'.s=q.s/\q'.w=q.w/\q'.a=wrap64 (q.a+1))
structure Nx (n:Nat) (q:Cnt) (n':Nat) (q':Cnt):Prop where
 (le:n'<=n+1)
 (one:One q q')
end
end Go.Proofs.YtffncfmciockmaaGreatDoor
