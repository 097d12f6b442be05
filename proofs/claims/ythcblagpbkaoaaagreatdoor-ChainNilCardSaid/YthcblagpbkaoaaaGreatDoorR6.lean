/- What is proved on the way to the statement, part 6: contracts of the functions, among other things in memory. -/
import Derived.Test.YthcblagpbkaoaaaGreatDoorR5
import Derived.Laws.OwnMore
import Derived.Deep.Light
import Derived.Deep.AppendLies
import Derived.OneCell
import Derived.LoopIn
import Derived.Shelf.SlSortCmp.Insertion
import Derived.Sort.Statements

namespace Go.Proofs.YthcblagpbkaoaaaGreatDoor
open Go.RowKit Go.Maps
set_option maxRecDepth 100000
set_option maxHeartbeats 25600000
def mvE (a o:Nat):Value:=.func (.func 129) #[.pointer (some ⟨a,o,none⟩)] #[]
section
variable {w0 w:World} {R L:List Item} {l:Nat} {S:ST} {nx:Value} {x y z W C X k key to:Int}
theorem mark_k (hX:InU X) (hmk:markB X=false) (hs0:S.hs=0) (hC:In64 C) (hg:Glo w0) (hm:S.m < maxLen) (hE:Env w0 (boxI l (ukC S.c x y z W C X k key to nx 0)::LT S R) w) :
  Calls Tryz.prog 73 #[.pointer (some ⟨l,0,none⟩),.iface 26 (.pointer (some ⟨S.p,0,none⟩))] w fun o w'=>o=.returned (.int .i64 (if S.f (5,C,7)=X then 0 else 2))/\∃ G' nx',(S.f (5,C,7)=X->nx'=mvL 136 l)/\Env w0 (boxI l (ukC S.c x y z W C X k key to nx' (if S.f (5,C,7)=X then 0 else 2))::LT { S with G:=G',f:=swf S.f (5,C,7) X (wordI true to S.ce),qc:=swq S.qc (decide (S.f (5,C,7)=X)),m:=S.m+1 } R) w':=by
 have hmf:=makeF
 have hah:=ahead_swap
 have hb:(S.hs != 0)=false:=by simpa using hs0
 have HWF:Hid (Wf (5,C,7)):=Lib.hid (by unfold Wf; exact ⟨by show In64 5; unfold In64; omega,hC,by show In64 7; unfold In64; omega⟩)
 have hqi:InU (wordI true to S.ce):=wordI_in _ _ _
 have hto:=fun (v:World) (hv:Below w0.heap.size w0 v) (hb:Blk 0 v S.c (crv S.ck S.cs S.cb S.ch S.cl S.ce S.cr S.hs 0 S.q))=>markNew_c X 0 false to 0 hX hmk (hg.keep' hv) hb
 obtain ⟨q,hq⟩:∃ q,wordI true to S.ce=q:=⟨_,rfl⟩
 rw [hq] at hqi ⊢
 simp only [hq] at hto
 have HQI:=Lib.hid hqi
 have HTO:=Lib.hid hto
 clear hq hqi hto hg hs0 hmk hC
 obtain ⟨dd,hdd⟩:∃ dd,decide (S.f (5,C,7)=X)=dd:=⟨_,rfl⟩
 have hds:(if S.f (5,C,7)=X then (0:Int) else 2)=if dd then 0 else 2:=by rw [<- hdd]; by_cases h:S.f (5,C,7)=X<;>simp [h]
 have hdp:S.f (5,C,7)=X ↔ dd=true:=by rw [<- hdd]; simp
 rw [hds,hdd]
 simp only [hdp]
 clear hds hdp
 have HDD:=Lib.hid hdd
 clear hdd hX
 go_enter Tryz.func73,Tryz.ntmps73
 go_wp2_with fail
 refine Ord.wp_chain [29] (fun v=>Below w0.heap.size w0 v/\Blk 0 v l (ukC S.c x y z W C X k key to nx 0)/\Blk 0 v S.c (crv S.ck S.cs S.cb S.ch S.cl S.ce S.cr S.hs 0 S.q)) (fun k9 w'=>∃ G5,Env w0 (boxI l (ukC S.c x y z W C X k key to nx 0)::LT (if k9=0 then S else { S with G:=G5,f:=swf S.f (5,C,7) X q,qc:=swq S.qc dd,m:=S.m+1 }) R) w') (by kernel_rfl) (by kernel_rfl) (by kernel_rfl) ⟨hE.drew.below,hE.drew.get 0 rfl,hE.drew.get 1 rfl⟩ ⟨S.G,hE.drew⟩ (fun hT=>?_)
 have hT9:=Lib.hid hT
 clear hT
 repeat (first
  | (refine Ord.ch_value (v:=?_) hT9.out (by decide) (by rfl) ?_ ?_; rotate_left; (focus (intro w5 hS; have r:=hS.2.1.rule; unfold ukC at r; go_simp<;>with_reducible rfl)); (try simp only [Act.put,zA,zZ,zS]))
  | (refine Ord.ch_off hT9.out (by decide) (by rfl) ?_; (try simp only [Act.put,zA,zZ,zS]))
  | (refine Ord.ch_call (v:=?_) (f:=?_) (args:=?_) hT9.out (by decide) (by rfl) ?_ ?_ ?_; rotate_left 3; (focus (intro w5 hS; have r:=hS.2.1.rule; unfold ukC at r; go_simp; constructor<;>with_reducible rfl)); (focus (intro w5 hS; (first | (with_reducible refine (linkOf_any _ _ _).mono ?_; rintro e w6 ⟨rfl,hb6⟩; constructor; with_reducible rfl; exact ⟨⟨hS.1.trans (hb6.mono hS.1.size),hS.2.1.under hb6,hS.2.2.under hb6⟩,fun k h=>h.elim fun G5 h=>⟨G5,h.over hb6⟩⟩) | (with_reducible refine (HTO.out _ hS.1 hS.2.2).mono ?_; rintro e w6 ⟨rfl,hb6⟩; constructor; with_reducible rfl; exact ⟨⟨hS.1.trans (hb6.mono hS.1.size),hS.2.1.under hb6,hS.2.2.under hb6⟩,fun k h=>h.elim fun G5 h=>⟨G5,h.over hb6⟩⟩)))); (try simp only [Act.put,zA,zZ,zS])))
 refine Ord.ch_turn (v:=.bool dd) 0 hT9.out rfl (by decide) (Or.inl rfl) (by rfl) ?_ ?_
 ·rintro w5 hC5 ⟨G5,hA5⟩
  simp only [if_true] at hA5
  go_simp
  rw [method_swap]
  simp only [Result.andThen_ok]
  go_simp
  simp only [Ord.LandsIn]
  have hsw:=swap_w 5 C 7 0 X 0 q 0 false false HWF.out HQI.out hm 3 4 (by decide) hA5 rfl rfl
  rw [HDD.out] at hsw
  refine hsw.mono ?_
  rintro e w6 ⟨rfl,G6,hE6⟩
  exact ⟨rfl,⟨hE6.below,hE6.get 0 rfl,hE6.get 1 rfl⟩,G6,hE6⟩
 (try simp only [Act.put,zA,zZ,zS])
 repeat (first
  | (refine Ord.ch_value (v:=?_) hT9.out (by decide) (by rfl) ?_ ?_; rotate_left; (focus (intro w5 hS; skip; go_simp<;>with_reducible rfl)); (try simp only [Act.put,zA,zZ,zS]))
  | (refine Ord.ch_off hT9.out (by decide) (by rfl) ?_; (try simp only [Act.put,zA,zZ,zS])))
 refine Ord.InText.nil fun w5 hS=>?_
 clear hT9
 obtain ⟨hC9,hA9⟩:=Ord.chain_end hS
 clear hS
 obtain ⟨G9,hA9⟩:=hA9
 simp only [List.length_cons,List.length_nil,Nat.zero_add,Nat.one_ne_zero,if_false] at hA9
 clear hC9 hE HTO HDD
 have r:=hA9.rule 0 rfl
 unfold ukC at r
 cases dd
 ·go_wp2_with fail
  refine (end_r (o:=17) 0 2 (by simp [ukC]) hA9 rfl).mono ?_
  rintro o w5 ⟨rfl,hE5⟩
  go_wp2_with fail
  go_ret
  first | exact ⟨rfl,G9,nx,fun h=>absurd h (by decide),hE5⟩ | exact ⟨rfl,G9,nx,hE5⟩
 ·go_wp2_with fail
  refine (held_c (hA9.get 1 rfl)).mono ?_
  rintro o w4 ⟨rfl,hb1⟩
  rw [hb]
  have hE2:=(hA9.over hb1).box w4.heap.size rfl [.int .i64 S.hs,.int .i64 0] 61
  clear hb1 hA9 r hb
  go_wp2_with fail
  generalize w4.alloc _=w6 at *
  generalize w4.heap.size=Y at *
  obtain ⟨S2,hS2⟩:∃ S2:ST,{ S with G:=G9,f:=swf S.f (5,C,7) X q,qc:=swq S.qc true,m:=S.m+1 }=S2:=⟨_,rfl⟩
  rw [hS2] at hE2
  have HS2:=Lib.hid hS2
  clear hS2
  refine wp_text (S:=(Env w0 (boxI Y [.int .i64 S.hs,.int .i64 0]::boxI l (ukC S.c x y z W C X k key to nx 0)::LT S2 R))) (by kernel_rfl) (by kernel_rfl) hE2.drew (fun hT=>?_)
  have hT9:=Lib.hid hT
  clear hT
  repeat (first
   | (refine text_value (v:=?_) hT9.out (by rfl) ?_ ?_; rotate_left; (focus (intro w5 hS; have r:=hS.rule 1 rfl; have r1:=hS.rule 0 rfl; unfold ukC at r; go_simp<;>with_reducible rfl)); (try simp only [Act.put,zA,zZ,zS]))
   | (refine text_off hT9.out (by rfl) ?_; (try simp only [Act.put,zA,zZ,zS]))
   | (refine text_call (v:=?_) (f:=?_) (args:=?_) hT9.out (by rfl) ?_ ?_ ?_; rotate_left 3; (focus (intro w5 hS; have r:=hS.rule 1 rfl; have r1:=hS.rule 0 rfl; unfold ukC at r; go_simp; constructor<;>with_reducible rfl)); (focus (intro w5 hS; (first | fail))); (try simp only [Act.put,zA,zZ,zS])))
  refine InText.nil fun w5 hS5=>?_
  clear hT9
  clear hE2
  go_wp2_with fail
  refine (goOn_r (o:=17) 1 _ _ _ (by simp [ukC]) hS5 rfl).mono ?_
  rintro o w7 ⟨rfl,hE7⟩
  go_wp2_with fail
  go_ret
  have h2:=HS2.out
  subst h2
  first | exact ⟨rfl,G9,_,fun _=>rfl,hE7.sub (.cons _ (List.Sublist.refl _))⟩ | exact ⟨rfl,G9,_,rfl,hE7.sub (.cons _ (List.Sublist.refl _))⟩ | exact ⟨rfl,G9,hE7.sub (.cons _ (List.Sublist.refl _))⟩
theorem retire_k (u:Int) (hE:Env w0 (boxI l (ukC S.c x y z W C X k key to nx 0)::L) w) :
  Calls Tryz.prog 176 #[.pointer (some ⟨l,0,none⟩),.int .i64 u] w fun o w'=>o=.returned (.int .i64 0)/\∃ b1 b2 r,Env w0 (boxI l (ukC S.c x y z W C X k key to (cvP b1 b2) 0)::boxI b1 [mvL 203 r]::boxI b2 [mvE l 17]::boxI r (rtv S.c (nxR r 0) C 0)::L) w':=by
 have hmf:=makeF
 go_enter Tryz.func176,Tryz.ntmps176
 go_wp2_with fail
 refine Ord3.wp_chain [?_,?_,?_,?_,?_,?_,?_,?_,?_,?_,?_,?_,?_,?_,?_,?_,?_,?_,?_,?_] [12,13,18] (fun w'=>∃ nx9,Blk 0 w' l (ukC S.c x y z W C X k key to nx9 0)) (Ord3.Stage fun κs=>[Env w0 (boxI l (ukC S.c x y z W C X k key to nx 0)::L),fun w'=>∃ r,κs.getD 0 undef=.pointer (some ⟨r,0,none⟩)/\Env w0 (boxI r (rtv S.c (nxR r 0) C 0)::boxI l (ukC S.c x y z W C X k key to nx 0)::L) w',fun w'=>∃ r,κs.getD 1 undef=mvL 203 r/\Env w0 (boxI r (rtv S.c (nxR r 0) C 0)::boxI l (ukC S.c x y z W C X k key to nx 0)::L) w',fun w'=>∃ b1 b2 r,Env w0 (boxI b1 [mvL 203 r]::boxI b2 [mvE l 17]::boxI r (rtv S.c (nxR r 0) C 0)::boxI l (ukC S.c x y z W C X k key to (cvP b1 b2) 0)::L) w']) (by kernel_rfl) (by kernel_rfl) (by kernel_rfl) ⟨nx,hE.drew.get 0 rfl⟩ ⟨_,rfl,hE.drew⟩ (fun hT=>?_)
 rotate_left 20
 have hT9:=Lib.hid hT
 clear hT
 repeat (first
  | (focus (refine Ord3.in_value (v:=?_) hT9.out (by decide) ?_ (by rfl) ?_ ?_; rotate_left 2; (focus (intro w5 hS; obtain ⟨nx9,hS9⟩:=hS; have r1:=Blk.rule hS9; unfold ukC at r1; go_simp<;>with_reducible rfl)); rotate_right; (focus rfl); (try simp only [Act.put,zA,zZ,zS])))
  | (focus (refine Ord3.in_off hT9.out (by decide) ?_ (by rfl) ?_; (focus rfl); (try simp only [Act.put,zA,zZ,zS]))))
 refine Ord3.in_turn (fun u=>∃ q,u=.pointer (some ⟨q,0,none⟩)) _ ⟨0,rfl⟩ hT9.out rfl (by decide) (by rfl) ?_ (Or.inl rfl) (by rfl) ?_ ?_
 ·rfl
 ·rintro w7 hC7 ⟨P7,hP7,hA7⟩
  cases hP7
  go_simp
  simp only [Ord3.Lands]
  refine (new_r C hA7).mono ?_
  rintro o w8 ⟨r8,rfl,hE8⟩
  exact ⟨_,rfl,⟨r8,rfl⟩,⟨nx,hE8.get 1 rfl⟩,_,rfl,r8,rfl,hE8⟩
 rintro _ ⟨r9,rfl⟩
 (try simp only [Act.put,zA,zZ,zS])
 refine Ord3.in_turn (fun u=>∃ q,u=mvL 203 q) _ ⟨0,rfl⟩ hT9.out rfl (by decide) (by rfl) ?_ (Or.inr ⟨_,12,[],rfl,by kernel_rfl,by kernel_rfl,rfl⟩) (by rfl) ?_ ?_
 ·rfl
 ·rintro w7 hC7 ⟨P7,hP7,hA7⟩
  cases hP7
  obtain ⟨r8,he,hA7⟩:=hA7
  cases he
  go_simp
  simp only [Ord3.Lands]
  exact ⟨⟨_,rfl⟩,hC7,_,rfl,r9,rfl,hA7⟩
 rintro _ ⟨r9,rfl⟩
 (try simp only [Act.put,zA,zZ,zS])
 repeat (first
  | (focus (refine Ord3.in_value (v:=?_) hT9.out (by decide) ?_ (by rfl) ?_ ?_; rotate_left 2; (focus (intro w5 hS; obtain ⟨nx9,hS9⟩:=hS; have r1:=Blk.rule hS9; unfold ukC at r1; go_simp<;>with_reducible rfl)); rotate_right; (focus rfl); (try simp only [Act.put,zA,zZ,zS])))
  | (focus (refine Ord3.in_off hT9.out (by decide) ?_ (by rfl) ?_; (focus rfl); (try simp only [Act.put,zA,zZ,zS]))))
 refine Ord3.in_turn (fun u=>u=.int .i64 0) _ rfl hT9.out rfl (by decide) (by rfl) ?_ (Or.inr ⟨_,13,[],rfl,by kernel_rfl,by kernel_rfl,rfl⟩) (by rfl) ?_ ?_
 ·rfl
 ·rintro w7 hC7 ⟨P7,hP7,hA7⟩
  cases hP7
  obtain ⟨r8,he,hA7⟩:=hA7
  cases he
  go_simp
  simp only [Ord3.Lands]
  refine (play_r (o:=17) 1 _ _ _ _ _ _ (by simp [ukC]) hA7 rfl).mono ?_
  rintro o w8 ⟨rfl,b1,b2,hE8⟩
  exact ⟨_,rfl,rfl,⟨_,hE8.get 3 rfl⟩,_,rfl,b1,b2,r9,hE8⟩
 rintro _ rfl
 (try simp only [Act.put,zA,zZ,zS])
 repeat (first
  | (focus (refine Ord3.in_value (v:=?_) hT9.out (by decide) ?_ (by rfl) ?_ ?_; rotate_left 2; (focus (intro w5 hS; skip; go_simp<;>with_reducible rfl)); rotate_right; (focus rfl); (try simp only [Act.put,zA,zZ,zS])))
  | (focus (refine Ord3.in_off hT9.out (by decide) ?_ (by rfl) ?_; (focus rfl); (try simp only [Act.put,zA,zZ,zS]))))
 refine Ord3.in_nil rfl ?_
 rintro w9 hC9 ⟨P9,hP9,hA9⟩
 cases hP9
 obtain ⟨b1,b2,r8,hA9⟩:=hA9
 clear hT9 hC9 hE
 go_wp2_with fail
 go_ret
 exact ⟨rfl,b1,b2,r8,hA9.perm (List.perm_middle (l₁:=[_,_,_]))⟩
theorem cut_k (hwf:Wf (x,y,z)) (hg:Glo w0) (hm:S.m < maxLen) (hE:Env w0 (boxI l (ukC S.c x y z W C X k key to nx 0)::LT S R) w) :
  Calls Tryz.prog 136 #[.pointer (some ⟨l,0,none⟩),.iface 26 (.pointer (some ⟨S.p,0,none⟩))] w fun o w'=>o=.returned (.int .i64 0)/\∃ G' b1 b2,
   (S.f (x,y,z)=W/\∃ r,Env w0 (boxI l (ukC S.c x y z W C X k key to (cvP b1 b2) 0)::boxI b1 [mvL 203 r]::boxI b2 [mvE l 17]::boxI r (rtv S.c (nxR r 0) C 0)::LT { S with G:=G',f:=swf S.f (x,y,z) W (wordI false to S.ce),qc:=swq S.qc true,m:=S.m+1 } R) w') \/
   (S.f (x,y,z)≠W/\∃ sb,Env w0 (boxI l (ukC S.c x y z W C X k key to (cvP b1 b2) 0)::boxI b1 [mvL 118 sb]::boxI b2 [mvL 176 l]::boxI sb (srC S.c k key false (.pointer none))::LT { S with G:=G',f:=swf S.f (x,y,z) W (wordI false to S.ce),qc:=swq S.qc false,m:=S.m+1 } R) w'):=by
 have hmf:=makeF
 have hah:=ahead_swap
 have HWF:=Lib.hid hwf
 have hqi:InU (wordI false to S.ce):=wordI_in _ _ _
 have hto:=fun (v:World) (hv:Below w0.heap.size w0 v) (hb:Blk 0 v S.c (crv S.ck S.cs S.cb S.ch S.cl S.ce S.cr S.hs 0 S.q))=>to_c to 0 (hg.keep' hv) hb
 obtain ⟨q,hq⟩:∃ q,wordI false to S.ce=q:=⟨_,rfl⟩
 rw [hq] at hqi ⊢
 simp only [hq] at hto
 have HQI:=Lib.hid hqi
 have HTO:=Lib.hid hto
 clear hq hqi hto hg hwf
 obtain ⟨dd,hdd⟩:∃ dd,decide (S.f (x,y,z)=W)=dd:=⟨_,rfl⟩
 have HDD:=Lib.hid hdd
 clear hdd
 go_enter Tryz.func136,Tryz.ntmps136
 go_wp2_with fail
 refine Ord.wp_chain [23] (fun v=>Below w0.heap.size w0 v/\Blk 0 v l (ukC S.c x y z W C X k key to nx 0)/\Blk 0 v S.c (crv S.ck S.cs S.cb S.ch S.cl S.ce S.cr S.hs 0 S.q)) (fun k9 w'=>∃ G5,Env w0 (boxI l (ukC S.c x y z W C X k key to nx 0)::LT (if k9=0 then S else { S with G:=G5,f:=swf S.f (x,y,z) W q,qc:=swq S.qc dd,m:=S.m+1 }) R) w') (by kernel_rfl) (by kernel_rfl) (by kernel_rfl) ⟨hE.drew.below,hE.drew.get 0 rfl,hE.drew.get 1 rfl⟩ ⟨S.G,hE.drew⟩ (fun hT=>?_)
 have hT9:=Lib.hid hT
 clear hT
 repeat (first
  | (refine Ord.ch_value (v:=?_) hT9.out (by decide) (by rfl) ?_ ?_; rotate_left; (focus (intro w5 hS; have r:=hS.2.1.rule; unfold ukC at r; go_simp<;>with_reducible rfl)); (try simp only [Act.put,zA,zZ,zS]))
  | (refine Ord.ch_off hT9.out (by decide) (by rfl) ?_; (try simp only [Act.put,zA,zZ,zS]))
  | (refine Ord.ch_call (v:=?_) (f:=?_) (args:=?_) hT9.out (by decide) (by rfl) ?_ ?_ ?_; rotate_left 3; (focus (intro w5 hS; have r:=hS.2.1.rule; unfold ukC at r; go_simp; constructor<;>with_reducible rfl)); (focus (intro w5 hS; (first | (with_reducible refine (HTO.out _ hS.1 hS.2.2).mono ?_; rintro e w6 ⟨rfl,hb6⟩; constructor; with_reducible rfl; exact ⟨⟨hS.1.trans (hb6.mono hS.1.size),hS.2.1.under hb6,hS.2.2.under hb6⟩,fun k h=>h.elim fun G5 h=>⟨G5,h.over hb6⟩⟩)))); (try simp only [Act.put,zA,zZ,zS])))
 refine Ord.ch_turn (v:=.bool dd) 0 hT9.out rfl (by decide) (Or.inl rfl) (by rfl) ?_ ?_
 ·rintro w5 hC5 ⟨G5,hA5⟩
  simp only [if_true] at hA5
  go_simp
  rw [method_swap]
  simp only [Result.andThen_ok]
  go_simp
  simp only [Ord.LandsIn]
  have hsw:=swap_w x y z 0 W 0 q 0 false false HWF.out HQI.out hm 3 4 (by decide) hA5 rfl rfl
  rw [HDD.out] at hsw
  refine hsw.mono ?_
  rintro e w6 ⟨rfl,G6,hE6⟩
  exact ⟨rfl,⟨hE6.below,hE6.get 0 rfl,hE6.get 1 rfl⟩,G6,hE6⟩
 (try simp only [Act.put,zA,zZ,zS])
 repeat (first
  | (refine Ord.ch_value (v:=?_) hT9.out (by decide) (by rfl) ?_ ?_; rotate_left; (focus (intro w5 hS; skip; go_simp<;>with_reducible rfl)); (try simp only [Act.put,zA,zZ,zS]))
  | (refine Ord.ch_off hT9.out (by decide) (by rfl) ?_; (try simp only [Act.put,zA,zZ,zS])))
 refine Ord.InText.nil fun w5 hS=>?_
 clear hT9
 obtain ⟨hC9,hA9⟩:=Ord.chain_end hS
 clear hS
 obtain ⟨G9,hA9⟩:=hA9
 simp only [List.length_cons,List.length_nil,Nat.zero_add,Nat.one_ne_zero,if_false] at hA9
 clear hC9 hE HTO
 cases dd
 ·have hne:S.f (x,y,z)≠W:=by simpa using HDD.out
  have HNE:=Lib.hid hne
  clear hne HDD
  obtain ⟨S2,hS2⟩:∃ S2:ST,{ S with G:=G9,f:=swf S.f (x,y,z) W q,qc:=swq S.qc false,m:=S.m+1 }=S2:=⟨_,rfl⟩
  have hc2:S2.c=S.c:=by rw [<- hS2]
  rw [hS2] at hA9
  have HS2:=Lib.hid hS2
  obtain ⟨L2,hL2⟩:∃ L2,LT S2 R=L2:=⟨_,rfl⟩
  rw [hL2] at hA9
  have HL2:=Lib.hid hL2
  clear hS2 hc2 hL2
  go_wp2_with fail
  refine Ord3.wp_chain [?_,?_,?_,?_,?_,?_,?_,?_,?_,?_,?_,?_,?_,?_,?_,?_,?_,?_,?_,?_,?_] [15,16,19] (fun w'=>∃ nx9,Blk 0 w' l (ukC S.c x y z W C X k key to nx9 0)) (Ord3.Stage fun κs=>[Env w0 (boxI l (ukC S.c x y z W C X k key to nx 0)::L2),fun w'=>∃ r,κs.getD 0 undef=.pointer (some ⟨r,0,none⟩)/\Env w0 (boxI r (srC S.c k key false (.pointer none))::boxI l (ukC S.c x y z W C X k key to nx 0)::L2) w',fun w'=>∃ r,κs.getD 1 undef=mvL 118 r/\Env w0 (boxI r (srC S.c k key false (.pointer none))::boxI l (ukC S.c x y z W C X k key to nx 0)::L2) w',fun w'=>∃ b1 b2 r,Env w0 (boxI b1 [mvL 118 r]::boxI b2 [mvL 176 l]::boxI r (srC S.c k key false (.pointer none))::boxI l (ukC S.c x y z W C X k key to (cvP b1 b2) 0)::L2) w']) (by kernel_rfl) (by kernel_rfl) (by kernel_rfl) ⟨nx,hA9.drew.get 0 rfl⟩ ⟨_,rfl,hA9.drew⟩ (fun hT=>?_)
  rotate_left 21
  have hT9:=Lib.hid hT
  clear hT
  repeat (first
   | (focus (refine Ord3.in_value (v:=?_) hT9.out (by decide) ?_ (by rfl) ?_ ?_; rotate_left 2; (focus (intro w5 hS; obtain ⟨nx9,hS9⟩:=hS; have r1:=Blk.rule hS9; unfold ukC at r1; go_simp<;>with_reducible rfl)); rotate_right; (focus rfl); (try simp only [Act.put,zA,zZ,zS])))
   | (focus (refine Ord3.in_off hT9.out (by decide) ?_ (by rfl) ?_; (focus rfl); (try simp only [Act.put,zA,zZ,zS]))))
  refine Ord3.in_turn (fun u=>∃ q,u=.pointer (some ⟨q,0,none⟩)) _ ⟨0,rfl⟩ hT9.out rfl (by decide) (by rfl) ?_ (Or.inl rfl) (by rfl) ?_ ?_
  ·rfl
  ·rintro w7 hC7 ⟨P7,hP7,hA7⟩
   cases hP7
   go_simp
   simp only [Ord3.Lands]
   refine (newSearch_l S.c k key false hA7).mono ?_
   rintro o w8 ⟨r8,rfl,hE8⟩
   exact ⟨_,rfl,⟨r8,rfl⟩,⟨nx,hE8.get 1 rfl⟩,_,rfl,r8,rfl,hE8⟩
  rintro _ ⟨r9,rfl⟩
  (try simp only [Act.put,zA,zZ,zS])
  refine Ord3.in_turn (fun u=>∃ q,u=mvL 118 q) _ ⟨0,rfl⟩ hT9.out rfl (by decide) (by rfl) ?_ (Or.inr ⟨_,15,[],rfl,by kernel_rfl,by kernel_rfl,rfl⟩) (by rfl) ?_ ?_
  ·rfl
  ·rintro w7 hC7 ⟨P7,hP7,hA7⟩
   cases hP7
   obtain ⟨r8,he,hA7⟩:=hA7
   cases he
   go_simp
   simp only [Ord3.Lands]
   exact ⟨⟨_,rfl⟩,hC7,_,rfl,r9,rfl,hA7⟩
  rintro _ ⟨r9,rfl⟩
  (try simp only [Act.put,zA,zZ,zS])
  repeat (first
   | (focus (refine Ord3.in_value (v:=?_) hT9.out (by decide) ?_ (by rfl) ?_ ?_; rotate_left 2; (focus (intro w5 hS; obtain ⟨nx9,hS9⟩:=hS; have r1:=Blk.rule hS9; unfold ukC at r1; go_simp<;>with_reducible rfl)); rotate_right; (focus rfl); (try simp only [Act.put,zA,zZ,zS])))
   | (focus (refine Ord3.in_off hT9.out (by decide) ?_ (by rfl) ?_; (focus rfl); (try simp only [Act.put,zA,zZ,zS]))))
  refine Ord3.in_turn (fun u=>u=.int .i64 0) _ rfl hT9.out rfl (by decide) (by rfl) ?_ (Or.inr ⟨_,16,[],rfl,by kernel_rfl,by kernel_rfl,rfl⟩) (by rfl) ?_ ?_
  ·rfl
  ·rintro w7 hC7 ⟨P7,hP7,hA7⟩
   cases hP7
   obtain ⟨r8,he,hA7⟩:=hA7
   cases he
   go_simp
   simp only [Ord3.Lands]
   refine (play_r (o:=17) 1 _ _ _ _ _ _ (by simp [ukC]) hA7 rfl).mono ?_
   rintro o w8 ⟨rfl,b1,b2,hE8⟩
   exact ⟨_,rfl,rfl,⟨_,hE8.get 3 rfl⟩,_,rfl,b1,b2,r9,hE8⟩
  rintro _ rfl
  (try simp only [Act.put,zA,zZ,zS])
  repeat (first
   | (focus (refine Ord3.in_value (v:=?_) hT9.out (by decide) ?_ (by rfl) ?_ ?_; rotate_left 2; (focus (intro w5 hS; skip; go_simp<;>with_reducible rfl)); rotate_right; (focus rfl); (try simp only [Act.put,zA,zZ,zS])))
   | (focus (refine Ord3.in_off hT9.out (by decide) ?_ (by rfl) ?_; (focus rfl); (try simp only [Act.put,zA,zZ,zS]))))
  refine Ord3.in_nil rfl ?_
  rintro w9 hC9 ⟨P9,hP9,hA9⟩
  cases hP9
  obtain ⟨b1,b2,r8,hA9⟩:=hA9
  clear hT9 hC9
  go_wp2_with fail
  go_ret
  have h3:=HL2.out
  subst h3
  have h2:=HS2.out
  subst h2
  exact ⟨rfl,G9,b1,b2,.inr ⟨HNE.out,r8,hA9.perm (List.perm_middle (l₁:=[_,_,_]))⟩⟩
 ·have hne:S.f (x,y,z)=W:=by simpa using HDD.out
  have HNE:=Lib.hid hne
  clear hne HDD
  go_wp2_with fail
  refine (retire_k 1 hA9).mono ?_
  rintro o w7 ⟨rfl,b1,b2,r8,hE7⟩
  go_wp2_with fail
  go_ret
  exact ⟨rfl,G9,b1,b2,.inl ⟨HNE.out,r8,hE7⟩⟩
end
section
variable {w0 w:World} {L:List Item} {o c:Nat} {kd key val lv:Int} {nx sp:Value} {er st:Int} {dn:Bool}
theorem find_o (hE:Env w0 (boxI o (opC c kd key val lv nx 0 sp er dn)::L) w) :
  Calls Tryz.prog 67 #[.pointer (some ⟨o,0,none⟩)] w fun r w'=>r=.returned (.int .i64 0)/\∃ b1 b2 sb,Env w0 (boxI o (opC c kd key val lv (cvP b1 b2) 0 (.pointer (some ⟨sb,0,none⟩)) er dn)::boxI b1 [mvL 118 sb]::boxI b2 [mvL 119 o]::boxI sb (srC c 0 key false (.pointer none))::L) w':=by
 have hmf:=makeF
 go_enter Tryz.func67,Tryz.ntmps67
 go_wp2_with fail
 refine Ord3.wp_chain [?_,?_,?_,?_,?_,?_,?_,?_,?_,?_,?_,?_,?_,?_] [10,13] (fun w'=>∃ sp9,Blk 0 w' o (opC c kd key val lv nx 0 sp9 er dn)) (Ord3.Stage fun κs=>[Env w0 (boxI o (opC c kd key val lv nx 0 sp er dn)::L),fun w'=>∃ r,κs.getD 0 undef=.pointer (some ⟨r,0,none⟩)/\Env w0 (boxI r (srC c 0 key false (.pointer none))::boxI o (opC c kd key val lv nx 0 sp er dn)::L) w',fun w'=>∃ r,Env w0 (boxI r (srC c 0 key false (.pointer none))::boxI o (opC c kd key val lv nx 0 (.pointer (some ⟨r,0,none⟩)) er dn)::L) w']) (by kernel_rfl) (by kernel_rfl) (by kernel_rfl) ⟨sp,hE.drew.get 0 rfl⟩ ⟨_,rfl,hE.drew⟩ (fun hT=>?_)
 rotate_left 14
 have hT9:=Lib.hid hT
 clear hT
 repeat (first
  | (focus (refine Ord3.in_value (v:=?_) hT9.out (by decide) ?_ (by rfl) ?_ ?_; rotate_left 2; (focus (intro w5 hS; obtain ⟨sp9,hS9⟩:=hS; have r1:=Blk.rule hS9; unfold opC at r1; go_simp<;>with_reducible rfl)); rotate_right; (focus rfl); (try simp only [Act.put,zA,zZ,zS])))
  | (focus (refine Ord3.in_off hT9.out (by decide) ?_ (by rfl) ?_; (focus rfl); (try simp only [Act.put,zA,zZ,zS]))))
 refine Ord3.in_turn (fun u=>∃ q,u=.pointer (some ⟨q,0,none⟩)) _ ⟨0,rfl⟩ hT9.out rfl (by decide) (by rfl) ?_ (Or.inl rfl) (by rfl) ?_ ?_
 ·rfl
 ·rintro w7 hC7 ⟨P7,hP7,hA7⟩
  cases hP7
  go_simp
  simp only [Ord3.Lands]
  refine (newSearch_l c 0 key false hA7).mono ?_
  rintro o8 w8 ⟨r8,rfl,hE8⟩
  exact ⟨_,rfl,⟨r8,rfl⟩,⟨sp,hE8.get 1 rfl⟩,_,rfl,r8,rfl,hE8⟩
 rintro _ ⟨r9,rfl⟩
 (try simp only [Act.put,zA,zZ,zS])
 repeat (first
  | (focus (refine Ord3.in_value (v:=?_) hT9.out (by decide) ?_ (by rfl) ?_ ?_; rotate_left 2; (focus (intro w5 hS; obtain ⟨sp9,hS9⟩:=hS; have r1:=Blk.rule hS9; unfold opC at r1; go_simp<;>with_reducible rfl)); rotate_right; (focus rfl); (try simp only [Act.put,zA,zZ,zS])))
  | (focus (refine Ord3.in_off hT9.out (by decide) ?_ (by rfl) ?_; (focus rfl); (try simp only [Act.put,zA,zZ,zS]))))
 refine Ord3.in_turn (fun u=>u=undef) _ rfl hT9.out rfl (by decide) (by rfl) ?_ (Or.inr ⟨_,10,[],rfl,by kernel_rfl,by kernel_rfl,rfl⟩) (by rfl) ?_ ?_
 ·rfl
 ·rintro w7 hC7 ⟨P7,hP7,hA7⟩
  cases hP7
  obtain ⟨a8,he,hA7⟩:=hA7
  cases he
  have r:=hA7.rule 1 rfl
  unfold opC at r
  have g:=hA7.thaw 1 rfl 7 (by simp [opC])
  go_simp
  simp only [Ord3.Lands]
  have h9:=hA7.put 1 rfl (j:=7) (by simp [opC]) (.pointer (some ⟨r9,0,none⟩))
  exact ⟨trivial,⟨_,h9.get 1 rfl⟩,_,rfl,r9,h9⟩
 rintro _ rfl
 (try simp only [Act.put,zA,zZ,zS])
 refine Ord3.in_nil rfl ?_
 rintro w9 hC9 ⟨P9,hP9,hA9⟩
 cases hP9
 obtain ⟨sb,hA9⟩:=hA9
 clear hT9 hC9 hE
 go_wp2_with fail
 refine Ord3.wp_chain [?_,?_,?_,?_,?_,?_,?_,?_,?_,?_,?_,?_] [10] (fun w'=>∃ nx9,Blk 0 w' o (opC c kd key val lv nx9 0 (.pointer (some ⟨sb,0,none⟩)) er dn)) (Ord3.Stage fun κs=>[Env w0 (boxI sb (srC c 0 key false (.pointer none))::boxI o (opC c kd key val lv nx 0 (.pointer (some ⟨sb,0,none⟩)) er dn)::L),fun w'=>∃ b1 b2,Env w0 (boxI b1 [mvL 118 sb]::boxI b2 [mvL 119 o]::boxI sb (srC c 0 key false (.pointer none))::boxI o (opC c kd key val lv (cvP b1 b2) 0 (.pointer (some ⟨sb,0,none⟩)) er dn)::L) w']) (by kernel_rfl) (by kernel_rfl) (by kernel_rfl) ⟨nx,hA9.drew.get 1 rfl⟩ ⟨_,rfl,hA9.drew⟩ (fun hT=>?_)
 rotate_left 12
 have hT9:=Lib.hid hT
 clear hT
 repeat (first
  | (focus (refine Ord3.in_value (v:=?_) hT9.out (by decide) ?_ (by rfl) ?_ ?_; rotate_left 2; (focus (intro w5 hS; obtain ⟨nx9,hS9⟩:=hS; have r1:=Blk.rule hS9; unfold opC at r1; go_simp<;>with_reducible rfl)); rotate_right; (focus rfl); (try simp only [Act.put,zA,zZ,zS])))
  | (focus (refine Ord3.in_off hT9.out (by decide) ?_ (by rfl) ?_; (focus rfl); (try simp only [Act.put,zA,zZ,zS]))))
 refine Ord3.in_turn (fun u=>u=.int .i64 0) _ rfl hT9.out rfl (by decide) (by rfl) ?_ (Or.inl rfl) (by rfl) ?_ ?_
 ·rfl
 ·rintro w7 hC7 ⟨P7,hP7,hA7⟩
  cases hP7
  go_simp
  simp only [Ord3.Lands]
  refine (play_r (o:=5) 1 _ _ _ _ _ _ (by simp [opC]) hA7 rfl).mono ?_
  rintro o8 w8 ⟨rfl,b1,b2,hE8⟩
  exact ⟨_,rfl,rfl,⟨_,hE8.get 3 rfl⟩,_,rfl,b1,b2,hE8⟩
 rintro _ rfl
 (try simp only [Act.put,zA,zZ,zS])
 repeat (first
  | (focus (refine Ord3.in_value (v:=?_) hT9.out (by decide) ?_ (by rfl) ?_ ?_; rotate_left 2; (focus (intro w5 hS; skip; go_simp<;>with_reducible rfl)); rotate_right; (focus rfl); (try simp only [Act.put,zA,zZ,zS])))
  | (focus (refine Ord3.in_off hT9.out (by decide) ?_ (by rfl) ?_; (focus rfl); (try simp only [Act.put,zA,zZ,zS]))))
 refine Ord3.in_nil rfl ?_
 rintro w9 hC9 ⟨P9,hP9,hA9⟩
 cases hP9
 obtain ⟨b1,b2,hA9⟩:=hA9
 clear hT9 hC9
 go_wp2_with fail
 go_ret
 exact ⟨rfl,b1,b2,sb,hA9.perm (List.perm_middle (l₁:=[_,_,_]))⟩
theorem over_o (e2:Int) (d2:Bool) (hE:Env w0 (boxI o (opC c kd key val lv nx st sp er dn)::L) w) :
  Calls Tryz.prog 171 #[.pointer (some ⟨o,0,none⟩),.agg #[.int .i64 e2,.bool d2,.int .u64 0]] w fun r w'=>r=.returned (.int .i64 1)/\Env w0 (boxI o (opC c kd key val lv nx 1 sp e2 d2)::L) w':=by
 have hE1:=hE.box w.heap.size rfl [.int .i64 e2,.bool d2,.int .u64 0] 71
 have r0:=hE1.rule 0 rfl
 have r:=hE1.rule 1 rfl
 unfold opC at r
 have f:=hE1.thaw 1 rfl
 have f0:=f 8 (by simp [opC])
 have f1:=f 9 (by simp [opC])
 have f2:=f 10 (by simp [opC])
 clear f
 have hP:=((hE1.put 1 rfl (j:=8) (by simp [opC]) (.int .i64 e2)).put 1 rfl (j:=9) (by simp [opC]) (.bool d2)).put 1 rfl (j:=10) (by simp [opC]) (.int .u64 0)
 have HEN:=Lib.hid (end_r (o:=5) 1 1 (by simp [opC]) hP rfl)
 clear hE hE1 hP
 go_enter Tryz.func171,Tryz.ntmps171
 go_wp2_with fail
 refine HEN.out.mono ?_
 rintro e w1 ⟨rfl,hE2⟩
 go_wp2_with fail
 go_ret
 exact ⟨rfl,hE2.sub (.cons _ (List.Sublist.refl _))⟩
theorem changedDone_o (hE:Env w0 (boxI o (opC c kd key val lv nx 0 sp er dn)::L) w) :
  Calls Tryz.prog 199 #[.pointer (some ⟨o,0,none⟩),.int .i64 1] w fun r w'=>r=.returned (.int .i64 1)/\Env w0 (boxI o (opC c kd key val lv nx 1 sp 0 true)::L) w':=by
 have HO:=Lib.hid (over_o 0 true hE)
 clear hE
 go_enter Tryz.func199,Tryz.ntmps199
 go_wp2_with fail
 refine HO.out.mono ?_
 rintro e w1 ⟨rfl,hE2⟩
 go_wp2_with fail
 go_ret
 exact ⟨rfl,hE2⟩
theorem changedFind_o (hE:Env w0 (boxI o (opC c kd key val lv nx 0 sp er dn)::L) w) :
  Calls Tryz.prog 199 #[.pointer (some ⟨o,0,none⟩),.int .i64 2] w fun r w'=>r=.returned (.int .i64 0)/\∃ b1 b2 sb,Env w0 (boxI o (opC c kd key val lv (cvP b1 b2) 0 (.pointer (some ⟨sb,0,none⟩)) er dn)::boxI b1 [mvL 118 sb]::boxI b2 [mvL 119 o]::boxI sb (srC c 0 key false (.pointer none))::L) w':=by
 have HF:=Lib.hid (find_o hE)
 clear hE
 go_enter Tryz.func199,Tryz.ntmps199
 go_wp2_with fail
 refine HF.out.mono ?_
 rintro e w1 ⟨rfl,b1,b2,sb,hE2⟩
 go_wp2_with fail
 go_ret
 exact ⟨rfl,b1,b2,sb,hE2⟩
end
end Go.Proofs.YthcblagpbkaoaaaGreatDoor
namespace Go.Proofs.YthcblagpbkaoaaaGreatDoor
open Go.RowKit
set_option maxRecDepth 100000
set_option maxHeartbeats 25600000
theorem isAsked_any (k o:Int) (w:World):Calls Tryz.prog 76 #[.int .i64 k,.int .i64 o] w fun e w'=>e=.returned (.bool (askB k o))/\w=w':=by
 go_enter Tryz.func76,Tryz.ntmps76
 go_wp2
 all_goals
  go_ret
  (try go_light)
  (try simp only [bne_iff_ne,ne_eq,bne_eq_false_iff_eq,beq_iff_eq,beq_eq_false_iff_ne,Bool.or_eq_true,Bool.and_eq_true,decide_eq_true_eq,decide_eq_false_iff_not,Bool.or_eq_false_iff,Bool.not_eq_true',Bool.not_eq_false'] at *)
  refine ⟨ret_bool ?_,(by first | rfl | trivial)⟩
  rw [Bool.eq_iff_iff]
  unfold askB
  split
  ·simp; try omega
  ·split
   ·simp; try omega
   ·simp; try omega
theorem hasVal_any (o:Int) (w:World):Calls Tryz.prog 78 #[.int .i64 o] w fun e w'=>e=.returned (.bool (putB o))/\w=w':=by
 go_enter Tryz.func78,Tryz.ntmps78
 go_wp2
 all_goals
  go_ret
  refine ⟨ret_bool (by rw [Bool.eq_iff_iff]; simp [putB]; try omega),rfl⟩
theorem isLevel_any (k s b h l o x v y:Int) (w:World):Calls Tryz.prog 77 #[.agg #[.int .i64 k,.int .i64 s,.int .i64 b,.int .i64 h,.int .i64 l],.agg #[.int .i64 o,.int .u64 x,.int .u64 v,.int .i64 y]] w fun e w'=>e=.returned (.bool (lvlB k h o y))/\Below w.heap.size w w':=by
 have hF:=((Fr.start w).push w.heap.size rfl [.int .i64 k,.int .i64 s,.int .i64 b,.int .i64 h,.int .i64 l] 48).push (w.heap.size+1) (by simp) [.int .i64 o,.int .u64 x,.int .u64 v,.int .i64 y] 51
 go_enter Tryz.func77,Tryz.ntmps77
 go_wp2_with
  (with_reducible refine (within_any _ _ _ _).mono ?_; rintro e w1 ⟨rfl,rfl⟩)
 all_goals
  go_ret
  (try go_light)
  (try simp only [bne_iff_ne,ne_eq,bne_eq_false_iff_eq,beq_iff_eq,beq_eq_false_iff_ne,Bool.or_eq_true,Bool.and_eq_true,decide_eq_true_eq,decide_eq_false_iff_not,Bool.or_eq_false_iff,Bool.not_eq_true',Bool.not_eq_false'] at *)
  (try subst_vars)
  refine ⟨ret_bool ?_,hF.below⟩
  unfold lvlB
  split
  ·first | rfl | (exfalso; omega)
  ·rw [Bool.eq_iff_iff]; simp; try omega
theorem isOp_any (k s b h l o x v y:Int) (w:World):Calls Tryz.prog 29 #[.agg #[.int .i64 k,.int .i64 s,.int .i64 b,.int .i64 h,.int .i64 l],.agg #[.int .i64 o,.int .u64 x,.int .u64 v,.int .i64 y]] w fun e w'=>e=.returned (.int .i64 (opI k s b h l o x v y))/\Below w.heap.size w w':=by
 have hF:=((Fr.start w).push w.heap.size rfl [.int .i64 k,.int .i64 s,.int .i64 b,.int .i64 h,.int .i64 l] 48).push (w.heap.size+1) (by simp) [.int .i64 o,.int .u64 x,.int .u64 v,.int .i64 y] 51
 have r:=hF.rule 0 rfl
 have q:=hF.rule 1 rfl
 go_enter Tryz.func29,Tryz.ntmps29
 go_wp2_with (first
  |
   (with_reducible refine (isAsked_any _ _ _).mono ?_; rintro e w1 ⟨rfl,rfl⟩)
  |
   (with_reducible refine (hasVal_any _ _).mono ?_; rintro e w1 ⟨rfl,rfl⟩)
  |
   (with_reducible refine (check_any _ _ _ _ _ _).mono ?_; rintro e w1 ⟨rfl,hb⟩; replace hF:=hF.over hb; clear hb r q; have r:=hF.rule 0 rfl; have q:=hF.rule 1 rfl)
  |
   (with_reducible refine (isLevel_any _ _ _ _ _ _ _ _ _ _).mono ?_; rintro e w1 ⟨rfl,hb⟩; replace hF:=hF.over hb; clear hb r q; have r:=hF.rule 0 rfl; have q:=hF.rule 1 rfl)
  )
 all_goals
  go_ret
  (try go_light)
  (try simp only [bne_iff_ne,ne_eq,bne_eq_false_iff_eq,beq_iff_eq,beq_eq_false_iff_ne,Bool.or_eq_true,Bool.and_eq_true,decide_eq_true_eq,decide_eq_false_iff_not,Bool.or_eq_false_iff,Bool.not_eq_true',Bool.not_eq_false'] at *)
  refine ⟨ret_int ?_,hF.below⟩
  (try simp only [putB,decide_eq_true_eq] at *)
  by_cases h8:o=8
  ·subst h8
   simp_all [opI,argB]
  ·simp [opI,argB, *]
   (try omega)
end Go.Proofs.YthcblagpbkaoaaaGreatDoor
namespace Go.Proofs.YthcblagpbkaoaaaGreatDoor
open Go.RowKit Go.Maps
set_option maxRecDepth 100000
set_option maxHeartbeats 25600000
theorem kind_ofC (v:World) (a b c d e:Int):(Instr.field 48 (.agg #[.int .i64 a,.int .i64 b,.int .i64 c,.int .i64 d,.int .i64 e]) 0).run Tryz.prog v=.ok (.int .i64 a) v:=by kernel_rfl
section
variable {w0 w:World} {L:List Item} {c q:Nat} {k s b h l e r hs hi:Int}
theorem newNil_o (kd key val lv:Int) (w:World) :
  Calls Tryz.prog 19 #[.pointer none,.agg #[.int .i64 kd,.int .u64 key,.int .u64 val,.int .i64 lv]] w fun o w'=>o=.returned (.pointer none)/\Below w.heap.size w w':=by
 go_enter Tryz.func19,Tryz.ntmps19
 go_wp2_with fail
 refine wp_text (S:=(fun v=>Below w.heap.size w v)) (by kernel_rfl) (by kernel_rfl) ((Below.refl _ _).alloc (Nat.le_refl _) _).drew (fun hT=>?_)
 have hT9:=Lib.hid hT
 clear hT
 repeat (first
  | (refine text_value (v:=?_) hT9.out (by rfl) ?_ ?_; rotate_left; (focus (intro w5 hS; skip; go_simp<;>with_reducible rfl)); (try simp only [Act.put,zA,zZ,zS]))
  | (refine text_off hT9.out (by rfl) ?_; (try simp only [Act.put,zA,zZ,zS]))
  | (refine text_call (v:=?_) (f:=?_) (args:=?_) hT9.out (by rfl) ?_ ?_ ?_; rotate_left 3; (focus (intro w5 hS; skip; go_simp; constructor<;>with_reducible rfl)); (focus (intro w5 hS; (first | fail))); (try simp only [Act.put,zA,zZ,zS])))
 refine InText.nil fun w5 hS5=>?_
 clear hT9
 go_wp2
 go_ret
 exact ⟨rfl,hS5⟩
theorem newNo_o (i:Nat) (kd key val lv:Int) (hno:k≠1\/kd=8\/opI k s b h l kd key val lv≠0) (hm:L[i]?=some (coreI c k s b h l e r hs hi q)) (hE:Env w0 L w) :
  Calls Tryz.prog 19 #[.pointer (some ⟨c,0,none⟩),.agg #[.int .i64 kd,.int .u64 key,.int .u64 val,.int .i64 lv]] w fun o w'=>o=.returned (.pointer none)/\Env w0 L w':=by
 have hko:=kind_ofC
 have hE1:=hE.box w.heap.size rfl [.int .i64 kd,.int .u64 key,.int .u64 val,.int .i64 lv] 51
 have hm1:(boxI w.heap.size [.int .i64 kd,.int .u64 key,.int .u64 val,.int .i64 lv]::L)[i+1]?=some (coreI c k s b h l e r hs hi q):=hm
 have HCF:=Lib.hid fun (v:World) (hv:Env w0 (boxI w.heap.size [.int .i64 kd,.int .u64 key,.int .u64 val,.int .i64 lv]::L) v)=>conf_c (hv.get (i+1) hm1)
 have hIO:=fun v=>isOp_any k s b h l kd key val lv v
 obtain ⟨io,hio⟩:∃ io,opI k s b h l kd key val lv=io:=⟨_,rfl⟩
 simp only [hio] at hIO hno
 have HIO:=Lib.hid hIO
 clear hio hIO hE hm
 go_enter Tryz.func19,Tryz.ntmps19
 go_wp2_with fail
 generalize w.alloc _=w2 at *
 generalize w.heap.size=Y at *
 by_cases h1:k=1
 ·have b1:(k != 1)=false:=by simpa using h1
  by_cases h2:kd=8
  ·have b2:(kd==8)=true:=by simpa using h2
   clear h1 h2 hno
   refine wp_text (S:=(Env w0 (boxI Y [.int .i64 kd,.int .u64 key,.int .u64 val,.int .i64 lv]::L))) (by kernel_rfl) (by kernel_rfl) hE1.drew (fun hT=>?_)
   have hT9:=Lib.hid hT
   clear hT
   repeat (first
    | (refine text_value (v:=?_) hT9.out (by rfl) ?_ ?_; rotate_left; (focus (intro w5 hS; have r0:=hS.rule 0 rfl; go_simp<;>with_reducible rfl)); (try simp only [Act.put,zA,zZ,zS]))
    | (refine text_off hT9.out (by rfl) ?_; (try simp only [Act.put,zA,zZ,zS]))
    | (refine text_call (v:=?_) (f:=?_) (args:=?_) hT9.out (by rfl) ?_ ?_ ?_; rotate_left 3; (focus (intro w5 hS; have r0:=hS.rule 0 rfl; go_simp; constructor<;>with_reducible rfl)); (focus (intro w5 hS; (first | (with_reducible refine (HCF.out _ hS).mono ?_; rintro e9 w6 ⟨rfl,hb5⟩; constructor; with_reducible rfl; exact hS.over hb5)))); (try simp only [Act.put,zA,zZ,zS])))
   refine InText.nil fun w5 hS5=>?_
   clear hT9
   clear hE1
   go_wp2_with fail
   go_ret
   exact ⟨rfl,hS5.sub (.cons _ (List.Sublist.refl _))⟩
  ·have b2:(kd==8)=false:=by simpa using h2
   have b3:(io != 0)=true:=by simpa [h1,h2] using hno
   clear h1 h2 hno
   refine wp_text (S:=(Env w0 (boxI Y [.int .i64 kd,.int .u64 key,.int .u64 val,.int .i64 lv]::L))) (by kernel_rfl) (by kernel_rfl) hE1.drew (fun hT=>?_)
   have hT9:=Lib.hid hT
   clear hT
   repeat (first
    | (refine text_value (v:=?_) hT9.out (by rfl) ?_ ?_; rotate_left; (focus (intro w5 hS; have r0:=hS.rule 0 rfl; go_simp<;>with_reducible rfl)); (try simp only [Act.put,zA,zZ,zS]))
    | (refine text_off hT9.out (by rfl) ?_; (try simp only [Act.put,zA,zZ,zS]))
    | (refine text_call (v:=?_) (f:=?_) (args:=?_) hT9.out (by rfl) ?_ ?_ ?_; rotate_left 3; (focus (intro w5 hS; have r0:=hS.rule 0 rfl; go_simp; constructor<;>with_reducible rfl)); (focus (intro w5 hS; (first | (with_reducible refine (HCF.out _ hS).mono ?_; rintro e9 w6 ⟨rfl,hb5⟩; constructor; with_reducible rfl; exact hS.over hb5) | (with_reducible refine (HIO.out _).mono ?_; rintro e9 w6 ⟨rfl,hb5⟩; constructor; with_reducible rfl; exact hS.over hb5)))); (try simp only [Act.put,zA,zZ,zS])))
   refine InText.nil fun w5 hS5=>?_
   clear hT9
   clear hE1
   go_wp2_with fail
   go_ret
   exact ⟨rfl,hS5.sub (.cons _ (List.Sublist.refl _))⟩
 ·have b1:(k != 1)=true:=by simpa using h1
  clear h1 hno
  refine wp_text (S:=(Env w0 (boxI Y [.int .i64 kd,.int .u64 key,.int .u64 val,.int .i64 lv]::L))) (by kernel_rfl) (by kernel_rfl) hE1.drew (fun hT=>?_)
  have hT9:=Lib.hid hT
  clear hT
  repeat (first
   | (refine text_value (v:=?_) hT9.out (by rfl) ?_ ?_; rotate_left; (focus (intro w5 hS; have r0:=hS.rule 0 rfl; go_simp<;>with_reducible rfl)); (try simp only [Act.put,zA,zZ,zS]))
   | (refine text_off hT9.out (by rfl) ?_; (try simp only [Act.put,zA,zZ,zS]))
   | (refine text_call (v:=?_) (f:=?_) (args:=?_) hT9.out (by rfl) ?_ ?_ ?_; rotate_left 3; (focus (intro w5 hS; have r0:=hS.rule 0 rfl; go_simp; constructor<;>with_reducible rfl)); (focus (intro w5 hS; (first | (with_reducible refine (HCF.out _ hS).mono ?_; rintro e9 w6 ⟨rfl,hb5⟩; constructor; with_reducible rfl; exact hS.over hb5)))); (try simp only [Act.put,zA,zZ,zS])))
  refine InText.nil fun w5 hS5=>?_
  clear hT9
  clear hE1
  go_wp2_with fail
  go_ret
  exact ⟨rfl,hS5.sub (.cons _ (List.Sublist.refl _))⟩
theorem newYes_o (i:Nat) (kd key val lv:Int) (h2:kd≠8) (h3:opI 1 s b h l kd key val lv=0) (hm:L[i]?=some (coreI c 1 s b h l e r hs hi q)) (hE:Env w0 L w) :
  Calls Tryz.prog 19 #[.pointer (some ⟨c,0,none⟩),.agg #[.int .i64 kd,.int .u64 key,.int .u64 val,.int .i64 lv]] w fun p w'=>∃ o b1 b2 sb,p=.returned (.pointer (some ⟨o,0,none⟩))/\Env w0 (boxI o (opC c kd key val lv (cvP b1 b2) 0 (.pointer (some ⟨sb,0,none⟩)) 0 false)::boxI b1 [mvL 118 sb]::boxI b2 [mvL 119 o]::boxI sb (srC c 0 key false (.pointer none))::L) w':=by
 have hko:=kind_ofC
 have hE1:=hE.box w.heap.size rfl [.int .i64 kd,.int .u64 key,.int .u64 val,.int .i64 lv] 51
 have hm1:(boxI w.heap.size [.int .i64 kd,.int .u64 key,.int .u64 val,.int .i64 lv]::L)[i+1]?=some (coreI c 1 s b h l e r hs hi q):=hm
 have HCF:=Lib.hid fun (v:World) (hv:Env w0 (boxI w.heap.size [.int .i64 kd,.int .u64 key,.int .u64 val,.int .i64 lv]::L) v)=>conf_c (hv.get (i+1) hm1)
 have hIO:=fun v=>isOp_any 1 s b h l kd key val lv v
 simp only [h3] at hIO
 have HIO:=Lib.hid hIO
 have b2:(kd==8)=false:=by simpa using h2
 clear hIO hE hm h2 h3
 go_enter Tryz.func19,Tryz.ntmps19
 go_wp2_with fail
 generalize w.alloc _=w2 at *
 generalize w.heap.size=Y at *
 refine wp_text (S:=(Env w0 (boxI Y [.int .i64 kd,.int .u64 key,.int .u64 val,.int .i64 lv]::L))) (by kernel_rfl) (by kernel_rfl) hE1.drew (fun hT=>?_)
 have hT9:=Lib.hid hT
 clear hT
 repeat (first
  | (refine text_value (v:=?_) hT9.out (by rfl) ?_ ?_; rotate_left; (focus (intro w5 hS; have r0:=hS.rule 0 rfl; go_simp<;>with_reducible rfl)); (try simp only [Act.put,zA,zZ,zS]))
  | (refine text_off hT9.out (by rfl) ?_; (try simp only [Act.put,zA,zZ,zS]))
  | (refine text_call (v:=?_) (f:=?_) (args:=?_) hT9.out (by rfl) ?_ ?_ ?_; rotate_left 3; (focus (intro w5 hS; have r0:=hS.rule 0 rfl; go_simp; constructor<;>with_reducible rfl)); (focus (intro w5 hS; (first | (with_reducible refine (HCF.out _ hS).mono ?_; rintro e9 w6 ⟨rfl,hb5⟩; constructor; with_reducible rfl; exact hS.over hb5) | (with_reducible refine (HIO.out _).mono ?_; rintro e9 w6 ⟨rfl,hb5⟩; constructor; with_reducible rfl; exact hS.over hb5)))); (try simp only [Act.put,zA,zZ,zS])))
 refine InText.nil fun w5 hS5=>?_
 clear hT9
 clear hE1
 have r0:=hS5.rule 0 rfl
 go_wp2_with fail
 have hE6:=hS5.box w5.heap.size rfl (opC c kd key val lv .nilFunc 0 (.pointer none) 0 false) 143
 refine (find_o hE6).mono ?_
 rintro p w6 ⟨rfl,b1,b3,sb,hE7⟩
 go_wp2_with fail
 go_ret
 exact ⟨_,b1,b3,sb,rfl,hE7.sub (.cons_cons _ (.cons_cons _ (.cons_cons _ (.cons_cons _ (.cons _ (List.Sublist.refl _))))))⟩
end
theorem stepNil_o (u:Value) (w:World):Calls Tryz.prog 27 #[.pointer none,u] w fun o w'=>o=.returned (.int .i64 1)/\w'=w:=by
 go_enter Tryz.func27,Tryz.ntmps27
 go_wp2
 go_ret
 exact ⟨rfl,rfl⟩
theorem stepNil_k (u:Value) (w:World):Calls Tryz.prog 25 #[.pointer none,u] w fun o w'=>o=.returned (.int .i64 1)/\w'=w:=by
 go_enter Tryz.func25,Tryz.ntmps25
 go_wp2
 go_ret
 exact ⟨rfl,rfl⟩
theorem stepNil_u (u:Value) (w:World):Calls Tryz.prog 26 #[.pointer none,u] w fun o w'=>o=.returned (.int .i64 1)/\w'=w:=by
 go_enter Tryz.func26,Tryz.ntmps26
 go_wp2
 go_ret
 exact ⟨rfl,rfl⟩
theorem answerNil_o (w:World):Calls Tryz.prog 28 #[.pointer none] w fun o w'=>o=.returned (.agg #[.int .i64 0,.bool false,.int .u64 0])/\Below w.heap.size w w':=by
 go_enter Tryz.func28,Tryz.ntmps28
 go_wp2
 exact bodyPost_ret (v:=.agg #[.int .i64 0,.bool false,.int .u64 0]) (by simp [results,Tryz.results28,go_sem]) rfl ⟨rfl,(Below.refl _ _).alloc (Nat.le_refl _) _⟩
theorem answer_o {w:World} {o c:Nat} {kd key val lv st er:Int} {nx sp:Value} {dn:Bool} (hb:Blk 0 w o (opC c kd key val lv nx st sp er dn)):Calls Tryz.prog 28 #[.pointer (some ⟨o,0,none⟩)] w fun p w'=>p=.returned (.agg #[.int .i64 er,.bool dn,.int .u64 0])/\Below w.heap.size w w':=by
 have r1:=cell_more hb.1 hb.rule
 unfold opC at r1
 go_enter Tryz.func28,Tryz.ntmps28
 go_wp2
 exact bodyPost_ret (v:=.agg #[.int .i64 er,.bool dn,.int .u64 0]) (by simp [results,Tryz.results28,go_sem]) rfl ⟨rfl,(Below.refl _ _).alloc (Nat.le_refl _) _⟩
def One (q q':Cnt):Prop :=
 (q'.l=wrap64 (q.l+1)/\q'.s=q.s/\q'.w=q.w/\q'.a=q.a)\/(q'.l=q.l/\q'.s=wrap64 (q.s+1)/\q'.w=q.w/\q'.a=q.a) \/
 (q'.l=q.l/\q'.s=q.s/\q'.w=wrap64 (q.w+1)/\q'.a=q.a)\/(q'.l=q.l/\q'.s=q.s/\q'.w=q.w/\q'.a=wrap64 (q.a+1))
structure Nx (n:Nat) (q:Cnt) (n':Nat) (q':Cnt):Prop where
 (le:n'<=n+1)
 (one:One q q')
def lieI (g:Nat) (xs:List Value):Item where
 F:=fun k=>k=g
 says:=fun w=>∀ j u,xs[j]?=some u->w.cell? ⟨g,j,none⟩=some u
 loc:=fun w1 w2 h hk _ j u hu=>by
  have e:=hk g rfl
  have e2:=h j u hu
  unfold World.cell? at e2 ⊢
  rw [e]
  exact e2
theorem Env.lies {w0 w:World} {L:List Item} (h:Env w0 L w) (i:Nat) {g:Nat} {xs:List Value} (hi:L[i]?=some (lieI g xs)):∀ j u,xs[j]?=some u->w.cell? ⟨g,j,none⟩=some u:=h.get i hi
theorem Env.rowLies {w0 w:World} {L:List Item} {e:TypeId} {s n:Nat} {v:Value} {xs:List Value} (h:Env w0 (rowI v e s n xs::L) w) (hn:n≠0) :
  ∃ g c,v=.slice (some ⟨g,0,none⟩) n c/\n<=c/\Env w0 (lieI g xs::L) w:=by
 have ho:w.ownsRow 0 e s v n xs:=h.get 0 rfl
 rcases ho.2 with ⟨-,h0⟩ | ⟨g,cap,cur,hv,-,hg,hnc,-⟩
 ·exact absurd h0 hn
 ·refine ⟨g,cap,hv,hnc,?_⟩
  have h2:=h.step 0 (lieI g xs) rfl (w':=w) ⟨Turn.refl _ w,fun k hk=>.inl (by
   show v.ownBlock=some k
   rw [hv]
   show some g=some k
   rw [show k=g from hk])⟩ (fun j u hu=>by
    have this:=ho.cells (g:=g) (by rw [hv]; rfl) j u hu
    have e2:(⟨g,0,none⟩:Addr).add j=⟨g,j,none⟩:=by unfold Addr.add; split<;>simp_all
    rw [e2] at this
    exact this) (fun k hk=>h.lt 0 rfl k (by
   show v.ownBlock=some k
   rw [hv]
   show some g=some k
   rw [show k=g from hk]))
  exact h2
theorem Env.appendRow {P:Program} {w0 w:World} {L:List Item} (h:Env w0 L w) (i:Nat) {v:Value} {e:TypeId} {s n b:Nat} {xs:List Value} (hi:L[i]?=some (rowI v e s n xs)) (t ty:TypeId) (ht:P.underlying t=some (.slice e)) (z:Value) (hinfo:(P.info? e).map (fun i=>(i.zero,i.size,i.bytes))=some (some z,s,b)) (hzs:z.cells.size=s) (hsz:0 < s)
  (A:Option Addr) (m c:Nat) (news:List Value) (hl:news.length=m * s) (hnews:(A=none/\m=0)\/∃ ad,A=some ad/\∀ j u,news[j]?=some u->w.cell? (ad.add j)=some u) (h1:∀ u∈news,u.oneCell'=true) (h63:n+m<=maxLen) (hbytes:(n+m) * b<=140737488355328) :
  ∃ A' c' w',(Builtin.append_ #[t,t] ty #[v,.slice A m c]).run P w=.ok (.slice A' (n+m) c') w'/\Env w0 (L.set i (rowI (.slice A' (n+m) c') e s (n+m) (xs++news))) w':=by
 obtain ⟨i0,hi0,hzz⟩:=Option.map_eq_some_iff.1 hinfo
 simp only [Prod.mk.injEq] at hzz
 obtain ⟨hz0,hs,hb⟩:=hzz
 have hown:w.ownsRow 0 e s v n xs:=h.get i hi
 obtain ⟨v',w',hrun,ho,hg,hv⟩:=run_append_rows (P:=P) t ty 0 e i0 z s b ht hi0 hz0 hs hb hzs hsz w v n xs hown A m c news hl hnews h1 h63 hbytes (Nat.zero_le _)
 obtain ⟨A',c',rfl⟩:=ownsRow_slice ho
 refine ⟨A',c',w',hrun,h.step i (rowI _ e s (n+m) (xs++news)) hi ⟨(Turn.refl _ w).grown hg fun k _ e=>e,fun k hk=>?_⟩ ho (ownsRow_lt ho)⟩
 rcases hv with e | e
 ·exact .inl (by show v.ownBlock=some k; rw [<- e]; exact hk)
 ·right
  have:some w.heap.size=some k:=e.symm.trans hk
  cases this
  exact Nat.le_refl _
def flat2 (l:List (Int × Int)):List Value:=l.flatMap fun p=>[.int .i64 p.1,.int .u64 p.2]
def wordsA (ck e key val lv:Int):List (Int × Int):=[(0,e),(1,0),(3,key)]++(if ck=2 then [(4,val)] else if ck=3 then [(5,lv),(6,0)] else [])
theorem infoWrite:(Tryz.prog.info? 328).map (fun i=>(i.zero,i.size,i.bytes))=some (some (.agg #[.int .i64 0,.int .u64 0]),2,16):=by kernel_rfl
section
variable {w0 w:World} {R:List Item} {a:Nat} {S:ST} {M:MA}
theorem words_a (he:0<=S.ce/\S.ce<=9223372036854775807) (hE:Env w0 (boxI a (av S.c M)::LT S R) w) :
  Calls Tryz.prog 272 #[.pointer (some ⟨a,0,none⟩)] w fun o w'=>∃ g c,o=.returned (.slice (some ⟨g,0,none⟩) (wordsA S.ck S.ce M.key M.val (IntKind.u64.wrap M.lv)).length c)/\(wordsA S.ck S.ce M.key M.val (IntKind.u64.wrap M.lv)).length<=c/\Env w0 (lieI g (flat2 (wordsA S.ck S.ce M.key M.val (IntKind.u64.wrap M.lv)))::boxI a (av S.c M)::LT S R) w':=by
 have hw1:IntKind.u64.wrap S.ce=S.ce:=wrapU _ (by omega) (by omega)
 have hki:=kind_of
 clear he
 go_enter Tryz.func272,Tryz.ntmps272
 go_wp2_with fail
 refine Ord3.wp_chain [?_,?_,?_,?_,?_,?_,?_,?_,?_,?_,?_,?_,?_,?_,?_,?_,?_] [15,16] (fun w'=>Blk 0 w' a (av S.c M)/\Blk 0 w' S.c (crv S.ck S.cs S.cb S.ch S.cl S.ce S.cr S.hs 0 S.q)) (Ord3.Stage fun κs=>[Env w0 (boxI a (av S.c M)::LT S R),Env w0 (rowI (κs.getD 0 undef) 328 2 3 (flat2 [(0,S.ce),(1,0),(3,M.key)])::boxI a (av S.c M)::LT S R),Env w0 (rowI (κs.getD 1 undef) 328 2 3 (flat2 [(0,S.ce),(1,0),(3,M.key)])::boxI a (av S.c M)::LT S R)]) (by kernel_rfl) (by kernel_rfl) (by kernel_rfl) ⟨hE.drew.get 0 rfl,hE.drew.get 1 rfl⟩ ⟨_,rfl,hE.drew⟩ (fun hT=>?_)
 rotate_left 17
 have hT9:=Lib.hid hT
 clear hT
 repeat (first
  | (focus (refine Ord3.in_value (v:=?_) hT9.out (by decide) ?_ (by rfl) ?_ ?_; rotate_left 2; (focus (intro w5 hS; have r1:=Blk.rule hS.1; unfold av at r1; go_simp<;>with_reducible rfl)); rotate_right; (focus rfl); (try simp only [Act.put,zA,zZ,zS])))
  | (focus (refine Ord3.in_off hT9.out (by decide) ?_ (by rfl) ?_; (focus rfl); (try simp only [Act.put,zA,zZ,zS])))
  | (focus (refine Ord3.in_call (v:=?_) (f:=?_) (args:=?_) hT9.out (by decide) ?_ (by rfl) ?_ ?_ ?_; rotate_left 4; (focus (intro w5 hS; have r1:=Blk.rule hS.1; unfold av at r1; go_simp; constructor<;>with_reducible rfl)); (focus (intro w5 hS; (first | (with_reducible refine (epoch_c hS.2).mono ?_; rintro o w6 ⟨rfl,rfl⟩; constructor; with_reducible rfl; exact ⟨hS,fun _ h=>h⟩)))); rotate_right; (focus rfl); (try simp only [Act.put,zA,zZ,zS]))))
 refine Ord3.in_turn (fun u=>∃ z,u=.slice (some ⟨z,0,none⟩) 3 3) _ ⟨0,rfl⟩ hT9.out rfl (by decide) (by rfl) ?_ (Or.inl rfl) (by rfl) ?_ ?_
 ·rfl
 ·rintro w7 hC7 ⟨P7,hP7,hA7⟩
  cases hP7
  go_simp
  simp only [Ord3.Lands]
  have hb:=(Below.refl w7.heap.size w7).alloc (Nat.le_refl _) (.cells (flat2 [(0,S.ce),(1,0),(3,M.key)]).toArray 328)
  have hE8:=hA7.add (rowI (.slice (some ⟨w7.heap.size,0,none⟩) 3 3) 328 2 3 (flat2 [(0,S.ce),(1,0),(3,M.key)])) hb (World.ownsRow_lit w7 (flat2 [(0,S.ce),(1,0),(3,M.key)]).toArray 3 (Nat.zero_le _) (by decide) rfl) (fun k hk=>by
   have:w7.heap.size=k:=by simpa [rowI,Value.ownBlock] using hk
   subst this
   simp)
  exact ⟨⟨_,rfl⟩,⟨hE8.get 1 rfl,hE8.get 2 rfl⟩,_,rfl,hE8⟩
 rintro _ ⟨z9,rfl⟩
 (try simp only [Act.put,zA,zZ,zS])
 refine Ord3.in_turn (fun u=>∃ z,u=.slice (some ⟨z,0,none⟩) 3 3) _ ⟨0,rfl⟩ hT9.out rfl (by decide) (by rfl) ?_ (Or.inr ⟨_,15,[],rfl,by kernel_rfl,by kernel_rfl,rfl⟩) (by rfl) ?_ ?_
 ·rfl
 ·rintro w7 hC7 ⟨P7,hP7,hA7⟩
  cases hP7
  go_simp
  simp only [Ord3.Lands]
  exact ⟨⟨_,rfl⟩,hC7,_,rfl,hA7⟩
 rintro _ ⟨z8,rfl⟩
 (try simp only [Act.put,zA,zZ,zS])
 refine Ord3.in_nil rfl ?_
 rintro w9 hC9 ⟨P9,hP9,hA9⟩
 cases hP9
 replace hA9:Env w0 (rowI (.slice (some ⟨z8,0,none⟩) 3 3) 328 2 3 (flat2 [(0,S.ce),(1,0),(3,M.key)])::boxI a (av S.c M)::LT S R) w9:=hA9
 clear hT9 hC9 hE
 have r:=hA9.rule 1 rfl
 unfold av at r
 go_wp2_with fail
 refine (conf_c (hA9.get 2 rfl)).mono ?_
 rintro o w10 ⟨rfl,hb⟩
 replace hA9:=hA9.over hb
 clear hb r
 have r:=hA9.rule 1 rfl
 unfold av at r
 generalize w10=w9 at *
 rcases hk2:S.ck==2 with _ | _
 ·rcases hk3:S.ck==3 with _ | _
  ·have hw:wordsA S.ck S.ce M.key M.val (IntKind.u64.wrap M.lv)=[(0,S.ce),(1,0),(3,M.key)]:=by
    simp only [beq_eq_false_iff_ne] at hk2 hk3
    simp [wordsA,hk2,hk3]
   have HW:=Lib.hid hw
   clear hw
   go_wp2_with fail
   go_ret
   obtain ⟨g,c,he,hc,hE12⟩:=hA9.rowLies (by decide)
   cases he
   rw [HW.out]
   exact ⟨_,_,rfl,hc,hE12⟩
  ·simp only [beq_eq_false_iff_ne] at hk2
   have hw:wordsA S.ck S.ce M.key M.val (IntKind.u64.wrap M.lv)=[(0,S.ce),(1,0),(3,M.key)]++[(5,IntKind.u64.wrap M.lv),(6,0)]:=by unfold wordsA; rw [if_neg (by simpa using hk2),if_pos (by simpa using hk3)]
   have HW:=Lib.hid hw
   clear hw
   have hE10:=hA9.box w9.heap.size rfl [.int .i64 5,.int .u64 (IntKind.u64.wrap M.lv),.int .i64 6,.int .u64 0] 328
   obtain ⟨A',c',w',hrun,hE11⟩:=hE10.appendRow (P:=Tryz.prog) 1 rfl 308 308 Tryz.underlying308 (.agg #[.int .i64 0,.int .u64 0]) infoWrite rfl (by decide) (some ⟨w9.heap.size,0,none⟩) 2 2 [.int .i64 5,.int .u64 (IntKind.u64.wrap M.lv),.int .i64 6,.int .u64 0] rfl (.inr ⟨_,rfl,cells_new _ _ _⟩) (by simp [Value.oneCell']) (by decide) (by decide)
   have HRUN:=Lib.hid hrun
   clear hrun
   go_wp2_with (first | (at_builtin; refine wpList_append_run rfl _ _ 308 rfl HRUN.out rfl rfl ?_))
   go_ret
   obtain ⟨g,c,he,hc,hE12⟩:=(hE11.sub (.cons _ (List.Sublist.refl _))).rowLies (by decide)
   cases he
   rw [HW.out]
   exact ⟨g,c',rfl,hc,hE12⟩
 ·have hk3:(S.ck==3)=false:=by simp only [beq_iff_eq] at hk2; simp [hk2]
  have hw:wordsA S.ck S.ce M.key M.val (IntKind.u64.wrap M.lv)=[(0,S.ce),(1,0),(3,M.key)]++[(4,M.val)]:=by unfold wordsA; rw [if_pos (by simpa using hk2)]
  have HW:=Lib.hid hw
  clear hw
  have hE10:=hA9.box w9.heap.size rfl [.int .i64 4,.int .u64 M.val] 328
  obtain ⟨A',c',w',hrun,hE11⟩:=hE10.appendRow (P:=Tryz.prog) 1 rfl 308 308 Tryz.underlying308 (.agg #[.int .i64 0,.int .u64 0]) infoWrite rfl (by decide) (some ⟨w9.heap.size,0,none⟩) 1 1 [.int .i64 4,.int .u64 M.val] rfl (.inr ⟨_,rfl,cells_new _ _ _⟩) (by simp [Value.oneCell']) (by decide) (by decide)
  have HRUN:=Lib.hid hrun
  clear hrun
  go_wp2_with (first | (at_builtin; refine wpList_append_run rfl _ _ 308 rfl HRUN.out rfl rfl ?_))
  go_ret
  obtain ⟨g,c,he,hc,hE12⟩:=(hE11.sub (.cons _ (List.Sublist.refl _))).rowLies (by decide)
  cases he
  rw [HW.out]
  exact ⟨g,c',rfl,hc,hE12⟩
end
def gdS:List Trip->Int
 | []=>1
 | _=>0
def poolG (x l:Int):Int:=if l<=verI x then 4 else 0
abbrev OneR:=Plc × Int
def getL:List OneR->Plc->Int
 | [],_=>0
 | e::l,x=>if e.1=x then e.2 else getL l x
def setL:List OneR->Plc->Int->List OneR
 | [],x,v=>[(x,v)]
 | e::l,x,v=>if e.1=x then (e.1,v)::l else e::setL l x v
def lastS (k n:Nat):Int:=if k+1=n then 1 else 0
theorem wordsA_len (ck e key val lv:Int):(wordsA ck e key val lv).length=if ck=2 then 4 else if ck=3 then 5 else 3:=by
 unfold wordsA
 split
 ·rfl
 ·split<;>rfl
structure Dd where
 (kind ok key val lv:Int)
structure Cf where
 (k s b h l:Int)
structure Th where
 (e:Int)
 (ql:List Trip)
 (hs:Int)
 (nd pc apc:Nat)
 (ah an ar rs:Int)
 (rpc:Nat)
 (re:Int)
 (gpc:Nat)
 (gh gg done:Int)
 (full:Bool)
abbrev Mem:=Plc->Int
def allocM (C:Cf) (d:Dd) (T:Th) (f:Mem):Int × Th × Mem :=
 if T.apc=1 then (2,T,swf f (1,0,0) T.e (T.e+1))
 else if T.apc=2 then
  if C.s<=f (3,0,0) then (0,{ T with apc:=3 },upd f (3,0,0) (IntKind.u64.wrap (f (3,0,0)+1)))
  else (decS (T.ql++[(f (3,0,0)+1,0,0)]) T.e C.l,{ T with ql:=T.ql++[(f (3,0,0)+1,0,0)],apc:=decP (T.ql++[(f (3,0,0)+1,0,0)]) T.e C.l },upd f (3,0,0) (IntKind.u64.wrap (f (3,0,0)+1)))
 else if T.apc=3 then (poolS (f (2,0,0)) C.l,{ T with ah:=f (2,0,0),apc:=4 },f)
 else if T.apc=4 then (0,{ T with an:=f (5,slotI T.ah,2),apc:=5 },f)
 else if T.apc=5 then (0,{ T with ar:=f (5,slotI T.ah,1),apc:=6 },f)
 else if T.apc=6 then
  if f (2,0,0)=T.ah then (decS (T.ql++[(slotI T.ah,epI T.ar,0)]) T.e C.l,{ T with ql:=T.ql++[(slotI T.ah,epI T.ar,0)],apc:=decP (T.ql++[(slotI T.ah,epI T.ar,0)]) T.e C.l },swf f (2,0,0) T.ah (nextW T.ah (slotI T.an)))
  else (0,{ T with apc:=3 },swf f (2,0,0) T.ah (nextW T.ah (slotI T.an)))
 else
  let W:=wordsA C.k T.e d.key d.val (IntKind.u64.wrap d.lv)
  let pw:=W.getD (T.apc - 10) (0,0)
  if T.apc=10 then (lastS 0 W.length,{ T with ql:=T.ql.tail,hs:=(T.ql.headD t0).1,apc:=11 },upd f (5,(T.ql.headD t0).1,pw.1) pw.2)
  else (lastS (T.apc - 10) W.length,{ T with apc:=T.apc+1 },upd f (5,T.hs,pw.1) pw.2)
def retireM (T:Th) (f:Mem):Int × Th × Mem :=
 if T.rpc=0 then (0,{ T with re:=f (1,0,0),rpc:=1 },f)
 else (1,{ T with ql:=T.ql++[(T.rs,epI T.re,0)] },upd f (5,T.rs,1) T.re)
def giveM (C:Cf) (T:Th) (f:Mem):Int × Th × Mem :=
 if T.gpc=0 then (gdS T.ql,{ T with e:=epI (f (1,0,0)),gpc:=1 },f)
 else if T.gpc=1 then (poolG (f (2,0,0)) C.l,{ T with gh:=f (2,0,0),gpc:=2 },f)
 else if T.gpc=2 then (0,{ T with gpc:=3 },upd f (5,(T.ql.headD t0).1,2) (wordI false (slotI T.gh) 0))
 else if f (2,0,0)=T.gh then (gdS T.ql.tail,{ T with ql:=T.ql.tail,gg:=wrap64 (T.gg+1),gpc:=1 },swf f (2,0,0) T.gh (nextW T.gh (T.ql.headD t0).1))
 else (0,{ T with gpc:=1 },swf f (2,0,0) T.gh (nextW T.gh (T.ql.headD t0).1))
def actM (C:Cf) (d:Dd) (T:Th) (f:Mem):Th × Mem :=
 if T.pc=1 then
  let e:=epI (f (1,0,0))
  ({ T with e:=e,apc:=decP T.ql e C.l,ah:=0,an:=0,ar:=0,pc:=if decP T.ql e C.l=0 then 0 else 2,full:=false },f)
 else if T.pc=2 then
  let r:=allocM C d T f
  ({ r.2.1 with pc:=if r.1=2 then 1 else if r.1=0 then 2 else 0,done:=if r.1=1 then T.done+1 else T.done,full:=r.1==3 },r.2.2)
 else if T.pc=3 then
  let r:=retireM T f
  ({ r.2.1 with pc:=if r.1=0 then 3 else 0,full:=false },r.2.2)
 else
  let r:=giveM C T f
  ({ r.2.1 with pc:=if r.1=0 then 4 else 0,full:=false },r.2.2)
structure Tm where
 (thr c q u:Nat)
 (F:Nat->Prop)
 (kq:Nat)
 (A:Option Addr)
 (rc:Nat)
 (N cr ro:Int)
 (dA:Option Addr)
 (dn dc:Nat)
 (pa pb pr pq pg ph:Value)
structure Wm where
 (p cc m:Nat)
 (G FU:Nat->Prop)
 (qc:Cnt)
 (n:Nat)
 (ml:List OneR)
instance:Inhabited Dd:=⟨⟨0,0,0,0,0⟩⟩
end Go.Proofs.YthcblagpbkaoaaaGreatDoor
namespace Go.Proofs.YthcblagpbkaoaaaGreatDoor
open Go.RowKit
set_option maxRecDepth 100000
set_option maxHeartbeats 25600000
theorem born_w (v:Value) (m:Int) (w:World):Calls Tryz.prog 296 #[v,.int .i64 m] w fun e w'=>e=.returned (.int .i64 0)/\w'=w:=by
 go_enter Tryz.func296,Tryz.ntmps296
 go_wp2
 go_ret
 exact ⟨rfl,rfl⟩
end Go.Proofs.YthcblagpbkaoaaaGreatDoor
namespace Go.Proofs.YthcblagpbkaoaaaGreatDoor
open Go.RowKit Go.Maps
set_option maxRecDepth 100000
set_option maxHeartbeats 25600000
section
variable {w0 w:World} {R:List Item} {a:Nat} {S:ST} {M:MA}
theorem store_a (g o N C:Nat) (part word:Int) (hC:N+1<=C) (hpt:In64 part) (hwd:InU word) (hms:In64 M.s) (hm:S.m < maxLen) (hleft:M.left=.slice (some ⟨g,o,none⟩) (N+1) C) {xs:List Value} (h0:xs[o]?=some (.int .i64 part)) (h1:xs[o+1]?=some (.int .u64 word)) (hE:Env w0 (boxI a (av S.c M)::LT S (lieI g xs::R)) w) :
  Calls Tryz.prog 273 #[.pointer (some ⟨a,0,none⟩),.iface 26 (.pointer (some ⟨S.p,0,none⟩))] w fun u w'=>u=.returned (.int .i64 (if N=0 then 1 else 0))/\∃ nx left G',(N≠0->nx=M.nx/\left=.slice (some ⟨g,o+2,none⟩) N (C - 1))/\Env w0 (boxI a (av S.c { M with nx:=nx,left:=left })::LT { S with G:=G',f:=upd S.f (5,M.s,part) word,qc:={ S.qc with s:=wrap64 (S.qc.s+1) },m:=S.m+1 } (lieI g xs::R)) w':=by
 have hmf:=makeF
 have hah:=ahead_store
 have HWF:Hid (Wf (5,M.s,part)):=Lib.hid (by unfold Wf; exact ⟨by unfold In64; omega,hms,hpt⟩)
 have HWD:=Lib.hid hwd
 have r:=hE.rule 0 rfl
 unfold av at r
 simp only [hleft] at r
 have c0:=hE.lies 5 rfl o _ h0
 have c1:=hE.lies 5 rfl (o+1) _ h1
 have hlt:(0:Int) < ((N+1:Nat):Int):=by omega
 clear hpt hwd hms
 go_enter Tryz.func273,Tryz.ntmps273
 go_wp2_with fail
 have hE1:=(hE.box w.heap.size rfl [.int .i64 part,.int .u64 word] 328).perm (L':=boxI a (av S.c M)::LT S (boxI w.heap.size [.int .i64 part,.int .u64 word]::lieI g xs::R)) (List.perm_middle (l₁:=[boxI a (av S.c M),_,_,_,_])).symm
 clear r c0 c1 hE
 generalize w.alloc _=w1 at *
 generalize w.heap.size=Y at *
 refine Ord.wp_chain [14] (fun v=>Blk 0 v a (av S.c M)/\Blk 0 v Y [.int .i64 part,.int .u64 word]) (fun k w'=>∃ G5,Env w0 (boxI a (av S.c M)::LT (if k=0 then S else { S with G:=G5,f:=upd S.f (5,M.s,part) word,qc:={ S.qc with s:=wrap64 (S.qc.s+1) },m:=S.m+1 }) (boxI Y [.int .i64 part,.int .u64 word]::lieI g xs::R)) w') (by kernel_rfl) (by kernel_rfl) (by kernel_rfl) ⟨hE1.drew.get 0 rfl,hE1.drew.get 5 rfl⟩ ⟨S.G,hE1.drew⟩ (fun hT=>?_)
 have hT9:=Lib.hid hT
 clear hT
 repeat (first
  | (refine Ord.ch_value (v:=?_) hT9.out (by decide) (by rfl) ?_ ?_; rotate_left; (focus (intro w5 hS; have r:=hS.1.rule; have r1:=hS.2.rule; unfold av at r; go_simp<;>with_reducible rfl)); (try simp only [Act.put,zA,zZ,zS]))
  | (refine Ord.ch_off hT9.out (by decide) (by rfl) ?_; (try simp only [Act.put,zA,zZ,zS]))
  | (refine Ord.ch_call (v:=?_) (f:=?_) (args:=?_) hT9.out (by decide) (by rfl) ?_ ?_ ?_; rotate_left 3; (focus (intro w5 hS; have r:=hS.1.rule; have r1:=hS.2.rule; unfold av at r; go_simp; constructor<;>with_reducible rfl)); (focus (intro w5 hS; (first | (with_reducible refine (part_any _ _ _ _).mono ?_; rintro e w6 ⟨rfl,hb6⟩; constructor; with_reducible rfl; exact ⟨⟨hS.1.under hb6,hS.2.under hb6⟩,fun k h=>h.elim fun G5 h=>⟨G5,h.over hb6⟩⟩)))); (try simp only [Act.put,zA,zZ,zS])))
 refine Ord.ch_turn (v:=.tuple #[]) 0 hT9.out rfl (by decide) (Or.inl rfl) (by rfl) ?_ ?_
 ·rintro w5 hC5 ⟨G5,hA5⟩
  simp only [if_true] at hA5
  go_simp
  rw [method_store]
  simp only [Result.andThen_ok]
  go_simp
  simp only [Ord.LandsIn]
  refine (store_w 5 M.s part 0 word 0 false HWF.out HWD.out hm 3 4 (by decide) hA5 rfl rfl).mono ?_
  rintro e w6 ⟨rfl,G6,hE6⟩
  exact ⟨rfl,⟨hE6.get 0 rfl,hE6.get 5 rfl⟩,G6,hE6⟩
 (try simp only [Act.put,zA,zZ,zS])
 repeat (first
  | (refine Ord.ch_value (v:=?_) hT9.out (by decide) (by rfl) ?_ ?_; rotate_left; (focus (intro w5 hS; skip; go_simp<;>with_reducible rfl)); (try simp only [Act.put,zA,zZ,zS]))
  | (refine Ord.ch_off hT9.out (by decide) (by rfl) ?_; (try simp only [Act.put,zA,zZ,zS])))
 refine Ord.InText.nil fun w5 hS=>?_
 clear hT9
 obtain ⟨hC9,hA9⟩:=Ord.chain_end hS
 clear hS
 obtain ⟨G9,hA9⟩:=hA9
 simp only [List.length_cons,List.length_nil,Nat.zero_add,Nat.one_ne_zero,if_false] at hA9
 replace hA9:=hA9.sub (L':=boxI a (av S.c M)::LT { S with G:=G9,f:=upd S.f (5,M.s,part) word,qc:={ S.qc with s:=wrap64 (S.qc.s+1) },m:=S.m+1 } (lieI g xs::R)) (.cons_cons _ (.cons_cons _ (.cons_cons _ (.cons_cons _ (.cons_cons _ (.cons _ (List.Sublist.refl _)))))))
 clear hC9 hE1
 have r:=hA9.rule 0 rfl
 unfold av at r
 simp only [hleft] at r
 have f:=hA9.thaw 0 rfl 18 (by simp [av])
 have hP:=fun v=>hA9.put 0 rfl (j:=18) (by simp [av]) v
 obtain _ | C:=C
 ·omega
 obtain _ | N:=N
 ·obtain _ | C:=C
  ·go_wp2_with fail
   refine (end_m 0 1 (by simp [av]) (hP _) rfl).mono ?_
   rintro o w7 ⟨rfl,nx,hE7⟩
   go_wp2_with fail
   go_ret
   first | exact ⟨rfl,nx,_,G9,fun h=>absurd rfl h,hE7⟩ | exact ⟨rfl,nx,_,G9,hE7⟩ | exact ⟨rfl,nx.1,nx.2,_,G9,hE7⟩ | exact ⟨rfl,nx.1,nx.2,_,G9,fun h=>absurd rfl h,hE7⟩
  ·go_wp2_with fail
   refine (end_m 0 1 (by simp [av]) (hP _) rfl).mono ?_
   rintro o w7 ⟨rfl,nx,hE7⟩
   go_wp2_with fail
   go_ret
   first | exact ⟨rfl,nx,_,G9,fun h=>absurd rfl h,hE7⟩ | exact ⟨rfl,nx,_,G9,hE7⟩ | exact ⟨rfl,nx.1,nx.2,_,G9,hE7⟩ | exact ⟨rfl,nx.1,nx.2,_,G9,fun h=>absurd rfl h,hE7⟩
 ·obtain _ | C:=C
  ·omega
  ·go_wp2_with fail
   go_ret
   first | exact ⟨rfl,M.nx,_,⟨rfl,rfl⟩,G9,hP _⟩ | exact ⟨rfl,M.nx.1,M.nx.2,_,⟨rfl,rfl⟩,G9,hP _⟩
theorem method_born (k p:Nat) (w:World):(method (k+1) 26 (.pointer (some ⟨p,0,none⟩)) "Born").run Tryz.prog w=.ok (296,.pointer (some ⟨p,0,none⟩)) w:=by kernel_rfl
theorem birth_a (x y:Int) (t:List Trip) (hql:S.ql=(x,y,0)::t) (hx:1<=x/\x<=S.cs) (hcs:S.cs<=9223372036854775806) (hhs:S.hs=0) (he:0<=S.ce/\S.ce<=9223372036854775807) (hm:S.m < maxLen) (hz:Hid (M.nx.2=.int .i64 0)) (hE:Env w0 (boxI a (av S.c M)::LT S R) w) :
  Calls Tryz.prog 261 #[.pointer (some ⟨a,0,none⟩),.iface 26 (.pointer (some ⟨S.p,0,none⟩))] w fun u w'=>u=.returned (.int .i64 0)/\∃ g c G',(wordsA S.ck S.ce M.key M.val (IntKind.u64.wrap M.lv)).length<=c/\Env w0 (boxI a (av S.c { M with nx:=nxA a 11,s:=x,left:=.slice (some ⟨g,2,none⟩) ((wordsA S.ck S.ce M.key M.val (IntKind.u64.wrap M.lv)).length - 1) (c - 1) })::LT { S with ql:=t,hs:=x,G:=G',f:=upd S.f (5,x,0) S.ce,qc:={ S.qc with s:=wrap64 (S.qc.s+1) },m:=S.m+1 } (lieI g (flat2 (wordsA S.ck S.ce M.key M.val (IntKind.u64.wrap M.lv)))::R)) w':=by
 have hmf:=makeF
 have hmb:=method_born
 have r:=hE.rule 0 rfl
 unfold av at r
 have hQ:=hE.queue 2 rfl
 rw [hql] at hQ
 go_enter Tryz.func261,Tryz.ntmps261
 go_wp2_with fail
 refine (queue_c (hE.get 1 rfl)).mono ?_
 rintro o w1 ⟨rfl,rfl⟩
 go_wp2_with fail
 refine (head_any x y 0 hQ).mono ?_
 rintro o w2 ⟨rfl,hb⟩
 have hE1:=((hE.over hb).box w2.heap.size rfl [.int .i64 x,.int .i64 y,.int .i64 0] 130).perm (L':=boxI a (av S.c M)::LT S (boxI w2.heap.size [.int .i64 x,.int .i64 y,.int .i64 0]::R)) (List.perm_middle (l₁:=[boxI a (av S.c M),_,_,_,_])).symm
 clear r hb hQ hE
 simp only [tv]
 go_wp2_with fail
 generalize w2.alloc _=w3 at *
 generalize w2.heap.size=Y at *
 refine Ord.wp_chain [10] (fun v=>Blk 0 v Y [.int .i64 x,.int .i64 y,.int .i64 0]) (fun k w'=>Env w0 (boxI a (av S.c (if k=0 then M else { M with s:=x }))::LT S (boxI Y [.int .i64 x,.int .i64 y,.int .i64 0]::R)) w') (by kernel_rfl) (by kernel_rfl) (by kernel_rfl) (hE1.drew.get 5 rfl) hE1.drew (fun hT=>?_)
 have hT9:=Lib.hid hT
 clear hT
 repeat (first
  | (refine Ord.ch_value (v:=?_) hT9.out (by decide) (by rfl) ?_ ?_; rotate_left; (focus (intro w5 hS; have r:=hS.rule; go_simp<;>with_reducible rfl)); (try simp only [Act.put,zA,zZ,zS]))
  | (refine Ord.ch_off hT9.out (by decide) (by rfl) ?_; (try simp only [Act.put,zA,zZ,zS]))
  | (refine Ord.ch_call (v:=?_) (f:=?_) (args:=?_) hT9.out (by decide) (by rfl) ?_ ?_ ?_; rotate_left 3; (focus (intro w5 hS; have r:=hS.rule; go_simp; constructor<;>with_reducible rfl)); (focus (intro w5 hS; (first | (with_reducible refine (born_w _ _ _).mono ?_; rintro e w6 ⟨rfl,rfl⟩; constructor; with_reducible rfl; exact ⟨hS,fun k h=>h⟩)))); (try simp only [Act.put,zA,zZ,zS])))
 refine Ord.ch_turn (v:=undef) 0 hT9.out rfl (by decide) (Or.inl rfl) (by rfl) ?_ ?_
 ·rintro w5 hC5 hA5
  simp only [if_true] at hA5
  have r:=hA5.rule 0 rfl
  unfold av at r
  have f6:=hA5.thaw 0 rfl 16 (by simp [av])
  have f7:=hA5.thaw 0 rfl 17 (by simp [av])
  go_simp
  have h9:=(hA5.put 0 rfl (j:=16) (by simp [av]) (.int .i64 x)).put 0 rfl (j:=17) (by simp [av]) (.int .i64 0)
  replace h9:Env w0 (boxI a (av S.c { M with s:=x })::LT S (boxI Y [.int .i64 x,.int .i64 y,.int .i64 0]::R)) _:=h9
  exact ⟨rfl,h9.get 5 rfl,h9⟩
 (try simp only [Act.put,zA,zZ,zS])
 repeat (first
  | (refine Ord.ch_value (v:=?_) hT9.out (by decide) (by rfl) ?_ ?_; rotate_left; (focus (intro w5 hS; skip; go_simp<;>with_reducible rfl)); (try simp only [Act.put,zA,zZ,zS]))
  | (refine Ord.ch_off hT9.out (by decide) (by rfl) ?_; (try simp only [Act.put,zA,zZ,zS])))
 refine Ord.InText.nil fun w5 hS=>?_
 clear hT9
 obtain ⟨hC9,hA9⟩:=Ord.chain_end hS
 clear hS
 simp only [List.length_cons,List.length_nil,Nat.zero_add,Nat.one_ne_zero,if_false] at hA9
 clear hC9 hE1
 replace hA9:=hA9.sub (L':=boxI a (av S.c { M with s:=x })::LT S R) (.cons_cons _ (.cons_cons _ (.cons_cons _ (.cons_cons _ (.cons_cons _ (.cons _ (List.Sublist.refl _)))))))
 have hQ:=hA9.queue 2 rfl
 rw [hql] at hQ
 go_wp2_with fail
 refine (pop_any x y 0 hQ).mono ?_
 rintro o w6 ⟨rfl,hQ6,hs6⟩
 have hE6:Env w0 (boxI a (av S.c { M with s:=x })::LT { S with ql:=t } R) w6:=hA9.turnQ 2 rfl hQ6 hs6
 clear hQ hQ6 hs6 hA9
 go_wp2_with fail
 refine Ord.wp_chain [9] (fun v=>Blk 0 v a (av S.c { M with s:=x })) (fun k w'=>Env w0 (boxI a (av S.c { M with s:=x })::LT (if k=0 then { S with ql:=t } else { S with ql:=t,hs:=x }) R) w') (by kernel_rfl) (by kernel_rfl) (by kernel_rfl) (hE6.drew.get 0 rfl) hE6.drew (fun hT=>?_)
 have hT9:=Lib.hid hT
 clear hT
 repeat (first
  | (refine Ord.ch_value (v:=?_) hT9.out (by decide) (by rfl) ?_ ?_; rotate_left; (focus (intro w5 hS; have r:=hS.rule; unfold av at r; go_simp<;>with_reducible rfl)); (try simp only [Act.put,zA,zZ,zS]))
  | (refine Ord.ch_off hT9.out (by decide) (by rfl) ?_; (try simp only [Act.put,zA,zZ,zS]))
  | (refine Ord.ch_call (v:=?_) (f:=?_) (args:=?_) hT9.out (by decide) (by rfl) ?_ ?_ ?_; rotate_left 3; (focus (intro w5 hS; have r:=hS.rule; unfold av at r; go_simp; constructor<;>with_reducible rfl)); (focus (intro w5 hS; (first | fail))); (try simp only [Act.put,zA,zZ,zS])))
 refine Ord.ch_turn (v:=.int .i64 0) 0 hT9.out rfl (by decide) (Or.inl rfl) (by rfl) ?_ ?_
 ·rintro w5 hC5 hA5
  simp only [if_true] at hA5
  go_simp
  simp only [Ord.LandsIn]
  refine (holdYes_c x 0 hhs hx 1 hA5 rfl).mono ?_
  rintro e w6 ⟨rfl,hE7⟩
  exact ⟨rfl,hE7.get 0 rfl,hE7⟩
 (try simp only [Act.put,zA,zZ,zS])
 repeat (first
  | (refine Ord.ch_value (v:=?_) hT9.out (by decide) (by rfl) ?_ ?_; rotate_left; (focus (intro w5 hS; skip; go_simp<;>with_reducible rfl)); (try simp only [Act.put,zA,zZ,zS]))
  | (refine Ord.ch_off hT9.out (by decide) (by rfl) ?_; (try simp only [Act.put,zA,zZ,zS])))
 refine Ord.InText.nil fun w5 hS=>?_
 clear hT9
 obtain ⟨hC9,hA9⟩:=Ord.chain_end hS
 clear hS
 simp only [List.length_cons,List.length_nil,Nat.zero_add,Nat.one_ne_zero,if_false] at hA9
 clear hC9 hE6
 have r:=hA9.rule 0 rfl
 unfold av at r
 go_wp2_with fail
 refine (words_a (S:={ S with ql:=t,hs:=x }) (M:={ M with s:=x }) he hA9).mono ?_
 rintro o w7 ⟨g,c,rfl,hgc,hE7⟩
 replace hE7:=hE7.perm (L':=boxI a (av S.c { M with s:=x })::LT { S with ql:=t,hs:=x } (lieI g (flat2 (wordsA S.ck S.ce M.key M.val (IntKind.u64.wrap M.lv)))::R)) (List.perm_middle (l₁:=[boxI a (av S.c { M with s:=x }),_,_,_,_])).symm
 clear r hA9
 have hle:3<=(wordsA S.ck S.ce M.key M.val (IntKind.u64.wrap M.lv)).length:=by unfold wordsA; simp
 have h0:(flat2 (wordsA S.ck S.ce M.key M.val (IntKind.u64.wrap M.lv)))[0]?=some (.int .i64 0):=by simp [wordsA,flat2]
 have h1:(flat2 (wordsA S.ck S.ce M.key M.val (IntKind.u64.wrap M.lv)))[0+1]?=some (.int .u64 S.ce):=by simp [wordsA,flat2]
 generalize hWW:wordsA S.ck S.ce M.key M.val (IntKind.u64.wrap M.lv)=W at *
 have HWW:=Lib.hid hWW
 clear hWW
 obtain ⟨N,hN⟩:∃ N,W.length=N+1:=⟨W.length - 1,by omega⟩
 have HN:=Lib.hid hN
 rw [hN] at hgc hle ⊢
 simp only [hN]
 have hN0:N≠0:=by omega
 clear hN hle
 have r:=hE7.rule 0 rfl
 unfold av at r
 have f6:=hE7.thaw 0 rfl 18 (by simp [av])
 have h7:=hE7.put 0 rfl (j:=18) (by simp [av]) (.slice (some ⟨g,0,none⟩) (N+1) c)
 have hgo:=goOn_m (fn:=.func 273) (fs:=#[.pointer (some ⟨a,0,none⟩)]) (cs:=#[]) 0 (by simp [av]) (by exact congrArg some hz.out) h7 rfl
 have HGO:=Lib.hid hgo
 clear hgo h7
 go_wp2_with fail
 refine HGO.out.mono ?_
 rintro o w9 ⟨rfl,h8⟩
 replace h8:Env w0 (boxI a (av S.c { M with nx:=nxA a 11,s:=x,left:=.slice (some ⟨g,0,none⟩) (N+1) c })::LT { S with ql:=t,hs:=x } (lieI g (flat2 W)::R)) _:=h8
 clear HGO f6 r hE7
 have hst:=store_a (S:={ S with ql:=t,hs:=x }) (M:={ M with nx:=nxA a 11,s:=x,left:=.slice (some ⟨g,0,none⟩) (N+1) c }) g 0 N c 0 S.ce hgc (by unfold In64; omega) (by unfold InU; omega) (by unfold In64; dsimp only; omega) hm rfl h0 h1 h8
 have HST:=Lib.hid hst
 clear hst h8 he hx hcs
 go_wp2_with fail
 refine HST.out.mono ?_
 rintro o w8 ⟨rfl,nx,left,G',hnl,hE8⟩
 obtain ⟨rfl,rfl⟩:=hnl hN0
 rw [if_neg hN0]
 go_wp2_with fail
 go_ret
 rw [HWW.out,HN.out]
 exact ⟨rfl,g,c,G',hgc,hE8⟩
end
theorem enters_fn (pc:Nat) (ar:Array Value) (v:World):(callFunc (fnA pc) ar).run Tryz.prog v=.ok (.enter (fnA pc) ar) v:=by
 unfold fnA
 repeat' split
 all_goals kernel_rfl
section
variable {w0 w:World} {R:List Item} {a:Nat} {S:ST} {M:MA}
theorem step_a (pc:Nat) (u:Value) (Q:Ending->World->Prop) (hE:Env w0 (boxI a (av S.c M)::LT S R) w) (hnx:M.nx=nxA a pc)
  (hc:Calls Tryz.prog (fnA pc) #[.pointer (some ⟨a,0,none⟩),u] w fun e w'=>∃ s,e=.returned (.int .i64 s)/\Q (.returned (.int .i64 s)) w') :
  Calls Tryz.prog 228 #[.pointer (some ⟨a,0,none⟩),u] w Q:=by
 have hn:w.cell? ⟨a,1,none⟩=some (.func (.func (fnA pc)) #[.pointer (some ⟨a,0,none⟩)] #[]):=by
  have:=hE.rule 0 rfl 1
  rw [this,show (av S.c M)[1]?=some M.nx.1 from rfl,hnx]
  rfl
 have hs0:w.cell? ⟨a,1+1,none⟩=some (.int .i64 0):=by
  have:=hE.rule 0 rfl 2
  rw [this,show (av S.c M)[2]?=some M.nx.2 from rfl,hnx]
  rfl
 have hst:=stepMv_r (o:=1) (fnA pc) (enters_fn pc) (.pointer (some ⟨a,0,none⟩)) u (fun o w'=>∃ s,o=.returned (.int .i64 s)/\Q (.returned (.int .i64 s)) w') hn hs0 (hc.mono fun e w' ⟨s,he,hq⟩=>⟨s,he,s,rfl,hq⟩)
 have HST:=Lib.hid hst
 clear hst hc
 go_enter Tryz.func228,Tryz.ntmps228
 go_wp2_with fail
 refine HST.out.mono ?_
 rintro o w1 ⟨s,rfl,hQ⟩
 go_wp2_with fail
 exact hQ
theorem step_ay {st:Int} {Y:World->Prop} (pc:Nat) (u:Value) (hE:Env w0 (boxI a (av S.c M)::LT S R) w) (hnx:M.nx=nxA a pc)
  (hc:Calls Tryz.prog (fnA pc) #[.pointer (some ⟨a,0,none⟩),u] w fun o w'=>o=.returned (.int .i64 st)/\Y w') :
  Calls Tryz.prog 228 #[.pointer (some ⟨a,0,none⟩),u] w fun o w'=>o=.returned (.int .i64 st)/\Y w' :=
 step_a pc u _ hE hnx (hc.mono fun _ _ h=>⟨st,h.1,rfl,h.2⟩)
theorem new_a (k key val lv:Int) (hh:S.hs=0) (hE:Env w0 (LT S R) w) :
  Calls Tryz.prog 226 #[.pointer (some ⟨S.c,0,none⟩),.agg #[.int .i64 k,.int .u64 key,.int .u64 val,.int .i64 lv]] w fun o w'=>(decP S.ql S.ce S.cl=0/\o=.returned (.tuple #[.pointer none,.int .i64 4])/\Env w0 (LT S R) w')\/(decP S.ql S.ce S.cl≠0/\∃ a,o=.returned (.tuple #[.pointer (some ⟨a,0,none⟩),.int .i64 0])/\Env w0 (boxI a (av S.c { nx:=nxA a (decP S.ql S.ce S.cl),left:=.slice none 0 0,k:=k,key:=key,val:=val,lv:=lv,h:=0,n:=0,r:=0,s:=0 })::LT S R) w'):=by
 have hE1:=hE.box w.heap.size rfl [.int .i64 k,.int .u64 key,.int .u64 val,.int .i64 lv] 51
 have hb:(S.hs != 0)=false:=by simpa using hh
 clear hE
 go_enter Tryz.func226,Tryz.ntmps226
 go_wp2_with fail
 refine (held_c (hE1.get 1 rfl)).mono ?_
 rintro o w1 ⟨rfl,hb1⟩
 rw [hb]
 have hE2:=(hE1.over hb1).more (.cells [.int .i64 0,.int .i64 0].toArray 61)
 clear hb1 hE1
 have r0:=hE2.rule 0 rfl
 go_wp2_with fail
 have hE3:=(hE2.box (w1.heap.size+1) (by simp) (av S.c { nx:=(.nilFunc,.int .i64 0),left:=.slice none 0 0,k:=k,key:=key,val:=val,lv:=lv,h:=0,n:=0,r:=0,s:=0 }) 310).sub (L':=boxI (w1.heap.size+1) (av S.c { nx:=(.nilFunc,.int .i64 0),left:=.slice none 0 0,k:=k,key:=key,val:=val,lv:=lv,h:=0,n:=0,r:=0,s:=0 })::LT S R) (.cons_cons _ (.cons _ (List.Sublist.refl _)))
 refine (decide_a (Lib.hid rfl) hE3).mono ?_
 rintro o w2 ⟨rfl,nx,hnx,hE4⟩
 clear r0 hE2 hE3
 by_cases hd:decP S.ql S.ce S.cl=0
 ·have hds:decS S.ql S.ce S.cl=4:=by unfold decS; rw [if_pos hd]
  rw [hds]
  have HD:=Lib.hid hd
  clear hd hds hnx
  go_wp2_with fail
  go_ret2
  exact .inl ⟨HD.out,rfl,hE4.sub (.cons _ (List.Sublist.refl _))⟩
 ·have hds:decS S.ql S.ce S.cl=0:=by unfold decS; rw [if_neg hd]
  rw [hds]
  have HD:=Lib.hid hd
  have HNX:=Lib.hid (hnx hd)
  clear hd hds hnx
  go_wp2_with fail
  go_ret2
  rw [HNX.out] at hE4
  exact .inr ⟨HD.out,_,rfl,hE4⟩
end
def SP (C:Cf) (X:Tm) (V:Wm) (T:Th) (f:Plc->Int) (G:Nat->Prop) (qc:Cnt) (n:Nat):ST:={ c:=X.c,q:=X.q,p:=V.p,cc:=V.cc,ck:=C.k,cs:=C.s,cb:=C.b,ch:=C.h,cl:=C.l,ce:=T.e,cr:=X.cr,hs:=T.hs,F:=X.F,ql:=T.ql,kq:=X.kq,G:=G,f:=f,qc:=qc,m:=n }
def WD (C:Cf) (d:Dd) (T:Th):List (Int × Int):=wordsA C.k T.e d.key d.val (IntKind.u64.wrap d.lv)
def maD (a:Nat) (d:Dd) (T:Th) (left:Value) (s:Int):MA:={ nx:=nxA a T.apc,left:=left,k:=d.ok,key:=d.key,val:=d.val,lv:=d.lv,h:=T.ah,n:=T.an,r:=T.ar,s:=s }
def avD (c a:Nat) (d:Dd) (T:Th) (left:Value) (s:Int):List Value:=av c (maD a d T left s)
def LeftIs (C:Cf) (d:Dd) (T:Th) (left:Value) (s:Int) (gl:List Item):Prop :=
 if T.apc<=10 then gl=[] else ∃ g c9 N,gl=[lieI g (flat2 (WD C d T))]/\s=T.hs/\left=.slice (some ⟨g,2 * (T.apc - 10),none⟩) (N+1) c9/\N+1<=c9/\(WD C d T).length=(T.apc - 10)+(N+1)
structure RowOk (C:Cf) (T:Th) (n:Nat):Prop where
 (he:0<=T.e/\T.e<=9223372036854775807)
 (hn:n < maxLen)
 (hl:T.ql.length+1<=1000000)
 (hs:0<=C.s/\C.s<=9223372036854775806)
 (hw:InU T.ah/\InU T.an/\InU T.ar)
 (apc:T.apc=1\/T.apc=2\/T.apc=3\/T.apc=4\/T.apc=5\/T.apc=6\/10<=T.apc)
 (born:T.apc=10->T.hs=0/\∃ x y t,T.ql=(x,y,0)::t/\1<=x/\x<=C.s)
 (hh:In64 T.hs)
theorem flat2_at (l:List (Int × Int)) (k:Nat) {a b:Int} (h:l[k]?=some (a,b)):(flat2 l)[2 * k]?=some (.int .i64 a)/\(flat2 l)[2 * k+1]?=some (.int .u64 b):=by
 induction l generalizing k with
 | nil=>simp at h
 | cons p r ih =>
  cases k with
  | zero =>
   simp at h
   subst h
   simp [flat2]
  | succ k =>
   have h':r[k]?=some (a,b):=by simpa using h
   have:=ih k h'
   have e1:2 * (k+1)=2 * k+1+1:=by omega
   rw [e1]
   simpa [flat2] using this
theorem WD_in {C:Cf} {d:Dd} {T:Th} (he:0<=T.e/\T.e<=9223372036854775807) (hd:InU d.key/\InU d.val) {k:Nat} {a b:Int} (h:(WD C d T)[k]?=some (a,b)):In64 a/\InU b:=by
 have hm:(a,b)∈WD C d T:=List.mem_of_getElem? h
 have hw:InU (IntKind.u64.wrap d.lv):=by rw [IntKind.wrap_u64]; unfold InU; omega
 unfold WD wordsA at hm
 have h0:InU 0:=by unfold InU; omega
 have h1:InU T.e:=by unfold InU; omega
 split at hm
 ·simp at hm
  rcases hm with ⟨rfl,rfl⟩ | ⟨rfl,rfl⟩ | ⟨rfl,rfl⟩ | ⟨rfl,rfl⟩<;>exact ⟨by unfold In64; omega,by first | exact h1 | exact h0 | exact hd.1 | exact hd.2⟩
 ·split at hm
  ·simp at hm
   rcases hm with ⟨rfl,rfl⟩ | ⟨rfl,rfl⟩ | ⟨rfl,rfl⟩ | ⟨rfl,rfl⟩ | ⟨rfl,rfl⟩<;>exact ⟨by unfold In64; omega,by first | exact h1 | exact h0 | exact hd.1 | exact hw⟩
  ·simp at hm
   rcases hm with ⟨rfl,rfl⟩ | ⟨rfl,rfl⟩ | ⟨rfl,rfl⟩<;>exact ⟨by unfold In64; omega,by first | exact h1 | exact h0 | exact hd.1⟩
theorem decP_in (ql:List Trip) (e l:Int):decP ql e l=0\/decP ql e l=1\/decP ql e l=2\/decP ql e l=10:=by
 rcases ql with _ | ⟨⟨x,y,z⟩,t⟩
 ·exact .inr (.inr (.inl rfl))
 ·simp only [decP]
  split
  ·simp
  ·split<;>simp
theorem fnA_store {pc:Nat} (h:11<=pc):fnA pc=273:=by
 unfold fnA
 rw [if_neg (by omega),if_neg (by omega),if_neg (by omega),if_neg (by omega),if_neg (by omega),if_neg (by omega),if_neg (by omega)]
theorem LeftIs.low {C:Cf} {d:Dd} {T:Th} (h:T.apc<=10):LeftIs C d T (.slice none 0 0) 0 []:=by unfold LeftIs; rw [if_pos h]
theorem LeftIs.of {C:Cf} {d:Dd} {T:Th} {left:Value} {s:Int} (h:T.apc<=10):LeftIs C d T left s []:=by unfold LeftIs; rw [if_pos h]
theorem WD_len (C:Cf) (d:Dd) (T:Th):3<=(WD C d T).length/\(WD C d T).length<=5:=by
 unfold WD
 rw [wordsA_len]
 split
 ·omega
 ·split<;>omega
section
variable {w0 w:World} {R:List Item} {C:Cf} {d:Dd} {X:Tm} {V:Wm} {T:Th} {f:Plc->Int} {G:Nat->Prop} {qc:Cnt} {n a:Nat} {left:Value} {s:Int} {gl:List Item}
theorem alPx (hg:Glo w0) (hk:RowOk C T n) (hd:InU d.key/\InU d.val) (hlf:LeftIs C d T left s gl) (hE:Env w0 (boxI a (avD X.c a d T left s)::LT (SP C X V T f G qc n) (gl++R)) w) :
  Calls Tryz.prog 228 #[.pointer (some ⟨a,0,none⟩),.iface 26 (.pointer (some ⟨V.p,0,none⟩))] w fun o w'=>o=.returned (.int .i64 (allocM C d T f).1)/\∃ (F':Nat->Prop) (k':Nat) (G':Nat->Prop) (qc':Cnt) (n':Nat),Nx n qc n' qc'/\(((allocM C d T f).1=0/\∃ left' s' gl',LeftIs C d (allocM C d T f).2.1 left' s' gl'/\Env w0 (boxI a (avD X.c a d (allocM C d T f).2.1 left' s')::LT (SP C { X with F:=F',kq:=k' } V (allocM C d T f).2.1 (allocM C d T f).2.2 G' qc' n') (gl'++R)) w')\/((allocM C d T f).1≠0/\Env w0 (LT (SP C { X with F:=F',kq:=k' } V (allocM C d T f).2.1 (allocM C d T f).2.2 G' qc' n') R) w')):=by
 have drop:∀ {S:ST} {y:Item} {w':World},Env w0 (y::LT S R) w'->Env w0 (LT S R) w':=fun h=>h.sub (.cons _ (List.Sublist.refl _))
 have hfu:∀ x,InU (f x):=fun x=>(hE.cell 4 rfl).words.1 x
 rcases hk.apc with h1 | h1 | h1 | h1 | h1 | h1 | h1
 ·have hgl:gl=[]:=by unfold LeftIs at hlf; rw [if_pos (by omega)] at hlf; exact hlf
  subst hgl
  have hal:allocM C d T f=(2,T,swf f (1,0,0) T.e (T.e+1)):=by unfold allocM; rw [if_pos h1]
  rw [hal]
  refine (step_ay (S:=SP C X V T f G qc n) (M:=maD a d T left s) 1 _ hE (by simp [maD,h1]) (advance_a (S:=SP C X V T f G qc n) (M:=maD a d T left s) hk.he hk.hn hE)).mono ?_
  rintro o w1 ⟨rfl,nx,G',hE1⟩
  exact ⟨rfl,X.F,X.kq,G',_,n+1,⟨Nat.le_refl _,(by first | exact Or.inl ⟨rfl,rfl,rfl,rfl⟩ | exact Or.inr (Or.inl ⟨rfl,rfl,rfl,rfl⟩) | exact Or.inr (Or.inr (Or.inl ⟨rfl,rfl,rfl,rfl⟩)) | exact Or.inr (Or.inr (Or.inr ⟨rfl,rfl,rfl,rfl⟩)))⟩,.inr ⟨show (2:Int)≠0 by decide,drop hE1⟩⟩
 ·have hgl:gl=[]:=by unfold LeftIs at hlf; rw [if_pos (by omega)] at hlf; exact hlf
  subst hgl
  by_cases hx:C.s<=f (3,0,0)
  ·have hal:allocM C d T f=(0,{ T with apc:=3 },upd f (3,0,0) (IntKind.u64.wrap (f (3,0,0)+1))):=by unfold allocM; rw [if_neg (by omega),if_pos h1,if_pos hx]
   rw [hal]
   refine (step_ay (S:=SP C X V T f G qc n) (M:=maD a d T left s) 2 _ hE (by simp [maD,h1]) (freshNo_a (S:=SP C X V T f G qc n) (M:=maD a d T left s) _ rfl (hfu _).1 hx hk.hs hk.hn (Lib.hid rfl) hE)).mono ?_
   rintro o w1 ⟨rfl,G',hE1⟩
   exact ⟨rfl,X.F,X.kq,G',_,n+1,⟨Nat.le_refl _,(by first | exact Or.inl ⟨rfl,rfl,rfl,rfl⟩ | exact Or.inr (Or.inl ⟨rfl,rfl,rfl,rfl⟩) | exact Or.inr (Or.inr (Or.inl ⟨rfl,rfl,rfl,rfl⟩)) | exact Or.inr (Or.inr (Or.inr ⟨rfl,rfl,rfl,rfl⟩)))⟩,.inl ⟨rfl,left,s,[],.of (show (3:Nat)<=10 by decide),hE1⟩⟩
  ·have hal:allocM C d T f=(decS (T.ql++[(f (3,0,0)+1,0,0)]) T.e C.l,{ T with ql:=T.ql++[(f (3,0,0)+1,0,0)],apc:=decP (T.ql++[(f (3,0,0)+1,0,0)]) T.e C.l },upd f (3,0,0) (IntKind.u64.wrap (f (3,0,0)+1))):=by unfold allocM; rw [if_neg (by omega),if_pos h1,if_neg hx]
   rw [hal]
   refine (step_ay (S:=SP C X V T f G qc n) (M:=maD a d T left s) 2 _ hE (by simp [maD,h1]) (freshYes_a (S:=SP C X V T f G qc n) (M:=maD a d T left s) _ rfl (Nat.le_trans hk.hl (by decide)) (hfu _).1 (show f (3,0,0) < C.s by omega) hk.hs.2 hk.hn (Lib.hid rfl) hE)).mono ?_
   rintro o w1 ⟨rfl,nx,k',F',G',hnx,-,hE1⟩
   have hin:=decP_in (T.ql++[(f (3,0,0)+1,0,0)]) T.e C.l
   by_cases hz:decP (T.ql++[(f (3,0,0)+1,0,0)]) T.e C.l=0
   ·exact ⟨rfl,F',k',G',_,n+1,⟨Nat.le_refl _,(by first | exact Or.inl ⟨rfl,rfl,rfl,rfl⟩ | exact Or.inr (Or.inl ⟨rfl,rfl,rfl,rfl⟩) | exact Or.inr (Or.inr (Or.inl ⟨rfl,rfl,rfl,rfl⟩)) | exact Or.inr (Or.inr (Or.inr ⟨rfl,rfl,rfl,rfl⟩)))⟩,.inr ⟨show decS (T.ql++[(f (3,0,0)+1,0,0)]) T.e C.l≠0 by unfold decS; rw [if_pos hz]; decide,drop hE1⟩⟩
   ·have hnx:=hnx hz
    subst hnx
    exact ⟨rfl,F',k',G',_,n+1,⟨Nat.le_refl _,(by first | exact Or.inl ⟨rfl,rfl,rfl,rfl⟩ | exact Or.inr (Or.inl ⟨rfl,rfl,rfl,rfl⟩) | exact Or.inr (Or.inr (Or.inl ⟨rfl,rfl,rfl,rfl⟩)) | exact Or.inr (Or.inr (Or.inr ⟨rfl,rfl,rfl,rfl⟩)))⟩,.inl ⟨show decS (T.ql++[(f (3,0,0)+1,0,0)]) T.e C.l=0 by unfold decS; rw [if_neg hz],left,s,[],.of (show decP (T.ql++[(f (3,0,0)+1,0,0)]) T.e C.l<=10 by omega),hE1⟩⟩
 ·have hgl:gl=[]:=by unfold LeftIs at hlf; rw [if_pos (by omega)] at hlf; exact hlf
  subst hgl
  have hal:allocM C d T f=(poolS (f (2,0,0)) C.l,{ T with ah:=f (2,0,0),apc:=4 },f):=by unfold allocM; rw [if_neg (by omega),if_neg (by omega),if_pos h1]
  rw [hal]
  refine (step_ay (S:=SP C X V T f G qc n) (M:=maD a d T left s) 3 _ hE (by simp [maD,h1]) (loadPool_a (S:=SP C X V T f G qc n) (M:=maD a d T left s) _ rfl hg (Lib.hid rfl) hE)).mono ?_
  rintro o w1 ⟨rfl,nx,hnx,hE1⟩
  by_cases hz:poolS (f (2,0,0)) C.l=0
  ·have hnx:=hnx hz
   subst hnx
   exact ⟨rfl,X.F,X.kq,G,_,n,⟨by omega,(by first | exact Or.inl ⟨rfl,rfl,rfl,rfl⟩ | exact Or.inr (Or.inl ⟨rfl,rfl,rfl,rfl⟩) | exact Or.inr (Or.inr (Or.inl ⟨rfl,rfl,rfl,rfl⟩)) | exact Or.inr (Or.inr (Or.inr ⟨rfl,rfl,rfl,rfl⟩)))⟩,.inl ⟨hz,left,s,[],.of (show (4:Nat)<=10 by decide),hE1⟩⟩
  ·exact ⟨rfl,X.F,X.kq,G,_,n,⟨by omega,(by first | exact Or.inl ⟨rfl,rfl,rfl,rfl⟩ | exact Or.inr (Or.inl ⟨rfl,rfl,rfl,rfl⟩) | exact Or.inr (Or.inr (Or.inl ⟨rfl,rfl,rfl,rfl⟩)) | exact Or.inr (Or.inr (Or.inr ⟨rfl,rfl,rfl,rfl⟩)))⟩,.inr ⟨hz,drop hE1⟩⟩
 ·have hgl:gl=[]:=by unfold LeftIs at hlf; rw [if_pos (by omega)] at hlf; exact hlf
  subst hgl
  have hal:allocM C d T f=(0,{ T with an:=f (5,slotI T.ah,2),apc:=5 },f):=by unfold allocM; rw [if_neg (by omega),if_neg (by omega),if_neg (by omega),if_pos h1]
  rw [hal]
  refine (step_ay (S:=SP C X V T f G qc n) (M:=maD a d T left s) 4 _ hE (by simp [maD,h1]) (loadChain_a (S:=SP C X V T f G qc n) (M:=maD a d T left s) _ rfl hk.hw.1 hg (Lib.hid rfl) hE)).mono ?_
  rintro o w1 ⟨rfl,hE1⟩
  exact ⟨rfl,X.F,X.kq,G,_,n,⟨by omega,(by first | exact Or.inl ⟨rfl,rfl,rfl,rfl⟩ | exact Or.inr (Or.inl ⟨rfl,rfl,rfl,rfl⟩) | exact Or.inr (Or.inr (Or.inl ⟨rfl,rfl,rfl,rfl⟩)) | exact Or.inr (Or.inr (Or.inr ⟨rfl,rfl,rfl,rfl⟩)))⟩,.inl ⟨rfl,left,s,[],.of (show (5:Nat)<=10 by decide),hE1⟩⟩
 ·have hgl:gl=[]:=by unfold LeftIs at hlf; rw [if_pos (by omega)] at hlf; exact hlf
  subst hgl
  have hal:allocM C d T f=(0,{ T with ar:=f (5,slotI T.ah,1),apc:=6 },f):=by unfold allocM; rw [if_neg (by omega),if_neg (by omega),if_neg (by omega),if_neg (by omega),if_pos h1]
  rw [hal]
  refine (step_ay (S:=SP C X V T f G qc n) (M:=maD a d T left s) 5 _ hE (by simp [maD,h1]) (loadRetired_a (S:=SP C X V T f G qc n) (M:=maD a d T left s) _ rfl hk.hw.1 hg (Lib.hid rfl) hE)).mono ?_
  rintro o w1 ⟨rfl,hE1⟩
  exact ⟨rfl,X.F,X.kq,G,_,n,⟨by omega,(by first | exact Or.inl ⟨rfl,rfl,rfl,rfl⟩ | exact Or.inr (Or.inl ⟨rfl,rfl,rfl,rfl⟩) | exact Or.inr (Or.inr (Or.inl ⟨rfl,rfl,rfl,rfl⟩)) | exact Or.inr (Or.inr (Or.inr ⟨rfl,rfl,rfl,rfl⟩)))⟩,.inl ⟨rfl,left,s,[],.of (show (6:Nat)<=10 by decide),hE1⟩⟩
 ·have hgl:gl=[]:=by unfold LeftIs at hlf; rw [if_pos (by omega)] at hlf; exact hlf
  subst hgl
  by_cases hx:f (2,0,0)=T.ah
  ·have hal:allocM C d T f=(decS (T.ql++[(slotI T.ah,epI T.ar,0)]) T.e C.l,{ T with ql:=T.ql++[(slotI T.ah,epI T.ar,0)],apc:=decP (T.ql++[(slotI T.ah,epI T.ar,0)]) T.e C.l },swf f (2,0,0) T.ah (nextW T.ah (slotI T.an))):=by unfold allocM; rw [if_neg (by omega),if_neg (by omega),if_neg (by omega),if_neg (by omega),if_neg (by omega),if_pos h1,if_pos hx]
   rw [hal]
   refine (step_ay (S:=SP C X V T f G qc n) (M:=maD a d T left s) 6 _ hE (by simp [maD,h1]) (takeYes_a (S:=SP C X V T f G qc n) (M:=maD a d T left s) hx hk.hw.2.2 (Nat.le_trans hk.hl (by decide)) hk.hw.1 hk.hw.2.1 hg hk.hn (Lib.hid rfl) hE)).mono ?_
   rintro o w1 ⟨rfl,nx,k',F',G',hnx,-,hE1⟩
   have hin:=decP_in (T.ql++[(slotI T.ah,epI T.ar,0)]) T.e C.l
   by_cases hz:decP (T.ql++[(slotI T.ah,epI T.ar,0)]) T.e C.l=0
   ·exact ⟨rfl,F',k',G',_,n+1,⟨Nat.le_refl _,(by first | exact Or.inl ⟨rfl,rfl,rfl,rfl⟩ | exact Or.inr (Or.inl ⟨rfl,rfl,rfl,rfl⟩) | exact Or.inr (Or.inr (Or.inl ⟨rfl,rfl,rfl,rfl⟩)) | exact Or.inr (Or.inr (Or.inr ⟨rfl,rfl,rfl,rfl⟩)))⟩,.inr ⟨show decS (T.ql++[(slotI T.ah,epI T.ar,0)]) T.e C.l≠0 by unfold decS; rw [if_pos hz]; decide,drop hE1⟩⟩
   ·have hnx:=hnx hz
    subst hnx
    exact ⟨rfl,F',k',G',_,n+1,⟨Nat.le_refl _,(by first | exact Or.inl ⟨rfl,rfl,rfl,rfl⟩ | exact Or.inr (Or.inl ⟨rfl,rfl,rfl,rfl⟩) | exact Or.inr (Or.inr (Or.inl ⟨rfl,rfl,rfl,rfl⟩)) | exact Or.inr (Or.inr (Or.inr ⟨rfl,rfl,rfl,rfl⟩)))⟩,.inl ⟨show decS (T.ql++[(slotI T.ah,epI T.ar,0)]) T.e C.l=0 by unfold decS; rw [if_neg hz],left,s,[],.of (show decP (T.ql++[(slotI T.ah,epI T.ar,0)]) T.e C.l<=10 by omega),hE1⟩⟩
  ·have hal:allocM C d T f=(0,{ T with apc:=3 },swf f (2,0,0) T.ah (nextW T.ah (slotI T.an))):=by unfold allocM; rw [if_neg (by omega),if_neg (by omega),if_neg (by omega),if_neg (by omega),if_neg (by omega),if_pos h1,if_neg hx]
   rw [hal]
   refine (step_ay (S:=SP C X V T f G qc n) (M:=maD a d T left s) 6 _ hE (by simp [maD,h1]) (takeNo_a (S:=SP C X V T f G qc n) (M:=maD a d T left s) _ rfl hx hk.hw.1 hk.hw.2.1 hg hk.hn (Lib.hid rfl) hE)).mono ?_
   rintro o w1 ⟨rfl,G',hE1⟩
   exact ⟨rfl,X.F,X.kq,G',_,n+1,⟨Nat.le_refl _,(by first | exact Or.inl ⟨rfl,rfl,rfl,rfl⟩ | exact Or.inr (Or.inl ⟨rfl,rfl,rfl,rfl⟩) | exact Or.inr (Or.inr (Or.inl ⟨rfl,rfl,rfl,rfl⟩)) | exact Or.inr (Or.inr (Or.inr ⟨rfl,rfl,rfl,rfl⟩)))⟩,.inl ⟨rfl,left,s,[],.of (show (3:Nat)<=10 by decide),hE1⟩⟩
 ·obtain ⟨hl3,hl5⟩:=WD_len C d T
  by_cases h10:T.apc=10
  ·have hgl:gl=[]:=by unfold LeftIs at hlf; rw [if_pos (by omega)] at hlf; exact hlf
   subst hgl
   obtain ⟨hhs,x,y,t,hql,hx1,hx2⟩:=hk.born h10
   have hal:allocM C d T f=(lastS 0 (WD C d T).length,{ T with ql:=t,hs:=x,apc:=11 },upd f (5,x,0) T.e):=by
    unfold allocM
    rw [if_neg (by omega),if_neg (by omega),if_neg (by omega),if_neg (by omega),if_neg (by omega),if_neg (by omega)]
    simp only [h10,hql,if_true,List.tail_cons,List.headD_cons]
    rfl
   have hls:lastS 0 (WD C d T).length=0:=by unfold lastS; rw [if_neg (by omega)]
   rw [hal,hls]
   refine (step_ay (S:=SP C X V T f G qc n) (M:=maD a d T left s) 10 _ hE (by simp [maD,h10]) (birth_a (S:=SP C X V T f G qc n) (M:=maD a d T left s) x y t hql ⟨hx1,hx2⟩ hk.hs.2 hhs hk.he hk.hn (Lib.hid rfl) hE)).mono ?_
   rintro o w1 ⟨rfl,g,c,G',hgc,hE1⟩
   obtain ⟨N,hN⟩:∃ N,(WD C d T).length=N+2:=⟨(WD C d T).length - 2,by omega⟩
   have hgc2:N+2<=c:=by rw [<- hN]; exact hgc
   have hli:LeftIs C d { T with ql:=t,hs:=x,apc:=11 } (.slice (some ⟨g,2,none⟩) ((WD C d T).length - 1) (c - 1)) x [lieI g (flat2 (WD C d T))]:=by
    unfold LeftIs
    rw [if_neg (show ¬ (11:Nat)<=10 by decide)]
    refine ⟨g,c - 1,N,rfl,rfl,?_,by omega,?_⟩
    ·rw [hN]
     rfl
    ·show (WD C d T).length=(11 - 10)+(N+1)
     omega
   exact ⟨rfl,X.F,X.kq,G',_,n+1,⟨Nat.le_refl _,(by first | exact Or.inl ⟨rfl,rfl,rfl,rfl⟩ | exact Or.inr (Or.inl ⟨rfl,rfl,rfl,rfl⟩) | exact Or.inr (Or.inr (Or.inl ⟨rfl,rfl,rfl,rfl⟩)) | exact Or.inr (Or.inr (Or.inr ⟨rfl,rfl,rfl,rfl⟩)))⟩,.inl ⟨rfl,_,x,_,hli,hE1⟩⟩
  ·have h11:11<=T.apc:=by omega
   unfold LeftIs at hlf
   rw [if_neg (by omega)] at hlf
   obtain ⟨g,c9,N,rfl,rfl,rfl,hc9,hlen⟩:=hlf
   obtain ⟨k,hk10⟩:∃ k,T.apc=10+k:=⟨T.apc - 10,by omega⟩
   have hkk:T.apc - 10=k:=by omega
   rw [hkk] at hlen hE
   obtain ⟨⟨part,word⟩,hpw⟩:∃ pw,(WD C d T)[k]?=some pw:=⟨_,List.getElem?_eq_getElem (by omega)⟩
   obtain ⟨hp64,hwu⟩:=WD_in hk.he hd hpw
   obtain ⟨hc0,hc1⟩:=flat2_at _ _ hpw
   have hal:allocM C d T f=(lastS k (WD C d T).length,{ T with apc:=T.apc+1 },upd f (5,T.hs,part) word):=by
    unfold allocM
    rw [if_neg (by omega),if_neg (by omega),if_neg (by omega),if_neg (by omega),if_neg (by omega),if_neg (by omega)]
    have hg:(wordsA C.k T.e d.key d.val (IntKind.u64.wrap d.lv)).getD k (0,0)=(part,word):=by
     have h9:(wordsA C.k T.e d.key d.val (IntKind.u64.wrap d.lv))[k]?=some (part,word):=hpw
     rw [List.getD_eq_getElem?_getD,h9]
     rfl
    simp only [hkk,hg]
    rw [if_neg (by omega)]
    rfl
   have hst:=store_a (S:=SP C X V T f G qc n) (M:={ nx:=nxA a T.apc,left:=.slice (some ⟨g,2 * k,none⟩) (N+1) c9,k:=d.ok,key:=d.key,val:=d.val,lv:=d.lv,h:=T.ah,n:=T.an,r:=T.ar,s:=T.hs }) g (2 * k) N c9 part word hc9 hp64 hwu hk.hh hk.hn rfl hc0 hc1 hE
   rw [<- fnA_store h11] at hst
   rw [hal]
   have hls:lastS k (WD C d T).length=if N=0 then 1 else 0:=by
    unfold lastS
    by_cases hN:N=0
    ·rw [if_pos hN,if_pos (by omega)]
    ·rw [if_neg hN,if_neg (by omega)]
   rw [hls]
   refine (step_ay (S:=SP C X V T f G qc n) T.apc _ hE rfl hst).mono ?_
   rintro o w1 ⟨rfl,nx,left,G',hnl,hE1⟩
   by_cases hN:N=0
   ·rw [if_pos hN]
    exact ⟨rfl,X.F,X.kq,G',_,n+1,⟨Nat.le_refl _,(by first | exact Or.inl ⟨rfl,rfl,rfl,rfl⟩ | exact Or.inr (Or.inl ⟨rfl,rfl,rfl,rfl⟩) | exact Or.inr (Or.inr (Or.inl ⟨rfl,rfl,rfl,rfl⟩)) | exact Or.inr (Or.inr (Or.inr ⟨rfl,rfl,rfl,rfl⟩)))⟩,.inr ⟨show (1:Int)≠0 by decide,hE1.sub (.cons _ (.cons_cons _ (.cons_cons _ (.cons_cons _ (.cons_cons _ (.cons _ (List.Sublist.refl _)))))))⟩⟩
   ·obtain ⟨rfl,rfl⟩:=hnl hN
    rw [if_neg hN]
    obtain ⟨M,rfl⟩:∃ M,N=M+1:=⟨N - 1,by omega⟩
    have hli:LeftIs C d { T with apc:=T.apc+1 } (.slice (some ⟨g,2 * k+2,none⟩) (M+1) (c9 - 1)) T.hs [lieI g (flat2 (WD C d T))]:=by
     unfold LeftIs
     rw [if_neg (show ¬ T.apc+1<=10 by omega)]
     refine ⟨g,c9 - 1,M,rfl,rfl,?_,by omega,?_⟩
     ·show _=Value.slice (some ⟨g,2 * (T.apc+1 - 10),none⟩) (M+1) (c9 - 1)
      rw [show 2 * (T.apc+1 - 10)=2 * k+2 by omega]
     ·show (WD C d T).length=(T.apc+1 - 10)+(M+1)
      omega
    have hnx:nxA a T.apc=nxA a (T.apc+1):=by
     unfold nxA
     rw [fnA_store h11,fnA_store (by omega)]
    have hE2:Env w0 (boxI a (avD X.c a d { T with apc:=T.apc+1 } (.slice (some ⟨g,2 * k+2,none⟩) (M+1) (c9 - 1)) T.hs)::LT (SP C X V { T with apc:=T.apc+1 } (upd f (5,T.hs,part) word) G' { qc with s:=wrap64 (qc.s+1) } (n+1)) ([lieI g (flat2 (WD C d T))]++R)) w1:=by
     unfold avD maD
     rw [<- hnx]
     exact hE1
    exact ⟨rfl,X.F,X.kq,G',_,n+1,⟨Nat.le_refl _,(by first | exact Or.inl ⟨rfl,rfl,rfl,rfl⟩ | exact Or.inr (Or.inl ⟨rfl,rfl,rfl,rfl⟩) | exact Or.inr (Or.inr (Or.inl ⟨rfl,rfl,rfl,rfl⟩)) | exact Or.inr (Or.inr (Or.inr ⟨rfl,rfl,rfl,rfl⟩)))⟩,.inl ⟨rfl,_,T.hs,_,hli,hE2⟩⟩
end
end Go.Proofs.YthcblagpbkaoaaaGreatDoor
namespace Go.Proofs.YthcblagpbkaoaaaGreatDoor
open Go.RowKit Go.Maps Go.Shelf Go.Sort
set_option maxRecDepth 100000
set_option maxHeartbeats 25600000
attribute [local go_sem] Oper.semAt_some
end Go.Proofs.YthcblagpbkaoaaaGreatDoor
namespace Go.Proofs.YthcblagpbkaoaaaGreatDoor
open Go.RowKit Go.Maps
set_option maxRecDepth 100000
set_option maxHeartbeats 25600000
def bv (t:Cnt):List Value:=[.int .i64 t.l,.int .i64 t.s,.int .i64 t.w,.int .i64 t.f,.int .i64 t.a]
theorem perm_of {L L':List Item} (h:∀ [BEq Item] [LawfulBEq Item] (z:Item),L.count z=L'.count z):L.Perm L':=by
 classical
 exact List.perm_iff_count.2 fun z=>h z
theorem allocM_keep (C:Cf) (d:Dd) (T:Th) (f:Mem):(allocM C d T f).2.1.e=T.e/\(allocM C d T f).2.1.nd=T.nd/\(allocM C d T f).2.1.pc=T.pc/\(allocM C d T f).2.1.rs=T.rs/\(allocM C d T f).2.1.rpc=T.rpc/\(allocM C d T f).2.1.re=T.re/\(allocM C d T f).2.1.gpc=T.gpc/\(allocM C d T f).2.1.gh=T.gh/\(allocM C d T f).2.1.gg=T.gg/\(allocM C d T f).2.1.done=T.done/\(allocM C d T f).2.1.full=T.full:=by
 unfold allocM
 repeat' split
 all_goals exact ⟨rfl,rfl,rfl,rfl,rfl,rfl,rfl,rfl,rfl,rfl,rfl⟩
theorem allocM_state (C:Cf) (d:Dd) (T:Th) (f:Mem):(allocM C d T f).1=0\/(allocM C d T f).1=1\/(allocM C d T f).1=2\/(allocM C d T f).1=3\/(allocM C d T f).1=4:=by
 unfold allocM decS poolS lastS
 repeat' split
 all_goals first | exact .inl rfl | exact .inr (.inl rfl) | exact .inr (.inr (.inl rfl)) | exact .inr (.inr (.inr (.inl rfl))) | exact .inr (.inr (.inr (.inr rfl))) | (dsimp only; repeat' split)<;>simp
section
variable {w0 w:World} {R:List Item} {C:Cf} {d:Dd} {X:Tm} {V:Wm} {T:Th} {f:Plc->Int} {G FU:Nat->Prop} {qc:Cnt} {n r b:Nat} {ml:List OneR}
theorem rePx (hn:n < maxLen) (hl:T.ql.length+1<=1000000) (he:InU T.re) (hs:In64 T.rs) (hE:Env w0 (boxI r (rtv X.c (nxR r T.rpc) T.rs T.re)::LT (SP C X V T f G qc n) R) w) :
  Calls Tryz.prog 203 #[.pointer (some ⟨r,0,none⟩),.iface 26 (.pointer (some ⟨V.p,0,none⟩))] w fun o w'=>o=.returned (.int .i64 (retireM T f).1)/\∃ (F':Nat->Prop) (k':Nat) (G':Nat->Prop) (qc':Cnt) (n':Nat),Nx n qc n' qc'/\(((retireM T f).1=0/\Env w0 (boxI r (rtv X.c (nxR r (retireM T f).2.1.rpc) (retireM T f).2.1.rs (retireM T f).2.1.re)::LT (SP C { X with F:=F',kq:=k' } V (retireM T f).2.1 (retireM T f).2.2 G' qc' n') R) w')\/((retireM T f).1≠0/\Env w0 (LT (SP C { X with F:=F',kq:=k' } V (retireM T f).2.1 (retireM T f).2.2 G' qc' n') R) w')):=by
 by_cases h0:T.rpc=0
 ·have hal:retireM T f=(0,{ T with re:=f (1,0,0),rpc:=1 },f):=by unfold retireM; rw [if_pos h0]
  rw [hal]
  rw [h0] at hE
  refine (step_ry (S:=SP C X V T f G qc n) 0 _ hE rfl (loadEpoch_r (S:=SP C X V T f G qc n) _ rfl (Lib.hid rfl) hE)).mono ?_
  rintro o w1 ⟨rfl,hE1⟩
  exact ⟨rfl,X.F,X.kq,G,_,n,⟨by omega,(by first | exact Or.inl ⟨rfl,rfl,rfl,rfl⟩ | exact Or.inr (Or.inl ⟨rfl,rfl,rfl,rfl⟩) | exact Or.inr (Or.inr (Or.inl ⟨rfl,rfl,rfl,rfl⟩)) | exact Or.inr (Or.inr (Or.inr ⟨rfl,rfl,rfl,rfl⟩)))⟩,.inl ⟨rfl,hE1⟩⟩
 ·have hal:retireM T f=(1,{ T with ql:=T.ql++[(T.rs,epI T.re,0)] },upd f (5,T.rs,1) T.re):=by unfold retireM; rw [if_neg h0]
  rw [hal]
  have hnx:nxR r T.rpc=nxR r 1:=by unfold nxR fnR; rw [if_neg h0,if_neg (by decide)]
  rw [hnx] at hE
  refine (step_ry (S:=SP C X V T f G qc n) 1 _ hE rfl (store_r (S:=SP C X V T f G qc n) he hs hn (Nat.le_trans hl (by decide)) hE)).mono ?_
  rintro o w1 ⟨rfl,k',F',G',-,hE1⟩
  exact ⟨rfl,F',k',G',_,n+1,⟨Nat.le_refl _,(by first | exact Or.inl ⟨rfl,rfl,rfl,rfl⟩ | exact Or.inr (Or.inl ⟨rfl,rfl,rfl,rfl⟩) | exact Or.inr (Or.inr (Or.inl ⟨rfl,rfl,rfl,rfl⟩)) | exact Or.inr (Or.inr (Or.inr ⟨rfl,rfl,rfl,rfl⟩)))⟩,.inr ⟨show (1:Int)≠0 by decide,hE1⟩⟩
end
end Go.Proofs.YthcblagpbkaoaaaGreatDoor
