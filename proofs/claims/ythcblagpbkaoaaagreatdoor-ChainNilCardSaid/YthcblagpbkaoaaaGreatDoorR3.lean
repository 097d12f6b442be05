/- What is proved on the way to the statement, part 3: contracts of the functions, among other things in memory. -/
import Derived.Test.YthcblagpbkaoaaaGreatDoorR2
import Derived.Test.YthcblagpbkaoaaaGreatDoorChecked
import Derived.Deep.Light
import Derived.WalkKit
import Derived.Orders

namespace Go.Proofs.YthcblagpbkaoaaaGreatDoor
open Go.RowKit Go.Maps
set_option maxRecDepth 100000
set_option maxHeartbeats 25600000
section
variable {w:World} {c q:Nat} {k s b h l e r hs hi:Int}
theorem to_c (a d:Int) (hg:Glo w) (hb:Blk 0 w c (crv k s b h l e r hs hi q)) :
  Calls Tryz.prog 131 #[.pointer (some ⟨c,0,none⟩),.agg #[.int .i64 a,.int .i64 d]] w fun o w'=>o=.returned (.agg #[.int .u64 (wordI false a e),.int .i64 d,.bool false])/\Below w.heap.size w w':=by
 have hcl:=hb.1
 have HGB:=Lib.hid fun (v:World) (hv:Below w.heap.size w v)=>to_any a e v (hg.keep' hv)
 clear hg
 have hb1:=(hb.more (.cells [.int .i64 a,.int .i64 d].toArray 61)).more (.cells [.int .u64 0,.int .i64 0,.bool false].toArray 150)
 have hX:=(Blk.new 0 w [.int .i64 a,.int .i64 d] 61).more (.cells [.int .u64 0,.int .i64 0,.bool false].toArray 150)
 have hB:=(Blk.new 0 (w.alloc (.cells [.int .i64 a,.int .i64 d].toArray 61)) [.int .u64 0,.int .i64 0,.bool false] 150).at (n':=w.heap.size+1) (by simp)
 have hE:=((Below.refl w.heap.size w).alloc (Nat.le_refl _) (.cells [.int .i64 a,.int .i64 d].toArray 61)).alloc (by simp) (.cells [.int .u64 0,.int .i64 0,.bool false].toArray 150)
 unfold crv at hb1
 clear hb
 go_enter Tryz.func131,Tryz.ntmps131
 go_wp2_with fail
 refine Ord.wp_chain [10] (fun w'=>Below w.heap.size w w'/\Blk 0 w' c [.int .i64 k,.int .i64 s,.int .i64 b,.int .i64 h,.int .i64 l,.int .i64 e,.int .i64 r,.int .i64 hs,.int .i64 hi,.pointer (some ⟨q,0,none⟩)]/\Blk 0 w' w.heap.size [.int .i64 a,.int .i64 d]) (fun j w'=>Blk 0 w' (w.heap.size+1) (if j=0 then [.int .u64 0,.int .i64 0,.bool false] else [.int .u64 (wordI false a e),.int .i64 d,.bool false])) (by kernel_rfl) (by kernel_rfl) (by kernel_rfl) ⟨hE.drew,hb1.drew,hX.drew⟩ hB.drew (fun hT=>?_)
 have hT9:=Lib.hid hT
 clear hT
 repeat (first
  | (refine Ord.ch_value (v:=?_) hT9.out (by decide) (by rfl) ?_ ?_; rotate_left; (focus (intro w5 hS; have r:=Blk.rule hS.2.1; have r2:=Blk.rule hS.2.2; go_simp<;>with_reducible rfl)); (try simp only [Act.put,zA,zZ,zS]))
  | (refine Ord.ch_off hT9.out (by decide) (by rfl) ?_; (try simp only [Act.put,zA,zZ,zS]))
  | (refine Ord.ch_call (v:=?_) (f:=?_) (args:=?_) hT9.out (by decide) (by rfl) ?_ ?_ ?_; rotate_left 3; (focus (intro w5 hS; have r:=Blk.rule hS.2.1; have r2:=Blk.rule hS.2.2; go_simp; constructor<;>with_reducible rfl)); (focus (intro w5 hS; (first | (with_reducible refine (HGB.out _ hS.1).mono ?_; rintro o w6 ⟨rfl,hb6⟩; constructor; with_reducible rfl; exact ⟨⟨hS.1.trans (hb6.mono hS.1.size),hS.2.1.under hb6,hS.2.2.under hb6⟩,fun _ h=>h.under hb6⟩)))); (try simp only [Act.put,zA,zZ,zS])))
 refine Ord.ch_turn (v:=undef) 0 hT9.out rfl (by decide) (Or.inl rfl) (by rfl) ?_ ?_
 ·rintro w5 hS hA2
  simp only [if_true] at hA2
  have r:=hA2.rule
  have f0:=hA2.thaw 0 (by simp)
  have f1:=hA2.thaw 1 (by simp)
  have f2:=hA2.thaw 2 (by simp)
  have hz:=hS.1.size
  go_simp
  refine ⟨rfl,⟨?_,?_,?_⟩,?_⟩
  ·exact below_set (below_set (below_set hS.1 hz (by omega) _) (by simp; omega) (by omega) _) (by simp; omega) (by omega) _
  ·exact ((hS.2.1.off (by omega) _).off (by omega) _).off (by omega) _
  ·exact ((hS.2.2.off (by omega) _).off (by omega) _).off (by omega) _
  ·exact Blk.put3 hA2 _ _ _
 (try simp only [Act.put,zA,zZ,zS])
 repeat (first
  | (refine Ord.ch_value (v:=?_) hT9.out (by decide) (by rfl) ?_ ?_; rotate_left; (focus (intro w5 hS; skip; go_simp<;>with_reducible rfl)); (try simp only [Act.put,zA,zZ,zS]))
  | (refine Ord.ch_off hT9.out (by decide) (by rfl) ?_; (try simp only [Act.put,zA,zZ,zS])))
 refine Ord.InText.nil fun w5 hS=>?_
 clear hT9
 obtain ⟨hC9,hA9⟩:=Ord.chain_end hS
 clear hS
 have q:=hA9.rule
 simp only [show ¬ [10].length=0 by decide,if_false] at q
 go_wp2
 exact bodyPost_ret (v:=.agg #[.int .u64 (wordI false a e),.int .i64 d,.bool false]) (by simp [results,Tryz.results131,go_sem,q]) rfl ⟨rfl,hC9.1⟩
end
end Go.Proofs.YthcblagpbkaoaaaGreatDoor
namespace Go.Proofs.YthcblagpbkaoaaaGreatDoor
open Go.RowKit
set_option maxRecDepth 100000
set_option maxHeartbeats 25600000
theorem within_any (n lo hi:Int) (w:World):Calls Tryz.prog 121 #[.int .i64 n,.int .i64 lo,.int .i64 hi] w fun e w'=>e=.returned (.bool (inB n lo hi))/\w=w':=by
 go_enter Tryz.func121,Tryz.ntmps121
 go_wp2
 all_goals
  go_ret
  exact ⟨ret_bool (by simp [inB]; try omega),rfl⟩
theorem isKind_any (k:Int) (w:World):Calls Tryz.prog 120 #[.int .i64 k] w fun e w'=>e=.returned (.bool (kindB k))/\w=w':=by
 go_enter Tryz.func120,Tryz.ntmps120
 go_wp2
 all_goals
  go_ret
  exact ⟨ret_bool (by rw [Bool.eq_iff_iff]; simp [kindB]; try omega),rfl⟩
theorem hasBuckets_any (k s b h l:Int) (w:World):Calls Tryz.prog 122 #[.agg #[.int .i64 k,.int .i64 s,.int .i64 b,.int .i64 h,.int .i64 l]] w fun e w'=>e=.returned (.bool (buckB k b))/\Below w.heap.size w w':=by
 have hF:=(Fr.start w).push w.heap.size rfl [.int .i64 k,.int .i64 s,.int .i64 b,.int .i64 h,.int .i64 l] 48
 go_enter Tryz.func122,Tryz.ntmps122
 go_wp2_with
  (with_reducible refine (within_any _ _ _ _).mono ?_; rintro e w1 ⟨rfl,rfl⟩)
 all_goals
  go_ret
  (try go_light)
  (try simp only [bne_iff_ne,ne_eq,bne_eq_false_iff_eq,beq_iff_eq,beq_eq_false_iff_ne,Bool.or_eq_true,Bool.and_eq_true,decide_eq_true_eq,decide_eq_false_iff_not,Bool.or_eq_false_iff,Bool.not_eq_true',Bool.not_eq_false'] at *)
  refine ⟨ret_bool ?_,hF.below⟩
  rw [Bool.eq_iff_iff,buckB_iff]
  (try simp [inB])
  (try omega)
theorem hasHeight_any (k s b h l:Int) (w:World):Calls Tryz.prog 123 #[.agg #[.int .i64 k,.int .i64 s,.int .i64 b,.int .i64 h,.int .i64 l]] w fun e w'=>e=.returned (.bool (highB k h))/\Below w.heap.size w w':=by
 have hF:=(Fr.start w).push w.heap.size rfl [.int .i64 k,.int .i64 s,.int .i64 b,.int .i64 h,.int .i64 l] 48
 go_enter Tryz.func123,Tryz.ntmps123
 go_wp2_with
  (with_reducible refine (within_any _ _ _ _).mono ?_; rintro e w1 ⟨rfl,rfl⟩)
 all_goals
  go_ret
  (try go_light)
  (try simp only [bne_iff_ne,ne_eq,bne_eq_false_iff_eq,beq_iff_eq,beq_eq_false_iff_ne,Bool.or_eq_true,Bool.and_eq_true,decide_eq_true_eq,decide_eq_false_iff_not,Bool.or_eq_false_iff,Bool.not_eq_true',Bool.not_eq_false'] at *)
  refine ⟨ret_bool ?_,hF.below⟩
  rw [Bool.eq_iff_iff,highB_iff]
  (try simp [inB])
  (try omega)
theorem check_any (k s b h l:Int) (w:World):Calls Tryz.prog 68 #[.agg #[.int .i64 k,.int .i64 s,.int .i64 b,.int .i64 h,.int .i64 l]] w fun e w'=>e=.returned (.int .i64 (chkI k s b h l))/\Below w.heap.size w w':=by
 have hF:=(Fr.start w).push w.heap.size rfl [.int .i64 k,.int .i64 s,.int .i64 b,.int .i64 h,.int .i64 l] 48
 have r:=hF.rule 0 rfl
 go_enter Tryz.func68,Tryz.ntmps68
 go_wp2_with (first
  |
   (with_reducible refine (within_any _ _ _ _).mono ?_; rintro e w1 ⟨rfl,rfl⟩)
  |
   (with_reducible refine (isKind_any _ _).mono ?_; rintro e w1 ⟨rfl,rfl⟩)
  |
   (with_reducible refine (hasBuckets_any _ _ _ _ _ _).mono ?_; rintro e w1 ⟨rfl,hb⟩; replace hF:=hF.over hb; clear hb r; have r:=hF.rule 0 rfl)
  |
   (with_reducible refine (hasHeight_any _ _ _ _ _ _).mono ?_; rintro e w1 ⟨rfl,hb⟩; replace hF:=hF.over hb; clear hb r; have r:=hF.rule 0 rfl)
  )
 all_goals
  go_ret
  (try go_light)
  (try simp only [bne_iff_ne,ne_eq,bne_eq_false_iff_eq,beq_iff_eq,beq_eq_false_iff_ne,Bool.or_eq_true,Bool.and_eq_true,decide_eq_true_eq,decide_eq_false_iff_not,Bool.or_eq_false_iff,Bool.not_eq_true',Bool.not_eq_false'] at *)
  refine ⟨ret_int ?_,hF.below⟩
  simp [chkI, *]
end Go.Proofs.YthcblagpbkaoaaaGreatDoor
namespace Go.Proofs.YthcblagpbkaoaaaGreatDoor
open Go.RowKit Go.Maps
set_option maxRecDepth 100000
set_option maxHeartbeats 25600000
section
variable {w0 w:World} {L:List Item}
theorem newNo_c (k s b h l:Int) (hc:chkI k s b h l≠0) (w:World) :
  Calls Tryz.prog 20 #[.agg #[.int .i64 k,.int .i64 s,.int .i64 b,.int .i64 h,.int .i64 l]] w fun o w'=>o=.returned (.pointer none)/\Below w.heap.size w w':=by
 have hF:=(Fr.start w).push w.heap.size rfl [.int .i64 k,.int .i64 s,.int .i64 b,.int .i64 h,.int .i64 l] 48
 have r:=hF.rule 0 rfl
 have hn:(chkI k s b h l != 0)=true:=by simpa using hc
 go_enter Tryz.func20,Tryz.ntmps20
 go_wp2_with fail
 refine (check_any k s b h l _).mono ?_
 rintro o w1 ⟨rfl,hb⟩
 replace hF:=hF.over hb
 clear hb r
 go_wp2_with fail
 go_ret
 exact ⟨rfl,hF.below⟩
theorem newYes_c (k s b h l:Int) (hc:chkI k s b h l=0) (hE:Env w0 L w) :
  Calls Tryz.prog 20 #[.agg #[.int .i64 k,.int .i64 s,.int .i64 b,.int .i64 h,.int .i64 l]] w fun o w'=>∃ c q F,o=.returned (.pointer (some ⟨c,0,none⟩))/\Env w0 (coreI c k s b h l 0 0 0 0 q::queueI q F [] 2::L) w':=by
 have HC:=Lib.hid hc
 clear hc
 have hE1:=hE.box w.heap.size rfl [.int .i64 k,.int .i64 s,.int .i64 b,.int .i64 h,.int .i64 l] 48
 clear hE
 have r:=hE1.rule 0 rfl
 go_enter Tryz.func20,Tryz.ntmps20
 go_wp2_with fail
 refine (check_any k s b h l _).mono ?_
 rintro o w1 ⟨rfl,hb⟩
 rw [HC.out]
 replace hE1:=hE1.over hb
 clear hb r
 generalize w.heap.size=X at *
 go_wp2_with fail
 refine Ord3.wp_chain [?_,?_,?_,?_,?_] [1,2,3,4] (fun w'=>Blk 0 w' X [.int .i64 k,.int .i64 s,.int .i64 b,.int .i64 h,.int .i64 l]) (Ord3.Stage fun κs=>[Env w0 (boxI X [.int .i64 k,.int .i64 s,.int .i64 b,.int .i64 h,.int .i64 l]::L),fun w'=>∃ q,κs.getD 0 undef=.pointer (some ⟨q,0,none⟩)/\∃ F,Env w0 (queueI q F [] 2::boxI X [.int .i64 k,.int .i64 s,.int .i64 b,.int .i64 h,.int .i64 l]::L) w',fun w'=>∃ q,κs.getD 1 undef=(.agg #[.int .i64 k,.int .i64 s,.int .i64 b,.int .i64 h,.int .i64 l,.int .i64 0,.int .i64 0,.int .i64 0,.int .i64 0,.pointer (some ⟨q,0,none⟩)])/\∃ F,Env w0 (queueI q F [] 2::boxI X [.int .i64 k,.int .i64 s,.int .i64 b,.int .i64 h,.int .i64 l]::L) w',fun w'=>∃ c,κs.getD 2 undef=.pointer (some ⟨c,0,none⟩)/\∃ q F,Env w0 (coreI c k s b h l 0 0 0 0 q::queueI q F [] 2::boxI X [.int .i64 k,.int .i64 s,.int .i64 b,.int .i64 h,.int .i64 l]::L) w',fun w'=>∃ c,κs.getD 3 undef=.pointer (some ⟨c,0,none⟩)/\∃ q F,Env w0 (coreI c k s b h l 0 0 0 0 q::queueI q F [] 2::boxI X [.int .i64 k,.int .i64 s,.int .i64 b,.int .i64 h,.int .i64 l]::L) w']) (by kernel_rfl) (by kernel_rfl) (by kernel_rfl) (hE1.drew.get 0 rfl) ⟨_,rfl,hE1.drew⟩ (fun hT=>?_)
 rotate_left 5
 have hT9:=Lib.hid hT
 clear hT
 repeat (first
  | (focus (refine Ord3.in_value (v:=?_) hT9.out (by decide) ?_ (by rfl) ?_ ?_; rotate_left 2; (focus (intro w5 hS; have r:=Blk.rule hS; go_simp<;>with_reducible rfl)); rotate_right; (focus rfl); (try simp only [Act.put,zA,zZ,zS])))
  | (focus (refine Ord3.in_off hT9.out (by decide) ?_ (by rfl) ?_; (focus rfl); (try simp only [Act.put,zA,zZ,zS]))))
 refine Ord3.in_turn (fun u=>∃ q,u=.pointer (some ⟨q,0,none⟩)) _ ⟨0,rfl⟩ hT9.out rfl (by decide) (by rfl) ?_ (Or.inl rfl) (by rfl) ?_ ?_
 ·rfl
 ·rintro w7 hC7 ⟨P7,hP7,hA7⟩
  cases hP7
  go_simp
  simp only [Ord3.Lands]
  refine (newQ_any (xs:=[]) (A:=none) (cap:=0) (by simp) Row3.nil).mono ?_
  rintro o w8 ⟨q8,F8,k8,rfl,hrm,hQ,hb8,hF8⟩
  have hk8:=hrm.unique (Rm.same (by simp))
  subst hk8
  have hE8:=hA7.madeQ hQ hF8 hb8
  exact ⟨_,rfl,⟨q8,rfl⟩,hE8.get 1 rfl,_,rfl,q8,rfl,F8,hE8⟩
 rintro _ ⟨q9,rfl⟩
 (try simp only [Act.put,zA,zZ,zS])
 refine Ord3.in_turn (fun u=>∃ q,u=(.agg #[.int .i64 k,.int .i64 s,.int .i64 b,.int .i64 h,.int .i64 l,.int .i64 0,.int .i64 0,.int .i64 0,.int .i64 0,.pointer (some ⟨q,0,none⟩)])) _ ⟨0,rfl⟩ hT9.out rfl (by decide) (by rfl) ?_ (Or.inr ⟨_,1,[],rfl,by kernel_rfl,by kernel_rfl,rfl⟩) (by rfl) ?_ ?_
 ·rfl
 ·rintro w7 hC7 ⟨P7,hP7,hA7⟩
  cases hP7
  obtain ⟨q8,he,F8,hA7⟩:=hA7
  cases he
  go_simp
  simp only [Ord3.Lands]
  exact ⟨⟨_,rfl⟩,hC7,_,rfl,q9,rfl,F8,hA7⟩
 rintro _ ⟨q10,rfl⟩
 (try simp only [Act.put,zA,zZ,zS])
 refine Ord3.in_turn (fun u=>∃ c,u=.pointer (some ⟨c,0,none⟩)) _ ⟨0,rfl⟩ hT9.out rfl (by decide) (by rfl) ?_ (Or.inr ⟨_,2,[],rfl,by kernel_rfl,by kernel_rfl,rfl⟩) (by rfl) ?_ ?_
 ·rfl
 ·rintro w7 hC7 ⟨P7,hP7,hA7⟩
  cases hP7
  obtain ⟨q8,he,F8,hA7⟩:=hA7
  cases he
  go_simp
  simp only [Ord3.Lands]
  have hE8:=hA7.box w7.heap.size rfl (crv k s b h l 0 0 0 0 q10) 148
  exact ⟨⟨_,rfl⟩,hE8.get 2 rfl,_,rfl,w7.heap.size,rfl,q10,F8,hE8⟩
 rintro _ ⟨c8,rfl⟩
 (try simp only [Act.put,zA,zZ,zS])
 refine Ord3.in_turn (fun u=>∃ c,u=.pointer (some ⟨c,0,none⟩)) _ ⟨0,rfl⟩ hT9.out rfl (by decide) (by rfl) ?_ (Or.inr ⟨_,3,[],rfl,by kernel_rfl,by kernel_rfl,rfl⟩) (by rfl) ?_ ?_
 ·rfl
 ·rintro w7 hC7 ⟨P7,hP7,hA7⟩
  cases hP7
  obtain ⟨c7,he,q8,F8,hA7⟩:=hA7
  cases he
  go_simp
  simp only [Ord3.Lands]
  exact ⟨⟨_,rfl⟩,hC7,_,rfl,c8,rfl,q8,F8,hA7⟩
 rintro _ ⟨c9,rfl⟩
 (try simp only [Act.put,zA,zZ,zS])
 refine Ord3.in_nil rfl ?_
 rintro w9 hC9 ⟨P9,hP9,hA9⟩
 cases hP9
 obtain ⟨c8,he,q8,F8,hA9⟩:=hA9
 cases he
 clear hT9 hC9
 go_wp2_with fail
 go_ret
 exact ⟨c9,q8,F8,rfl,hA9.sub (.cons_cons _ (.cons_cons _ (.cons _ (List.Sublist.refl _))))⟩
end
theorem lead_c (v d:Int) (t:Bool) (w:World) (hv:InU v) (hg:Glo w) :
  Calls Tryz.prog 132 #[.agg #[.int .u64 v,.int .i64 d,.bool t]] w fun o w'=>o=.returned (.agg #[.int .i64 (slotI v),.int .i64 d])/\Below w.heap.size w w':=by
 unfold InU at hv
 have HGB:=Lib.hid fun (x:World) (hx:Below w.heap.size w x)=>slot_any v x (hg.keep' hx) hv.1 hv.2
 clear hg
 have hF:=((Fr.start w).push w.heap.size rfl [.int .u64 v,.int .i64 d,.bool t] 150).push (w.heap.size+1) (by simp) [.int .i64 0,.int .i64 0] 61
 have hX:=hF.blk 1 rfl (by omega)
 have hZ:=hF.blk 0 rfl (by omega)
 have hE:=hF.below
 clear hF
 go_enter Tryz.func132,Tryz.ntmps132
 go_wp2_with fail
 refine Ord.wp_chain [6] (fun w'=>Below w.heap.size w w'/\Blk 0 w' w.heap.size [.int .u64 v,.int .i64 d,.bool t]) (fun j w'=>Blk 0 w' (w.heap.size+1) (if j=0 then [.int .i64 0,.int .i64 0] else [.int .i64 (slotI v),.int .i64 d])) (by kernel_rfl) (by kernel_rfl) (by kernel_rfl) ⟨hE.drew,hX.drew⟩ hZ.drew (fun hT=>?_)
 have hT9:=Lib.hid hT
 clear hT
 repeat (first
  | (refine Ord.ch_value (v:=?_) hT9.out (by decide) (by rfl) ?_ ?_; rotate_left; (focus (intro w5 hS; have r:=Blk.rule hS.2; go_simp<;>with_reducible rfl)); (try simp only [Act.put,zA,zZ,zS]))
  | (refine Ord.ch_off hT9.out (by decide) (by rfl) ?_; (try simp only [Act.put,zA,zZ,zS]))
  | (refine Ord.ch_call (v:=?_) (f:=?_) (args:=?_) hT9.out (by decide) (by rfl) ?_ ?_ ?_; rotate_left 3; (focus (intro w5 hS; have r:=Blk.rule hS.2; go_simp; constructor<;>with_reducible rfl)); (focus (intro w5 hS; (first | (with_reducible refine (HGB.out _ hS.1).mono ?_; rintro o w6 ⟨rfl,hb6⟩; constructor; with_reducible rfl; exact ⟨⟨hS.1.trans (hb6.mono hS.1.size),hS.2.under hb6⟩,fun _ h=>h.under hb6⟩)))); (try simp only [Act.put,zA,zZ,zS])))
 refine Ord.ch_turn (v:=undef) 0 hT9.out rfl (by decide) (Or.inl rfl) (by rfl) ?_ ?_
 ·rintro w5 hS hA2
  simp only [if_true] at hA2
  have r:=hA2.rule
  have f0:=hA2.thaw 0 (by simp)
  have f1:=hA2.thaw 1 (by simp)
  have hz:=hS.1.size
  go_simp
  refine ⟨rfl,⟨?_,?_⟩,?_⟩
  ·exact below_set (below_set hS.1 hz (by omega) _) (by simp; omega) (by omega) _
  ·exact (hS.2.off (by omega) _).off (by omega) _
  ·exact (hA2.set (i:=0) (by simp) _).set (i:=1) (by simp) _
 (try simp only [Act.put,zA,zZ,zS])
 repeat (first
  | (refine Ord.ch_value (v:=?_) hT9.out (by decide) (by rfl) ?_ ?_; rotate_left; (focus (intro w5 hS; skip; go_simp<;>with_reducible rfl)); (try simp only [Act.put,zA,zZ,zS]))
  | (refine Ord.ch_off hT9.out (by decide) (by rfl) ?_; (try simp only [Act.put,zA,zZ,zS])))
 refine Ord.InText.nil fun w5 hS=>?_
 clear hT9
 obtain ⟨hC9,hA9⟩:=Ord.chain_end hS
 clear hS
 have q:=hA9.rule
 simp only [show ¬ [6].length=0 by decide,if_false] at q
 go_wp2
 exact bodyPost_ret (v:=.agg #[.int .i64 (slotI v),.int .i64 d]) (by simp [results,Tryz.results132,go_sem,q]) rfl ⟨rfl,hC9.1⟩
section
variable {w0 w:World} {L:List Item} {p c n:Nat} {F:Nat->Prop} {f:Plc->Int} {q:Cnt}
theorem swap_w (x y z d o oe v e:Int) (ob b:Bool) (hx:Wf (x,y,z)) (hv:InU v) (hn:n < maxLen) (i j:Nat) (hij:j≠i) (hE:Env w0 L w) (hi:L[i]?=some (wbox p c)) (hj:L[j]?=some (cellI c F f q n)) :
  Calls Tryz.prog 299 #[.pointer (some ⟨p,0,none⟩),.agg #[.int .i64 x,.int .i64 y,.int .i64 z,.int .i64 d],.agg #[.int .u64 o,.int .i64 oe,.bool ob],.agg #[.int .u64 v,.int .i64 e,.bool b]] w fun e w'=>e=.returned (.bool (decide (f (x,y,z)=o)))/\∃ F',Env w0 (L.set j (cellI c F' (swf f (x,y,z) o v) (swq q (decide (f (x,y,z)=o))) (n+1))) w':=by
 replace hE:=(((hE.box w.heap.size rfl [.int .i64 x,.int .i64 y,.int .i64 z,.int .i64 d] 67).box (w.heap.size+1) (by simp) [.int .u64 o,.int .i64 oe,.bool ob] 150).box (w.heap.size+1+1) (by simp) [.int .u64 v,.int .i64 e,.bool b] 150)
 have hi':(boxI (w.heap.size+1+1) [.int .u64 v,.int .i64 e,.bool b]::boxI (w.heap.size+1) [.int .u64 o,.int .i64 oe,.bool ob]::boxI (w.heap.size) [.int .i64 x,.int .i64 y,.int .i64 z,.int .i64 d]::L)[i+3]?=some (wbox p c):=hi
 have hj':(boxI (w.heap.size+1+1) [.int .u64 v,.int .i64 e,.bool b]::boxI (w.heap.size+1) [.int .u64 o,.int .i64 oe,.bool ob]::boxI (w.heap.size) [.int .i64 x,.int .i64 y,.int .i64 z,.int .i64 d]::L)[j+3]?=some (cellI c F f q n):=hj
 have HX:=Lib.hid hx
 clear hx
 go_enter Tryz.func299,Tryz.ntmps299
 go_wp2_with fail
 generalize w.heap.size+1+1=Z at *
 generalize w.heap.size+1=Y at *
 generalize w.heap.size=X at *
 refine Ord.wp_chain [8] (fun w'=>Blk 0 w' X [.int .i64 x,.int .i64 y,.int .i64 z,.int .i64 d]/\Blk 0 w' Y [.int .u64 o,.int .i64 oe,.bool ob]/\Blk 0 w' Z [.int .u64 v,.int .i64 e,.bool b]/\Blk 0 w' p [.pointer (some ⟨c,0,none⟩)]) (Stage [Env w0 (boxI Z [.int .u64 v,.int .i64 e,.bool b]::boxI Y [.int .u64 o,.int .i64 oe,.bool ob]::boxI X [.int .i64 x,.int .i64 y,.int .i64 z,.int .i64 d]::L),fun w'=>∃ F',Env w0 (boxI Z [.int .u64 v,.int .i64 e,.bool b]::boxI Y [.int .u64 o,.int .i64 oe,.bool ob]::boxI X [.int .i64 x,.int .i64 y,.int .i64 z,.int .i64 d]::L.set j (cellI c F' (swf f (x,y,z) o v) (swq q (decide (f (x,y,z)=o))) (n+1))) w']) (by kernel_rfl) (by kernel_rfl) (by kernel_rfl) ⟨hE.drew.get 2 rfl,hE.drew.get 1 rfl,hE.drew.get 0 rfl,hE.drew.get (i+3) hi'⟩ ⟨_,rfl,hE.drew⟩ (fun hT=>?_)
 have hT9:=Lib.hid hT
 clear hT
 repeat (first
  | (refine Ord.ch_value (v:=?_) hT9.out (by decide) (by rfl) ?_ ?_; rotate_left; (focus (intro w5 hS; have r0:=hS.1.rule; have r1:=hS.2.1.rule; have r2:=hS.2.2.1.rule; go_simp<;>with_reducible rfl)); (try simp only [Act.put,zA,zZ,zS]))
  | (refine Ord.ch_off hT9.out (by decide) (by rfl) ?_; (try simp only [Act.put,zA,zZ,zS]))
  | (refine Ord.ch_call (v:=?_) (f:=?_) (args:=?_) hT9.out (by decide) (by rfl) ?_ ?_ ?_; rotate_left 3; (focus (intro w5 hS; have r0:=hS.1.rule; have r1:=hS.2.1.rule; have r2:=hS.2.2.1.rule; go_simp; constructor<;>with_reducible rfl)); (focus (intro w5 hS; (first | (with_reducible refine (kept_any hS.2.2.2).mono ?_; rintro e w6 ⟨rfl,rfl⟩; constructor; with_reducible rfl; exact ⟨hS,fun _ h=>h⟩)))); (try simp only [Act.put,zA,zZ,zS])))
 refine Ord.ch_turn (v:=.bool (decide (f (x,y,z)=o))) 0 hT9.out rfl (by decide) (Or.inl rfl) (by rfl) ?_ ?_
 ·rintro w5 hC5 ⟨P5,hP5,hA5⟩
  cases hP5
  go_simp
  simp only [Ord.LandsIn]
  refine (swap_any x y z o v HX.out hv hn (hA5.cell (j+3) hj')).mono ?_
  rintro e w6 ⟨rfl,F6,hC,hs⟩
  have hE6:=hA5.turn (j+3) hj' hC hs
  exact ⟨rfl,⟨hE6.get 2 rfl,hE6.get 1 rfl,hE6.get 0 rfl,hE6.get (i+3) (wset (j:=j+3) (by omega) hi')⟩,_,rfl,F6,hE6⟩
 (try simp only [Act.put,zA,zZ,zS])
 repeat (first
  | (refine Ord.ch_value (v:=?_) hT9.out (by decide) (by rfl) ?_ ?_; rotate_left; (focus (intro w5 hS; skip; go_simp<;>with_reducible rfl)); (try simp only [Act.put,zA,zZ,zS]))
  | (refine Ord.ch_off hT9.out (by decide) (by rfl) ?_; (try simp only [Act.put,zA,zZ,zS])))
 refine Ord.InText.nil fun w5 hS=>?_
 clear hT9
 obtain ⟨hC9,hA9⟩:=Ord.chain_end hS
 clear hS
 obtain ⟨P9,hP9,hA9⟩:=hA9
 cases hP9
 obtain ⟨F9,hA9⟩:=hA9
 clear hC9
 go_wp2
 go_ret
 exact ⟨rfl,F9,hA9.sub (.cons _ (.cons _ (.cons _ (List.Sublist.refl _))))⟩
end
theorem method_swap (k p:Nat) (w:World):(method (k+1) 26 (.pointer (some ⟨p,0,none⟩)) "Swap").run Tryz.prog w=.ok (299,.pointer (some ⟨p,0,none⟩)) w:=by kernel_rfl
theorem ahead_swap (k p:Nat) (w:World):(nilAhead (k+1) 26 (.pointer (some ⟨p,0,none⟩)) "Swap").run Tryz.prog w=.ok (some false) w:=by kernel_rfl
theorem ahead_load (k p:Nat) (w:World):(nilAhead (k+1) 26 (.pointer (some ⟨p,0,none⟩)) "Load").run Tryz.prog w=.ok (some false) w:=by kernel_rfl
def pick3 {α:Type _} (a b c:α):Nat->α
 | 0=>a
 | 1=>b
 | _=>c
theorem wrapU (x:Int) (h0:0<=x) (h1:x<=18446744073709551615):IntKind.u64.wrap x=x:=by
 rw [IntKind.wrap_u64]
 exact Int.emod_eq_of_lt h0 (by omega)
end Go.Proofs.YthcblagpbkaoaaaGreatDoor
namespace Go.Proofs.YthcblagpbkaoaaaGreatDoor
open Go.RowKit
set_option maxRecDepth 100000
set_option maxHeartbeats 25600000
theorem isMarked_any (x:Int) (w:World) (hg:Glo w) (h0:0<=x) (h1:x<=18446744073709551615) :
  Calls Tryz.prog 83 #[.int .u64 x] w fun e w'=>e=.returned (.bool (markB x))/\Below w.heap.size w w':=by
 obtain ⟨-,-,⟨c0,c1⟩,-,-,hs⟩:=hg
 have HG:=Lib.hid (mark_one x h0 h1)
 go_enter Tryz.func83,Tryz.ntmps83
 go_wp2_with fail
 refine (get_any 63 1 x _ (by decide) (by decide) h0 h1).mono ?_
 rintro e w1 ⟨rfl,hb⟩
 generalize getI 63 1 x=y at *
 go_wp2
 go_ret
 exact ⟨ret_bool (by rw [<- HG.out]; rfl),hb⟩
theorem placeOf_any (y z:Int) (w:World):Calls Tryz.prog 82 #[.int .i64 y,.int .i64 z] w fun e w'=>e=.returned (.agg #[.int .i64 5,.int .i64 y,.int .i64 z])/\Below w.heap.size w w':=by
 go_enter Tryz.func82,Tryz.ntmps82
 go_wp2
 exact bodyPost_ret (v:=.agg #[.int .i64 5,.int .i64 y,.int .i64 z]) (by simp [results,Tryz.results82,go_sem]) rfl ⟨rfl,(Below.refl _ _).alloc (Nat.le_refl _) _⟩
theorem link_any (y m:Int) (w:World):Calls Tryz.prog 81 #[.int .i64 y,.int .i64 m] w fun e w'=>e=.returned (.agg #[.int .i64 5,.int .i64 y,.int .i64 (wrap64 (7+m))])/\Below w.heap.size w w':=by
 have hF:=(Fr.start w).push w.heap.size rfl [.int .i64 0,.int .i64 0,.int .i64 0] 65
 go_enter Tryz.func81,Tryz.ntmps81
 go_wp2_with fail
 refine (placeOf_any _ _ _).mono ?_
 rintro e w1 ⟨rfl,hb⟩
 replace hF:=hF.over hb
 have r:=hF.rule 0 rfl
 have f:=hF.thaw 0 rfl (Nat.le_refl _)
 go_wp2
 have hP:=hF.put3 (Nat.le_refl _) (fun x hx=>by cases hx) (.int .i64 5) (.int .i64 y) (.int .i64 (wrap64 (7+m)))
 have q:=hP.rule 0 rfl
 exact bodyPost_ret (v:=.agg #[.int .i64 5,.int .i64 y,.int .i64 (wrap64 (7+m))]) (by simp [results,Tryz.results81,go_sem,q]) rfl ⟨rfl,hP.below⟩
theorem root_any (z:Int) (w:World):Calls Tryz.prog 79 #[.int .i64 z] w fun e w'=>e=.returned (.agg #[.int .i64 4,.int .i64 0,.int .i64 z])/\Below w.heap.size w w':=by
 go_enter Tryz.func79,Tryz.ntmps79
 go_wp2
 exact bodyPost_ret (v:=.agg #[.int .i64 4,.int .i64 0,.int .i64 z]) (by simp [results,Tryz.results79,go_sem]) rfl ⟨rfl,(Below.refl _ _).alloc (Nat.le_refl _) _⟩
end Go.Proofs.YthcblagpbkaoaaaGreatDoor
namespace Go.Proofs.YthcblagpbkaoaaaGreatDoor
open Go.RowKit Go.Maps
set_option maxRecDepth 100000
set_option maxHeartbeats 25600000
def laneC (c:Nat) (lv key:Int) (vs:Bool) (nx:Value) (st x y z W C X wd:Int) (pf:Bool) (pv:Int):List Value :=
 [.pointer (some ⟨c,0,none⟩),.int .i64 lv,.int .u64 key,.bool vs,nx,.int .i64 st,.int .i64 x,.int .i64 y,.int .i64 z,.int .i64 0,.int .u64 W,.int .i64 0,.bool false,.int .i64 C,.int .i64 0,.int .u64 X,.int .i64 0,.bool false,.int .u64 wd,.bool pf,.int .u64 pv]
def cvL (b1 b2:Nat):Value:=.func (.func 177) #[] #[.pointer (some ⟨b1,0,none⟩),.pointer (some ⟨b2,0,none⟩)]
section
variable {w:World} {a c:Nat} {lv key:Int} {vs:Bool} {nx:Value} {st x y z W C X wd:Int} {pf:Bool} {pv:Int}
theorem part_l (n:Int) (hb:Blk 0 w a (laneC c lv key vs nx st x y z W C X wd pf pv)):Calls Tryz.prog 264 #[.pointer (some ⟨a,0,none⟩),.int .i64 n] w fun e w'=>e=.returned (.agg #[.int .i64 5,.int .i64 C,.int .i64 n,.int .i64 0])/\Below w.heap.size w w':=by
 have hal:=hb.1
 have hX:=hb.more (.cells [.int .i64 0,.int .i64 0,.int .i64 0,.int .i64 0].toArray 67)
 have hZ:=Blk.new 0 w [.int .i64 0,.int .i64 0,.int .i64 0,.int .i64 0] 67
 have hE:=(Below.refl w.heap.size w).alloc (Nat.le_refl _) (.cells [.int .i64 0,.int .i64 0,.int .i64 0,.int .i64 0].toArray 67)
 clear hb
 go_enter Tryz.func264,Tryz.ntmps264
 go_wp2_with fail
 refine Ord.wp_chain [13] (fun w'=>Below w.heap.size w w'/\Blk 0 w' a (laneC c lv key vs nx st x y z W C X wd pf pv)) (fun j w'=>Blk 0 w' w.heap.size (if j=0 then [.int .i64 0,.int .i64 0,.int .i64 0,.int .i64 0] else [.int .i64 5,.int .i64 C,.int .i64 n,.int .i64 0])) (by kernel_rfl) (by kernel_rfl) (by kernel_rfl) ⟨hE.drew,hX.drew⟩ hZ.drew (fun hT=>?_)
 have hT9:=Lib.hid hT
 clear hT
 repeat (first
  | (refine Ord.ch_value (v:=?_) hT9.out (by decide) (by rfl) ?_ ?_; rotate_left; (focus (intro w5 hS; have r:=Blk.rule hS.2; unfold laneC at r; go_simp<;>with_reducible rfl)); (try simp only [Act.put,zA,zZ,zS]))
  | (refine Ord.ch_off hT9.out (by decide) (by rfl) ?_; (try simp only [Act.put,zA,zZ,zS]))
  | (refine Ord.ch_call (v:=?_) (f:=?_) (args:=?_) hT9.out (by decide) (by rfl) ?_ ?_ ?_; rotate_left 3; (focus (intro w5 hS; have r:=Blk.rule hS.2; unfold laneC at r; go_simp; constructor<;>with_reducible rfl)); (focus (intro w5 hS; (first | (with_reducible refine (placeOf_any _ _ _).mono ?_; rintro o w6 ⟨rfl,hb6⟩; constructor; with_reducible rfl; exact ⟨⟨hS.1.trans (hb6.mono hS.1.size),hS.2.under hb6⟩,fun _ h=>h.under hb6⟩)))); (try simp only [Act.put,zA,zZ,zS])))
 refine Ord.ch_turn (v:=undef) 0 hT9.out rfl (by decide) (Or.inl rfl) (by rfl) ?_ ?_
 ·rintro w5 hS hA2
  simp only [if_true] at hA2
  have r:=hA2.rule
  have f0:=hA2.thaw 0 (by simp)
  have f1:=hA2.thaw 1 (by simp)
  have f2:=hA2.thaw 2 (by simp)
  have f3:=hA2.thaw 3 (by simp)
  have hz:=hS.1.size
  go_simp
  refine ⟨rfl,⟨?_,?_⟩,?_⟩
  ·exact below_set (below_set (below_set (below_set hS.1 hz (by omega) _) (by simp; omega) (by omega) _) (by simp; omega) (by omega) _) (by simp; omega) (by omega) _
  ·exact (((hS.2.off (by omega) _).off (by omega) _).off (by omega) _).off (by omega) _
  ·exact (((hA2.set (i:=0) (by simp) _).set (i:=1) (by simp) _).set (i:=2) (by simp) _).set (i:=3) (by simp) _
 (try simp only [Act.put,zA,zZ,zS])
 repeat (first
  | (refine Ord.ch_value (v:=?_) hT9.out (by decide) (by rfl) ?_ ?_; rotate_left; (focus (intro w5 hS; skip; go_simp<;>with_reducible rfl)); (try simp only [Act.put,zA,zZ,zS]))
  | (refine Ord.ch_off hT9.out (by decide) (by rfl) ?_; (try simp only [Act.put,zA,zZ,zS])))
 refine Ord.InText.nil fun w5 hS=>?_
 clear hT9
 obtain ⟨hC9,hA9⟩:=Ord.chain_end hS
 clear hS
 have q:=hA9.rule
 simp only [show ¬ [13].length=0 by decide,if_false] at q
 go_wp2
 exact bodyPost_ret (v:=.agg #[.int .i64 5,.int .i64 C,.int .i64 n,.int .i64 0]) (by simp [results,Tryz.results264,go_sem,q]) rfl ⟨rfl,hC9.1⟩
theorem nextLink_l (hlv:0<=lv/\lv<=1000000) (hb:Blk 0 w a (laneC c lv key vs nx st x y z W C X wd pf pv)):Calls Tryz.prog 234 #[.pointer (some ⟨a,0,none⟩)] w fun e w'=>e=.returned (.agg #[.int .i64 5,.int .i64 C,.int .i64 (7+lv),.int .i64 0])/\Below w.heap.size w w':=by
 have hal:=hb.1
 have hX:=hb.more (.cells [.int .i64 0,.int .i64 0,.int .i64 0,.int .i64 0].toArray 67)
 have hZ:=Blk.new 0 w [.int .i64 0,.int .i64 0,.int .i64 0,.int .i64 0] 67
 have hE:=(Below.refl w.heap.size w).alloc (Nat.le_refl _) (.cells [.int .i64 0,.int .i64 0,.int .i64 0,.int .i64 0].toArray 67)
 clear hb
 have HLK:Hid (∀ v,Calls Tryz.prog 81 #[.int .i64 C,.int .i64 lv] v fun e w'=>e=.returned (.agg #[.int .i64 5,.int .i64 C,.int .i64 (7+lv)])/\Below v.heap.size v w'):=Lib.hid fun v=>by
  have:=link_any C lv v
  rwa [w64 (7+lv) (by omega)] at this
 clear hlv
 go_enter Tryz.func234,Tryz.ntmps234
 go_wp2_with fail
 refine Ord.wp_chain [16] (fun w'=>Below w.heap.size w w'/\Blk 0 w' a (laneC c lv key vs nx st x y z W C X wd pf pv)) (fun j w'=>Blk 0 w' w.heap.size (if j=0 then [.int .i64 0,.int .i64 0,.int .i64 0,.int .i64 0] else [.int .i64 5,.int .i64 C,.int .i64 (7+lv),.int .i64 0])) (by kernel_rfl) (by kernel_rfl) (by kernel_rfl) ⟨hE.drew,hX.drew⟩ hZ.drew (fun hT=>?_)
 have hT9:=Lib.hid hT
 clear hT
 repeat (first
  | (refine Ord.ch_value (v:=?_) hT9.out (by decide) (by rfl) ?_ ?_; rotate_left; (focus (intro w5 hS; have r:=Blk.rule hS.2; unfold laneC at r; go_simp<;>with_reducible rfl)); (try simp only [Act.put,zA,zZ,zS]))
  | (refine Ord.ch_off hT9.out (by decide) (by rfl) ?_; (try simp only [Act.put,zA,zZ,zS]))
  | (refine Ord.ch_call (v:=?_) (f:=?_) (args:=?_) hT9.out (by decide) (by rfl) ?_ ?_ ?_; rotate_left 3; (focus (intro w5 hS; have r:=Blk.rule hS.2; unfold laneC at r; go_simp; constructor<;>with_reducible rfl)); (focus (intro w5 hS; (first | (with_reducible refine (HLK.out _).mono ?_; rintro o w6 ⟨rfl,hb6⟩; constructor; with_reducible rfl; exact ⟨⟨hS.1.trans (hb6.mono hS.1.size),hS.2.under hb6⟩,fun _ h=>h.under hb6⟩)))); (try simp only [Act.put,zA,zZ,zS])))
 refine Ord.ch_turn (v:=undef) 0 hT9.out rfl (by decide) (Or.inl rfl) (by rfl) ?_ ?_
 ·rintro w5 hS hA2
  simp only [if_true] at hA2
  have r:=hA2.rule
  have f0:=hA2.thaw 0 (by simp)
  have f1:=hA2.thaw 1 (by simp)
  have f2:=hA2.thaw 2 (by simp)
  have f3:=hA2.thaw 3 (by simp)
  have hz:=hS.1.size
  go_simp
  refine ⟨rfl,⟨?_,?_⟩,?_⟩
  ·exact below_set (below_set (below_set (below_set hS.1 hz (by omega) _) (by simp; omega) (by omega) _) (by simp; omega) (by omega) _) (by simp; omega) (by omega) _
  ·exact (((hS.2.off (by omega) _).off (by omega) _).off (by omega) _).off (by omega) _
  ·exact (((hA2.set (i:=0) (by simp) _).set (i:=1) (by simp) _).set (i:=2) (by simp) _).set (i:=3) (by simp) _
 (try simp only [Act.put,zA,zZ,zS])
 repeat (first
  | (refine Ord.ch_value (v:=?_) hT9.out (by decide) (by rfl) ?_ ?_; rotate_left; (focus (intro w5 hS; skip; go_simp<;>with_reducible rfl)); (try simp only [Act.put,zA,zZ,zS]))
  | (refine Ord.ch_off hT9.out (by decide) (by rfl) ?_; (try simp only [Act.put,zA,zZ,zS])))
 refine Ord.InText.nil fun w5 hS=>?_
 clear hT9
 obtain ⟨hC9,hA9⟩:=Ord.chain_end hS
 clear hS
 have q:=hA9.rule
 simp only [show ¬ [16].length=0 by decide,if_false] at q
 go_wp2
 exact bodyPost_ret (v:=.agg #[.int .i64 5,.int .i64 C,.int .i64 (7+lv),.int .i64 0]) (by simp [results,Tryz.results234,go_sem,q]) rfl ⟨rfl,hC9.1⟩
end
section
variable {w0 w:World} {L:List Item} {a:Nat} {vs:List Value}
theorem goOn_l (m:Nat) (fn:Fn) (fs cs:Array Value) (hv:4 < vs.length) (hE:Env w0 L w) (hm:L[m]?=some (boxI a vs)) :
  Calls Tryz.prog 71 #[.pointer (some ⟨a,4,none⟩),.func fn fs cs] w fun o w'=>o=.returned (.int .i64 0)/\Env w0 (L.set m (boxI a (vs.set 4 (.func fn fs cs)))) w':=goOn_r (o:=4) m fn fs cs hv hE hm
theorem end_l (m:Nat) (s:Int) (hv:5 < vs.length) (hE:Env w0 L w) (hm:L[m]?=some (boxI a vs)) :
  Calls Tryz.prog 129 #[.pointer (some ⟨a,4,none⟩),.int .i64 s] w fun o w'=>o=.returned (.int .i64 s)/\∃ nx,Env w0 (L.set m (boxI a ((vs.set 5 (.int .i64 s)).set 4 nx))) w':=by
 refine (end_r (o:=4) m s hv hE hm).mono ?_
 rintro o w1 ⟨rfl,h⟩
 refine ⟨rfl,vs[4],?_⟩
 have h4:(vs.set 5 (.int .i64 s)).set 4 vs[4]=vs.set 5 (.int .i64 s):=by
  apply List.ext_getElem?
  intro i
  by_cases hi:i=4
  ·subst hi
   rw [List.getElem?_set_self (by rw [List.length_set]; omega),List.getElem?_set_ne (by decide),List.getElem?_eq_getElem]
  ·rw [List.getElem?_set_ne (fun e=>hi e.symm)]
 rw [h4]
 exact h
theorem validate_l (fn:Fn) (fs cs:Array Value) (hv:4 < vs.length) (hE:Env w0 (boxI a vs::L) w) :
  Calls Tryz.prog 137 #[.pointer (some ⟨a,0,none⟩),.func fn fs cs] w fun o w'=>o=.returned (.int .i64 0)/\∃ b1 b2,Env w0 (boxI a (vs.set 4 (cvL b1 b2))::boxI b1 [.pointer (some ⟨a,0,none⟩)]::boxI b2 [.func fn fs cs]::L) w':=by
 have hmf:=makeF
 have hE1:=(hE.box w.heap.size rfl [.pointer (some ⟨a,0,none⟩)] 62).box (w.heap.size+1) (by simp) [.func fn fs cs] 144
 have r0:=hE1.rule 1 rfl
 go_enter Tryz.func137,Tryz.ntmps137
 go_wp2_with fail
 refine (goOn_l 2 _ _ _ hv hE1 rfl).mono ?_
 rintro o w1 ⟨rfl,hE2⟩
 go_wp2_with fail
 go_ret
 refine ⟨rfl,w.heap.size,w.heap.size+1,?_⟩
 exact hE2.perm (List.reverse_perm [_,_,_] |>.append_right L)
theorem stepMv_l (X:Nat) (hx:∀ (ar:Array Value) (v:World),(callFunc X ar).run Tryz.prog v=.ok (.enter X ar) v) (u:Value) (Q:Ending->World->Prop) (hn:w.cell? ⟨a,4,none⟩=some (mvL X a)) (hs:w.cell? ⟨a,5,none⟩=some (.int .i64 0)) (hc:Calls Tryz.prog X #[.pointer (some ⟨a,0,none⟩),u] w fun e w'=>∃ s,e=.returned (.int .i64 s)/\Q (.returned (.int .i64 s)) w') :
  Calls Tryz.prog 167 #[.pointer (some ⟨a,0,none⟩),u] w Q:=by
 have HST:=Lib.hid (stepMv_r (o:=4) X hx (.pointer (some ⟨a,0,none⟩)) u (fun o w'=>∃ s,o=.returned (.int .i64 s)/\Q (.returned (.int .i64 s)) w') hn hs (hc.mono fun e w' ⟨s,he,hq⟩=>⟨s,he,s,rfl,hq⟩))
 clear hn hs hc
 go_enter Tryz.func167,Tryz.ntmps167
 go_wp2_with fail
 refine HST.out.mono ?_
 rintro o w1 ⟨s,rfl,hQ⟩
 go_wp2_with fail
 exact hQ
theorem stepCv_l (b1 b2:Nat) (u:Value) (Q:Ending->World->Prop) (hn:w.cell? ⟨a,4,none⟩=some (cvL b1 b2)) (hs:w.cell? ⟨a,5,none⟩=some (.int .i64 0)) (hc:Calls Tryz.prog 177 #[u,.pointer (some ⟨b1,0,none⟩),.pointer (some ⟨b2,0,none⟩)] w fun e w'=>∃ s,e=.returned (.int .i64 s)/\Q (.returned (.int .i64 s)) w') :
  Calls Tryz.prog 167 #[.pointer (some ⟨a,0,none⟩),u] w Q:=by
 have HST:=Lib.hid (stepCv_r (o:=4) 177 b1 b2 (fun _ _=>by kernel_rfl) u (fun o w'=>∃ s,o=.returned (.int .i64 s)/\Q (.returned (.int .i64 s)) w') hn hs (hc.mono fun e w' ⟨s,he,hq⟩=>⟨s,he,s,rfl,hq⟩))
 clear hn hs hc
 go_enter Tryz.func167,Tryz.ntmps167
 go_wp2_with fail
 refine HST.out.mono ?_
 rintro o w1 ⟨s,rfl,hQ⟩
 go_wp2_with fail
 exact hQ
end
def pick4 {α:Type _} (a b c d:α):Nat->α
 | 0=>a
 | 1=>b
 | 2=>c
 | _=>d
section
variable {w0 w:World} {L:List Item} {a c:Nat} {lv key:Int} {vs:Bool} {nx:Value} {st x y z W C X wd:Int} {pf:Bool} {pv:Int}
theorem come0_l (v:Int) (hs:slotI v=0) (hv:InU v) (hg:Glo w0) (hE:Env w0 (boxI a (laneC c lv key vs nx st x y z W C X wd pf pv)::L) w) :
  Calls Tryz.prog 179 #[.pointer (some ⟨a,0,none⟩),.agg #[.int .u64 v,.int .i64 0,.bool false]] w fun o w'=>o=.returned (.int .i64 1)/\∃ nx,Env w0 (boxI a (laneC c lv key vs nx 1 x y z v 0 0 wd pf pv)::L) w':=by
 have hmf:=makeF
 have hso:=slot_of
 have hE1:=hE.box w.heap.size rfl [.int .u64 v,.int .i64 0,.bool false] 150
 have HLE:=Lib.hid fun (u:World) (hu:Below w0.heap.size w0 u)=>lead_c v 0 false u hv (hg.keep' hu)
 simp only [hs] at HLE
 clear hs
 clear hE hv hg
 go_enter Tryz.func179,Tryz.ntmps179
 go_wp2_with fail
 refine Ord.wp_chain [9,12,15] (fun u=>Below w0.heap.size w0 u/\Blk 0 u w.heap.size [.int .u64 v,.int .i64 0,.bool false]) (fun k w'=>Env w0 (pick4 (boxI w.heap.size [.int .u64 v,.int .i64 0,.bool false]::boxI a (laneC c lv key vs nx st x y z W C X wd pf pv)::L) (boxI w.heap.size [.int .u64 v,.int .i64 0,.bool false]::boxI a (laneC c lv key vs nx st x y z v C X wd pf pv)::L) (boxI w.heap.size [.int .u64 v,.int .i64 0,.bool false]::boxI a (laneC c lv key vs nx st x y z v 0 X wd pf pv)::L) (boxI w.heap.size [.int .u64 v,.int .i64 0,.bool false]::boxI a (laneC c lv key vs nx st x y z v 0 0 wd pf pv)::L) k) w') (by kernel_rfl) (by kernel_rfl) (by kernel_rfl) ⟨hE1.drew.below,hE1.drew.get 0 rfl⟩ hE1.drew (fun hT=>?_)
 have hT9:=Lib.hid hT
 clear hT
 repeat (first
  | (refine Ord.ch_value (v:=?_) hT9.out (by decide) (by rfl) ?_ ?_; rotate_left; (focus (intro w5 hS; have r:=Blk.rule hS.2; go_simp<;>with_reducible rfl)); (try simp only [Act.put,zA,zZ,zS]))
  | (refine Ord.ch_off hT9.out (by decide) (by rfl) ?_; (try simp only [Act.put,zA,zZ,zS]))
  | (refine Ord.ch_call (v:=?_) (f:=?_) (args:=?_) hT9.out (by decide) (by rfl) ?_ ?_ ?_; rotate_left 3; (focus (intro w5 hS; have r:=Blk.rule hS.2; go_simp; constructor<;>with_reducible rfl)); (focus (intro w5 hS; (first | (with_reducible refine (HLE.out _ hS.1).mono ?_; rintro o w6 ⟨rfl,hb6⟩; constructor; with_reducible rfl; exact ⟨⟨hS.1.trans (hb6.mono hS.1.size),hS.2.under hb6⟩,fun _ h=>h.over hb6⟩)))); (try simp only [Act.put,zA,zZ,zS])))
 refine Ord.ch_turn (v:=undef) 0 hT9.out rfl (by decide) (Or.inl rfl) (by rfl) ?_ ?_
 ·rintro w5 hC5 hA5
  replace hA5:Env w0 (boxI w.heap.size [.int .u64 v,.int .i64 0,.bool false]::boxI a (laneC c lv key vs nx st x y z W C X wd pf pv)::L) w5:=hA5
  have r:=hA5.rule 1 rfl
  unfold laneC at r
  have g0:=hA5.thaw 1 rfl 10 (by simp [laneC])
  have g1:=hA5.thaw 1 rfl 11 (by simp [laneC])
  have g2:=hA5.thaw 1 rfl 12 (by simp [laneC])
  go_simp
  have h9:=(((hA5.put 1 rfl (j:=10) (by simp [laneC]) (.int .u64 v)).put 1 rfl (j:=11) (by simp [laneC]) (.int .i64 0)).put 1 rfl (j:=12) (by simp [laneC]) (.bool false))
  replace h9:Env w0 (boxI w.heap.size [.int .u64 v,.int .i64 0,.bool false]::boxI a (laneC c lv key vs nx st x y z v C X wd pf pv)::L) _:=h9
  exact ⟨rfl,⟨h9.below,h9.get 0 rfl⟩,h9⟩
 (try simp only [Act.put,zA,zZ,zS])
 repeat (first
  | (refine Ord.ch_value (v:=?_) hT9.out (by decide) (by rfl) ?_ ?_; rotate_left; (focus (intro w5 hS; have r:=Blk.rule hS.2; go_simp<;>with_reducible rfl)); (try simp only [Act.put,zA,zZ,zS]))
  | (refine Ord.ch_off hT9.out (by decide) (by rfl) ?_; (try simp only [Act.put,zA,zZ,zS]))
  | (refine Ord.ch_call (v:=?_) (f:=?_) (args:=?_) hT9.out (by decide) (by rfl) ?_ ?_ ?_; rotate_left 3; (focus (intro w5 hS; have r:=Blk.rule hS.2; go_simp; constructor<;>with_reducible rfl)); (focus (intro w5 hS; (first | (with_reducible refine (HLE.out _ hS.1).mono ?_; rintro o w6 ⟨rfl,hb6⟩; constructor; with_reducible rfl; exact ⟨⟨hS.1.trans (hb6.mono hS.1.size),hS.2.under hb6⟩,fun _ h=>h.over hb6⟩)))); (try simp only [Act.put,zA,zZ,zS])))
 refine Ord.ch_turn (v:=undef) 1 hT9.out rfl (by decide) (Or.inr ⟨_,rfl,by kernel_rfl⟩) (by rfl) ?_ ?_
 ·rintro w5 hC5 hA5
  replace hA5:Env w0 (boxI w.heap.size [.int .u64 v,.int .i64 0,.bool false]::boxI a (laneC c lv key vs nx st x y z v C X wd pf pv)::L) w5:=hA5
  have r:=hA5.rule 1 rfl
  unfold laneC at r
  have g0:=hA5.thaw 1 rfl 13 (by simp [laneC])
  have g1:=hA5.thaw 1 rfl 14 (by simp [laneC])
  go_simp
  have h9:=((hA5.put 1 rfl (j:=13) (by simp [laneC]) (.int .i64 0)).put 1 rfl (j:=14) (by simp [laneC]) (.int .i64 0))
  replace h9:Env w0 (boxI w.heap.size [.int .u64 v,.int .i64 0,.bool false]::boxI a (laneC c lv key vs nx st x y z v 0 X wd pf pv)::L) _:=h9
  exact ⟨rfl,⟨h9.below,h9.get 0 rfl⟩,h9⟩
 (try simp only [Act.put,zA,zZ,zS])
 repeat (first
  | (refine Ord.ch_value (v:=?_) hT9.out (by decide) (by rfl) ?_ ?_; rotate_left; (focus (intro w5 hS; have r:=Blk.rule hS.2; go_simp<;>with_reducible rfl)); (try simp only [Act.put,zA,zZ,zS]))
  | (refine Ord.ch_off hT9.out (by decide) (by rfl) ?_; (try simp only [Act.put,zA,zZ,zS]))
  | (refine Ord.ch_call (v:=?_) (f:=?_) (args:=?_) hT9.out (by decide) (by rfl) ?_ ?_ ?_; rotate_left 3; (focus (intro w5 hS; have r:=Blk.rule hS.2; go_simp; constructor<;>with_reducible rfl)); (focus (intro w5 hS; (first | (with_reducible refine (HLE.out _ hS.1).mono ?_; rintro o w6 ⟨rfl,hb6⟩; constructor; with_reducible rfl; exact ⟨⟨hS.1.trans (hb6.mono hS.1.size),hS.2.under hb6⟩,fun _ h=>h.over hb6⟩)))); (try simp only [Act.put,zA,zZ,zS])))
 refine Ord.ch_turn (v:=undef) 2 hT9.out rfl (by decide) (Or.inr ⟨_,rfl,by kernel_rfl⟩) (by rfl) ?_ ?_
 ·rintro w5 hC5 hA5
  replace hA5:Env w0 (boxI w.heap.size [.int .u64 v,.int .i64 0,.bool false]::boxI a (laneC c lv key vs nx st x y z v 0 X wd pf pv)::L) w5:=hA5
  have r:=hA5.rule 1 rfl
  unfold laneC at r
  have g0:=hA5.thaw 1 rfl 15 (by simp [laneC])
  have g1:=hA5.thaw 1 rfl 16 (by simp [laneC])
  have g2:=hA5.thaw 1 rfl 17 (by simp [laneC])
  go_simp
  have h9:=(((hA5.put 1 rfl (j:=15) (by simp [laneC]) (.int .u64 0)).put 1 rfl (j:=16) (by simp [laneC]) (.int .i64 0)).put 1 rfl (j:=17) (by simp [laneC]) (.bool false))
  replace h9:Env w0 (boxI w.heap.size [.int .u64 v,.int .i64 0,.bool false]::boxI a (laneC c lv key vs nx st x y z v 0 0 wd pf pv)::L) _:=h9
  exact ⟨rfl,⟨h9.below,h9.get 0 rfl⟩,h9⟩
 (try simp only [Act.put,zA,zZ,zS])
 repeat (first
  | (refine Ord.ch_value (v:=?_) hT9.out (by decide) (by rfl) ?_ ?_; rotate_left; (focus (intro w5 hS; have r:=Blk.rule hS.2; go_simp<;>with_reducible rfl)); (try simp only [Act.put,zA,zZ,zS]))
  | (refine Ord.ch_off hT9.out (by decide) (by rfl) ?_; (try simp only [Act.put,zA,zZ,zS]))
  | (refine Ord.ch_call (v:=?_) (f:=?_) (args:=?_) hT9.out (by decide) (by rfl) ?_ ?_ ?_; rotate_left 3; (focus (intro w5 hS; have r:=Blk.rule hS.2; go_simp; constructor<;>with_reducible rfl)); (focus (intro w5 hS; (first | (with_reducible refine (HLE.out _ hS.1).mono ?_; rintro o w6 ⟨rfl,hb6⟩; constructor; with_reducible rfl; exact ⟨⟨hS.1.trans (hb6.mono hS.1.size),hS.2.under hb6⟩,fun _ h=>h.over hb6⟩)))); (try simp only [Act.put,zA,zZ,zS])))
 refine Ord.InText.nil fun w5 hS=>?_
 clear hT9
 obtain ⟨hC9,hA9⟩:=Ord.chain_end hS
 clear hS
 replace hA9:Env w0 (boxI w.heap.size [.int .u64 v,.int .i64 0,.bool false]::boxI a (laneC c lv key vs nx st x y z v 0 0 wd pf pv)::L) w5:=hA9
 clear hE1 hC9 HLE
 have r:=hA9.rule 1 rfl
 unfold laneC at r
 have g0:=hA9.thaw 1 rfl 13 (by simp [laneC])
 have g1:=hA9.thaw 1 rfl 14 (by simp [laneC])
 have hP:=(hA9.put 1 rfl (j:=13) (by simp [laneC]) (.int .i64 0)).put 1 rfl (j:=14) (by simp [laneC]) (.int .i64 0)
 replace hP:Env w0 (boxI w.heap.size [.int .u64 v,.int .i64 0,.bool false]::boxI a (laneC c lv key vs nx st x y z v 0 0 wd pf pv)::L) _:=hP
 go_wp2_with fail
 refine (end_l 1 1 (by simp [laneC]) hP rfl).mono ?_
 rintro o w6 ⟨rfl,nx,hE6⟩
 go_wp2_with fail
 go_ret
 exact ⟨rfl,nx,hE6.sub (.cons _ (List.Sublist.refl _))⟩
theorem comeY_l (v:Int) (hs:slotI v≠0) (hv:InU v) (hg:Glo w0) (hE:Env w0 (boxI a (laneC c lv key vs nx st x y z W C X wd pf pv)::L) w) :
  Calls Tryz.prog 179 #[.pointer (some ⟨a,0,none⟩),.agg #[.int .u64 v,.int .i64 0,.bool false]] w fun o w'=>o=.returned (.int .i64 0)/\Env w0 (boxI a (laneC c lv key vs (mvL 205 a) st x y z v (slotI v) 0 wd pf pv)::L) w':=by
 have hmf:=makeF
 have hso:=slot_of
 have hE1:=hE.box w.heap.size rfl [.int .u64 v,.int .i64 0,.bool false] 150
 have HLE:=Lib.hid fun (u:World) (hu:Below w0.heap.size w0 u)=>lead_c v 0 false u hv (hg.keep' hu)
 obtain ⟨s,hs9⟩:∃ s,slotI v=s:=⟨_,rfl⟩
 rw [hs9] at hs ⊢
 simp only [hs9] at HLE
 have hsb:(s==0)=false:=by simpa using hs
 clear hs9 hs
 clear hE hv hg
 go_enter Tryz.func179,Tryz.ntmps179
 go_wp2_with fail
 refine Ord.wp_chain [9,12,15] (fun u=>Below w0.heap.size w0 u/\Blk 0 u w.heap.size [.int .u64 v,.int .i64 0,.bool false]) (fun k w'=>Env w0 (pick4 (boxI w.heap.size [.int .u64 v,.int .i64 0,.bool false]::boxI a (laneC c lv key vs nx st x y z W C X wd pf pv)::L) (boxI w.heap.size [.int .u64 v,.int .i64 0,.bool false]::boxI a (laneC c lv key vs nx st x y z v C X wd pf pv)::L) (boxI w.heap.size [.int .u64 v,.int .i64 0,.bool false]::boxI a (laneC c lv key vs nx st x y z v s X wd pf pv)::L) (boxI w.heap.size [.int .u64 v,.int .i64 0,.bool false]::boxI a (laneC c lv key vs nx st x y z v s 0 wd pf pv)::L) k) w') (by kernel_rfl) (by kernel_rfl) (by kernel_rfl) ⟨hE1.drew.below,hE1.drew.get 0 rfl⟩ hE1.drew (fun hT=>?_)
 have hT9:=Lib.hid hT
 clear hT
 repeat (first
  | (refine Ord.ch_value (v:=?_) hT9.out (by decide) (by rfl) ?_ ?_; rotate_left; (focus (intro w5 hS; have r:=Blk.rule hS.2; go_simp<;>with_reducible rfl)); (try simp only [Act.put,zA,zZ,zS]))
  | (refine Ord.ch_off hT9.out (by decide) (by rfl) ?_; (try simp only [Act.put,zA,zZ,zS]))
  | (refine Ord.ch_call (v:=?_) (f:=?_) (args:=?_) hT9.out (by decide) (by rfl) ?_ ?_ ?_; rotate_left 3; (focus (intro w5 hS; have r:=Blk.rule hS.2; go_simp; constructor<;>with_reducible rfl)); (focus (intro w5 hS; (first | (with_reducible refine (HLE.out _ hS.1).mono ?_; rintro o w6 ⟨rfl,hb6⟩; constructor; with_reducible rfl; exact ⟨⟨hS.1.trans (hb6.mono hS.1.size),hS.2.under hb6⟩,fun _ h=>h.over hb6⟩)))); (try simp only [Act.put,zA,zZ,zS])))
 refine Ord.ch_turn (v:=undef) 0 hT9.out rfl (by decide) (Or.inl rfl) (by rfl) ?_ ?_
 ·rintro w5 hC5 hA5
  replace hA5:Env w0 (boxI w.heap.size [.int .u64 v,.int .i64 0,.bool false]::boxI a (laneC c lv key vs nx st x y z W C X wd pf pv)::L) w5:=hA5
  have r:=hA5.rule 1 rfl
  unfold laneC at r
  have g0:=hA5.thaw 1 rfl 10 (by simp [laneC])
  have g1:=hA5.thaw 1 rfl 11 (by simp [laneC])
  have g2:=hA5.thaw 1 rfl 12 (by simp [laneC])
  go_simp
  have h9:=(((hA5.put 1 rfl (j:=10) (by simp [laneC]) (.int .u64 v)).put 1 rfl (j:=11) (by simp [laneC]) (.int .i64 0)).put 1 rfl (j:=12) (by simp [laneC]) (.bool false))
  replace h9:Env w0 (boxI w.heap.size [.int .u64 v,.int .i64 0,.bool false]::boxI a (laneC c lv key vs nx st x y z v C X wd pf pv)::L) _:=h9
  exact ⟨rfl,⟨h9.below,h9.get 0 rfl⟩,h9⟩
 (try simp only [Act.put,zA,zZ,zS])
 repeat (first
  | (refine Ord.ch_value (v:=?_) hT9.out (by decide) (by rfl) ?_ ?_; rotate_left; (focus (intro w5 hS; have r:=Blk.rule hS.2; go_simp<;>with_reducible rfl)); (try simp only [Act.put,zA,zZ,zS]))
  | (refine Ord.ch_off hT9.out (by decide) (by rfl) ?_; (try simp only [Act.put,zA,zZ,zS]))
  | (refine Ord.ch_call (v:=?_) (f:=?_) (args:=?_) hT9.out (by decide) (by rfl) ?_ ?_ ?_; rotate_left 3; (focus (intro w5 hS; have r:=Blk.rule hS.2; go_simp; constructor<;>with_reducible rfl)); (focus (intro w5 hS; (first | (with_reducible refine (HLE.out _ hS.1).mono ?_; rintro o w6 ⟨rfl,hb6⟩; constructor; with_reducible rfl; exact ⟨⟨hS.1.trans (hb6.mono hS.1.size),hS.2.under hb6⟩,fun _ h=>h.over hb6⟩)))); (try simp only [Act.put,zA,zZ,zS])))
 refine Ord.ch_turn (v:=undef) 1 hT9.out rfl (by decide) (Or.inr ⟨_,rfl,by kernel_rfl⟩) (by rfl) ?_ ?_
 ·rintro w5 hC5 hA5
  replace hA5:Env w0 (boxI w.heap.size [.int .u64 v,.int .i64 0,.bool false]::boxI a (laneC c lv key vs nx st x y z v C X wd pf pv)::L) w5:=hA5
  have r:=hA5.rule 1 rfl
  unfold laneC at r
  have g0:=hA5.thaw 1 rfl 13 (by simp [laneC])
  have g1:=hA5.thaw 1 rfl 14 (by simp [laneC])
  go_simp
  have h9:=((hA5.put 1 rfl (j:=13) (by simp [laneC]) (.int .i64 s)).put 1 rfl (j:=14) (by simp [laneC]) (.int .i64 0))
  replace h9:Env w0 (boxI w.heap.size [.int .u64 v,.int .i64 0,.bool false]::boxI a (laneC c lv key vs nx st x y z v s X wd pf pv)::L) _:=h9
  exact ⟨rfl,⟨h9.below,h9.get 0 rfl⟩,h9⟩
 (try simp only [Act.put,zA,zZ,zS])
 repeat (first
  | (refine Ord.ch_value (v:=?_) hT9.out (by decide) (by rfl) ?_ ?_; rotate_left; (focus (intro w5 hS; have r:=Blk.rule hS.2; go_simp<;>with_reducible rfl)); (try simp only [Act.put,zA,zZ,zS]))
  | (refine Ord.ch_off hT9.out (by decide) (by rfl) ?_; (try simp only [Act.put,zA,zZ,zS]))
  | (refine Ord.ch_call (v:=?_) (f:=?_) (args:=?_) hT9.out (by decide) (by rfl) ?_ ?_ ?_; rotate_left 3; (focus (intro w5 hS; have r:=Blk.rule hS.2; go_simp; constructor<;>with_reducible rfl)); (focus (intro w5 hS; (first | (with_reducible refine (HLE.out _ hS.1).mono ?_; rintro o w6 ⟨rfl,hb6⟩; constructor; with_reducible rfl; exact ⟨⟨hS.1.trans (hb6.mono hS.1.size),hS.2.under hb6⟩,fun _ h=>h.over hb6⟩)))); (try simp only [Act.put,zA,zZ,zS])))
 refine Ord.ch_turn (v:=undef) 2 hT9.out rfl (by decide) (Or.inr ⟨_,rfl,by kernel_rfl⟩) (by rfl) ?_ ?_
 ·rintro w5 hC5 hA5
  replace hA5:Env w0 (boxI w.heap.size [.int .u64 v,.int .i64 0,.bool false]::boxI a (laneC c lv key vs nx st x y z v s X wd pf pv)::L) w5:=hA5
  have r:=hA5.rule 1 rfl
  unfold laneC at r
  have g0:=hA5.thaw 1 rfl 15 (by simp [laneC])
  have g1:=hA5.thaw 1 rfl 16 (by simp [laneC])
  have g2:=hA5.thaw 1 rfl 17 (by simp [laneC])
  go_simp
  have h9:=(((hA5.put 1 rfl (j:=15) (by simp [laneC]) (.int .u64 0)).put 1 rfl (j:=16) (by simp [laneC]) (.int .i64 0)).put 1 rfl (j:=17) (by simp [laneC]) (.bool false))
  replace h9:Env w0 (boxI w.heap.size [.int .u64 v,.int .i64 0,.bool false]::boxI a (laneC c lv key vs nx st x y z v s 0 wd pf pv)::L) _:=h9
  exact ⟨rfl,⟨h9.below,h9.get 0 rfl⟩,h9⟩
 (try simp only [Act.put,zA,zZ,zS])
 repeat (first
  | (refine Ord.ch_value (v:=?_) hT9.out (by decide) (by rfl) ?_ ?_; rotate_left; (focus (intro w5 hS; have r:=Blk.rule hS.2; go_simp<;>with_reducible rfl)); (try simp only [Act.put,zA,zZ,zS]))
  | (refine Ord.ch_off hT9.out (by decide) (by rfl) ?_; (try simp only [Act.put,zA,zZ,zS]))
  | (refine Ord.ch_call (v:=?_) (f:=?_) (args:=?_) hT9.out (by decide) (by rfl) ?_ ?_ ?_; rotate_left 3; (focus (intro w5 hS; have r:=Blk.rule hS.2; go_simp; constructor<;>with_reducible rfl)); (focus (intro w5 hS; (first | (with_reducible refine (HLE.out _ hS.1).mono ?_; rintro o w6 ⟨rfl,hb6⟩; constructor; with_reducible rfl; exact ⟨⟨hS.1.trans (hb6.mono hS.1.size),hS.2.under hb6⟩,fun _ h=>h.over hb6⟩)))); (try simp only [Act.put,zA,zZ,zS])))
 refine Ord.InText.nil fun w5 hS=>?_
 clear hT9
 obtain ⟨hC9,hA9⟩:=Ord.chain_end hS
 clear hS
 replace hA9:Env w0 (boxI w.heap.size [.int .u64 v,.int .i64 0,.bool false]::boxI a (laneC c lv key vs nx st x y z v s 0 wd pf pv)::L) w5:=hA9
 clear hE1 hC9 HLE
 have r:=hA9.rule 1 rfl
 unfold laneC at r
 go_wp2_with fail
 refine (goOn_l 1 _ _ _ (by simp [laneC]) hA9 rfl).mono ?_
 rintro o w6 ⟨rfl,hE6⟩
 go_wp2_with fail
 go_ret
 exact ⟨rfl,hE6.sub (.cons _ (List.Sublist.refl _))⟩
end
section
variable {w0 w:World} {R:List Item} {a:Nat} {S:ST} {lv key:Int} {vs:Bool} {nx:Value} {st x y z W C X wd:Int} {pf:Bool} {pv:Int}
theorem loadInto_l (v:Int) (hfx:S.f (x,y,z)=v) (hwf:Wf (x,y,z)) (hE:Env w0 (boxI a (laneC S.c lv key vs nx st x y z W C X wd pf pv)::LT S R) w) :
  Calls Tryz.prog 74 #[.pointer (some ⟨a,0,none⟩),.iface 26 (.pointer (some ⟨S.p,0,none⟩))] w fun o w'=>o=.returned (.int .i64 0)/\∃ b1 b2,Env w0 (boxI a (laneC S.c lv key vs (cvL b1 b2) st x y z v C X wd pf pv)::boxI b1 [.pointer (some ⟨a,0,none⟩)]::boxI b2 [mvL 138 a]::LT { S with qc:={ S.qc with l:=wrap64 (S.qc.l+1) } } R) w':=by
 have hmf:=makeF
 have hah:=ahead_load
 have hvw:=val_word
 have HX:=Lib.hid hfx
 have HWF:=Lib.hid hwf
 clear hfx hwf
 go_enter Tryz.func74,Tryz.ntmps74
 go_wp2_with fail
 refine Ord.wp_chain [9,12] (fun u=>Below w0.heap.size w0 u/\∃ n8,Blk 0 u a (laneC S.c lv key vs nx st x y z n8 C X wd pf pv)) (fun k w'=>Env w0 (pick3 (boxI a (laneC S.c lv key vs nx st x y z W C X wd pf pv)::LT S R) (boxI a (laneC S.c lv key vs nx st x y z W C X wd pf pv)::LT { S with qc:={ S.qc with l:=wrap64 (S.qc.l+1) } } R) (boxI a (laneC S.c lv key vs nx st x y z v C X wd pf pv)::LT { S with qc:={ S.qc with l:=wrap64 (S.qc.l+1) } } R) k) w') (by kernel_rfl) (by kernel_rfl) (by kernel_rfl) ⟨hE.drew.below,W,hE.drew.get 0 rfl⟩ hE.drew (fun hT=>?_)
 have hT9:=Lib.hid hT
 clear hT
 repeat (first
  | (refine Ord.ch_value (v:=?_) hT9.out (by decide) (by rfl) ?_ ?_; rotate_left; (focus (intro w5 hS; obtain ⟨hS0,n9,hS1⟩:=hS; have r:=Blk.rule hS1; unfold laneC at r; go_simp<;>with_reducible rfl)); (try simp only [Act.put,zA,zZ,zS]))
  | (refine Ord.ch_off hT9.out (by decide) (by rfl) ?_; (try simp only [Act.put,zA,zZ,zS])))
 refine Ord.ch_turn (v:=.agg #[.int .u64 v,.int .i64 0,.bool false]) 0 hT9.out rfl (by decide) (Or.inl rfl) (by rfl) ?_ ?_
 ·rintro w5 hC5 hA5
  replace hA5:Env w0 (boxI a (laneC S.c lv key vs nx st x y z W C X wd pf pv)::LT S R) w5:=hA5
  go_simp
  rw [method_load]
  simp only [Result.andThen_ok]
  go_simp
  simp only [Ord.LandsIn]
  have hl:=load_w x y z 0 HWF.out 3 4 (by decide) hA5 rfl rfl
  rw [HX.out] at hl
  refine hl.mono ?_
  rintro e w6 ⟨rfl,hE6⟩
  exact ⟨rfl,⟨hE6.below,_,hE6.get 0 rfl⟩,hE6⟩
 (try simp only [Act.put,zA,zZ,zS])
 repeat (first
  | (refine Ord.ch_value (v:=?_) hT9.out (by decide) (by rfl) ?_ ?_; rotate_left; (focus (intro w5 hS; skip; go_simp<;>with_reducible rfl)); (try simp only [Act.put,zA,zZ,zS]))
  | (refine Ord.ch_off hT9.out (by decide) (by rfl) ?_; (try simp only [Act.put,zA,zZ,zS])))
 refine Ord.ch_turn (v:=undef) 1 hT9.out rfl (by decide) (Or.inr ⟨_,rfl,by kernel_rfl⟩) (by rfl) ?_ ?_
 ·rintro w5 hC5 hA5
  replace hA5:Env w0 (boxI a (laneC S.c lv key vs nx st x y z W C X wd pf pv)::LT { S with qc:={ S.qc with l:=wrap64 (S.qc.l+1) } } R) w5:=hA5
  have r:=hA5.rule 0 rfl
  unfold laneC at r
  have g0:=hA5.thaw 0 rfl 10 (by simp [laneC])
  have g1:=hA5.thaw 0 rfl 11 (by simp [laneC])
  have g2:=hA5.thaw 0 rfl 12 (by simp [laneC])
  go_simp
  have h9:=(((hA5.put 0 rfl (j:=10) (by simp [laneC]) (.int .u64 v)).put 0 rfl (j:=11) (by simp [laneC]) (.int .i64 0)).put 0 rfl (j:=12) (by simp [laneC]) (.bool false))
  replace h9:Env w0 (boxI a (laneC S.c lv key vs nx st x y z v C X wd pf pv)::LT { S with qc:={ S.qc with l:=wrap64 (S.qc.l+1) } } R) _:=h9
  exact ⟨rfl,⟨h9.below,_,h9.get 0 rfl⟩,h9⟩
 (try simp only [Act.put,zA,zZ,zS])
 repeat (first
  | (refine Ord.ch_value (v:=?_) hT9.out (by decide) (by rfl) ?_ ?_; rotate_left; (focus (intro w5 hS; skip; go_simp<;>with_reducible rfl)); (try simp only [Act.put,zA,zZ,zS]))
  | (refine Ord.ch_off hT9.out (by decide) (by rfl) ?_; (try simp only [Act.put,zA,zZ,zS])))
 refine Ord.InText.nil fun w5 hS=>?_
 clear hT9
 obtain ⟨hC9,hA9⟩:=Ord.chain_end hS
 clear hS
 replace hA9:Env w0 (boxI a (laneC S.c lv key vs nx st x y z v C X wd pf pv)::LT { S with qc:={ S.qc with l:=wrap64 (S.qc.l+1) } } R) w5:=hA9
 clear hE hC9
 have r:=hA9.rule 0 rfl
 unfold laneC at r
 go_wp2_with fail
 refine (validate_l _ _ _ (by simp [laneC]) hA9).mono ?_
 rintro o w6 ⟨rfl,b1,b2,hE6⟩
 go_wp2_with fail
 go_ret
 exact ⟨rfl,b1,b2,hE6⟩
theorem loadOut_l (hlv:0<=lv/\lv<=1000000) (v:Int) (hfx:S.f (5,C,7+lv)=v) (hwf:Wf (5,C,7+lv)) (hE:Env w0 (boxI a (laneC S.c lv key vs nx st x y z W C X wd pf pv)::LT S R) w) :
  Calls Tryz.prog 205 #[.pointer (some ⟨a,0,none⟩),.iface 26 (.pointer (some ⟨S.p,0,none⟩))] w fun o w'=>o=.returned (.int .i64 0)/\∃ b1 b2,Env w0 (boxI a (laneC S.c lv key vs (cvL b1 b2) st x y z W C v wd pf pv)::boxI b1 [.pointer (some ⟨a,0,none⟩)]::boxI b2 [mvL 235 a]::LT { S with qc:={ S.qc with l:=wrap64 (S.qc.l+1) } } R) w':=by
 have hmf:=makeF
 have hah:=ahead_load
 have hvw:=val_word
 have HX:=Lib.hid hfx
 have HWF:=Lib.hid hwf
 clear hfx hwf
 go_enter Tryz.func205,Tryz.ntmps205
 go_wp2_with fail
 refine Ord.wp_chain [7,10] (fun u=>Below w0.heap.size w0 u/\∃ n8,Blk 0 u a (laneC S.c lv key vs nx st x y z W C n8 wd pf pv)) (fun k w'=>Env w0 (pick3 (boxI a (laneC S.c lv key vs nx st x y z W C X wd pf pv)::LT S R) (boxI a (laneC S.c lv key vs nx st x y z W C X wd pf pv)::LT { S with qc:={ S.qc with l:=wrap64 (S.qc.l+1) } } R) (boxI a (laneC S.c lv key vs nx st x y z W C v wd pf pv)::LT { S with qc:={ S.qc with l:=wrap64 (S.qc.l+1) } } R) k) w') (by kernel_rfl) (by kernel_rfl) (by kernel_rfl) ⟨hE.drew.below,X,hE.drew.get 0 rfl⟩ hE.drew (fun hT=>?_)
 have hT9:=Lib.hid hT
 clear hT
 repeat (first
  | (refine Ord.ch_value (v:=?_) hT9.out (by decide) (by rfl) ?_ ?_; rotate_left; (focus (intro w5 hS; obtain ⟨hS0,n9,hS1⟩:=hS; have r:=Blk.rule hS1; unfold laneC at r; go_simp<;>with_reducible rfl)); (try simp only [Act.put,zA,zZ,zS]))
  | (refine Ord.ch_off hT9.out (by decide) (by rfl) ?_; (try simp only [Act.put,zA,zZ,zS]))
  | (refine Ord.ch_call (v:=?_) (f:=?_) (args:=?_) hT9.out (by decide) (by rfl) ?_ ?_ ?_; rotate_left 3; (focus (intro w5 hS; obtain ⟨hS0,n9,hS1⟩:=hS; have r:=Blk.rule hS1; unfold laneC at r; go_simp; constructor<;>with_reducible rfl)); (focus (intro w5 hS; (first | (obtain ⟨hS0,n9,hS1⟩:=hS; with_reducible refine (nextLink_l hlv hS1).mono ?_; rintro e w6 ⟨rfl,hb6⟩; constructor; with_reducible rfl; exact ⟨⟨hS0.trans (hb6.mono hS0.size),n9,hS1.under hb6⟩,fun k h=>h.over hb6⟩)))); (try simp only [Act.put,zA,zZ,zS])))
 refine Ord.ch_turn (v:=.agg #[.int .u64 v,.int .i64 0,.bool false]) 0 hT9.out rfl (by decide) (Or.inl rfl) (by rfl) ?_ ?_
 ·rintro w5 hC5 hA5
  replace hA5:Env w0 (boxI a (laneC S.c lv key vs nx st x y z W C X wd pf pv)::LT S R) w5:=hA5
  go_simp
  rw [method_load]
  simp only [Result.andThen_ok]
  go_simp
  simp only [Ord.LandsIn]
  have hl:=load_w 5 C (7+lv) 0 HWF.out 3 4 (by decide) hA5 rfl rfl
  rw [HX.out] at hl
  refine hl.mono ?_
  rintro e w6 ⟨rfl,hE6⟩
  exact ⟨rfl,⟨hE6.below,_,hE6.get 0 rfl⟩,hE6⟩
 (try simp only [Act.put,zA,zZ,zS])
 repeat (first
  | (refine Ord.ch_value (v:=?_) hT9.out (by decide) (by rfl) ?_ ?_; rotate_left; (focus (intro w5 hS; skip; go_simp<;>with_reducible rfl)); (try simp only [Act.put,zA,zZ,zS]))
  | (refine Ord.ch_off hT9.out (by decide) (by rfl) ?_; (try simp only [Act.put,zA,zZ,zS])))
 refine Ord.ch_turn (v:=undef) 1 hT9.out rfl (by decide) (Or.inr ⟨_,rfl,by kernel_rfl⟩) (by rfl) ?_ ?_
 ·rintro w5 hC5 hA5
  replace hA5:Env w0 (boxI a (laneC S.c lv key vs nx st x y z W C X wd pf pv)::LT { S with qc:={ S.qc with l:=wrap64 (S.qc.l+1) } } R) w5:=hA5
  have r:=hA5.rule 0 rfl
  unfold laneC at r
  have g0:=hA5.thaw 0 rfl 15 (by simp [laneC])
  have g1:=hA5.thaw 0 rfl 16 (by simp [laneC])
  have g2:=hA5.thaw 0 rfl 17 (by simp [laneC])
  go_simp
  have h9:=(((hA5.put 0 rfl (j:=15) (by simp [laneC]) (.int .u64 v)).put 0 rfl (j:=16) (by simp [laneC]) (.int .i64 0)).put 0 rfl (j:=17) (by simp [laneC]) (.bool false))
  replace h9:Env w0 (boxI a (laneC S.c lv key vs nx st x y z W C v wd pf pv)::LT { S with qc:={ S.qc with l:=wrap64 (S.qc.l+1) } } R) _:=h9
  exact ⟨rfl,⟨h9.below,_,h9.get 0 rfl⟩,h9⟩
 (try simp only [Act.put,zA,zZ,zS])
 repeat (first
  | (refine Ord.ch_value (v:=?_) hT9.out (by decide) (by rfl) ?_ ?_; rotate_left; (focus (intro w5 hS; skip; go_simp<;>with_reducible rfl)); (try simp only [Act.put,zA,zZ,zS]))
  | (refine Ord.ch_off hT9.out (by decide) (by rfl) ?_; (try simp only [Act.put,zA,zZ,zS])))
 refine Ord.InText.nil fun w5 hS=>?_
 clear hT9
 obtain ⟨hC9,hA9⟩:=Ord.chain_end hS
 clear hS
 replace hA9:Env w0 (boxI a (laneC S.c lv key vs nx st x y z W C v wd pf pv)::LT { S with qc:={ S.qc with l:=wrap64 (S.qc.l+1) } } R) w5:=hA9
 clear hE hC9
 have r:=hA9.rule 0 rfl
 unfold laneC at r
 go_wp2_with fail
 refine (validate_l _ _ _ (by simp [laneC]) hA9).mono ?_
 rintro o w6 ⟨rfl,b1,b2,hE6⟩
 go_wp2_with fail
 go_ret
 exact ⟨rfl,b1,b2,hE6⟩
theorem loadKey_l (v:Int) (hfx:S.f (5,C,3)=v) (hwf:Wf (5,C,3)) (hE:Env w0 (boxI a (laneC S.c lv key vs nx st x y z W C X wd pf pv)::LT S R) w) :
  Calls Tryz.prog 253 #[.pointer (some ⟨a,0,none⟩),.iface 26 (.pointer (some ⟨S.p,0,none⟩))] w fun o w'=>o=.returned (.int .i64 0)/\∃ b1 b2,Env w0 (boxI a (laneC S.c lv key vs (cvL b1 b2) st x y z W C X v pf pv)::boxI b1 [.pointer (some ⟨a,0,none⟩)]::boxI b2 [mvL 265 a]::LT { S with qc:={ S.qc with l:=wrap64 (S.qc.l+1) } } R) w':=by
 have hmf:=makeF
 have hah:=ahead_load
 have hvw:=val_word
 have HX:=Lib.hid hfx
 have HWF:=Lib.hid hwf
 clear hfx hwf
 go_enter Tryz.func253,Tryz.ntmps253
 go_wp2_with fail
 refine Ord.wp_chain [7,11] (fun u=>Below w0.heap.size w0 u/\∃ n8,Blk 0 u a (laneC S.c lv key vs nx st x y z W C X n8 pf pv)) (fun k w'=>Env w0 (pick3 (boxI a (laneC S.c lv key vs nx st x y z W C X wd pf pv)::LT S R) (boxI a (laneC S.c lv key vs nx st x y z W C X wd pf pv)::LT { S with qc:={ S.qc with l:=wrap64 (S.qc.l+1) } } R) (boxI a (laneC S.c lv key vs nx st x y z W C X v pf pv)::LT { S with qc:={ S.qc with l:=wrap64 (S.qc.l+1) } } R) k) w') (by kernel_rfl) (by kernel_rfl) (by kernel_rfl) ⟨hE.drew.below,wd,hE.drew.get 0 rfl⟩ hE.drew (fun hT=>?_)
 have hT9:=Lib.hid hT
 clear hT
 repeat (first
  | (refine Ord.ch_value (v:=?_) hT9.out (by decide) (by rfl) ?_ ?_; rotate_left; (focus (intro w5 hS; obtain ⟨hS0,n9,hS1⟩:=hS; have r:=Blk.rule hS1; unfold laneC at r; go_simp<;>with_reducible rfl)); (try simp only [Act.put,zA,zZ,zS]))
  | (refine Ord.ch_off hT9.out (by decide) (by rfl) ?_; (try simp only [Act.put,zA,zZ,zS]))
  | (refine Ord.ch_call (v:=?_) (f:=?_) (args:=?_) hT9.out (by decide) (by rfl) ?_ ?_ ?_; rotate_left 3; (focus (intro w5 hS; obtain ⟨hS0,n9,hS1⟩:=hS; have r:=Blk.rule hS1; unfold laneC at r; go_simp; constructor<;>with_reducible rfl)); (focus (intro w5 hS; (first | (obtain ⟨hS0,n9,hS1⟩:=hS; with_reducible refine (part_l 3 hS1).mono ?_; rintro e w6 ⟨rfl,hb6⟩; constructor; with_reducible rfl; exact ⟨⟨hS0.trans (hb6.mono hS0.size),n9,hS1.under hb6⟩,fun k h=>h.over hb6⟩)))); (try simp only [Act.put,zA,zZ,zS])))
 refine Ord.ch_turn (v:=.agg #[.int .u64 v,.int .i64 0,.bool false]) 0 hT9.out rfl (by decide) (Or.inl rfl) (by rfl) ?_ ?_
 ·rintro w5 hC5 hA5
  replace hA5:Env w0 (boxI a (laneC S.c lv key vs nx st x y z W C X wd pf pv)::LT S R) w5:=hA5
  go_simp
  rw [method_load]
  simp only [Result.andThen_ok]
  go_simp
  simp only [Ord.LandsIn]
  have hl:=load_w 5 C 3 0 HWF.out 3 4 (by decide) hA5 rfl rfl
  rw [HX.out] at hl
  refine hl.mono ?_
  rintro e w6 ⟨rfl,hE6⟩
  exact ⟨rfl,⟨hE6.below,_,hE6.get 0 rfl⟩,hE6⟩
 (try simp only [Act.put,zA,zZ,zS])
 repeat (first
  | (refine Ord.ch_value (v:=?_) hT9.out (by decide) (by rfl) ?_ ?_; rotate_left; (focus (intro w5 hS; skip; go_simp<;>with_reducible rfl)); (try simp only [Act.put,zA,zZ,zS]))
  | (refine Ord.ch_off hT9.out (by decide) (by rfl) ?_; (try simp only [Act.put,zA,zZ,zS])))
 refine Ord.ch_turn (v:=undef) 1 hT9.out rfl (by decide) (Or.inr ⟨_,rfl,by kernel_rfl⟩) (by rfl) ?_ ?_
 ·rintro w5 hC5 hA5
  replace hA5:Env w0 (boxI a (laneC S.c lv key vs nx st x y z W C X wd pf pv)::LT { S with qc:={ S.qc with l:=wrap64 (S.qc.l+1) } } R) w5:=hA5
  have r:=hA5.rule 0 rfl
  unfold laneC at r
  have g0:=hA5.thaw 0 rfl 18 (by simp [laneC])
  go_simp
  have h9:=(hA5.put 0 rfl (j:=18) (by simp [laneC]) (.int .u64 v))
  replace h9:Env w0 (boxI a (laneC S.c lv key vs nx st x y z W C X v pf pv)::LT { S with qc:={ S.qc with l:=wrap64 (S.qc.l+1) } } R) _:=h9
  exact ⟨rfl,⟨h9.below,_,h9.get 0 rfl⟩,h9⟩
 (try simp only [Act.put,zA,zZ,zS])
 repeat (first
  | (refine Ord.ch_value (v:=?_) hT9.out (by decide) (by rfl) ?_ ?_; rotate_left; (focus (intro w5 hS; skip; go_simp<;>with_reducible rfl)); (try simp only [Act.put,zA,zZ,zS]))
  | (refine Ord.ch_off hT9.out (by decide) (by rfl) ?_; (try simp only [Act.put,zA,zZ,zS])))
 refine Ord.InText.nil fun w5 hS=>?_
 clear hT9
 obtain ⟨hC9,hA9⟩:=Ord.chain_end hS
 clear hS
 replace hA9:Env w0 (boxI a (laneC S.c lv key vs nx st x y z W C X v pf pv)::LT { S with qc:={ S.qc with l:=wrap64 (S.qc.l+1) } } R) w5:=hA9
 clear hE hC9
 have r:=hA9.rule 0 rfl
 unfold laneC at r
 go_wp2_with fail
 refine (validate_l _ _ _ (by simp [laneC]) hA9).mono ?_
 rintro o w6 ⟨rfl,b1,b2,hE6⟩
 go_wp2_with fail
 go_ret
 exact ⟨rfl,b1,b2,hE6⟩
theorem loadVal_l (v:Int) (hfx:S.f (5,C,4)=v) (hwf:Wf (5,C,4)) (hE:Env w0 (boxI a (laneC S.c lv key vs nx st x y z W C X wd pf pv)::LT S R) w) :
  Calls Tryz.prog 274 #[.pointer (some ⟨a,0,none⟩),.iface 26 (.pointer (some ⟨S.p,0,none⟩))] w fun o w'=>o=.returned (.int .i64 0)/\∃ b1 b2,Env w0 (boxI a (laneC S.c lv key vs (cvL b1 b2) st x y z W C X v pf pv)::boxI b1 [.pointer (some ⟨a,0,none⟩)]::boxI b2 [mvL 277 a]::LT { S with qc:={ S.qc with l:=wrap64 (S.qc.l+1) } } R) w':=by
 have hmf:=makeF
 have hah:=ahead_load
 have hvw:=val_word
 have HX:=Lib.hid hfx
 have HWF:=Lib.hid hwf
 clear hfx hwf
 go_enter Tryz.func274,Tryz.ntmps274
 go_wp2_with fail
 refine Ord.wp_chain [7,11] (fun u=>Below w0.heap.size w0 u/\∃ n8,Blk 0 u a (laneC S.c lv key vs nx st x y z W C X n8 pf pv)) (fun k w'=>Env w0 (pick3 (boxI a (laneC S.c lv key vs nx st x y z W C X wd pf pv)::LT S R) (boxI a (laneC S.c lv key vs nx st x y z W C X wd pf pv)::LT { S with qc:={ S.qc with l:=wrap64 (S.qc.l+1) } } R) (boxI a (laneC S.c lv key vs nx st x y z W C X v pf pv)::LT { S with qc:={ S.qc with l:=wrap64 (S.qc.l+1) } } R) k) w') (by kernel_rfl) (by kernel_rfl) (by kernel_rfl) ⟨hE.drew.below,wd,hE.drew.get 0 rfl⟩ hE.drew (fun hT=>?_)
 have hT9:=Lib.hid hT
 clear hT
 repeat (first
  | (refine Ord.ch_value (v:=?_) hT9.out (by decide) (by rfl) ?_ ?_; rotate_left; (focus (intro w5 hS; obtain ⟨hS0,n9,hS1⟩:=hS; have r:=Blk.rule hS1; unfold laneC at r; go_simp<;>with_reducible rfl)); (try simp only [Act.put,zA,zZ,zS]))
  | (refine Ord.ch_off hT9.out (by decide) (by rfl) ?_; (try simp only [Act.put,zA,zZ,zS]))
  | (refine Ord.ch_call (v:=?_) (f:=?_) (args:=?_) hT9.out (by decide) (by rfl) ?_ ?_ ?_; rotate_left 3; (focus (intro w5 hS; obtain ⟨hS0,n9,hS1⟩:=hS; have r:=Blk.rule hS1; unfold laneC at r; go_simp; constructor<;>with_reducible rfl)); (focus (intro w5 hS; (first | (obtain ⟨hS0,n9,hS1⟩:=hS; with_reducible refine (part_l 4 hS1).mono ?_; rintro e w6 ⟨rfl,hb6⟩; constructor; with_reducible rfl; exact ⟨⟨hS0.trans (hb6.mono hS0.size),n9,hS1.under hb6⟩,fun k h=>h.over hb6⟩)))); (try simp only [Act.put,zA,zZ,zS])))
 refine Ord.ch_turn (v:=.agg #[.int .u64 v,.int .i64 0,.bool false]) 0 hT9.out rfl (by decide) (Or.inl rfl) (by rfl) ?_ ?_
 ·rintro w5 hC5 hA5
  replace hA5:Env w0 (boxI a (laneC S.c lv key vs nx st x y z W C X wd pf pv)::LT S R) w5:=hA5
  go_simp
  rw [method_load]
  simp only [Result.andThen_ok]
  go_simp
  simp only [Ord.LandsIn]
  have hl:=load_w 5 C 4 0 HWF.out 3 4 (by decide) hA5 rfl rfl
  rw [HX.out] at hl
  refine hl.mono ?_
  rintro e w6 ⟨rfl,hE6⟩
  exact ⟨rfl,⟨hE6.below,_,hE6.get 0 rfl⟩,hE6⟩
 (try simp only [Act.put,zA,zZ,zS])
 repeat (first
  | (refine Ord.ch_value (v:=?_) hT9.out (by decide) (by rfl) ?_ ?_; rotate_left; (focus (intro w5 hS; skip; go_simp<;>with_reducible rfl)); (try simp only [Act.put,zA,zZ,zS]))
  | (refine Ord.ch_off hT9.out (by decide) (by rfl) ?_; (try simp only [Act.put,zA,zZ,zS])))
 refine Ord.ch_turn (v:=undef) 1 hT9.out rfl (by decide) (Or.inr ⟨_,rfl,by kernel_rfl⟩) (by rfl) ?_ ?_
 ·rintro w5 hC5 hA5
  replace hA5:Env w0 (boxI a (laneC S.c lv key vs nx st x y z W C X wd pf pv)::LT { S with qc:={ S.qc with l:=wrap64 (S.qc.l+1) } } R) w5:=hA5
  have r:=hA5.rule 0 rfl
  unfold laneC at r
  have g0:=hA5.thaw 0 rfl 18 (by simp [laneC])
  go_simp
  have h9:=(hA5.put 0 rfl (j:=18) (by simp [laneC]) (.int .u64 v))
  replace h9:Env w0 (boxI a (laneC S.c lv key vs nx st x y z W C X v pf pv)::LT { S with qc:={ S.qc with l:=wrap64 (S.qc.l+1) } } R) _:=h9
  exact ⟨rfl,⟨h9.below,_,h9.get 0 rfl⟩,h9⟩
 (try simp only [Act.put,zA,zZ,zS])
 repeat (first
  | (refine Ord.ch_value (v:=?_) hT9.out (by decide) (by rfl) ?_ ?_; rotate_left; (focus (intro w5 hS; skip; go_simp<;>with_reducible rfl)); (try simp only [Act.put,zA,zZ,zS]))
  | (refine Ord.ch_off hT9.out (by decide) (by rfl) ?_; (try simp only [Act.put,zA,zZ,zS])))
 refine Ord.InText.nil fun w5 hS=>?_
 clear hT9
 obtain ⟨hC9,hA9⟩:=Ord.chain_end hS
 clear hS
 replace hA9:Env w0 (boxI a (laneC S.c lv key vs nx st x y z W C X v pf pv)::LT { S with qc:={ S.qc with l:=wrap64 (S.qc.l+1) } } R) w5:=hA9
 clear hE hC9
 have r:=hA9.rule 0 rfl
 unfold laneC at r
 go_wp2_with fail
 refine (validate_l _ _ _ (by simp [laneC]) hA9).mono ?_
 rintro o w6 ⟨rfl,b1,b2,hE6⟩
 go_wp2_with fail
 go_ret
 exact ⟨rfl,b1,b2,hE6⟩
end
theorem AF_over {w0 w w':World} {z0:List Value} {St:List Value->List Item->List Value->Prop} {κs:List Value} {fo:Option Value} (h:OrdF.AF w0 z0 St κs fo w) (hb:Below w.heap.size w w'):OrdF.AF w0 z0 St κs fo w':=by
 obtain ⟨L,zs,hst,⟨h1,h2,hE⟩ | ⟨n,hn,hE⟩⟩:=h
 ·exact ⟨L,zs,hst,.inl ⟨h1,h2,hE.over hb⟩⟩
 ·exact ⟨L,zs,hst,.inr ⟨n,hn,hE.over hb⟩⟩
end Go.Proofs.YthcblagpbkaoaaaGreatDoor
namespace Go.Proofs.YthcblagpbkaoaaaGreatDoor
open Go
set_option maxRecDepth 100000
set_option maxHeartbeats 25600000
section
variable {P:Program} {ops:Array Oper} {Q:Exit->Act->World->Prop} {md:Region.Mode} {S:World->Prop}
def LandsIn (P:Program) (S:World->Prop) (v:Value):Result Next->Prop
 | .ok (.value u) w'=>u=v/\S w'
 | .ok .skip w'=>v=undef/\S w'
 | .ok (.enter f args) w'=>Calls P f args w' fun e w''=>e=.returned v/\S w''
 | _=>False
def Settles (P:Program) (ops:Array Oper) (S:World->Prop) (o:Oper) (v:Value) (a:Act):Prop :=
 (Region.wanted o (yielded ops a.tmps)=true/\∀ w,S w->LandsIn P S v ((execOp a.eval o).run P w))\/(Region.wanted o (yielded ops a.tmps)=false/\v=undef)
theorem Settles.of_same {o:Oper} {v:Value} {a a':Act} (h:Settles P ops S o v a) (he:execOp a'.eval o=execOp a.eval o)
  (hw:Region.wanted o (yielded ops a'.tmps)=Region.wanted o (yielded ops a.tmps)):Settles P ops S o v a':=by
 unfold Settles at *
 rw [he,hw]
 exact h
theorem Settles.wpOp {i:Nat} {o:Oper} {v:Value} {a:Act} (hi:ops[i]?=some o) (h:Settles P ops S o v a) {K:Act->World->Prop} {w:World} (hS:S w)
  (hK:∀ w',S w'->K (a.put o.dst v) w'):wpOp P ops Q i K a w:=by
 unfold Go.wpOp
 simp only [hi]
 rcases h with ⟨hw,hv⟩ | ⟨hw,rfl⟩
 ·simp only [hw,if_true]
  have:=hv w hS
  refine .inl ?_
  unfold Oper.wp
  generalize (execOp a.eval o).run P w=r at *
  cases r with
  | ok n w' =>
   cases n<;>simp only [LandsIn] at this<;>simp only [Oper.upon]
   case value u=>obtain ⟨rfl,h2⟩:=this; exact hK _ h2
   case skip=>obtain ⟨rfl,h2⟩:=this; exact hK _ h2
   case enter f args =>
    refine Calls.mono this fun e w'' he=>?_
    obtain ⟨rfl,h2⟩:=he
    exact hK _ h2
  | halt x w'=>simp only [LandsIn] at this
 ·simp only [hw,Bool.false_eq_true,if_false]
  exact hK _ hS
def Every (P:Program) (md:Region.Mode) (ops:Array Oper) (Q:Exit->Act->World->Prop) (S:World->Prop):Nat->Array Bool->Act->Prop
 | 0,listed,a=>Region.ready md ops listed=[]/\∀ w,S w->Q .normal a w
 | fuel+1,listed,a=>(Region.ready md ops listed=[]->∀ w,S w->Q .normal a w) /\
  ∀ i∈Region.ready md ops listed,∃ o v,ops[i]?=some o/\Settles P ops S o v a/\Every P md ops Q S fuel (listed.setIfInBounds i true) (a.put o.dst v)
theorem Every.sound:∀ (fuel:Nat) (listed:Array Bool) (a:Act),Every P md ops Q S fuel listed a->∀ w,S w->wpAny P md ops Q fuel listed a w
 | 0,_,_,h,w,hS=>⟨h.1,h.2 w hS⟩
 | fuel+1,listed,a,h,w,hS=>⟨fun h0=>h.1 h0 w hS,fun i hi=>by
   obtain ⟨o,v,ho,hs,hE⟩:=h.2 i hi
   exact hs.wpOp ho hS fun w' hS'=>Every.sound fuel _ _ hE w' hS'⟩
theorem Every.first {i:Nat} {oi:Oper} {v:Value} (hi:ops[i]?=some oi) (hsel:∀ (j:Nat) (o:Oper) cs b,ops[j]?=some o->o.op≠.select cs b) :
  ∀ (fuel:Nat) (listed:Array Bool) (a:Act),
   (∀ j oj,ops[j]?=some oj->j≠i->listed.getD j true=false->(∀ e∈oj.after,Region.binds md e=true->e.on≠i)->oi.apart ops oj=true) ->
   i∈Region.ready md ops listed->Settles P ops S oi v a ->
   Every P md ops Q S fuel (listed.setIfInBounds i true) (a.put oi.dst v)->Every P md ops Q S (fuel+1) listed a:=by
 intro fuel
 induction fuel with
 | zero =>
  intro listed a _ hr hy H
  refine ⟨fun h=>(by rw [h] at hr; cases hr),fun j hj=>?_⟩
  by_cases hji:j=i
  ·subst hji; exact ⟨oi,v,hi,hy,H⟩
  ·have:=ready_mono hj hji
   rw [H.1] at this
   cases this
 | succ fuel ih =>
  intro listed a hfree hr hy H
  refine ⟨fun h=>(by rw [h] at hr; cases hr),fun j hj=>?_⟩
  by_cases hji:j=i
  ·subst hji; exact ⟨oi,v,hi,hy,H⟩
  ·obtain ⟨oj,u,hoj,hsj,hE⟩:=H.2 j (ready_mono hj hji)
   obtain ⟨hjun,oj',hoj',hall⟩:=mem_ready.1 hj
   obtain rfl:oj=oj':=Option.some.inj (hoj.symm.trans hoj')
   have hnot:∀ e∈oj.after,Region.binds md e=true->e.on≠i:=fun e he hb heq=>by
    have h1:=hall e he hb
    have h0:=(mem_ready.1 hr).1
    rw [heq] at h1
    rcases Nat.lt_or_ge i listed.size with h' | h'
    ·simp [h'] at h0 h1; rw [h0] at h1; cases h1
    ·simp [Array.getElem?_eq_none h'] at h1
   have hap:=hfree j oj hoj hji hjun hnot
   obtain ⟨p1,p2,p3⟩:=Oper.apart_spec hap
   have hfree':∀ k ok,ops[k]?=some ok->k≠i->(listed.setIfInBounds j true).getD k true=false ->
     (∀ e∈ok.after,Region.binds md e=true->e.on≠i)->oi.apart ops ok=true:=fun k ok hk hki hun hno=>by
    refine hfree k ok hk hki ?_ hno
    by_cases hjk:j=k
    ·subst hjk; exact hjun
    ·rw [getD_set_ne true hjk] at hun; exact hun
   refine ⟨oj,u,hoj,hsj.of_same (execOp_put oj (fun cs b=>hsel j oj cs b hoj) a oi.dst v p1).symm (wanted_put oj a oi.dst v p1).symm,?_⟩
   refine ih (listed.setIfInBounds j true) (a.put oj.dst u) hfree' (ready_mono hr (Ne.symm hji)) (hy.of_same (execOp_put oi (fun cs b=>hsel i oi cs b hi) a oj.dst u p3) (wanted_put oi a oj.dst u p3)) ?_
   rw [Array.setIfInBounds_comm _ _ hji,<- Act.put_comm a v u p2]
   exact hE
def firstK (n k:Nat):Array Bool:=Array.ofFn (n:=n) fun i=>decide (i.1 < k)
def textFits (md:Region.Mode) (ops:Array Oper):Bool :=
 Region.noSelect ops && (List.range ops.size).all fun k=>Region.free md ops (firstK ops.size k) k && (Region.ready md ops (firstK ops.size k)).contains k
def InText (P:Program) (md:Region.Mode) (ops:Array Oper) (Q:Exit->Act->World->Prop) (S:World->Prop) (rest:List Oper) (a:Act):Prop :=
 ∀ k,k+rest.length=ops.size->ops.toList.drop k=rest->Every P md ops Q S rest.length (firstK ops.size k) a
theorem firstK_succ (n k:Nat):(firstK n k).setIfInBounds k true=firstK n (k+1):=by
 apply Array.ext
 ·simp [firstK]
 ·intro i h1 h2
  by_cases hik:i=k
  ·subst hik
   simp [firstK]
  ·have e:=Array.getElem_setIfInBounds_ne (xs:=firstK n k) (i:=k) (j:=i) (a:=true) (by simpa using h1) (by omega)
   rw [e]
   simp only [firstK,Array.getElem_ofFn]
   congr 1
   apply propext
   omega
theorem InText.nil {a:Act} (h:∀ w,S w->Q .normal a w):InText P md ops Q S [] a:=fun k hk _=>by
 refine ⟨?_,h⟩
 have hk':k=ops.size:=by simpa using hk
 subst hk'
 unfold Region.ready
 rw [List.filter_eq_nil_iff]
 intro i hi
 have:i < ops.size:=by simpa using hi
 simp [firstK,this]
theorem InText.cons {o:Oper} {rest:List Oper} {a:Act} {v:Value} (hf:textFits md ops=true) (hs:Settles P ops S o v a) (h:InText P md ops Q S rest (a.put o.dst v)):InText P md ops Q S (o::rest) a:=fun k hk hd=>by
 unfold textFits at hf
 rw [Bool.and_eq_true,List.all_eq_true] at hf
 have hlt:k < ops.size:=by simp at hk; omega
 have hf2:=hf.2 k (by simpa using hlt)
 rw [Bool.and_eq_true] at hf2
 have ho:ops[k]?=some o:=by
  have h0:(ops.toList.drop k)[0]?=some o:=by rw [hd]; rfl
  simpa using h0
 have hsel:∀ (j:Nat) (o:Oper) cs b,ops[j]?=some o->o.op≠.select cs b:=Region.noSelect_spec hf.1
 refine Every.first ho hsel rest.length (firstK ops.size k) a (Region.free_spec ho hf2.1) (by simpa using hf2.2) hs ?_
 rw [firstK_succ]
 refine h (k+1) (by simp at hk; omega) ?_
 rw [<- List.drop_drop,hd]
 rfl
theorem wp_text {id:Nat} {a:Act} {w:World} (hm:P.follows .mixedOrders=true) (hf:textFits .any ops=true) (hS:S w.drew) (h:textFits .any ops=true->InText P .any ops Q S ops.toList a):(Code.region id ops true).wp P Q a w :=
 wp_region_any hm (by
  have h0:=h hf 0 (by simp) rfl
  have e:firstK ops.size 0=Array.replicate ops.size false:=by
   apply Array.ext
   ·simp [firstK]
   ·intro i h1 h2; simp [firstK]
  rw [e] at h0
  simpa using Every.sound _ _ _ h0 _ hS)
theorem text_value {o:Oper} {rest:List Oper} {a:Act} {v:Value} (hf:textFits md ops=true) (hw:Region.wanted o (yielded ops a.tmps)=true) (hv:∀ w,S w->(execOp a.eval o).run P w=.ok (.value v) w)
  (h:InText P md ops Q S rest (a.put o.dst v)):InText P md ops Q S (o::rest) a :=
 InText.cons hf (Or.inl ⟨hw,fun w hS=>by rw [hv w hS]; exact ⟨rfl,hS⟩⟩) h
theorem text_off {o:Oper} {rest:List Oper} {a:Act} (hf:textFits md ops=true) (hw:Region.wanted o (yielded ops a.tmps)=false) (h:InText P md ops Q S rest (a.put o.dst undef)):InText P md ops Q S (o::rest) a :=
 InText.cons hf (Or.inr ⟨hw,rfl⟩) h
theorem text_call {o:Oper} {rest:List Oper} {a:Act} {v:Value} {f:FuncId} {args:Array Value} (hf:textFits md ops=true) (hw:Region.wanted o (yielded ops a.tmps)=true) (hr:∀ w,S w->(execOp a.eval o).run P w=.ok (.enter f args) w)
  (hc:∀ w,S w->Calls P f args w fun e w'=>e=.returned v/\S w') (h:InText P md ops Q S rest (a.put o.dst v)):InText P md ops Q S (o::rest) a :=
 InText.cons hf (Or.inl ⟨hw,fun w hS=>by rw [hr w hS]; exact hc w hS⟩) h
end
end Go.Proofs.YthcblagpbkaoaaaGreatDoor
namespace Go.Proofs.YthcblagpbkaoaaaGreatDoor
open Go.RowKit Go.Maps
set_option maxRecDepth 100000
set_option maxHeartbeats 25600000
def cS (v:Int):Int:=if slotI v=0 then 1 else 0
section
variable {w0 w:World} {L:List Item} {a c:Nat} {lv key:Int} {vs:Bool} {nx:Value} {x y z W C X wd:Int} {pf:Bool} {pv:Int}
theorem come_l (v:Int) (hv:InU v) (hg:Glo w0) (hE:Env w0 (boxI a (laneC c lv key vs nx 0 x y z W C X wd pf pv)::L) w) :
  Calls Tryz.prog 179 #[.pointer (some ⟨a,0,none⟩),.agg #[.int .u64 v,.int .i64 0,.bool false]] w fun o w'=>o=.returned (.int .i64 (cS v))/\∃ nx,(slotI v≠0->nx=mvL 205 a)/\Env w0 (boxI a (laneC c lv key vs nx (cS v) x y z v (slotI v) 0 wd pf pv)::L) w':=by
 by_cases hs:slotI v=0
 ·refine (come0_l v hs hv hg hE).mono ?_
  rintro o w1 ⟨rfl,nx,hE1⟩
  have hc:cS v=1:=if_pos hs
  rw [hc,hs]
  exact ⟨rfl,nx,fun h=>absurd rfl h,hE1⟩
 ·refine (comeY_l v hs hv hg hE).mono ?_
  rintro o w1 ⟨rfl,hE1⟩
  have hc:cS v=0:=if_neg hs
  rw [hc]
  exact ⟨rfl,_,fun _=>rfl,hE1⟩
theorem intoMark_l (hm:markB W=true) (hv:InU W) (hg:Glo w0) (hE:Env w0 (boxI a (laneC c lv key vs nx 0 x y z W C X wd pf pv)::L) w) :
  Calls Tryz.prog 138 #[.pointer (some ⟨a,0,none⟩)] w fun o w'=>o=.returned (.int .i64 2)/\∃ nx,Env w0 (boxI a (laneC c lv key vs nx 2 x y z W C X wd pf pv)::L) w':=by
 have r:=hE.rule 0 rfl
 unfold laneC at r
 have h1:=isMarked_any W w (hg.keep' hE.below) hv.1 hv.2
 rw [hm] at h1
 clear hm hv hg
 go_enter Tryz.func138,Tryz.ntmps138
 go_wp2_with fail
 refine h1.mono ?_
 rintro o w1 ⟨rfl,hb⟩
 replace hE:=hE.over hb
 clear hb r
 go_wp2_with fail
 refine (end_l 0 2 (by simp [laneC]) hE rfl).mono ?_
 rintro o w6 ⟨rfl,nx,hE6⟩
 go_wp2_with fail
 go_ret
 exact ⟨rfl,nx,hE6⟩
theorem intoCome_l (hm:markB W=false) (hv:InU W) (hg:Glo w0) (hE:Env w0 (boxI a (laneC c lv key vs nx 0 x y z W C X wd pf pv)::L) w) :
  Calls Tryz.prog 138 #[.pointer (some ⟨a,0,none⟩)] w fun o w'=>o=.returned (.int .i64 (cS W))/\∃ nx,(slotI W≠0->nx=mvL 205 a)/\Env w0 (boxI a (laneC c lv key vs nx (cS W) x y z W (slotI W) 0 wd pf pv)::L) w':=by
 have r:=hE.rule 0 rfl
 unfold laneC at r
 have h1:=isMarked_any W w (hg.keep' hE.below) hv.1 hv.2
 rw [hm] at h1
 have HV:=Lib.hid hv
 have HG:=Lib.hid hg
 clear hm hv hg
 go_enter Tryz.func138,Tryz.ntmps138
 go_wp2_with fail
 refine h1.mono ?_
 rintro o w1 ⟨rfl,hb⟩
 replace hE:=hE.over hb
 clear hb r
 have r:=hE.rule 0 rfl
 unfold laneC at r
 go_wp2_with fail
 refine (come_l W HV.out HG.out hE).mono ?_
 rintro o w6 ⟨rfl,nx,hnx,hE6⟩
 go_wp2_with fail
 go_ret
 exact ⟨rfl,nx,hnx,hE6⟩
theorem out_l (hv:InU X) (hg:Glo w0) (hE:Env w0 (boxI a (laneC c lv key vs nx 0 x y z W C X wd pf pv)::L) w) :
  Calls Tryz.prog 235 #[.pointer (some ⟨a,0,none⟩)] w fun o w'=>o=.returned (.int .i64 0)/\Env w0 (boxI a (laneC c lv key vs (mvL (if markB X then 252 else 253) a) 0 x y z W C X wd pf pv)::L) w':=by
 have hmf:=makeF
 have r:=hE.rule 0 rfl
 unfold laneC at r
 have h1:=isMarked_any X w (hg.keep' hE.below) hv.1 hv.2
 obtain ⟨b,hb9⟩:∃ b,markB X=b:=⟨_,rfl⟩
 rw [hb9] at h1 ⊢
 clear hb9 hv hg
 go_enter Tryz.func235,Tryz.ntmps235
 go_wp2_with fail
 refine h1.mono ?_
 rintro o w1 ⟨rfl,hb⟩
 replace hE:=hE.over hb
 clear hb r
 cases b
 ·go_wp2_with fail
  refine (goOn_l 0 _ _ _ (by simp [laneC]) hE rfl).mono ?_
  rintro o w6 ⟨rfl,hE6⟩
  go_wp2_with fail
  go_ret
  exact ⟨rfl,hE6⟩
 ·go_wp2_with fail
  refine (goOn_l 0 _ _ _ (by simp [laneC]) hE rfl).mono ?_
  rintro o w6 ⟨rfl,hE6⟩
  go_wp2_with fail
  go_ret
  exact ⟨rfl,hE6⟩
theorem val_l (hE:Env w0 (boxI a (laneC c lv key vs nx 0 x y z W C X wd pf pv)::L) w) :
  Calls Tryz.prog 277 #[.pointer (some ⟨a,0,none⟩)] w fun o w'=>o=.returned (.int .i64 1)/\∃ nx,Env w0 (boxI a (laneC c lv key vs nx 1 x y z W C X wd true wd)::L) w':=by
 have r:=hE.rule 0 rfl
 unfold laneC at r
 have g0:=hE.thaw 0 rfl 19 (by simp [laneC])
 have g1:=hE.thaw 0 rfl 20 (by simp [laneC])
 have hP:=(hE.put 0 rfl (j:=19) (by simp [laneC]) (.bool true)).put 0 rfl (j:=20) (by simp [laneC]) (.int .u64 wd)
 replace hP:Env w0 (boxI a (laneC c lv key vs nx 0 x y z W C X wd true wd)::L) _:=hP
 go_enter Tryz.func277,Tryz.ntmps277
 go_wp2_with fail
 refine (end_l 0 1 (by simp [laneC]) hP rfl).mono ?_
 rintro o w6 ⟨rfl,nx,hE6⟩
 go_wp2_with fail
 go_ret
 exact ⟨rfl,nx,hE6⟩
theorem keyLess_l (hk:wd < key) (hlv:0<=lv/\lv<=1000000) (hv:InU X) (hg:Glo w0) (hE:Env w0 (boxI a (laneC c lv key vs nx 0 x y z W C X wd pf pv)::L) w) :
  Calls Tryz.prog 265 #[.pointer (some ⟨a,0,none⟩)] w fun o w'=>o=.returned (.int .i64 (cS X))/\∃ nx,(slotI X≠0->nx=mvL 205 a)/\Env w0 (boxI a (laneC c lv key vs nx (cS X) 5 C (7+lv) X (slotI X) 0 wd pf pv)::L) w':=by
 have hkb:decide (wd < key)=true:=by simpa using hk
 have HV:=Lib.hid hv
 have HG:=Lib.hid hg
 clear hk hv hg
 go_enter Tryz.func265,Tryz.ntmps265
 go_wp2_with fail
 refine wp_text (S:=(Env w0 (boxI a (laneC c lv key vs nx 0 x y z W C X wd pf pv)::L))) (by kernel_rfl) (by kernel_rfl) hE.drew (fun hT=>?_)
 have hT9:=Lib.hid hT
 clear hT
 repeat (first
  | (refine text_value (v:=?_) hT9.out (by rfl) ?_ ?_; rotate_left; (focus (intro w5 hS; have r:=hS.rule 0 rfl; unfold laneC at r; go_simp<;>with_reducible rfl)); (try simp only [Act.put,zA,zZ,zS]))
  | (refine text_off hT9.out (by rfl) ?_; (try simp only [Act.put,zA,zZ,zS]))
  | (refine text_call (v:=?_) (f:=?_) (args:=?_) hT9.out (by rfl) ?_ ?_ ?_; rotate_left 3; (focus (intro w5 hS; have r:=hS.rule 0 rfl; unfold laneC at r; go_simp; constructor<;>with_reducible rfl)); (focus (intro w5 hS; (first | fail))); (try simp only [Act.put,zA,zZ,zS])))
 refine InText.nil fun w5 hS5=>?_
 clear hT9
 clear hE
 go_wp2_with fail
 refine (nextLink_l hlv (hS5.get 0 rfl)).mono ?_
 rintro o w6 ⟨rfl,hb⟩
 have hE:=hS5.over hb
 clear hS5 hb
 have r:=hE.rule 0 rfl
 unfold laneC at r
 have g0:=hE.thaw 0 rfl 6 (by simp [laneC])
 have g1:=hE.thaw 0 rfl 7 (by simp [laneC])
 have g2:=hE.thaw 0 rfl 8 (by simp [laneC])
 have g3:=hE.thaw 0 rfl 9 (by simp [laneC])
 have hP:=(((hE.put 0 rfl (j:=6) (by simp [laneC]) (.int .i64 5)).put 0 rfl (j:=7) (by simp [laneC]) (.int .i64 C)).put 0 rfl (j:=8) (by simp [laneC]) (.int .i64 (7+lv))).put 0 rfl (j:=9) (by simp [laneC]) (.int .i64 0)
 replace hP:Env w0 (boxI a (laneC c lv key vs nx 0 5 C (7+lv) W C X wd pf pv)::L) _:=hP
 clear hE
 have r9:=hP.rule 0 rfl
 unfold laneC at r9
 go_wp2_with fail
 refine (come_l X HV.out HG.out hP).mono ?_
 rintro o w7 ⟨rfl,nx,hnx,hE6⟩
 go_wp2_with fail
 go_ret
 exact ⟨rfl,nx,hnx,hE6⟩
theorem keyVal_l (hk:wd=key) (hE:Env w0 (boxI a (laneC c lv key true nx 0 x y z W C X wd pf pv)::L) w) :
  Calls Tryz.prog 265 #[.pointer (some ⟨a,0,none⟩)] w fun o w'=>o=.returned (.int .i64 0)/\Env w0 (boxI a (laneC c lv key true (mvL 274 a) 0 x y z W C X wd pf pv)::L) w':=by
 have hmf:=makeF
 subst hk
 have hlt:decide (wd < wd)=false:=by simp
 have heq:(wd==wd)=true:=by simp
 go_enter Tryz.func265,Tryz.ntmps265
 go_wp2_with fail
 refine wp_text (S:=(Env w0 (boxI a (laneC c lv wd true nx 0 x y z W C X wd pf pv)::L))) (by kernel_rfl) (by kernel_rfl) hE.drew (fun hT=>?_)
 have hT9:=Lib.hid hT
 clear hT
 repeat (first
  | (refine text_value (v:=?_) hT9.out (by rfl) ?_ ?_; rotate_left; (focus (intro w5 hS; have r:=hS.rule 0 rfl; unfold laneC at r; go_simp<;>with_reducible rfl)); (try simp only [Act.put,zA,zZ,zS]))
  | (refine text_off hT9.out (by rfl) ?_; (try simp only [Act.put,zA,zZ,zS]))
  | (refine text_call (v:=?_) (f:=?_) (args:=?_) hT9.out (by rfl) ?_ ?_ ?_; rotate_left 3; (focus (intro w5 hS; have r:=hS.rule 0 rfl; unfold laneC at r; go_simp; constructor<;>with_reducible rfl)); (focus (intro w5 hS; (first | fail))); (try simp only [Act.put,zA,zZ,zS])))
 refine InText.nil fun w5 hS5=>?_
 clear hT9
 clear hE
 go_wp2_with fail
 have hE:=hS5
 clear hS5
 refine wp_text (S:=(Env w0 (boxI a (laneC c lv wd true nx 0 x y z W C X wd pf pv)::L))) (by kernel_rfl) (by kernel_rfl) hE.drew (fun hT=>?_)
 have hT9:=Lib.hid hT
 clear hT
 repeat (first
  | (refine text_value (v:=?_) hT9.out (by rfl) ?_ ?_; rotate_left; (focus (intro w5 hS; have r:=hS.rule 0 rfl; unfold laneC at r; go_simp<;>with_reducible rfl)); (try simp only [Act.put,zA,zZ,zS]))
  | (refine text_off hT9.out (by rfl) ?_; (try simp only [Act.put,zA,zZ,zS]))
  | (refine text_call (v:=?_) (f:=?_) (args:=?_) hT9.out (by rfl) ?_ ?_ ?_; rotate_left 3; (focus (intro w5 hS; have r:=hS.rule 0 rfl; unfold laneC at r; go_simp; constructor<;>with_reducible rfl)); (focus (intro w5 hS; (first | fail))); (try simp only [Act.put,zA,zZ,zS])))
 refine InText.nil fun w5 hS5=>?_
 clear hT9
 clear hE
 go_wp2_with fail
 refine (goOn_l 0 _ _ _ (by simp [laneC]) hS5 rfl).mono ?_
 rintro o w6 ⟨rfl,hE6⟩
 go_wp2_with fail
 go_ret
 exact ⟨rfl,hE6⟩
theorem keyFound_l (hk:wd=key) (hE:Env w0 (boxI a (laneC c lv key false nx 0 x y z W C X wd pf pv)::L) w) :
  Calls Tryz.prog 265 #[.pointer (some ⟨a,0,none⟩)] w fun o w'=>o=.returned (.int .i64 1)/\∃ nx,Env w0 (boxI a (laneC c lv key false nx 1 x y z W C X wd true pv)::L) w':=by
 have hmf:=makeF
 subst hk
 have hlt:decide (wd < wd)=false:=by simp
 have heq:(wd==wd)=true:=by simp
 go_enter Tryz.func265,Tryz.ntmps265
 go_wp2_with fail
 refine wp_text (S:=(Env w0 (boxI a (laneC c lv wd false nx 0 x y z W C X wd pf pv)::L))) (by kernel_rfl) (by kernel_rfl) hE.drew (fun hT=>?_)
 have hT9:=Lib.hid hT
 clear hT
 repeat (first
  | (refine text_value (v:=?_) hT9.out (by rfl) ?_ ?_; rotate_left; (focus (intro w5 hS; have r:=hS.rule 0 rfl; unfold laneC at r; go_simp<;>with_reducible rfl)); (try simp only [Act.put,zA,zZ,zS]))
  | (refine text_off hT9.out (by rfl) ?_; (try simp only [Act.put,zA,zZ,zS]))
  | (refine text_call (v:=?_) (f:=?_) (args:=?_) hT9.out (by rfl) ?_ ?_ ?_; rotate_left 3; (focus (intro w5 hS; have r:=hS.rule 0 rfl; unfold laneC at r; go_simp; constructor<;>with_reducible rfl)); (focus (intro w5 hS; (first | fail))); (try simp only [Act.put,zA,zZ,zS])))
 refine InText.nil fun w5 hS5=>?_
 clear hT9
 clear hE
 go_wp2_with fail
 have hE:=hS5
 clear hS5
 refine wp_text (S:=(Env w0 (boxI a (laneC c lv wd false nx 0 x y z W C X wd pf pv)::L))) (by kernel_rfl) (by kernel_rfl) hE.drew (fun hT=>?_)
 have hT9:=Lib.hid hT
 clear hT
 repeat (first
  | (refine text_value (v:=?_) hT9.out (by rfl) ?_ ?_; rotate_left; (focus (intro w5 hS; have r:=hS.rule 0 rfl; unfold laneC at r; go_simp<;>with_reducible rfl)); (try simp only [Act.put,zA,zZ,zS]))
  | (refine text_off hT9.out (by rfl) ?_; (try simp only [Act.put,zA,zZ,zS]))
  | (refine text_call (v:=?_) (f:=?_) (args:=?_) hT9.out (by rfl) ?_ ?_ ?_; rotate_left 3; (focus (intro w5 hS; have r:=hS.rule 0 rfl; unfold laneC at r; go_simp; constructor<;>with_reducible rfl)); (focus (intro w5 hS; (first | fail))); (try simp only [Act.put,zA,zZ,zS])))
 refine InText.nil fun w5 hS5=>?_
 clear hT9
 clear hE
 go_wp2_with fail
 have hE:=hS5
 clear hS5
 refine Ord.wp_chain [12] (fun u=>∃ n8,Blk 0 u a (laneC c lv wd false nx 0 x y z W C X wd n8 pv)) (fun k w'=>Env w0 (boxI a (if k=0 then (laneC c lv wd false nx 0 x y z W C X wd pf pv) else (laneC c lv wd false nx 0 x y z W C X wd true pv))::L) w') (by kernel_rfl) (by kernel_rfl) (by kernel_rfl) ⟨pf,hE.drew.get 0 rfl⟩ hE.drew (fun hT=>?_)
 have hT9:=Lib.hid hT
 clear hT
 repeat (first
  | (refine Ord.ch_value (v:=?_) hT9.out (by decide) (by rfl) ?_ ?_; rotate_left; (focus (intro w5 hS; obtain ⟨n9,hS1⟩:=hS; have r:=hS1.rule; unfold laneC at r; go_simp<;>with_reducible rfl)); (try simp only [Act.put,zA,zZ,zS]))
  | (refine Ord.ch_off hT9.out (by decide) (by rfl) ?_; (try simp only [Act.put,zA,zZ,zS])))
 refine Ord.ch_turn (v:=undef) 0 hT9.out rfl (by decide) (Or.inl rfl) (by rfl) ?_ ?_
 ·rintro w5 hC5 hA5
  simp only [if_true] at hA5
  have r:=hA5.rule 0 rfl
  unfold laneC at r
  have g0:=hA5.thaw 0 rfl 19 (by simp [laneC])
  go_simp
  have h9:=hA5.put 0 rfl (j:=19) (by simp [laneC]) (.bool true)
  replace h9:Env w0 (boxI a (laneC c lv wd false nx 0 x y z W C X wd true pv)::L) _:=h9
  first | exact ⟨rfl,.inl (h9.get 0 rfl),h9⟩ | exact ⟨rfl,.inr (h9.get 0 rfl),h9⟩
 (try simp only [Act.put,zA,zZ,zS])
 repeat (first
  | (refine Ord.ch_value (v:=?_) hT9.out (by decide) (by rfl) ?_ ?_; rotate_left; (focus (intro w5 hS; skip; go_simp<;>with_reducible rfl)); (try simp only [Act.put,zA,zZ,zS]))
  | (refine Ord.ch_off hT9.out (by decide) (by rfl) ?_; (try simp only [Act.put,zA,zZ,zS])))
 refine Ord.InText.nil fun w5 hS=>?_
 clear hT9
 obtain ⟨hC9,hA9⟩:=Ord.chain_end hS
 clear hS
 replace hA9:Env w0 (boxI a (laneC c lv wd false nx 0 x y z W C X wd true pv)::L) w5:=hA9
 clear hE hC9
 go_wp2_with fail
 refine (end_l 0 1 (by simp [laneC]) hA9 rfl).mono ?_
 rintro o w6 ⟨rfl,nx,hE6⟩
 go_wp2_with fail
 go_ret
 exact ⟨rfl,nx,hE6⟩
theorem keyMore_l (hk:key < wd) (hE:Env w0 (boxI a (laneC c lv key vs nx 0 x y z W C X wd pf pv)::L) w) :
  Calls Tryz.prog 265 #[.pointer (some ⟨a,0,none⟩)] w fun o w'=>o=.returned (.int .i64 1)/\∃ nx,Env w0 (boxI a (laneC c lv key vs nx 1 x y z W C X wd false pv)::L) w':=by
 have hmf:=makeF
 have hlt:decide (wd < key)=false:=by simp; omega
 have heq:(wd==key)=false:=by simp; omega
 clear hk
 go_enter Tryz.func265,Tryz.ntmps265
 go_wp2_with fail
 refine wp_text (S:=(Env w0 (boxI a (laneC c lv key vs nx 0 x y z W C X wd pf pv)::L))) (by kernel_rfl) (by kernel_rfl) hE.drew (fun hT=>?_)
 have hT9:=Lib.hid hT
 clear hT
 repeat (first
  | (refine text_value (v:=?_) hT9.out (by rfl) ?_ ?_; rotate_left; (focus (intro w5 hS; have r:=hS.rule 0 rfl; unfold laneC at r; go_simp<;>with_reducible rfl)); (try simp only [Act.put,zA,zZ,zS]))
  | (refine text_off hT9.out (by rfl) ?_; (try simp only [Act.put,zA,zZ,zS]))
  | (refine text_call (v:=?_) (f:=?_) (args:=?_) hT9.out (by rfl) ?_ ?_ ?_; rotate_left 3; (focus (intro w5 hS; have r:=hS.rule 0 rfl; unfold laneC at r; go_simp; constructor<;>with_reducible rfl)); (focus (intro w5 hS; (first | fail))); (try simp only [Act.put,zA,zZ,zS])))
 refine InText.nil fun w5 hS5=>?_
 clear hT9
 clear hE
 go_wp2_with fail
 have hE:=hS5
 clear hS5
 refine wp_text (S:=(Env w0 (boxI a (laneC c lv key vs nx 0 x y z W C X wd pf pv)::L))) (by kernel_rfl) (by kernel_rfl) hE.drew (fun hT=>?_)
 have hT9:=Lib.hid hT
 clear hT
 repeat (first
  | (refine text_value (v:=?_) hT9.out (by rfl) ?_ ?_; rotate_left; (focus (intro w5 hS; have r:=hS.rule 0 rfl; unfold laneC at r; go_simp<;>with_reducible rfl)); (try simp only [Act.put,zA,zZ,zS]))
  | (refine text_off hT9.out (by rfl) ?_; (try simp only [Act.put,zA,zZ,zS]))
  | (refine text_call (v:=?_) (f:=?_) (args:=?_) hT9.out (by rfl) ?_ ?_ ?_; rotate_left 3; (focus (intro w5 hS; have r:=hS.rule 0 rfl; unfold laneC at r; go_simp; constructor<;>with_reducible rfl)); (focus (intro w5 hS; (first | fail))); (try simp only [Act.put,zA,zZ,zS])))
 refine InText.nil fun w5 hS5=>?_
 clear hT9
 clear hE
 go_wp2_with fail
 have hE:=hS5
 clear hS5
 refine Ord.wp_chain [12] (fun u=>∃ n8,Blk 0 u a (laneC c lv key vs nx 0 x y z W C X wd n8 pv)) (fun k w'=>Env w0 (boxI a (if k=0 then (laneC c lv key vs nx 0 x y z W C X wd pf pv) else (laneC c lv key vs nx 0 x y z W C X wd false pv))::L) w') (by kernel_rfl) (by kernel_rfl) (by kernel_rfl) ⟨pf,hE.drew.get 0 rfl⟩ hE.drew (fun hT=>?_)
 have hT9:=Lib.hid hT
 clear hT
 repeat (first
  | (refine Ord.ch_value (v:=?_) hT9.out (by decide) (by rfl) ?_ ?_; rotate_left; (focus (intro w5 hS; obtain ⟨n9,hS1⟩:=hS; have r:=hS1.rule; unfold laneC at r; go_simp<;>with_reducible rfl)); (try simp only [Act.put,zA,zZ,zS]))
  | (refine Ord.ch_off hT9.out (by decide) (by rfl) ?_; (try simp only [Act.put,zA,zZ,zS])))
 refine Ord.ch_turn (v:=undef) 0 hT9.out rfl (by decide) (Or.inl rfl) (by rfl) ?_ ?_
 ·rintro w5 hC5 hA5
  simp only [if_true] at hA5
  have r:=hA5.rule 0 rfl
  unfold laneC at r
  have g0:=hA5.thaw 0 rfl 19 (by simp [laneC])
  go_simp
  have h9:=hA5.put 0 rfl (j:=19) (by simp [laneC]) (.bool false)
  replace h9:Env w0 (boxI a (laneC c lv key vs nx 0 x y z W C X wd false pv)::L) _:=h9
  first | exact ⟨rfl,.inl (h9.get 0 rfl),h9⟩ | exact ⟨rfl,.inr (h9.get 0 rfl),h9⟩
 (try simp only [Act.put,zA,zZ,zS])
 repeat (first
  | (refine Ord.ch_value (v:=?_) hT9.out (by decide) (by rfl) ?_ ?_; rotate_left; (focus (intro w5 hS; skip; go_simp<;>with_reducible rfl)); (try simp only [Act.put,zA,zZ,zS]))
  | (refine Ord.ch_off hT9.out (by decide) (by rfl) ?_; (try simp only [Act.put,zA,zZ,zS])))
 refine Ord.InText.nil fun w5 hS=>?_
 clear hT9
 obtain ⟨hC9,hA9⟩:=Ord.chain_end hS
 clear hS
 replace hA9:Env w0 (boxI a (laneC c lv key vs nx 0 x y z W C X wd false pv)::L) w5:=hA9
 clear hE hC9
 go_wp2_with fail
 refine (end_l 0 1 (by simp [laneC]) hA9 rfl).mono ?_
 rintro o w6 ⟨rfl,nx,hE6⟩
 go_wp2_with fail
 go_ret
 exact ⟨rfl,nx,hE6⟩
end
end Go.Proofs.YthcblagpbkaoaaaGreatDoor
