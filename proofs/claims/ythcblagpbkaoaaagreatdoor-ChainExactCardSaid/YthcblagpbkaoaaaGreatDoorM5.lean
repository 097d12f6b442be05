/- What is proved on the way to the statement, part 5: contracts of the functions, among other things in memory. -/
import Derived.Test.YthcblagpbkaoaaaGreatDoorM4
import Derived.Test.YthcblagpbkaoaaaGreatDoorChecked

namespace Go.Proofs.YthcblagpbkaoaaaGreatDoor
open Go.RowKit Go.Maps
set_option maxRecDepth 100000
set_option maxHeartbeats 25600000
section
variable {w0 w:World} {L:List Item} {c q kq:Nat} {F:Nat->Prop} {ql:List Trip} {k s b h l e r hs hi:Int}
theorem takeNo_c (hh:hs=0) (hb:Blk 0 w c (crv k s b h l e r hs hi q)) :
  Calls Tryz.prog 135 #[.pointer (some ⟨c,0,none⟩)] w fun o w'=>o=.returned (.tuple #[.agg #[.int .i64 hs,.int .i64 hi],.bool false])/\Below w.heap.size w w':=by
 have hF:=(Fr.start w).push w.heap.size rfl [.int .i64 0,.int .i64 0] 61
 have hb1:=hb.under hF.below
 have hn:(hs != 0)=false:=by simpa using hh
 clear hb hh
 go_enter Tryz.func135,Tryz.ntmps135
 go_wp2_with fail
 refine (held_c hb1).mono ?_
 rintro o w1 ⟨rfl,hb⟩
 rw [hn]
 replace hF:=hF.over hb
 clear hb hb1
 replace hF:=hF.push w1.heap.size rfl [.int .i64 hs,.int .i64 hi] 61
 have hlt:=hF.lt 1 rfl
 have hX:=hF.blk 1 rfl (by omega)
 have hZ:=hF.blk 0 rfl (by have:=hF.below.size; have:=hF.lt 1 rfl; simp at this; omega)
 have hE:=hF.below
 clear hF
 go_upto_region 2 with fail
 generalize w1.alloc _=w2 at *
 generalize w1.heap.size=Y at *
 have r0:=hX.rule
 have r1:=hZ.rule
 have f0:=hX.thaw 0 (by simp)
 have f1:=hX.thaw 1 (by simp)
 go_wp2_with fail
 have q:=((hX.set (i:=0) (by simp) (.int .i64 hs)).set (i:=1) (by simp) (.int .i64 hi)).rule
 exact bodyPost_ret (v:=.tuple #[.agg #[.int .i64 hs,.int .i64 hi],.bool false]) (by simp [results,Tryz.results135,go_sem,q]) rfl ⟨rfl,below_set (below_set hE (by omega) (Nat.le_refl _) _) (by simp; omega) (Nat.le_refl _) _⟩
theorem takeYes_c (hh:hs≠0) (m:Nat) (hE:Env w0 L w) (hm:L[m]?=some (coreI c k s b h l e r hs hi q)) :
  Calls Tryz.prog 135 #[.pointer (some ⟨c,0,none⟩)] w fun o w'=>o=.returned (.tuple #[.agg #[.int .i64 hs,.int .i64 hi],.bool true])/\Env w0 (L.set m (coreI c k s b h l e r 0 0 q)) w':=by
 have hn:(hs != 0)=true:=by simpa using hh
 have hml:m < L.length:=(List.getElem?_eq_some_iff.1 hm).1
 have hE1:=hE.box w.heap.size rfl [.int .i64 0,.int .i64 0] 61
 have hm1:(boxI w.heap.size [.int .i64 0,.int .i64 0]::L)[m+1]?=some (coreI c k s b h l e r hs hi q):=hm
 clear hE hh
 go_enter Tryz.func135,Tryz.ntmps135
 go_wp2_with fail
 refine (held_c (hE1.get (m+1) hm1)).mono ?_
 rintro o w1 ⟨rfl,hb⟩
 rw [hn]
 replace hE1:=(hE1.over hb).box w1.heap.size rfl [.int .i64 hs,.int .i64 hi] 61
 clear hb
 generalize w.heap.size=X at *
 go_upto_region 2 with fail
 generalize w1.alloc _=w2 at *
 generalize w1.heap.size=Y at *
 have hm2:(boxI Y [.int .i64 hs,.int .i64 hi]::boxI X [.int .i64 0,.int .i64 0]::L)[m+2]?=some (coreI c k s b h l e r hs hi q):=hm
 have rc:=hE1.rule (m+2) hm2
 unfold crv at rc
 have ff:=hE1.thaw (m+2) hm2
 have f7:=ff 7 (by simp [crv])
 have f8:=ff 8 (by simp [crv])
 clear ff
 go_upto_region 4 with fail
 have hE2:=hE1.put (m+2) hm2 (j:=7) (by simp [crv]) (.int .i64 0)
 have hE3:=hE2.put (m+2) (by rw [List.getElem?_set_self (by simpa using hml)]) (j:=8) (by simp [crv]) (.int .i64 0)
 rw [List.set_set] at hE3
 generalize World.setCell (World.setCell w2 ⟨c,7,none⟩ _) ⟨c,8,none⟩ _=w3 at *
 replace hE3:Env w0 (boxI Y [.int .i64 hs,.int .i64 hi]::boxI X [.int .i64 0,.int .i64 0]::L.set m (coreI c k s b h l e r 0 0 q)) w3:=hE3
 have r0:=hE3.rule 0 rfl
 have r1:=hE3.rule 1 rfl
 have ff:=hE3.thaw 1 rfl
 have f0:=ff 0 (by simp)
 have f1:=ff 1 (by simp)
 clear ff
 clear rc f7 f8
 go_wp2_with fail
 have hE4:=(hE3.put 1 rfl (j:=0) (by simp) (.int .i64 hs)).put 1 rfl (j:=1) (by simp) (.int .i64 hi)
 have q:=hE4.rule 1 rfl
 exact bodyPost_ret (v:=.tuple #[.agg #[.int .i64 hs,.int .i64 hi],.bool true]) (by simp [results,Tryz.results135,go_sem,q]) rfl ⟨rfl,hE4.sub (.cons _ (.cons _ (List.Sublist.refl _)))⟩
theorem dropNo_c (hh:hs=0) (hb:Blk 0 w c (crv k s b h l e r hs hi q)) :
  Calls Tryz.prog 198 #[.pointer (some ⟨c,0,none⟩)] w fun o w'=>o=.returned (.tuple #[])/\Below w.heap.size w w':=by
 go_enter Tryz.func198,Tryz.ntmps198
 go_wp2_with fail
 refine (takeNo_c hh hb).mono ?_
 rintro o w1 ⟨rfl,hb1⟩
 clear hh hb
 go_wp2_with fail
 go_end0
 exact ⟨rfl,hb1.alloc hb1.size _⟩
theorem dropYes_c (hh:hs≠0) (m n:Nat) (hnm:n≠m) (hE:Env w0 L w) (hm:L[m]?=some (coreI c k s b h l e r hs hi q)) (hn:L[n]?=some (queueI q F ql kq)) (hl:ql.length+1<=1048576) :
  Calls Tryz.prog 198 #[.pointer (some ⟨c,0,none⟩)] w fun o w'=>o=.returned (.tuple #[])/\∃ k' F',Rm kq (ql.length+1) k'/\Env w0 ((L.set m (coreI c k s b h l e r 0 0 q)).set n (queueI q F' (ql++[(hs,0,hi)]) k')) w':=by
 have hml:m < L.length:=(List.getElem?_eq_some_iff.1 hm).1
 have hn1:=wset (b:=coreI c k s b h l e r 0 0 q) hnm.symm hn
 have hm1:(L.set m (coreI c k s b h l e r 0 0 q))[m]?=some (coreI c k s b h l e r 0 0 q):=by rw [List.getElem?_set_self hml]
 have HT:=Lib.hid (takeYes_c hh m hE hm)
 clear hh hE hm hn
 generalize L.set m (coreI c k s b h l e r 0 0 q)=M at *
 go_enter Tryz.func198,Tryz.ntmps198
 go_wp2_with fail
 refine HT.out.mono ?_
 rintro o w1 ⟨rfl,hE1⟩
 clear HT
 replace hE1:=hE1.box w1.heap.size rfl [.int .i64 hs,.int .i64 hi] 61
 go_wp2_with fail
 generalize w1.alloc _=w2 at *
 generalize w1.heap.size=Y at *
 have hn2:(boxI Y [.int .i64 hs,.int .i64 hi]::M)[n+1]?=some (queueI q F ql kq):=hn1
 have hm2:(boxI Y [.int .i64 hs,.int .i64 hi]::M)[m+1]?=some (coreI c k s b h l e r 0 0 q):=hm1
 refine Ord3.wp_chain [?_,?_,?_,?_,?_,?_,?_,?_,?_,?_,?_] [9,10] (fun w'=>Blk 0 w' c [.int .i64 k,.int .i64 s,.int .i64 b,.int .i64 h,.int .i64 l,.int .i64 e,.int .i64 r,.int .i64 0,.int .i64 0,.pointer (some ⟨q,0,none⟩)]/\Blk 0 w' Y [.int .i64 hs,.int .i64 hi]) (Ord3.Stage fun κs=>[Env w0 (boxI Y [.int .i64 hs,.int .i64 hi]::M),fun w'=>∃ z,κs.getD 0 undef=.slice (some ⟨z,0,none⟩) 1 1/\Env w0 (boxI z [.int .i64 hs,.int .i64 0,.int .i64 hi]::boxI Y [.int .i64 hs,.int .i64 hi]::M) w',fun w'=>∃ k',Rm kq (ql.length+1) k'/\∃ F' z,Env w0 (boxI z [.int .i64 hs,.int .i64 0,.int .i64 hi]::boxI Y [.int .i64 hs,.int .i64 hi]::M.set n (queueI q F' (ql++[(hs,0,hi)]) k')) w']) (by kernel_rfl) (by kernel_rfl) (by kernel_rfl) ⟨hE1.drew.get (m+1) hm2,hE1.drew.get 0 rfl⟩ ⟨_,rfl,hE1.drew⟩ (fun hT=>?_)
 rotate_left 11
 have hT9:=Lib.hid hT
 clear hT
 repeat (first
  | (focus (refine Ord3.in_value (v:=?_) hT9.out (by decide) ?_ (by rfl) ?_ ?_; rotate_left 2; (focus (intro w5 hS; have r1:=Blk.rule hS.1; have r2:=Blk.rule hS.2; go_simp<;>with_reducible rfl)); rotate_right; (focus rfl); (try simp only [Act.put,zA,zZ,zS])))
  | (focus (refine Ord3.in_off hT9.out (by decide) ?_ (by rfl) ?_; (focus rfl); (try simp only [Act.put,zA,zZ,zS]))))
 refine Ord3.in_turn (fun u=>∃ z,u=.slice (some ⟨z,0,none⟩) 1 1) _ ⟨0,rfl⟩ hT9.out rfl (by decide) (by rfl) ?_ (Or.inl rfl) (by rfl) ?_ ?_
 ·rfl
 ·rintro w7 hC7 ⟨P7,hP7,hA7⟩
  cases hP7
  go_simp
  simp only [Ord3.Lands]
  have hE8:=hA7.box w7.heap.size rfl [.int .i64 hs,.int .i64 0,.int .i64 hi] 130
  exact ⟨⟨_,rfl⟩,⟨hE8.get (m+2) hm1,hE8.get 1 rfl⟩,_,rfl,w7.heap.size,rfl,hE8⟩
 rintro _ ⟨z9,rfl⟩
 (try simp only [Act.put,zA,zZ,zS])
 refine Ord3.in_turn (fun u=>u=.int .i64 0) _ rfl hT9.out rfl (by decide) (by rfl) ?_ (Or.inr ⟨_,9,[],rfl,by kernel_rfl,by kernel_rfl,rfl⟩) (by rfl) ?_ ?_
 ·rfl
 ·rintro w7 hC7 ⟨P7,hP7,hA7⟩
  cases hP7
  obtain ⟨z8,he,hA7⟩:=hA7
  cases he
  go_simp
  simp only [Ord3.Lands]
  have hA:Row3 w7 (some ⟨z9,0,none⟩) [(hs,0,hi)]:=Blk.row3 (l:=[(hs,0,hi)]) (hA7.get 0 rfl)
  refine (push_any (l:=ql) (xs:=[(hs,0,hi)]) (A:=some ⟨z9,0,none⟩) (cap:=1) (by simp; omega) hA (fun _ b hb hFb=>?_) (hA7.queue (n+2) hn1)).mono ?_
  ·obtain ⟨off,he⟩:=hb
   cases he
   exact (hA7.off (i:=0) (j:=n+2) rfl hn1 (by omega)) z9 rfl hFb
  rintro o w8 ⟨rfl,k8,F8,hrm,hQ8,hs8⟩
  have hE8:=hA7.turnQ (n+2) hn1 hQ8 hs8
  simp only [zS,zZ] at hE8
  have hm8:=wset (b:=queueI q F8 (ql++[(hs,0,hi)]) k8) hnm hm1
  exact ⟨_,rfl,rfl,⟨hE8.get (m+2) hm8,hE8.get 1 rfl⟩,_,rfl,k8,by simpa using hrm,F8,z9,hE8⟩
 rintro _ rfl
 (try simp only [Act.put,zA,zZ,zS])
 refine Ord3.in_nil rfl ?_
 rintro w9 hC9 ⟨P9,hP9,hA9⟩
 cases hP9
 obtain ⟨k8,hrm,F8,z8,hA9⟩:=hA9
 clear hT9 hC9
 go_wp2_with fail
 go_end0
 exact ⟨rfl,k8,F8,hrm,hA9.sub (.cons _ (.cons _ (List.Sublist.refl _)))⟩
end
end Go.Proofs.YthcblagpbkaoaaaGreatDoor
namespace Go.Proofs.YthcblagpbkaoaaaGreatDoor
open Go.RowKit
set_option maxRecDepth 100000
set_option maxHeartbeats 25600000
theorem pool_any (w:World):Calls Tryz.prog 237 #[] w fun e w'=>e=.returned (.agg #[.int .i64 2,.int .i64 0,.int .i64 0])/\Below w.heap.size w w':=by
 go_enter Tryz.func237,Tryz.ntmps237
 go_wp2
 exact bodyPost_ret (v:=.agg #[.int .i64 2,.int .i64 0,.int .i64 0]) (by simp [results,Tryz.results237,go_sem]) rfl ⟨rfl,(Below.refl _ _).alloc (Nat.le_refl _) _⟩
theorem fresh_any (w:World):Calls Tryz.prog 268 #[] w fun e w'=>e=.returned (.agg #[.int .i64 3,.int .i64 0,.int .i64 0])/\Below w.heap.size w w':=by
 go_enter Tryz.func268,Tryz.ntmps268
 go_wp2
 exact bodyPost_ret (v:=.agg #[.int .i64 3,.int .i64 0,.int .i64 0]) (by simp [results,Tryz.results268,go_sem]) rfl ⟨rfl,(Below.refl _ _).alloc (Nat.le_refl _) _⟩
theorem version_any (x:Int) (w:World) (hg:Glo w) (h0:0<=x) (h1:x<=18446744073709551615) :
  Calls Tryz.prog 254 #[.int .u64 x] w fun e w'=>e=.returned (.int .i64 (verI x))/\Below w.heap.size w w':=by
 obtain ⟨⟨c0,c1⟩,-,-,hs,-,-⟩:=hg
 obtain ⟨k0,k1⟩:=verI_in x
 have HG:=Lib.hid (get_version x h0)
 go_enter Tryz.func254,Tryz.ntmps254
 go_wp2_with fail
 refine (get_any 0 40 x _ (by decide) (by decide) h0 h1).mono ?_
 rintro e w1 ⟨rfl,hb⟩
 rw [HG.out]
 go_wp2
 go_ret
 exact ⟨rfl,hb⟩
theorem ret_int2 {k l:IntKind} {x y u v:Int} (h:x=y) (g:u=v):Ending.returned (.tuple #[.int k x,.int l u])=.returned (.tuple #[.int k y,.int l v]):=by rw [h,g]
theorem next_any (x s:Int) (w:World) (hg:Glo w) (h0:0<=x) (h1:x<=18446744073709551615) :
  Calls Tryz.prog 275 #[.int .u64 x,.int .i64 s] w fun e w'=>e=.returned (.tuple #[.int .u64 (nextW x s),.int .i64 (nextE x s)])/\Below w.heap.size w w':=by
 cases hS:isS s
 ·have HW:=Lib.hid (show nextW x s=0 by simp [nextW,hS])
  have HE:=Lib.hid (show nextE x s=3 by simp [nextE,hS])
  have H:=Lib.hid hS
  clear hS
  go_enter Tryz.func275,Tryz.ntmps275
  go_wp2_with fail
  refine (isSlot_any s _).mono ?_
  rintro e w1 ⟨rfl,rfl⟩
  rw [H.out]
  go_wp2_with fail
  go_ret2
  exact ⟨ret_int2 HW.out.symm HE.out.symm,Below.refl _ _⟩
 ·obtain ⟨k0,k1⟩:=verI_in x
  by_cases hv:verI x=1099511627775
  ·have HW:=Lib.hid (show nextW x s=0 by simp [nextW,hS,hv])
   have HE:=Lib.hid (show nextE x s=7 by simp [nextE,hS,hv])
   have H:=Lib.hid hS
   have HV:=Lib.hid hv
   clear hS hv
   go_enter Tryz.func275,Tryz.ntmps275
   go_wp2_with fail
   refine (isSlot_any s _).mono ?_
   rintro e w1 ⟨rfl,rfl⟩
   rw [H.out]
   go_wp2_with fail
   refine (version_any x _ hg h0 h1).mono ?_
   rintro e w1 ⟨rfl,hb⟩
   rw [HV.out]
   go_wp2_with fail
   go_ret2
   exact ⟨ret_int2 HW.out.symm HE.out.symm,hb⟩
  ·have HW:=Lib.hid (show nextW x s=wordI false s (verI x+1) by simp [nextW,hS,hv])
   have HE:=Lib.hid (show nextE x s=0 by simp [nextE,hS,hv])
   have H:=Lib.hid hS
   have hv2:verI x < 1099511627775:=by omega
   clear hS hv
   generalize hy:verI x=y at *
   have HY:=Lib.hid hy
   clear hy
   go_enter Tryz.func275,Tryz.ntmps275
   go_wp2_with fail
   refine (isSlot_any s _).mono ?_
   rintro e w1 ⟨rfl,rfl⟩
   rw [H.out]
   go_wp2_with fail
   refine (version_any x _ hg h0 h1).mono ?_
   rintro e w1 ⟨rfl,hb⟩
   rw [HY.out]
   have hg1:=hg.keep' hb
   go_wp2_with fail
   refine (version_any x _ hg1 h0 h1).mono ?_
   rintro e w2 ⟨rfl,hb2⟩
   rw [HY.out]
   have hg2:=hg1.keep' hb2
   go_wp2_with fail
   refine (to_any s _ _ hg2).mono ?_
   rintro e w3 ⟨rfl,hb3⟩
   go_wp2_with fail
   go_ret2
   exact ⟨ret_int2 HW.out.symm HE.out.symm,(hb.trans (hb2.mono (by have:=hb.size; omega))).trans (hb3.mono (by have:=hb.size; have:=hb2.size; omega))⟩
end Go.Proofs.YthcblagpbkaoaaaGreatDoor
namespace Go.Proofs.YthcblagpbkaoaaaGreatDoor
open Go.RowKit Go.Maps
set_option maxRecDepth 100000
set_option maxHeartbeats 25600000
theorem shared_any (x y z:Int) (w:World):Calls Tryz.prog 236 #[.agg #[.int .i64 x,.int .i64 y,.int .i64 z]] w fun e w'=>e=.returned (.agg #[.int .i64 x,.int .i64 y,.int .i64 z,.int .i64 0])/\Below w.heap.size w w':=by
 have hE:=((Env.start w).box w.heap.size rfl [.int .i64 x,.int .i64 y,.int .i64 z] 65).box (w.heap.size+1) (by simp) [.int .i64 0,.int .i64 0,.int .i64 0,.int .i64 0] 67
 have r:=hE.rule 1 rfl
 have f:=hE.thaw 0 rfl
 have f0:=f 0 (by simp)
 have f1:=f 1 (by simp)
 have f2:=f 2 (by simp)
 have f3:=f 3 (by simp)
 clear f
 go_enter Tryz.func236,Tryz.ntmps236
 go_wp2
 have hP:=(((hE.put 0 rfl (j:=0) (by simp) (.int .i64 x)).put 0 rfl (j:=1) (by simp) (.int .i64 y)).put 0 rfl (j:=2) (by simp) (.int .i64 z)).put 0 rfl (j:=3) (by simp) (.int .i64 0)
 have q:=hP.rule 0 rfl
 exact bodyPost_ret (v:=.agg #[.int .i64 x,.int .i64 y,.int .i64 z,.int .i64 0]) (by simp [results,Tryz.results236,go_sem,q]) rfl ⟨rfl,((Below.refl _ _).alloc (Nat.le_refl _) _).alloc (by simp) _⟩
theorem part_any (s d n:Int) (w:World):Calls Tryz.prog 255 #[.agg #[.int .i64 s,.int .i64 d],.int .i64 n] w fun e w'=>e=.returned (.agg #[.int .i64 5,.int .i64 s,.int .i64 n,.int .i64 d])/\Below w.heap.size w w':=by
 have hF:=((Fr.start w).push w.heap.size rfl [.int .i64 s,.int .i64 d] 61).push (w.heap.size+1) (by simp) [.int .i64 0,.int .i64 0,.int .i64 0,.int .i64 0] 67
 have hX:=hF.blk 1 rfl (by omega)
 have hZ:=hF.blk 0 rfl (by omega)
 have hE:=hF.below
 clear hF
 go_enter Tryz.func255,Tryz.ntmps255
 go_wp2_with fail
 refine Ord.wp_chain [7] (fun w'=>Below w.heap.size w w'/\Blk 0 w' w.heap.size [.int .i64 s,.int .i64 d]) (fun j w'=>Blk 0 w' (w.heap.size+1) (if j=0 then [.int .i64 0,.int .i64 0,.int .i64 0,.int .i64 0] else [.int .i64 5,.int .i64 s,.int .i64 n,.int .i64 d])) (by kernel_rfl) (by kernel_rfl) (by kernel_rfl) ⟨hE.drew,hX.drew⟩ hZ.drew (fun hT=>?_)
 have hT9:=Lib.hid hT
 clear hT
 repeat (first
  | (refine Ord.ch_value (v:=?_) hT9.out (by decide) (by rfl) ?_ ?_; rotate_left; (focus (intro w5 hS; have r:=Blk.rule hS.2; go_simp<;>with_reducible rfl)); (try simp only [Act.put,zA,zZ,zS]))
  | (refine Ord.ch_off hT9.out (by decide) (by rfl) ?_; (try simp only [Act.put,zA,zZ,zS]))
  | (refine Ord.ch_call (v:=?_) (f:=?_) (args:=?_) hT9.out (by decide) (by rfl) ?_ ?_ ?_; rotate_left 3; (focus (intro w5 hS; have r:=Blk.rule hS.2; go_simp; constructor<;>with_reducible rfl)); (focus (intro w5 hS; (first | (with_reducible refine (placeOf_any _ _ _).mono ?_; rintro o w6 ⟨rfl,hb6⟩; constructor; with_reducible rfl; exact ⟨⟨hS.1.trans (hb6.mono hS.1.size),hS.2.under hb6⟩,fun _ h=>h.under hb6⟩)))); (try simp only [Act.put,zA,zZ,zS])))
 refine Ord.ch_turn (v:=undef) 0 hT9.out rfl (by decide) (Or.inl rfl) (by rfl) ?_ ?_
 ·rintro w5 hS hA2
  simp only [if_true] at hA2
  have r:=hA2.rule
  have f0:=hA2.thaw 0 (by simp)
  have f1:=hA2.thaw 1 (by simp)
  have f2:=hA2.thaw 2 (by simp)
  have f3:=hA2.thaw 3 (by simp)
  have hz:=hS.1.size
  go_simp
  refine ⟨rfl,⟨?_,?_⟩,?_⟩
  ·exact below_set (below_set (below_set (below_set hS.1 hz (by omega) _) (by simp; omega) (by omega) _) (by simp; omega) (by omega) _) (by simp; omega) (by omega) _
  ·exact (((hS.2.off (by omega) _).off (by omega) _).off (by omega) _).off (by omega) _
  ·exact (((hA2.set (i:=0) (by simp) _).set (i:=1) (by simp) _).set (i:=2) (by simp) _).set (i:=3) (by simp) _
 (try simp only [Act.put,zA,zZ,zS])
 repeat (first
  | (refine Ord.ch_value (v:=?_) hT9.out (by decide) (by rfl) ?_ ?_; rotate_left; (focus (intro w5 hS; skip; go_simp<;>with_reducible rfl)); (try simp only [Act.put,zA,zZ,zS]))
  | (refine Ord.ch_off hT9.out (by decide) (by rfl) ?_; (try simp only [Act.put,zA,zZ,zS])))
 refine Ord.InText.nil fun w5 hS=>?_
 clear hT9
 obtain ⟨hC9,hA9⟩:=Ord.chain_end hS
 clear hS
 have q:=hA9.rule
 simp only [show ¬ [7].length=0 by decide,if_false] at q
 go_wp2
 exact bodyPost_ret (v:=.agg #[.int .i64 5,.int .i64 s,.int .i64 n,.int .i64 d]) (by simp [results,Tryz.results255,go_sem,q]) rfl ⟨rfl,hC9.1⟩
theorem epochOf_any (x d:Int) (t:Bool) (hx:InU x) (w:World):Calls Tryz.prog 263 #[.agg #[.int .u64 x,.int .i64 d,.bool t]] w fun e w'=>e=.returned (.int .i64 (epI x))/\Below w.heap.size w w':=by
 have hE:=(Env.start w).box w.heap.size rfl [.int .u64 x,.int .i64 d,.bool t] 150
 have r:=hE.rule 0 rfl
 go_enter Tryz.func263,Tryz.ntmps263
 go_wp2_with fail
 refine (fint_any x hx _).mono ?_
 rintro e w1 ⟨rfl,rfl⟩
 go_wp2_with fail
 go_ret
 exact ⟨rfl,hE.below⟩
theorem head_any {w:World} {q k:Nat} {F:Nat->Prop} {l:List Trip} (x y z:Int) (hQ:IsQ w q F ((x,y,z)::l) k) :
  Calls Tryz.prog 259 #[.pointer (some ⟨q,0,none⟩)] w fun e w'=>e=.returned (.tuple #[tv (x,y,z),.bool true])/\Below w.heap.size w w':=by
 obtain ⟨hl1,hl2,hk2,hk⟩:=hQ.len
 have hQ0:=Lib.hid hQ
 obtain ⟨R,g,r,hq,hr,hring,_,_,hne,hF⟩:=hQ
 obtain ⟨hx,-⟩:=hring.pop
 have hrl:=hring.1
 have h4:=pow_four hk2
 have hlt:g % 2 ^ k < 2 ^ k:=Nat.mod_lt _ (by omega)
 have hcell:∀ w',Blk 0 w' R (flat3 r)->w'.cell? ⟨R,g % 2 ^ k * 3,none⟩=some (.int .i64 x)/\w'.cell? ⟨R,g % 2 ^ k * 3+1,none⟩=some (.int .i64 y)/\w'.cell? ⟨R,g % 2 ^ k * 3+2,none⟩=some (.int .i64 z):=fun w' h=>by
  have e:=fun c hc=>(h.rule (g % 2 ^ k * 3+c)).trans (flat3_get r (g % 2 ^ k) c (by omega) hc)
  rw [hx] at e
  exact ⟨e 0 (by omega),e 1 (by omega),e 2 (by omega)⟩
 have HA:=Lib.hid fun w'=>at_any R k g w' hk
 have hB:=Blk.new 0 w [.int .i64 0,.int .i64 0,.int .i64 0] 130
 have hq1:=hq.more (.cells [.int .i64 0,.int .i64 0,.int .i64 0].toArray 130)
 have hr1:=hr.more (.cells [.int .i64 0,.int .i64 0,.int .i64 0].toArray 130)
 have hE:=(Below.refl w.heap.size w).alloc (Nat.le_refl _) (.cells [.int .i64 0,.int .i64 0,.int .i64 0].toArray 130)
 have hqR:q < w.heap.size/\R < w.heap.size:=⟨hq.1,hr.1⟩
 have hz:((((x,y,z)::l).length:Int)==0)=false:=by simp; omega
 unfold qv at hq1
 generalize hG:(cnt g)=G at *
 generalize (cnt (g+((x,y,z)::l).length))=C at *
 generalize ((x,y,z)::l).length=n at *
 clear hq hr hring hF hx
 generalize g % 2 ^ k=p at *
 generalize 2 ^ k=N at *
 have HC:=Lib.hid hcell
 clear hcell
 go_enter Tryz.func259,Tryz.ntmps259
 go_wp2_with fail
 refine (len_any (hQ0.out.below hE)).mono ?_
 rintro e w1 ⟨rfl,hb⟩
 have hB1:Blk 0 w1 w.heap.size [.int .i64 0,.int .i64 0,.int .i64 0]:=hB.kept hb.size (hb.block _ hB.1)
 have hq2:Blk 0 w1 q _:=hq1.kept hb.size (hb.block _ hq1.1)
 have hr2:Blk 0 w1 R _:=hr1.kept hb.size (hb.block _ hr1.1)
 have hE1:Below w.heap.size w w1:=hE.trans (hb.mono (by simp))
 have hs1:w.heap.size+1<=w1.heap.size:=by have:=hb.size; simpa using this
 clear hB hq1 hr1 hE hb hQ0
 have hz':((n:Int)==0)=false:=by simpa using hz
 go_wp2_with fail
 refine Ord.wp_chain [11] (fun w'=>Blk 0 w' q [.slice (some ⟨R,0,none⟩) N N,.int .u64 G,.int .u64 C]/\Blk 0 w' R (flat3 r)) (fun j w'=>w.heap.size+1<=w'.heap.size/\Below w.heap.size w w'/\Blk 0 w' w.heap.size (if j=0 then [.int .i64 0,.int .i64 0,.int .i64 0] else [.int .i64 x,.int .i64 y,.int .i64 z])) (by kernel_rfl) (by kernel_rfl) (by kernel_rfl) ⟨hq2.drew,hr2.drew⟩ ⟨hs1,hE1.drew,hB1.drew⟩ (fun hT=>?_)
 have hT9:=Lib.hid hT
 clear hT
 repeat (first
  | (refine Ord.ch_value (v:=?_) hT9.out (by decide) (by rfl) ?_ ?_; rotate_left; (focus (intro w5 hS; have r:=Blk.rule hS.1; obtain ⟨c0,c1,c2⟩:=HC.out _ hS.2; go_simp<;>with_reducible rfl)); (try simp only [Act.put,zA,zZ,zS]))
  | (refine Ord.ch_off hT9.out (by decide) (by rfl) ?_; (try simp only [Act.put,zA,zZ,zS]))
  | (refine Ord.ch_call (v:=?_) (f:=?_) (args:=?_) hT9.out (by decide) (by rfl) ?_ ?_ ?_; rotate_left 3; (focus (intro w5 hS; have r:=Blk.rule hS.1; obtain ⟨c0,c1,c2⟩:=HC.out _ hS.2; go_simp; constructor<;>with_reducible rfl)); (focus (intro w5 hS; (first | (with_reducible refine (HA.out w5).mono ?_; rintro e w6 ⟨rfl,rfl⟩; constructor; with_reducible rfl; exact ⟨hS,fun _ h=>h⟩)))); (try simp only [Act.put,zA,zZ,zS])))
 refine Ord.ch_turn (v:=undef) 0 hT9.out rfl (by decide) (Or.inl rfl) (by rfl) ?_ ?_
 ·rintro w5 hS ⟨hA0,hA1,hA2⟩
  simp only [if_true] at hA2
  have r:=hA2.rule
  have f0:=hA2.thaw 0 (by simp)
  have f1:=hA2.thaw 1 (by simp)
  have f2:=hA2.thaw 2 (by simp)
  go_simp
  refine ⟨rfl,⟨((hS.1.off (by omega) _).off (by omega) _).off (by omega) _,((hS.2.off (by omega) _).off (by omega) _).off (by omega) _⟩,by simpa using hA0,?_,?_⟩
  ·exact below_set (below_set (below_set hA1 (by omega) (Nat.le_refl _) _) (by simp; omega) (Nat.le_refl _) _) (by simp; omega) (Nat.le_refl _) _
  ·exact Blk.put3 hA2 _ _ _
 (try simp only [Act.put,zA,zZ,zS])
 repeat (first
  | (refine Ord.ch_value (v:=?_) hT9.out (by decide) (by rfl) ?_ ?_; rotate_left; (focus (intro w5 hS; skip; go_simp<;>with_reducible rfl)); (try simp only [Act.put,zA,zZ,zS]))
  | (refine Ord.ch_off hT9.out (by decide) (by rfl) ?_; (try simp only [Act.put,zA,zZ,zS])))
 refine Ord.InText.nil fun w5 hS=>?_
 clear hT9
 obtain ⟨hC9,hA9⟩:=Ord.chain_end hS
 clear hS
 obtain ⟨hA0,hA1,hA2⟩:=hA9
 have q:=hA2.rule
 simp only [show ¬ [11].length=0 by decide,if_false] at q
 go_wp2
 exact bodyPost_ret (v:=.tuple #[tv (x,y,z),.bool true]) (by simp [results,Tryz.results259,go_sem,q,tv]) rfl ⟨rfl,hA1⟩
theorem headNone_any {w:World} {q k:Nat} {F:Nat->Prop} (hQ:IsQ w q F [] k) :
  Calls Tryz.prog 259 #[.pointer (some ⟨q,0,none⟩)] w fun e w'=>e=.returned (.tuple #[tv t0,.bool false])/\Below w.heap.size w w':=by
 have hB:=Blk.new 0 w [.int .i64 0,.int .i64 0,.int .i64 0] 130
 have hE:=(Below.refl w.heap.size w).alloc (Nat.le_refl _) (.cells [.int .i64 0,.int .i64 0,.int .i64 0].toArray 130)
 go_enter Tryz.func259,Tryz.ntmps259
 go_wp2_with fail
 refine (len_any (hQ.below hE)).mono ?_
 rintro e w1 ⟨rfl,hb⟩
 have hB1:Blk 0 w1 w.heap.size [.int .i64 0,.int .i64 0,.int .i64 0]:=hB.kept hb.size (hb.block _ hB.1)
 have hE1:Below w.heap.size w w1:=hE.trans (hb.mono (by simp))
 have hs1:w.heap.size<=w1.heap.size:=hE1.size
 have r:=hB1.rule
 have f0:=hB1.thaw 0 (by simp)
 have f1:=hB1.thaw 1 (by simp)
 have f2:=hB1.thaw 2 (by simp)
 clear hB hE hb hQ
 go_wp2
 have hP:=hB1.put3 (.int .i64 0) (.int .i64 0) (.int .i64 0)
 have q:=hP.rule
 refine bodyPost_ret (v:=.tuple #[tv t0,.bool false]) (by simp [results,Tryz.results259,go_sem,q,tv,t0]) rfl ⟨rfl,?_⟩
 exact below_set (below_set (below_set hE1 (by omega) (Nat.le_refl _) _) (by simp; omega) (Nat.le_refl _) _) (by simp; omega) (Nat.le_refl _) _
theorem pop_any {w:World} {q k:Nat} {F:Nat->Prop} {l:List Trip} (x y z:Int) (hQ:IsQ w q F ((x,y,z)::l) k) :
  Calls Tryz.prog 267 #[.pointer (some ⟨q,0,none⟩)] w fun e w'=>e=.returned (.tuple #[tv (x,y,z),.bool true])/\IsQ w' q F l k/\Step F F w w':=by
 obtain ⟨hl1,hl2,hk2,hk⟩:=hQ.len
 have hQ0:=Lib.hid hQ
 obtain ⟨R,g,r,hq,hr,hring,_,_,hne,hF⟩:=hQ
 have hring':=hring.pop.2
 have hB:=Blk.new 0 w [.int .i64 0,.int .i64 0,.int .i64 0] 130
 have hq1:=hq.more (.cells [.int .i64 0,.int .i64 0,.int .i64 0].toArray 130)
 have hr1:=hr.more (.cells [.int .i64 0,.int .i64 0,.int .i64 0].toArray 130)
 have hE:=(Below.refl w.heap.size w).alloc (Nat.le_refl _) (.cells [.int .i64 0,.int .i64 0,.int .i64 0].toArray 130)
 have hqR:q < w.heap.size/\R < w.heap.size:=⟨hq.1,hr.1⟩
 have hG1:=round_up g 1
 have hset:(qv R (2 ^ k) g ((x,y,z)::l).length).set 1 (.int .u64 (cnt (g+1)))=qv R (2 ^ k) (g+1) l.length:=by
  simp only [qv,List.length_cons,zS,zZ]
  rw [show g+(l.length+1)=g+1+l.length by omega]
 clear hq hr hring
 go_enter Tryz.func267,Tryz.ntmps267
 go_wp2_with fail
 refine (head_any x y z (hQ0.out.below hE)).mono ?_
 rintro e w1 ⟨rfl,hb⟩
 have hB1:Blk 0 w1 w.heap.size [.int .i64 0,.int .i64 0,.int .i64 0]:=hB.kept hb.size (hb.block _ hB.1)
 have hq2:Blk 0 w1 q _:=hq1.kept hb.size (hb.block _ hq1.1)
 have hr2:Blk 0 w1 R _:=hr1.kept hb.size (hb.block _ hr1.1)
 have hE1:Below w.heap.size w w1:=hE.trans (hb.mono (by simp))
 have hs1:w.heap.size+1<=w1.heap.size:=by have:=hb.size; simpa using this
 clear hB hq1 hr1 hE hb hQ0
 have HQ2:=Lib.hid hq2
 have hq3:=hq2.more (.cells [.int .i64 x,.int .i64 y,.int .i64 z].toArray 130)
 have hB3:=hB1.more (.cells [.int .i64 x,.int .i64 y,.int .i64 z].toArray 130)
 have rq:=hq3.rule
 have fq:=hq3.thaw 1 (by simp [qv])
 have rB:=hB3.rule
 have f0:=hB3.thaw 0 (by simp)
 have f1:=hB3.thaw 1 (by simp)
 have f2:=hB3.thaw 2 (by simp)
 unfold qv at rq
 have HSET:=Lib.hid hset
 clear hset hq2 hq3 hB3
 simp only [Int.natCast_one] at hG1
 generalize hG:(cnt g)=G at *
 generalize hC:(cnt (g+((x,y,z)::l).length))=C at *
 generalize hG':(cnt (g+1))=G1 at *
 generalize hN:2 ^ k=N at *
 simp only [tv]
 have HN:=Lib.hid hN
 clear hN hG hC hG'
 go_wp2_with fail
 have hb9:=(((HQ2.out.more (.cells [.int .i64 x,.int .i64 y,.int .i64 z].toArray 130)).set (i:=1) (by simp [qv]) (.int .u64 G1)).off (B:=w.heap.size) (i:=0) (by omega) (.int .i64 x)).off (B:=w.heap.size) (i:=1) (by omega) (.int .i64 y) |>.off (B:=w.heap.size) (i:=2) (by omega) (.int .i64 z)
 have hr9:=((((hr2.more (.cells [.int .i64 x,.int .i64 y,.int .i64 z].toArray 130)).off (B:=q) (i:=1) (fun e=>hne e.symm) (.int .u64 G1)).off (B:=w.heap.size) (i:=0) (by omega) (.int .i64 x)).off (B:=w.heap.size) (i:=1) (by omega) (.int .i64 y)).off (B:=w.heap.size) (i:=2) (by omega) (.int .i64 z)
 have hP:=Blk.put3 ((hB1.more (.cells [.int .i64 x,.int .i64 y,.int .i64 z].toArray 130)).off (B:=q) (i:=1) (by omega) (.int .u64 G1)) (.int .i64 x) (.int .i64 y) (.int .i64 z)
 rw [HSET.out] at hb9
 have q9:=hP.rule
 refine bodyPost_ret (v:=.tuple #[tv (x,y,z),.bool true]) (by simp [results,Tryz.results267,go_sem,q9,tv]) rfl ⟨rfl,⟨R,g+1,r,by rw [HN.out]; exact hb9,hr9,by rw [HN.out]; exact hring',hk2,hk,hne,hF⟩,?_,fun j hj=>.inl hj⟩
 exact step_set (step_set (step_set ((((Turn.of_below hE1:Turn F w w1).alloc _).setCell (p:=⟨q,1,none⟩) (fun _=>(hF q).2 (.inl rfl)) _)) rfl (Nat.le_refl _) _) rfl (Nat.le_refl _) _) rfl (Nat.le_refl _) _
theorem peek_any {c n:Nat} {F:Nat->Prop} {f:Plc->Int} {q:Cnt} {w:World} (a b d:Int) (hx:Wf (a,b,d)) (hC:IsC w c F f q n) :
  Calls Tryz.prog 115 #[.pointer (some ⟨c,0,none⟩),.agg #[.int .i64 a,.int .i64 b,.int .i64 d]] w fun e w'=>e=.returned (.int .u64 (f (a,b,d)))/\Below w.heap.size w w':=by
 obtain ⟨mp,hb,hm,hF⟩:=hC
 go_enter Tryz.func115,Tryz.ntmps115
 go_wp2_with fail
 refine Ord.wp_chain [] (fun w'=>(Below w.heap.size w w'/\Blk 0 w' c (cv mp q)/\Blk 0 w' w.heap.size [.int .i64 a,.int .i64 b,.int .i64 d])/\MapIs w' mp f n) (fun _ _=>True) (by kernel_rfl) (by kernel_rfl) (by kernel_rfl) ⟨⟨((Below.refl _ _).alloc (Nat.le_refl _) _).drew,(hb.more _).drew,(Blk.new 0 w _ _).drew⟩,(hm.more _).drew⟩ trivial (fun hT=>?_)
 have hT9:=Lib.hid hT
 clear hT
 repeat (first
  | (refine Ord.ch_value (v:=?_) hT9.out (by decide) (by rfl) ?_ ?_; rotate_left; (focus (intro w5 hS; have r:=hS.1.2.1.rule; unfold cv at r; have r2:=hS.1.2.2.rule; have hl:=hS.2.look hx; simp only [pv] at hl; go_simp<;>with_reducible rfl)); (try simp only [Act.put,zA,zZ,zS]))
  | (refine Ord.ch_off hT9.out (by decide) (by rfl) ?_; (try simp only [Act.put,zA,zZ,zS])))
 refine Ord.InText.nil fun w5 hS=>?_
 clear hT9
 obtain ⟨hA9,hM9⟩:=Ord.chain_end hS
 clear hS
 go_wp2
 go_ret
 exact ⟨rfl,hA9.1.1⟩
section
variable {w0 w:World} {L:List Item} {p c n:Nat} {F:Nat->Prop} {f:Plc->Int} {q:Cnt}
theorem peek_w (x y z:Int) (hx:Wf (x,y,z)) (i j:Nat) (hE:Env w0 L w) (hi:L[i]?=some (wbox p c)) (hj:L[j]?=some (cellI c F f q n)) :
  Calls Tryz.prog 63 #[.pointer (some ⟨p,0,none⟩),.agg #[.int .i64 x,.int .i64 y,.int .i64 z]] w fun e w'=>e=.returned (.int .u64 (f (x,y,z)))/\Below w.heap.size w w':=by
 have hb:=(Below.refl w.heap.size w).alloc (Nat.le_refl _) (.cells #[.int .i64 x,.int .i64 y,.int .i64 z] 65)
 replace hE:=hE.box w.heap.size rfl [.int .i64 x,.int .i64 y,.int .i64 z] 65
 have HX:=Lib.hid hx
 clear hx
 go_enter Tryz.func63,Tryz.ntmps63
 go_wp2_with fail
 obtain ⟨X,hXw⟩:∃ X,X=w.heap.size:=⟨_,rfl⟩
 rw [<- hXw] at hE ⊢
 have HXW:=Lib.hid hXw
 clear hXw
 have hi1:(boxI X [.int .i64 x,.int .i64 y,.int .i64 z]::L)[i+1]?=some (wbox p c):=hi
 have hj1:(boxI X [.int .i64 x,.int .i64 y,.int .i64 z]::L)[j+1]?=some (cellI c F f q n):=hj
 refine Ord.wp_chain [] (fun w'=>Env w0 (boxI X [.int .i64 x,.int .i64 y,.int .i64 z]::L) w'/\Below w.heap.size w w') (fun _ _=>True) (by kernel_rfl) (by kernel_rfl) (by kernel_rfl) ⟨hE.drew,hb.drew⟩ trivial (fun hT=>?_)
 have hT9:=Lib.hid hT
 clear hT
 repeat (first
  | (refine Ord.ch_value (v:=?_) hT9.out (by decide) (by rfl) ?_ ?_; rotate_left; (focus (intro w5 hS; have r:=hS.1.rule 0 rfl; go_simp<;>with_reducible rfl)); (try simp only [Act.put,zA,zZ,zS]))
  | (refine Ord.ch_off hT9.out (by decide) (by rfl) ?_; (try simp only [Act.put,zA,zZ,zS]))
  | (refine Ord.ch_call (v:=?_) (f:=?_) (args:=?_) hT9.out (by decide) (by rfl) ?_ ?_ ?_; rotate_left 3; (focus (intro w5 hS; have r:=hS.1.rule 0 rfl; go_simp; constructor<;>with_reducible rfl)); (focus (intro w5 hS; (first | (with_reducible refine (kept_any (hS.1.wblk (i+1) hi1)).mono ?_; rintro e w6 ⟨rfl,rfl⟩; constructor; with_reducible rfl; exact ⟨hS,fun _ h=>h⟩) | (with_reducible refine (peek_any x y z HX.out (hS.1.cell (j+1) hj1)).mono ?_; rintro e w6 ⟨rfl,hb6⟩; constructor; with_reducible rfl; exact ⟨⟨hS.1.over hb6,hS.2.trans (hb6.mono hS.2.size)⟩,fun _ h=>h⟩)))); (try simp only [Act.put,zA,zZ,zS])))
 refine Ord.InText.nil fun w5 hS=>?_
 clear hT9
 obtain ⟨hC9,hA9⟩:=Ord.chain_end hS
 clear hS
 go_wp2
 go_ret
 exact ⟨rfl,hC9.2⟩
end
structure MA where
 (nx:Value × Value)
 (left:Value)
 (k key val lv h n r s:Int)
def av (c:Nat) (M:MA):List Value:=[.pointer (some ⟨c,0,none⟩),M.nx.1,M.nx.2,.int .i64 M.k,.int .u64 M.key,.int .u64 M.val,.int .i64 M.lv,.int .u64 M.h,.int .i64 0,.bool false,.int .u64 M.n,.int .i64 0,.bool false,.int .u64 M.r,.int .i64 0,.bool false,.int .i64 M.s,.int .i64 0,M.left]
def fnA (pc:Nat):Nat:=if pc=1 then 262 else if pc=2 then 260 else if pc=3 then 269 else if pc=4 then 276 else if pc=5 then 278 else if pc=6 then 279 else if pc=10 then 261 else 273
def nxA (a pc:Nat):Value × Value:=(mvL (fnA pc) a,.int .i64 0)
def decP:List Trip->Int->Int->Nat
 | [],_,_=>2
 | (_,y,_)::_,e,l=>if y < e then 10 else if l<=e then 0 else 1
def decS (ql:List Trip) (e l:Int):Int:=if decP ql e l=0 then 4 else 0
theorem limit_of (v:World) (a b c d e:Int):(Instr.field 48 (.agg #[.int .i64 a,.int .i64 b,.int .i64 c,.int .i64 d,.int .i64 e]) 4).run Tryz.prog v=.ok (.int .i64 e) v:=by kernel_rfl
theorem slots_of (v:World) (a b c d e:Int):(Instr.field 48 (.agg #[.int .i64 a,.int .i64 b,.int .i64 c,.int .i64 d,.int .i64 e]) 1).run Tryz.prog v=.ok (.int .i64 b) v:=by kernel_rfl
theorem kind_of (v:World) (a b c d e:Int):(Instr.field 48 (.agg #[.int .i64 a,.int .i64 b,.int .i64 c,.int .i64 d,.int .i64 e]) 0).run Tryz.prog v=.ok (.int .i64 a) v:=by kernel_rfl
section
variable {w0 w:World} {R:List Item} {a:Nat} {S:ST} {M:MA}
theorem decide_a (hz:Hid (M.nx.2=.int .i64 0)) (hE:Env w0 (boxI a (av S.c M)::LT S R) w) :
  Calls Tryz.prog 248 #[.pointer (some ⟨a,0,none⟩)] w fun o w'=>o=.returned (.int .i64 (decS S.ql S.ce S.cl))/\∃ nx,(decP S.ql S.ce S.cl≠0->nx=nxA a (decP S.ql S.ce S.cl))/\Env w0 (boxI a (av S.c { M with nx:=nx })::LT S R) w':=by
 have hmf:=makeF
 have r:=hE.rule 0 rfl
 unfold av at r
 have hlo:=limit_of
 have HA:=Lib.hid (show 262=fnA 1 from rfl)
 go_enter Tryz.func248,Tryz.ntmps248
 go_wp2_with fail
 refine (queue_c (hE.get 1 rfl)).mono ?_
 rintro o w1 ⟨rfl,rfl⟩
 go_wp2_with fail
 have hQ:=hE.queue 2 rfl
 rcases hq:S.ql with _ | ⟨⟨x,y,z⟩,t⟩
 ·rw [hq] at hQ
  refine (headNone_any hQ).mono ?_
  rintro o w2 ⟨rfl,hb⟩
  replace hE:=(hE.over hb).box w2.heap.size rfl [.int .i64 0,.int .i64 0,.int .i64 0] 130
  clear hb r hQ
  simp only [tv,t0]
  have r:=hE.rule 1 rfl
  unfold av at r
  go_wp2_with fail
  refine (epoch_c (hE.get 2 rfl)).mono ?_
  rintro o w3 ⟨rfl,rfl⟩
  go_wp2_with fail
  refine (goOn_m 1 _ _ _ (by simp [av]) (by exact congrArg some hz.out) hE rfl).mono ?_
  rintro o w4 ⟨rfl,hE4⟩
  go_wp2_with fail
  go_ret
  have hp:decP S.ql S.ce S.cl=2:=by rw [hq]; rfl
  unfold decS
  rw [hp]
  exact ⟨rfl,nxA a 2,fun _=>rfl,hE4.sub (.cons _ (List.Sublist.refl _))⟩
 ·rw [hq] at hQ
  refine (head_any x y z hQ).mono ?_
  rintro o w2 ⟨rfl,hb⟩
  replace hE:=(hE.over hb).box w2.heap.size rfl [.int .i64 x,.int .i64 y,.int .i64 z] 130
  clear hb r hQ
  simp only [tv]
  have r:=hE.rule 1 rfl
  have rX:=hE.rule 0 rfl
  unfold av at r
  by_cases hy:y < S.ce
  ·have hyb:decide (y < S.ce)=true:=by simpa using hy
   go_wp2_with fail
   refine (epoch_c (hE.get 2 rfl)).mono ?_
   rintro o w3 ⟨rfl,rfl⟩
   go_wp2_with fail
   refine (goOn_m 1 _ _ _ (by simp [av]) (by exact congrArg some hz.out) hE rfl).mono ?_
   rintro o w4 ⟨rfl,hE4⟩
   go_wp2_with fail
   go_ret
   have hp:decP S.ql S.ce S.cl=10:=by rw [hq]; simp [decP,hy]
   unfold decS
   rw [hp]
   exact ⟨rfl,nxA a 10,fun _=>rfl,hE4.sub (.cons _ (List.Sublist.refl _))⟩
  ·have hyb:decide (y < S.ce)=false:=by simpa using hy
   by_cases hl:S.cl<=S.ce
   ·have hlb:decide (S.cl<=S.ce)=true:=by simpa using hl
    go_wp2_with fail
    refine (epoch_c (hE.get 2 rfl)).mono ?_
    rintro o w3 ⟨rfl,rfl⟩
    go_wp2_with fail
    refine (conf_c (hE.get 2 rfl)).mono ?_
    rintro o w4 ⟨rfl,hb⟩
    replace hE:=hE.over hb
    clear hb r rX
    have r:=hE.rule 1 rfl
    unfold av at r
    go_wp2_with fail
    refine (end_m 1 4 (by simp [av]) hE rfl).mono ?_
    rintro o w5 ⟨rfl,nx,hE5⟩
    go_wp2_with fail
    go_ret
    have hp:decP S.ql S.ce S.cl=0:=by rw [hq]; simp [decP,hy,hl]
    unfold decS
    rw [hp]
    exact ⟨rfl,nx,fun h=>absurd rfl h,hE5.sub (.cons _ (List.Sublist.refl _))⟩
   ·have hlb:decide (S.cl<=S.ce)=false:=by simpa using hl
    go_wp2_with fail
    refine (epoch_c (hE.get 2 rfl)).mono ?_
    rintro o w3 ⟨rfl,rfl⟩
    go_wp2_with fail
    refine (conf_c (hE.get 2 rfl)).mono ?_
    rintro o w4 ⟨rfl,hb⟩
    replace hE:=hE.over hb
    clear hb r rX
    have r:=hE.rule 1 rfl
    unfold av at r
    go_wp2_with fail
    refine (goOn_m 1 _ _ _ (by simp [av]) (by exact congrArg some hz.out) hE rfl).mono ?_
    rintro o w5 ⟨rfl,hE5⟩
    go_wp2_with fail
    go_ret
    have hp:decP S.ql S.ce S.cl=1:=by rw [hq]; simp only [decP]; rw [if_neg (by omega),if_neg (by omega)]
    unfold decS
    rw [hp]
    exact ⟨rfl,nxA a 1,fun _=>rfl,hE5.sub (.cons _ (List.Sublist.refl _))⟩
theorem came_a (x y:Int) (hl:S.ql.length+1<=1048576) (hz:Hid (M.nx.2=.int .i64 0)) (hE:Env w0 (boxI a (av S.c M)::LT S R) w) :
  Calls Tryz.prog 270 #[.pointer (some ⟨a,0,none⟩),.agg #[.int .i64 x,.int .i64 y,.int .i64 0]] w fun o w'=>o=.returned (.int .i64 (decS (S.ql++[(x,y,0)]) S.ce S.cl))/\∃ nx k' F',(decP (S.ql++[(x,y,0)]) S.ce S.cl≠0->nx=nxA a (decP (S.ql++[(x,y,0)]) S.ce S.cl))/\Rm S.kq (S.ql.length+1) k'/\Env w0 (boxI a (av S.c { M with nx:=nx })::LT { S with ql:=S.ql++[(x,y,0)],kq:=k',F:=F' } R) w':=by
 replace hE:=hE.box w.heap.size rfl [.int .i64 x,.int .i64 y,.int .i64 0] 130
 go_enter Tryz.func270,Tryz.ntmps270
 go_wp2_with fail
 generalize w.alloc _=w2 at *
 generalize w.heap.size=Y at *
 refine Ord3.wp_chain [?_,?_,?_,?_,?_,?_,?_,?_,?_] [7,8] (fun w'=>Blk 0 w' a (av S.c M)/\Blk 0 w' S.c (crv S.ck S.cs S.cb S.ch S.cl S.ce S.cr S.hs 0 S.q)/\Blk 0 w' Y [.int .i64 x,.int .i64 y,.int .i64 0]) (Ord3.Stage fun κs=>[Env w0 (boxI Y [.int .i64 x,.int .i64 y,.int .i64 0]::boxI a (av S.c M)::LT S R),fun w'=>∃ z,κs.getD 0 undef=.slice (some ⟨z,0,none⟩) 1 1/\Env w0 (boxI z [.int .i64 x,.int .i64 y,.int .i64 0]::boxI Y [.int .i64 x,.int .i64 y,.int .i64 0]::boxI a (av S.c M)::LT S R) w',fun w'=>∃ k',Rm S.kq (S.ql.length+1) k'/\∃ F' z,Env w0 (boxI z [.int .i64 x,.int .i64 y,.int .i64 0]::boxI Y [.int .i64 x,.int .i64 y,.int .i64 0]::boxI a (av S.c M)::LT { S with ql:=S.ql++[(x,y,0)],kq:=k',F:=F' } R) w']) (by kernel_rfl) (by kernel_rfl) (by kernel_rfl) ⟨hE.drew.get 1 rfl,hE.drew.get 2 rfl,hE.drew.get 0 rfl⟩ ⟨_,rfl,hE.drew⟩ (fun hT=>?_)
 rotate_left 9
 have hT9:=Lib.hid hT
 clear hT
 repeat (first
  | (focus (refine Ord3.in_value (v:=?_) hT9.out (by decide) ?_ (by rfl) ?_ ?_; rotate_left 2; (focus (intro w5 hS; have r1:=Blk.rule hS.1; have r2:=Blk.rule hS.2.2; unfold av at r1; go_simp<;>with_reducible rfl)); rotate_right; (focus rfl); (try simp only [Act.put,zA,zZ,zS])))
  | (focus (refine Ord3.in_off hT9.out (by decide) ?_ (by rfl) ?_; (focus rfl); (try simp only [Act.put,zA,zZ,zS])))
  | (focus (refine Ord3.in_call (v:=?_) (f:=?_) (args:=?_) hT9.out (by decide) ?_ (by rfl) ?_ ?_ ?_; rotate_left 4; (focus (intro w5 hS; have r1:=Blk.rule hS.1; have r2:=Blk.rule hS.2.2; unfold av at r1; go_simp; constructor<;>with_reducible rfl)); (focus (intro w5 hS; (first | (with_reducible refine (queue_c hS.2.1).mono ?_; rintro o w6 ⟨rfl,rfl⟩; constructor; with_reducible rfl; exact ⟨hS,fun _ h=>h⟩)))); rotate_right; (focus rfl); (try simp only [Act.put,zA,zZ,zS]))))
 refine Ord3.in_turn (fun u=>∃ z,u=.slice (some ⟨z,0,none⟩) 1 1) _ ⟨0,rfl⟩ hT9.out rfl (by decide) (by rfl) ?_ (Or.inl rfl) (by rfl) ?_ ?_
 ·rfl
 ·rintro w7 hC7 ⟨P7,hP7,hA7⟩
  cases hP7
  go_simp
  simp only [Ord3.Lands]
  have hE8:=hA7.box w7.heap.size rfl [.int .i64 x,.int .i64 y,.int .i64 0] 130
  exact ⟨⟨_,rfl⟩,⟨hE8.get 2 rfl,hE8.get 3 rfl,hE8.get 1 rfl⟩,_,rfl,w7.heap.size,rfl,hE8⟩
 rintro _ ⟨z9,rfl⟩
 (try simp only [Act.put,zA,zZ,zS])
 refine Ord3.in_turn (fun u=>u=.int .i64 0) _ rfl hT9.out rfl (by decide) (by rfl) ?_ (Or.inr ⟨_,7,[],rfl,by kernel_rfl,by kernel_rfl,rfl⟩) (by rfl) ?_ ?_
 ·rfl
 ·rintro w7 hC7 ⟨P7,hP7,hA7⟩
  cases hP7
  obtain ⟨z8,he,hA7⟩:=hA7
  cases he
  go_simp
  simp only [Ord3.Lands]
  have hA:Row3 w7 (some ⟨z9,0,none⟩) [(x,y,0)]:=Blk.row3 (l:=[(x,y,0)]) (hA7.get 0 rfl)
  refine (push_any (l:=S.ql) (xs:=[(x,y,0)]) (A:=some ⟨z9,0,none⟩) (cap:=1) (by simp; omega) hA (fun _ b hb hFb=>?_) (hA7.queue 4 rfl)).mono ?_
  ·obtain ⟨off,he⟩:=hb
   cases he
   exact (hA7.off (i:=0) (j:=4) rfl rfl (by omega)) z9 rfl hFb
  rintro o w8 ⟨rfl,k8,F8,hrm,hQ8,hs8⟩
  have hE8:=hA7.turnQ 4 rfl hQ8 hs8
  exact ⟨_,rfl,rfl,⟨hE8.get 2 rfl,hE8.get 3 rfl,hE8.get 1 rfl⟩,_,rfl,k8,by simpa using hrm,F8,z9,hE8⟩
 rintro _ rfl
 (try simp only [Act.put,zA,zZ,zS])
 refine Ord3.in_nil rfl ?_
 rintro w9 hC9 ⟨P9,hP9,hA9⟩
 cases hP9
 obtain ⟨k8,hrm,F8,z8,hA9⟩:=hA9
 clear hT9 hC9
 have hE9:=hA9.sub (.cons _ (.cons _ (List.Sublist.refl _)))
 go_wp2_with fail
 refine (decide_a (S:={ S with ql:=S.ql++[(x,y,0)],kq:=k8,F:=F8 }) hz hE9).mono ?_
 rintro o w10 ⟨rfl,nx,hnx,hE10⟩
 go_wp2_with fail
 go_ret
 exact ⟨rfl,nx,k8,F8,hnx,hrm,hE10⟩
end
theorem method_add (k p:Nat) (w:World):(method (k+1) 26 (.pointer (some ⟨p,0,none⟩)) "Add").run Tryz.prog w=.ok (295,.pointer (some ⟨p,0,none⟩)) w:=by kernel_rfl
theorem ahead_add (k p:Nat) (w:World):(nilAhead (k+1) 26 (.pointer (some ⟨p,0,none⟩)) "Add").run Tryz.prog w=.ok (some false) w:=by kernel_rfl
theorem ahead_store (k p:Nat) (w:World):(nilAhead (k+1) 26 (.pointer (some ⟨p,0,none⟩)) "Store").run Tryz.prog w=.ok (some false) w:=by kernel_rfl
section
variable {w0 w:World} {R:List Item} {a:Nat} {S:ST} {M:MA}
theorem advance_a (he:0<=S.ce/\S.ce<=9223372036854775807) (hm:S.m < maxLen) (hE:Env w0 (boxI a (av S.c M)::LT S R) w) :
  Calls Tryz.prog 262 #[.pointer (some ⟨a,0,none⟩),.iface 26 (.pointer (some ⟨S.p,0,none⟩))] w fun o w'=>o=.returned (.int .i64 2)/\∃ nx G',Env w0 (boxI a (av S.c { M with nx:=nx })::LT { S with G:=G',f:=swf S.f (1,0,0) S.ce (S.ce+1),qc:=swq S.qc (decide (S.f (1,0,0)=S.ce)),m:=S.m+1 } R) w':=by
 have hmf:=makeF
 have hah:=ahead_swap
 have hw1:IntKind.u64.wrap S.ce=S.ce:=wrapU _ (by omega) (by omega)
 have hw2:IntKind.u64.wrap (S.ce+1)=S.ce+1:=wrapU _ (by omega) (by omega)
 have HW2:=Lib.hid hw2
 clear hw2
 have hiv:InU (S.ce+1):=by unfold InU; omega
 have HIV:=Lib.hid hiv
 clear hiv he
 have r:=hE.rule 0 rfl
 unfold av at r
 go_enter Tryz.func262,Tryz.ntmps262
 go_wp2_with (first | (refine (epoch_c (hE.get 1 rfl)).mono ?_; rintro o w1 ⟨rfl,rfl⟩))
 clear r
 refine Ord.wp_chain [11] (fun _=>True) (fun k w'=>∃ G',Env w0 (if k=0 then (boxI a (av S.c M)::LT S R) else (boxI a (av S.c M)::LT { S with G:=G',f:=swf S.f (1,0,0) S.ce (S.ce+1),qc:=swq S.qc (decide (S.f (1,0,0)=S.ce)),m:=S.m+1 } R)) w') (by kernel_rfl) (by kernel_rfl) (by kernel_rfl) trivial ⟨S.G,hE.drew⟩ (fun hT=>?_)
 have hT9:=Lib.hid hT
 clear hT
 repeat (first
  | (refine Ord.ch_value (v:=?_) hT9.out (by decide) (by rfl) ?_ ?_; rotate_left; (focus (intro w5 hS; skip; go_simp<;>with_reducible rfl)); (try simp only [Act.put,zA,zZ,zS]))
  | (refine Ord.ch_off hT9.out (by decide) (by rfl) ?_; (try simp only [Act.put,zA,zZ,zS]))
  | (refine Ord.ch_call (v:=?_) (f:=?_) (args:=?_) hT9.out (by decide) (by rfl) ?_ ?_ ?_; rotate_left 3; (focus (intro w5 hS; skip; go_simp; constructor<;>with_reducible rfl)); (focus (intro w5 hS; (first | (with_reducible refine (epoch_any _).mono ?_; rintro e w6 ⟨rfl,hb6⟩; constructor; with_reducible rfl; exact ⟨trivial,fun k h=>h.elim fun G' h=>⟨G',h.over hb6⟩⟩) | (with_reducible refine (shared_any _ _ _ _).mono ?_; rintro e w6 ⟨rfl,hb6⟩; constructor; with_reducible rfl; exact ⟨trivial,fun k h=>h.elim fun G' h=>⟨G',h.over hb6⟩⟩)))); (try simp only [Act.put,zA,zZ,zS])))
 refine Ord.ch_turn (v:=.bool (decide (S.f (1,0,0)=S.ce))) 0 hT9.out rfl (by decide) (Or.inl rfl) (by rfl) ?_ ?_
 ·rintro w5 hC5 ⟨G5,hA5⟩
  simp only [if_true] at hA5
  go_simp
  rw [method_swap]
  simp only [Result.andThen_ok]
  go_simp
  simp only [Ord.LandsIn]
  rw [HW2.out]
  refine (swap_w 1 0 0 0 S.ce 0 (S.ce+1) 0 false false (by unfold Wf In64; simp) HIV.out hm 3 4 (by decide) hA5 rfl rfl).mono ?_
  rintro e w6 ⟨rfl,G6,hE6⟩
  exact ⟨rfl,G6,hE6⟩
 (try simp only [Act.put,zA,zZ,zS])
 repeat (first
  | (refine Ord.ch_value (v:=?_) hT9.out (by decide) (by rfl) ?_ ?_; rotate_left; (focus (intro w5 hS; skip; go_simp<;>with_reducible rfl)); (try simp only [Act.put,zA,zZ,zS]))
  | (refine Ord.ch_off hT9.out (by decide) (by rfl) ?_; (try simp only [Act.put,zA,zZ,zS])))
 refine Ord.InText.nil fun w5 hS=>?_
 clear hT9
 obtain ⟨hC9,hA9⟩:=Ord.chain_end hS
 clear hS
 obtain ⟨G9,hA9⟩:=hA9
 simp only [List.length_cons,List.length_nil,Nat.zero_add,Nat.one_ne_zero,if_false] at hA9
 go_wp2_with fail
 refine (end_m 0 2 (by simp [av]) hA9 rfl).mono ?_
 rintro o w5 ⟨rfl,nx,hE5⟩
 go_wp2_with fail
 go_ret
 exact ⟨rfl,nx,G9,hE5⟩
end
section
variable {w0 w:World} {R:List Item} {l:Nat} {S:ST} {nx:Value} {x y z W C X:Int}
theorem store_k (hh:S.hs≠0) (hhs:In64 S.hs) (hW:InU W) (hg:Glo w0) (hm:S.m < maxLen) (hE:Env w0 (boxI l (lkC S.c x y z W C X nx 0)::LT S R) w) :
  Calls Tryz.prog 72 #[.pointer (some ⟨l,0,none⟩),.iface 26 (.pointer (some ⟨S.p,0,none⟩))] w fun o w'=>o=.returned (.int .i64 0)/\∃ G',Env w0 (boxI l (lkC S.c x y z W C X (mvL 133 l) 0)::LT { S with G:=G',f:=upd S.f (5,S.hs,7) (wordI false (slotI W) S.ce),qc:={ S.qc with s:=wrap64 (S.qc.s+1) },m:=S.m+1 } R) w':=by
 have hmf:=makeF
 have hah:=ahead_store
 have hb:(S.hs != 0)=true:=by simpa using hh
 have HWF:Hid (Wf (5,S.hs,7)):=Lib.hid (by unfold Wf; exact ⟨by show In64 5; unfold In64; omega,hhs,by show In64 7; unfold In64; omega⟩)
 have HLE:=Lib.hid fun (v:World) (hv:Below w0.heap.size w0 v)=>lead_c W 0 false v hW (hg.keep' hv)
 have hqi:InU (wordI false (slotI W) S.ce):=wordI_in _ _ _
 have hto:=fun (v:World) (hv:Below w0.heap.size w0 v) (hb:Blk 0 v S.c (crv S.ck S.cs S.cb S.ch S.cl S.ce S.cr S.hs 0 S.q))=>to_c (slotI W) 0 (hg.keep' hv) hb
 obtain ⟨s,hs⟩:∃ s,slotI W=s:=⟨_,rfl⟩
 rw [hs] at hqi ⊢
 simp only [hs] at HLE hto
 clear hs
 obtain ⟨q,hq⟩:∃ q,wordI false s S.ce=q:=⟨_,rfl⟩
 rw [hq] at hqi ⊢
 simp only [hq] at hto
 have HQI:=Lib.hid hqi
 have HTO:=Lib.hid hto
 have r:=hE.rule 0 rfl
 unfold lkC at r
 clear hq hqi hto hhs hW hg hh
 go_enter Tryz.func72,Tryz.ntmps72
 go_wp2_with fail
 refine (held_c (hE.get 1 rfl)).mono ?_
 rintro o w1 ⟨rfl,hb1⟩
 rw [hb]
 have hE2:=(hE.over hb1).box w1.heap.size rfl [.int .i64 S.hs,.int .i64 0] 61
 clear hb1 hE r hb
 go_wp2_with fail
 generalize w1.alloc _=w2 at *
 generalize w1.heap.size=Y at *
 refine Ord.wp_chain [17] (fun v=>Below w0.heap.size w0 v/\Blk 0 v l (lkC S.c x y z W C X nx 0)/\Blk 0 v S.c (crv S.ck S.cs S.cb S.ch S.cl S.ce S.cr S.hs 0 S.q)/\Blk 0 v Y [.int .i64 S.hs,.int .i64 0]) (fun k w'=>∃ G5,Env w0 (boxI Y [.int .i64 S.hs,.int .i64 0]::boxI l (lkC S.c x y z W C X nx 0)::LT (if k=0 then S else { S with G:=G5,f:=upd S.f (5,S.hs,7) q,qc:={ S.qc with s:=wrap64 (S.qc.s+1) },m:=S.m+1 }) R) w') (by kernel_rfl) (by kernel_rfl) (by kernel_rfl) ⟨hE2.drew.below,hE2.drew.get 1 rfl,hE2.drew.get 2 rfl,hE2.drew.get 0 rfl⟩ ⟨S.G,hE2.drew⟩ (fun hT=>?_)
 have hT9:=Lib.hid hT
 clear hT
 repeat (first
  | (refine Ord.ch_value (v:=?_) hT9.out (by decide) (by rfl) ?_ ?_; rotate_left; (focus (intro w5 hS; have r:=hS.2.1.rule; have r1:=hS.2.2.2.rule; unfold lkC at r; go_simp<;>with_reducible rfl)); (try simp only [Act.put,zA,zZ,zS]))
  | (refine Ord.ch_off hT9.out (by decide) (by rfl) ?_; (try simp only [Act.put,zA,zZ,zS]))
  | (refine Ord.ch_call (v:=?_) (f:=?_) (args:=?_) hT9.out (by decide) (by rfl) ?_ ?_ ?_; rotate_left 3; (focus (intro w5 hS; have r:=hS.2.1.rule; have r1:=hS.2.2.2.rule; unfold lkC at r; go_simp; constructor<;>with_reducible rfl)); (focus (intro w5 hS; (first | (with_reducible refine (linkOf_any _ _ _).mono ?_; rintro e w6 ⟨rfl,hb6⟩; constructor; with_reducible rfl; exact ⟨⟨hS.1.trans (hb6.mono hS.1.size),hS.2.1.under hb6,hS.2.2.1.under hb6,hS.2.2.2.under hb6⟩,fun k h=>h.elim fun G5 h=>⟨G5,h.over hb6⟩⟩) | (with_reducible refine (HLE.out _ hS.1).mono ?_; rintro e w6 ⟨rfl,hb6⟩; constructor; with_reducible rfl; exact ⟨⟨hS.1.trans (hb6.mono hS.1.size),hS.2.1.under hb6,hS.2.2.1.under hb6,hS.2.2.2.under hb6⟩,fun k h=>h.elim fun G5 h=>⟨G5,h.over hb6⟩⟩) | (with_reducible refine (HTO.out _ hS.1 hS.2.2.1).mono ?_; rintro e w6 ⟨rfl,hb6⟩; constructor; with_reducible rfl; exact ⟨⟨hS.1.trans (hb6.mono hS.1.size),hS.2.1.under hb6,hS.2.2.1.under hb6,hS.2.2.2.under hb6⟩,fun k h=>h.elim fun G5 h=>⟨G5,h.over hb6⟩⟩)))); (try simp only [Act.put,zA,zZ,zS])))
 refine Ord.ch_turn (v:=.tuple #[]) 0 hT9.out rfl (by decide) (Or.inl rfl) (by rfl) ?_ ?_
 ·rintro w5 hC5 ⟨G5,hA5⟩
  simp only [if_true] at hA5
  go_simp
  rw [method_store]
  simp only [Result.andThen_ok]
  go_simp
  simp only [Ord.LandsIn]
  refine (store_w 5 S.hs 7 0 q 0 false HWF.out HQI.out hm 4 5 (by decide) hA5 rfl rfl).mono ?_
  rintro e w6 ⟨rfl,G6,hE6⟩
  exact ⟨rfl,⟨hE6.below,hE6.get 1 rfl,hE6.get 2 rfl,hE6.get 0 rfl⟩,G6,hE6⟩
 (try simp only [Act.put,zA,zZ,zS])
 repeat (first
  | (refine Ord.ch_value (v:=?_) hT9.out (by decide) (by rfl) ?_ ?_; rotate_left; (focus (intro w5 hS; skip; go_simp<;>with_reducible rfl)); (try simp only [Act.put,zA,zZ,zS]))
  | (refine Ord.ch_off hT9.out (by decide) (by rfl) ?_; (try simp only [Act.put,zA,zZ,zS])))
 refine Ord.InText.nil fun w5 hS=>?_
 clear hT9
 obtain ⟨hC9,hA9⟩:=Ord.chain_end hS
 clear hS
 obtain ⟨G9,hA9⟩:=hA9
 simp only [List.length_cons,List.length_nil,Nat.zero_add,Nat.one_ne_zero,if_false] at hA9
 clear hC9 hE2 HTO HLE
 go_wp2_with fail
 refine (goOn_r (o:=13) 1 _ _ _ (by simp [lkC]) hA9 rfl).mono ?_
 rintro o w5 ⟨rfl,hE5⟩
 go_wp2_with fail
 go_ret
 exact ⟨rfl,G9,hE5.sub (.cons _ (List.Sublist.refl _))⟩
theorem put_k (hh:S.hs≠0) (hwf:Wf (x,y,z)) (hg:Glo w0) (hm:S.m < maxLen) (hE:Env w0 (boxI l (lkC S.c x y z W C X nx 0)::LT S R) w) :
  Calls Tryz.prog 133 #[.pointer (some ⟨l,0,none⟩),.iface 26 (.pointer (some ⟨S.p,0,none⟩))] w fun o w'=>o=.returned (.int .i64 (if S.f (x,y,z)=W then 1 else 2))/\∃ G',Env w0 (LT { S with G:=G',f:=swf S.f (x,y,z) W (wordI false S.hs S.ce),qc:=swq S.qc (decide (S.f (x,y,z)=W)),m:=S.m+1,hs:=if S.f (x,y,z)=W then 0 else S.hs } R) w':=by
 have hmf:=makeF
 have hah:=ahead_swap
 have hb:(S.hs != 0)=true:=by simpa using hh
 have HWF:=Lib.hid hwf
 have hqi:InU (wordI false S.hs S.ce):=wordI_in _ _ _
 have hto:=fun (v:World) (hv:Below w0.heap.size w0 v) (hb:Blk 0 v S.c (crv S.ck S.cs S.cb S.ch S.cl S.ce S.cr S.hs 0 S.q))=>to_c S.hs 0 (hg.keep' hv) hb
 obtain ⟨q,hq⟩:∃ q,wordI false S.hs S.ce=q:=⟨_,rfl⟩
 rw [hq] at hqi ⊢
 simp only [hq] at hto
 have HQI:=Lib.hid hqi
 have HTO:=Lib.hid hto
 have HH:=Lib.hid hh
 have r:=hE.rule 0 rfl
 unfold lkC at r
 clear hq hqi hto hwf hg hh
 obtain ⟨dd,hdd⟩:∃ dd,decide (S.f (x,y,z)=W)=dd:=⟨_,rfl⟩
 have hds:(if S.f (x,y,z)=W then (1:Int) else 2)=if dd then 1 else 2:=by rw [<- hdd]; by_cases h:S.f (x,y,z)=W<;>simp [h]
 have hdh:(if S.f (x,y,z)=W then (0:Int) else S.hs)=if dd then 0 else S.hs:=by rw [<- hdd]; by_cases h:S.f (x,y,z)=W<;>simp [h]
 rw [hds,hdd]
 simp only [hdh]
 clear hds hdh
 have HDD:=Lib.hid hdd
 clear hdd
 go_enter Tryz.func133,Tryz.ntmps133
 go_wp2_with fail
 refine (held_c (hE.get 1 rfl)).mono ?_
 rintro o w1 ⟨rfl,hb1⟩
 rw [hb]
 have hE2:=(hE.over hb1).box w1.heap.size rfl [.int .i64 S.hs,.int .i64 0] 61
 clear hb1 hE r hb
 go_wp2_with fail
 generalize w1.alloc _=w2 at *
 generalize w1.heap.size=Y at *
 refine Ord.wp_chain [20] (fun v=>Below w0.heap.size w0 v/\Blk 0 v l (lkC S.c x y z W C X nx 0)/\Blk 0 v S.c (crv S.ck S.cs S.cb S.ch S.cl S.ce S.cr S.hs 0 S.q)/\Blk 0 v Y [.int .i64 S.hs,.int .i64 0]) (fun k w'=>∃ G5,Env w0 (boxI Y [.int .i64 S.hs,.int .i64 0]::boxI l (lkC S.c x y z W C X nx 0)::LT (if k=0 then S else { S with G:=G5,f:=swf S.f (x,y,z) W q,qc:=swq S.qc dd,m:=S.m+1 }) R) w') (by kernel_rfl) (by kernel_rfl) (by kernel_rfl) ⟨hE2.drew.below,hE2.drew.get 1 rfl,hE2.drew.get 2 rfl,hE2.drew.get 0 rfl⟩ ⟨S.G,hE2.drew⟩ (fun hT=>?_)
 have hT9:=Lib.hid hT
 clear hT
 repeat (first
  | (refine Ord.ch_value (v:=?_) hT9.out (by decide) (by rfl) ?_ ?_; rotate_left; (focus (intro w5 hS; have r:=hS.2.1.rule; have r1:=hS.2.2.2.rule; unfold lkC at r; go_simp<;>with_reducible rfl)); (try simp only [Act.put,zA,zZ,zS]))
  | (refine Ord.ch_off hT9.out (by decide) (by rfl) ?_; (try simp only [Act.put,zA,zZ,zS]))
  | (refine Ord.ch_call (v:=?_) (f:=?_) (args:=?_) hT9.out (by decide) (by rfl) ?_ ?_ ?_; rotate_left 3; (focus (intro w5 hS; have r:=hS.2.1.rule; have r1:=hS.2.2.2.rule; unfold lkC at r; go_simp; constructor<;>with_reducible rfl)); (focus (intro w5 hS; (first | (with_reducible refine (HTO.out _ hS.1 hS.2.2.1).mono ?_; rintro e w6 ⟨rfl,hb6⟩; constructor; with_reducible rfl; exact ⟨⟨hS.1.trans (hb6.mono hS.1.size),hS.2.1.under hb6,hS.2.2.1.under hb6,hS.2.2.2.under hb6⟩,fun k h=>h.elim fun G5 h=>⟨G5,h.over hb6⟩⟩)))); (try simp only [Act.put,zA,zZ,zS])))
 refine Ord.ch_turn (v:=.bool dd) 0 hT9.out rfl (by decide) (Or.inl rfl) (by rfl) ?_ ?_
 ·rintro w5 hC5 ⟨G5,hA5⟩
  simp only [if_true] at hA5
  go_simp
  rw [method_swap]
  simp only [Result.andThen_ok]
  go_simp
  simp only [Ord.LandsIn]
  have hsw:=swap_w x y z 0 W 0 q 0 false false HWF.out HQI.out hm 4 5 (by decide) hA5 rfl rfl
  rw [HDD.out] at hsw
  refine hsw.mono ?_
  rintro e w6 ⟨rfl,G6,hE6⟩
  exact ⟨rfl,⟨hE6.below,hE6.get 1 rfl,hE6.get 2 rfl,hE6.get 0 rfl⟩,G6,hE6⟩
 (try simp only [Act.put,zA,zZ,zS])
 repeat (first
  | (refine Ord.ch_value (v:=?_) hT9.out (by decide) (by rfl) ?_ ?_; rotate_left; (focus (intro w5 hS; skip; go_simp<;>with_reducible rfl)); (try simp only [Act.put,zA,zZ,zS]))
  | (refine Ord.ch_off hT9.out (by decide) (by rfl) ?_; (try simp only [Act.put,zA,zZ,zS])))
 refine Ord.InText.nil fun w5 hS=>?_
 clear hT9
 obtain ⟨hC9,hA9⟩:=Ord.chain_end hS
 clear hS
 obtain ⟨G9,hA9⟩:=hA9
 simp only [List.length_cons,List.length_nil,Nat.zero_add,Nat.one_ne_zero,if_false] at hA9
 replace hA9:=hA9.sub (.cons _ (List.Sublist.refl _))
 clear hC9 hE2 HTO HDD
 have r:=hA9.rule 0 rfl
 unfold lkC at r
 cases dd
 ·go_wp2_with fail
  refine (end_r (o:=13) 0 2 (by simp [lkC]) hA9 rfl).mono ?_
  rintro o w5 ⟨rfl,hE5⟩
  go_wp2_with fail
  go_ret
  exact ⟨rfl,G9,hE5.sub (.cons _ (List.Sublist.refl _))⟩
 ·go_wp2_with fail
  refine (takeYes_c HH.out 1 hA9 rfl).mono ?_
  rintro o w4 ⟨rfl,hE4⟩
  simp only [zZ,zS] at hE4
  clear hA9 r
  have r:=hE4.rule 0 rfl
  unfold lkC at r
  go_wp2_with fail
  refine (end_r (o:=13) 0 1 (by simp [lkC]) hE4 rfl).mono ?_
  rintro o w5 ⟨rfl,hE5⟩
  go_wp2_with fail
  go_ret
  exact ⟨rfl,G9,hE5.sub (.cons _ (List.Sublist.refl _))⟩
end
end Go.Proofs.YthcblagpbkaoaaaGreatDoor
namespace Go.Proofs.YthcblagpbkaoaaaGreatDoor
open Go.RowKit
set_option maxRecDepth 100000
set_option maxHeartbeats 25600000
theorem marked_any (x s v:Int) (w:World) (hg:Glo w) (h0:0<=x) (h1:x<=18446744073709551615) :
  Calls Tryz.prog 175 #[.int .u64 x,.int .i64 s,.int .i64 v] w fun e w'=>e=.returned (.int .u64 (markedW x s v))/\Below w.heap.size w w':=by
 cases h:markB x
 ·have hm:markedW x s v=wordI true s v:=by simp [markedW,h]
  have H:=Lib.hid h
  have HM:=Lib.hid hm
  clear h hm
  go_enter Tryz.func175,Tryz.ntmps175
  go_wp2_with fail
  refine (isMarked_any x _ hg h0 h1).mono ?_
  rintro e w1 ⟨rfl,hb⟩
  rw [H.out]
  go_wp2_with fail
  refine (word_any true s v _ (hg.keep' hb)).mono ?_
  rintro e w2 ⟨rfl,hb2⟩
  go_wp2_with fail
  go_ret
  exact ⟨ret_int HM.out.symm,hb.trans (hb2.mono (by have:=hb.size; omega))⟩
 ·have hm:markedW x s v=x:=by simp [markedW,h]
  have H:=Lib.hid h
  have HM:=Lib.hid hm
  clear h hm
  go_enter Tryz.func175,Tryz.ntmps175
  go_wp2_with fail
  refine (isMarked_any x _ hg h0 h1).mono ?_
  rintro e w1 ⟨rfl,hb⟩
  rw [H.out]
  go_wp2_with fail
  go_ret
  exact ⟨ret_int HM.out.symm,hb⟩
end Go.Proofs.YthcblagpbkaoaaaGreatDoor
namespace Go.Proofs.YthcblagpbkaoaaaGreatDoor
open Go.RowKit Go.Maps
set_option maxRecDepth 100000
set_option maxHeartbeats 25600000
section
variable {w:World} {c q:Nat} {k s b h l e r hs hi:Int}
theorem markNew_c (v d2:Int) (t:Bool) (a d:Int) (hv:InU v) (hm:markB v=false) (hg:Glo w) (hb:Blk 0 w c (crv k s b h l e r hs hi q)) :
  Calls Tryz.prog 134 #[.pointer (some ⟨c,0,none⟩),.agg #[.int .u64 v,.int .i64 d2,.bool t],.agg #[.int .i64 a,.int .i64 d]] w fun o w'=>o=.returned (.agg #[.int .u64 (wordI true a e),.int .i64 d,.bool false])/\Below w.heap.size w w':=by
 unfold InU at hv
 have hmw:markedW v a e=wordI true a e:=by simp [markedW,hm]
 have HGB:Hid (∀ (x:World) (hx:Below w.heap.size w x),Calls Tryz.prog 175 #[.int .u64 v,.int .i64 a,.int .i64 e] x fun o w'=>o=.returned (.int .u64 (wordI true a e))/\Below x.heap.size x w'):=Lib.hid fun x hx=>by
  rw [<- hmw]; exact marked_any v a e x (hg.keep' hx) hv.1 hv.2
 have HM:=Lib.hid hm
 clear hm hmw
 have hF:=(((Fr.start w).push w.heap.size rfl [.int .u64 v,.int .i64 d2,.bool t] 150).push (w.heap.size+1) (by simp) [.int .i64 a,.int .i64 d] 61).push (w.heap.size+1+1) (by simp) [.int .u64 0,.int .i64 0,.bool false] 150
 have r:=hF.rule 2 rfl
 have hg1:=hg.keep' hF.below
 have hcl:=hb.1
 have hb1:=hb.under hF.below
 clear hb hg
 go_enter Tryz.func134,Tryz.ntmps134
 go_wp2_with fail
 refine (isMarked_any v _ hg1 hv.1 hv.2).mono ?_
 rintro o w1 ⟨rfl,hb⟩
 rw [HM.out]
 replace hF:=hF.over hb
 replace hb1:=hb1.under hb
 clear hb r hg1
 unfold crv at hb1
 go_wp2_with fail
 have hX:=hF.blk 2 rfl (by omega)
 have hY:=hF.blk 1 rfl (by omega)
 have hZ:=hF.blk 0 rfl (by omega)
 have hE:=hF.below
 clear hF
 refine Ord.wp_chain [12] (fun w'=>Below w.heap.size w w'/\Blk 0 w' c [.int .i64 k,.int .i64 s,.int .i64 b,.int .i64 h,.int .i64 l,.int .i64 e,.int .i64 r,.int .i64 hs,.int .i64 hi,.pointer (some ⟨q,0,none⟩)]/\Blk 0 w' w.heap.size [.int .u64 v,.int .i64 d2,.bool t]/\Blk 0 w' (w.heap.size+1) [.int .i64 a,.int .i64 d]) (fun j w'=>Blk 0 w' (w.heap.size+1+1) (if j=0 then [.int .u64 0,.int .i64 0,.bool false] else [.int .u64 (wordI true a e),.int .i64 d,.bool false])) (by kernel_rfl) (by kernel_rfl) (by kernel_rfl) ⟨hE.drew,hb1.drew,hX.drew,hY.drew⟩ hZ.drew (fun hT=>?_)
 have hT9:=Lib.hid hT
 clear hT
 repeat (first
  | (refine Ord.ch_value (v:=?_) hT9.out (by decide) (by rfl) ?_ ?_; rotate_left; (focus (intro w5 hS; have r1:=Blk.rule hS.2.1; have r2:=Blk.rule hS.2.2.1; have r3:=Blk.rule hS.2.2.2; go_simp<;>with_reducible rfl)); (try simp only [Act.put,zA,zZ,zS]))
  | (refine Ord.ch_off hT9.out (by decide) (by rfl) ?_; (try simp only [Act.put,zA,zZ,zS]))
  | (refine Ord.ch_call (v:=?_) (f:=?_) (args:=?_) hT9.out (by decide) (by rfl) ?_ ?_ ?_; rotate_left 3; (focus (intro w5 hS; have r1:=Blk.rule hS.2.1; have r2:=Blk.rule hS.2.2.1; have r3:=Blk.rule hS.2.2.2; go_simp; constructor<;>with_reducible rfl)); (focus (intro w5 hS; (first | (with_reducible refine (HGB.out _ hS.1).mono ?_; rintro o w6 ⟨rfl,hb6⟩; constructor; with_reducible rfl; exact ⟨⟨hS.1.trans (hb6.mono hS.1.size),hS.2.1.under hb6,hS.2.2.1.under hb6,hS.2.2.2.under hb6⟩,fun _ h=>h.under hb6⟩)))); (try simp only [Act.put,zA,zZ,zS])))
 refine Ord.ch_turn (v:=undef) 0 hT9.out rfl (by decide) (Or.inl rfl) (by rfl) ?_ ?_
 ·rintro w5 hS hA2
  simp only [if_true] at hA2
  have r:=hA2.rule
  have f0:=hA2.thaw 0 (by simp)
  have f1:=hA2.thaw 1 (by simp)
  have f2:=hA2.thaw 2 (by simp)
  have hz:=hS.1.size
  go_simp
  refine ⟨rfl,⟨?_,?_,?_,?_⟩,?_⟩
  ·exact below_set (below_set (below_set hS.1 hz (by omega) _) (by simp; omega) (by omega) _) (by simp; omega) (by omega) _
  ·exact ((hS.2.1.off (by omega) _).off (by omega) _).off (by omega) _
  ·exact ((hS.2.2.1.off (by omega) _).off (by omega) _).off (by omega) _
  ·exact ((hS.2.2.2.off (by omega) _).off (by omega) _).off (by omega) _
  ·exact Blk.put3 hA2 _ _ _
 (try simp only [Act.put,zA,zZ,zS])
 repeat (first
  | (refine Ord.ch_value (v:=?_) hT9.out (by decide) (by rfl) ?_ ?_; rotate_left; (focus (intro w5 hS; skip; go_simp<;>with_reducible rfl)); (try simp only [Act.put,zA,zZ,zS]))
  | (refine Ord.ch_off hT9.out (by decide) (by rfl) ?_; (try simp only [Act.put,zA,zZ,zS])))
 refine Ord.InText.nil fun w5 hS=>?_
 clear hT9
 obtain ⟨hC9,hA9⟩:=Ord.chain_end hS
 clear hS
 have q:=hA9.rule
 simp only [show ¬ [12].length=0 by decide,if_false] at q
 go_wp2
 exact bodyPost_ret (v:=.agg #[.int .u64 (wordI true a e),.int .i64 d,.bool false]) (by simp [results,Tryz.results134,go_sem,q]) rfl ⟨rfl,hC9.1⟩
end
def poolS (x l:Int):Int:=if slotI x=0 then 3 else if l<=verI x then 4 else 0
section
variable {w0 w:World} {R:List Item} {a:Nat} {S:ST} {M:MA}
theorem isLast_m {vs:List Value} (x d:Int) (t:Bool) (hx:InU x) (hg:Glo w0) (hv:vs[0]?=some (.pointer (some ⟨S.c,0,none⟩))) (hE:Env w0 (boxI a vs::LT S R) w) :
  Calls Tryz.prog 238 #[.pointer (some ⟨a,0,none⟩),.agg #[.int .u64 x,.int .i64 d,.bool t]] w fun o w'=>o=.returned (.bool (decide (S.cl<=verI x)))/\Below w.heap.size w w':=by
 have hb0:=(Below.refl w.heap.size w).alloc (Nat.le_refl _) (.cells [.int .u64 x,.int .i64 d,.bool t].toArray 150)
 have hE1:=hE.box w.heap.size rfl [.int .u64 x,.int .i64 d,.bool t] 150
 have HV:Hid (∀ v,Env w0 (boxI w.heap.size [.int .u64 x,.int .i64 d,.bool t]::boxI a vs::LT S R) v->v.cell? ⟨a,0,none⟩=some (.pointer (some ⟨S.c,0,none⟩))):=Lib.hid fun v h=>(h.rule 1 rfl 0).trans hv
 have HG:Hid (∀ v,Env w0 (boxI w.heap.size [.int .u64 x,.int .i64 d,.bool t]::boxI a vs::LT S R) v->Calls Tryz.prog 254 #[.int .u64 x] v fun e w'=>e=.returned (.int .i64 (verI x))/\Below v.heap.size v w'):=Lib.hid fun v h=>version_any x v (hg.keep' h.below) hx.1 hx.2
 have hlo:=limit_of
 generalize verI x=y at *
 clear hv hx hg hE
 go_enter Tryz.func238,Tryz.ntmps238
 go_wp2_with fail
 refine wp_text (S:=(fun v=>Env w0 (boxI w.heap.size [.int .u64 x,.int .i64 d,.bool t]::boxI a vs::LT S R) v/\Below w.heap.size w v)) (by kernel_rfl) (by kernel_rfl) (⟨hE1.drew,hb0.drew⟩) (fun hT=>?_)
 have hT9:=Lib.hid hT
 clear hT
 repeat (first
  | (refine text_value (v:=?_) hT9.out (by rfl) ?_ ?_; rotate_left; (focus (intro w5 hS; have r0:=HV.out _ hS.1; have r1:=hS.1.rule 0 rfl; go_simp<;>with_reducible rfl)); (try simp only [Act.put,zA,zZ,zS]))
  | (refine text_off hT9.out (by rfl) ?_; (try simp only [Act.put,zA,zZ,zS]))
  | (refine text_call (v:=?_) (f:=?_) (args:=?_) hT9.out (by rfl) ?_ ?_ ?_; rotate_left 3; (focus (intro w5 hS; have r0:=HV.out _ hS.1; have r1:=hS.1.rule 0 rfl; go_simp; constructor<;>with_reducible rfl)); (focus (intro w5 hS; (first | (with_reducible refine (HG.out _ hS.1).mono ?_; rintro o w6 ⟨rfl,hb6⟩; constructor; with_reducible rfl; exact ⟨hS.1.over hb6,hS.2.trans (hb6.mono hS.2.size)⟩) | (with_reducible refine (conf_c (hS.1.get 2 rfl)).mono ?_; rintro o w6 ⟨rfl,hb6⟩; constructor; with_reducible rfl; exact ⟨hS.1.over hb6,hS.2.trans (hb6.mono hS.2.size)⟩)))); (try simp only [Act.put,zA,zZ,zS])))
 refine InText.nil fun w5 hS5=>?_
 clear hT9
 go_wp2_with fail
 go_ret
 exact ⟨rfl,hS5.2⟩
theorem freshNo_a (x:Int) (hfx:S.f (3,0,0)=x) (h0:0<=x) (ht:S.cs<=x) (hcs:0<=S.cs/\S.cs<=9223372036854775806) (hm:S.m < maxLen) (hz:Hid (M.nx.2=.int .i64 0)) (hE:Env w0 (boxI a (av S.c M)::LT S R) w) :
  Calls Tryz.prog 260 #[.pointer (some ⟨a,0,none⟩),.iface 26 (.pointer (some ⟨S.p,0,none⟩))] w fun o w'=>o=.returned (.int .i64 0)/\∃ G',Env w0 (boxI a (av S.c { M with nx:=nxA a 3 })::LT { S with G:=G',f:=upd S.f (3,0,0) (IntKind.u64.wrap (x+1)),qc:={ S.qc with a:=wrap64 (S.qc.a+1) },m:=S.m+1 } R) w':=by
 have hmf:=makeF
 have hah:=ahead_add
 have hso:=slots_of
 have HT:=Lib.hid hfx
 have hw1:IntKind.u64.wrap S.cs=S.cs:=wrapU _ (by omega) (by omega)
 have hd:decide (S.cs<=x)=true:=by simpa using ht
 clear h0 ht hcs hfx
 go_enter Tryz.func260,Tryz.ntmps260
 go_wp2_with fail
 refine Ord.wp_chain [6] (fun _=>True) (fun k w'=>∃ G5,Env w0 (if k=0 then (boxI a (av S.c M)::LT S R) else (boxI a (av S.c M)::LT { S with G:=G5,f:=upd S.f (3,0,0) (IntKind.u64.wrap (x+1)),qc:={ S.qc with a:=wrap64 (S.qc.a+1) },m:=S.m+1 } R)) w') (by kernel_rfl) (by kernel_rfl) (by kernel_rfl) trivial ⟨S.G,hE.drew⟩ (fun hT=>?_)
 have hT9:=Lib.hid hT
 clear hT
 repeat (first
  | (refine Ord.ch_value (v:=?_) hT9.out (by decide) (by rfl) ?_ ?_; rotate_left; (focus (intro w5 hS; skip; go_simp<;>with_reducible rfl)); (try simp only [Act.put,zA,zZ,zS]))
  | (refine Ord.ch_off hT9.out (by decide) (by rfl) ?_; (try simp only [Act.put,zA,zZ,zS]))
  | (refine Ord.ch_call (v:=?_) (f:=?_) (args:=?_) hT9.out (by decide) (by rfl) ?_ ?_ ?_; rotate_left 3; (focus (intro w5 hS; skip; go_simp; constructor<;>with_reducible rfl)); (focus (intro w5 hS; (first | (with_reducible refine (fresh_any _).mono ?_; rintro e w6 ⟨rfl,hb6⟩; constructor; with_reducible rfl; exact ⟨trivial,fun k h=>h.elim fun G5 h=>⟨G5,h.over hb6⟩⟩) | (with_reducible refine (shared_any _ _ _ _).mono ?_; rintro e w6 ⟨rfl,hb6⟩; constructor; with_reducible rfl; exact ⟨trivial,fun k h=>h.elim fun G5 h=>⟨G5,h.over hb6⟩⟩)))); (try simp only [Act.put,zA,zZ,zS])))
 refine Ord.ch_turn (v:=.int .u64 x) 0 hT9.out rfl (by decide) (Or.inl rfl) (by rfl) ?_ ?_
 ·rintro w5 hC5 ⟨G5,hA5⟩
  simp only [if_true] at hA5
  go_simp
  rw [method_add]
  simp only [Result.andThen_ok]
  go_simp
  simp only [Ord.LandsIn]
  have h7:=add_w 3 0 0 0 1 (by unfold Wf In64; simp) hm 3 4 (by decide) hA5 rfl rfl
  rw [HT.out] at h7
  refine h7.mono ?_
  rintro e w6 ⟨rfl,G6,hE6⟩
  exact ⟨rfl,G6,hE6⟩
 (try simp only [Act.put,zA,zZ,zS])
 repeat (first
  | (refine Ord.ch_value (v:=?_) hT9.out (by decide) (by rfl) ?_ ?_; rotate_left; (focus (intro w5 hS; skip; go_simp<;>with_reducible rfl)); (try simp only [Act.put,zA,zZ,zS]))
  | (refine Ord.ch_off hT9.out (by decide) (by rfl) ?_; (try simp only [Act.put,zA,zZ,zS])))
 refine Ord.InText.nil fun w5 hS=>?_
 clear hT9
 obtain ⟨hC9,hA9⟩:=Ord.chain_end hS
 clear hS
 obtain ⟨G9,hA9⟩:=hA9
 simp only [List.length_cons,List.length_nil,Nat.zero_add,Nat.one_ne_zero,if_false] at hA9
 have r:=hA9.rule 0 rfl
 unfold av at r
 go_wp2_with fail
 refine (conf_c (hA9.get 1 rfl)).mono ?_
 rintro o w6 ⟨rfl,hb⟩
 replace hA9:=hA9.over hb
 clear hb r
 have r:=hA9.rule 0 rfl
 unfold av at r
 go_wp2_with fail
 refine (goOn_m 0 _ _ _ (by simp [av]) (by exact congrArg some hz.out) hA9 rfl).mono ?_
 rintro o w7 ⟨rfl,hE7⟩
 go_wp2_with fail
 go_ret
 exact ⟨rfl,G9,hE7⟩
theorem freshYes_a (x:Int) (hfx:S.f (3,0,0)=x) (hl:S.ql.length+1<=1048576) (h0:0<=x) (ht:x < S.cs) (hcs:S.cs<=9223372036854775806) (hm:S.m < maxLen) (hz:Hid (M.nx.2=.int .i64 0)) (hE:Env w0 (boxI a (av S.c M)::LT S R) w) :
  Calls Tryz.prog 260 #[.pointer (some ⟨a,0,none⟩),.iface 26 (.pointer (some ⟨S.p,0,none⟩))] w fun o w'=>o=.returned (.int .i64 (decS (S.ql++[(x+1,0,0)]) S.ce S.cl))/\∃ nx k' F' G',(decP (S.ql++[(x+1,0,0)]) S.ce S.cl≠0->nx=nxA a (decP (S.ql++[(x+1,0,0)]) S.ce S.cl))/\Rm S.kq (S.ql.length+1) k'/\Env w0 (boxI a (av S.c { M with nx:=nx })::LT { S with G:=G',f:=upd S.f (3,0,0) (IntKind.u64.wrap (x+1)),qc:={ S.qc with a:=wrap64 (S.qc.a+1) },m:=S.m+1,ql:=S.ql++[(x+1,0,0)],kq:=k',F:=F' } R) w':=by
 have hmf:=makeF
 have hah:=ahead_add
 have hso:=slots_of
 have HT:=Lib.hid hfx
 have hw1:IntKind.u64.wrap S.cs=S.cs:=wrapU _ (by omega) (by omega)
 have hd:decide (S.cs<=x)=false:=by simp; omega
 have hw2:wrap64 x=x:=w64 _ (by omega)
 have hw3:wrap64 (x+1)=x+1:=w64 _ (by omega)
 clear h0 ht hcs hfx
 go_enter Tryz.func260,Tryz.ntmps260
 go_wp2_with fail
 refine Ord.wp_chain [6] (fun _=>True) (fun k w'=>∃ G5,Env w0 (if k=0 then (boxI a (av S.c M)::LT S R) else (boxI a (av S.c M)::LT { S with G:=G5,f:=upd S.f (3,0,0) (IntKind.u64.wrap (x+1)),qc:={ S.qc with a:=wrap64 (S.qc.a+1) },m:=S.m+1 } R)) w') (by kernel_rfl) (by kernel_rfl) (by kernel_rfl) trivial ⟨S.G,hE.drew⟩ (fun hT=>?_)
 have hT9:=Lib.hid hT
 clear hT
 repeat (first
  | (refine Ord.ch_value (v:=?_) hT9.out (by decide) (by rfl) ?_ ?_; rotate_left; (focus (intro w5 hS; skip; go_simp<;>with_reducible rfl)); (try simp only [Act.put,zA,zZ,zS]))
  | (refine Ord.ch_off hT9.out (by decide) (by rfl) ?_; (try simp only [Act.put,zA,zZ,zS]))
  | (refine Ord.ch_call (v:=?_) (f:=?_) (args:=?_) hT9.out (by decide) (by rfl) ?_ ?_ ?_; rotate_left 3; (focus (intro w5 hS; skip; go_simp; constructor<;>with_reducible rfl)); (focus (intro w5 hS; (first | (with_reducible refine (fresh_any _).mono ?_; rintro e w6 ⟨rfl,hb6⟩; constructor; with_reducible rfl; exact ⟨trivial,fun k h=>h.elim fun G5 h=>⟨G5,h.over hb6⟩⟩) | (with_reducible refine (shared_any _ _ _ _).mono ?_; rintro e w6 ⟨rfl,hb6⟩; constructor; with_reducible rfl; exact ⟨trivial,fun k h=>h.elim fun G5 h=>⟨G5,h.over hb6⟩⟩)))); (try simp only [Act.put,zA,zZ,zS])))
 refine Ord.ch_turn (v:=.int .u64 x) 0 hT9.out rfl (by decide) (Or.inl rfl) (by rfl) ?_ ?_
 ·rintro w5 hC5 ⟨G5,hA5⟩
  simp only [if_true] at hA5
  go_simp
  rw [method_add]
  simp only [Result.andThen_ok]
  go_simp
  simp only [Ord.LandsIn]
  have h7:=add_w 3 0 0 0 1 (by unfold Wf In64; simp) hm 3 4 (by decide) hA5 rfl rfl
  rw [HT.out] at h7
  refine h7.mono ?_
  rintro e w6 ⟨rfl,G6,hE6⟩
  exact ⟨rfl,G6,hE6⟩
 (try simp only [Act.put,zA,zZ,zS])
 repeat (first
  | (refine Ord.ch_value (v:=?_) hT9.out (by decide) (by rfl) ?_ ?_; rotate_left; (focus (intro w5 hS; skip; go_simp<;>with_reducible rfl)); (try simp only [Act.put,zA,zZ,zS]))
  | (refine Ord.ch_off hT9.out (by decide) (by rfl) ?_; (try simp only [Act.put,zA,zZ,zS])))
 refine Ord.InText.nil fun w5 hS=>?_
 clear hT9
 obtain ⟨hC9,hA9⟩:=Ord.chain_end hS
 clear hS
 obtain ⟨G9,hA9⟩:=hA9
 simp only [List.length_cons,List.length_nil,Nat.zero_add,Nat.one_ne_zero,if_false] at hA9
 have r:=hA9.rule 0 rfl
 unfold av at r
 go_wp2_with fail
 refine (conf_c (hA9.get 1 rfl)).mono ?_
 rintro o w6 ⟨rfl,hb⟩
 replace hA9:=hA9.over hb
 clear hb r
 have r:=hA9.rule 0 rfl
 unfold av at r
 go_wp2_with fail
 refine (came_a (S:={ S with G:=G9,f:=upd S.f (3,0,0) (IntKind.u64.wrap (x+1)),qc:={ S.qc with a:=wrap64 (S.qc.a+1) },m:=S.m+1 }) (x+1) 0 hl hz hA9).mono ?_
 rintro o w7 ⟨rfl,nx,k',F',hnx,hrm,hE7⟩
 go_wp2_with fail
 go_ret
 exact ⟨rfl,nx,k',F',G9,hnx,hrm,hE7⟩
theorem loadPool_a (x:Int) (hfx:S.f (2,0,0)=x) (hg:Glo w0) (hz:Hid (M.nx.2=.int .i64 0)) (hE:Env w0 (boxI a (av S.c M)::LT S R) w) :
  Calls Tryz.prog 269 #[.pointer (some ⟨a,0,none⟩),.iface 26 (.pointer (some ⟨S.p,0,none⟩))] w fun o w'=>o=.returned (.int .i64 (poolS x S.cl))/\∃ nx,(poolS x S.cl=0->nx=nxA a 4)/\Env w0 (boxI a (av S.c { M with nx:=nx,h:=x })::LT { S with qc:={ S.qc with l:=wrap64 (S.qc.l+1) } } R) w':=by
 have hmf:=makeF
 have hah:=ahead_load
 have hso:=slot_of
 have hxu:InU x:=by rw [<- hfx]; exact (hE.cell 4 rfl).words.1 _
 have HX:=Lib.hid hfx
 have HXU:=Lib.hid hxu
 clear hfx hxu
 go_enter Tryz.func269,Tryz.ntmps269
 go_wp2_with fail
 refine Ord.wp_chain [7,10] (fun _=>True) (fun k w'=>Env w0 (pick3 (boxI a (av S.c M)::LT S R) (boxI a (av S.c M)::LT { S with qc:={ S.qc with l:=wrap64 (S.qc.l+1) } } R) (boxI a (av S.c { M with h:=x })::LT { S with qc:={ S.qc with l:=wrap64 (S.qc.l+1) } } R) k) w') (by kernel_rfl) (by kernel_rfl) (by kernel_rfl) trivial hE.drew (fun hT=>?_)
 have hT9:=Lib.hid hT
 clear hT
 repeat (first
  | (refine Ord.ch_value (v:=?_) hT9.out (by decide) (by rfl) ?_ ?_; rotate_left; (focus (intro w5 hS; skip; go_simp<;>with_reducible rfl)); (try simp only [Act.put,zA,zZ,zS]))
  | (refine Ord.ch_off hT9.out (by decide) (by rfl) ?_; (try simp only [Act.put,zA,zZ,zS]))
  | (refine Ord.ch_call (v:=?_) (f:=?_) (args:=?_) hT9.out (by decide) (by rfl) ?_ ?_ ?_; rotate_left 3; (focus (intro w5 hS; skip; go_simp; constructor<;>with_reducible rfl)); (focus (intro w5 hS; (first | (with_reducible refine (pool_any _).mono ?_; rintro e w6 ⟨rfl,hb6⟩; constructor; with_reducible rfl; exact ⟨trivial,fun k h=>h.over hb6⟩) | (with_reducible refine (shared_any _ _ _ _).mono ?_; rintro e w6 ⟨rfl,hb6⟩; constructor; with_reducible rfl; exact ⟨trivial,fun k h=>h.over hb6⟩)))); (try simp only [Act.put,zA,zZ,zS])))
 refine Ord.ch_turn (v:=.agg #[.int .u64 x,.int .i64 0,.bool false]) 0 hT9.out rfl (by decide) (Or.inl rfl) (by rfl) ?_ ?_
 ·rintro w5 hC5 hA5
  replace hA5:Env w0 (boxI a (av S.c M)::LT S R) w5:=hA5
  go_simp
  rw [method_load]
  simp only [Result.andThen_ok]
  go_simp
  simp only [Ord.LandsIn]
  have hl:=load_w 2 0 0 0 (by unfold Wf In64; simp) 3 4 (by decide) hA5 rfl rfl
  rw [HX.out] at hl
  refine hl.mono ?_
  rintro e w6 ⟨rfl,hE6⟩
  exact ⟨rfl,hE6⟩
 (try simp only [Act.put,zA,zZ,zS])
 repeat (first
  | (refine Ord.ch_value (v:=?_) hT9.out (by decide) (by rfl) ?_ ?_; rotate_left; (focus (intro w5 hS; skip; go_simp<;>with_reducible rfl)); (try simp only [Act.put,zA,zZ,zS]))
  | (refine Ord.ch_off hT9.out (by decide) (by rfl) ?_; (try simp only [Act.put,zA,zZ,zS])))
 refine Ord.ch_turn (v:=undef) 1 hT9.out rfl (by decide) (Or.inr ⟨_,rfl,by kernel_rfl⟩) (by rfl) ?_ ?_
 ·rintro w5 hC5 hA5
  replace hA5:Env w0 (boxI a (av S.c M)::LT { S with qc:={ S.qc with l:=wrap64 (S.qc.l+1) } } R) w5:=hA5
  have r:=hA5.rule 0 rfl
  unfold av at r
  have f6:=hA5.thaw 0 rfl 7 (by simp [av])
  have f7:=hA5.thaw 0 rfl 8 (by simp [av])
  have f8:=hA5.thaw 0 rfl 9 (by simp [av])
  go_simp
  have h9:=((hA5.put 0 rfl (j:=7) (by simp [av]) (.int .u64 x)).put 0 rfl (j:=8) (by simp [av]) (.int .i64 0)).put 0 rfl (j:=9) (by simp [av]) (.bool false)
  first | exact ⟨rfl,trivial,h9⟩ | exact ⟨rfl,h9⟩ | exact h9
 (try simp only [Act.put,zA,zZ,zS])
 repeat (first
  | (refine Ord.ch_value (v:=?_) hT9.out (by decide) (by rfl) ?_ ?_; rotate_left; (focus (intro w5 hS; skip; go_simp<;>with_reducible rfl)); (try simp only [Act.put,zA,zZ,zS]))
  | (refine Ord.ch_off hT9.out (by decide) (by rfl) ?_; (try simp only [Act.put,zA,zZ,zS])))
 refine Ord.InText.nil fun w5 hS=>?_
 clear hT9
 obtain ⟨hC9,hA9⟩:=Ord.chain_end hS
 clear hS
 replace hA9:Env w0 (boxI a (av S.c { M with h:=x })::LT { S with qc:={ S.qc with l:=wrap64 (S.qc.l+1) } } R) w5:=hA9
 have r:=hA9.rule 0 rfl
 unfold av at r
 go_wp2_with fail
 refine (lead_c x 0 false _ HXU.out (hg.keep' hA9.below)).mono ?_
 rintro o w6 ⟨rfl,hb⟩
 replace hA9:=hA9.over hb
 clear hb r
 have r:=hA9.rule 0 rfl
 unfold av at r
 by_cases hs:slotI x=0
 ·have hp:poolS x S.cl=3:=if_pos hs
  have HP:=Lib.hid hp
  have hsb:(slotI x==0)=true:=by simpa using hs
  have HS:=Lib.hid hs
  clear hp hs
  go_wp2_with fail
  refine (end_m 0 3 (by simp [av]) hA9 rfl).mono ?_
  rintro o w7 ⟨rfl,nx,hE7⟩
  go_wp2_with fail
  go_ret
  rw [HP.out]
  exact ⟨rfl,nx,fun h=>absurd h (by decide),hE7⟩
 ·have hsb:(slotI x==0)=false:=by simpa using hs
  have HIL:Hid (∀ v,Env w0 (boxI a (av S.c { M with h:=x })::LT { S with qc:={ S.qc with l:=wrap64 (S.qc.l+1) } } R) v->Calls Tryz.prog 238 #[.pointer (some ⟨a,0,none⟩),.agg #[.int .u64 x,.int .i64 0,.bool false]] v fun o w'=>o=.returned (.bool (decide (S.cl<=verI x)))/\Below v.heap.size v w'):=Lib.hid fun v hv=>isLast_m (S:={ S with qc:={ S.qc with l:=wrap64 (S.qc.l+1) } }) x 0 false HXU.out hg rfl hv
  obtain ⟨b,hb⟩:∃ b,decide (S.cl<=verI x)=b:=⟨_,rfl⟩
  rw [hb] at HIL
  have HB:=Lib.hid hb
  have HS:=Lib.hid hs
  clear hb hs
  go_wp2_with fail
  refine wp_text (S:=(Env w0 (boxI a (av S.c { M with h:=x })::LT { S with qc:={ S.qc with l:=wrap64 (S.qc.l+1) } } R))) (by kernel_rfl) (by kernel_rfl) hA9.drew (fun hT=>?_)
  have hT9:=Lib.hid hT
  clear hT
  repeat (first
   | (refine text_value (v:=?_) hT9.out (by rfl) ?_ ?_; rotate_left; (focus (intro w5 hS; have r:=hS.rule 0 rfl; unfold av at r; go_simp<;>with_reducible rfl)); (try simp only [Act.put,zA,zZ,zS]))
   | (refine text_off hT9.out (by rfl) ?_; (try simp only [Act.put,zA,zZ,zS]))
   | (refine text_call (v:=?_) (f:=?_) (args:=?_) hT9.out (by rfl) ?_ ?_ ?_; rotate_left 3; (focus (intro w5 hS; have r:=hS.rule 0 rfl; unfold av at r; go_simp; constructor<;>with_reducible rfl)); (focus (intro w5 hS; (first | (with_reducible refine (HIL.out _ hS).mono ?_; rintro o w6 ⟨rfl,hb6⟩; constructor; with_reducible rfl; exact hS.over hb6)))); (try simp only [Act.put,zA,zZ,zS])))
  refine InText.nil fun w5 hS5=>?_
  clear hT9
  clear hA9 r HIL
  cases b
  ·have hv:¬ S.cl<=verI x:=by simpa using HB.out
   have hp:poolS x S.cl=0:=by unfold poolS; rw [if_neg HS.out,if_neg hv]
   have HP:=Lib.hid hp
   clear hp hv
   go_wp2_with fail
   refine (goOn_m 0 _ _ _ (by simp [av]) (by exact congrArg some hz.out) hS5 rfl).mono ?_
   rintro o w7 ⟨rfl,hE7⟩
   go_wp2_with fail
   go_ret
   rw [HP.out]
   exact ⟨rfl,_,fun _=>rfl,hE7⟩
  ·have hv:S.cl<=verI x:=by simpa using HB.out
   have hp:poolS x S.cl=4:=by unfold poolS; rw [if_neg HS.out,if_pos hv]
   have HP:=Lib.hid hp
   clear hp hv
   go_wp2_with fail
   refine (end_m 0 4 (by simp [av]) hS5 rfl).mono ?_
   rintro o w7 ⟨rfl,nx,hE7⟩
   go_wp2_with fail
   go_ret
   rw [HP.out]
   exact ⟨rfl,nx,fun h=>absurd h (by decide),hE7⟩
theorem loadChain_a (x:Int) (hfx:S.f (5,slotI M.h,2)=x) (hh:InU M.h) (hg:Glo w0) (hz:Hid (M.nx.2=.int .i64 0)) (hE:Env w0 (boxI a (av S.c M)::LT S R) w) :
  Calls Tryz.prog 276 #[.pointer (some ⟨a,0,none⟩),.iface 26 (.pointer (some ⟨S.p,0,none⟩))] w fun o w'=>o=.returned (.int .i64 0)/\Env w0 (boxI a (av S.c { M with nx:=nxA a 5,n:=x })::LT { S with qc:={ S.qc with l:=wrap64 (S.qc.l+1) } } R) w':=by
 have hmf:=makeF
 have hah:=ahead_load
 have HX:=Lib.hid hfx
 have HGL:=Lib.hid fun (v:World) (hv:Below w0.heap.size w0 v)=>lead_c M.h 0 false v hh (hg.keep' hv)
 have HWF:Hid (Wf (5,slotI M.h,2)):=Lib.hid (by have:=slotI_in M.h; unfold Wf In64; simp; omega)
 clear hfx hh
 go_enter Tryz.func276,Tryz.ntmps276
 go_wp2_with fail
 refine Ord.wp_chain [11,14] (fun v=>Below w0.heap.size w0 v/\∃ n9 r9,Blk 0 v a (av S.c { M with n:=n9,r:=r9 })) (fun k w'=>Env w0 (pick3 (boxI a (av S.c M)::LT S R) (boxI a (av S.c M)::LT { S with qc:={ S.qc with l:=wrap64 (S.qc.l+1) } } R) (boxI a (av S.c { M with n:=x })::LT { S with qc:={ S.qc with l:=wrap64 (S.qc.l+1) } } R) k) w') (by kernel_rfl) (by kernel_rfl) (by kernel_rfl) ⟨hE.drew.below,M.n,M.r,hE.drew.get 0 rfl⟩ hE.drew (fun hT=>?_)
 have hT9:=Lib.hid hT
 clear hT
 repeat (first
  | (refine Ord.ch_value (v:=?_) hT9.out (by decide) (by rfl) ?_ ?_; rotate_left; (focus (intro w5 hS; obtain ⟨hS0,n9,r9,hS1⟩:=hS; have r:=Blk.rule hS1; unfold av at r; go_simp<;>with_reducible rfl)); (try simp only [Act.put,zA,zZ,zS]))
  | (refine Ord.ch_off hT9.out (by decide) (by rfl) ?_; (try simp only [Act.put,zA,zZ,zS]))
  | (refine Ord.ch_call (v:=?_) (f:=?_) (args:=?_) hT9.out (by decide) (by rfl) ?_ ?_ ?_; rotate_left 3; (focus (intro w5 hS; obtain ⟨hS0,n9,r9,hS1⟩:=hS; have r:=Blk.rule hS1; unfold av at r; go_simp; constructor<;>with_reducible rfl)); (focus (intro w5 hS; (first | (with_reducible refine (HGL.out _ hS.1).mono ?_; rintro e w6 ⟨rfl,hb6⟩; constructor; with_reducible rfl; exact ⟨⟨hS.1.trans (hb6.mono hS.1.size),Exists.elim hS.2 fun n9 h=>Exists.elim h fun r9 h=>⟨n9,r9,h.under hb6⟩⟩,fun k h=>h.over hb6⟩) | (with_reducible refine (part_any _ _ _ _).mono ?_; rintro e w6 ⟨rfl,hb6⟩; constructor; with_reducible rfl; exact ⟨⟨hS.1.trans (hb6.mono hS.1.size),Exists.elim hS.2 fun n9 h=>Exists.elim h fun r9 h=>⟨n9,r9,h.under hb6⟩⟩,fun k h=>h.over hb6⟩)))); (try simp only [Act.put,zA,zZ,zS])))
 refine Ord.ch_turn (v:=.agg #[.int .u64 x,.int .i64 0,.bool false]) 0 hT9.out rfl (by decide) (Or.inl rfl) (by rfl) ?_ ?_
 ·rintro w5 hC5 hA5
  replace hA5:Env w0 (boxI a (av S.c M)::LT S R) w5:=hA5
  go_simp
  rw [method_load]
  simp only [Result.andThen_ok]
  go_simp
  simp only [Ord.LandsIn]
  have hl:=load_w 5 (slotI M.h) 2 0 HWF.out 3 4 (by decide) hA5 rfl rfl
  rw [HX.out] at hl
  refine hl.mono ?_
  rintro e w6 ⟨rfl,hE6⟩
  exact ⟨rfl,⟨hE6.below,M.n,M.r,hE6.get 0 rfl⟩,hE6⟩
 (try simp only [Act.put,zA,zZ,zS])
 repeat (first
  | (refine Ord.ch_value (v:=?_) hT9.out (by decide) (by rfl) ?_ ?_; rotate_left; (focus (intro w5 hS; skip; go_simp<;>with_reducible rfl)); (try simp only [Act.put,zA,zZ,zS]))
  | (refine Ord.ch_off hT9.out (by decide) (by rfl) ?_; (try simp only [Act.put,zA,zZ,zS])))
 refine Ord.ch_turn (v:=undef) 1 hT9.out rfl (by decide) (Or.inr ⟨_,rfl,by kernel_rfl⟩) (by rfl) ?_ ?_
 ·rintro w5 hC5 hA5
  replace hA5:Env w0 (boxI a (av S.c M)::LT { S with qc:={ S.qc with l:=wrap64 (S.qc.l+1) } } R) w5:=hA5
  have r:=hA5.rule 0 rfl
  unfold av at r
  have f6:=hA5.thaw 0 rfl 10 (by simp [av])
  have f7:=hA5.thaw 0 rfl 11 (by simp [av])
  have f8:=hA5.thaw 0 rfl 12 (by simp [av])
  go_simp
  have h9:=((hA5.put 0 rfl (j:=10) (by simp [av]) (.int .u64 x)).put 0 rfl (j:=11) (by simp [av]) (.int .i64 0)).put 0 rfl (j:=12) (by simp [av]) (.bool false)
  replace h9:Env w0 (boxI a (av S.c { M with n:=x })::LT { S with qc:={ S.qc with l:=wrap64 (S.qc.l+1) } } R) _:=h9
  exact ⟨rfl,⟨h9.below,_,_,h9.get 0 rfl⟩,h9⟩
 (try simp only [Act.put,zA,zZ,zS])
 repeat (first
  | (refine Ord.ch_value (v:=?_) hT9.out (by decide) (by rfl) ?_ ?_; rotate_left; (focus (intro w5 hS; skip; go_simp<;>with_reducible rfl)); (try simp only [Act.put,zA,zZ,zS]))
  | (refine Ord.ch_off hT9.out (by decide) (by rfl) ?_; (try simp only [Act.put,zA,zZ,zS])))
 refine Ord.InText.nil fun w5 hS=>?_
 clear hT9
 obtain ⟨hC9,hA9⟩:=Ord.chain_end hS
 clear hS
 replace hA9:Env w0 (boxI a (av S.c { M with n:=x })::LT { S with qc:={ S.qc with l:=wrap64 (S.qc.l+1) } } R) w5:=hA9
 have r:=hA9.rule 0 rfl
 unfold av at r
 go_wp2_with fail
 refine (goOn_m 0 _ _ _ (by simp [av]) (by exact congrArg some hz.out) hA9 rfl).mono ?_
 rintro o w7 ⟨rfl,hE7⟩
 go_wp2_with fail
 go_ret
 exact ⟨rfl,hE7⟩
theorem loadRetired_a (x:Int) (hfx:S.f (5,slotI M.h,1)=x) (hh:InU M.h) (hg:Glo w0) (hz:Hid (M.nx.2=.int .i64 0)) (hE:Env w0 (boxI a (av S.c M)::LT S R) w) :
  Calls Tryz.prog 278 #[.pointer (some ⟨a,0,none⟩),.iface 26 (.pointer (some ⟨S.p,0,none⟩))] w fun o w'=>o=.returned (.int .i64 0)/\Env w0 (boxI a (av S.c { M with nx:=nxA a 6,r:=x })::LT { S with qc:={ S.qc with l:=wrap64 (S.qc.l+1) } } R) w':=by
 have hmf:=makeF
 have hah:=ahead_load
 have HX:=Lib.hid hfx
 have HGL:=Lib.hid fun (v:World) (hv:Below w0.heap.size w0 v)=>lead_c M.h 0 false v hh (hg.keep' hv)
 have HWF:Hid (Wf (5,slotI M.h,1)):=Lib.hid (by have:=slotI_in M.h; unfold Wf In64; simp; omega)
 clear hfx hh
 go_enter Tryz.func278,Tryz.ntmps278
 go_wp2_with fail
 refine Ord.wp_chain [11,14] (fun v=>Below w0.heap.size w0 v/\∃ n9 r9,Blk 0 v a (av S.c { M with n:=n9,r:=r9 })) (fun k w'=>Env w0 (pick3 (boxI a (av S.c M)::LT S R) (boxI a (av S.c M)::LT { S with qc:={ S.qc with l:=wrap64 (S.qc.l+1) } } R) (boxI a (av S.c { M with r:=x })::LT { S with qc:={ S.qc with l:=wrap64 (S.qc.l+1) } } R) k) w') (by kernel_rfl) (by kernel_rfl) (by kernel_rfl) ⟨hE.drew.below,M.n,M.r,hE.drew.get 0 rfl⟩ hE.drew (fun hT=>?_)
 have hT9:=Lib.hid hT
 clear hT
 repeat (first
  | (refine Ord.ch_value (v:=?_) hT9.out (by decide) (by rfl) ?_ ?_; rotate_left; (focus (intro w5 hS; obtain ⟨hS0,n9,r9,hS1⟩:=hS; have r:=Blk.rule hS1; unfold av at r; go_simp<;>with_reducible rfl)); (try simp only [Act.put,zA,zZ,zS]))
  | (refine Ord.ch_off hT9.out (by decide) (by rfl) ?_; (try simp only [Act.put,zA,zZ,zS]))
  | (refine Ord.ch_call (v:=?_) (f:=?_) (args:=?_) hT9.out (by decide) (by rfl) ?_ ?_ ?_; rotate_left 3; (focus (intro w5 hS; obtain ⟨hS0,n9,r9,hS1⟩:=hS; have r:=Blk.rule hS1; unfold av at r; go_simp; constructor<;>with_reducible rfl)); (focus (intro w5 hS; (first | (with_reducible refine (HGL.out _ hS.1).mono ?_; rintro e w6 ⟨rfl,hb6⟩; constructor; with_reducible rfl; exact ⟨⟨hS.1.trans (hb6.mono hS.1.size),Exists.elim hS.2 fun n9 h=>Exists.elim h fun r9 h=>⟨n9,r9,h.under hb6⟩⟩,fun k h=>h.over hb6⟩) | (with_reducible refine (part_any _ _ _ _).mono ?_; rintro e w6 ⟨rfl,hb6⟩; constructor; with_reducible rfl; exact ⟨⟨hS.1.trans (hb6.mono hS.1.size),Exists.elim hS.2 fun n9 h=>Exists.elim h fun r9 h=>⟨n9,r9,h.under hb6⟩⟩,fun k h=>h.over hb6⟩)))); (try simp only [Act.put,zA,zZ,zS])))
 refine Ord.ch_turn (v:=.agg #[.int .u64 x,.int .i64 0,.bool false]) 0 hT9.out rfl (by decide) (Or.inl rfl) (by rfl) ?_ ?_
 ·rintro w5 hC5 hA5
  replace hA5:Env w0 (boxI a (av S.c M)::LT S R) w5:=hA5
  go_simp
  rw [method_load]
  simp only [Result.andThen_ok]
  go_simp
  simp only [Ord.LandsIn]
  have hl:=load_w 5 (slotI M.h) 1 0 HWF.out 3 4 (by decide) hA5 rfl rfl
  rw [HX.out] at hl
  refine hl.mono ?_
  rintro e w6 ⟨rfl,hE6⟩
  exact ⟨rfl,⟨hE6.below,M.n,M.r,hE6.get 0 rfl⟩,hE6⟩
 (try simp only [Act.put,zA,zZ,zS])
 repeat (first
  | (refine Ord.ch_value (v:=?_) hT9.out (by decide) (by rfl) ?_ ?_; rotate_left; (focus (intro w5 hS; skip; go_simp<;>with_reducible rfl)); (try simp only [Act.put,zA,zZ,zS]))
  | (refine Ord.ch_off hT9.out (by decide) (by rfl) ?_; (try simp only [Act.put,zA,zZ,zS])))
 refine Ord.ch_turn (v:=undef) 1 hT9.out rfl (by decide) (Or.inr ⟨_,rfl,by kernel_rfl⟩) (by rfl) ?_ ?_
 ·rintro w5 hC5 hA5
  replace hA5:Env w0 (boxI a (av S.c M)::LT { S with qc:={ S.qc with l:=wrap64 (S.qc.l+1) } } R) w5:=hA5
  have r:=hA5.rule 0 rfl
  unfold av at r
  have f6:=hA5.thaw 0 rfl 13 (by simp [av])
  have f7:=hA5.thaw 0 rfl 14 (by simp [av])
  have f8:=hA5.thaw 0 rfl 15 (by simp [av])
  go_simp
  have h9:=((hA5.put 0 rfl (j:=13) (by simp [av]) (.int .u64 x)).put 0 rfl (j:=14) (by simp [av]) (.int .i64 0)).put 0 rfl (j:=15) (by simp [av]) (.bool false)
  replace h9:Env w0 (boxI a (av S.c { M with r:=x })::LT { S with qc:={ S.qc with l:=wrap64 (S.qc.l+1) } } R) _:=h9
  exact ⟨rfl,⟨h9.below,_,_,h9.get 0 rfl⟩,h9⟩
 (try simp only [Act.put,zA,zZ,zS])
 repeat (first
  | (refine Ord.ch_value (v:=?_) hT9.out (by decide) (by rfl) ?_ ?_; rotate_left; (focus (intro w5 hS; skip; go_simp<;>with_reducible rfl)); (try simp only [Act.put,zA,zZ,zS]))
  | (refine Ord.ch_off hT9.out (by decide) (by rfl) ?_; (try simp only [Act.put,zA,zZ,zS])))
 refine Ord.InText.nil fun w5 hS=>?_
 clear hT9
 obtain ⟨hC9,hA9⟩:=Ord.chain_end hS
 clear hS
 replace hA9:Env w0 (boxI a (av S.c { M with r:=x })::LT { S with qc:={ S.qc with l:=wrap64 (S.qc.l+1) } } R) w5:=hA9
 have r:=hA9.rule 0 rfl
 unfold av at r
 go_wp2_with fail
 refine (goOn_m 0 _ _ _ (by simp [av]) (by exact congrArg some hz.out) hA9 rfl).mono ?_
 rintro o w7 ⟨rfl,hE7⟩
 go_wp2_with fail
 go_ret
 exact ⟨rfl,hE7⟩
end
end Go.Proofs.YthcblagpbkaoaaaGreatDoor
