/- What is proved on the way to the statement, part 10: contracts of the functions, among other things in memory. -/
import Derived.Test.YthcblagpbkaoaaaGreatDoorM9

namespace Go.Proofs.YthcblagpbkaoaaaGreatDoor
open Go.RowKit Go.Maps
set_option maxRecDepth 100000
set_option maxHeartbeats 25600000
theorem rmarked_any (x:Int) (w:World) (hx:InU x) :
  Calls Tryz.prog 192 #[.int .u64 x] w fun o w'=>o=.returned (.bool (markB x))/\Below w.heap.size w w':=by
 unfold InU at hx
 have hfm:∀ (v:World) (m:Bool) (s b:Int),(Instr.field 196 (.agg #[.bool m,.int .i64 s,.int .i64 b]) 0).run Tryz.prog v=.ok (.bool m) v:=fun v m s b=>by kernel_rfl
 go_enter Tryz.func192,Tryz.ntmps192
 go_wp2_with fail
 refine (refOf_any x _ hx.1 hx.2).mono ?_
 rintro o w1 ⟨rfl,hb⟩
 go_wp2_with fail
 go_ret
 exact ⟨rfl,hb⟩
section
variable {w:World} {u n c:Nat} {A:Option Addr} {k s b h l e N hs r:Int}
theorem rto_c (a:Int) (hb:Blk 0 w u (urv k s b h l e A n c N hs r)) :
  Calls Tryz.prog 144 #[.pointer (some ⟨u,0,none⟩),.int .i64 a] w fun o w'=>o=.returned (.int .u64 (wordI false a e))/\Below w.heap.size w w':=by
 have r1:=hb.rule
 unfold urv at r1
 clear hb
 go_enter Tryz.func144,Tryz.ntmps144
 go_wp2_with fail
 refine (refWord_any false a e _).mono ?_
 rintro o w1 ⟨rfl,hb⟩
 go_wp2_with fail
 go_ret
 exact ⟨rfl,hb⟩
theorem rmark_c (x a:Int) (hx:InU x) (hb:Blk 0 w u (urv k s b h l e A n c N hs r)) :
  Calls Tryz.prog 156 #[.pointer (some ⟨u,0,none⟩),.int .u64 x,.int .i64 a] w fun o w'=>o=.returned (.int .u64 (markedW x a e))/\Below w.heap.size w w':=by
 cases hB:markB x
 ·have hm:markedW x a e=wordI true a e:=by simp [markedW,hB]
  have HB:=Lib.hid hB
  have HM:=Lib.hid hm
  have HX:=Lib.hid hx
  clear hB hm hx
  go_enter Tryz.func156,Tryz.ntmps156
  go_wp2_with fail
  refine (rmarked_any x _ HX.out).mono ?_
  rintro o w1 ⟨rfl,hb1⟩
  rw [HB.out]
  have r1:=(hb.under hb1).rule
  unfold urv at r1
  clear hb
  go_wp2_with fail
  refine (refWord_any true a e _).mono ?_
  rintro o w2 ⟨rfl,hb2⟩
  go_wp2_with fail
  go_ret
  exact ⟨ret_int HM.out.symm,hb1.trans (hb2.mono hb1.size)⟩
 ·have hm:markedW x a e=x:=by simp [markedW,hB]
  have HB:=Lib.hid hB
  have HM:=Lib.hid hm
  have HX:=Lib.hid hx
  clear hB hm hx hb
  go_enter Tryz.func156,Tryz.ntmps156
  go_wp2_with fail
  refine (rmarked_any x _ HX.out).mono ?_
  rintro o w1 ⟨rfl,hb1⟩
  rw [HB.out]
  go_wp2_with fail
  go_ret
  exact ⟨ret_int HM.out.symm,hb1⟩
end
theorem ok_wrap {x e:Int} (hx:InU x) (h0:0<=e) (h1:e<=9223372036854775807):(x==IntKind.u64.wrap e)=okB x e:=by
 unfold InU at hx
 have hw:IntKind.u64.wrap e=e:=by rw [IntKind.wrap_u64]; omega
 rw [hw]
 unfold okB epB epI
 by_cases h:x<=9223372036854775807
 ·simp [h]
 ·simp [h]; omega
section
variable {w0 w:World} {L:List Item} {u m n c:Nat} {F:Nat->Prop} {ml:List OneR} {A:Option Addr} {k s b h l e N hs r:Int}
theorem rvalid_w (x:Int) (hmx:getL ml (1,0,0)=x) (hx:InU x) (h0:0<=e) (h1:e<=9223372036854775807) (hml:ml.length<=1000000) (i j:Nat) (hE:Env w0 L w) (hi:L[i]?=some (boxI u (urv k s b h l e A n c N hs r))) (hj:L[j]?=some (refI m F ml)) :
  Calls Tryz.prog 190 #[.pointer (some ⟨u,0,none⟩),.pointer (some ⟨m,0,none⟩)] w fun o w'=>o=.returned (.bool (okB x e))/\Env w0 (L.set i (boxI u (urv k s b h l e A n c N hs (if okB x e then r else wrap64 (r+1))))) w':=by
 have hok:=ok_wrap hx h0 h1
 have hsame:∀ w',Env w0 L w'->Env w0 (L.set i (boxI u (urv k s b h l e A n c N hs r))) w':=fun w' h=>by
  rw [set_same hi]; exact h
 have HS:=Lib.hid hsame
 clear hsame hx
 generalize hR:(if okB x e then r else wrap64 (r+1))=R
 generalize okB x e=B at *
 have HR:=Lib.hid hR
 have HCB:Hid (∀ v,Env w0 L v->∀ z,v.cell? ⟨u,z,none⟩=(urv k s b h l e A n c N hs r)[z]?):=Lib.hid fun v hv=>hv.rule i hi
 unfold urv at HCB
 have HGC:Hid (∀ v,Env w0 L v->Calls Tryz.prog 64 #[.pointer (some ⟨m,0,none⟩),.agg #[.int .i64 1,.int .i64 0,.int .i64 0]] v fun o w'=>o=.returned (.int .u64 x)/\Below v.heap.size v w'):=Lib.hid fun v hv=>by
  have:=refGet_any 1 0 0 hml (hv.ref j hj)
  rw [hmx] at this
  exact this
 have HOK:=Lib.hid hok
 clear hR hok hmx
 go_enter Tryz.func190,Tryz.ntmps190
 go_wp2_with fail
 have hok:=HOK.out
 refine wp_text (S:=(Env w0 L)) (by kernel_rfl) (by kernel_rfl) hE.drew (fun hT=>?_)
 have hT9:=Lib.hid hT
 clear hT
 repeat (first
  | (refine text_value (v:=?_) hT9.out (by rfl) ?_ ?_; rotate_left; (focus (intro w5 hS; have r1:=HCB.out _ hS; go_simp<;>with_reducible rfl)); (try simp only [Act.put,zA,zZ,zS]))
  | (refine text_off hT9.out (by rfl) ?_; (try simp only [Act.put,zA,zZ,zS]))
  | (refine text_call (v:=?_) (f:=?_) (args:=?_) hT9.out (by rfl) ?_ ?_ ?_; rotate_left 3; (focus (intro w5 hS; have r1:=HCB.out _ hS; go_simp; constructor<;>with_reducible rfl)); (focus (intro w5 hS; (first | (with_reducible refine (epoch13_any _).mono ?_; rintro o w6 ⟨rfl,hb5⟩; constructor; with_reducible rfl; exact hS.over hb5) | (with_reducible refine (HGC.out _ hS).mono ?_; rintro o w6 ⟨rfl,hb5⟩; constructor; with_reducible rfl; exact hS.over hb5)))); (try simp only [Act.put,zA,zZ,zS])))
 refine InText.nil fun w5 hS5=>?_
 clear hT9
 clear hE
 have HE:=Lib.hid hS5
 clear hS5
 cases B
 ·have HR2:=HR.out
  simp only [Bool.false_eq_true,if_false] at HR2
  subst HR2
  have hE:=HE.out
  have r1:=HCB.out _ hE
  have ff:=hE.thaw i hi
  have f9:=ff 9 (by simp [urv])
  clear ff HOK HR
  go_wp2_with fail
  go_ret
  exact ⟨rfl,hE.put i hi (j:=9) (by simp [urv]) (.int .i64 (wrap64 (r+1)))⟩
 ·have HR2:=HR.out
  simp only [if_true] at HR2
  subst HR2
  clear HOK
  go_wp2_with fail
  go_ret
  exact ⟨rfl,HS.out _ HE.out⟩
end
def rlC (lv key:Int) (vs:Bool) (x y z pc W X K V C:Int) (fd:Bool):List Value:=[.int .i64 x,.int .i64 y,.int .i64 z,.int .i64 lv,.int .u64 key,.bool vs,.int .i64 pc,.int .u64 W,.int .u64 X,.int .u64 K,.int .u64 V,.int .i64 C,.bool fd]
structure Uc where
 (k s b h l:Int)
 (A:Option Addr)
 (n c:Nat)
 (N hs:Int)
def ruC (uc:Uc) (e ro:Int):List Value:=urv uc.k uc.s uc.b uc.h uc.l e uc.A uc.n uc.c uc.N uc.hs ro
section
variable {uc:Uc} {w:World} {b:Nat} {lv key:Int} {vs fd:Bool} {x y z pc W X K V C:Int}
theorem next_r (hlv:0<=lv/\lv<=1000000) (hb:Blk 0 w b (rlC lv key vs x y z pc W X K V C fd)):Calls Tryz.prog 188 #[.pointer (some ⟨b,0,none⟩)] w fun e w'=>e=.returned (.agg #[.int .i64 5,.int .i64 C,.int .i64 (7+lv)])/\Below w.heap.size w w':=by
 have hal:=hb.1
 have hX:=hb.more (.cells [.int .i64 0,.int .i64 0,.int .i64 0].toArray 65)
 have hZ:=Blk.new 0 w [.int .i64 0,.int .i64 0,.int .i64 0] 65
 have hE:=(Below.refl w.heap.size w).alloc (Nat.le_refl _) (.cells [.int .i64 0,.int .i64 0,.int .i64 0].toArray 65)
 have hw7:wrap64 (7+lv)=7+lv:=w64 _ (by omega)
 have hw8:IntKind.i64.wrap (7+lv)=7+lv:=by rw [wrap_i]; exact hw7
 have HW:=Lib.hid hw7
 clear hb hlv hw7
 go_enter Tryz.func188,Tryz.ntmps188
 go_wp2_with fail
 refine Ord.wp_chain [10] (fun w'=>Below w.heap.size w w'/\Blk 0 w' b (rlC lv key vs x y z pc W X K V C fd)) (fun j w'=>Blk 0 w' w.heap.size (if j=0 then [.int .i64 0,.int .i64 0,.int .i64 0] else [.int .i64 5,.int .i64 C,.int .i64 (7+lv)])) (by kernel_rfl) (by kernel_rfl) (by kernel_rfl) ⟨hE.drew,hX.drew⟩ hZ.drew (fun hT=>?_)
 have hT9:=Lib.hid hT
 clear hT
 repeat (first
  | (refine Ord.ch_value (v:=?_) hT9.out (by decide) (by rfl) ?_ ?_; rotate_left; (focus (intro w5 hS; have r:=Blk.rule hS.2; unfold rlC at r; go_simp<;>with_reducible rfl)); (try simp only [Act.put,zA,zZ,zS]))
  | (refine Ord.ch_off hT9.out (by decide) (by rfl) ?_; (try simp only [Act.put,zA,zZ,zS]))
  | (refine Ord.ch_call (v:=?_) (f:=?_) (args:=?_) hT9.out (by decide) (by rfl) ?_ ?_ ?_; rotate_left 3; (focus (intro w5 hS; have r:=Blk.rule hS.2; unfold rlC at r; go_simp; constructor<;>with_reducible rfl)); (focus (intro w5 hS; (first | (with_reducible refine (cell13_any _ _ _).mono ?_; rintro o w6 ⟨rfl,hb6⟩; constructor; with_reducible rfl; exact ⟨⟨hS.1.trans (hb6.mono hS.1.size),hS.2.under hb6⟩,fun _ h=>h.under hb6⟩)))); (try simp only [Act.put,zA,zZ,zS])))
 refine Ord.ch_turn (v:=undef) 0 hT9.out rfl (by decide) (Or.inl rfl) (by rfl) ?_ ?_
 ·rintro w5 hS hA2
  simp only [if_true] at hA2
  have r:=hA2.rule
  have f0:=hA2.thaw 0 (by simp)
  have f1:=hA2.thaw 1 (by simp)
  have f2:=hA2.thaw 2 (by simp)
  have hz:=hS.1.size
  go_simp
  refine ⟨rfl,⟨?_,?_⟩,?_⟩
  ·exact below_set (below_set (below_set hS.1 hz (by omega) _) (by simp; omega) (by omega) _) (by simp; omega) (by omega) _
  ·exact ((hS.2.off (by omega) _).off (by omega) _).off (by omega) _
  ·exact ((hA2.set (i:=0) (by simp) _).set (i:=1) (by simp) _).set (i:=2) (by simp) _
 (try simp only [Act.put,zA,zZ,zS])
 repeat (first
  | (refine Ord.ch_value (v:=?_) hT9.out (by decide) (by rfl) ?_ ?_; rotate_left; (focus (intro w5 hS; skip; go_simp<;>with_reducible rfl)); (try simp only [Act.put,zA,zZ,zS]))
  | (refine Ord.ch_off hT9.out (by decide) (by rfl) ?_; (try simp only [Act.put,zA,zZ,zS])))
 refine Ord.InText.nil fun w5 hS=>?_
 clear hT9
 obtain ⟨hC9,hA9⟩:=Ord.chain_end hS
 clear hS
 have q:=hA9.rule
 simp only [show ¬ [10].length=0 by decide,if_false] at q
 go_wp2
 exact bodyPost_ret (v:=.agg #[.int .i64 5,.int .i64 C,.int .i64 (7+lv)]) (by simp [results,Tryz.results188,go_sem,q]) rfl ⟨rfl,hC9.1⟩
end
section
variable {uc:Uc} {w0 w:World} {L:List Item} {b:Nat} {lv key:Int} {vs fd:Bool} {x y z pc W X K V C:Int}
theorem come_r (v:Int) (hv:InU v) (hE:Env w0 (boxI b (rlC lv key vs x y z pc W X K V C fd)::L) w) :
  Calls Tryz.prog 189 #[.pointer (some ⟨b,0,none⟩),.int .u64 v] w fun o w'=>o=.returned (.int .i64 (cS v))/\Env w0 (boxI b (rlC lv key vs x y z 3 v 0 K V (slotI v) fd)::L) w':=by
 have hs13:=fun (u:World)=>slot13_any v hv u
 obtain ⟨s,hs⟩:∃ s,slotI v=s:=⟨_,rfl⟩
 have hcs:cS v=if s=0 then 1 else 0:=by unfold cS; rw [hs]
 rw [hcs,hs]
 simp only [hs] at hs13
 have HS:=Lib.hid hs13
 clear hs hcs hs13 hv
 have r:=hE.rule 0 rfl
 unfold rlC at r
 have f7:=hE.thaw 0 rfl 7 (by simp [rlC])
 have f8:=hE.thaw 0 rfl 8 (by simp [rlC])
 have hP:=(hE.put 0 rfl (j:=7) (by simp [rlC]) (.int .u64 v)).put 0 rfl (j:=8) (by simp [rlC]) (.int .u64 0)
 replace hP:Env w0 (boxI b (rlC lv key vs x y z pc v 0 K V C fd)::L) _:=hP
 go_enter Tryz.func189,Tryz.ntmps189
 go_wp2_with fail
 refine (HS.out _).mono ?_
 rintro o w1 ⟨rfl,hb⟩
 have hE1:=hP.over hb
 clear hb r f7 f8 hP hE
 have r:=hE1.rule 0 rfl
 unfold rlC at r
 have f11:=hE1.thaw 0 rfl 11 (by simp [rlC])
 have f6:=hE1.thaw 0 rfl 6 (by simp [rlC])
 have hP:=(hE1.put 0 rfl (j:=11) (by simp [rlC]) (.int .i64 s)).put 0 rfl (j:=6) (by simp [rlC]) (.int .i64 3)
 replace hP:Env w0 (boxI b (rlC lv key vs x y z 3 v 0 K V s fd)::L) _:=hP
 by_cases h0:s=0
 ·subst h0
  go_wp2_with fail
  go_ret
  exact ⟨rfl,hP⟩
 ·have hsb:(s==0)=false:=by simpa using h0
  have H0:=Lib.hid h0
  clear h0
  go_wp2_with fail
  go_ret
  exact ⟨rfl,hP⟩
theorem holds2a_r (hm:markB W=true) (hv:InU W) (hE:Env w0 (boxI b (rlC lv key vs x y z 2 W X K V C fd)::L) w) :
  Calls Tryz.prog 191 #[.pointer (some ⟨b,0,none⟩)] w fun o w'=>o=.returned (.int .i64 2)/\Env w0 (boxI b (rlC lv key vs x y z 2 W X K V C fd)::L) w':=by
 have h1:=rmarked_any W w hv
 rw [hm] at h1
 have r:=hE.rule 0 rfl
 unfold rlC at r
 clear hm hv
 go_enter Tryz.func191,Tryz.ntmps191
 go_wp2_with fail
 refine h1.mono ?_
 rintro o w1 ⟨rfl,hb⟩
 go_wp2_with fail
 go_ret
 exact ⟨rfl,hE.over hb⟩
theorem holds2b_r (hm:markB W=false) (hv:InU W) (hE:Env w0 (boxI b (rlC lv key vs x y z 2 W X K V C fd)::L) w) :
  Calls Tryz.prog 191 #[.pointer (some ⟨b,0,none⟩)] w fun o w'=>o=.returned (.int .i64 (cS W))/\Env w0 (boxI b (rlC lv key vs x y z 3 W 0 K V (slotI W) fd)::L) w':=by
 have h1:=rmarked_any W w hv
 rw [hm] at h1
 have r:=hE.rule 0 rfl
 unfold rlC at r
 have HV:=Lib.hid hv
 clear hm hv
 go_enter Tryz.func191,Tryz.ntmps191
 go_wp2_with fail
 refine h1.mono ?_
 rintro o w1 ⟨rfl,hb⟩
 replace hE:=hE.over hb
 clear hb r
 have r:=hE.rule 0 rfl
 unfold rlC at r
 go_wp2_with fail
 refine (come_r W HV.out hE).mono ?_
 rintro o w2 ⟨rfl,hE2⟩
 go_wp2_with fail
 go_ret
 exact ⟨rfl,hE2⟩
theorem holds4_r (hv:InU X) (hE:Env w0 (boxI b (rlC lv key vs x y z 4 W X K V C fd)::L) w) :
  Calls Tryz.prog 191 #[.pointer (some ⟨b,0,none⟩)] w fun o w'=>o=.returned (.int .i64 0)/\Env w0 (boxI b (rlC lv key vs x y z (if markB X then 5 else 6) W X K V C fd)::L) w':=by
 obtain ⟨mk,hmk⟩:∃ mk,markB X=mk:=⟨_,rfl⟩
 have h1:=fun (u:World)=>rmarked_any X u hv
 simp only [hmk] at h1
 rw [hmk]
 have H1:=Lib.hid h1
 have r:=hE.rule 0 rfl
 unfold rlC at r
 have f6:=hE.thaw 0 rfl 6 (by simp [rlC])
 have hP:=hE.put 0 rfl (j:=6) (by simp [rlC]) (.int .i64 6)
 replace hP:Env w0 (boxI b (rlC lv key vs x y z 6 W X K V C fd)::L) _:=hP
 clear hmk hv h1
 go_enter Tryz.func191,Tryz.ntmps191
 go_wp2_with fail
 refine (H1.out _).mono ?_
 rintro o w1 ⟨rfl,hb⟩
 replace hP:=hP.over hb
 clear hb r f6
 cases mk
 ·go_wp2_with fail
  go_ret
  exact ⟨rfl,hP⟩
 ·have r:=hP.rule 0 rfl
  unfold rlC at r
  have f6:=hP.thaw 0 rfl 6 (by simp [rlC])
  have hQ:=hP.put 0 rfl (j:=6) (by simp [rlC]) (.int .i64 5)
  go_wp2_with fail
  go_ret
  exact ⟨rfl,hQ⟩
theorem holds7a_r (hk:K < key) (hlv:0<=lv/\lv<=1000000) (hv:InU X) (hE:Env w0 (boxI b (rlC lv key vs x y z 7 W X K V C fd)::L) w) :
  Calls Tryz.prog 191 #[.pointer (some ⟨b,0,none⟩)] w fun o w'=>o=.returned (.int .i64 (cS X))/\Env w0 (boxI b (rlC lv key vs 5 C (7+lv) 3 X 0 K V (slotI X) fd)::L) w':=by
 have hkb:decide (K < key)=true:=by simpa using hk
 have r:=hE.rule 0 rfl
 unfold rlC at r
 have HV:=Lib.hid hv
 clear hv hk
 go_enter Tryz.func191,Tryz.ntmps191
 go_wp2_with fail
 clear r
 refine wp_text (S:=(Env w0 (boxI b (rlC lv key vs x y z 7 W X K V C fd)::L))) (by kernel_rfl) (by kernel_rfl) hE.drew (fun hT=>?_)
 have hT9:=Lib.hid hT
 clear hT
 repeat (first
  | (refine text_value (v:=?_) hT9.out (by rfl) ?_ ?_; rotate_left; (focus (intro w5 hS; have r:=hS.rule 0 rfl; unfold rlC at r; go_simp<;>with_reducible rfl)); (try simp only [Act.put,zA,zZ,zS]))
  | (refine text_off hT9.out (by rfl) ?_; (try simp only [Act.put,zA,zZ,zS]))
  | (refine text_call (v:=?_) (f:=?_) (args:=?_) hT9.out (by rfl) ?_ ?_ ?_; rotate_left 3; (focus (intro w5 hS; have r:=hS.rule 0 rfl; unfold rlC at r; go_simp; constructor<;>with_reducible rfl)); (focus (intro w5 hS; (first | fail))); (try simp only [Act.put,zA,zZ,zS])))
 refine InText.nil fun w5 hS5=>?_
 clear hT9
 clear hE
 go_wp2_with fail
 refine (next_r hlv (hS5.get 0 rfl)).mono ?_
 rintro o w6 ⟨rfl,hb⟩
 have hE:=hS5.over hb
 clear hS5 hb
 have r:=hE.rule 0 rfl
 unfold rlC at r
 have g0:=hE.thaw 0 rfl 0 (by simp [rlC])
 have g1:=hE.thaw 0 rfl 1 (by simp [rlC])
 have g2:=hE.thaw 0 rfl 2 (by simp [rlC])
 have hP:=((hE.put 0 rfl (j:=0) (by simp [rlC]) (.int .i64 5)).put 0 rfl (j:=1) (by simp [rlC]) (.int .i64 C)).put 0 rfl (j:=2) (by simp [rlC]) (.int .i64 (7+lv))
 replace hP:Env w0 (boxI b (rlC lv key vs 5 C (7+lv) 7 W X K V C fd)::L) _:=hP
 have r9:=hP.rule 0 rfl
 unfold rlC at r9
 go_wp2_with fail
 refine (come_r X HV.out hP).mono ?_
 rintro o w2 ⟨rfl,hE2⟩
 go_wp2_with fail
 go_ret
 exact ⟨rfl,hE2⟩
theorem holds7b_r (hk:K=key) (hE:Env w0 (boxI b (rlC lv key false x y z 7 W X K V C fd)::L) w) :
  Calls Tryz.prog 191 #[.pointer (some ⟨b,0,none⟩)] w fun o w'=>o=.returned (.int .i64 1)/\Env w0 (boxI b (rlC lv key false x y z 7 W X K V C true)::L) w':=by
 have hkb:decide (K < key)=false:=by simp; omega
 have hkq:(K==key)=true:=by simpa using hk
 clear hk
 have r:=hE.rule 0 rfl
 unfold rlC at r
 go_enter Tryz.func191,Tryz.ntmps191
 go_wp2_with fail
 clear r
 refine wp_text (S:=(Env w0 (boxI b (rlC lv key false x y z 7 W X K V C fd)::L))) (by kernel_rfl) (by kernel_rfl) hE.drew (fun hT=>?_)
 have hT9:=Lib.hid hT
 clear hT
 repeat (first
  | (refine text_value (v:=?_) hT9.out (by rfl) ?_ ?_; rotate_left; (focus (intro w5 hS; have r:=hS.rule 0 rfl; unfold rlC at r; go_simp<;>with_reducible rfl)); (try simp only [Act.put,zA,zZ,zS]))
  | (refine text_off hT9.out (by rfl) ?_; (try simp only [Act.put,zA,zZ,zS]))
  | (refine text_call (v:=?_) (f:=?_) (args:=?_) hT9.out (by rfl) ?_ ?_ ?_; rotate_left 3; (focus (intro w5 hS; have r:=hS.rule 0 rfl; unfold rlC at r; go_simp; constructor<;>with_reducible rfl)); (focus (intro w5 hS; (first | fail))); (try simp only [Act.put,zA,zZ,zS])))
 refine InText.nil fun w5 hS5=>?_
 clear hT9
 clear hE
 go_wp2_with fail
 have hE:=hS5
 clear hS5
 refine wp_text (S:=(Env w0 (boxI b (rlC lv key false x y z 7 W X K V C fd)::L))) (by kernel_rfl) (by kernel_rfl) hE.drew (fun hT=>?_)
 have hT9:=Lib.hid hT
 clear hT
 repeat (first
  | (refine text_value (v:=?_) hT9.out (by rfl) ?_ ?_; rotate_left; (focus (intro w5 hS; have r:=hS.rule 0 rfl; unfold rlC at r; go_simp<;>with_reducible rfl)); (try simp only [Act.put,zA,zZ,zS]))
  | (refine text_off hT9.out (by rfl) ?_; (try simp only [Act.put,zA,zZ,zS]))
  | (refine text_call (v:=?_) (f:=?_) (args:=?_) hT9.out (by rfl) ?_ ?_ ?_; rotate_left 3; (focus (intro w5 hS; have r:=hS.rule 0 rfl; unfold rlC at r; go_simp; constructor<;>with_reducible rfl)); (focus (intro w5 hS; (first | fail))); (try simp only [Act.put,zA,zZ,zS])))
 refine InText.nil fun w5 hS5=>?_
 clear hT9
 clear hE
 have r:=hS5.rule 0 rfl
 unfold rlC at r
 have f12:=hS5.thaw 0 rfl 12 (by simp [rlC])
 have hP:=hS5.put 0 rfl (j:=12) (by simp [rlC]) (.bool true)
 replace hP:Env w0 (boxI b (rlC lv key false x y z 7 W X K V C true)::L) _:=hP
 go_wp2_with fail
 go_ret
 exact ⟨rfl,hP⟩
theorem holds7c_r (hk:K=key) (hE:Env w0 (boxI b (rlC lv key true x y z 7 W X K V C fd)::L) w) :
  Calls Tryz.prog 191 #[.pointer (some ⟨b,0,none⟩)] w fun o w'=>o=.returned (.int .i64 0)/\Env w0 (boxI b (rlC lv key true x y z 8 W X K V C true)::L) w':=by
 have hkb:decide (K < key)=false:=by simp; omega
 have hkq:(K==key)=true:=by simpa using hk
 clear hk
 have r:=hE.rule 0 rfl
 unfold rlC at r
 go_enter Tryz.func191,Tryz.ntmps191
 go_wp2_with fail
 clear r
 refine wp_text (S:=(Env w0 (boxI b (rlC lv key true x y z 7 W X K V C fd)::L))) (by kernel_rfl) (by kernel_rfl) hE.drew (fun hT=>?_)
 have hT9:=Lib.hid hT
 clear hT
 repeat (first
  | (refine text_value (v:=?_) hT9.out (by rfl) ?_ ?_; rotate_left; (focus (intro w5 hS; have r:=hS.rule 0 rfl; unfold rlC at r; go_simp<;>with_reducible rfl)); (try simp only [Act.put,zA,zZ,zS]))
  | (refine text_off hT9.out (by rfl) ?_; (try simp only [Act.put,zA,zZ,zS]))
  | (refine text_call (v:=?_) (f:=?_) (args:=?_) hT9.out (by rfl) ?_ ?_ ?_; rotate_left 3; (focus (intro w5 hS; have r:=hS.rule 0 rfl; unfold rlC at r; go_simp; constructor<;>with_reducible rfl)); (focus (intro w5 hS; (first | fail))); (try simp only [Act.put,zA,zZ,zS])))
 refine InText.nil fun w5 hS5=>?_
 clear hT9
 clear hE
 go_wp2_with fail
 have hE:=hS5
 clear hS5
 refine wp_text (S:=(Env w0 (boxI b (rlC lv key true x y z 7 W X K V C fd)::L))) (by kernel_rfl) (by kernel_rfl) hE.drew (fun hT=>?_)
 have hT9:=Lib.hid hT
 clear hT
 repeat (first
  | (refine text_value (v:=?_) hT9.out (by rfl) ?_ ?_; rotate_left; (focus (intro w5 hS; have r:=hS.rule 0 rfl; unfold rlC at r; go_simp<;>with_reducible rfl)); (try simp only [Act.put,zA,zZ,zS]))
  | (refine text_off hT9.out (by rfl) ?_; (try simp only [Act.put,zA,zZ,zS]))
  | (refine text_call (v:=?_) (f:=?_) (args:=?_) hT9.out (by rfl) ?_ ?_ ?_; rotate_left 3; (focus (intro w5 hS; have r:=hS.rule 0 rfl; unfold rlC at r; go_simp; constructor<;>with_reducible rfl)); (focus (intro w5 hS; (first | fail))); (try simp only [Act.put,zA,zZ,zS])))
 refine InText.nil fun w5 hS5=>?_
 clear hT9
 clear hE
 have r:=hS5.rule 0 rfl
 unfold rlC at r
 have f12:=hS5.thaw 0 rfl 12 (by simp [rlC])
 have hP:=hS5.put 0 rfl (j:=12) (by simp [rlC]) (.bool true)
 replace hP:Env w0 (boxI b (rlC lv key true x y z 7 W X K V C true)::L) _:=hP
 have f6:=hS5.thaw 0 rfl 6 (by simp [rlC])
 have hQ:=hP.put 0 rfl (j:=6) (by simp [rlC]) (.int .i64 8)
 go_wp2_with fail
 go_ret
 exact ⟨rfl,hQ⟩
theorem holds7d_r (hk:key < K) (hE:Env w0 (boxI b (rlC lv key vs x y z 7 W X K V C fd)::L) w) :
  Calls Tryz.prog 191 #[.pointer (some ⟨b,0,none⟩)] w fun o w'=>o=.returned (.int .i64 1)/\Env w0 (boxI b (rlC lv key vs x y z 7 W X K V C fd)::L) w':=by
 have hkb:decide (K < key)=false:=by simp; omega
 have hkq:(K==key)=false:=by simp; omega
 clear hk
 have r:=hE.rule 0 rfl
 unfold rlC at r
 go_enter Tryz.func191,Tryz.ntmps191
 go_wp2_with fail
 clear r
 refine wp_text (S:=(Env w0 (boxI b (rlC lv key vs x y z 7 W X K V C fd)::L))) (by kernel_rfl) (by kernel_rfl) hE.drew (fun hT=>?_)
 have hT9:=Lib.hid hT
 clear hT
 repeat (first
  | (refine text_value (v:=?_) hT9.out (by rfl) ?_ ?_; rotate_left; (focus (intro w5 hS; have r:=hS.rule 0 rfl; unfold rlC at r; go_simp<;>with_reducible rfl)); (try simp only [Act.put,zA,zZ,zS]))
  | (refine text_off hT9.out (by rfl) ?_; (try simp only [Act.put,zA,zZ,zS]))
  | (refine text_call (v:=?_) (f:=?_) (args:=?_) hT9.out (by rfl) ?_ ?_ ?_; rotate_left 3; (focus (intro w5 hS; have r:=hS.rule 0 rfl; unfold rlC at r; go_simp; constructor<;>with_reducible rfl)); (focus (intro w5 hS; (first | fail))); (try simp only [Act.put,zA,zZ,zS])))
 refine InText.nil fun w5 hS5=>?_
 clear hT9
 clear hE
 go_wp2_with fail
 have hE:=hS5
 clear hS5
 refine wp_text (S:=(Env w0 (boxI b (rlC lv key vs x y z 7 W X K V C fd)::L))) (by kernel_rfl) (by kernel_rfl) hE.drew (fun hT=>?_)
 have hT9:=Lib.hid hT
 clear hT
 repeat (first
  | (refine text_value (v:=?_) hT9.out (by rfl) ?_ ?_; rotate_left; (focus (intro w5 hS; have r:=hS.rule 0 rfl; unfold rlC at r; go_simp<;>with_reducible rfl)); (try simp only [Act.put,zA,zZ,zS]))
  | (refine text_off hT9.out (by rfl) ?_; (try simp only [Act.put,zA,zZ,zS]))
  | (refine text_call (v:=?_) (f:=?_) (args:=?_) hT9.out (by rfl) ?_ ?_ ?_; rotate_left 3; (focus (intro w5 hS; have r:=hS.rule 0 rfl; unfold rlC at r; go_simp; constructor<;>with_reducible rfl)); (focus (intro w5 hS; (first | fail))); (try simp only [Act.put,zA,zZ,zS])))
 refine InText.nil fun w5 hS5=>?_
 clear hT9
 clear hE
 go_wp2_with fail
 go_ret
 exact ⟨rfl,hS5⟩
theorem holds9_r (hE:Env w0 (boxI b (rlC lv key vs x y z 9 W X K V C fd)::L) w) :
  Calls Tryz.prog 191 #[.pointer (some ⟨b,0,none⟩)] w fun o w'=>o=.returned (.int .i64 1)/\Env w0 (boxI b (rlC lv key vs x y z 9 W X K V C fd)::L) w':=by
 have r:=hE.rule 0 rfl
 unfold rlC at r
 go_enter Tryz.func191,Tryz.ntmps191
 go_wp2_with fail
 clear r
 refine wp_text (S:=(Env w0 (boxI b (rlC lv key vs x y z 9 W X K V C fd)::L))) (by kernel_rfl) (by kernel_rfl) hE.drew (fun hT=>?_)
 have hT9:=Lib.hid hT
 clear hT
 repeat (first
  | (refine text_value (v:=?_) hT9.out (by rfl) ?_ ?_; rotate_left; (focus (intro w5 hS; have r:=hS.rule 0 rfl; unfold rlC at r; go_simp<;>with_reducible rfl)); (try simp only [Act.put,zA,zZ,zS]))
  | (refine text_off hT9.out (by rfl) ?_; (try simp only [Act.put,zA,zZ,zS]))
  | (refine text_call (v:=?_) (f:=?_) (args:=?_) hT9.out (by rfl) ?_ ?_ ?_; rotate_left 3; (focus (intro w5 hS; have r:=hS.rule 0 rfl; unfold rlC at r; go_simp; constructor<;>with_reducible rfl)); (focus (intro w5 hS; (first | fail))); (try simp only [Act.put,zA,zZ,zS])))
 refine InText.nil fun w5 hS5=>?_
 clear hT9
 clear hE
 go_wp2_with fail
 have hE:=hS5
 clear hS5
 refine wp_text (S:=(Env w0 (boxI b (rlC lv key vs x y z 9 W X K V C fd)::L))) (by kernel_rfl) (by kernel_rfl) hE.drew (fun hT=>?_)
 have hT9:=Lib.hid hT
 clear hT
 repeat (first
  | (refine text_value (v:=?_) hT9.out (by rfl) ?_ ?_; rotate_left; (focus (intro w5 hS; have r:=hS.rule 0 rfl; unfold rlC at r; go_simp<;>with_reducible rfl)); (try simp only [Act.put,zA,zZ,zS]))
  | (refine text_off hT9.out (by rfl) ?_; (try simp only [Act.put,zA,zZ,zS]))
  | (refine text_call (v:=?_) (f:=?_) (args:=?_) hT9.out (by rfl) ?_ ?_ ?_; rotate_left 3; (focus (intro w5 hS; have r:=hS.rule 0 rfl; unfold rlC at r; go_simp; constructor<;>with_reducible rfl)); (focus (intro w5 hS; (first | fail))); (try simp only [Act.put,zA,zZ,zS])))
 refine InText.nil fun w5 hS5=>?_
 clear hT9
 clear hE
 go_wp2_with fail
 go_ret
 exact ⟨rfl,hS5⟩
end
section
variable {uc:Uc} {w0 w:World} {R:List Item} {b u m:Nat} {F:Nat->Prop} {ml:List OneR} {lv key e ro:Int} {vs fd:Bool} {x y z pc W X K V C:Int}
theorem rst0 (v:Int) (hfx:getL ml (x,y,z)=v) (hml:ml.length<=1000000) (hE:Env w0 (boxI b (rlC lv key vs x y z 0 W X K V C fd)::boxI u (ruC uc e ro)::refI m F ml::R) w) :
  Calls Tryz.prog 149 #[.pointer (some ⟨b,0,none⟩),.pointer (some ⟨u,0,none⟩),.pointer (some ⟨m,0,none⟩)] w fun o w'=>o=.returned (.int .i64 0)/\Env w0 (boxI b (rlC lv key vs x y z 2 v X K V C fd)::boxI u (ruC uc e ro)::refI m F ml::R) w':=by
 have HX:=Lib.hid hfx
 clear hfx
 have r:=hE.rule 0 rfl
 unfold rlC at r
 go_enter Tryz.func149,Tryz.ntmps149
 go_wp2_with fail
 refine (refGet_any x y z hml (hE.ref 2 rfl)).mono ?_
 rintro o w2 ⟨rfl,hb⟩
 rw [HX.out]
 replace hE:=hE.over hb
 clear hb r
 have r:=hE.rule 0 rfl
 unfold rlC at r
 have f1:=hE.thaw 0 rfl 7 (by simp [rlC])
 have f6:=hE.thaw 0 rfl 6 (by simp [rlC])
 have hP:=(hE.put 0 rfl (j:=7) (by simp [rlC]) (.int .u64 v)).put 0 rfl (j:=6) (by simp [rlC]) (.int .i64 2)
 replace hP:Env w0 (boxI b (rlC lv key vs x y z 2 v X K V C fd)::boxI u (ruC uc e ro)::refI m F ml::R) _:=hP
 go_wp2_with fail
 go_ret
 exact ⟨rfl,hP⟩
theorem rst3 (hlv:0<=lv/\lv<=1000000) (v:Int) (hfx:getL ml (5,C,7+lv)=v) (hml:ml.length<=1000000) (hE:Env w0 (boxI b (rlC lv key vs x y z 3 W X K V C fd)::boxI u (ruC uc e ro)::refI m F ml::R) w) :
  Calls Tryz.prog 149 #[.pointer (some ⟨b,0,none⟩),.pointer (some ⟨u,0,none⟩),.pointer (some ⟨m,0,none⟩)] w fun o w'=>o=.returned (.int .i64 0)/\Env w0 (boxI b (rlC lv key vs x y z 4 W v K V C fd)::boxI u (ruC uc e ro)::refI m F ml::R) w':=by
 have HX:=Lib.hid hfx
 clear hfx
 have r:=hE.rule 0 rfl
 unfold rlC at r
 go_enter Tryz.func149,Tryz.ntmps149
 go_wp2_with fail
 refine (next_r hlv (hE.get 0 rfl)).mono ?_
 rintro o w1 ⟨rfl,hb⟩
 replace hE:=hE.over hb
 clear hb r
 have r:=hE.rule 0 rfl
 unfold rlC at r
 go_wp2_with fail
 refine (refGet_any 5 C (7+lv) hml (hE.ref 2 rfl)).mono ?_
 rintro o w2 ⟨rfl,hb⟩
 rw [HX.out]
 replace hE:=hE.over hb
 clear hb r
 have r:=hE.rule 0 rfl
 unfold rlC at r
 have f1:=hE.thaw 0 rfl 8 (by simp [rlC])
 have f6:=hE.thaw 0 rfl 6 (by simp [rlC])
 have hP:=(hE.put 0 rfl (j:=8) (by simp [rlC]) (.int .u64 v)).put 0 rfl (j:=6) (by simp [rlC]) (.int .i64 4)
 replace hP:Env w0 (boxI b (rlC lv key vs x y z 4 W v K V C fd)::boxI u (ruC uc e ro)::refI m F ml::R) _:=hP
 go_wp2_with fail
 go_ret
 exact ⟨rfl,hP⟩
theorem rst6 (v:Int) (hfx:getL ml (5,C,3)=v) (hml:ml.length<=1000000) (hE:Env w0 (boxI b (rlC lv key vs x y z 6 W X K V C fd)::boxI u (ruC uc e ro)::refI m F ml::R) w) :
  Calls Tryz.prog 149 #[.pointer (some ⟨b,0,none⟩),.pointer (some ⟨u,0,none⟩),.pointer (some ⟨m,0,none⟩)] w fun o w'=>o=.returned (.int .i64 0)/\Env w0 (boxI b (rlC lv key vs x y z 7 W X v V C fd)::boxI u (ruC uc e ro)::refI m F ml::R) w':=by
 have HX:=Lib.hid hfx
 clear hfx
 have r:=hE.rule 0 rfl
 unfold rlC at r
 go_enter Tryz.func149,Tryz.ntmps149
 go_wp2_with fail
 refine (cell13_any C 3 _).mono ?_
 rintro o w1 ⟨rfl,hb⟩
 replace hE:=hE.over hb
 clear hb r
 have r:=hE.rule 0 rfl
 unfold rlC at r
 go_wp2_with fail
 refine (refGet_any 5 C 3 hml (hE.ref 2 rfl)).mono ?_
 rintro o w2 ⟨rfl,hb⟩
 rw [HX.out]
 replace hE:=hE.over hb
 clear hb r
 have r:=hE.rule 0 rfl
 unfold rlC at r
 have f1:=hE.thaw 0 rfl 9 (by simp [rlC])
 have f6:=hE.thaw 0 rfl 6 (by simp [rlC])
 have hP:=(hE.put 0 rfl (j:=9) (by simp [rlC]) (.int .u64 v)).put 0 rfl (j:=6) (by simp [rlC]) (.int .i64 7)
 replace hP:Env w0 (boxI b (rlC lv key vs x y z 7 W X v V C fd)::boxI u (ruC uc e ro)::refI m F ml::R) _:=hP
 go_wp2_with fail
 go_ret
 exact ⟨rfl,hP⟩
theorem rst8 (v:Int) (hfx:getL ml (5,C,4)=v) (hml:ml.length<=1000000) (hE:Env w0 (boxI b (rlC lv key vs x y z 8 W X K V C fd)::boxI u (ruC uc e ro)::refI m F ml::R) w) :
  Calls Tryz.prog 149 #[.pointer (some ⟨b,0,none⟩),.pointer (some ⟨u,0,none⟩),.pointer (some ⟨m,0,none⟩)] w fun o w'=>o=.returned (.int .i64 0)/\Env w0 (boxI b (rlC lv key vs x y z 9 W X K v C fd)::boxI u (ruC uc e ro)::refI m F ml::R) w':=by
 have HX:=Lib.hid hfx
 clear hfx
 have r:=hE.rule 0 rfl
 unfold rlC at r
 go_enter Tryz.func149,Tryz.ntmps149
 go_wp2_with fail
 refine (cell13_any C 4 _).mono ?_
 rintro o w1 ⟨rfl,hb⟩
 replace hE:=hE.over hb
 clear hb r
 have r:=hE.rule 0 rfl
 unfold rlC at r
 go_wp2_with fail
 refine (refGet_any 5 C 4 hml (hE.ref 2 rfl)).mono ?_
 rintro o w2 ⟨rfl,hb⟩
 rw [HX.out]
 replace hE:=hE.over hb
 clear hb r
 have r:=hE.rule 0 rfl
 unfold rlC at r
 have f1:=hE.thaw 0 rfl 10 (by simp [rlC])
 have f6:=hE.thaw 0 rfl 6 (by simp [rlC])
 have hP:=(hE.put 0 rfl (j:=10) (by simp [rlC]) (.int .u64 v)).put 0 rfl (j:=6) (by simp [rlC]) (.int .i64 9)
 replace hP:Env w0 (boxI b (rlC lv key vs x y z 9 W X K v C fd)::boxI u (ruC uc e ro)::refI m F ml::R) _:=hP
 go_wp2_with fail
 go_ret
 exact ⟨rfl,hP⟩
theorem rst5n (heq:getL ml (x,y,z)≠W) (hX:InU X) (hml:ml.length<=1000000) (hE:Env w0 (boxI b (rlC lv key vs x y z 5 W X K V C fd)::boxI u (ruC uc e ro)::refI m F ml::R) w) :
  Calls Tryz.prog 149 #[.pointer (some ⟨b,0,none⟩),.pointer (some ⟨u,0,none⟩),.pointer (some ⟨m,0,none⟩)] w fun o w'=>o=.returned (.int .i64 2)/\∃ F',Env w0 (boxI b (rlC lv key vs x y z 5 W X K V C fd)::boxI u (ruC uc e ro)::refI m F' (swL ml (x,y,z) W (wordI false (slotI X) e))::R) w':=by
 have HD:Hid (decide (getL ml (x,y,z)=W)=false):=Lib.hid (by simpa using heq)
 have HS13:=Lib.hid fun (v:World)=>slot13_any X hX v
 have hqi:InU (wordI false (slotI X) e):=wordI_in _ _ _
 have HQI:=Lib.hid hqi
 have HTO:=Lib.hid fun (v:World) (hv:Blk 0 v u (urv uc.k uc.s uc.b uc.h uc.l e uc.A uc.n uc.c uc.N uc.hs ro))=>rto_c (slotI X) hv
 obtain ⟨s,hs⟩:∃ s,slotI X=s:=⟨_,rfl⟩
 rw [hs] at HQI ⊢
 simp only [hs] at HS13 HTO
 obtain ⟨q,hq⟩:∃ q,wordI false s e=q:=⟨_,rfl⟩
 rw [hq] at HQI ⊢
 simp only [hq] at HTO
 clear hs hq heq hX hqi
 have r:=hE.rule 0 rfl
 unfold rlC at r
 go_enter Tryz.func149,Tryz.ntmps149
 go_wp2_with fail
 refine (HS13.out _).mono ?_
 rintro o w1 ⟨rfl,hb⟩
 replace hE:=hE.over hb
 clear hb r
 go_wp2_with fail
 refine (HTO.out _ (hE.get 1 rfl)).mono ?_
 rintro o w2 ⟨rfl,hb⟩
 replace hE:=hE.over hb
 clear hb
 go_wp2_with fail
 refine Ord.wp_chain [10] (fun v=>Blk 0 v b (rlC lv key vs x y z 5 W X K V C fd)) (fun k w'=>∃ G5,Env w0 (boxI b (rlC lv key vs x y z 5 W X K V C fd)::boxI u (ruC uc e ro)::refI m G5 (if k=0 then ml else swL ml (x,y,z) W q)::R) w') (by kernel_rfl) (by kernel_rfl) (by kernel_rfl) (hE.drew.get 0 rfl) ⟨_,hE.drew⟩ (fun hT=>?_)
 have hT9:=Lib.hid hT
 clear hT
 repeat (first
  | (refine Ord.ch_value (v:=?_) hT9.out (by decide) (by rfl) ?_ ?_; rotate_left; (focus (intro w5 hS; have r:=Blk.rule hS; unfold rlC at r; go_simp<;>with_reducible rfl)); (try simp only [Act.put,zA,zZ,zS]))
  | (refine Ord.ch_off hT9.out (by decide) (by rfl) ?_; (try simp only [Act.put,zA,zZ,zS])))
 refine Ord.ch_turn (v:=.bool false) 0 hT9.out rfl (by decide) (Or.inl rfl) (by rfl) ?_ ?_
 ·rintro w5 hC5 ⟨G5,hA5⟩
  simp only [if_true] at hA5
  go_simp
  simp only [Ord.LandsIn]
  have hsw:=refSwap_any x y z W q hml (hA5.ref 2 rfl)
  rw [HD.out] at hsw
  refine hsw.mono ?_
  rintro e w6 ⟨rfl,G6,hU6,hs6⟩
  have hE6:=hA5.turnU 2 rfl hU6 hs6
  simp only [zS,zZ] at hE6
  exact ⟨rfl,hE6.get 0 rfl,G6,hE6⟩
 (try simp only [Act.put,zA,zZ,zS])
 repeat (first
  | (refine Ord.ch_value (v:=?_) hT9.out (by decide) (by rfl) ?_ ?_; rotate_left; (focus (intro w5 hS; skip; go_simp<;>with_reducible rfl)); (try simp only [Act.put,zA,zZ,zS]))
  | (refine Ord.ch_off hT9.out (by decide) (by rfl) ?_; (try simp only [Act.put,zA,zZ,zS])))
 refine Ord.InText.nil fun w5 hS=>?_
 clear hT9
 obtain ⟨hC9,hA9⟩:=Ord.chain_end hS
 clear hS
 obtain ⟨G9,hA9⟩:=hA9
 clear hC9 hE
 simp only [List.length_cons,List.length_nil,Nat.zero_add,Nat.one_ne_zero,if_false] at hA9
 go_wp2_with fail
 go_ret
 exact ⟨rfl,G9,hA9⟩
theorem rst5y (heq:getL ml (x,y,z)=W) (hX:InU X) (hml:ml.length<=1000000) (hE:Env w0 (boxI b (rlC lv key vs x y z 5 W X K V C fd)::boxI u (ruC uc e ro)::refI m F ml::R) w) :
  Calls Tryz.prog 149 #[.pointer (some ⟨b,0,none⟩),.pointer (some ⟨u,0,none⟩),.pointer (some ⟨m,0,none⟩)] w fun o w'=>o=.returned (.int .i64 (cS (wordI false (slotI X) e)))/\∃ F',Env w0 (boxI b (rlC lv key vs x y z 3 (wordI false (slotI X) e) 0 K V (slotI (wordI false (slotI X) e)) fd)::boxI u (ruC uc e ro)::refI m F' (swL ml (x,y,z) W (wordI false (slotI X) e))::R) w':=by
 have HD:Hid (decide (getL ml (x,y,z)=W)=true):=Lib.hid (by simpa using heq)
 have HS13:=Lib.hid fun (v:World)=>slot13_any X hX v
 have hqi:InU (wordI false (slotI X) e):=wordI_in _ _ _
 have HQI:=Lib.hid hqi
 have HTO:=Lib.hid fun (v:World) (hv:Blk 0 v u (urv uc.k uc.s uc.b uc.h uc.l e uc.A uc.n uc.c uc.N uc.hs ro))=>rto_c (slotI X) hv
 obtain ⟨s,hs⟩:∃ s,slotI X=s:=⟨_,rfl⟩
 rw [hs] at HQI ⊢
 simp only [hs] at HS13 HTO
 obtain ⟨q,hq⟩:∃ q,wordI false s e=q:=⟨_,rfl⟩
 rw [hq] at HQI ⊢
 simp only [hq] at HTO
 clear hs hq heq hX hqi
 have r:=hE.rule 0 rfl
 unfold rlC at r
 go_enter Tryz.func149,Tryz.ntmps149
 go_wp2_with fail
 refine (HS13.out _).mono ?_
 rintro o w1 ⟨rfl,hb⟩
 replace hE:=hE.over hb
 clear hb r
 go_wp2_with fail
 refine (HTO.out _ (hE.get 1 rfl)).mono ?_
 rintro o w2 ⟨rfl,hb⟩
 replace hE:=hE.over hb
 clear hb
 go_wp2_with fail
 refine Ord.wp_chain [10] (fun v=>Blk 0 v b (rlC lv key vs x y z 5 W X K V C fd)) (fun k w'=>∃ G5,Env w0 (boxI b (rlC lv key vs x y z 5 W X K V C fd)::boxI u (ruC uc e ro)::refI m G5 (if k=0 then ml else swL ml (x,y,z) W q)::R) w') (by kernel_rfl) (by kernel_rfl) (by kernel_rfl) (hE.drew.get 0 rfl) ⟨_,hE.drew⟩ (fun hT=>?_)
 have hT9:=Lib.hid hT
 clear hT
 repeat (first
  | (refine Ord.ch_value (v:=?_) hT9.out (by decide) (by rfl) ?_ ?_; rotate_left; (focus (intro w5 hS; have r:=Blk.rule hS; unfold rlC at r; go_simp<;>with_reducible rfl)); (try simp only [Act.put,zA,zZ,zS]))
  | (refine Ord.ch_off hT9.out (by decide) (by rfl) ?_; (try simp only [Act.put,zA,zZ,zS])))
 refine Ord.ch_turn (v:=.bool true) 0 hT9.out rfl (by decide) (Or.inl rfl) (by rfl) ?_ ?_
 ·rintro w5 hC5 ⟨G5,hA5⟩
  simp only [if_true] at hA5
  go_simp
  simp only [Ord.LandsIn]
  have hsw:=refSwap_any x y z W q hml (hA5.ref 2 rfl)
  rw [HD.out] at hsw
  refine hsw.mono ?_
  rintro e w6 ⟨rfl,G6,hU6,hs6⟩
  have hE6:=hA5.turnU 2 rfl hU6 hs6
  simp only [zS,zZ] at hE6
  exact ⟨rfl,hE6.get 0 rfl,G6,hE6⟩
 (try simp only [Act.put,zA,zZ,zS])
 repeat (first
  | (refine Ord.ch_value (v:=?_) hT9.out (by decide) (by rfl) ?_ ?_; rotate_left; (focus (intro w5 hS; skip; go_simp<;>with_reducible rfl)); (try simp only [Act.put,zA,zZ,zS]))
  | (refine Ord.ch_off hT9.out (by decide) (by rfl) ?_; (try simp only [Act.put,zA,zZ,zS])))
 refine Ord.InText.nil fun w5 hS=>?_
 clear hT9
 obtain ⟨hC9,hA9⟩:=Ord.chain_end hS
 clear hS
 obtain ⟨G9,hA9⟩:=hA9
 clear hC9 hE
 simp only [List.length_cons,List.length_nil,Nat.zero_add,Nat.one_ne_zero,if_false] at hA9
 go_wp2_with fail
 refine (come_r q HQI.out hA9).mono ?_
 rintro o w7 ⟨rfl,hE7⟩
 go_wp2_with fail
 go_ret
 exact ⟨rfl,G9,hE7⟩
theorem rvn2 (hok:okB (getL ml (1,0,0)) e=false) (hu:InU (getL ml (1,0,0))) (he:0<=e/\e<=9223372036854775807) (hml:ml.length<=1000000) (hE:Env w0 (boxI b (rlC lv key vs x y z 2 W X K V C fd)::boxI u (ruC uc e ro)::refI m F ml::R) w) :
  Calls Tryz.prog 149 #[.pointer (some ⟨b,0,none⟩),.pointer (some ⟨u,0,none⟩),.pointer (some ⟨m,0,none⟩)] w fun o w'=>o=.returned (.int .i64 2)/\Env w0 (boxI b (rlC lv key vs x y z 2 W X K V C fd)::boxI u (ruC uc e (wrap64 (ro+1)))::refI m F ml::R) w':=by
 have hv:=rvalid_w (L:=(boxI b (rlC lv key vs x y z 2 W X K V C fd)::boxI u (ruC uc e ro)::refI m F ml::R)) (k:=uc.k) (s:=uc.s) (b:=uc.b) (h:=uc.h) (l:=uc.l) (A:=uc.A) (n:=uc.n) (c:=uc.c) (N:=uc.N) (hs:=uc.hs) (r:=ro) _ (rfl:getL ml (1,0,0)=getL ml (1,0,0)) hu he.1 he.2 hml 1 2 hE rfl rfl
 rw [hok] at hv
 simp only [zS,zZ,Bool.false_eq_true,if_false] at hv
 have HV:=Lib.hid hv
 clear hv hok hu
 have r:=hE.rule 0 rfl
 unfold rlC at r
 go_enter Tryz.func149,Tryz.ntmps149
 go_wp2_with fail
 refine HV.out.mono ?_
 rintro o w1 ⟨rfl,hE1⟩
 go_wp2_with fail
 go_ret
 exact ⟨rfl,hE1⟩
theorem rvy2 (hok:okB (getL ml (1,0,0)) e=true) (hu:InU (getL ml (1,0,0))) (he:0<=e/\e<=9223372036854775807) (hml:ml.length<=1000000) (s:Int) (Y:World->Prop) (hE:Env w0 (boxI b (rlC lv key vs x y z 2 W X K V C fd)::boxI u (ruC uc e ro)::refI m F ml::R) w)
  (hc:∀ v,Env w0 (boxI b (rlC lv key vs x y z 2 W X K V C fd)::boxI u (ruC uc e ro)::refI m F ml::R) v->Calls Tryz.prog 191 #[.pointer (some ⟨b,0,none⟩)] v fun o w'=>o=.returned (.int .i64 s)/\Y w') :
  Calls Tryz.prog 149 #[.pointer (some ⟨b,0,none⟩),.pointer (some ⟨u,0,none⟩),.pointer (some ⟨m,0,none⟩)] w fun o w'=>o=.returned (.int .i64 s)/\Y w':=by
 have hv:=rvalid_w (L:=(boxI b (rlC lv key vs x y z 2 W X K V C fd)::boxI u (ruC uc e ro)::refI m F ml::R)) (k:=uc.k) (s:=uc.s) (b:=uc.b) (h:=uc.h) (l:=uc.l) (A:=uc.A) (n:=uc.n) (c:=uc.c) (N:=uc.N) (hs:=uc.hs) (r:=ro) _ (rfl:getL ml (1,0,0)=getL ml (1,0,0)) hu he.1 he.2 hml 1 2 hE rfl rfl
 rw [hok] at hv
 simp only [zS,zZ,if_true] at hv
 have HV:=Lib.hid hv
 have HC:=Lib.hid hc
 clear hv hok hu hc
 have r:=hE.rule 0 rfl
 unfold rlC at r
 go_enter Tryz.func149,Tryz.ntmps149
 go_wp2_with fail
 refine HV.out.mono ?_
 rintro o w1 ⟨rfl,hE1⟩
 go_wp2_with fail
 refine (HC.out _ hE1).mono ?_
 rintro o w2 ⟨rfl,hY⟩
 go_wp2_with fail
 go_ret
 exact ⟨rfl,hY⟩
theorem rvn4 (hok:okB (getL ml (1,0,0)) e=false) (hu:InU (getL ml (1,0,0))) (he:0<=e/\e<=9223372036854775807) (hml:ml.length<=1000000) (hE:Env w0 (boxI b (rlC lv key vs x y z 4 W X K V C fd)::boxI u (ruC uc e ro)::refI m F ml::R) w) :
  Calls Tryz.prog 149 #[.pointer (some ⟨b,0,none⟩),.pointer (some ⟨u,0,none⟩),.pointer (some ⟨m,0,none⟩)] w fun o w'=>o=.returned (.int .i64 2)/\Env w0 (boxI b (rlC lv key vs x y z 4 W X K V C fd)::boxI u (ruC uc e (wrap64 (ro+1)))::refI m F ml::R) w':=by
 have hv:=rvalid_w (L:=(boxI b (rlC lv key vs x y z 4 W X K V C fd)::boxI u (ruC uc e ro)::refI m F ml::R)) (k:=uc.k) (s:=uc.s) (b:=uc.b) (h:=uc.h) (l:=uc.l) (A:=uc.A) (n:=uc.n) (c:=uc.c) (N:=uc.N) (hs:=uc.hs) (r:=ro) _ (rfl:getL ml (1,0,0)=getL ml (1,0,0)) hu he.1 he.2 hml 1 2 hE rfl rfl
 rw [hok] at hv
 simp only [zS,zZ,Bool.false_eq_true,if_false] at hv
 have HV:=Lib.hid hv
 clear hv hok hu
 have r:=hE.rule 0 rfl
 unfold rlC at r
 go_enter Tryz.func149,Tryz.ntmps149
 go_wp2_with fail
 refine HV.out.mono ?_
 rintro o w1 ⟨rfl,hE1⟩
 go_wp2_with fail
 go_ret
 exact ⟨rfl,hE1⟩
theorem rvy4 (hok:okB (getL ml (1,0,0)) e=true) (hu:InU (getL ml (1,0,0))) (he:0<=e/\e<=9223372036854775807) (hml:ml.length<=1000000) (s:Int) (Y:World->Prop) (hE:Env w0 (boxI b (rlC lv key vs x y z 4 W X K V C fd)::boxI u (ruC uc e ro)::refI m F ml::R) w)
  (hc:∀ v,Env w0 (boxI b (rlC lv key vs x y z 4 W X K V C fd)::boxI u (ruC uc e ro)::refI m F ml::R) v->Calls Tryz.prog 191 #[.pointer (some ⟨b,0,none⟩)] v fun o w'=>o=.returned (.int .i64 s)/\Y w') :
  Calls Tryz.prog 149 #[.pointer (some ⟨b,0,none⟩),.pointer (some ⟨u,0,none⟩),.pointer (some ⟨m,0,none⟩)] w fun o w'=>o=.returned (.int .i64 s)/\Y w':=by
 have hv:=rvalid_w (L:=(boxI b (rlC lv key vs x y z 4 W X K V C fd)::boxI u (ruC uc e ro)::refI m F ml::R)) (k:=uc.k) (s:=uc.s) (b:=uc.b) (h:=uc.h) (l:=uc.l) (A:=uc.A) (n:=uc.n) (c:=uc.c) (N:=uc.N) (hs:=uc.hs) (r:=ro) _ (rfl:getL ml (1,0,0)=getL ml (1,0,0)) hu he.1 he.2 hml 1 2 hE rfl rfl
 rw [hok] at hv
 simp only [zS,zZ,if_true] at hv
 have HV:=Lib.hid hv
 have HC:=Lib.hid hc
 clear hv hok hu hc
 have r:=hE.rule 0 rfl
 unfold rlC at r
 go_enter Tryz.func149,Tryz.ntmps149
 go_wp2_with fail
 refine HV.out.mono ?_
 rintro o w1 ⟨rfl,hE1⟩
 go_wp2_with fail
 refine (HC.out _ hE1).mono ?_
 rintro o w2 ⟨rfl,hY⟩
 go_wp2_with fail
 go_ret
 exact ⟨rfl,hY⟩
theorem rvn7 (hok:okB (getL ml (1,0,0)) e=false) (hu:InU (getL ml (1,0,0))) (he:0<=e/\e<=9223372036854775807) (hml:ml.length<=1000000) (hE:Env w0 (boxI b (rlC lv key vs x y z 7 W X K V C fd)::boxI u (ruC uc e ro)::refI m F ml::R) w) :
  Calls Tryz.prog 149 #[.pointer (some ⟨b,0,none⟩),.pointer (some ⟨u,0,none⟩),.pointer (some ⟨m,0,none⟩)] w fun o w'=>o=.returned (.int .i64 2)/\Env w0 (boxI b (rlC lv key vs x y z 7 W X K V C fd)::boxI u (ruC uc e (wrap64 (ro+1)))::refI m F ml::R) w':=by
 have hv:=rvalid_w (L:=(boxI b (rlC lv key vs x y z 7 W X K V C fd)::boxI u (ruC uc e ro)::refI m F ml::R)) (k:=uc.k) (s:=uc.s) (b:=uc.b) (h:=uc.h) (l:=uc.l) (A:=uc.A) (n:=uc.n) (c:=uc.c) (N:=uc.N) (hs:=uc.hs) (r:=ro) _ (rfl:getL ml (1,0,0)=getL ml (1,0,0)) hu he.1 he.2 hml 1 2 hE rfl rfl
 rw [hok] at hv
 simp only [zS,zZ,Bool.false_eq_true,if_false] at hv
 have HV:=Lib.hid hv
 clear hv hok hu
 have r:=hE.rule 0 rfl
 unfold rlC at r
 go_enter Tryz.func149,Tryz.ntmps149
 go_wp2_with fail
 refine HV.out.mono ?_
 rintro o w1 ⟨rfl,hE1⟩
 go_wp2_with fail
 go_ret
 exact ⟨rfl,hE1⟩
theorem rvy7 (hok:okB (getL ml (1,0,0)) e=true) (hu:InU (getL ml (1,0,0))) (he:0<=e/\e<=9223372036854775807) (hml:ml.length<=1000000) (s:Int) (Y:World->Prop) (hE:Env w0 (boxI b (rlC lv key vs x y z 7 W X K V C fd)::boxI u (ruC uc e ro)::refI m F ml::R) w)
  (hc:∀ v,Env w0 (boxI b (rlC lv key vs x y z 7 W X K V C fd)::boxI u (ruC uc e ro)::refI m F ml::R) v->Calls Tryz.prog 191 #[.pointer (some ⟨b,0,none⟩)] v fun o w'=>o=.returned (.int .i64 s)/\Y w') :
  Calls Tryz.prog 149 #[.pointer (some ⟨b,0,none⟩),.pointer (some ⟨u,0,none⟩),.pointer (some ⟨m,0,none⟩)] w fun o w'=>o=.returned (.int .i64 s)/\Y w':=by
 have hv:=rvalid_w (L:=(boxI b (rlC lv key vs x y z 7 W X K V C fd)::boxI u (ruC uc e ro)::refI m F ml::R)) (k:=uc.k) (s:=uc.s) (b:=uc.b) (h:=uc.h) (l:=uc.l) (A:=uc.A) (n:=uc.n) (c:=uc.c) (N:=uc.N) (hs:=uc.hs) (r:=ro) _ (rfl:getL ml (1,0,0)=getL ml (1,0,0)) hu he.1 he.2 hml 1 2 hE rfl rfl
 rw [hok] at hv
 simp only [zS,zZ,if_true] at hv
 have HV:=Lib.hid hv
 have HC:=Lib.hid hc
 clear hv hok hu hc
 have r:=hE.rule 0 rfl
 unfold rlC at r
 go_enter Tryz.func149,Tryz.ntmps149
 go_wp2_with fail
 refine HV.out.mono ?_
 rintro o w1 ⟨rfl,hE1⟩
 go_wp2_with fail
 refine (HC.out _ hE1).mono ?_
 rintro o w2 ⟨rfl,hY⟩
 go_wp2_with fail
 go_ret
 exact ⟨rfl,hY⟩
theorem rvn9 (hok:okB (getL ml (1,0,0)) e=false) (hu:InU (getL ml (1,0,0))) (he:0<=e/\e<=9223372036854775807) (hml:ml.length<=1000000) (hE:Env w0 (boxI b (rlC lv key vs x y z 9 W X K V C fd)::boxI u (ruC uc e ro)::refI m F ml::R) w) :
  Calls Tryz.prog 149 #[.pointer (some ⟨b,0,none⟩),.pointer (some ⟨u,0,none⟩),.pointer (some ⟨m,0,none⟩)] w fun o w'=>o=.returned (.int .i64 2)/\Env w0 (boxI b (rlC lv key vs x y z 9 W X K V C fd)::boxI u (ruC uc e (wrap64 (ro+1)))::refI m F ml::R) w':=by
 have hv:=rvalid_w (L:=(boxI b (rlC lv key vs x y z 9 W X K V C fd)::boxI u (ruC uc e ro)::refI m F ml::R)) (k:=uc.k) (s:=uc.s) (b:=uc.b) (h:=uc.h) (l:=uc.l) (A:=uc.A) (n:=uc.n) (c:=uc.c) (N:=uc.N) (hs:=uc.hs) (r:=ro) _ (rfl:getL ml (1,0,0)=getL ml (1,0,0)) hu he.1 he.2 hml 1 2 hE rfl rfl
 rw [hok] at hv
 simp only [zS,zZ,Bool.false_eq_true,if_false] at hv
 have HV:=Lib.hid hv
 clear hv hok hu
 have r:=hE.rule 0 rfl
 unfold rlC at r
 go_enter Tryz.func149,Tryz.ntmps149
 go_wp2_with fail
 refine HV.out.mono ?_
 rintro o w1 ⟨rfl,hE1⟩
 go_wp2_with fail
 go_ret
 exact ⟨rfl,hE1⟩
theorem rvy9 (hok:okB (getL ml (1,0,0)) e=true) (hu:InU (getL ml (1,0,0))) (he:0<=e/\e<=9223372036854775807) (hml:ml.length<=1000000) (s:Int) (Y:World->Prop) (hE:Env w0 (boxI b (rlC lv key vs x y z 9 W X K V C fd)::boxI u (ruC uc e ro)::refI m F ml::R) w)
  (hc:∀ v,Env w0 (boxI b (rlC lv key vs x y z 9 W X K V C fd)::boxI u (ruC uc e ro)::refI m F ml::R) v->Calls Tryz.prog 191 #[.pointer (some ⟨b,0,none⟩)] v fun o w'=>o=.returned (.int .i64 s)/\Y w') :
  Calls Tryz.prog 149 #[.pointer (some ⟨b,0,none⟩),.pointer (some ⟨u,0,none⟩),.pointer (some ⟨m,0,none⟩)] w fun o w'=>o=.returned (.int .i64 s)/\Y w':=by
 have hv:=rvalid_w (L:=(boxI b (rlC lv key vs x y z 9 W X K V C fd)::boxI u (ruC uc e ro)::refI m F ml::R)) (k:=uc.k) (s:=uc.s) (b:=uc.b) (h:=uc.h) (l:=uc.l) (A:=uc.A) (n:=uc.n) (c:=uc.c) (N:=uc.N) (hs:=uc.hs) (r:=ro) _ (rfl:getL ml (1,0,0)=getL ml (1,0,0)) hu he.1 he.2 hml 1 2 hE rfl rfl
 rw [hok] at hv
 simp only [zS,zZ,if_true] at hv
 have HV:=Lib.hid hv
 have HC:=Lib.hid hc
 clear hv hok hu hc
 have r:=hE.rule 0 rfl
 unfold rlC at r
 go_enter Tryz.func149,Tryz.ntmps149
 go_wp2_with fail
 refine HV.out.mono ?_
 rintro o w1 ⟨rfl,hE1⟩
 go_wp2_with fail
 refine (HC.out _ hE1).mono ?_
 rintro o w2 ⟨rfl,hY⟩
 go_wp2_with fail
 go_ret
 exact ⟨rfl,hY⟩
end
def rlV (lv key:Int) (vs:Bool) (L:Lm):List Value:=rlC lv key vs L.p.1 L.p.2.1 L.p.2.2 (L.pc:Int) L.W L.X L.K L.V L.C L.fd
def RLn (uc:Uc) (w0:World) (R:List Item) (b u m:Nat) (lv key:Int) (vs:Bool) (L:Lm) (e ro:Int) (f:Plc->Int) (N:Nat) (w:World):Prop :=
 ∃ F ml,getL ml=f/\ml.length<=N/\Env w0 (boxI b (rlV lv key vs L)::boxI u (ruC uc e ro)::refI m F ml::R) w
section
variable {uc:Uc} {w0 w:World} {R:List Item} {b u m N:Nat} {f:Plc->Int} {lv key e ro:Int} {vs:Bool} {L:Lm}
theorem rlane_0 (hpc:L.pc=0) (hL:LmOk L) (hlv:0<=lv/\lv<=1000000) (he:0<=e/\e<=9223372036854775807) (hu:∀ x,InU (f x)) (hN:N<=1000000) (h:RLn uc w0 R b u m lv key vs L e ro f N w) :
  Calls Tryz.prog 149 #[.pointer (some ⟨b,0,none⟩),.pointer (some ⟨u,0,none⟩),.pointer (some ⟨m,0,none⟩)] w fun o w'=>o=.returned (.int .i64 (laneM lv key vs e L f).1)/\RLn uc w0 R b u m lv key vs (laneM lv key vs e L f).2.1 e (rollM e L f ro) (laneM lv key vs e L f).2.2 (N+1) w':=by
 obtain ⟨F,ml,rfl,hl,hE⟩:=h
 have hE0:Env w0 (boxI b (rlC lv key vs L.p.1 L.p.2.1 L.p.2.2 0 L.W L.X L.K L.V L.C L.fd)::boxI u (ruC uc e ro)::refI m F ml::R) w:=by
  have h9:=hE
  unfold rlV at h9
  rw [hpc] at h9
  exact h9
 clear hE
 have hM:laneM lv key vs e L (getL ml)=(0,{ L with W:=getL ml L.p,pc:=2 },getL ml):=by simp [laneM,hpc]
 have hr:rollM e L (getL ml) ro=ro:=by simp [rollM,hpc,isVal]
 rw [hM,hr]
 refine (rst0 (getL ml L.p) rfl (by omega) hE0).mono ?_
 rintro o w1 ⟨rfl,hE1⟩
 exact ⟨rfl,F,ml,rfl,by omega,hE1⟩
theorem rlane_3 (hpc:L.pc=3) (hL:LmOk L) (hlv:0<=lv/\lv<=1000000) (he:0<=e/\e<=9223372036854775807) (hu:∀ x,InU (f x)) (hN:N<=1000000) (h:RLn uc w0 R b u m lv key vs L e ro f N w) :
  Calls Tryz.prog 149 #[.pointer (some ⟨b,0,none⟩),.pointer (some ⟨u,0,none⟩),.pointer (some ⟨m,0,none⟩)] w fun o w'=>o=.returned (.int .i64 (laneM lv key vs e L f).1)/\RLn uc w0 R b u m lv key vs (laneM lv key vs e L f).2.1 e (rollM e L f ro) (laneM lv key vs e L f).2.2 (N+1) w':=by
 obtain ⟨F,ml,rfl,hl,hE⟩:=h
 have hE0:Env w0 (boxI b (rlC lv key vs L.p.1 L.p.2.1 L.p.2.2 3 L.W L.X L.K L.V L.C L.fd)::boxI u (ruC uc e ro)::refI m F ml::R) w:=by
  have h9:=hE
  unfold rlV at h9
  rw [hpc] at h9
  exact h9
 clear hE
 have hM:laneM lv key vs e L (getL ml)=(0,{ L with X:=getL ml (5,L.C,7+lv),pc:=4 },getL ml):=by simp [laneM,hpc]
 have hr:rollM e L (getL ml) ro=ro:=by simp [rollM,hpc,isVal]
 rw [hM,hr]
 refine (rst3 hlv (getL ml (5,L.C,7+lv)) rfl (by omega) hE0).mono ?_
 rintro o w1 ⟨rfl,hE1⟩
 exact ⟨rfl,F,ml,rfl,by omega,hE1⟩
theorem rlane_6 (hpc:L.pc=6) (hL:LmOk L) (hlv:0<=lv/\lv<=1000000) (he:0<=e/\e<=9223372036854775807) (hu:∀ x,InU (f x)) (hN:N<=1000000) (h:RLn uc w0 R b u m lv key vs L e ro f N w) :
  Calls Tryz.prog 149 #[.pointer (some ⟨b,0,none⟩),.pointer (some ⟨u,0,none⟩),.pointer (some ⟨m,0,none⟩)] w fun o w'=>o=.returned (.int .i64 (laneM lv key vs e L f).1)/\RLn uc w0 R b u m lv key vs (laneM lv key vs e L f).2.1 e (rollM e L f ro) (laneM lv key vs e L f).2.2 (N+1) w':=by
 obtain ⟨F,ml,rfl,hl,hE⟩:=h
 have hE0:Env w0 (boxI b (rlC lv key vs L.p.1 L.p.2.1 L.p.2.2 6 L.W L.X L.K L.V L.C L.fd)::boxI u (ruC uc e ro)::refI m F ml::R) w:=by
  have h9:=hE
  unfold rlV at h9
  rw [hpc] at h9
  exact h9
 clear hE
 have hM:laneM lv key vs e L (getL ml)=(0,{ L with K:=getL ml (5,L.C,3),pc:=7 },getL ml):=by simp [laneM,hpc]
 have hr:rollM e L (getL ml) ro=ro:=by simp [rollM,hpc,isVal]
 rw [hM,hr]
 refine (rst6 (getL ml (5,L.C,3)) rfl (by omega) hE0).mono ?_
 rintro o w1 ⟨rfl,hE1⟩
 exact ⟨rfl,F,ml,rfl,by omega,hE1⟩
theorem rlane_8 (hpc:L.pc=8) (hL:LmOk L) (hlv:0<=lv/\lv<=1000000) (he:0<=e/\e<=9223372036854775807) (hu:∀ x,InU (f x)) (hN:N<=1000000) (h:RLn uc w0 R b u m lv key vs L e ro f N w) :
  Calls Tryz.prog 149 #[.pointer (some ⟨b,0,none⟩),.pointer (some ⟨u,0,none⟩),.pointer (some ⟨m,0,none⟩)] w fun o w'=>o=.returned (.int .i64 (laneM lv key vs e L f).1)/\RLn uc w0 R b u m lv key vs (laneM lv key vs e L f).2.1 e (rollM e L f ro) (laneM lv key vs e L f).2.2 (N+1) w':=by
 obtain ⟨F,ml,rfl,hl,hE⟩:=h
 have hE0:Env w0 (boxI b (rlC lv key vs L.p.1 L.p.2.1 L.p.2.2 8 L.W L.X L.K L.V L.C L.fd)::boxI u (ruC uc e ro)::refI m F ml::R) w:=by
  have h9:=hE
  unfold rlV at h9
  rw [hpc] at h9
  exact h9
 clear hE
 have hM:laneM lv key vs e L (getL ml)=(0,{ L with V:=getL ml (5,L.C,4),pc:=9 },getL ml):=by simp [laneM,hpc]
 have hr:rollM e L (getL ml) ro=ro:=by simp [rollM,hpc,isVal]
 rw [hM,hr]
 refine (rst8 (getL ml (5,L.C,4)) rfl (by omega) hE0).mono ?_
 rintro o w1 ⟨rfl,hE1⟩
 exact ⟨rfl,F,ml,rfl,by omega,hE1⟩
theorem swL_len (l:List OneR) (x:Plc) (o v:Int):(swL l x o v).length<=l.length+1:=by
 unfold swL
 split
 ·exact setL_length _ _ _
 ·omega
theorem rlane_5 (hpc:L.pc=5) (hL:LmOk L) (hlv:0<=lv/\lv<=1000000) (he:0<=e/\e<=9223372036854775807) (hu:∀ x,InU (f x)) (hN:N<=1000000) (h:RLn uc w0 R b u m lv key vs L e ro f N w) :
  Calls Tryz.prog 149 #[.pointer (some ⟨b,0,none⟩),.pointer (some ⟨u,0,none⟩),.pointer (some ⟨m,0,none⟩)] w fun o w'=>o=.returned (.int .i64 (laneM lv key vs e L f).1)/\RLn uc w0 R b u m lv key vs (laneM lv key vs e L f).2.1 e (rollM e L f ro) (laneM lv key vs e L f).2.2 (N+1) w':=by
 obtain ⟨F,ml,rfl,hl,hE⟩:=h
 have hE0:Env w0 (boxI b (rlC lv key vs L.p.1 L.p.2.1 L.p.2.2 5 L.W L.X L.K L.V L.C L.fd)::boxI u (ruC uc e ro)::refI m F ml::R) w:=by
  have h9:=hE
  unfold rlV at h9
  rw [hpc] at h9
  exact h9
 clear hE
 have hr:rollM e L (getL ml) ro=ro:=by simp [rollM,hpc,isVal]
 have hsl:=swL_len ml L.p L.W (wordI false (slotI L.X) e)
 by_cases heq:getL ml L.p=L.W
 ·have hM:laneM lv key vs e L (getL ml)=(cS (wordI false (slotI L.X) e),{ L with W:=wordI false (slotI L.X) e,X:=0,C:=slotI (wordI false (slotI L.X) e),pc:=3 },swf (getL ml) L.p L.W (wordI false (slotI L.X) e)):=by simp [laneM,hpc,heq,comeM_cS]
  rw [hM,hr]
  refine (rst5y heq hL.X (by omega) hE0).mono ?_
  rintro o w1 ⟨rfl,F',hE1⟩
  exact ⟨rfl,F',_,(swf_getL _ _ _ _).symm,by omega,hE1⟩
 ·have hM:laneM lv key vs e L (getL ml)=(2,L,swf (getL ml) L.p L.W (wordI false (slotI L.X) e)):=by simp [laneM,hpc,heq]
  rw [hM,hr]
  refine (rst5n heq hL.X (by omega) hE0).mono ?_
  rintro o w1 ⟨rfl,F',hE1⟩
  refine ⟨rfl,F',_,(swf_getL _ _ _ _).symm,by omega,?_⟩
  unfold rlV
  rw [hpc]
  exact hE1
theorem rlane_2 (hpc:L.pc=2) (hL:LmOk L) (hlv:0<=lv/\lv<=1000000) (he:0<=e/\e<=9223372036854775807) (hu:∀ x,InU (f x)) (hN:N<=1000000) (h:RLn uc w0 R b u m lv key vs L e ro f N w) :
  Calls Tryz.prog 149 #[.pointer (some ⟨b,0,none⟩),.pointer (some ⟨u,0,none⟩),.pointer (some ⟨m,0,none⟩)] w fun o w'=>o=.returned (.int .i64 (laneM lv key vs e L f).1)/\RLn uc w0 R b u m lv key vs (laneM lv key vs e L f).2.1 e (rollM e L f ro) (laneM lv key vs e L f).2.2 (N+1) w':=by
 obtain ⟨F,ml,rfl,hl,hE⟩:=h
 have hE0:Env w0 (boxI b (rlC lv key vs L.p.1 L.p.2.1 L.p.2.2 2 L.W L.X L.K L.V L.C L.fd)::boxI u (ruC uc e ro)::refI m F ml::R) w:=by
  have h9:=hE
  unfold rlV at h9
  rw [hpc] at h9
  exact h9
 clear hE
 by_cases hok:okB (getL ml (1,0,0)) e=true
 ·have hr:rollM e L (getL ml) ro=ro:=by simp [rollM,hok]
  rw [hr]
  by_cases hmk:markB L.W=true
  ·skip
   have hM:laneM lv key vs e L (getL ml)=(2,L,getL ml):=by simp [laneM,holdsM,hpc,hok,comeM_cS,hmk]
   rw [hM]
   refine rvy2 hok (hu _) he (by omega) _ _ hE0 fun v hv=>?_
   refine (holds2a_r hmk hL.W hv).mono ?_
   rintro o w1 ⟨rfl,hE1⟩
   refine ⟨rfl,F,ml,rfl,by omega,?_⟩
   unfold rlV
   rw [hpc]
   exact hE1
  ·have hmk:markB L.W=false:=by simpa using hmk
   have hM:laneM lv key vs e L (getL ml)=(cS L.W,{ L with W:=L.W,X:=0,C:=slotI L.W,pc:=3 },getL ml):=by simp [laneM,holdsM,hpc,hok,comeM_cS,hmk]
   rw [hM]
   refine rvy2 hok (hu _) he (by omega) _ _ hE0 fun v hv=>?_
   refine (holds2b_r hmk hL.W hv).mono ?_
   rintro o w1 ⟨rfl,hE1⟩
   exact ⟨rfl,F,ml,rfl,by omega,hE1⟩
 ·have hok:okB (getL ml (1,0,0)) e=false:=by simpa using hok
  have hr:rollM e L (getL ml) ro=wrap64 (ro+1):=by simp [rollM,hpc,isVal,hok]
  have hM:laneM lv key vs e L (getL ml)=(2,L,getL ml):=by simp [laneM,hpc,hok]
  rw [hM,hr]
  refine (rvn2 hok (hu _) he (by omega) hE0).mono ?_
  rintro o w1 ⟨rfl,hE1⟩
  refine ⟨rfl,F,ml,rfl,by omega,?_⟩
  unfold rlV
  rw [hpc]
  exact hE1
theorem rlane_4 (hpc:L.pc=4) (hL:LmOk L) (hlv:0<=lv/\lv<=1000000) (he:0<=e/\e<=9223372036854775807) (hu:∀ x,InU (f x)) (hN:N<=1000000) (h:RLn uc w0 R b u m lv key vs L e ro f N w) :
  Calls Tryz.prog 149 #[.pointer (some ⟨b,0,none⟩),.pointer (some ⟨u,0,none⟩),.pointer (some ⟨m,0,none⟩)] w fun o w'=>o=.returned (.int .i64 (laneM lv key vs e L f).1)/\RLn uc w0 R b u m lv key vs (laneM lv key vs e L f).2.1 e (rollM e L f ro) (laneM lv key vs e L f).2.2 (N+1) w':=by
 obtain ⟨F,ml,rfl,hl,hE⟩:=h
 have hE0:Env w0 (boxI b (rlC lv key vs L.p.1 L.p.2.1 L.p.2.2 4 L.W L.X L.K L.V L.C L.fd)::boxI u (ruC uc e ro)::refI m F ml::R) w:=by
  have h9:=hE
  unfold rlV at h9
  rw [hpc] at h9
  exact h9
 clear hE
 by_cases hok:okB (getL ml (1,0,0)) e=true
 ·have hr:rollM e L (getL ml) ro=ro:=by simp [rollM,hok]
  rw [hr]
  have hM:laneM lv key vs e L (getL ml)=(0,{ L with pc:=if markB L.X then 5 else 6 },getL ml):=by simp [laneM,holdsM,hpc,hok,comeM_cS]
  rw [hM]
  refine rvy4 hok (hu _) he (by omega) _ _ hE0 fun v hv=>?_
  refine (holds4_r hL.X hv).mono ?_
  rintro o w1 ⟨rfl,hE1⟩
  refine ⟨rfl,F,ml,rfl,by omega,?_⟩
  cases hmk:markB L.X
  ·rw [hmk] at hE1
   exact hE1
  ·rw [hmk] at hE1
   exact hE1
 ·have hok:okB (getL ml (1,0,0)) e=false:=by simpa using hok
  have hr:rollM e L (getL ml) ro=wrap64 (ro+1):=by simp [rollM,hpc,isVal,hok]
  have hM:laneM lv key vs e L (getL ml)=(2,L,getL ml):=by simp [laneM,hpc,hok]
  rw [hM,hr]
  refine (rvn4 hok (hu _) he (by omega) hE0).mono ?_
  rintro o w1 ⟨rfl,hE1⟩
  refine ⟨rfl,F,ml,rfl,by omega,?_⟩
  unfold rlV
  rw [hpc]
  exact hE1
theorem rlane_7 (hpc:L.pc=7) (hL:LmOk L) (hlv:0<=lv/\lv<=1000000) (he:0<=e/\e<=9223372036854775807) (hu:∀ x,InU (f x)) (hN:N<=1000000) (h:RLn uc w0 R b u m lv key vs L e ro f N w) :
  Calls Tryz.prog 149 #[.pointer (some ⟨b,0,none⟩),.pointer (some ⟨u,0,none⟩),.pointer (some ⟨m,0,none⟩)] w fun o w'=>o=.returned (.int .i64 (laneM lv key vs e L f).1)/\RLn uc w0 R b u m lv key vs (laneM lv key vs e L f).2.1 e (rollM e L f ro) (laneM lv key vs e L f).2.2 (N+1) w':=by
 obtain ⟨F,ml,rfl,hl,hE⟩:=h
 have hE0:Env w0 (boxI b (rlC lv key vs L.p.1 L.p.2.1 L.p.2.2 7 L.W L.X L.K L.V L.C L.fd)::boxI u (ruC uc e ro)::refI m F ml::R) w:=by
  have h9:=hE
  unfold rlV at h9
  rw [hpc] at h9
  exact h9
 clear hE
 by_cases hok:okB (getL ml (1,0,0)) e=true
 ·have hr:rollM e L (getL ml) ro=ro:=by simp [rollM,hok]
  rw [hr]
  by_cases hlt:L.K < key
  ·skip
   have hM:laneM lv key vs e L (getL ml)=(cS L.X,{ L with p:=(5,L.C,7+lv),W:=L.X,X:=0,C:=slotI L.X,pc:=3 },getL ml):=by simp [laneM,holdsM,hpc,hok,comeM_cS,hlt]
   rw [hM]
   refine rvy7 hok (hu _) he (by omega) _ _ hE0 fun v hv=>?_
   refine (holds7a_r hlt hlv hL.X hv).mono ?_
   rintro o w1 ⟨rfl,hE1⟩
   exact ⟨rfl,F,ml,rfl,by omega,hE1⟩
  ·by_cases heq:L.K=key
   ·cases vs
    ·skip
     have hM:laneM lv key false e L (getL ml)=(1,{ L with fd:=true },getL ml):=by simp [laneM,holdsM,hpc,hok,comeM_cS,heq]
     rw [hM]
     refine rvy7 hok (hu _) he (by omega) _ _ hE0 fun v hv=>?_
     refine (holds7b_r heq hv).mono ?_
     rintro o w1 ⟨rfl,hE1⟩
     refine ⟨rfl,F,ml,rfl,by omega,?_⟩
     unfold rlV
     dsimp only
     rw [hpc]
     exact hE1
    ·skip
     have hM:laneM lv key true e L (getL ml)=(0,{ L with fd:=true,pc:=8 },getL ml):=by simp [laneM,holdsM,hpc,hok,comeM_cS,heq]
     rw [hM]
     refine rvy7 hok (hu _) he (by omega) _ _ hE0 fun v hv=>?_
     refine (holds7c_r heq hv).mono ?_
     rintro o w1 ⟨rfl,hE1⟩
     exact ⟨rfl,F,ml,rfl,by omega,hE1⟩
   ·skip
    have hM:laneM lv key vs e L (getL ml)=(1,L,getL ml):=by simp [laneM,holdsM,hpc,hok,comeM_cS,hlt,heq]
    rw [hM]
    refine rvy7 hok (hu _) he (by omega) _ _ hE0 fun v hv=>?_
    refine (holds7d_r (by omega) hv).mono ?_
    rintro o w1 ⟨rfl,hE1⟩
    refine ⟨rfl,F,ml,rfl,by omega,?_⟩
    unfold rlV
    rw [hpc]
    exact hE1
 ·have hok:okB (getL ml (1,0,0)) e=false:=by simpa using hok
  have hr:rollM e L (getL ml) ro=wrap64 (ro+1):=by simp [rollM,hpc,isVal,hok]
  have hM:laneM lv key vs e L (getL ml)=(2,L,getL ml):=by simp [laneM,hpc,hok]
  rw [hM,hr]
  refine (rvn7 hok (hu _) he (by omega) hE0).mono ?_
  rintro o w1 ⟨rfl,hE1⟩
  refine ⟨rfl,F,ml,rfl,by omega,?_⟩
  unfold rlV
  rw [hpc]
  exact hE1
theorem rlane_9 (hpc:L.pc=9) (hL:LmOk L) (hlv:0<=lv/\lv<=1000000) (he:0<=e/\e<=9223372036854775807) (hu:∀ x,InU (f x)) (hN:N<=1000000) (h:RLn uc w0 R b u m lv key vs L e ro f N w) :
  Calls Tryz.prog 149 #[.pointer (some ⟨b,0,none⟩),.pointer (some ⟨u,0,none⟩),.pointer (some ⟨m,0,none⟩)] w fun o w'=>o=.returned (.int .i64 (laneM lv key vs e L f).1)/\RLn uc w0 R b u m lv key vs (laneM lv key vs e L f).2.1 e (rollM e L f ro) (laneM lv key vs e L f).2.2 (N+1) w':=by
 obtain ⟨F,ml,rfl,hl,hE⟩:=h
 have hE0:Env w0 (boxI b (rlC lv key vs L.p.1 L.p.2.1 L.p.2.2 9 L.W L.X L.K L.V L.C L.fd)::boxI u (ruC uc e ro)::refI m F ml::R) w:=by
  have h9:=hE
  unfold rlV at h9
  rw [hpc] at h9
  exact h9
 clear hE
 by_cases hok:okB (getL ml (1,0,0)) e=true
 ·have hr:rollM e L (getL ml) ro=ro:=by simp [rollM,hok]
  rw [hr]
  have hM:laneM lv key vs e L (getL ml)=(1,L,getL ml):=by simp [laneM,holdsM,hpc,hok,comeM_cS]
  rw [hM]
  refine rvy9 hok (hu _) he (by omega) _ _ hE0 fun v hv=>?_
  refine (holds9_r hv).mono ?_
  rintro o w1 ⟨rfl,hE1⟩
  refine ⟨rfl,F,ml,rfl,by omega,?_⟩
  unfold rlV
  rw [hpc]
  exact hE1
 ·have hok:okB (getL ml (1,0,0)) e=false:=by simpa using hok
  have hr:rollM e L (getL ml) ro=wrap64 (ro+1):=by simp [rollM,hpc,isVal,hok]
  have hM:laneM lv key vs e L (getL ml)=(2,L,getL ml):=by simp [laneM,hpc,hok]
  rw [hM,hr]
  refine (rvn9 hok (hu _) he (by omega) hE0).mono ?_
  rintro o w1 ⟨rfl,hE1⟩
  refine ⟨rfl,F,ml,rfl,by omega,?_⟩
  unfold rlV
  rw [hpc]
  exact hE1
theorem rlane (hL:LmOk L) (hlv:0<=lv/\lv<=1000000) (he:0<=e/\e<=9223372036854775807) (hu:∀ x,InU (f x)) (hN:N<=1000000) (h:RLn uc w0 R b u m lv key vs L e ro f N w) :
  Calls Tryz.prog 149 #[.pointer (some ⟨b,0,none⟩),.pointer (some ⟨u,0,none⟩),.pointer (some ⟨m,0,none⟩)] w fun o w'=>o=.returned (.int .i64 (laneM lv key vs e L f).1)/\RLn uc w0 R b u m lv key vs (laneM lv key vs e L f).2.1 e (rollM e L f ro) (laneM lv key vs e L f).2.2 (N+1) w':=by
 rcases hL.pc with h0 | h0 | h0 | h0 | h0 | h0 | h0 | h0 | h0
 ·exact rlane_0 h0 hL hlv he hu hN h
 ·exact rlane_2 h0 hL hlv he hu hN h
 ·exact rlane_3 h0 hL hlv he hu hN h
 ·exact rlane_4 h0 hL hlv he hu hN h
 ·exact rlane_5 h0 hL hlv he hu hN h
 ·exact rlane_6 h0 hL hlv he hu hN h
 ·exact rlane_7 h0 hL hlv he hu hN h
 ·exact rlane_8 h0 hL hlv he hu hN h
 ·exact rlane_9 h0 hL hlv he hu hN h
end
def St3 {α:Type} (q:Int × α):Prop:=q.1=0\/q.1=1\/q.1=2
theorem come_state (L:Lm) (v:Int):St3 (comeM L v):=by
 unfold comeM
 by_cases h:slotI v=0
 ·simp [h,St3]
 ·simp [h,St3]
theorem holds_state (lv key:Int) (vs:Bool) (L:Lm):St3 (holdsM lv key vs L):=by
 unfold holdsM
 repeat' split
 all_goals first | exact come_state _ _ | simp [St3]
theorem lane_state (lv key:Int) (vs:Bool) (e:Int) (L:Lm) (f:Plc->Int):(laneM lv key vs e L f).1=0\/(laneM lv key vs e L f).1=1\/(laneM lv key vs e L f).1=2:=by
 show St3 (laneM lv key vs e L f)
 unfold laneM
 repeat' split
 all_goals first | exact come_state L (wordI false (slotI L.X) e) | exact holds_state lv key vs L | simp [St3]
theorem LmOk.come {L:Lm} (hL:LmOk L) (h7:L.pc<=7) (v:Int) (hv:InU v):LmOk { L with W:=v,X:=0,C:=slotI v,pc:=3 } :=
 ⟨by simp,fun _=>hL.v (by omega),fun _=>hL.fd h7,fun h=>absurd h (by simp),fun _=>rfl,fun h=>absurd h (by simp),hv,by simp [InU],slotI_in v⟩
theorem lane_ok {lv key:Int} {vs:Bool} {e:Int} {L:Lm} {f:Plc->Int} (hL:LmOk L) (hW:∀ x,InU (f x)) (hp:Wf L.p) (hlv:0<=lv/\lv<=1000000) (h0:(laneM lv key vs e L f).1=0):LmOk (laneM lv key vs e L f).2.1/\Wf (laneM lv key vs e L f).2.1.p:=by
 have hpc9:L.pc<=9:=by rcases hL.pc with h | h | h | h | h | h | h | h | h<;>omega
 rcases hL.pc with hpc | hpc | hpc | hpc | hpc | hpc | hpc | hpc | hpc
 ·have hM:laneM lv key vs e L f=(0,{ L with W:=f L.p,pc:=2 },f):=by simp [laneM,hpc]
  rw [hM]
  exact ⟨⟨by simp,fun _=>hL.v (by omega),fun _=>hL.fd (by omega),fun h=>absurd h (by simp),fun _=>hL.x (by omega),fun _=>hL.c0 (by omega),hW _,hL.X,hL.C⟩,hp⟩
 ·by_cases hok:okB (f (1,0,0)) e=true
  ·by_cases hmk:markB L.W=true
   ·have hM:laneM lv key vs e L f=(2,L,f):=by simp [laneM,holdsM,hpc,hok,hmk]
    rw [hM] at h0
    exact absurd h0 (by simp)
   ·have hM:laneM lv key vs e L f=(cS L.W,{ L with W:=L.W,X:=0,C:=slotI L.W,pc:=3 },f):=by simp [laneM,holdsM,hpc,hok,hmk,comeM_cS]
    rw [hM]
    exact ⟨hL.come (by omega) _ hL.W,hp⟩
  ·have hM:laneM lv key vs e L f=(2,L,f):=by simp [laneM,hpc,hok]
   rw [hM] at h0
   exact absurd h0 (by simp)
 ·have hM:laneM lv key vs e L f=(0,{ L with X:=f (5,L.C,7+lv),pc:=4 },f):=by simp [laneM,hpc]
  rw [hM]
  exact ⟨⟨by simp,fun _=>hL.v (by omega),fun _=>hL.fd (by omega),fun h=>absurd h (by simp),fun h=>absurd h (by simp),fun h=>absurd h (by simp),hL.W,hW _,hL.C⟩,hp⟩
 ·by_cases hok:okB (f (1,0,0)) e=true
  ·have hM:laneM lv key vs e L f=(0,{ L with pc:=if markB L.X then 5 else 6 },f):=by simp [laneM,holdsM,hpc,hok]
   rw [hM]
   cases markB L.X
   ·exact ⟨⟨by simp,fun _=>hL.v (by omega),fun _=>hL.fd (by omega),fun h=>absurd h (by simp),fun h=>absurd h (by simp),fun h=>absurd h (by simp),hL.W,hL.X,hL.C⟩,hp⟩
   ·exact ⟨⟨by simp,fun _=>hL.v (by omega),fun _=>hL.fd (by omega),fun h=>absurd h (by simp),fun h=>absurd h (by simp),fun h=>absurd h (by simp),hL.W,hL.X,hL.C⟩,hp⟩
  ·have hM:laneM lv key vs e L f=(2,L,f):=by simp [laneM,hpc,hok]
   rw [hM] at h0
   exact absurd h0 (by simp)
 ·by_cases heq:f L.p=L.W
  ·have hM:laneM lv key vs e L f=(cS (wordI false (slotI L.X) e),{ L with W:=wordI false (slotI L.X) e,X:=0,C:=slotI (wordI false (slotI L.X) e),pc:=3 },swf f L.p L.W (wordI false (slotI L.X) e)):=by simp [laneM,hpc,heq,comeM_cS]
   rw [hM]
   exact ⟨hL.come (by omega) _ (wordI_in _ _ _),hp⟩
  ·have hM:laneM lv key vs e L f=(2,L,swf f L.p L.W (wordI false (slotI L.X) e)):=by simp [laneM,hpc,heq]
   rw [hM] at h0
   exact absurd h0 (by simp)
 ·have hM:laneM lv key vs e L f=(0,{ L with K:=f (5,L.C,3),pc:=7 },f):=by simp [laneM,hpc]
  rw [hM]
  exact ⟨⟨by simp,fun _=>hL.v (by omega),fun _=>hL.fd (by omega),fun h=>absurd h (by simp),fun h=>absurd h (by simp),fun h=>absurd h (by simp),hL.W,hL.X,hL.C⟩,hp⟩
 ·by_cases hok:okB (f (1,0,0)) e=true
  ·by_cases hlt:L.K < key
   ·have hM:laneM lv key vs e L f=(cS L.X,{ L with p:=(5,L.C,7+lv),W:=L.X,X:=0,C:=slotI L.X,pc:=3 },f):=by simp [laneM,holdsM,hpc,hok,hlt,comeM_cS]
    rw [hM]
    have hLp:LmOk { L with p:=(5,L.C,7+lv) }:=⟨hL.pc,hL.v,hL.fd,hL.ft,hL.x,hL.c0,hL.W,hL.X,hL.C⟩
    exact ⟨hLp.come (by show L.pc<=7; omega) _ hL.X,wf_part hL.C (by omega)⟩
   ·by_cases heq:L.K=key
    ·cases vs
     ·have hM:laneM lv key false e L f=(1,{ L with fd:=true },f):=by simp [laneM,holdsM,hpc,hok,heq]
      rw [hM] at h0
      exact absurd h0 (by simp)
     ·have hM:laneM lv key true e L f=(0,{ L with fd:=true,pc:=8 },f):=by simp [laneM,holdsM,hpc,hok,heq]
      rw [hM]
      exact ⟨⟨by simp,fun _=>hL.v (by omega),fun h=>absurd h (by simp),fun _=>rfl,fun h=>absurd h (by simp),fun h=>absurd h (by simp),hL.W,hL.X,hL.C⟩,hp⟩
    ·have hM:laneM lv key vs e L f=(1,L,f):=by simp [laneM,holdsM,hpc,hok,hlt,heq]
     rw [hM] at h0
     exact absurd h0 (by simp)
  ·have hM:laneM lv key vs e L f=(2,L,f):=by simp [laneM,hpc,hok]
   rw [hM] at h0
   exact absurd h0 (by simp)
 ·have hM:laneM lv key vs e L f=(0,{ L with V:=f (5,L.C,4),pc:=9 },f):=by simp [laneM,hpc]
  rw [hM]
  exact ⟨⟨by simp,fun h=>absurd h (by simp),fun h=>absurd h (by simp),fun _=>hL.ft (by omega),fun h=>absurd h (by simp),fun h=>absurd h (by simp),hL.W,hL.X,hL.C⟩,hp⟩
 ·by_cases hok:okB (f (1,0,0)) e=true
  ·have hM:laneM lv key vs e L f=(1,L,f):=by simp [laneM,holdsM,hpc,hok]
   rw [hM] at h0
   exact absurd h0 (by simp)
  ·have hM:laneM lv key vs e L f=(2,L,f):=by simp [laneM,hpc,hok]
   rw [hM] at h0
   exact absurd h0 (by simp)
def SmOk (T:Sm):Prop:=T.on=true->LmOk T.L/\Wf T.L.p
def SrchR (w0:World) (R:List Item) (sb:Nat) (k key:Int) (vs:Bool) (S:ST) (s:Int) (T:Sm) (w:World):Prop :=
 S.ce=T.e/\S.cr=T.r/\((T.on=false/\s=0/\(Env w0 (boxI sb (srC S.c k key vs (.pointer none))::LT S R) w\/∃ a L,LaneR w0 (boxI sb (srC S.c k key vs (.pointer (some ⟨a,0,none⟩)))::R) a 0 key vs S 2 L w))\/(T.on=true/\∃ a,LaneR w0 (boxI sb (srC S.c k key vs (.pointer (some ⟨a,0,none⟩)))::R) a 0 key vs S s T.L w))
def searchS (key:Int) (vs:Bool) (S:ST) (T:Sm) (G:Nat->Prop):ST:=if T.on then laneS 0 key vs S T.L G else { S with ce:=epI (S.f (1,0,0)),qc:={ S.qc with l:=wrap64 (S.qc.l+1) } }
section
variable {w0 w:World} {R:List Item} {sb:Nat} {S:ST} {k key:Int} {vs:Bool} {T:Sm} {lp:Value}
theorem Env.sfront {x:Item} (h:Env w0 (LT S (x::R)) w):Env w0 (x::LT S R) w:=h.perm (List.perm_middle (l₁:=[_,_,_,_]))
theorem check_r (hoff:T.on=false) (he:S.ce=T.e) (hr:S.cr=T.r) (hE:Env w0 (boxI sb (srC S.c k key vs lp)::LT S R) w) :
  Calls Tryz.prog 166 #[.pointer (some ⟨sb,0,none⟩),.iface 26 (.pointer (some ⟨S.p,0,none⟩))] w fun o w'=>o=.returned (.int .i64 (searchM k key vs T S.f).1)/\∃ G',SrchR w0 R sb k key vs (searchS key vs S T G') (searchM k key vs T S.f).1 (searchM k key vs T S.f).2.1 w':=by
 have hM:searchM k key vs T S.f=(0,{ on:=true,L:=L0 (4,0,k),e:=epI (S.f (1,0,0)),r:=T.r },S.f):=by unfold searchM; rw [hoff]; rfl
 have hS:∀ G,searchS key vs S T G={ S with ce:=epI (S.f (1,0,0)),qc:={ S.qc with l:=wrap64 (S.qc.l+1) } }:=fun G=>by unfold searchS; rw [hoff]; rfl
 refine (check_s hE).mono ?_
 rintro o w1 ⟨rfl,a,hE1⟩
 rw [hM]
 refine ⟨rfl,S.G,?_⟩
 rw [hS]
 refine ⟨rfl,hr,.inr ⟨rfl,a,mvL (fnL 0) a,0,noI,noI,fun _=>⟨⟨fun _=>rfl,fun h=>absurd h (by simp [L0,isVal])⟩,fun h=>absurd h (by simp [L0]),fun h=>absurd h (by simp [L0])⟩,?_⟩⟩
 have hE2:=hE1.perm (L':=boxI a (laneC S.c 0 key vs (mvL (fnL 0) a) 0 4 0 k 0 0 0 0 false 0)::LT { S with ce:=epI (S.f (1,0,0)),qc:={ S.qc with l:=wrap64 (S.qc.l+1) } } (boxI sb (srC S.c k key vs (.pointer (some ⟨a,0,none⟩)))::R)) (List.Perm.cons _ (List.perm_middle (l₁:=[_,_,_,_])).symm)
 exact hE2.none2
theorem search_l (hT:SmOk T) (hg:Glo w0) (hm:S.m < maxLen) (h:SrchR w0 R sb k key vs S 0 T w) :
  Calls Tryz.prog 118 #[.pointer (some ⟨sb,0,none⟩),.iface 26 (.pointer (some ⟨S.p,0,none⟩))] w fun o w'=>o=.returned (.int .i64 (searchM k key vs T S.f).1)/\∃ G',SrchR w0 R sb k key vs (searchS key vs S T G') (searchM k key vs T S.f).1 (searchM k key vs T S.f).2.1 w':=by
 obtain ⟨he,hr,⟨hoff,-,hE | ⟨a,L,nx,wd,B1,B2,-,hE⟩⟩ | ⟨hon,a,hR⟩⟩:=h
 ·have HC:=Lib.hid (check_r hoff he hr hE)
  have r:=hE.rule 0 rfl
  unfold srC at r
  clear hE
  go_enter Tryz.func118,Tryz.ntmps118
  go_wp2_with fail
  refine HC.out.mono ?_
  rintro o w1 ⟨rfl,hP⟩
  go_wp2_with fail
  go_ret
  exact ⟨rfl,hP⟩
 ·have hE1:Env w0 (boxI sb (srC S.c k key vs (.pointer (some ⟨a,0,none⟩)))::LT S R) w:=(hE.sub (.cons _ (.cons _ (.cons _ (List.Sublist.refl _))))).sfront
  have HC:=Lib.hid (check_r hoff he hr hE1)
  have r:=hE1.rule 0 rfl
  unfold srC at r
  have ra:=hE.rule 0 rfl
  have RA:=Lib.hid ra
  unfold laneV laneC at ra
  clear hE hE1
  go_enter Tryz.func118,Tryz.ntmps118
  go_wp2_with fail
  refine (state_r (o:=4) (s:=2) (show w.cell? ⟨a,5,none⟩=some (.int .i64 2) from RA.out 5)).mono ?_
  rintro o w0' ⟨rfl,rfl⟩
  go_wp2_with fail
  refine HC.out.mono ?_
  rintro o w1 ⟨rfl,hP⟩
  go_wp2_with fail
  go_ret
  exact ⟨rfl,hP⟩
 ·obtain ⟨hL,hp⟩:=hT hon
  have hst:=lane_l hL (show (0:Int)<=0/\(0:Int)<=1000000 by omega) hp hg hm hR
  have hM:searchM k key vs T S.f=(if (laneM 0 key vs T.e T.L S.f).1=1 then 1 else 0,{ on:=decide ((laneM 0 key vs T.e T.L S.f).1≠2),L:=(laneM 0 key vs T.e T.L S.f).2.1,e:=T.e,r:=rollM T.e T.L S.f T.r },(laneM 0 key vs T.e T.L S.f).2.2):=by unfold searchM; rw [if_pos hon]
  have hS:∀ G,searchS key vs S T G=laneS 0 key vs S T.L G:=fun G=>by unfold searchS; rw [if_pos hon]
  have hsl:=lane_state 0 key vs S.ce T.L S.f
  obtain ⟨nx,wd,B1,B2,-,hE⟩:=hR
  have r:∀ i,w.cell? ⟨sb,i,none⟩=_:=hE.rule 7 rfl
  unfold srC at r
  have ra:=hE.rule 0 rfl
  have RA:=Lib.hid ra
  unfold laneV laneC at ra
  clear hE
  rw [hM]
  simp only [hS]
  rw [<- he,<- hr]
  clear he hr
  have hce:∀ G,(laneS 0 key vs S T.L G).ce=S.ce/\(laneS 0 key vs S T.L G).cr=rollM S.ce T.L S.f S.cr/\(laneS 0 key vs S T.L G).c=S.c:=fun G=>⟨rfl,rfl,rfl⟩
  generalize hq:laneM 0 key vs S.ce T.L S.f=q at *
  obtain ⟨q1,q2,q3⟩:=q
  have HST:=Lib.hid hst
  have HSL:=Lib.hid hsl
  have HCE:=Lib.hid hce
  clear hst hsl hq hM hS hce
  go_enter Tryz.func118,Tryz.ntmps118
  go_wp2_with fail
  refine (state_r (o:=4) (s:=0) (show w.cell? ⟨a,5,none⟩=some (.int .i64 0) from RA.out 5)).mono ?_
  rintro o w0' ⟨rfl,rfl⟩
  go_wp2_with fail
  refine HST.out.mono ?_
  rintro o w1 ⟨rfl,G',hR'⟩
  have HR':=Lib.hid hR'
  clear hR' HST r ra
  rcases HSL.out with h1 | h1 | h1
  ·have h1':q1=0:=h1
   subst h1'
   go_wp2_with fail
   go_ret
   refine ⟨rfl,G',(HCE.out G').1,(HCE.out G').2.1,.inr ⟨rfl,a,?_⟩⟩
   exact HR'.out
  ·have h1':q1=1:=h1
   subst h1'
   go_wp2_with fail
   go_ret
   refine ⟨rfl,G',(HCE.out G').1,(HCE.out G').2.1,.inr ⟨rfl,a,?_⟩⟩
   exact HR'.out
  ·have h1':q1=2:=h1
   subst h1'
   go_wp2_with fail
   go_ret
   refine ⟨rfl,G',(HCE.out G').1,(HCE.out G').2.1,.inl ⟨rfl,rfl,.inr ⟨a,q2,?_⟩⟩⟩
   exact HR'.out
end
def rsC (k key:Int) (vs on:Bool) (lp:Option Addr):List Value:=[.int .i64 k,.int .u64 key,.bool vs,.bool on,.pointer lp]
def RSr (uc:Uc) (w0:World) (R:List Item) (qb u m:Nat) (k key:Int) (vs:Bool) (T:Sm) (f:Plc->Int) (N:Nat) (w:World):Prop :=
 (T.on=false/\∃ lp F ml,getL ml=f/\ml.length<=N/\Env w0 (boxI qb (rsC k key vs false lp)::boxI u (ruC uc T.e T.r)::refI m F ml::R) w)\/(T.on=true/\∃ b,RLn uc w0 (boxI qb (rsC k key vs true (some ⟨b,0,none⟩))::R) b u m 0 key vs T.L T.e T.r f N w)
section
variable {uc:Uc} {w0 w:World} {R:List Item} {qb u m N:Nat} {F:Nat->Prop} {ml:List OneR} {f:Plc->Int} {k key e ro:Int} {vs:Bool} {T:Sm} {lp:Option Addr}
theorem rsoff (hml:ml.length<=1000000) (hu:InU (getL ml (1,0,0))) (hE:Env w0 (boxI qb (rsC k key vs false lp)::boxI u (ruC uc e ro)::refI m F ml::R) w) :
  Calls Tryz.prog 102 #[.pointer (some ⟨qb,0,none⟩),.pointer (some ⟨u,0,none⟩),.pointer (some ⟨m,0,none⟩)] w fun o w'=>o=.returned (.int .i64 0)/\∃ b,Env w0 (boxI b (rlC 0 key vs 4 0 k 0 0 0 0 0 0 false)::boxI qb (rsC k key vs true (some ⟨b,0,none⟩))::boxI u (ruC uc (epI (getL ml (1,0,0))) ro)::refI m F ml::R) w':=by
 have hc:=rcheck_w (L:=boxI qb (rsC k key vs false lp)::boxI u (ruC uc e ro)::refI m F ml::R) (k:=uc.k) (s:=uc.s) (b:=uc.b) (h:=uc.h) (l:=uc.l) (A:=uc.A) (n:=uc.n) (c:=uc.c) (N:=uc.N) (hs:=uc.hs) (r:=ro) (e:=e) _ (rfl:getL ml (1,0,0)=getL ml (1,0,0)) hu hml 1 2 hE rfl rfl
 simp only [zS,zZ] at hc
 have HC:=Lib.hid hc
 clear hc
 have r:=hE.rule 0 rfl
 unfold rsC at r
 go_enter Tryz.func102,Tryz.ntmps102
 go_wp2_with fail
 refine HC.out.mono ?_
 rintro o w1 ⟨rfl,hE1⟩
 obtain ⟨e1,he1⟩:∃ e1,epI (getL ml (1,0,0))=e1:=⟨_,rfl⟩
 replace hE1:Env w0 (boxI qb (rsC k key vs false lp)::boxI u (ruC uc (epI (getL ml (1,0,0))) ro)::refI m F ml::R) w1:=hE1
 rw [he1] at hE1
 have HE1:=Lib.hid he1
 clear HC hE r he1
 go_wp2_with fail
 refine Ord3.wp_chain [?_,?_,?_,?_,?_,?_,?_,?_,?_,?_,?_,?_,?_,?_,?_,?_,?_,?_,?_] [15,18] (fun w'=>∃ l9,Blk 0 w' qb (rsC k key vs false l9)) (Ord3.Stage fun κs=>[Env w0 (boxI qb (rsC k key vs false lp)::boxI u (ruC uc e1 ro)::refI m F ml::R),fun w'=>∃ b,κs.getD 0 undef=.pointer (some ⟨b,0,none⟩)/\Env w0 (boxI b (rlC 0 key vs 4 0 k 0 0 0 0 0 0 false)::boxI qb (rsC k key vs false lp)::boxI u (ruC uc e1 ro)::refI m F ml::R) w',fun w'=>∃ b,Env w0 (boxI b (rlC 0 key vs 4 0 k 0 0 0 0 0 0 false)::boxI qb (rsC k key vs false (some ⟨b,0,none⟩))::boxI u (ruC uc e1 ro)::refI m F ml::R) w']) (by kernel_rfl) (by kernel_rfl) (by kernel_rfl) ⟨lp,hE1.drew.get 0 rfl⟩ ⟨_,rfl,hE1.drew⟩ (fun hT=>?_)
 rotate_left 19
 have hT9:=Lib.hid hT
 clear hT
 repeat (first
  | (focus (refine Ord3.in_value (v:=?_) hT9.out (by decide) ?_ (by rfl) ?_ ?_; rotate_left 2; (focus (intro w5 hS; obtain ⟨l9,hS9⟩:=hS; have r1:=Blk.rule hS9; unfold rsC at r1; go_simp<;>with_reducible rfl)); rotate_right; (focus rfl); (try simp only [Act.put,zA,zZ,zS])))
  | (focus (refine Ord3.in_off hT9.out (by decide) ?_ (by rfl) ?_; (focus rfl); (try simp only [Act.put,zA,zZ,zS]))))
 refine Ord3.in_turn (fun u=>∃ q,u=.pointer (some ⟨q,0,none⟩)) _ ⟨0,rfl⟩ hT9.out rfl (by decide) (by rfl) ?_ (Or.inl rfl) (by rfl) ?_ ?_
 ·rfl
 ·rintro w7 hC7 ⟨P7,hP7,hA7⟩
  cases hP7
  go_simp
  simp only [Ord3.Lands]
  have hE8:=hA7.box w7.heap.size rfl (rlC 0 key vs 4 0 k 0 0 0 0 0 0 false) 239
  exact ⟨⟨_,rfl⟩,⟨lp,hE8.get 1 rfl⟩,_,rfl,w7.heap.size,rfl,hE8⟩
 rintro _ ⟨b9,rfl⟩
 (try simp only [Act.put,zA,zZ,zS])
 repeat (first
  | (focus (refine Ord3.in_value (v:=?_) hT9.out (by decide) ?_ (by rfl) ?_ ?_; rotate_left 2; (focus (intro w5 hS; obtain ⟨l9,hS9⟩:=hS; have r1:=Blk.rule hS9; unfold rsC at r1; go_simp<;>with_reducible rfl)); rotate_right; (focus rfl); (try simp only [Act.put,zA,zZ,zS])))
  | (focus (refine Ord3.in_off hT9.out (by decide) ?_ (by rfl) ?_; (focus rfl); (try simp only [Act.put,zA,zZ,zS]))))
 refine Ord3.in_turn (fun u=>u=undef) _ rfl hT9.out rfl (by decide) (by rfl) ?_ (Or.inr ⟨_,15,[],rfl,by kernel_rfl,by kernel_rfl,rfl⟩) (by rfl) ?_ ?_
 ·rfl
 ·rintro w7 hC7 ⟨P7,hP7,hA7⟩
  cases hP7
  obtain ⟨b8,he,hA7⟩:=hA7
  cases he
  have r:=hA7.rule 1 rfl
  unfold rsC at r
  have g:=hA7.thaw 1 rfl 4 (by simp [rsC])
  go_simp
  simp only [Ord3.Lands]
  have h9:=hA7.put 1 rfl (j:=4) (by simp [rsC]) (.pointer (some ⟨b9,0,none⟩))
  exact ⟨trivial,⟨_,h9.get 1 rfl⟩,_,rfl,b9,h9⟩
 rintro _ rfl
 (try simp only [Act.put,zA,zZ,zS])
 refine Ord3.in_nil rfl ?_
 rintro w9 hC9 ⟨P9,hP9,hA9⟩
 cases hP9
 obtain ⟨b8,hA9⟩:=hA9
 clear hT9 hC9 hE1
 have r:=hA9.rule 1 rfl
 unfold rsC at r
 have g:=hA9.thaw 1 rfl 3 (by simp [rsC])
 have hP:=hA9.put 1 rfl (j:=3) (by simp [rsC]) (.bool true)
 go_wp2_with fail
 go_ret
 refine ⟨rfl,b8,?_⟩
 rw [HE1.out]
 exact hP
theorem rsearch (hT:SmOk T) (he:0<=T.e/\T.e<=9223372036854775807) (hu:∀ x,InU (f x)) (hN:N<=1000000) (h:RSr uc w0 R qb u m k key vs T f N w) :
  Calls Tryz.prog 102 #[.pointer (some ⟨qb,0,none⟩),.pointer (some ⟨u,0,none⟩),.pointer (some ⟨m,0,none⟩)] w fun o w'=>o=.returned (.int .i64 (searchM k key vs T f).1)/\RSr uc w0 R qb u m k key vs (searchM k key vs T f).2.1 (searchM k key vs T f).2.2 (N+1) w':=by
 rcases h with ⟨hoff,lp,F,ml,rfl,hl,hE⟩ | ⟨hon,b,hR⟩
 ·have hM:searchM k key vs T (getL ml)=(0,{ on:=true,L:=L0 (4,0,k),e:=epI (getL ml (1,0,0)),r:=T.r },getL ml):=by unfold searchM; rw [hoff]; rfl
  rw [hM]
  refine (rsoff (by omega) (hu _) hE).mono ?_
  rintro o w1 ⟨rfl,b,hE1⟩
  refine ⟨rfl,.inr ⟨rfl,b,F,ml,rfl,by omega,?_⟩⟩
  exact hE1.perm (List.Perm.cons _ (List.perm_middle (l₁:=[_,_])).symm)
 ·obtain ⟨hL,hp⟩:=hT hon
  have hM:searchM k key vs T f=(if (laneM 0 key vs T.e T.L f).1=1 then 1 else 0,{ on:=decide ((laneM 0 key vs T.e T.L f).1≠2),L:=(laneM 0 key vs T.e T.L f).2.1,e:=T.e,r:=rollM T.e T.L f T.r },(laneM 0 key vs T.e T.L f).2.2):=by unfold searchM; rw [if_pos hon]
  have hst:=rlane hL (show (0:Int)<=0/\(0:Int)<=1000000 by omega) he hu hN hR
  have hsl:=lane_state 0 key vs T.e T.L f
  rw [hM]
  obtain ⟨F,ml,-,-,hE⟩:=hR
  have r:∀ i,w.cell? ⟨qb,i,none⟩=_:=hE.rule 3 rfl
  unfold rsC at r
  clear hE
  generalize hq:laneM 0 key vs T.e T.L f=q at *
  obtain ⟨q1,q2,q3⟩:=q
  have HST:=Lib.hid hst
  have HSL:=Lib.hid hsl
  clear hst hsl hq hM hu he
  go_enter Tryz.func102,Tryz.ntmps102
  go_wp2_with fail
  refine HST.out.mono ?_
  rintro o w1 ⟨rfl,hR'⟩
  have HR':=Lib.hid hR'
  clear hR' HST r
  rcases HSL.out with h1 | h1 | h1
  ·have h1':q1=0:=h1
   subst h1'
   go_wp2_with fail
   go_ret
   exact ⟨rfl,.inr ⟨rfl,b,HR'.out⟩⟩
  ·have h1':q1=1:=h1
   subst h1'
   go_wp2_with fail
   go_ret
   exact ⟨rfl,.inr ⟨rfl,b,HR'.out⟩⟩
  ·have h1':q1=2:=h1
   subst h1'
   obtain ⟨F',ml',hg',hl',hE'⟩:=HR'.out
   have r:∀ i,w1.cell? ⟨qb,i,none⟩=_:=hE'.rule 3 rfl
   unfold rsC at r
   have g:=hE'.thaw 3 rfl 3 (by simp [rsC])
   have hP:=hE'.put 3 rfl (j:=3) (by simp [rsC]) (.bool false)
   go_wp2_with fail
   go_ret
   refine ⟨rfl,.inl ⟨rfl,some ⟨b,0,none⟩,F',ml',hg',hl',?_⟩⟩
   have hP2:=hP.sub (L':=boxI u (ruC uc T.e (rollM T.e T.L f T.r))::refI m F' ml'::boxI qb (rsC k key vs false (some ⟨b,0,none⟩))::R) (.cons _ (List.Sublist.refl _))
   exact hP2.perm (List.perm_middle (l₁:=[_,_]))
end
def rkC (lp:Option Addr) (laid:Bool):List Value:=[.pointer lp,.bool laid]
def rnC (lp:Option Addr) (k key to pc:Int) (sp rp:Option Addr):List Value:=[.pointer lp,.int .i64 k,.int .u64 key,.int .i64 to,.int .i64 pc,.pointer sp,.pointer rp]
def ruv (U:SU):List Value:=urv U.ck U.cs U.cb U.ch U.cl U.ce U.A U.ql.length U.c U.N U.hs U.ro
section
variable {w0 w:World} {R:List Item} {q b:Nat} {U:SU} {lv key:Int} {vs fd:Bool} {x y z pc W X K V Cc:Int}
theorem rlink0 (hW:InU W) (hml:U.ml.length<=1000000) (hE:Env w0 (boxI q (rkC (some ⟨b,0,none⟩) false)::boxI b (rlC lv key vs x y z pc W X K V Cc fd)::LU U R) w) :
  Calls Tryz.prog 106 #[.pointer (some ⟨q,0,none⟩),.pointer (some ⟨U.u,0,none⟩),.pointer (some ⟨U.m,0,none⟩)] w fun o w'=>o=.returned (.int .i64 0)/\∃ F5,Env w0 (boxI q (rkC (some ⟨b,0,none⟩) true)::boxI b (rlC lv key vs x y z pc W X K V Cc fd)::LU { U with F:=F5,ml:=setL U.ml (5,U.hs,7) (wordI false (slotI W) U.ce) } R) w':=by
 have hsn:=fun (v:World)=>slot13_any W hW v
 have hto:=fun (v:World) (hv:Blk 0 v U.u (ruv U))=>rto_c (slotI W) hv
 obtain ⟨s,hs⟩:∃ s,slotI W=s:=⟨_,rfl⟩
 rw [hs]
 simp only [hs] at hsn hto
 obtain ⟨y9,hy⟩:∃ y,wordI false s U.ce=y:=⟨_,rfl⟩
 rw [hy]
 simp only [hy] at hto
 have HSN:=Lib.hid hsn
 have HTO:=Lib.hid hto
 clear hs hy hsn hto hW
 have r:=hE.rule 0 rfl
 unfold rkC at r
 have f1:=hE.thaw 0 rfl 1 (by simp [rkC])
 have hP:=hE.put 0 rfl (j:=1) (by simp [rkC]) (.bool true)
 replace hP:Env w0 (boxI q (rkC (some ⟨b,0,none⟩) true)::boxI b (rlC lv key vs x y z pc W X K V Cc fd)::LU U R) _:=hP
 clear hE
 go_enter Tryz.func106,Tryz.ntmps106
 go_wp2_with fail
 clear r f1
 refine Ord.wp_chain [16] (fun v=>Blk 0 v U.u (ruv U)/\Blk 0 v q (rkC (some ⟨b,0,none⟩) true)/\Blk 0 v b (rlC lv key vs x y z pc W X K V Cc fd)) (fun k w'=>∃ F5,Env w0 (boxI q (rkC (some ⟨b,0,none⟩) true)::boxI b (rlC lv key vs x y z pc W X K V Cc fd)::LU (if k=0 then U else { U with F:=F5,ml:=setL U.ml (5,U.hs,7) y9 }) R) w') (by kernel_rfl) (by kernel_rfl) (by kernel_rfl) ⟨hP.drew.get 2 rfl,hP.drew.get 0 rfl,hP.drew.get 1 rfl⟩ ⟨U.F,hP.drew⟩ (fun hT=>?_)
 have hT9:=Lib.hid hT
 clear hT
 repeat (first
  | (refine Ord.ch_value (v:=?_) hT9.out (by decide) (by rfl) ?_ ?_; rotate_left; (focus (intro w5 hS; have ru:=hS.1.rule; have rb:=hS.2.1.rule; have rc:=hS.2.2.rule; unfold ruv urv at ru; unfold rkC at rb; unfold rlC at rc; go_simp<;>with_reducible rfl)); (try simp only [Act.put,zA,zZ,zS]))
  | (refine Ord.ch_off hT9.out (by decide) (by rfl) ?_; (try simp only [Act.put,zA,zZ,zS]))
  | (refine Ord.ch_call (v:=?_) (f:=?_) (args:=?_) hT9.out (by decide) (by rfl) ?_ ?_ ?_; rotate_left 3; (focus (intro w5 hS; have ru:=hS.1.rule; have rb:=hS.2.1.rule; have rc:=hS.2.2.rule; unfold ruv urv at ru; unfold rkC at rb; unfold rlC at rc; go_simp; constructor<;>with_reducible rfl)); (focus (intro w5 hS; (first | (with_reducible refine (cell13_any _ _ _).mono ?_; rintro e w6 ⟨rfl,hb6⟩; constructor; with_reducible rfl; exact ⟨⟨hS.1.under hb6,hS.2.1.under hb6,hS.2.2.under hb6⟩,fun k h=>h.elim fun F5 h=>⟨F5,h.over hb6⟩⟩) | (with_reducible refine (HSN.out _).mono ?_; rintro e w6 ⟨rfl,hb6⟩; constructor; with_reducible rfl; exact ⟨⟨hS.1.under hb6,hS.2.1.under hb6,hS.2.2.under hb6⟩,fun k h=>h.elim fun F5 h=>⟨F5,h.over hb6⟩⟩) | (with_reducible refine (HTO.out _ hS.1).mono ?_; rintro e w6 ⟨rfl,hb6⟩; constructor; with_reducible rfl; exact ⟨⟨hS.1.under hb6,hS.2.1.under hb6,hS.2.2.under hb6⟩,fun k h=>h.elim fun F5 h=>⟨F5,h.over hb6⟩⟩)))); (try simp only [Act.put,zA,zZ,zS])))
 refine Ord.ch_turn (v:=.tuple #[]) 0 hT9.out rfl (by decide) (Or.inl rfl) (by rfl) ?_ ?_
 ·rintro w5 hC5 ⟨F5,hA5⟩
  simp only [if_true] at hA5
  go_simp
  simp only [Ord.LandsIn]
  refine (refSet_any 5 U.hs 7 y9 hml (hA5.ref 4 rfl)).mono ?_
  rintro e w6 ⟨rfl,F6,hU,hs9⟩
  have hE6:=hA5.turnU 4 rfl hU hs9
  exact ⟨rfl,⟨hE6.get 2 rfl,hE6.get 0 rfl,hE6.get 1 rfl⟩,F6,hE6⟩
 (try simp only [Act.put,zA,zZ,zS])
 repeat (first
  | (refine Ord.ch_value (v:=?_) hT9.out (by decide) (by rfl) ?_ ?_; rotate_left; (focus (intro w5 hS; skip; go_simp<;>with_reducible rfl)); (try simp only [Act.put,zA,zZ,zS]))
  | (refine Ord.ch_off hT9.out (by decide) (by rfl) ?_; (try simp only [Act.put,zA,zZ,zS])))
 refine Ord.InText.nil fun w5 hS=>?_
 clear hT9
 obtain ⟨hC9,hA9⟩:=Ord.chain_end hS
 clear hS
 obtain ⟨F9,hA9⟩:=hA9
 simp only [List.length_cons,List.length_nil,Nat.zero_add,Nat.one_ne_zero,if_false] at hA9
 clear hC9 hP
 go_wp2_with fail
 go_ret
 exact ⟨rfl,F9,hA9⟩
theorem rlink1 (hml:U.ml.length<=1000000) (hE:Env w0 (boxI q (rkC (some ⟨b,0,none⟩) true)::boxI b (rlC lv key vs x y z pc W X K V Cc fd)::LU U R) w) :
  Calls Tryz.prog 106 #[.pointer (some ⟨q,0,none⟩),.pointer (some ⟨U.u,0,none⟩),.pointer (some ⟨U.m,0,none⟩)] w fun o w'=>o=.returned (.int .i64 (if getL U.ml (x,y,z)=W then 1 else 2))/\∃ F5,Env w0 (boxI q (rkC (some ⟨b,0,none⟩) true)::boxI b (rlC lv key vs x y z pc W X K V Cc fd)::LU { U with F:=F5,ml:=swL U.ml (x,y,z) W (wordI false U.hs U.ce),hs:=if getL U.ml (x,y,z)=W then 0 else U.hs } R) w':=by
 have hto:=fun (v:World) (hv:Blk 0 v U.u (ruv U))=>rto_c U.hs hv
 obtain ⟨y9,hy⟩:∃ y,wordI false U.hs U.ce=y:=⟨_,rfl⟩
 rw [hy]
 simp only [hy] at hto
 have HTO:=Lib.hid hto
 clear hy hto
 obtain ⟨dd,hdd⟩:∃ dd,decide (getL U.ml (x,y,z)=W)=dd:=⟨_,rfl⟩
 have hds:(if getL U.ml (x,y,z)=W then (1:Int) else 2)=if dd then 1 else 2:=by rw [<- hdd]; by_cases h:getL U.ml (x,y,z)=W<;>simp [h]
 have hdh:(if getL U.ml (x,y,z)=W then (0:Int) else U.hs)=if dd then 0 else U.hs:=by rw [<- hdd]; by_cases h:getL U.ml (x,y,z)=W<;>simp [h]
 rw [hds]
 simp only [hdh]
 clear hds hdh
 have HDD:=Lib.hid hdd
 clear hdd
 have r:=hE.rule 0 rfl
 unfold rkC at r
 go_enter Tryz.func106,Tryz.ntmps106
 go_wp2_with fail
 clear r
 refine Ord.wp_chain [21] (fun v=>Blk 0 v U.u (ruv U)/\Blk 0 v q (rkC (some ⟨b,0,none⟩) true)/\Blk 0 v b (rlC lv key vs x y z pc W X K V Cc fd)) (fun k w'=>∃ F5,Env w0 (boxI q (rkC (some ⟨b,0,none⟩) true)::boxI b (rlC lv key vs x y z pc W X K V Cc fd)::LU (if k=0 then U else { U with F:=F5,ml:=swL U.ml (x,y,z) W y9 }) R) w') (by kernel_rfl) (by kernel_rfl) (by kernel_rfl) ⟨hE.drew.get 2 rfl,hE.drew.get 0 rfl,hE.drew.get 1 rfl⟩ ⟨U.F,hE.drew⟩ (fun hT=>?_)
 have hT9:=Lib.hid hT
 clear hT
 repeat (first
  | (refine Ord.ch_value (v:=?_) hT9.out (by decide) (by rfl) ?_ ?_; rotate_left; (focus (intro w5 hS; have ru:=hS.1.rule; have rb:=hS.2.1.rule; have rc:=hS.2.2.rule; unfold ruv urv at ru; unfold rkC at rb; unfold rlC at rc; go_simp<;>with_reducible rfl)); (try simp only [Act.put,zA,zZ,zS]))
  | (refine Ord.ch_off hT9.out (by decide) (by rfl) ?_; (try simp only [Act.put,zA,zZ,zS]))
  | (refine Ord.ch_call (v:=?_) (f:=?_) (args:=?_) hT9.out (by decide) (by rfl) ?_ ?_ ?_; rotate_left 3; (focus (intro w5 hS; have ru:=hS.1.rule; have rb:=hS.2.1.rule; have rc:=hS.2.2.rule; unfold ruv urv at ru; unfold rkC at rb; unfold rlC at rc; go_simp; constructor<;>with_reducible rfl)); (focus (intro w5 hS; (first | (with_reducible refine (HTO.out _ hS.1).mono ?_; rintro e w6 ⟨rfl,hb6⟩; constructor; with_reducible rfl; exact ⟨⟨hS.1.under hb6,hS.2.1.under hb6,hS.2.2.under hb6⟩,fun k h=>h.elim fun F5 h=>⟨F5,h.over hb6⟩⟩)))); (try simp only [Act.put,zA,zZ,zS])))
 refine Ord.ch_turn (v:=.bool dd) 0 hT9.out rfl (by decide) (Or.inl rfl) (by rfl) ?_ ?_
 ·rintro w5 hC5 ⟨F5,hA5⟩
  simp only [if_true] at hA5
  go_simp
  simp only [Ord.LandsIn]
  have hsw:=refSwap_any x y z W y9 hml (hA5.ref 4 rfl)
  rw [HDD.out] at hsw
  refine hsw.mono ?_
  rintro e w6 ⟨rfl,F6,hU,hs9⟩
  have hE6:=hA5.turnU 4 rfl hU hs9
  exact ⟨rfl,⟨hE6.get 2 rfl,hE6.get 0 rfl,hE6.get 1 rfl⟩,F6,hE6⟩
 (try simp only [Act.put,zA,zZ,zS])
 repeat (first
  | (refine Ord.ch_value (v:=?_) hT9.out (by decide) (by rfl) ?_ ?_; rotate_left; (focus (intro w5 hS; skip; go_simp<;>with_reducible rfl)); (try simp only [Act.put,zA,zZ,zS]))
  | (refine Ord.ch_off hT9.out (by decide) (by rfl) ?_; (try simp only [Act.put,zA,zZ,zS])))
 refine Ord.InText.nil fun w5 hS=>?_
 clear hT9
 obtain ⟨hC9,hA9⟩:=Ord.chain_end hS
 clear hS
 obtain ⟨F9,hA9⟩:=hA9
 simp only [List.length_cons,List.length_nil,Nat.zero_add,Nat.one_ne_zero,if_false] at hA9
 clear hC9 hE HTO HDD
 cases dd
 ·go_wp2_with fail
  go_ret
  exact ⟨rfl,F9,hA9⟩
 ·have r:=hA9.rule 2 rfl
  unfold urv at r
  have f1:=hA9.thaw 2 rfl 8 (by simp [urv])
  have hP:=hA9.put 2 rfl (j:=8) (by simp [urv]) (.int .i64 0)
  go_wp2_with fail
  go_ret
  exact ⟨rfl,F9,hP⟩
end
section
variable {w0 w:World} {R:List Item} {q b:Nat} {U:SU} {lv key:Int} {vs fd:Bool} {x y z pc W X K V Cc k ky to:Int} {sp rp:Option Addr}
theorem rmark0 (hX:InU X) (hmk:markB X=false) (hhs:U.hs=0) (hml:U.ml.length<=1000000) (hE:Env w0 (boxI q (rnC (some ⟨b,0,none⟩) k ky to 0 sp rp)::boxI b (rlC lv key vs x y z pc W X K V Cc fd)::LU U R) w) :
  Calls Tryz.prog 107 #[.pointer (some ⟨q,0,none⟩),.pointer (some ⟨U.u,0,none⟩),.pointer (some ⟨U.m,0,none⟩)] w fun o w'=>o=.returned (.int .i64 (if getL U.ml (5,Cc,7)=X then 0 else 2))/\∃ F5,Env w0 (boxI q (rnC (some ⟨b,0,none⟩) k ky to (if getL U.ml (5,Cc,7)=X then 1 else 0) sp rp)::boxI b (rlC lv key vs x y z pc W X K V Cc fd)::LU { U with F:=F5,ml:=swL U.ml (5,Cc,7) X (wordI true to U.ce) } R) w':=by
 have hmw:markedW X to U.ce=wordI true to U.ce:=by simp [markedW,hmk]
 have hto:=fun (v:World) (hv:Blk 0 v U.u (ruv U))=>rmark_c X to hX hv
 simp only [hmw] at hto
 clear hmw hmk hX
 obtain ⟨y9,hy⟩:∃ y,wordI true to U.ce=y:=⟨_,rfl⟩
 rw [hy]
 simp only [hy] at hto
 have HTO:=Lib.hid hto
 clear hy hto
 obtain ⟨dd,hdd⟩:∃ dd,decide (getL U.ml (5,Cc,7)=X)=dd:=⟨_,rfl⟩
 have hds:(if getL U.ml (5,Cc,7)=X then (0:Int) else 2)=if dd then 0 else 2:=by rw [<- hdd]; by_cases h:getL U.ml (5,Cc,7)=X<;>simp [h]
 have hdh:(if getL U.ml (5,Cc,7)=X then (1:Int) else 0)=if dd then 1 else 0:=by rw [<- hdd]; by_cases h:getL U.ml (5,Cc,7)=X<;>simp [h]
 rw [hds]
 simp only [hdh]
 clear hds hdh
 have HDD:=Lib.hid hdd
 clear hdd
 have HHS:=Lib.hid hhs
 clear hhs
 have r:=hE.rule 0 rfl
 unfold rnC at r
 go_enter Tryz.func107,Tryz.ntmps107
 go_wp2_with fail
 clear r
 refine Ord.wp_chain [20] (fun v=>Blk 0 v U.u (ruv U)/\Blk 0 v q (rnC (some ⟨b,0,none⟩) k ky to 0 sp rp)/\Blk 0 v b (rlC lv key vs x y z pc W X K V Cc fd)) (fun k9 w'=>∃ F5,Env w0 (boxI q (rnC (some ⟨b,0,none⟩) k ky to 0 sp rp)::boxI b (rlC lv key vs x y z pc W X K V Cc fd)::LU (if k9=0 then U else { U with F:=F5,ml:=swL U.ml (5,Cc,7) X y9 }) R) w') (by kernel_rfl) (by kernel_rfl) (by kernel_rfl) ⟨hE.drew.get 2 rfl,hE.drew.get 0 rfl,hE.drew.get 1 rfl⟩ ⟨U.F,hE.drew⟩ (fun hT=>?_)
 have hT9:=Lib.hid hT
 clear hT
 repeat (first
  | (refine Ord.ch_value (v:=?_) hT9.out (by decide) (by rfl) ?_ ?_; rotate_left; (focus (intro w5 hS; have ru:=hS.1.rule; have rb:=hS.2.1.rule; have rc:=hS.2.2.rule; unfold ruv urv at ru; unfold rnC at rb; unfold rlC at rc; go_simp<;>with_reducible rfl)); (try simp only [Act.put,zA,zZ,zS]))
  | (refine Ord.ch_off hT9.out (by decide) (by rfl) ?_; (try simp only [Act.put,zA,zZ,zS]))
  | (refine Ord.ch_call (v:=?_) (f:=?_) (args:=?_) hT9.out (by decide) (by rfl) ?_ ?_ ?_; rotate_left 3; (focus (intro w5 hS; have ru:=hS.1.rule; have rb:=hS.2.1.rule; have rc:=hS.2.2.rule; unfold ruv urv at ru; unfold rnC at rb; unfold rlC at rc; go_simp; constructor<;>with_reducible rfl)); (focus (intro w5 hS; (first | (with_reducible refine (cell13_any _ _ _).mono ?_; rintro e w6 ⟨rfl,hb6⟩; constructor; with_reducible rfl; exact ⟨⟨hS.1.under hb6,hS.2.1.under hb6,hS.2.2.under hb6⟩,fun k h=>h.elim fun F5 h=>⟨F5,h.over hb6⟩⟩) | (with_reducible refine (HTO.out _ hS.1).mono ?_; rintro e w6 ⟨rfl,hb6⟩; constructor; with_reducible rfl; exact ⟨⟨hS.1.under hb6,hS.2.1.under hb6,hS.2.2.under hb6⟩,fun k h=>h.elim fun F5 h=>⟨F5,h.over hb6⟩⟩)))); (try simp only [Act.put,zA,zZ,zS])))
 refine Ord.ch_turn (v:=.bool dd) 0 hT9.out rfl (by decide) (Or.inl rfl) (by rfl) ?_ ?_
 ·rintro w5 hC5 ⟨F5,hA5⟩
  simp only [if_true] at hA5
  go_simp
  simp only [Ord.LandsIn]
  have hsw:=refSwap_any 5 Cc 7 X y9 hml (hA5.ref 4 rfl)
  rw [HDD.out] at hsw
  refine hsw.mono ?_
  rintro e w6 ⟨rfl,F6,hU,hs9⟩
  have hE6:=hA5.turnU 4 rfl hU hs9
  exact ⟨rfl,⟨hE6.get 2 rfl,hE6.get 0 rfl,hE6.get 1 rfl⟩,F6,hE6⟩
 (try simp only [Act.put,zA,zZ,zS])
 repeat (first
  | (refine Ord.ch_value (v:=?_) hT9.out (by decide) (by rfl) ?_ ?_; rotate_left; (focus (intro w5 hS; skip; go_simp<;>with_reducible rfl)); (try simp only [Act.put,zA,zZ,zS]))
  | (refine Ord.ch_off hT9.out (by decide) (by rfl) ?_; (try simp only [Act.put,zA,zZ,zS])))
 refine Ord.InText.nil fun w5 hS=>?_
 clear hT9
 obtain ⟨hC9,hA9⟩:=Ord.chain_end hS
 clear hS
 obtain ⟨F9,hA9⟩:=hA9
 simp only [List.length_cons,List.length_nil,Nat.zero_add,Nat.one_ne_zero,if_false] at hA9
 clear hC9 hE HTO HDD
 cases dd
 ·go_wp2_with fail
  go_ret
  exact ⟨rfl,F9,hA9⟩
 ·have h0:∃ w9:World,w9=w9:=⟨w,rfl⟩
  go_wp2_with fail
  obtain ⟨U2,hU2⟩:∃ U2:SU,{ U with F:=F9,ml:=swL U.ml (5,Cc,7) X y9 }=U2:=⟨_,rfl⟩
  have hu2:U2.u=U.u:=by rw [<- hU2]
  have hh2:U2.hs=0:=by rw [<- hU2]; exact HHS.out
  rw [hU2] at hA9
  have HU2:=Lib.hid hU2
  clear hU2 h0
  rw [<- hu2]
  have HH2:=Lib.hid hh2
  clear hh2 hu2
  by_cases hto:to=0
  ·subst hto
   refine wp_text (S:=(Env w0 (boxI q (rnC (some ⟨b,0,none⟩) k ky 0 0 sp rp)::boxI b (rlC lv key vs x y z pc W X K V Cc fd)::LU U2 R))) (by kernel_rfl) (by kernel_rfl) hA9.drew (fun hT=>?_)
   have hT9:=Lib.hid hT
   clear hT
   repeat (first
    | (refine text_value (v:=?_) hT9.out (by rfl) ?_ ?_; rotate_left; (focus (intro w5 hS; have r:=hS.rule 0 rfl; have r1:=hS.rule 2 rfl; unfold rnC at r; unfold urv at r1; simp only [HH2.out] at r1; go_simp<;>with_reducible rfl)); (try simp only [Act.put,zA,zZ,zS]))
    | (refine text_off hT9.out (by rfl) ?_; (try simp only [Act.put,zA,zZ,zS]))
    | (refine text_call (v:=?_) (f:=?_) (args:=?_) hT9.out (by rfl) ?_ ?_ ?_; rotate_left 3; (focus (intro w5 hS; have r:=hS.rule 0 rfl; have r1:=hS.rule 2 rfl; unfold rnC at r; unfold urv at r1; simp only [HH2.out] at r1; go_simp; constructor<;>with_reducible rfl)); (focus (intro w5 hS; (first | fail))); (try simp only [Act.put,zA,zZ,zS])))
   refine InText.nil fun w5 hS5=>?_
   clear hT9
   clear hA9
   have ru:=hS5.rule 2 rfl
   unfold urv at ru
   have fu:=hS5.thaw 2 rfl 8 (by simp [urv])
   have hP:=hS5.put 2 rfl (j:=8) (by simp [urv]) (.int .i64 0)
   have rq:=hP.rule 0 rfl
   unfold rnC at rq
   have fq:=hP.thaw 0 rfl 4 (by simp [rnC])
   have hQ:=hP.put 0 rfl (j:=4) (by simp [rnC]) (.int .i64 1)
   go_wp2_with fail
   go_ret
   have h2:=HU2.out
   subst h2
   have hz:LU { U with F:=F9,ml:=swL U.ml (5,Cc,7) X y9,hs:=0 } R=LU { U with F:=F9,ml:=swL U.ml (5,Cc,7) X y9 } R:=by
    have h9:=HHS.out
    simp only [LU,h9]
   have hQ2:Env w0 (boxI q (rnC (some ⟨b,0,none⟩) k ky 0 1 sp rp)::boxI b (rlC lv key vs x y z pc W X K V Cc fd)::LU { U with F:=F9,ml:=swL U.ml (5,Cc,7) X y9,hs:=0 } R) _:=hQ
   rw [hz] at hQ2
   exact ⟨rfl,F9,hQ2⟩
  ·have hb:((0:Int)==to)=false:=by simpa using fun e=>hto e.symm
   clear hto
   refine wp_text (S:=(Env w0 (boxI q (rnC (some ⟨b,0,none⟩) k ky to 0 sp rp)::boxI b (rlC lv key vs x y z pc W X K V Cc fd)::LU U2 R))) (by kernel_rfl) (by kernel_rfl) hA9.drew (fun hT=>?_)
   have hT9:=Lib.hid hT
   clear hT
   repeat (first
    | (refine text_value (v:=?_) hT9.out (by rfl) ?_ ?_; rotate_left; (focus (intro w5 hS; have r:=hS.rule 0 rfl; have r1:=hS.rule 2 rfl; unfold rnC at r; unfold urv at r1; simp only [HH2.out] at r1; go_simp<;>with_reducible rfl)); (try simp only [Act.put,zA,zZ,zS]))
    | (refine text_off hT9.out (by rfl) ?_; (try simp only [Act.put,zA,zZ,zS]))
    | (refine text_call (v:=?_) (f:=?_) (args:=?_) hT9.out (by rfl) ?_ ?_ ?_; rotate_left 3; (focus (intro w5 hS; have r:=hS.rule 0 rfl; have r1:=hS.rule 2 rfl; unfold rnC at r; unfold urv at r1; simp only [HH2.out] at r1; go_simp; constructor<;>with_reducible rfl)); (focus (intro w5 hS; (first | fail))); (try simp only [Act.put,zA,zZ,zS])))
   refine InText.nil fun w5 hS5=>?_
   clear hT9
   clear hA9
   have rq:=hS5.rule 0 rfl
   unfold rnC at rq
   have fq:=hS5.thaw 0 rfl 4 (by simp [rnC])
   have hQ:=hS5.put 0 rfl (j:=4) (by simp [rnC]) (.int .i64 1)
   go_wp2_with fail
   go_ret
   have h2:=HU2.out
   subst h2
   exact ⟨rfl,F9,hQ⟩
end
end Go.Proofs.YthcblagpbkaoaaaGreatDoor
