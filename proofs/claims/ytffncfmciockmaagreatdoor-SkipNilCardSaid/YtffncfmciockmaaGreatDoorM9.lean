/- What is proved on the way to the statement, part 9: contracts of the functions, among other things in memory. -/
import Derived.Test.YtffncfmciockmaaGreatDoorM8

open _root_.Go.Proofs.Tryz
set_option maxRecDepth 100000
set_option maxHeartbeats 25600000
namespace Go.Proofs.YtffncfmciockmaaGreatDoor
section
open Go.RowKit Go.Maps
section
variable {w0 w:World} {R M:List Item} {o c h l8:Nat} {S:ST} {kd key val lv:Int} {nx fp:Value} {er st n l t y:Int} {an dn:Bool} {F:Fd} {L:Nat->Lm}
theorem Env.sbkS {b:Item} (h:Env w0 (b::LT S R) w):Env w0 (LT S (b::R)) w:=h.perm (List.perm_middle (l₁:=[_,_,_,_])).symm
theorem Env.sfrS {b:Item} (h:Env w0 (LT S (b::R)) w):Env w0 (b::LT S R) w:=h.perm (List.perm_middle (l₁:=[_,_,_,_]))
theorem hides_add (L:Nat->Lm) {k:Nat} (hk:1<=k) (h:∀ j,1<=j->j < k->(L j).fd=false):hidesM L k=false:=by
 unfold hidesM;rw [List.any_eq_false];intro i hi;have:=List.mem_range.1 hi;rw [h (i+1) (by omega) (by omega)]
 decide
theorem hides_yes (L:Nat->Lm) {k t:Nat} (hk:1<=k) (hlt:k < t) (h:(L k).fd=true):hidesM L t=true:=by
 unfold hidesM;rw [List.any_eq_true];exact ⟨k - 1,List.mem_range.2 (by omega),by rw [Nat.sub_add_cancel hk]; exact h⟩
theorem hides_s (hlv:1<=lv/\lv<=(h:Int)) (hI:FdIn F c key L h M) (hE:Env w0 (boxI o (opS c kd key val lv nx 0 (.pointer (some ⟨F.fb,0,none⟩)) n l t y an er dn)::M) w) :
  Calls prog 154 #[.pointer (some ⟨o,0,none⟩)] w fun e w'=>e=.returned (.bool (hidesM L lv.toNat))/\Env w0 (boxI o (opS c kd key val lv nx 0 (.pointer (some ⟨F.fb,0,none⟩)) n l t y an er dn)::M) w':=by
 have HFA:=zH fun (v:World) (hv:Env w0 (boxI o (opS c kd key val lv nx 0 (.pointer (some ⟨F.fb,0,none⟩)) n l t y an er dn)::M) v) (k:Nat) (hk:k < h)=>fdFoundAt (hI.at9 hv (fun a ha=>by simp [ha])) hI.hh.2 hk;have hh:=hI.hh;refine gen_post fun PP HPP=>?_;clear hI;go_enter func154,ntmps154;go_wp2_with fail
 go_loopw [3] (fun iv wr=>∃ k:Nat,1<=k/\(k:Int)<=lv/\iv=.int .i64 (k:Int)/\Hid (∀ j,1<=j->j < k->(L j).fd=false)/\Env w0 (boxI o (opS c kd key val lv nx 0 (.pointer (some ⟨F.fb,0,none⟩)) n l t y an er dn)::M) wr) (fun iv _=>lv.toNat - (intOf iv).toNat)
 case atStart=>exact ⟨1,by decide,by omega,rfl,zH (fun j h1 h2=>by omega),hE⟩
 case round =>
  clear hE;obtain ⟨k,hk1,hkl,rfl,hno,hE⟩:=hrel;have r:=hE.rule 0 rfl;unfold opS at r
  by_cases hlt:(k:Int) < lv
  ·have b1:decide ((k:Int) < lv)=true:=by simpa using hlt
   have hkh:k < h:=by omega
   obtain ⟨fd,hfd⟩:∃ fd,(L k).fd=fd:=⟨_,rfl⟩;have hfa:=HFA.out _ hE k hkh;rw [hfd] at hfa;have HFA2:=zH hfa;have HFD:=zH hfd;clear hfa hfd;go_wp2_with fail;refine HFA2.out.mono ?_;rintro e w1 ⟨rfl,rfl⟩;cases fd
   ·go_wp2_with fail;refine ⟨⟨k+1,by omega,by omega,by simp,zH (fun j h1 h2=>?_),hE⟩,by simp [intOf]; omega⟩
    by_cases he:j=k
    ·subst he; exact HFD.out
    ·exact hno.out j h1 (by omega)
   ·go_wp2_with fail
    (try go_ret)
    exact HPP.out _ _ ⟨by rw [hides_yes L hk1 (show k < lv.toNat by omega) HFD.out]; rfl,hE⟩
  ·have b1:decide ((k:Int) < lv)=false:=by simpa using hlt
   go_wp2_with fail
   (try go_ret)
   refine HPP.out _ _ ⟨?_,hE⟩;have he:lv.toNat=k:=by omega
   rw [he,hides_add L hk1 hno.out]
theorem removeNo_s (hI:FdIn F c key L h M) (hfd:(L 0).fd=false) (hE:Env w0 (boxI o (opS c kd key val lv nx 0 (.pointer (some ⟨F.fb,0,none⟩)) n l t y an er dn)::M) w) :
  Calls prog 133 #[.pointer (some ⟨o,0,none⟩)] w fun e w'=>e=.returned (.int .i64 1)/\Env w0 (boxI o (opS c kd key val lv nx 1 (.pointer (some ⟨F.fb,0,none⟩)) n l t y an 0 false)::M) w':=by
 have hfo:=fdFound (hI.at9 hE (fun a ha=>by simp [ha])) hI.hh;rw [hfd] at hfo;have HFO:=zH hfo;have HO:=zH fun (v:World) (hv:Env w0 (boxI o (opS c kd key val lv nx 0 (.pointer (some ⟨F.fb,0,none⟩)) n l t y an er dn)::M) v)=>over_s 0 false hv;have r:=hE.rule 0 rfl;unfold opS at r;clear hfo hI hfd;go_enter func133,ntmps133;go_wp2_with fail;refine HFO.out.mono ?_;rintro e w1 ⟨rfl,rfl⟩;go_wp2_with fail;refine (HO.out _ hE).mono ?_;rintro e w2 ⟨rfl,hE2⟩;go_wp2_with fail;go_ret;exact ⟨rfl,hE2⟩
theorem removeYes_s (hI:FdIn F c key L h M) (hfd:(L 0).fd=true) (hE:Env w0 (boxI o (opS c kd key val lv nx 0 (.pointer (some ⟨F.fb,0,none⟩)) n l t y an er dn)::M) w) :
  Calls prog 133 #[.pointer (some ⟨o,0,none⟩)] w fun e w'=>e=.returned (.int .i64 0)/\Env w0 (boxI o (opS c kd key val lv (mvL 157 o) 0 (.pointer (some ⟨F.fb,0,none⟩)) (L 0).C l t y an er dn)::M) w':=by
 have hmf:=makeF;have hfo:=fdFound (hI.at9 hE (fun a ha=>by simp [ha])) hI.hh;rw [hfd] at hfo;have hwh:=fdWho (hI.at9 hE (fun a ha=>by simp [ha])) hI.hh;obtain ⟨C9,hC9⟩:∃ C9,(L 0).C=C9:=⟨_,rfl⟩;rw [hC9] at hwh ⊢;have HFO:=zH hfo;have HWH:=zH hwh;have r:=hE.rule 0 rfl;unfold opS at r;clear hfo hI hfd hwh hC9;go_enter func133,ntmps133;go_wp2_with fail;refine HFO.out.mono ?_;rintro e w1 ⟨rfl,rfl⟩;go_wp2_with fail;refine HWH.out.mono ?_;rintro e w2 ⟨rfl,hb⟩;replace hE:=hE.over hb;clear hb r;have r:=hE.rule 0 rfl;unfold opS at r;have f8:=hE.thaw 0 rfl 8 (by simp [opS]);have f9:=hE.thaw 0 rfl 9 (by simp [opS]);have hQ:=(hE.put 0 rfl (j:=8) (by simp [opS]) (.int .i64 C9)).put 0 rfl (j:=9) (by simp [opS]) (.int .i64 0);replace hQ:Env w0 (boxI o (opS c kd key val lv nx 0 (.pointer (some ⟨F.fb,0,none⟩)) C9 l t y an er dn)::M) _:=hQ;clear hE;go_wp2_with fail;refine (goOn_r (o:=5) 0 _ _ _ (by simp [opS]) hQ rfl).mono ?_;rintro e w7 ⟨rfl,hE7⟩;go_wp2_with fail;go_ret;exact ⟨rfl,hE7⟩
theorem insDropNo_s (hh:S.hs=0) (hI:FdIn F S.c key L h R) (hfd:(L 0).fd=true) (hE:Env w0 (boxI o (opS S.c kd key val lv nx 0 (.pointer (some ⟨F.fb,0,none⟩)) n l t y an er dn)::LT S R) w) :
  Calls prog 132 #[.pointer (some ⟨o,0,none⟩)] w fun e w'=>e=.returned (.int .i64 1)/\Env w0 (boxI o (opS S.c kd key val lv nx 1 (.pointer (some ⟨F.fb,0,none⟩)) n l t y an 0 false)::LT S R) w':=by
 have hmf:=makeF;have hfo:=fdFound (hI.at9 hE (fun a ha=>by simp [LT,ha])) hI.hh;rw [hfd] at hfo;have HFO:=zH hfo;have r:=hE.rule 0 rfl;unfold opS at r;have HDR:=zH (dropNo_c hh (hE.get 1 rfl));have HO:=zH fun (v:World) (hv:Env w0 (boxI o (opS S.c kd key val lv nx 0 (.pointer (some ⟨F.fb,0,none⟩)) n l t y an er dn)::LT S R) v)=>over_s 0 false hv;clear hfo hI hfd hh;go_enter func132,ntmps132;go_wp2_with fail;refine HFO.out.mono ?_;rintro e w1 ⟨rfl,rfl⟩;go_wp2_with fail;refine HDR.out.mono ?_;rintro e w2 ⟨rfl,hb⟩;replace hE:=hE.over hb;clear hb;go_wp2_with fail;refine (HO.out _ hE).mono ?_;rintro e w2 ⟨rfl,hE2⟩;go_wp2_with fail;go_ret;exact ⟨rfl,hE2⟩
theorem insDropYes_s (hh:S.hs≠0) (hl:S.ql.length+1<=1048576) (hI:FdIn F S.c key L h R) (hfd:(L 0).fd=true) (hE:Env w0 (boxI o (opS S.c kd key val lv nx 0 (.pointer (some ⟨F.fb,0,none⟩)) n l t y an er dn)::LT S R) w) :
  Calls prog 132 #[.pointer (some ⟨o,0,none⟩)] w fun e w'=>e=.returned (.int .i64 1)/\∃ k' F',Env w0 (boxI o (opS S.c kd key val lv nx 1 (.pointer (some ⟨F.fb,0,none⟩)) n l t y an 0 false)::LT { S with F:=F',kq:=k',ql:=S.ql++[(S.hs,0,0)],hs:=0 } R) w':=by
 have hmf:=makeF;have hfo:=fdFound (hI.at9 hE (fun a ha=>by simp [LT,ha])) hI.hh;rw [hfd] at hfo;have HFO:=zH hfo;have r:=hE.rule 0 rfl;unfold opS at r;have HDR:=zH (dropYes_c hh 1 2 (by decide) hE rfl rfl hl);clear hfo hI hfd hh hE hl;go_enter func132,ntmps132;go_wp2_with fail;refine HFO.out.mono ?_;rintro e w1 ⟨rfl,rfl⟩;go_wp2_with fail;refine HDR.out.mono ?_;rintro e w2 ⟨rfl,k',F',-,hE2⟩;have HO:=zH (over_s (c:=S.c) (M:=LT { S with F:=F',kq:=k',ql:=S.ql++[(S.hs,0,0)],hs:=0 } R) 0 false hE2);clear hE2 HDR r;go_wp2_with fail;refine HO.out.mono ?_;rintro e w2 ⟨rfl,hE2⟩;go_wp2_with fail;go_ret;exact ⟨rfl,k',F',hE2⟩
theorem insLate_s (hh:S.hs=0) (hd:decP S.ql S.ce S.cl=0) (hI:FdIn F S.c key L h R) (hfd:(L 0).fd=false) (hE:Env w0 (boxI o (opS S.c kd key val lv nx 0 (.pointer (some ⟨F.fb,0,none⟩)) n l t y an er dn)::LT S R) w) :
  Calls prog 132 #[.pointer (some ⟨o,0,none⟩)] w fun e w'=>e=.returned (.int .i64 1)/\Env w0 (boxI o (opS S.c kd key val lv nx 1 (.pointer (some ⟨F.fb,0,none⟩)) n l t y an 7 false)::LT S R) w':=by
 have hmf:=makeF;have hfo:=fdFound (hI.at9 hE (fun a ha=>by simp [LT,ha])) hI.hh;rw [hfd] at hfo;have HFO:=zH hfo;have r:=hE.rule 0 rfl;unfold opS at r;have HB:Hid ((S.hs != 0)=false):=zH (by simp [hh]);have HH:=zH hh;have HD:=zH hd;clear hfo hI hfd hh hd;go_enter func132,ntmps132;go_wp2_with fail;refine HFO.out.mono ?_;rintro e w1 ⟨rfl,rfl⟩;go_wp2_with fail;refine (held_c (hE.get 1 rfl)).mono ?_;rintro e w2 ⟨rfl,hb⟩;rw [HB.out];have hE2:=(hE.over hb).box w2.heap.size rfl [.int .i64 S.hs,.int .i64 0] 110;clear hb hE r;go_wp2_with fail;generalize w2.alloc _=w3 at *;generalize w2.heap.size=Y at *;replace hE2:Env w0 (boxI o (opS S.c kd key val lv nx 0 (.pointer (some ⟨F.fb,0,none⟩)) n l t y an er dn)::LT S (boxI Y [.int .i64 S.hs,.int .i64 0]::R)) w3:=hE2.perm (perm_of fun z=>by simp only [LT,List.count_cons]; omega);refine Ord.wc [16] (fun v=>∃ nx9 st9 er9 dn9,Blk 0 v o (opS S.c kd key val lv nx9 st9 (.pointer (some ⟨F.fb,0,none⟩)) n l t y an er9 dn9)) (Stage [Env w0 (boxI o (opS S.c kd key val lv nx 0 (.pointer (some ⟨F.fb,0,none⟩)) n l t y an er dn)::LT S (boxI Y [.int .i64 S.hs,.int .i64 0]::R)),Env w0 (boxI o (opS S.c kd key val lv nx 1 (.pointer (some ⟨F.fb,0,none⟩)) n l t y an 7 false)::LT S (boxI Y [.int .i64 S.hs,.int .i64 0]::R))]) ⟨nx,0,_,_,hE2.drew.get 0 rfl⟩ ⟨_,rfl,hE2.drew⟩ fun hT9=>?_
 repeat ((first
  | (refine Ord.cv ?_ hT9.o ?_ ?_; rotate_left; (intro w5 hS; obtain ⟨nx9,st9,er9,dn9,hS9⟩:=hS; have r:=Blk.rule hS9; unfold opS at r; go_simp<;>rfl))
  | (refine Ord.co hT9.o ?_));try simp only [Act.put,zA,zZ,zS])
 refine Ord.ch_turn (v:=.int .i64 1) 0 hT9.o rfl (by decide) (Or.inl rfl) (by rfl) ?_ ?_
 ·rintro w5 hC5 ⟨P5,hP5,hA5⟩;cases hP5;go_simp;simp only [Ord.LandsIn];refine (slotLate_n (S:=S) (R:=boxI o (opS S.c kd key val lv nx 0 (.pointer (some ⟨F.fb,0,none⟩)) n l t y an er dn)::boxI Y [.int .i64 S.hs,.int .i64 0]::R) (kd:=kd) (key:=key) (val:=val) (lv:=lv) (o:=o) (ro:=5) (FF:=54) (OV:=134) (fun _ _=>by kernel_rfl) HH.out HD.out (fun s2 v=>s2=1/\Env w0 (boxI o (opS S.c kd key val lv nx 1 (.pointer (some ⟨F.fb,0,none⟩)) n l t y an 7 false)::LT S (boxI Y [.int .i64 S.hs,.int .i64 0]::R)) v) hA5.sbkS fun v hv=>(over_s 7 false hv.sfrS).mono ?_).mono ?_
  ·rintro e w6 ⟨rfl,hE6⟩;exact ⟨1,rfl,rfl,hE6⟩
  ·rintro e w6 ⟨s2,rfl,rfl,hE6⟩;exact ⟨rfl,⟨_,_,_,Or.inl (hE6.get 0 rfl)⟩,_,rfl,hE6⟩
 try simp only [Act.put,zA,zZ,zS]
 repeat ((first
  | (refine Ord.cv ?_ hT9.o ?_ ?_; rotate_left; (intro w5 hS; skip; go_simp<;>rfl))
  | (refine Ord.co hT9.o ?_));try simp only [Act.put,zA,zZ,zS])
 refine Ord.InText.nil fun w5 hS=>?_;clear hT9;obtain ⟨hC9,hA9⟩:=Ord.chain_end hS;clear hS;obtain ⟨P9,hP9,hA9⟩:=hA9;cases hP9;clear hC9 hE2;go_wp2_with fail;go_ret;refine ⟨rfl,?_⟩;exact (hA9.perm (L':=boxI Y [.int .i64 S.hs,.int .i64 0]::boxI o (opS S.c kd key val lv nx 1 (.pointer (some ⟨F.fb,0,none⟩)) n l t y an 7 false)::LT S R) (perm_of fun z=>by simp only [LT,List.count_cons]; omega)).sub (.cons _ (List.Sublist.refl _))
theorem insAlloc_s (hh:S.hs=0) (hd:decP S.ql S.ce S.cl≠0) (hI:FdIn F S.c key L h R) (hfd:(L 0).fd=false) (hE:Env w0 (boxI o (opS S.c kd key val lv nx 0 (.pointer (some ⟨F.fb,0,none⟩)) n l t y an er dn)::LT S R) w) :
  Calls prog 132 #[.pointer (some ⟨o,0,none⟩)] w fun e w'=>e=.returned (.int .i64 0)/\∃ b1 b2 l5,Env w0 (boxI o (opS S.c kd key val lv (cvP b1 b2) 0 (.pointer (some ⟨F.fb,0,none⟩)) n l t y an er dn)::boxI b1 [mvL 179 l5]::boxI b2 [cmV S.c kd key val lv o 5 54 134]::boxI l5 (av S.c { nx:=nxA l5 (decP S.ql S.ce S.cl),left:=.slice none 0 0,k:=kd,key:=key,val:=val,lv:=lv,h:=0,n:=0,r:=0,s:=0 })::LT S R) w':=by
 have hmf:=makeF;have hfo:=fdFound (hI.at9 hE (fun a ha=>by simp [LT,ha])) hI.hh;rw [hfd] at hfo;have HFO:=zH hfo;have r:=hE.rule 0 rfl;unfold opS at r;have HB:Hid ((S.hs != 0)=false):=zH (by simp [hh]);have HH:=zH hh;have HD:=zH hd;clear hfo hI hfd hh hd;go_enter func132,ntmps132;go_wp2_with fail;refine HFO.out.mono ?_;rintro e w1 ⟨rfl,rfl⟩;go_wp2_with fail;refine (held_c (hE.get 1 rfl)).mono ?_;rintro e w2 ⟨rfl,hb⟩;rw [HB.out];have hE2:=(hE.over hb).box w2.heap.size rfl [.int .i64 S.hs,.int .i64 0] 110;clear hb hE r;go_wp2_with fail;generalize w2.alloc _=w3 at *;generalize w2.heap.size=Y at *;replace hE2:Env w0 (boxI o (opS S.c kd key val lv nx 0 (.pointer (some ⟨F.fb,0,none⟩)) n l t y an er dn)::LT S (boxI Y [.int .i64 S.hs,.int .i64 0]::R)) w3:=hE2.perm (perm_of fun z=>by simp only [LT,List.count_cons]; omega);refine Ord.wc [16] (fun v=>∃ nx9 st9 er9 dn9,Blk 0 v o (opS S.c kd key val lv nx9 st9 (.pointer (some ⟨F.fb,0,none⟩)) n l t y an er9 dn9)) (Stage [Env w0 (boxI o (opS S.c kd key val lv nx 0 (.pointer (some ⟨F.fb,0,none⟩)) n l t y an er dn)::LT S (boxI Y [.int .i64 S.hs,.int .i64 0]::R)),fun v=>∃ b1 b2 l5,Env w0 (boxI o (opS S.c kd key val lv (cvP b1 b2) 0 (.pointer (some ⟨F.fb,0,none⟩)) n l t y an er dn)::boxI b1 [mvL 179 l5]::boxI b2 [cmV S.c kd key val lv o 5 54 134]::boxI l5 (av S.c { nx:=nxA l5 (decP S.ql S.ce S.cl),left:=.slice none 0 0,k:=kd,key:=key,val:=val,lv:=lv,h:=0,n:=0,r:=0,s:=0 })::LT S (boxI Y [.int .i64 S.hs,.int .i64 0]::R)) v]) ⟨nx,0,_,_,hE2.drew.get 0 rfl⟩ ⟨_,rfl,hE2.drew⟩ fun hT9=>?_
 repeat ((first
  | (refine Ord.cv ?_ hT9.o ?_ ?_; rotate_left; (intro w5 hS; obtain ⟨nx9,st9,er9,dn9,hS9⟩:=hS; have r:=Blk.rule hS9; unfold opS at r; go_simp<;>rfl))
  | (refine Ord.co hT9.o ?_));try simp only [Act.put,zA,zZ,zS])
 refine Ord.ch_turn (v:=.int .i64 0) 0 hT9.o rfl (by decide) (Or.inl rfl) (by rfl) ?_ ?_
 ·rintro w5 hC5 ⟨P5,hP5,hA5⟩;cases hP5;go_simp;simp only [Ord.LandsIn];refine (slotAlloc_n (S:=S) (R:=boxI o (opS S.c kd key val lv nx 0 (.pointer (some ⟨F.fb,0,none⟩)) n l t y an er dn)::boxI Y [.int .i64 S.hs,.int .i64 0]::R) (kd:=kd) (key:=key) (val:=val) (lv:=lv) (o:=o) (ro:=5) (FF:=54) (OV:=134) (m:=0) rfl (by simp [opS]) HH.out HD.out hA5.sbkS).mono ?_;rintro e w6 ⟨rfl,b1,b2,l5,hE6⟩;have hE7:Env w0 (boxI o (opS S.c kd key val lv (cvP b1 b2) 0 (.pointer (some ⟨F.fb,0,none⟩)) n l t y an er dn)::boxI b1 [mvL 179 l5]::boxI b2 [cmV S.c kd key val lv o 5 54 134]::boxI l5 (av S.c { nx:=nxA l5 (decP S.ql S.ce S.cl),left:=.slice none 0 0,k:=kd,key:=key,val:=val,lv:=lv,h:=0,n:=0,r:=0,s:=0 })::LT S (boxI Y [.int .i64 S.hs,.int .i64 0]::R)) w6:=hE6.perm (List.perm_middle (l₁:=[_,_,_,_,_,_,_]));exact ⟨rfl,by cases dn<;>first | exact ⟨_,_,_,Or.inl (hE7.get 0 rfl)⟩ | exact ⟨_,_,_,Or.inr (hE7.get 0 rfl)⟩,_,rfl,b1,b2,l5,hE7⟩
 try simp only [Act.put,zA,zZ,zS]
 repeat ((first
  | (refine Ord.cv ?_ hT9.o ?_ ?_; rotate_left; (intro w5 hS; skip; go_simp<;>rfl))
  | (refine Ord.co hT9.o ?_));try simp only [Act.put,zA,zZ,zS])
 refine Ord.InText.nil fun w5 hS=>?_;clear hT9;obtain ⟨hC9,hA9⟩:=Ord.chain_end hS;clear hS;obtain ⟨P9,hP9,hA9⟩:=hA9;cases hP9;obtain ⟨b1,b2,l5,hA9⟩:=hA9;clear hC9 hE2;go_wp2_with fail;go_ret;refine ⟨rfl,b1,b2,l5,?_⟩;exact (hA9.perm (L':=boxI Y [.int .i64 S.hs,.int .i64 0]::boxI o (opS S.c kd key val lv (cvP b1 b2) 0 (.pointer (some ⟨F.fb,0,none⟩)) n l t y an er dn)::boxI b1 [mvL 179 l5]::boxI b2 [cmV S.c kd key val lv o 5 54 134]::boxI l5 (av S.c { nx:=nxA l5 (decP S.ql S.ce S.cl),left:=.slice none 0 0,k:=kd,key:=key,val:=val,lv:=lv,h:=0,n:=0,r:=0,s:=0 })::LT S R) (perm_of fun z=>by simp only [LT,List.count_cons]; omega)).sub (.cons _ (List.Sublist.refl _))
theorem insHides_s (hh:S.hs≠0) (hck:S.ck=3) (hch:S.ch=(h:Int)) (hlv:1<=lv/\lv<=(h:Int)) (hhi:hidesM L lv.toNat=true) (hI:FdIn F S.c key L h R) (hfd:(L 0).fd=false) (hE:Env w0 (boxI o (opS S.c kd key val lv nx 0 (.pointer (some ⟨F.fb,0,none⟩)) n l t y an er dn)::LT S R) w) :
  Calls prog 132 #[.pointer (some ⟨o,0,none⟩)] w fun e w'=>e=.returned (.int .i64 0)/\∃ b1 b2 fb g,Env w0 (boxI o (opS S.c kd key val lv (cvP b1 b2) 0 (.pointer (some ⟨fb,0,none⟩)) n l t y an er dn)::boxI b1 [mvL 131 fb]::boxI b2 [mvL 100 o]::boxI fb (fdC S.c key (mvL 151 fb) 0 g h 0)::boxI g (List.replicate h (.pointer none))::LT S R) w':=by
 have hmf:=makeF;have hfo:=fdFound (hI.at9 hE (fun a ha=>by simp [LT,ha])) hI.hh;rw [hfd] at hfo;have HFO:=zH hfo;have r:=hE.rule 0 rfl;unfold opS at r;have HB:Hid ((S.hs != 0)=true):=zH (by simpa using hh);have hhd:=fun (Y:Nat) (v:World) (hv:Env w0 (boxI o (opS S.c kd key val lv nx 0 (.pointer (some ⟨F.fb,0,none⟩)) n l t y an er dn)::LT S (boxI Y [.int .i64 S.hs,.int .i64 0]::R)) v)=>hides_s (M:=LT S (boxI Y [.int .i64 S.hs,.int .i64 0]::R)) hlv (hI.more (fun a ha=>by simp [LT,ha])) hv;simp only [hhi] at hhd;have HHD:=zH hhd;have HC:=zH (And.intro hck hch);have HK:=zH hI.hh.2;clear hck hch;clear hfo hfd hh hhd hhi hlv hI;go_enter func132,ntmps132;go_wp2_with fail;refine HFO.out.mono ?_;rintro e w1 ⟨rfl,rfl⟩;go_wp2_with fail;refine (held_c (hE.get 1 rfl)).mono ?_;rintro e w2 ⟨rfl,hb⟩;rw [HB.out];have hE2:=(hE.over hb).box w2.heap.size rfl [.int .i64 S.hs,.int .i64 0] 110;clear hb hE r;go_wp2_with fail;generalize w2.alloc _=w3 at *;generalize w2.heap.size=Y at *;replace hE2:Env w0 (boxI o (opS S.c kd key val lv nx 0 (.pointer (some ⟨F.fb,0,none⟩)) n l t y an er dn)::LT S (boxI Y [.int .i64 S.hs,.int .i64 0]::R)) w3:=hE2.perm (perm_of fun z=>by simp only [LT,List.count_cons]; omega);refine (HHD.out Y _ hE2).mono ?_;rintro e w4 ⟨rfl,hE4⟩;clear hE2 HHD;have hck:=HC.out.1;have hch:=HC.out.2;have HBG:=zH (begin_s 0 HK.out (show (LT S (boxI Y [.int .i64 S.hs,.int .i64 0]::R))[0]?=some (coreI S.c 3 S.cs S.cb h S.cl S.ce S.cr S.hs 0 S.q) by rw [<- hck,<- hch]; rfl) hE4);clear hE4 hck hch;go_wp2_with fail;refine HBG.out.mono ?_;rintro e w5 ⟨rfl,b1,b2,fb,g,hE5⟩;have hE6:=(hE5.perm (L':=boxI Y [.int .i64 S.hs,.int .i64 0]::boxI o (opS S.c kd key val lv (cvP b1 b2) 0 (.pointer (some ⟨fb,0,none⟩)) n l t y an er dn)::boxI b1 [mvL 131 fb]::boxI b2 [mvL 100 o]::boxI fb (fdC S.c key (mvL 151 fb) 0 g h 0)::boxI g (List.replicate h (.pointer none))::LT S R) (perm_of fun z=>by simp only [LT,List.count_cons]; omega)).sub (.cons _ (List.Sublist.refl _));have HX:=zH hE6;clear hE5 hE6 HBG;go_wp2_with fail;go_ret;exact ⟨rfl,b1,b2,fb,g,HX.out⟩
theorem insHeld_s (hh:S.hs≠0) (hlv:1<=lv/\lv<=(h:Int)) (hhi:hidesM L lv.toNat=false) (hI:FdIn F S.c key L h R) (hfd:(L 0).fd=false) (hE:Env w0 (boxI o (opS S.c kd key val lv nx 0 (.pointer (some ⟨F.fb,0,none⟩)) n l t y an er dn)::LT S R) w) :
  Calls prog 132 #[.pointer (some ⟨o,0,none⟩)] w fun e w'=>e=.returned (.int .i64 0)/\Env w0 (boxI o (opS S.c kd key val lv (mvL 155 o) 0 (.pointer (some ⟨F.fb,0,none⟩)) S.hs 0 t y an er dn)::LT S R) w':=by
 have hmf:=makeF;have hfo:=fdFound (hI.at9 hE (fun a ha=>by simp [LT,ha])) hI.hh;rw [hfd] at hfo;have HFO:=zH hfo;have r:=hE.rule 0 rfl;unfold opS at r;have HB:Hid ((S.hs != 0)=true):=zH (by simpa using hh);have hhd:=fun (Y:Nat) (v:World) (hv:Env w0 (boxI o (opS S.c kd key val lv nx 0 (.pointer (some ⟨F.fb,0,none⟩)) n l t y an er dn)::LT S (boxI Y [.int .i64 S.hs,.int .i64 0]::R)) v)=>hides_s (M:=LT S (boxI Y [.int .i64 S.hs,.int .i64 0]::R)) hlv (hI.more (fun a ha=>by simp [LT,ha])) hv;simp only [hhi] at hhd;have HHD:=zH hhd;clear hfo hfd hh hhd hhi hlv hI;go_enter func132,ntmps132;go_wp2_with fail;refine HFO.out.mono ?_;rintro e w1 ⟨rfl,rfl⟩;go_wp2_with fail;refine (held_c (hE.get 1 rfl)).mono ?_;rintro e w2 ⟨rfl,hb⟩;rw [HB.out];have hE2:=(hE.over hb).box w2.heap.size rfl [.int .i64 S.hs,.int .i64 0] 110;clear hb hE r;go_wp2_with fail;generalize w2.alloc _=w3 at *;generalize w2.heap.size=Y at *;replace hE2:Env w0 (boxI o (opS S.c kd key val lv nx 0 (.pointer (some ⟨F.fb,0,none⟩)) n l t y an er dn)::LT S (boxI Y [.int .i64 S.hs,.int .i64 0]::R)) w3:=hE2.perm (perm_of fun z=>by simp only [LT,List.count_cons]; omega);refine (HHD.out Y _ hE2).mono ?_;rintro e w4 ⟨rfl,hE4⟩;clear hE2 HHD;have rY:=hE4.rule 5 rfl;have r:=hE4.rule 0 rfl;unfold opS at r;have f8:=hE4.thaw 0 rfl 8 (by simp [opS]);have f9:=hE4.thaw 0 rfl 9 (by simp [opS]);have f10:=hE4.thaw 0 rfl 10 (by simp [opS]);have hQ:=((hE4.put 0 rfl (j:=8) (by simp [opS]) (.int .i64 S.hs)).put 0 rfl (j:=9) (by simp [opS]) (.int .i64 0)).put 0 rfl (j:=10) (by simp [opS]) (.int .i64 0);replace hQ:Env w0 (boxI o (opS S.c kd key val lv nx 0 (.pointer (some ⟨F.fb,0,none⟩)) S.hs 0 t y an er dn)::LT S (boxI Y [.int .i64 S.hs,.int .i64 0]::R)) _:=hQ;clear hE4;go_wp2_with fail;refine (goOn_r (o:=5) 0 _ _ _ (by simp [opS]) hQ rfl).mono ?_;rintro e w7 ⟨rfl,hE7⟩;go_wp2_with fail;go_ret;replace hE7:Env w0 (boxI o (opS S.c kd key val lv (mvL 155 o) 0 (.pointer (some ⟨F.fb,0,none⟩)) S.hs 0 t y an er dn)::LT S (boxI Y [.int .i64 S.hs,.int .i64 0]::R)) _:=hE7;exact ⟨rfl,(hE7.perm (L':=boxI Y [.int .i64 S.hs,.int .i64 0]::boxI o (opS S.c kd key val lv (mvL 155 o) 0 (.pointer (some ⟨F.fb,0,none⟩)) S.hs 0 t y an er dn)::LT S R) (perm_of fun z=>by simp only [LT,List.count_cons]; omega)).sub (.cons _ (List.Sublist.refl _))⟩
theorem seaIns_s (u:Int) (Q:Int->World->Prop) (hE:Env w0 (boxI o (opS c 1 key val lv nx 0 fp n l t y an er dn)::M) w) (hc:Calls prog 132 #[.pointer (some ⟨o,0,none⟩)] w fun e w'=>∃ s,e=.returned (.int .i64 s)/\Q s w') :
  Calls prog 100 #[.pointer (some ⟨o,0,none⟩),.int .i64 u] w fun e w'=>∃ s,e=.returned (.int .i64 s)/\Q s w':=by
 have r:=hE.rule 0 rfl;unfold opS at r;have HC:=zH hc;clear hc hE;go_enter func100,ntmps100;go_wp2_with fail;refine HC.out.mono ?_;rintro e w1 ⟨s,rfl,hq⟩;go_wp2_with fail;go_ret;exact ⟨s,rfl,hq⟩
theorem seaDel_s (u:Int) (Q:Int->World->Prop) (hE:Env w0 (boxI o (opS c 2 key val lv nx 0 fp n l t y an er dn)::M) w) (hc:Calls prog 133 #[.pointer (some ⟨o,0,none⟩)] w fun e w'=>∃ s,e=.returned (.int .i64 s)/\Q s w') :
  Calls prog 100 #[.pointer (some ⟨o,0,none⟩),.int .i64 u] w fun e w'=>∃ s,e=.returned (.int .i64 s)/\Q s w':=by
 have r:=hE.rule 0 rfl;unfold opS at r;have HC:=zH hc;clear hc hE;go_enter func100,ntmps100;go_wp2_with fail;refine HC.out.mono ?_;rintro e w1 ⟨s,rfl,hq⟩;go_wp2_with fail;go_ret;exact ⟨s,rfl,hq⟩
theorem seaHas_s (u:Int) (h1:kd≠1) (h2:kd≠2) (hI:FdIn F c key L h M) (hE:Env w0 (boxI o (opS c kd key val lv nx 0 (.pointer (some ⟨F.fb,0,none⟩)) n l t y an er dn)::M) w) :
  Calls prog 100 #[.pointer (some ⟨o,0,none⟩),.int .i64 u] w fun e w'=>e=.returned (.int .i64 1)/\Env w0 (boxI o (opS c kd key val lv nx 1 (.pointer (some ⟨F.fb,0,none⟩)) n l t y an 0 (L 0).fd)::M) w':=by
 have b1:(kd==1)=false:=by simpa using h1
 have b2:(kd==2)=false:=by simpa using h2
 have HFO:=zH (fdFound (hI.at9 hE (fun a ha=>by simp [ha])) hI.hh);have HO:=zH fun (v:World) (hv:Env w0 (boxI o (opS c kd key val lv nx 0 (.pointer (some ⟨F.fb,0,none⟩)) n l t y an er dn)::M) v)=>over_s 0 (L 0).fd hv;have r:=hE.rule 0 rfl;unfold opS at r;clear hI h1 h2;go_enter func100,ntmps100;go_wp2_with fail;refine HFO.out.mono ?_;rintro e w1 ⟨rfl,rfl⟩;go_wp2_with fail;refine (HO.out _ hE).mono ?_;rintro e w2 ⟨rfl,hE2⟩;go_wp2_with fail;go_ret;exact ⟨rfl,hE2⟩
end
section
variable {w0 w:World} {L:List Item} {c o:Nat} {kd key val lv n l t y er:Int} {fp:Value} {an dn:Bool}
theorem step_sV (F p Y:Nat) (y9 u:Value) {b1 b2:Nat} (hx:∀ (ar:Array Value) (v:World),(callFunc F ar).run prog v=.ok (.enter F ar) v) (hy:∀ (ar:Array Value) (v:World),(callFunc Y ar).run prog v=.ok (.enter Y ar) v) (Q:Int->World->Prop)
  (hE:Env w0 (boxI o (opS c kd key val lv (cvP b1 b2) 0 fp n l t y an er dn)::boxI b1 [mvL F p]::boxI b2 [.func (.func Y) #[y9] #[]]::L) w)
  (hc:Calls prog F #[.pointer (some ⟨p,0,none⟩),u] w fun e w1=>∃ s,e=.returned (.int .i64 s)/\(s=0->Q 0 w1)/\(s≠0->w1.cell? ⟨b2,0,none⟩=some (.func (.func Y) #[y9] #[])/\Calls prog Y #[y9,.int .i64 s] w1 fun e2 w2=>∃ s2,e2=.returned (.int .i64 s2)/\Q s2 w2)) :
  Calls prog 16 #[.pointer (some ⟨o,0,none⟩),u] w fun e w'=>∃ s,e=.returned (.int .i64 s)/\Q s w':=by
 have HST:=zH (stepP_r (o:=5) F hx (.pointer (some ⟨p,0,none⟩)) u y9 Y hy b1 b2 Q (hE.rule 0 rfl 5) (hE.rule 0 rfl 6) (hE.rule 1 rfl 0) hc);clear hc hE;go_enter func16,ntmps16;go_wp2_with fail;refine HST.out.mono ?_;rintro e w1 ⟨s,rfl,hQ⟩;go_wp2_with fail;go_ret;exact ⟨s,rfl,hQ⟩
theorem stepMv_s (F:Nat) (u:Value) (hx:∀ (ar:Array Value) (v:World),(callFunc F ar).run prog v=.ok (.enter F ar) v) (Q:Int->World->Prop)
  (hE:Env w0 (boxI o (opS c kd key val lv (mvL F o) 0 fp n l t y an er dn)::L) w)
  (hc:Calls prog F #[.pointer (some ⟨o,0,none⟩),u] w fun e w'=>∃ s,e=.returned (.int .i64 s)/\Q s w') :
  Calls prog 16 #[.pointer (some ⟨o,0,none⟩),u] w fun e w'=>∃ s,e=.returned (.int .i64 s)/\Q s w':=by
 have HST:=zH (stepMv_r (o:=5) F hx (.pointer (some ⟨o,0,none⟩)) u (fun o w'=>∃ s,o=.returned (.int .i64 s)/\Q s w') (hE.rule 0 rfl 5) (hE.rule 0 rfl 6) (hc.mono fun e w' ⟨s,he,hq⟩=>⟨s,he,s,rfl,hq⟩));clear hc hE;go_enter func16,ntmps16;go_wp2_with fail;refine HST.out.mono ?_;rintro e w1 ⟨s,rfl,hQ⟩;go_wp2_with fail;go_ret;exact ⟨s,rfl,hQ⟩
theorem stepCv_s (u:Value) {b1 b2:Nat} (Q:Int->World->Prop)
  (hE:Env w0 (boxI o (opS c kd key val lv (cvS b1 b2) 0 fp n l t y an er dn)::L) w)
  (hc:Calls prog 216 #[u,.pointer (some ⟨b1,0,none⟩),.pointer (some ⟨b2,0,none⟩)] w fun e w'=>∃ s,e=.returned (.int .i64 s)/\Q s w') :
  Calls prog 16 #[.pointer (some ⟨o,0,none⟩),u] w fun e w'=>∃ s,e=.returned (.int .i64 s)/\Q s w':=by
 have HST:=zH (stepCv_r (o:=5) 216 b1 b2 (fun _ _=>by kernel_rfl) u (fun o w'=>∃ s,o=.returned (.int .i64 s)/\Q s w') (hE.rule 0 rfl 5) (hE.rule 0 rfl 6) (hc.mono fun e w' ⟨s,he,hq⟩=>⟨s,he,s,rfl,hq⟩));clear hc hE;go_enter func16,ntmps16;go_wp2_with fail;refine HST.out.mono ?_;rintro e w1 ⟨s,rfl,hQ⟩;go_wp2_with fail;go_ret;exact ⟨s,rfl,hQ⟩
end
theorem stepNil_s (u:Value) (w:World):Calls prog 16 #[.pointer none,u] w fun o w'=>o=.returned (.int .i64 1)/\w'=w:=by
 go_enter func16,ntmps16
 go_wp2
 go_ret;exact ⟨rfl,rfl⟩
theorem answerNil_s (w:World):Calls prog 17 #[.pointer none] w fun o w'=>o=.returned (.agg #[.int .i64 0,.bool false,.int .u64 0])/\Below w.heap.size w w':=by
 go_enter func17,ntmps17
 go_wp2
 exact bodyPost_ret (v:=.agg #[.int .i64 0,.bool false,.int .u64 0]) (by simp [results,results17,go_sem]) rfl ⟨rfl,(Below.refl _ _).alloc (Nat.le_refl _) _⟩
theorem answer_s {w:World} {o c:Nat} {kd key val lv st n l t y er:Int} {nx fp:Value} {an dn:Bool} (hb:Blk 0 w o (opS c kd key val lv nx st fp n l t y an er dn)):Calls prog 17 #[.pointer (some ⟨o,0,none⟩)] w fun p w'=>p=.returned (.agg #[.int .i64 er,.bool dn,.int .u64 0])/\Below w.heap.size w w':=by
 have r1:=cell_more hb.1 hb.rule;unfold opS at r1;go_enter func17,ntmps17
 go_wp2
 exact bodyPost_ret (v:=.agg #[.int .i64 er,.bool dn,.int .u64 0]) (by simp [results,results17,go_sem]) rfl ⟨rfl,(Below.refl _ _).alloc (Nat.le_refl _) _⟩
end
section
open Go.RowKit
theorem isAsked_any (k o:Int) (w:World):Calls prog 56 #[.int .i64 k,.int .i64 o] w fun e w'=>e=.returned (.bool (askB k o))/\w=w':=by
 go_enter func56,ntmps56
 go_wp2
 all_goals
  go_ret
  (try go_light)
  (try simp only [bne_iff_ne,ne_eq,bne_eq_false_iff_eq,beq_iff_eq,beq_eq_false_iff_ne,Bool.or_eq_true,Bool.and_eq_true,decide_eq_true_eq,decide_eq_false_iff_not,Bool.or_eq_false_iff,Bool.not_eq_true',Bool.not_eq_false'] at *)
  refine ⟨ret_bool ?_,(by first | rfl | trivial)⟩;rw [Bool.eq_iff_iff];unfold askB
  split
  ·simp; try omega
  ·split
   ·simp; try omega
   ·simp; try omega
theorem hasVal_any (o:Int) (w:World):Calls prog 58 #[.int .i64 o] w fun e w'=>e=.returned (.bool (putB o))/\w=w':=by
 go_enter func58,ntmps58
 go_wp2
 all_goals
  go_ret;refine ⟨ret_bool (by rw [Bool.eq_iff_iff]; simp [putB]; try omega),rfl⟩
theorem isLevel_any (k s b h l o x v y:Int) (w:World):Calls prog 57 #[.agg #[.int .i64 k,.int .i64 s,.int .i64 b,.int .i64 h,.int .i64 l],.agg #[.int .i64 o,.int .u64 x,.int .u64 v,.int .i64 y]] w fun e w'=>e=.returned (.bool (lvlB k h o y))/\Below w.heap.size w w':=by
 have hF:=((Fr.start w).push w.heap.size rfl [.int .i64 k,.int .i64 s,.int .i64 b,.int .i64 h,.int .i64 l] 23).push (w.heap.size+1) (by simp) [.int .i64 o,.int .u64 x,.int .u64 v,.int .i64 y] 51;go_enter func57,ntmps57;go_wp2_with
  (with_reducible refine (within_any _ _ _ _).mono ?_; rintro e w1 ⟨rfl,rfl⟩)
 all_goals
  go_ret
  (try go_light)
  (try simp only [bne_iff_ne,ne_eq,bne_eq_false_iff_eq,beq_iff_eq,beq_eq_false_iff_ne,Bool.or_eq_true,Bool.and_eq_true,decide_eq_true_eq,decide_eq_false_iff_not,Bool.or_eq_false_iff,Bool.not_eq_true',Bool.not_eq_false'] at *)
  (try subst_vars)
  refine ⟨ret_bool ?_,hF.below⟩;unfold lvlB
  split
  ·first | rfl | (exfalso; omega)
  ·rw [Bool.eq_iff_iff]; simp; try omega
theorem isOp_any (k s b h l o x v y:Int) (w:World):Calls prog 18 #[.agg #[.int .i64 k,.int .i64 s,.int .i64 b,.int .i64 h,.int .i64 l],.agg #[.int .i64 o,.int .u64 x,.int .u64 v,.int .i64 y]] w fun e w'=>e=.returned (.int .i64 (opI k s b h l o x v y))/\Below w.heap.size w w':=by
 have hF:=((Fr.start w).push w.heap.size rfl [.int .i64 k,.int .i64 s,.int .i64 b,.int .i64 h,.int .i64 l] 23).push (w.heap.size+1) (by simp) [.int .i64 o,.int .u64 x,.int .u64 v,.int .i64 y] 51;have r:=hF.rule 0 rfl;have q:=hF.rule 1 rfl;go_enter func18,ntmps18;go_wp2_with (first
  |
   (with_reducible refine (isAsked_any _ _ _).mono ?_; rintro e w1 ⟨rfl,rfl⟩)
  |
   (with_reducible refine (hasVal_any _ _).mono ?_; rintro e w1 ⟨rfl,rfl⟩)
  |
   (with_reducible refine (check_any _ _ _ _ _ _).mono ?_; rintro e w1 ⟨rfl,hb⟩; replace hF:=hF.over hb; clear hb r q; have r:=hF.rule 0 rfl; have q:=hF.rule 1 rfl)
  |
   (with_reducible refine (isLevel_any _ _ _ _ _ _ _ _ _ _).mono ?_; rintro e w1 ⟨rfl,hb⟩; replace hF:=hF.over hb; clear hb r q; have r:=hF.rule 0 rfl; have q:=hF.rule 1 rfl)
  )
 all_goals
  go_ret
  (try go_light)
  (try simp only [bne_iff_ne,ne_eq,bne_eq_false_iff_eq,beq_iff_eq,beq_eq_false_iff_ne,Bool.or_eq_true,Bool.and_eq_true,decide_eq_true_eq,decide_eq_false_iff_not,Bool.or_eq_false_iff,Bool.not_eq_true',Bool.not_eq_false'] at *)
  refine ⟨ret_int ?_,hF.below⟩
  (try simp only [putB,decide_eq_true_eq] at *)
  by_cases h8:o=8
  ·subst h8;simp_all [opI,argB]
  ·simp [opI,argB, *]
   (try omega)
end
section
open Go.RowKit Go.Maps
section
variable {w0 w:World} {L:List Item} {c q:Nat} {k s b h l e r hs hi:Int}
theorem kind_ofS (v:World) (a b c d e:Int):(Instr.field 23 (.agg #[.int .i64 a,.int .i64 b,.int .i64 c,.int .i64 d,.int .i64 e]) 0).run prog v=.ok (.int .i64 a) v:=by kernel_rfl
theorem newNil_s (kd key val lv:Int) (w:World) :
  Calls prog 15 #[.pointer none,.agg #[.int .i64 kd,.int .u64 key,.int .u64 val,.int .i64 lv]] w fun o w'=>o=.returned (.pointer none)/\Below w.heap.size w w':=by
 go_enter func15,ntmps15;go_wp2_with fail;refine wp_text (S:=(fun v=>Below w.heap.size w v)) (by kernel_rfl) (by kernel_rfl) ((Below.refl _ _).alloc (Nat.le_refl _) _).drew (fun hT=>?_);have hT9:=zH hT;clear hT
 repeat ((first
  | (refine text_value (v:=?_) hT9.o (by rfl) ?_ ?_; rotate_left; (intro w5 hS; skip; go_simp<;>rfl))
  | (refine text_off hT9.o (by rfl) ?_)
  | (refine text_call (v:=?_) (f:=?_) (args:=?_) hT9.o (by rfl) ?_ ?_ ?_; rotate_left 3; (intro w5 hS; skip; go_simp; constructor<;>rfl); (intro w5 hS; (first | fail))));try simp only [Act.put,zA,zZ,zS])
 refine InText.nil fun w5 hS5=>?_;clear hT9
 go_wp2
 go_ret;exact ⟨rfl,hS5⟩
theorem newNo_s (i:Nat) (kd key val lv:Int) (hno:k≠3\/kd=8\/opI k s b h l kd key val lv≠0) (hm:L[i]?=some (coreI c k s b h l e r hs hi q)) (hE:Env w0 L w) :
  Calls prog 15 #[.pointer (some ⟨c,0,none⟩),.agg #[.int .i64 kd,.int .u64 key,.int .u64 val,.int .i64 lv]] w fun o w'=>o=.returned (.pointer none)/\Env w0 L w':=by
 have hko:=kind_ofS;have hE1:=hE.box w.heap.size rfl [.int .i64 kd,.int .u64 key,.int .u64 val,.int .i64 lv] 51;have hm1:(boxI w.heap.size [.int .i64 kd,.int .u64 key,.int .u64 val,.int .i64 lv]::L)[i+1]?=some (coreI c k s b h l e r hs hi q):=hm;have HCF:=zH fun (v:World) (hv:Env w0 (boxI w.heap.size [.int .i64 kd,.int .u64 key,.int .u64 val,.int .i64 lv]::L) v)=>conf_c (hv.get (i+1) hm1);have hIO:=fun v=>isOp_any k s b h l kd key val lv v;obtain ⟨io,hio⟩:∃ io,opI k s b h l kd key val lv=io:=⟨_,rfl⟩;simp only [hio] at hIO hno;have HIO:=zH hIO;clear hio hIO hE hm;go_enter func15,ntmps15;go_wp2_with fail;generalize w.alloc _=w2 at *;generalize w.heap.size=Y at *
 by_cases h1:k=3
 ·have b1:(k != 3)=false:=by simpa using h1
  by_cases h2:kd=8
  ·have b2:(kd==8)=true:=by simpa using h2
   clear h1 h2 hno;refine wp_text (S:=(Env w0 (boxI Y [.int .i64 kd,.int .u64 key,.int .u64 val,.int .i64 lv]::L))) (by kernel_rfl) (by kernel_rfl) hE1.drew (fun hT=>?_);have hT9:=zH hT;clear hT
   repeat ((first
    | (refine text_value (v:=?_) hT9.o (by rfl) ?_ ?_; rotate_left; (intro w5 hS; have r0:=hS.rule 0 rfl; go_simp<;>rfl))
    | (refine text_off hT9.o (by rfl) ?_)
    | (refine text_call (v:=?_) (f:=?_) (args:=?_) hT9.o (by rfl) ?_ ?_ ?_; rotate_left 3; (intro w5 hS; have r0:=hS.rule 0 rfl; go_simp; constructor<;>rfl); (intro w5 hS; (first | (with_reducible refine kp (HCF.out _ hS) ?_ ?_; rfl; exact fun w6 hb5=>hS.over hb5)))));try simp only [Act.put,zA,zZ,zS])
   refine InText.nil fun w5 hS5=>?_;clear hT9;clear hE1;go_wp2_with fail;go_ret;exact ⟨rfl,hS5.sub (.cons _ (List.Sublist.refl _))⟩
  ·have b2:(kd==8)=false:=by simpa using h2
   have b3:(io != 0)=true:=by simpa [h1,h2] using hno
   clear h1 h2 hno;refine wp_text (S:=(Env w0 (boxI Y [.int .i64 kd,.int .u64 key,.int .u64 val,.int .i64 lv]::L))) (by kernel_rfl) (by kernel_rfl) hE1.drew (fun hT=>?_);have hT9:=zH hT;clear hT
   repeat ((first
    | (refine text_value (v:=?_) hT9.o (by rfl) ?_ ?_; rotate_left; (intro w5 hS; have r0:=hS.rule 0 rfl; go_simp<;>rfl))
    | (refine text_off hT9.o (by rfl) ?_)
    | (refine text_call (v:=?_) (f:=?_) (args:=?_) hT9.o (by rfl) ?_ ?_ ?_; rotate_left 3; (intro w5 hS; have r0:=hS.rule 0 rfl; go_simp; constructor<;>rfl); (intro w5 hS; (first | (with_reducible refine kp (HCF.out _ hS) ?_ ?_; rfl; exact fun w6 hb5=>hS.over hb5) | (with_reducible refine kp (HIO.out _) ?_ ?_; rfl; exact fun w6 hb5=>hS.over hb5)))));try simp only [Act.put,zA,zZ,zS])
   refine InText.nil fun w5 hS5=>?_;clear hT9;clear hE1;go_wp2_with fail;go_ret;exact ⟨rfl,hS5.sub (.cons _ (List.Sublist.refl _))⟩
 ·have b1:(k != 3)=true:=by simpa using h1
  clear h1 hno;refine wp_text (S:=(Env w0 (boxI Y [.int .i64 kd,.int .u64 key,.int .u64 val,.int .i64 lv]::L))) (by kernel_rfl) (by kernel_rfl) hE1.drew (fun hT=>?_);have hT9:=zH hT;clear hT
  repeat ((first
   | (refine text_value (v:=?_) hT9.o (by rfl) ?_ ?_; rotate_left; (intro w5 hS; have r0:=hS.rule 0 rfl; go_simp<;>rfl))
   | (refine text_off hT9.o (by rfl) ?_)
   | (refine text_call (v:=?_) (f:=?_) (args:=?_) hT9.o (by rfl) ?_ ?_ ?_; rotate_left 3; (intro w5 hS; have r0:=hS.rule 0 rfl; go_simp; constructor<;>rfl); (intro w5 hS; (first | (with_reducible refine kp (HCF.out _ hS) ?_ ?_; rfl; exact fun w6 hb5=>hS.over hb5)))));try simp only [Act.put,zA,zZ,zS])
  refine InText.nil fun w5 hS5=>?_;clear hT9;clear hE1;go_wp2_with fail;go_ret;exact ⟨rfl,hS5.sub (.cons _ (List.Sublist.refl _))⟩
theorem newYes_s {H:Nat} (hH:H<=1000) (i:Nat) (kd key val lv:Int) (h2:kd≠8) (h3:opI 3 s b (H:Int) l kd key val lv=0) (hm:L[i]?=some (coreI c 3 s b (H:Int) l e r hs hi q)) (hE:Env w0 L w) :
  Calls prog 15 #[.pointer (some ⟨c,0,none⟩),.agg #[.int .i64 kd,.int .u64 key,.int .u64 val,.int .i64 lv]] w fun p w'=>∃ o b1 b2 fb g,p=.returned (.pointer (some ⟨o,0,none⟩))/\Env w0 (boxI o (opS c kd key val lv (cvP b1 b2) 0 (.pointer (some ⟨fb,0,none⟩)) 0 0 0 0 false 0 false)::boxI b1 [mvL 131 fb]::boxI b2 [mvL 100 o]::boxI fb (fdC c key (mvL 151 fb) 0 g H 0)::boxI g (List.replicate H (.pointer none))::L) w':=by
 have hko:=kind_ofS;have hE1:=hE.box w.heap.size rfl [.int .i64 kd,.int .u64 key,.int .u64 val,.int .i64 lv] 51;have hm1:(boxI w.heap.size [.int .i64 kd,.int .u64 key,.int .u64 val,.int .i64 lv]::L)[i+1]?=some (coreI c 3 s b (H:Int) l e r hs hi q):=hm;have HCF:=zH fun (v:World) (hv:Env w0 (boxI w.heap.size [.int .i64 kd,.int .u64 key,.int .u64 val,.int .i64 lv]::L) v)=>conf_c (hv.get (i+1) hm1);have hIO:=fun v=>isOp_any 3 s b (H:Int) l kd key val lv v;simp only [h3] at hIO;have HIO:=zH hIO;have b2:(kd==8)=false:=by simpa using h2
 clear hIO hE hm h2 h3;go_enter func15,ntmps15;go_wp2_with fail;generalize w.alloc _=w2 at *;generalize w.heap.size=Y at *;refine wp_text (S:=(Env w0 (boxI Y [.int .i64 kd,.int .u64 key,.int .u64 val,.int .i64 lv]::L))) (by kernel_rfl) (by kernel_rfl) hE1.drew (fun hT=>?_);have hT9:=zH hT;clear hT
 repeat ((first
  | (refine text_value (v:=?_) hT9.o (by rfl) ?_ ?_; rotate_left; (intro w5 hS; have r0:=hS.rule 0 rfl; go_simp<;>rfl))
  | (refine text_off hT9.o (by rfl) ?_)
  | (refine text_call (v:=?_) (f:=?_) (args:=?_) hT9.o (by rfl) ?_ ?_ ?_; rotate_left 3; (intro w5 hS; have r0:=hS.rule 0 rfl; go_simp; constructor<;>rfl); (intro w5 hS; (first | (with_reducible refine kp (HCF.out _ hS) ?_ ?_; rfl; exact fun w6 hb5=>hS.over hb5) | (with_reducible refine kp (HIO.out _) ?_ ?_; rfl; exact fun w6 hb5=>hS.over hb5)))));try simp only [Act.put,zA,zZ,zS])
 refine InText.nil fun w5 hS5=>?_;clear hT9;clear hE1;have r0:=hS5.rule 0 rfl;go_wp2_with fail;have hE6:=hS5.box w5.heap.size rfl (opS c kd key val lv .nilFunc 0 (.pointer none) 0 0 0 0 false 0 false) 129;refine (begin_s (i+1) hH hm1 hE6).mono ?_;rintro p w6 ⟨rfl,b1,b3,fb,g,hE7⟩;go_wp2_with fail;go_ret;exact ⟨_,b1,b3,fb,g,rfl,hE7.sub (.cons_cons _ (.cons_cons _ (.cons_cons _ (.cons_cons _ (.cons_cons _ (.cons _ (List.Sublist.refl _)))))))⟩
end
section
variable {w0 w:World} {R:List Item} {C:Cf} {d:Dd} {X:Tm} {V:Wm} {T:Th} {f:Plc->Int} {G FU:Nat->Prop} {qc:Cnt} {n r b:Nat} {ml:List OneR}
theorem rePx (hn:n < maxLen) (hl:T.ql.length+1<=1000000) (he:InU T.re) (hs:In64 T.rs) (hE:Env w0 (boxI r (rtv X.c (nxR r T.rpc) T.rs T.re)::LT (SP C X V T f G qc n) R) w) :
  Calls prog 304 #[.pointer (some ⟨r,0,none⟩),.iface 28 (.pointer (some ⟨V.p,0,none⟩))] w fun o w'=>o=.returned (.int .i64 (retireM T f).1)/\∃ (F':Nat->Prop) (k':Nat) (G':Nat->Prop) (qc':Cnt) (n':Nat),Nx n qc n' qc'/\(((retireM T f).1=0/\Env w0 (boxI r (rtv X.c (nxR r (retireM T f).2.1.rpc) (retireM T f).2.1.rs (retireM T f).2.1.re)::LT (SP C { X with F:=F',kq:=k' } V (retireM T f).2.1 (retireM T f).2.2 G' qc' n') R) w')\/((retireM T f).1≠0/\Env w0 (LT (SP C { X with F:=F',kq:=k' } V (retireM T f).2.1 (retireM T f).2.2 G' qc' n') R) w')):=by
 by_cases h0:T.rpc=0
 ·have hal:retireM T f=(0,{ T with re:=f (1,0,0),rpc:=1 },f):=by unfold retireM; rw [if_pos h0]
  rw [hal];rw [h0] at hE;refine (step_ry (S:=SP C X V T f G qc n) 0 _ hE rfl (loadEpoch_r (S:=SP C X V T f G qc n) _ rfl (zH rfl) hE)).mono ?_;rintro o w1 ⟨rfl,hE1⟩;exact ⟨rfl,X.F,X.kq,G,_,n,⟨by omega,(by first | exact Or.inl ⟨rfl,rfl,rfl,rfl⟩ | exact Or.inr (Or.inl ⟨rfl,rfl,rfl,rfl⟩) | exact Or.inr (Or.inr (Or.inl ⟨rfl,rfl,rfl,rfl⟩)) | exact Or.inr (Or.inr (Or.inr ⟨rfl,rfl,rfl,rfl⟩)))⟩,.inl ⟨rfl,hE1⟩⟩
 ·have hal:retireM T f=(1,{ T with ql:=T.ql++[(T.rs,epI T.re,0)] },upd f (5,T.rs,1) T.re):=by unfold retireM; rw [if_neg h0]
  rw [hal];have hnx:nxR r T.rpc=nxR r 1:=by unfold nxR fnR; rw [if_neg h0,if_neg (by decide)]
  rw [hnx] at hE;refine (step_ry (S:=SP C X V T f G qc n) 1 _ hE rfl (store_r (S:=SP C X V T f G qc n) he hs hn (Nat.le_trans hl (by decide)) hE)).mono ?_;rintro o w1 ⟨rfl,k',F',G',-,hE1⟩;exact ⟨rfl,F',k',G',_,n+1,⟨Nat.le_refl _,(by first | exact Or.inl ⟨rfl,rfl,rfl,rfl⟩ | exact Or.inr (Or.inl ⟨rfl,rfl,rfl,rfl⟩) | exact Or.inr (Or.inr (Or.inl ⟨rfl,rfl,rfl,rfl⟩)) | exact Or.inr (Or.inr (Or.inr ⟨rfl,rfl,rfl,rfl⟩)))⟩,.inr ⟨show (1:Int)≠0 by decide,hE1⟩⟩
end
def FIt (c fb h:Nat) (key:Int) (on:Bool) (fl:Nat) (L:Nat->Lm) (s:Int) (sub:List Item):Prop :=
 (on=false/\s=0/\∃ g ps l0,ps.length=h/\sub=[boxI fb (fdC c key (mvL 151 fb) 0 g h l0),boxI g ps]) \/
 (on=true/\fl < h/\∃ g ps a D b1 b2 nx ny wd B1 B2,ps.length=h/\ps[fl]?=some (.pointer (some ⟨a,0,none⟩))/\(∀ l,fl < l->l < h->ps[l]?=some (.pointer (some ⟨(D l).1,0,none⟩)))/\(s=0->nx=cvP b1 b2)/\(s=0->NxOk a (L fl).pc ny B1 B2/\((L fl).pc=7->wd=(L fl).K)/\((L fl).pc=9->wd=(L fl).V))/\sub=boxI a (laneV c fl key false ny s wd (pfS s (L fl)) (pvS s (L fl)) (L fl))::B1::B2::boxI b1 [mvL 206 a]::boxI b2 [mvL 207 fb]::boxI fb (fdC c key nx s g h fl)::boxI g ps::dnL c key L D fl (h - 1 - fl))
section
variable {w0 w:World} {R sub:List Item} {fb h:Nat} {S:ST} {key s e r:Int} {on:Bool} {fl:Nat} {L:Nat->Lm} {F:Fm}
theorem FIt.toR (hI:FIt S.c fb h key on fl L s sub) (he:S.ce=e) (hr:S.cr=r) (hE:Env w0 (sub++LT S R) w):FindR w0 R fb h key S s ⟨on,fl,L,e,r⟩ w:=by
 rcases hI with ⟨rfl,rfl,g,ps,l0,hps,rfl⟩ | ⟨rfl,hlt,g,ps,a,D,b1,b2,nx,ny,wd,B1,B2,hps,h1,h2,h3,h4,rfl⟩
 ·exact ⟨he,hr,.inl ⟨rfl,rfl,g,ps,l0,hps,hE⟩⟩
 ·exact ⟨he,hr,.inr ⟨rfl,hlt,g,ps,a,D,b1,b2,nx,hps,h1,h2,h3,ny,wd,B1,B2,h4,hE.perm (perm_of fun z=>by simp only [LT,List.cons_append,List.count_append,List.count_cons]; omega)⟩⟩
theorem FindR.toI (hR:FindR w0 R fb h key S s F w):∃ sub,FIt S.c fb h key F.on F.lv F.L s sub/\Env w0 (sub++LT S R) w:=by
 obtain ⟨-,-,⟨hoff,rfl,g,ps,l0,hps,hE⟩ | ⟨hon,hlt,g,ps,a,D,b1,b2,nx,hps,h1,h2,h3,ny,wd,B1,B2,h4,hE⟩⟩:=hR
 ·exact ⟨_,.inl ⟨hoff,rfl,g,ps,l0,hps,rfl⟩,hE⟩
 ·exact ⟨_,.inr ⟨hon,hlt,g,ps,a,D,b1,b2,nx,ny,wd,B1,B2,hps,h1,h2,h3,h4,rfl⟩,hE.perm (perm_of fun z=>by simp only [LT,List.cons_append,List.count_append,List.count_cons]; omega)⟩
end
def SPK (C:Cf) (X:Tm) (V:Wm) (K:Kt) (f:Mem) (G:Nat->Prop) (qc:Cnt) (n:Nat):ST:=SP C { X with cr:=K.r } V K.T f G qc n
section
variable {w0 w:World} {R sub:List Item} {C:Cf} {X:Tm} {V:Wm} {f:Mem} {G:Nat->Prop} {qc:Cnt} {n fb h:Nat} {key:Int} {on:Bool} {fl:Nat} {L:Nat->Lm} {T:Th} {r:Int}
theorem find_I (hh:1<=h) (hh2:h<=1000) (hF:FmOk h ⟨on,fl,L,T.e,r⟩) (hg:Glo w0) (hn:n < maxLen) (hS:FIt X.c fb h key on fl L 0 sub) (hE:Env w0 (sub++LT (SP C { X with cr:=r } V T f G qc n) R) w) :
  Calls prog 131 #[.pointer (some ⟨fb,0,none⟩),.iface 28 (.pointer (some ⟨V.p,0,none⟩))] w fun o w'=>o=.returned (.int .i64 (downM h key ⟨on,fl,L,T.e,r⟩ f).1)/\∃ G' qc' n' sub',Nx n qc n' qc'/\FIt X.c fb h key (downM h key ⟨on,fl,L,T.e,r⟩ f).2.1.on (downM h key ⟨on,fl,L,T.e,r⟩ f).2.1.lv (downM h key ⟨on,fl,L,T.e,r⟩ f).2.1.L (downM h key ⟨on,fl,L,T.e,r⟩ f).1 sub'/\((downM h key ⟨on,fl,L,T.e,r⟩ f).1=1->FindR w0 R fb h key (SP C { X with cr:=(downM h key ⟨on,fl,L,T.e,r⟩ f).2.1.r } V { T with e:=(downM h key ⟨on,fl,L,T.e,r⟩ f).2.1.e } (downM h key ⟨on,fl,L,T.e,r⟩ f).2.2 G' qc' n') 1 (downM h key ⟨on,fl,L,T.e,r⟩ f).2.1 w')/\Env w0 (sub'++LT (SP C { X with cr:=(downM h key ⟨on,fl,L,T.e,r⟩ f).2.1.r } V { T with e:=(downM h key ⟨on,fl,L,T.e,r⟩ f).2.1.e } (downM h key ⟨on,fl,L,T.e,r⟩ f).2.2 G' qc' n') R) w':=by
 have hR:=hS.toR (S:=SP C { X with cr:=r } V T f G qc n) (e:=T.e) (r:=r) rfl rfl hE;refine (down_l (S:=SP C { X with cr:=r } V T f G qc n) (F:=⟨on,fl,L,T.e,r⟩) hh hh2 hF hg hn hR).mono ?_;rintro o w1 ⟨s,rfl,hs,G',hR'⟩;subst hs;have hST:downS key (SP C { X with cr:=r } V T f G qc n) ⟨on,fl,L,T.e,r⟩ G'=SP C { X with cr:=(downM h key ⟨on,fl,L,T.e,r⟩ f).2.1.r } V { T with e:=(downM h key ⟨on,fl,L,T.e,r⟩ f).2.1.e } (downM h key ⟨on,fl,L,T.e,r⟩ f).2.2 (downS key (SP C { X with cr:=r } V T f G qc n) ⟨on,fl,L,T.e,r⟩ G').G (downS key (SP C { X with cr:=r } V T f G qc n) ⟨on,fl,L,T.e,r⟩ G').qc (downS key (SP C { X with cr:=r } V T f G qc n) ⟨on,fl,L,T.e,r⟩ G').m:=by
  have he:(downS key (SP C { X with cr:=r } V T f G qc n) ⟨on,fl,L,T.e,r⟩ G').ce=(downM h key ⟨on,fl,L,T.e,r⟩ f).2.1.e:=hR'.1;have hr:(downS key (SP C { X with cr:=r } V T f G qc n) ⟨on,fl,L,T.e,r⟩ G').cr=(downM h key ⟨on,fl,L,T.e,r⟩ f).2.1.r:=hR'.2.1;rw [<- he,<- hr];cases on<;>rfl
 have hR2:=hR';rw [hST] at hR2;obtain ⟨sub',hS',hE'⟩:=hR2.toI;refine ⟨rfl,(downS key (SP C { X with cr:=r } V T f G qc n) ⟨on,fl,L,T.e,r⟩ G').G,(downS key (SP C { X with cr:=r } V T f G qc n) ⟨on,fl,L,T.e,r⟩ G').qc,(downS key (SP C { X with cr:=r } V T f G qc n) ⟨on,fl,L,T.e,r⟩ G').m,sub',⟨?_,?_⟩,hS',fun h1=>?_,hE'⟩
 ·unfold downS;cases on
  ·exact Nat.le_succ n
  ·show (laneS fl key false (SP C { X with cr:=r } V T f G qc n) (L fl) G').m<=n+1;unfold laneS;dsimp only
   split
   ·exact Nat.le_refl _
   ·exact Nat.le_succ n
 ·unfold downS;cases on
  ·exact Or.inl ⟨rfl,rfl,rfl,rfl⟩
  ·show One qc (laneS fl key false (SP C { X with cr:=r } V T f G qc n) (L fl) G').qc;unfold laneS laneQ;dsimp only
   split
   ·unfold swq
    first | exact Or.inr (Or.inr (Or.inl ⟨rfl,rfl,rfl,rfl⟩)) | (split<;>exact Or.inr (Or.inr (Or.inl ⟨rfl,rfl,rfl,rfl⟩)))
   ·exact Or.inl ⟨rfl,rfl,rfl,rfl⟩
 ·have h1':(downM h key ⟨on,fl,L,T.e,r⟩ (SP C { X with cr:=r } V T f G qc n).f).1=1:=h1;rw [h1'] at hR2;exact hR2
end
def fnF (ft:Nat):Nat:=if ft=1 then 276 else if ft=2 then 292 else 100
def mvF (pc:Nat):Nat :=
 if pc=3 then 155 else if pc=4 then 182 else if pc=5 then 245 else if pc=6 then 244 else if pc=9 then 275 else if pc=10 then 243
 else if pc=11 then 157 else if pc=13 then 218 else if pc=15 then 277 else 294
def FdOk (F:Fd) (h:Nat):Prop:=∀ l,l < h->F.ps[l]?=some (.pointer (some ⟨(F.D l).1,0,none⟩))
def PM (C:Cf) (c:Nat) (d:Dd) (K:Kt) (o:Nat) (ps:List Item):Prop :=
 (K.pc=1/\∃ b1 b2 fb n l t y sub,ps=boxI o (opS c d.ok d.key d.val d.lv (cvP b1 b2) 0 (.pointer (some ⟨fb,0,none⟩)) n l t y K.an 0 false)::boxI b1 [mvL 131 fb]::boxI b2 [mvL (fnF K.ft) o]::sub/\(K.ft≠0->n=K.n)/\(K.ft=1->l=(K.lv:Int))/\FIt c fb C.h.toNat d.key K.on K.fl K.L 0 sub) \/
 (K.pc=2/\∃ b1 b2 fp n l t y a left s gl,ps=boxI o (opS c d.ok d.key d.val d.lv (cvP b1 b2) 0 fp n l t y K.an 0 false)::boxI b1 [mvL 179 a]::boxI b2 [cmV c d.ok d.key d.val d.lv o 5 54 134]::boxI a (avD c a d K.T left s)::gl/\LeftIs C d K.T left s gl) \/
 ((K.pc=3\/K.pc=4\/K.pc=5\/K.pc=6\/K.pc=9)/\∃ F t y,ps=boxI o (opS c d.ok d.key d.val d.lv (mvL (mvF K.pc) o) 0 (.pointer (some ⟨F.fb,0,none⟩)) K.n (K.lv:Int) t y K.an 0 false)::F.its c d.key K.L C.h.toNat/\FdOk F C.h.toNat/\(K.pc=9->y=K.y)) \/
 ((K.pc=10\/K.pc=11\/K.pc=13\/K.pc=15\/K.pc=16)/\∃ fp l t y,ps=[boxI o (opS c d.ok d.key d.val d.lv (mvL (mvF K.pc) o) 0 fp K.n l t y K.an 0 false)]/\(K.pc=13\/K.pc=15->l=(K.lv:Int))/\(K.pc=15->y=K.y)) \/
 (K.pc=12/\∃ b1 b2 fp l y,ps=[boxI o (opS c d.ok d.key d.val d.lv (cvS b1 b2) 0 fp K.n l K.y y K.an 0 false),boxI b1 [.pointer (some ⟨o,0,none⟩)],boxI b2 [mvL 187 o]]) \/
 (K.pc=14/\∃ b1 b2 fp t,ps=[boxI o (opS c d.ok d.key d.val d.lv (cvS b1 b2) 0 fp K.n (K.lv:Int) t K.y K.an 0 false),boxI b1 [.pointer (some ⟨o,0,none⟩)],boxI b2 [mvL 246 o]]) \/
 (K.pc=7/\∃ b1 b2 fp n l t y r,ps=[boxI o (opS c d.ok d.key d.val d.lv (cvP b1 b2) 0 fp n l t y K.an 0 false),boxI b1 [mvL 304 r],boxI b2 [mvL 291 o],boxI r (rtv c (nxR r K.T.rpc) K.T.rs K.T.re)])
def OutP (w0:World) (R:List Item) (C:Cf) (X:Tm) (V:Wm) (d:Dd) (o n:Nat) (qc:Cnt) (q:Int × Kt × Mem) (s:Int) (w':World):Prop :=
 s=q.1/\∃ F' k' G' qc' n' ps',Nx n qc n' qc'/\(q.1=0->PM C X.c d q.2.1 o ps')/\(q.1≠0->∃ nx fp n l t y an,ps'=[boxI o (opS X.c d.ok d.key d.val d.lv nx q.1 fp n l t y an q.2.1.err q.2.1.dn)])/\Env w0 (ps'++LT (SPK C { X with F:=F',kq:=k' } V q.2.1 q.2.2 G' qc' n') R) w'
section
variable {w0 w w':World} {R N:List Item} {C:Cf} {X:Tm} {V:Wm} {d:Dd} {o n n':Nat} {K K':Kt} {f f':Mem} {G G':Nat->Prop} {qc qc':Cnt} {q:Int × Kt × Mem}
theorem OutP.on {ps':List Item} (hq:q=(0,K',f')) (hn:Nx n qc n' qc') (hp:PM C X.c d K' o ps') (hE:Env w0 (ps'++LT (SPK C X V K' f' G' qc' n') R) w'):OutP w0 R C X V d o n qc q 0 w':=by
 subst hq;exact ⟨rfl,X.F,X.kq,G',qc',n',ps',hn,fun _=>hp,fun h=>absurd rfl h,hE⟩
theorem OutP.find {a b1 b2 fb g Y:Nat} {n0 l t y:Int} {L':Nat->Lm} (hq:q=(0,{ K' with pc:=1,ft:=a,on:=false,fl:=0,L:=L' },f')) (hY:Y=fnF a) (h1:a≠0->n0=K'.n) (h2:a=1->l=(K'.lv:Int)) (hn:Nx n qc n' qc')
  (hE:Env w0 (boxI o (opS X.c d.ok d.key d.val d.lv (cvP b1 b2) 0 (.pointer (some ⟨fb,0,none⟩)) n0 l t y K'.an 0 false)::boxI b1 [mvL 131 fb]::boxI b2 [mvL Y o]::boxI fb (fdC X.c d.key (mvL 151 fb) 0 g C.h.toNat 0)::boxI g (List.replicate C.h.toNat (.pointer none))::LT (SPK C X V K' f' G' qc' n') (N++R)) w'):OutP w0 R C X V d o n qc q 0 w':=by
 subst hY;refine OutP.on (ps':=_::_::_::[boxI fb (fdC X.c d.key (mvL 151 fb) 0 g C.h.toNat 0),boxI g (List.replicate C.h.toNat (.pointer none))]) hq hn (.inl ⟨rfl,b1,b2,fb,n0,l,t,y,_,rfl,h1,h2,.inl ⟨rfl,rfl,g,_,0,List.length_replicate,rfl⟩⟩) (G':=G') ?_;have hE2:=hE.perm (L':=N++(boxI o (opS X.c d.ok d.key d.val d.lv (cvP b1 b2) 0 (.pointer (some ⟨fb,0,none⟩)) n0 l t y K'.an 0 false)::boxI b1 [mvL 131 fb]::boxI b2 [mvL (fnF a) o]::boxI fb (fdC X.c d.key (mvL 151 fb) 0 g C.h.toNat 0)::boxI g (List.replicate C.h.toNat (.pointer none))::LT (SPK C X V K' f' G' qc' n') R)) (perm_of fun z=>by simp only [LT,List.count_append,List.count_cons]; omega);exact hE2.sub (List.sublist_append_right _ _)
theorem OutP.fin {s:Int} {nx fp:Value} {n0 l t y:Int} {an:Bool} (hq:q=(s,K',f')) (hs:s≠0) (hn:Nx n qc n' qc')
  (hE:Env w0 (boxI o (opS X.c d.ok d.key d.val d.lv nx s fp n0 l t y an K'.err K'.dn)::LT (SPK C X V K' f' G' qc' n') R) w'):OutP w0 R C X V d o n qc q s w':=by
 subst hq;exact ⟨rfl,X.F,X.kq,G',qc',n',[_],hn,fun h=>absurd h hs,fun _=>⟨nx,fp,n0,l,t,y,an,rfl⟩,hE⟩
theorem drop_its {b:Item} {S:ST} (hE:Env w0 (b::LT S (N++R)) w):Env w0 (b::LT S R) w :=
 (hE.perm (L':=N++(b::LT S R)) (perm_of fun z=>by simp only [LT,List.count_append,List.count_cons]; omega)).sub (List.sublist_append_right _ _)
theorem nxL:Nx n qc n { qc with l:=wrap64 (qc.l+1) }:=⟨Nat.le_succ _,Or.inl ⟨rfl,rfl,rfl,rfl⟩⟩
theorem nxS:Nx n qc (n+1) { qc with s:=wrap64 (qc.s+1) }:=⟨Nat.le_refl _,Or.inr (Or.inl ⟨rfl,rfl,rfl,rfl⟩)⟩
theorem nxW {b:Bool}:Nx n qc (n+1) (swq qc b):=⟨Nat.le_refl _,by
 unfold swq
 first | exact Or.inr (Or.inr (Or.inl ⟨rfl,rfl,rfl,rfl⟩)) | (split<;>exact Or.inr (Or.inr (Or.inl ⟨rfl,rfl,rfl,rfl⟩)))⟩
theorem its_in {F:Fd} {c h:Nat} {key:Int} {L:Nat->Lm} (hF:FdOk F h) (hh:1<=h/\h<=1000):FdIn F c key L h (F.its c key L h++R):=⟨fun a ha=>List.mem_append_left _ ha,hF,hh⟩
theorem its_perm {b:Item} {S:ST}:(b::(N++LT S R)).Perm (b::LT S (N++R)):=perm_of fun z=>by
 simp only [LT,List.count_append,List.count_cons];omega
theorem op3_p {F:Fd} {t y:Int} (hpc:K.pc=3) (hwf:Wf (5,K.n,7+(K.lv:Int))) (hlv:K.lv < C.h.toNat) (hW:InU (K.L K.lv).W) (hF:FdOk F C.h.toNat) (hh:1<=C.h.toNat/\C.h.toNat<=1000) (hg:Glo w0) (hn:n < maxLen) (hE:Env w0 (boxI o (opS X.c d.ok d.key d.val d.lv (mvL 155 o) 0 (.pointer (some ⟨F.fb,0,none⟩)) K.n (K.lv:Int) t y K.an 0 false)::(F.its X.c d.key K.L C.h.toNat++LT (SPK C X V K f G qc n) R)) w) :
  Calls prog 16 #[.pointer (some ⟨o,0,none⟩),.iface 28 (.pointer (some ⟨V.p,0,none⟩))] w fun e w'=>∃ s,e=.returned (.int .i64 s)/\OutP w0 R C X V d o n qc (opM C d K f) s w':=by
 have hE2:=hE.perm (L':=boxI o (opS X.c d.ok d.key d.val d.lv (mvL 155 o) 0 (.pointer (some ⟨F.fb,0,none⟩)) K.n (K.lv:Int) t y K.an 0 false)::LT (SPK C X V K f G qc n) (F.its X.c d.key K.L C.h.toNat++R)) its_perm;have hI:=its_in (R:=R) (c:=X.c) (key:=d.key) (L:=K.L) hF hh;refine stepMv_s 155 _ (fun _ _=>by kernel_rfl) _ hE2 ?_
 by_cases h3:((K.lv+1:Nat):Int) < d.lv
 ·refine (storeOn_s (S:=(SPK C X V K f G qc n)) (L:=K.L) (l8:=K.lv) h3 hwf hg hn (by omega) hlv hW hI hE2).mono ?_;rintro e w1 ⟨rfl,G',hE1⟩;exact ⟨0,rfl,OutP.on (K':={ K with lv:=K.lv+1 }) (f':=upd f (ownP K) (toM K)) (G':=G') (ps':=_::F.its X.c d.key K.L C.h.toNat) (by unfold opM; rw [if_neg (by omega),if_neg (by omega),if_pos hpc,if_pos h3]) nxS (.inr (.inr (.inl ⟨.inl hpc,F,t,y,by show _=boxI o (opS _ _ _ _ _ (mvL (mvF K.pc) o) _ _ _ _ _ _ _ _ _)::_; rw [hpc]; rfl,hF,fun h=>absurd (hpc.symm.trans h) (by decide)⟩))) (hE1.perm its_perm.symm)⟩
 ·refine (storeEnd_s (S:=(SPK C X V K f G qc n)) (L:=K.L) (l8:=K.lv) h3 hwf hg hn (by omega) hlv hW hI hE2).mono ?_;rintro e w1 ⟨rfl,G',hE1⟩;exact ⟨0,rfl,OutP.on (K':={ K with lv:=0,pc:=4 }) (f':=upd f (ownP K) (toM K)) (G':=G') (ps':=_::F.its X.c d.key K.L C.h.toNat) (by unfold opM; rw [if_neg (by omega),if_neg (by omega),if_pos hpc,if_neg h3]) nxS (.inr (.inr (.inl ⟨.inr (.inl rfl),F,t,y,rfl,hF,fun h=>absurd (show (4:Nat)=9 from h) (by decide)⟩))) (hE1.perm its_perm.symm)⟩
theorem OutP.up {F:Fd} {t y:Int} {l:Nat} (hq:q=(0,upM d K' l,f')) (hF:FdOk F C.h.toNat) (hL:K'.L=K.L) (hn:Nx n qc n' qc') (hE:Env w0 (boxI o (opS X.c d.ok d.key d.val d.lv (mvL (upF d.lv K'.an l) o) 0 (.pointer (some ⟨F.fb,0,none⟩)) K'.n (l:Int) t y K'.an 0 false)::LT (SPK C X V K' f' G' qc' n') (F.its X.c d.key K.L C.h.toNat++R)) w'):OutP w0 R C X V d o n qc q 0 w':=by
 subst hq;unfold upM at *;unfold upF at hE
 by_cases h1:(l:Int)=d.lv
 ·rw [if_pos h1] at hE;refine OutP.on (K':={ K' with lv:=l,pc:=10 }) (G':=G') (ps':=[_]) (by rw [if_pos h1]) hn (.inr (.inr (.inr (.inl ⟨.inl rfl,(.pointer (some ⟨F.fb,0,none⟩)),(l:Int),t,y,rfl,fun h=>?_,fun h=>?_⟩)))) ?_
  ·rcases h with h | h
   ·exact absurd (show (10:Nat)=13 from h) (by decide)
   ·exact absurd (show (10:Nat)=15 from h) (by decide)
  ·exact absurd (show (10:Nat)=15 from h) (by decide)
  ·exact (hE.perm (L':=F.its X.c d.key K.L C.h.toNat++(boxI o (opS X.c d.ok d.key d.val d.lv (mvL 243 o) 0 (.pointer (some ⟨F.fb,0,none⟩)) K'.n (l:Int) t y K'.an 0 false)::LT (SPK C X V K' f' G' qc' n') R)) (perm_of fun z=>by simp only [LT,List.count_append,List.count_cons]; omega)).sub (List.sublist_append_right _ _)
 ·rw [if_neg h1] at hE;have hE2:=hE.perm its_perm.symm;cases han:K'.an
  ·rw [han,if_neg (by decide)] at hE2;refine OutP.on (K':={ K' with lv:=l,pc:=5 }) (G':=G') (ps':=_::F.its X.c d.key K.L C.h.toNat) (by rw [if_neg h1,if_neg (by decide),han]) hn (.inr (.inr (.inl ⟨.inr (.inr (.inl rfl)),F,t,y,?_,hF,fun h=>absurd (show (5:Nat)=9 from h) (by decide)⟩))) hE2;dsimp only;rw [han,hL];rfl
  ·rw [han,if_pos rfl] at hE2;refine OutP.on (K':={ K' with lv:=l,pc:=6 }) (G':=G') (ps':=_::F.its X.c d.key K.L C.h.toNat) (by rw [if_neg h1,if_pos rfl,han]) hn (.inr (.inr (.inl ⟨.inr (.inr (.inr (.inl rfl))),F,t,y,?_,hF,fun h=>absurd (show (6:Nat)=9 from h) (by decide)⟩))) hE2;dsimp only;rw [han,hL];rfl
theorem op4_p {F:Fd} {t y:Int} (hpc:K.pc=4) (hlv0:(K.lv:Int)=0) (hh0:K.T.hs≠0) (hwf:Wf (K.L 0).p) (hck:C.k=3) (hch:C.h=(C.h.toNat:Int)) (hF:FdOk F C.h.toNat) (hh:1<=C.h.toNat/\C.h.toNat<=1000) (hg:Glo w0) (hn:n < maxLen) (hE:Env w0 (boxI o (opS X.c d.ok d.key d.val d.lv (mvL 182 o) 0 (.pointer (some ⟨F.fb,0,none⟩)) K.n (K.lv:Int) t y K.an 0 false)::(F.its X.c d.key K.L C.h.toNat++LT (SPK C X V K f G qc n) R)) w) :
  Calls prog 16 #[.pointer (some ⟨o,0,none⟩),.iface 28 (.pointer (some ⟨V.p,0,none⟩))] w fun e w'=>∃ s,e=.returned (.int .i64 s)/\OutP w0 R C X V d o n qc (opM C d K f) s w':=by
 have hE2:=hE.perm (L':=boxI o (opS X.c d.ok d.key d.val d.lv (mvL 182 o) 0 (.pointer (some ⟨F.fb,0,none⟩)) K.n (K.lv:Int) t y K.an 0 false)::LT (SPK C X V K f G qc n) (F.its X.c d.key K.L C.h.toNat++R)) its_perm;have hI:=its_in (R:=R) (c:=X.c) (key:=d.key) (L:=K.L) hF hh;refine stepMv_s 182 _ (fun _ _=>by kernel_rfl) _ hE2 ?_;rw [hlv0] at hE2
 by_cases h4:f (K.L 0).p=(K.L 0).W
 ·refine (putYes_s (S:=(SPK C X V K f G qc n)) (L:=K.L) hg hn hh0 hwf h4 hI hE2).mono ?_;rintro e w1 ⟨rfl,G',hE1⟩;exact ⟨0,rfl,OutP.up (K:=K) (K':={ K with T:={ K.T with hs:=0 } }) (f':=swf f (K.L 0).p (K.L 0).W (wordI false K.n K.T.e)) (G':=G') (l:=1) (by unfold opM; rw [if_neg (by omega),if_neg (by omega),if_neg (by omega),if_pos hpc,if_pos h4]) hF rfl nxW hE1⟩
 ·refine (putNo_s (S:=(SPK C X V K f G qc n)) (L:=K.L) (h:=C.h.toNat) hg hn hck hch hwf h4 hI hE2).mono ?_;rintro e w1 ⟨rfl,G',c1,c2,fb,g,hE1⟩;exact ⟨0,rfl,OutP.find (K':=K) (f':=swf f (K.L 0).p (K.L 0).W (wordI false K.n K.T.e)) (a:=0) (by unfold opM; rw [if_neg (by omega),if_neg (by omega),if_neg (by omega),if_pos hpc,if_neg h4]; rfl) rfl (fun h=>absurd rfl h) (fun h=>absurd h (by decide)) nxW hE1⟩
theorem op5_p {F:Fd} {t y:Int} (hpc:K.pc=5) (hlv:K.lv < C.h.toNat) (hwf:Wf (K.L K.lv).p) (hck:C.k=3) (hch:C.h=(C.h.toNat:Int)) (hF:FdOk F C.h.toNat) (hh:1<=C.h.toNat/\C.h.toNat<=1000) (hg:Glo w0) (hn:n < maxLen) (hE:Env w0 (boxI o (opS X.c d.ok d.key d.val d.lv (mvL 245 o) 0 (.pointer (some ⟨F.fb,0,none⟩)) K.n (K.lv:Int) t y K.an 0 false)::(F.its X.c d.key K.L C.h.toNat++LT (SPK C X V K f G qc n) R)) w) :
  Calls prog 16 #[.pointer (some ⟨o,0,none⟩),.iface 28 (.pointer (some ⟨V.p,0,none⟩))] w fun e w'=>∃ s,e=.returned (.int .i64 s)/\OutP w0 R C X V d o n qc (opM C d K f) s w':=by
 have hE2:=hE.perm (L':=boxI o (opS X.c d.ok d.key d.val d.lv (mvL 245 o) 0 (.pointer (some ⟨F.fb,0,none⟩)) K.n (K.lv:Int) t y K.an 0 false)::LT (SPK C X V K f G qc n) (F.its X.c d.key K.L C.h.toNat++R)) its_perm;have hI:=its_in (R:=R) (c:=X.c) (key:=d.key) (L:=K.L) hF hh;refine stepMv_s 245 _ (fun _ _=>by kernel_rfl) _ hE2 ?_
 by_cases h4:f (K.L K.lv).p=(K.L K.lv).W
 ·refine (raiseYes_s (S:=(SPK C X V K f G qc n)) (L:=K.L) (l8:=K.lv) hg hn hlv hwf h4 hI hE2).mono ?_;rintro e w1 ⟨rfl,G',hE1⟩;exact ⟨0,rfl,OutP.up (K:=K) (K':=K) (f':=swf f (K.L K.lv).p (K.L K.lv).W (wordI false K.n K.T.e)) (G':=G') (l:=K.lv+1) (by unfold opM; rw [if_neg (by omega),if_neg (by omega),if_neg (by omega),if_neg (by omega),if_pos hpc,if_pos h4]) hF rfl nxW hE1⟩
 ·refine (raiseNo_s (S:=(SPK C X V K f G qc n)) (L:=K.L) (h:=C.h.toNat) (l8:=K.lv) hg hn hck hch hlv hwf h4 hI hE2).mono ?_;rintro e w1 ⟨rfl,G',c1,c2,fb,g,hE1⟩;exact ⟨0,rfl,OutP.find (K':=K) (f':=swf f (K.L K.lv).p (K.L K.lv).W (wordI false K.n K.T.e)) (a:=1) (by unfold opM; rw [if_neg (by omega),if_neg (by omega),if_neg (by omega),if_neg (by omega),if_pos hpc,if_neg h4]; rfl) rfl (fun _=>rfl) (fun _=>rfl) nxW hE1⟩
theorem op6_p {F:Fd} {t y:Int} (hpc:K.pc=6) (hwf:Wf (5,K.n,7+(K.lv:Int))) (hlv:K.lv < C.h.toNat) (hW:InU (K.L K.lv).W) (hv:InU (f (ownP K))) (hF:FdOk F C.h.toNat) (hh:1<=C.h.toNat/\C.h.toNat<=1000) (hg:Glo w0) (hn:n < maxLen) (hE:Env w0 (boxI o (opS X.c d.ok d.key d.val d.lv (mvL 244 o) 0 (.pointer (some ⟨F.fb,0,none⟩)) K.n (K.lv:Int) t y K.an 0 false)::(F.its X.c d.key K.L C.h.toNat++LT (SPK C X V K f G qc n) R)) w) :
  Calls prog 16 #[.pointer (some ⟨o,0,none⟩),.iface 28 (.pointer (some ⟨V.p,0,none⟩))] w fun e w'=>∃ s,e=.returned (.int .i64 s)/\OutP w0 R C X V d o n qc (opM C d K f) s w':=by
 have hE2:=hE.perm (L':=boxI o (opS X.c d.ok d.key d.val d.lv (mvL 244 o) 0 (.pointer (some ⟨F.fb,0,none⟩)) K.n (K.lv:Int) t y K.an 0 false)::LT (SPK C X V K f G qc n) (F.its X.c d.key K.L C.h.toNat++R)) its_perm;have hI:=its_in (R:=R) (c:=X.c) (key:=d.key) (L:=K.L) hF hh;refine stepMv_s 244 _ (fun _ _=>by kernel_rfl) _ hE2 ?_;have hx:=loadOwn_s (S:=(SPK C X V K f G qc n)) (L:=K.L) (l8:=K.lv) (f (ownP K)) rfl hwf hv hg (by omega) hlv hW hI hE2;refine hx.mono ?_;rintro e w1 ⟨rfl,hE1⟩;clear hx;change Env w0 (boxI o (opS X.c d.ok d.key d.val d.lv (mvL (loF (f (ownP K)) (toM K)) o) 0 (.pointer (some ⟨F.fb,0,none⟩)) K.n (K.lv:Int) t (f (ownP K)) K.an 0 false)::LT (SPK C X V K f G { qc with l:=wrap64 (qc.l+1) } n) (F.its X.c d.key K.L C.h.toNat++R)) w1 at hE1;unfold loF at hE1;have ho:opM C d K f=(0,{ K with y:=f (ownP K),pc:=if markB (f (ownP K)) then 10 else if f (ownP K)=toM K then 5 else 9 },f):=by unfold opM; rw [if_neg (by omega),if_neg (by omega),if_neg (by omega),if_neg (by omega),if_neg (by omega),if_pos hpc]
 by_cases h1:markB (f (ownP K))=true
 ·rw [if_pos h1] at hE1 ho;exact ⟨0,rfl,OutP.on (K':={ K with y:=f (ownP K),pc:=10 }) (G':=G) (ps':=[_]) ho nxL (.inr (.inr (.inr (.inl ⟨.inl rfl,(.pointer (some ⟨F.fb,0,none⟩)),(K.lv:Int),t,f (ownP K),rfl,fun h=>h.elim (fun h=>absurd (show (10:Nat)=13 from h) (by decide)) (fun h=>absurd (show (10:Nat)=15 from h) (by decide)),fun h=>absurd (show (10:Nat)=15 from h) (by decide)⟩)))) (drop_its hE1)⟩
 ·rw [if_neg h1] at hE1 ho
  by_cases h2:f (ownP K)=toM K
  ·rw [if_pos h2] at hE1 ho;exact ⟨0,rfl,OutP.on (K':={ K with y:=f (ownP K),pc:=5 }) (G':=G) (ps':=_::F.its X.c d.key K.L C.h.toNat) ho nxL (.inr (.inr (.inl ⟨.inr (.inr (.inl rfl)),F,t,f (ownP K),rfl,hF,fun h=>absurd (show (5:Nat)=9 from h) (by decide)⟩))) (hE1.perm its_perm.symm)⟩
  ·rw [if_neg h2] at hE1 ho;exact ⟨0,rfl,OutP.on (K':={ K with y:=f (ownP K),pc:=9 }) (G':=G) (ps':=_::F.its X.c d.key K.L C.h.toNat) ho nxL (.inr (.inr (.inl ⟨.inr (.inr (.inr (.inr rfl))),F,t,f (ownP K),rfl,hF,fun _=>rfl⟩))) (hE1.perm its_perm.symm)⟩
theorem op9_p {F:Fd} {t y:Int} (hpc:K.pc=9) (hwf:Wf (5,K.n,7+(K.lv:Int))) (hlv:K.lv < C.h.toNat) (hW:InU (K.L K.lv).W) (hF:FdOk F C.h.toNat) (hh:1<=C.h.toNat/\C.h.toNat<=1000) (hg:Glo w0) (hn:n < maxLen) (hE:Env w0 (boxI o (opS X.c d.ok d.key d.val d.lv (mvL 275 o) 0 (.pointer (some ⟨F.fb,0,none⟩)) K.n (K.lv:Int) t K.y K.an 0 false)::(F.its X.c d.key K.L C.h.toNat++LT (SPK C X V K f G qc n) R)) w) :
  Calls prog 16 #[.pointer (some ⟨o,0,none⟩),.iface 28 (.pointer (some ⟨V.p,0,none⟩))] w fun e w'=>∃ s,e=.returned (.int .i64 s)/\OutP w0 R C X V d o n qc (opM C d K f) s w':=by
 have hE2:=hE.perm (L':=boxI o (opS X.c d.ok d.key d.val d.lv (mvL 275 o) 0 (.pointer (some ⟨F.fb,0,none⟩)) K.n (K.lv:Int) t K.y K.an 0 false)::LT (SPK C X V K f G qc n) (F.its X.c d.key K.L C.h.toNat++R)) its_perm;have hI:=its_in (R:=R) (c:=X.c) (key:=d.key) (L:=K.L) hF hh;refine stepMv_s 275 _ (fun _ _=>by kernel_rfl) _ hE2 ?_;refine (turn_s (S:=(SPK C X V K f G qc n)) (L:=K.L) (l8:=K.lv) hwf hg hn (by omega) hlv hW hI hE2).mono ?_;rintro e w1 ⟨rfl,G',hE1⟩;change Env w0 (boxI o (opS X.c d.ok d.key d.val d.lv (mvL (if f (ownP K)=K.y then 245 else 243) o) 0 (.pointer (some ⟨F.fb,0,none⟩)) K.n (K.lv:Int) t K.y K.an 0 false)::LT (SPK C X V K (swf f (ownP K) K.y (toM K)) G' (swq qc (decide (f (ownP K)=K.y))) (n+1)) (F.its X.c d.key K.L C.h.toNat++R)) w1 at hE1;have ho:opM C d K f=(0,{ K with pc:=if f (ownP K)=K.y then 5 else 10 },swf f (ownP K) K.y (toM K)):=by unfold opM; rw [if_neg (by omega),if_neg (by omega),if_neg (by omega),if_neg (by omega),if_neg (by omega),if_neg (by omega),if_pos hpc]
 by_cases h1:f (ownP K)=K.y
 ·rw [if_pos h1] at hE1 ho;exact ⟨0,rfl,OutP.on (K':={ K with pc:=5 }) (G':=G') (ps':=_::F.its X.c d.key K.L C.h.toNat) ho nxW (.inr (.inr (.inl ⟨.inr (.inr (.inl rfl)),F,t,K.y,rfl,hF,fun h=>absurd (show (5:Nat)=9 from h) (by decide)⟩))) (hE1.perm its_perm.symm)⟩
 ·rw [if_neg h1] at hE1 ho;exact ⟨0,rfl,OutP.on (K':={ K with pc:=10 }) (G':=G') (ps':=[_]) ho nxW (.inr (.inr (.inr (.inl ⟨.inl rfl,(.pointer (some ⟨F.fb,0,none⟩)),(K.lv:Int),t,K.y,rfl,fun h=>h.elim (fun h=>absurd (show (10:Nat)=13 from h) (by decide)) (fun h=>absurd (show (10:Nat)=15 from h) (by decide)),fun h=>absurd (show (10:Nat)=15 from h) (by decide)⟩)))) (drop_its hE1)⟩
theorem op10_p {fp:Value} {l t y:Int} (hpc:K.pc=10) (hwf:Wf (5,K.n,6)) (hck:C.k=3) (hch:C.h=(C.h.toNat:Int)) (hda:K.err=0) (hh:1<=C.h.toNat/\C.h.toNat<=1000) (hg:Glo w0) (hn:n < maxLen) (hE:Env w0 (boxI o (opS X.c d.ok d.key d.val d.lv (mvL 243 o) 0 fp K.n l t y K.an 0 false)::LT (SPK C X V K f G qc n) R) w) :
  Calls prog 16 #[.pointer (some ⟨o,0,none⟩),.iface 28 (.pointer (some ⟨V.p,0,none⟩))] w fun e w'=>∃ s,e=.returned (.int .i64 s)/\OutP w0 R C X V d o n qc (opM C d K f) s w':=by
 refine stepMv_s 243 _ (fun _ _=>by kernel_rfl) _ hE ?_;refine rise_s (fun e w'=>∃ s,e=.returned (.int .i64 s)/\OutP w0 R C X V d o n qc (opM C d K f) s w') ?_
 by_cases h1:f (5,K.n,6)=0
 ·refine (settleYes_s (S:=(SPK C X V K f G qc n)) 1 (by unfold InU; omega) h1 hwf hn hE).mono ?_;rintro e w1 ⟨rfl,G',hE1⟩;exact ⟨1,rfl,1,rfl,OutP.fin (K':={ K with dn:=true }) (f':=swf f (5,K.n,6) 0 1) (G':=G') (by unfold opM; rw [if_neg (by omega),if_neg (by omega),if_neg (by omega),if_neg (by omega),if_neg (by omega),if_neg (by omega),if_neg (by omega),if_pos hpc,if_pos h1]) (by decide) nxW (by rw [hda]; exact hE1)⟩
 ·refine (settleNo_s (S:=(SPK C X V K f G qc n)) (h:=C.h.toNat) 1 (by unfold InU; omega) h1 hwf hn hh.2 hck hch hE).mono ?_;rintro e w1 ⟨rfl,G',c1,c2,fb,g,hE1⟩;exact ⟨0,rfl,0,rfl,OutP.find (N:=[]) (K':=K) (f':=swf f (5,K.n,6) 0 1) (a:=2) (by unfold opM; rw [if_neg (by omega),if_neg (by omega),if_neg (by omega),if_neg (by omega),if_neg (by omega),if_neg (by omega),if_neg (by omega),if_pos hpc,if_neg h1]; rfl) rfl (fun _=>rfl) (fun h=>absurd h (by decide)) nxW hE1⟩
theorem op16_p {fp:Value} {l t y:Int} (hpc:K.pc=16) (hwf:Wf (5,K.n,6)) (hck:C.k=3) (hch:C.h=(C.h.toNat:Int)) (hda:K.err=0) (hh:1<=C.h.toNat/\C.h.toNat<=1000) (hg:Glo w0) (hn:n < maxLen) (hE:Env w0 (boxI o (opS X.c d.ok d.key d.val d.lv (mvL 294 o) 0 fp K.n l t y K.an 0 false)::LT (SPK C X V K f G qc n) R) w) :
  Calls prog 16 #[.pointer (some ⟨o,0,none⟩),.iface 28 (.pointer (some ⟨V.p,0,none⟩))] w fun e w'=>∃ s,e=.returned (.int .i64 s)/\OutP w0 R C X V d o n qc (opM C d K f) s w':=by
 refine stepMv_s 294 _ (fun _ _=>by kernel_rfl) _ hE ?_;refine leave_s (fun e w'=>∃ s,e=.returned (.int .i64 s)/\OutP w0 R C X V d o n qc (opM C d K f) s w') ?_
 by_cases h1:f (5,K.n,6)=0
 ·refine (settleYes_s (S:=(SPK C X V K f G qc n)) 2 (by unfold InU; omega) h1 hwf hn hE).mono ?_;rintro e w1 ⟨rfl,G',hE1⟩;exact ⟨1,rfl,1,rfl,OutP.fin (K':={ K with dn:=true }) (f':=swf f (5,K.n,6) 0 2) (G':=G') (by unfold opM; rw [if_neg (by omega),if_neg (by omega),if_neg (by omega),if_neg (by omega),if_neg (by omega),if_neg (by omega),if_neg (by omega),if_neg (by omega),if_neg (by omega),if_neg (by omega),if_neg (by omega),if_neg (by omega),if_neg (by omega),if_pos hpc,if_pos h1]) (by decide) nxW (by rw [hda]; exact hE1)⟩
 ·refine (settleNo_s (S:=(SPK C X V K f G qc n)) (h:=C.h.toNat) 2 (by unfold InU; omega) h1 hwf hn hh.2 hck hch hE).mono ?_;rintro e w1 ⟨rfl,G',c1,c2,fb,g,hE1⟩;exact ⟨0,rfl,0,rfl,OutP.find (N:=[]) (K':=K) (f':=swf f (5,K.n,6) 0 2) (a:=2) (by unfold opM; rw [if_neg (by omega),if_neg (by omega),if_neg (by omega),if_neg (by omega),if_neg (by omega),if_neg (by omega),if_neg (by omega),if_neg (by omega),if_neg (by omega),if_neg (by omega),if_neg (by omega),if_neg (by omega),if_neg (by omega),if_pos hpc,if_neg h1]; rfl) rfl (fun _=>rfl) (fun h=>absurd h (by decide)) nxW hE1⟩
end
theorem part_lt7 (ck e key val lv:Int) (k:Nat):((wordsA ck e key val lv).getD k (0,0)).1 < 7:=by
 rw [List.getD_eq_getElem?_getD]
 rcases h:(wordsA ck e key val lv)[k]? with _ | ⟨a,b⟩
 ·simp
 ·have hm:(a,b)∈wordsA ck e key val lv:=List.mem_of_getElem? h;simp only [Option.getD_some];unfold wordsA at hm
  split at hm
  ·simp at hm
   rcases hm with ⟨rfl,rfl⟩ | ⟨rfl,rfl⟩ | ⟨rfl,rfl⟩ | ⟨rfl,rfl⟩<;>decide
  ·split at hm
   ·simp at hm
    rcases hm with ⟨rfl,rfl⟩ | ⟨rfl,rfl⟩ | ⟨rfl,rfl⟩ | ⟨rfl,rfl⟩ | ⟨rfl,rfl⟩<;>decide
   ·simp at hm
    rcases hm with ⟨rfl,rfl⟩ | ⟨rfl,rfl⟩ | ⟨rfl,rfl⟩<;>decide
theorem part_no {ck e key val lv:Int} {k:Nat} {l:Int} (h0:0<=l) (h:((wordsA ck e key val lv).getD k (0,0)).1=7+l):False:=by
 have:=part_lt7 ck e key val lv k;omega
section
variable {C:Cf} {ds:List Dd} {B:Nat} {T:Th} {d:Dd} {K:Kt} {f:Mem}
theorem OkT.idle (h:OkT C ds B T) {x:Int} {y:Bool} (hx:0<=x/\x<=B):OkT C ds B { T with pc:=0,done:=x,full:=y } :=
 { e:=h.e,w:=h.w,hs:=h.hs,rs:=h.rs,ql:=h.ql,nd:=h.nd,len:=h.len,done:=hx,pc:=.inl rfl,p1:=fun h=>no h rfl,nd1:=fun h=>absurd rfl h,apc:=fun h=>no h rfl,low:=fun h=>no h rfl,adv:=fun h=>no h rfl,born:=fun h=>no h rfl,pool:=fun h=>no h rfl,an:=h.an,rpc:=fun h=>no h rfl,rsp:=fun h=>no h rfl,re:=h.re,gpc:=h.gpc,give:=fun h=>no h rfl,ghu:=h.ghu,gh:=h.gh,gv:=fun h=>no h rfl }
theorem OkT.epoch (h:OkT C ds B T) (h0:T.pc=0) {x:Int} (hx:0<=x/\x<=C.l):OkT C ds B { T with e:=x } :=
 { e:=hx,w:=h.w,hs:=h.hs,rs:=h.rs,ql:=h.ql,nd:=h.nd,len:=h.len,done:=h.done,pc:=h.pc,p1:=h.p1,nd1:=h.nd1,apc:=h.apc,low:=h.low,adv:=fun h9=>no (h0.symm.trans h9) rfl,born:=h.born,pool:=h.pool,an:=h.an,rpc:=h.rpc,rsp:=h.rsp,re:=h.re,gpc:=h.gpc,give:=h.give,ghu:=h.ghu,gh:=h.gh,gv:=h.gv }
theorem OkT.same {T1:Th} (h:OkT C ds B T) (hp:T.pc=T1.pc) {x:Nat} {y:Int} {z:Bool} (he:T={ T1 with pc:=x,done:=y,full:=z }) (hd:0<=T1.done/\T1.done<=B):OkT C ds B T1:=by
 subst he;have hx:x=T1.pc:=hp;subst hx;exact { e:=h.e,w:=h.w,hs:=h.hs,rs:=h.rs,ql:=h.ql,nd:=h.nd,len:=h.len,done:=hd,pc:=h.pc,p1:=h.p1,nd1:=h.nd1,apc:=h.apc,low:=h.low,adv:=h.adv,born:=h.born,pool:=h.pool,an:=h.an,rpc:=h.rpc,rsp:=h.rsp,re:=h.re,gpc:=h.gpc,give:=h.give,ghu:=h.ghu,gh:=h.gh,gv:=h.gv }
theorem epI_in0 {x l:Int} (h0:0<=x) (h:x<=l) (hl:0<=l):0<=epI x/\epI x<=l:=by
 unfold epI
 split<;>omega
theorem LnkF.upd {p:Plc} {v:Int} (h:LnkF C f) (hv:slotI v<=C.s):LnkF C (upd f p v):=by
 refine ⟨fun r=>?_,fun i l h0=>?_⟩
 ·by_cases hp:p=(4,0,r)
  ·subst hp; rw [upd_same]; exact hv
  ·rw [upd_other f v (fun e=>hp e.symm)]; exact h.root r
 ·by_cases hp:p=(5,i,7+l)
  ·subst hp; rw [upd_same]; exact hv
  ·rw [upd_other f v (fun e=>hp e.symm)]; exact h.link i l h0
theorem LnkF.updo {p:Plc} {v:Int} (h:LnkF C f) (h1:∀ r,p≠(4,0,r)) (h2:∀ i l,0<=l->p≠(5,i,7+l)):LnkF C (Go.Proofs.YtffncfmciockmaaGreatDoor.upd f p v):=by
 refine ⟨fun r=>?_,fun i l h0=>?_⟩
 ·rw [upd_other f v (fun e=>h1 r e.symm)]; exact h.root r
 ·rw [upd_other f v (fun e=>h2 i l h0 e.symm)]; exact h.link i l h0
theorem LnkF.swf {p:Plc} {o v:Int} (h:LnkF C f) (hv:slotI v<=C.s):LnkF C (swf f p o v):=by
 unfold Go.Proofs.YtffncfmciockmaaGreatDoor.swf
 split
 ·exact h.upd hv
 ·exact h
theorem OkF.updo {p:Plc} {v:Int} (h:OkF C f) (h1:p≠(2,0,0)) (h2:∀ i,p≠(5,i,2)) (h3:p≠(1,0,0)) (hu:∀ x,InU (Go.Proofs.YtffncfmciockmaaGreatDoor.upd f p v x)):OkF C (Go.Proofs.YtffncfmciockmaaGreatDoor.upd f p v):=by
 refine ⟨hu,?_,fun i=>?_,?_⟩
 ·rw [upd_other f v (fun e=>h1 e.symm)]; exact h.pool
 ·rw [upd_other f v (fun e=>h2 i e.symm)]; exact h.chain i
 ·rw [upd_other f v (fun e=>h3 e.symm)]; exact h.ep
theorem OkF.swfo {p:Plc} {o v:Int} (h:OkF C f) (h1:p≠(2,0,0)) (h2:∀ i,p≠(5,i,2)) (h3:p≠(1,0,0)) (hu:∀ x,InU (Go.Proofs.YtffncfmciockmaaGreatDoor.swf f p o v x)):OkF C (Go.Proofs.YtffncfmciockmaaGreatDoor.swf f p o v):=by
 unfold Go.Proofs.YtffncfmciockmaaGreatDoor.swf at hu ⊢
 split
 ·rename_i h9;rw [if_pos h9] at hu;exact h.updo h1 h2 h3 hu
 ·exact h
theorem AtOk.far {p:Plc} {lv:Int} (h0:0<=lv) (h:AtOk lv p):p≠(2,0,0)/\(∀ i,p≠(5,i,2))/\p≠(1,0,0):=by
 rcases h with rfl | ⟨c,-,-,rfl⟩
 ·exact ⟨by simp,fun i h9=>by simp at h9,by simp⟩
 ·exact ⟨by simp,fun i h9=>by simp only [Prod.mk.injEq] at h9; omega,by simp⟩
theorem own_at {a:Int} {l:Nat} (h:0<=a/\a<=8388607):AtOk (l:Int) ((5,a,7+(l:Int)):Plc):=.inr ⟨a,h.1,h.2,rfl⟩
theorem down_mem {h:Nat} {key e r:Int} {on:Bool} {fl:Nat} {L:Nat->Lm} (hF:FnOk C h on fl L) (f:Mem):(downM h key ⟨on,fl,L,e,r⟩ f).2.2=f\/∃ p o m,AtOk (fl:Int) p/\(downM h key ⟨on,fl,L,e,r⟩ f).2.2=Go.Proofs.YtffncfmciockmaaGreatDoor.swf f p o (wordI false (slotI m) e)/\slotI m<=C.s:=by
 cases on
 ·exact .inl rfl
 ·obtain ⟨-,hL,-⟩:=hF rfl;have hM:(downM h key ⟨true,fl,L,e,r⟩ f).2.2=(laneM fl key false e (L fl) f).2.2:=by unfold downM; rw [if_pos rfl]
  rw [hM];unfold laneM
  repeat' split
  all_goals first
   | exact .inl rfl
   | exact .inr ⟨(L fl).p,(L fl).W,(L fl).X,hL.at9,rfl,hL.sx⟩
theorem down_keepF {h:Nat} {key e r:Int} {on:Bool} {fl:Nat} {L:Nat->Lm} (hF:FnOk C h on fl L) (h0:0<=C.s) (hO:OkF C f) (hS:LnkF C f) (hu:∀ x,InU ((downM h key ⟨on,fl,L,e,r⟩ f).2.2 x)):OkF C (downM h key ⟨on,fl,L,e,r⟩ f).2.2/\LnkF C (downM h key ⟨on,fl,L,e,r⟩ f).2.2:=by
 rcases down_mem hF f with h1 | ⟨p,o,m,hp,h1,hm⟩
 ·rw [h1];exact ⟨hO,hS⟩
 ·rw [h1] at hu ⊢;obtain ⟨h2,h3,h4⟩:=hp.far (by omega);exact ⟨hO.swfo h2 h3 h4 hu,hS.swf (slot_word_le h0 hm)⟩
theorem LnkF.swfo {p:Plc} {o v:Int} (h:LnkF C f) (h1:∀ r,p≠(4,0,r)) (h2:∀ i l,0<=l->p≠(5,i,7+l)):LnkF C (Go.Proofs.YtffncfmciockmaaGreatDoor.swf f p o v):=by
 unfold Go.Proofs.YtffncfmciockmaaGreatDoor.swf
 split
 ·exact h.updo h1 h2
 ·exact h
theorem allocM_lnk (h:LnkF C f):LnkF C (allocM C d T f).2.2:=by
 unfold allocM;dsimp only
 repeat' split
 all_goals first
  | exact h
  | exact h.updo (by simp) (fun i l h0 h9=>part_no h0 (congrArg (fun p:Plc=>p.2.2) h9))
  | exact h.updo (by simp) (fun i l h0 h9=>by simp only [Prod.mk.injEq] at h9; omega)
  | exact h.swfo (by simp) (fun i l h0 h9=>by simp only [Prod.mk.injEq] at h9; omega)
theorem retireM_lnk (h:LnkF C f):LnkF C (retireM T f).2.2:=by
 unfold retireM
 split
 ·exact h
 ·exact h.updo (by simp) (fun i l h0 h9=>by simp only [Prod.mk.injEq] at h9; omega)
theorem allocM_kk (h:T.apc<=10\/T.apc - 10 < (WD C d T).length) (h0:(allocM C d T f).1=0):(allocM C d T f).2.1.apc<=10\/(allocM C d T f).2.1.apc - 10 < (WD C d (allocM C d T f).2.1).length:=by
 have hl:=WD_len C d T;have hd:=fun q=>decP_in q T.e C.l;have he:WD C d (allocM C d T f).2.1=WD C d T:=by unfold WD; rw [(allocM_keep C d T f).1]
 rw [he]
 revert h0
 unfold allocM;dsimp only
 repeat' split
 all_goals intro h0
 all_goals dsimp only at h0 ⊢
 all_goals first
  | omega
  | (left; rcases hd (T.ql++[(f (3,0,0)+1,0,0)]) with h9 | h9 | h9 | h9<;>omega)
  | (left; rcases hd (T.ql++[(slotI T.ah,epI T.ar,0)]) with h9 | h9 | h9 | h9<;>omega)
  | (right; have h8:(WD C d T).length=(wordsA C.k T.e d.key d.val (IntKind.u64.wrap d.lv)).length:=rfl; unfold lastS at h0; split at h0<;>omega)
theorem allocM_hs (h:T.apc<=10->T.hs=0) (h0:(allocM C d T f).1=3\/(allocM C d T f).1=4\/(allocM C d T f).1=2):(allocM C d T f).2.1.hs=0:=by
 revert h0
 unfold allocM;dsimp only
 repeat' split
 all_goals intro h0
 all_goals dsimp only at h0 ⊢
 all_goals first
  | exact h (by omega)
  | (exfalso; unfold lastS at h0; split at h0<;>omega)
theorem retireM_keep:(retireM T f).2.1.hs=T.hs/\(retireM T f).2.1.nd=T.nd/\(retireM T f).2.1.done=T.done/\(retireM T f).2.1.full=T.full/\(retireM T f).2.1.pc=T.pc/\((retireM T f).1=0\/(retireM T f).1=1):=by
 unfold retireM
 split<;>simp
theorem OkT.noH (h:OkT C ds B T) (h0:T.pc=0) (hC:COk C):OkT C ds B { T with hs:=0 } :=
 { h with hs:=(by have:=hC.s; show (0:Int)<=0/\(0:Int)<=C.s; omega),p1:=fun _=>rfl,low:=fun _ _=>rfl }
theorem OkT.drop (h:OkT C ds B T) (h0:T.pc=0) (hC:COk C):OkT C ds (B+1) { T with ql:=dropQ T.hs T.ql,hs:=0 }:=by
 have hm:=h.more;have h64:=h.hs;refine { hm with hs:=(by have:=hC.s; show (0:Int)<=0/\(0:Int)<=C.s; omega),p1:=fun _=>rfl,low:=fun _ _=>rfl,ql:=?_,len:=?_,born:=fun h9=>no (h0.symm.trans h9) rfl,give:=fun h9=>no (h0.symm.trans h9) rfl }
 ·show ∀ x∈dropQ T.hs T.ql,_;unfold dropQ
  split
  ·exact h.ql
  ·exact ql_add h.ql (by omega) h64.2
 ·have:=h.len;show (dropQ T.hs T.ql).length+(ds.length - T.nd)<=B+1;unfold dropQ
  split
  ·omega
  ·simp; omega
theorem OkT.alloc (h:OkT C ds B T) (hh:T.hs=0) (hn:1<=T.nd) (hC:COk C) (hD:decP T.ql T.e C.l≠0):OkT C ds B { T with pc:=2,apc:=decP T.ql T.e C.l,ah:=0,an:=0,ar:=0 }:=by
 have hz:slotI 0=0:=by decide
 have hu0:InU 0:=by unfold InU; omega
 have hs:=hC.s;refine { h with w:=⟨hu0,hu0,hu0⟩,an:=(by show slotI 0<=C.s; omega),pc:=.inr (.inr (.inl rfl)),nd1:=fun _=>hn,p1:=fun h=>no h rfl,rpc:=fun h=>no h rfl,rsp:=fun h=>no h rfl,give:=fun h=>no h rfl,gv:=fun h=>no h rfl,apc:=fun _=>?_,low:=fun _ _=>hh,adv:=fun _ h=>decP_adv h,born:=fun _ h=>decP_born h,pool:=fun _ ha hb=>?_ }
 ·show decP T.ql T.e C.l=1\/decP T.ql T.e C.l=2\/decP T.ql T.e C.l=3\/decP T.ql T.e C.l=4\/decP T.ql T.e C.l=5\/decP T.ql T.e C.l=6\/10<=decP T.ql T.e C.l
  rcases decP_in T.ql T.e C.l with h | h | h | h<;>omega
 ·have ha':4<=decP T.ql T.e C.l:=ha;have hb':decP T.ql T.e C.l<=6:=hb
  rcases decP_in T.ql T.e C.l with h | h | h | h<;>omega
theorem OkT.retire (h:OkT C ds B T) (hn:1<=T.nd) (hC:COk C) {c:Int} (h1:1<=c) (h2:c<=C.s):OkT C ds B { T with pc:=3,rs:=c,rpc:=0,re:=0 } :=
 { h with rs:=⟨Int.le_trans (by decide) h1,h2⟩,re:=(by have:=hC.l; show (0:Int)<=0/\(0:Int)<=C.l; omega),pc:=.inr (.inr (.inr (.inl rfl))),nd1:=fun _=>hn,p1:=fun h=>no h rfl,apc:=fun h=>no h rfl,low:=fun h=>no h rfl,adv:=fun h=>no h rfl,born:=fun h=>no h rfl,pool:=fun h=>no h rfl,rpc:=fun _=>.inl rfl,rsp:=fun _=>h1,give:=fun h=>no h rfl,gv:=fun h=>no h rfl }
theorem OkT.begin4 (h:OkT C ds B T) (hlt:T.nd < ds.length) (hC:COk C):OkT C ds B { T with pc:=4,nd:=T.nd+1,gpc:=0,gh:=0,gg:=0 }:=by
 have hl:=h.len;have hs:=hC.s;exact { h with nd:=hlt,len:=(by show T.ql.length+(ds.length - (T.nd+1))<=B; omega),pc:=.inr (.inr (.inr (.inr rfl))),nd1:=fun _=>Nat.le_add_left 1 T.nd,p1:=fun h=>no h rfl,apc:=fun h=>no h rfl,low:=fun h=>no h rfl,adv:=fun h=>no h rfl,born:=fun h=>no h rfl,pool:=fun h=>no h rfl,rpc:=fun h=>no h rfl,rsp:=fun h=>no h rfl,gpc:=Nat.zero_le 3,ghu:=(by show InU 0; unfold InU; omega),gh:=(by show slotI 0<=C.s; rw [show slotI 0=0 from by decide]; omega),give:=fun _ h=>(Nat.not_succ_le_zero _ h).elim,gv:=fun _ h=>(Nat.not_succ_le_zero _ h).elim }
theorem OkT.begin0 (h:OkT C ds B T) (hlt:T.nd < ds.length):OkT C ds B { T with nd:=T.nd+1 }:=by
 have hl:=h.len;exact { h with nd:=hlt,len:=(by show T.ql.length+(ds.length - (T.nd+1))<=B; omega),nd1:=fun _=>Nat.le_add_left 1 T.nd }
end
end
end Go.Proofs.YtffncfmciockmaaGreatDoor
