/- What is proved on the way to the statement, part 9: contracts of the functions, among other things in memory. -/
import Derived.Test.YtdknbegcflldjaaGreatDoorM8
import Derived.Test.YtdknbegcflldjaaGreatDoorChecked
import Derived.Deep.Light
import Derived.Laws.Bits64

open _root_.Go.Proofs.Tryz
set_option maxRecDepth 100000
set_option maxHeartbeats 25600000
namespace Go.Proofs.YtdknbegcflldjaaGreatDoor
section
open Go.RowKit Go.Maps
section
variable {w0 w:World} {L R:List Item} {o sb a c:Nat} {S:ST} {kd key val lv rt:Int} {nx lnx sp:Value} {er st st9 x y z W C X wd vl pv:Int} {dn pf:Bool}
theorem Env.sbackT {b:Item} (h:Env w0 (b::LT S R) w):Env w0 (LT S (b::R)) w:=h.perm (List.perm_middle (l₁:=[_,_,_,_])).symm
theorem lane_b {k:Int} {vs:Bool} {la:Option Addr} (h1:Blk 0 w o (opT c kd key val lv rt nx st (.pointer (some ⟨sb,0,none⟩)) er dn vl)) (h2:Blk 0 w sb (srC c k key vs (.pointer la))) :
  Calls prog 170 #[.pointer (some ⟨o,0,none⟩)] w fun r w'=>r=.returned (.pointer la)/\w'=w:=by
 have r:∀ j,w.cell? ⟨o,j,none⟩=(opT c kd key val lv rt nx st (.pointer (some ⟨sb,0,none⟩)) er dn vl)[j]?:=Blk.rule h1;unfold opT at r;go_enter func170,ntmps170;go_wp2_with fail;refine (lane_g h2).mono ?_;rintro e w1 ⟨rfl,rfl⟩;go_wp2_with fail;go_ret;exact ⟨rfl,rfl⟩
theorem lane_t {k:Int} {vs:Bool} {la:Option Addr} (hE:Env w0 (boxI o (opT c kd key val lv rt nx st (.pointer (some ⟨sb,0,none⟩)) er dn vl)::boxI sb (srC c k key vs (.pointer la))::L) w) :
  Calls prog 170 #[.pointer (some ⟨o,0,none⟩)] w fun r w'=>r=.returned (.pointer la)/\w'=w:=by
 have r:=hE.rule 0 rfl;unfold opT at r;go_enter func170,ntmps170;go_wp2_with fail;refine (lane_g (hE.get 1 rfl)).mono ?_;rintro e w1 ⟨rfl,rfl⟩;go_wp2_with fail;go_ret;exact ⟨rfl,rfl⟩
theorem holds_t (hE:Env w0 (boxI o (opT S.c kd key val lv rt nx st sp er dn vl)::LT S R) w) :
  Calls prog 210 #[.pointer (some ⟨o,0,none⟩)] w fun r w'=>r=.returned (.bool (S.hs != 0))/\Below w.heap.size w w':=by
 have r:=hE.rule 0 rfl;unfold opT at r;go_enter func210,ntmps210;go_wp2_with fail;refine (held_c (hE.get 1 rfl)).mono ?_;rintro e w2 ⟨rfl,hb1⟩;go_wp2_with fail;go_ret;exact ⟨rfl,hb1.alloc hb1.size _⟩
theorem takeLate_t (hh:S.hs=0) (hd:decP S.ql S.ce S.cl=0) (hE:Env w0 (boxI o (opT S.c kd key val lv rt nx 0 (.pointer (some ⟨sb,0,none⟩)) er dn vl)::LT S R) w) :
  Calls prog 211 #[.pointer (some ⟨o,0,none⟩)] w fun r w'=>r=.returned (.int .i64 1)/\Env w0 (boxI o (opT S.c kd key val lv rt nx 1 (.pointer (some ⟨sb,0,none⟩)) 7 false 0)::LT S R) w':=by
 have hmf:=makeF;have HH:=zH hh;have HD:=zH hd;clear hh hd;go_enter func211,ntmps211;go_wp2_with fail;refine Ord.wc [16] (OpAny S.c kd key val lv rt o (.pointer (some ⟨sb,0,none⟩))) (Stage [Env w0 (boxI o (opT S.c kd key val lv rt nx 0 (.pointer (some ⟨sb,0,none⟩)) er dn vl)::LT S R),Env w0 (boxI o (opT S.c kd key val lv rt nx 1 (.pointer (some ⟨sb,0,none⟩)) 7 false 0)::LT S R)]) ⟨nx,0,er,dn,vl,hE.drew.get 0 rfl⟩ ⟨_,rfl,hE.drew⟩ fun hT9=>?_
 repeat ((first
  | (refine Ord.cv ?_ hT9.o ?_ ?_; rotate_left; (intro w5 hS; obtain ⟨nx9,st9,er9,dn9,vl9,hS9⟩:=hS; have r:=Blk.rule hS9; unfold opT at r; go_simp<;>rfl))
  | (refine Ord.co hT9.o ?_));try simp only [Act.put,zA,zZ,zS])
 refine Ord.ch_turn (v:=.int .i64 1) 0 hT9.o rfl (by decide) (Or.inl rfl) (by rfl) ?_ ?_
 ·rintro w5 hC5 ⟨P5,hP5,hA5⟩;cases hP5;go_simp;simp only [Ord.LandsIn];refine (slotLate_n (S:=S) (R:=boxI o (opT S.c kd key val lv rt nx 0 (.pointer (some ⟨sb,0,none⟩)) er dn vl)::R) (kd:=kd) (key:=key) (val:=val) (lv:=lv) (o:=o) (ro:=6) (FF:=84) (OV:=208) (fun _ _=>by kernel_rfl) HH.out HD.out (fun s2 v=>s2=1/\Env w0 (boxI o (opT S.c kd key val lv rt nx 1 (.pointer (some ⟨sb,0,none⟩)) 7 false 0)::LT S R) v) hA5.sbackT fun v hv=>(over_t 7 false 0 hv.sfront).mono ?_).mono ?_
  ·rintro e w6 ⟨rfl,hE6⟩;exact ⟨1,rfl,rfl,hE6⟩
  ·rintro e w6 ⟨s2,rfl,rfl,hE6⟩;exact ⟨rfl,⟨_,_,_,_,_,hE6.get 0 rfl⟩,_,rfl,hE6⟩
 try simp only [Act.put,zA,zZ,zS]
 repeat ((first
  | (refine Ord.cv ?_ hT9.o ?_ ?_; rotate_left; (intro w5 hS; skip; go_simp<;>rfl))
  | (refine Ord.co hT9.o ?_));try simp only [Act.put,zA,zZ,zS])
 refine Ord.InText.nil fun w5 hS=>?_;clear hT9;obtain ⟨hC9,hA9⟩:=Ord.chain_end hS;clear hS;obtain ⟨P9,hP9,hA9⟩:=hA9;cases hP9;clear hC9 hE;go_wp2_with fail;go_ret;exact ⟨rfl,hA9⟩
theorem takeAlloc_t (hh:S.hs=0) (hd:decP S.ql S.ce S.cl≠0) (hE:Env w0 (boxI o (opT S.c kd key val lv rt nx 0 (.pointer (some ⟨sb,0,none⟩)) er dn vl)::LT S R) w) :
  Calls prog 211 #[.pointer (some ⟨o,0,none⟩)] w fun r w'=>r=.returned (.int .i64 0)/\∃ b1 b2 l,Env w0 (boxI o (opT S.c kd key val lv rt (cvP b1 b2) 0 (.pointer (some ⟨sb,0,none⟩)) er dn vl)::boxI b1 [mvL 251 l]::boxI b2 [cmV S.c kd key val lv o 6 84 208]::boxI l (av S.c { nx:=nxA l (decP S.ql S.ce S.cl),left:=.slice none 0 0,k:=kd,key:=key,val:=val,lv:=lv,h:=0,n:=0,r:=0,s:=0 })::LT S R) w':=by
 have hmf:=makeF;have HH:=zH hh;have HD:=zH hd;clear hh hd;go_enter func211,ntmps211;go_wp2_with fail;refine Ord.wc [16] (OpAny S.c kd key val lv rt o (.pointer (some ⟨sb,0,none⟩))) (Stage [Env w0 (boxI o (opT S.c kd key val lv rt nx 0 (.pointer (some ⟨sb,0,none⟩)) er dn vl)::LT S R),fun v=>∃ b1 b2 l,Env w0 (boxI o (opT S.c kd key val lv rt (cvP b1 b2) 0 (.pointer (some ⟨sb,0,none⟩)) er dn vl)::boxI b1 [mvL 251 l]::boxI b2 [cmV S.c kd key val lv o 6 84 208]::boxI l (av S.c { nx:=nxA l (decP S.ql S.ce S.cl),left:=.slice none 0 0,k:=kd,key:=key,val:=val,lv:=lv,h:=0,n:=0,r:=0,s:=0 })::LT S R) v]) ⟨nx,0,er,dn,vl,hE.drew.get 0 rfl⟩ ⟨_,rfl,hE.drew⟩ fun hT9=>?_
 repeat ((first
  | (refine Ord.cv ?_ hT9.o ?_ ?_; rotate_left; (intro w5 hS; obtain ⟨nx9,st9,er9,dn9,vl9,hS9⟩:=hS; have r:=Blk.rule hS9; unfold opT at r; go_simp<;>rfl))
  | (refine Ord.co hT9.o ?_));try simp only [Act.put,zA,zZ,zS])
 refine Ord.ch_turn (v:=.int .i64 0) 0 hT9.o rfl (by decide) (Or.inl rfl) (by rfl) ?_ ?_
 ·rintro w5 hC5 ⟨P5,hP5,hA5⟩;cases hP5;go_simp;simp only [Ord.LandsIn];refine (slotAlloc_n (S:=S) (R:=boxI o (opT S.c kd key val lv rt nx 0 (.pointer (some ⟨sb,0,none⟩)) er dn vl)::R) (kd:=kd) (key:=key) (val:=val) (lv:=lv) (o:=o) (ro:=6) (FF:=84) (OV:=208) (m:=0) rfl (by simp [opT]) HH.out HD.out hA5.sbackT).mono ?_;rintro e w6 ⟨rfl,b1,b2,l,hE6⟩;have hE7:Env w0 (boxI o (opT S.c kd key val lv rt (cvP b1 b2) 0 (.pointer (some ⟨sb,0,none⟩)) er dn vl)::boxI b1 [mvL 251 l]::boxI b2 [cmV S.c kd key val lv o 6 84 208]::boxI l (av S.c { nx:=nxA l (decP S.ql S.ce S.cl),left:=.slice none 0 0,k:=kd,key:=key,val:=val,lv:=lv,h:=0,n:=0,r:=0,s:=0 })::LT S R) w6:=hE6.perm (List.perm_middle (l₁:=[_,_,_,_,_,_,_]));exact ⟨rfl,⟨_,_,_,_,_,hE7.get 0 rfl⟩,_,rfl,b1,b2,l,hE7⟩
 try simp only [Act.put,zA,zZ,zS]
 repeat ((first
  | (refine Ord.cv ?_ hT9.o ?_ ?_; rotate_left; (intro w5 hS; skip; go_simp<;>rfl))
  | (refine Ord.co hT9.o ?_));try simp only [Act.put,zA,zZ,zS])
 refine Ord.InText.nil fun w5 hS=>?_;clear hT9;obtain ⟨hC9,hA9⟩:=Ord.chain_end hS;clear hS;obtain ⟨P9,hP9,hA9⟩:=hA9;cases hP9;obtain ⟨b1,b2,l,hA9⟩:=hA9;clear hC9 hE;go_wp2_with fail;go_ret;exact ⟨rfl,b1,b2,l,hA9⟩
theorem unlink_t (to:Int) (hE:Env w0 (boxI o (opT S.c kd key val lv rt nx 0 (.pointer (some ⟨sb,0,none⟩)) er dn vl)::boxI sb (srC S.c rt key true (.pointer (some ⟨a,0,none⟩)))::boxI a (laneC S.c 0 key true lnx st x y z W C X wd pf pv)::LT S R) w) :
  Calls prog 204 #[.pointer (some ⟨o,0,none⟩),.agg #[.int .i64 to,.int .i64 0]] w fun r w'=>r=.returned (.int .i64 0)/\∃ b1 b2 u,Env w0 (boxI o (opT S.c kd key val lv rt (cvP b1 b2) 0 (.pointer (some ⟨sb,0,none⟩)) er dn vl)::boxI b1 [mvL 224 u]::boxI b2 [mvL 244 o]::boxI u (ukC S.c x y z W C X rt key to (mvL 260 u) 0)::boxI sb (srC S.c rt key true (.pointer (some ⟨a,0,none⟩)))::boxI a (laneC S.c 0 key true lnx st x y z W C X wd pf pv)::LT S R) w':=by
 have hmf:=makeF;have hE1:=hE.box w.heap.size rfl [.int .i64 to,.int .i64 0] 136;clear hE;go_enter func204,ntmps204;go_wp2_with fail;generalize w.alloc _=w1 at *;generalize w.heap.size=Y at *;obtain ⟨L2,hL2⟩:∃ L2,LT S R=L2:=⟨_,rfl⟩;rw [hL2] at hE1;have HL2:=zH hL2;clear hL2;refine Ord3.wp_chain [?_,?_,?_,?_,?_,?_,?_,?_,?_,?_,?_,?_,?_,?_,?_,?_,?_,?_] [16,17] (fun v=>Blk 0 v o (opT S.c kd key val lv rt nx 0 (.pointer (some ⟨sb,0,none⟩)) er dn vl)/\Blk 0 v sb (srC S.c rt key true (.pointer (some ⟨a,0,none⟩)))/\Blk 0 v Y [.int .i64 to,.int .i64 0]) (Ord3.Stage fun κs=>[Env w0 (boxI Y [.int .i64 to,.int .i64 0]::boxI o (opT S.c kd key val lv rt nx 0 (.pointer (some ⟨sb,0,none⟩)) er dn vl)::boxI sb (srC S.c rt key true (.pointer (some ⟨a,0,none⟩)))::boxI a (laneC S.c 0 key true lnx st x y z W C X wd pf pv)::L2),fun v=>∃ q,κs.getD 0 undef=.pointer (some ⟨q,0,none⟩)/\Env w0 (boxI q (ukC S.c x y z W C X rt key to (mvL 260 q) 0)::boxI Y [.int .i64 to,.int .i64 0]::boxI o (opT S.c kd key val lv rt nx 0 (.pointer (some ⟨sb,0,none⟩)) er dn vl)::boxI sb (srC S.c rt key true (.pointer (some ⟨a,0,none⟩)))::boxI a (laneC S.c 0 key true lnx st x y z W C X wd pf pv)::L2) v,fun v=>∃ q,κs.getD 1 undef=.pointer (some ⟨q,0,none⟩)/\Env w0 (boxI q (ukC S.c x y z W C X rt key to (mvL 260 q) 0)::boxI Y [.int .i64 to,.int .i64 0]::boxI o (opT S.c kd key val lv rt nx 0 (.pointer (some ⟨sb,0,none⟩)) er dn vl)::boxI sb (srC S.c rt key true (.pointer (some ⟨a,0,none⟩)))::boxI a (laneC S.c 0 key true lnx st x y z W C X wd pf pv)::L2) v]) (by kernel_rfl) (by kernel_rfl) (by kernel_rfl) ⟨hE1.drew.get 1 rfl,hE1.drew.get 2 rfl,hE1.drew.get 0 rfl⟩ ⟨_,rfl,hE1.drew⟩ (fun hT=>?_);rotate_left 18;have hT9:=zH hT;clear hT
 repeat ((first
  | (focus (refine Ord3.in_value (v:=?_) hT9.o (by decide) ?_ (by rfl) ?_ ?_; rotate_left 2; (intro w5 hS; have r1:=Blk.rule hS.1; unfold opT at r1; have r2:=Blk.rule hS.2.2; go_simp<;>rfl); rotate_right; (focus rfl)))
  | (focus (refine Ord3.in_off hT9.o (by decide) ?_ (by rfl) ?_; (focus rfl)))
  | (focus (refine Ord3.in_call (v:=?_) (f:=?_) (args:=?_) hT9.o (by decide) ?_ (by rfl) ?_ ?_ ?_; rotate_left 4; (intro w5 hS; have r1:=Blk.rule hS.1; unfold opT at r1; have r2:=Blk.rule hS.2.2; go_simp; constructor<;>rfl); (intro w5 hS; (first | (with_reducible refine (lane_b hS.1 hS.2.1).mono ?_; rintro e w6 ⟨rfl,rfl⟩; constructor; rfl; exact ⟨hS,fun us h=>h⟩))); rotate_right; (focus rfl))));try simp only [Act.put,zA,zZ,zS])
 refine Ord3.in_turn (fun u=>∃ q,u=.pointer (some ⟨q,0,none⟩)) _ ⟨0,rfl⟩ hT9.o rfl (by decide) (by rfl) ?_ (Or.inl rfl) (by rfl) ?_ ?_
 ·rfl
 ·rintro w7 hC7 ⟨P7,hP7,hA7⟩;cases hP7;go_simp;simp only [Ord3.Lands];refine (newUnlink_k rt key to 3 rfl hA7).mono ?_;rintro o8 w8 ⟨r8,rfl,hE8⟩;exact ⟨_,rfl,⟨r8,rfl⟩,⟨hE8.get 2 rfl,hE8.get 3 rfl,hE8.get 1 rfl⟩,_,rfl,r8,rfl,hE8⟩
 rintro _ ⟨q9,rfl⟩
 try simp only [Act.put,zA,zZ,zS]
 refine Ord3.in_turn (fun u=>∃ q,u=.pointer (some ⟨q,0,none⟩)) _ ⟨0,rfl⟩ hT9.o rfl (by decide) (by rfl) ?_ (Or.inr ⟨_,16,[],rfl,by kernel_rfl,by kernel_rfl,rfl⟩) (by rfl) ?_ ?_
 ·rfl
 ·rintro w7 hC7 ⟨P7,hP7,hA7⟩;cases hP7;obtain ⟨q8,he,hA7⟩:=hA7;cases he;go_simp;simp only [Ord3.Lands];exact ⟨⟨_,rfl⟩,hC7,_,rfl,q9,rfl,hA7⟩
 rintro _ ⟨q9,rfl⟩
 try simp only [Act.put,zA,zZ,zS]
 refine Ord3.in_nil rfl ?_;rintro w9 hC9 ⟨P9,hP9,hA9⟩;cases hP9;obtain ⟨q8,he,hA9⟩:=hA9;cases he;clear hT9 hC9 hE1;have r0:=hA9.rule 2 rfl;unfold opT at r0;go_wp2_with fail;refine (play_r (o:=6) 2 _ _ _ _ _ _ (by simp [opT]) hA9 rfl).mono ?_;rintro o8 w8 ⟨rfl,b1,b2,hE8⟩;go_wp2_with fail;go_ret;refine ⟨rfl,b1,b2,q9,?_⟩;rw [<- HL2.out] at hE8;have h9:=hE8.sub (L':=boxI b1 [mvL 224 q9]::boxI b2 [mvL 244 o]::boxI q9 (ukC S.c x y z W C X rt key to (mvL 260 q9) 0)::boxI o (opT S.c kd key val lv rt (cvP b1 b2) 0 (.pointer (some ⟨sb,0,none⟩)) er dn vl)::boxI sb (srC S.c rt key true (.pointer (some ⟨a,0,none⟩)))::boxI a (laneC S.c 0 key true lnx st x y z W C X wd pf pv)::LT S R) (.cons_cons _ (.cons_cons _ (.cons_cons _ (.cons _ (List.Sublist.refl _)))));exact h9.perm (List.perm_middle (l₁:=[_,_,_]))
theorem foundRem_t (hX:InU X) (hg:Glo w0) (hE:Env w0 (boxI o (opT S.c 6 key val lv rt nx 0 (.pointer (some ⟨sb,0,none⟩)) er dn vl)::boxI sb (srC S.c rt key true (.pointer (some ⟨a,0,none⟩)))::boxI a (laneC S.c 0 key true lnx st x y z W C X wd pf pv)::LT S R) w) :
  Calls prog 172 #[.pointer (some ⟨o,0,none⟩)] w fun r w'=>r=.returned (.int .i64 0)/\∃ b1 b2 u,Env w0 (boxI o (opT S.c 6 key val lv rt (cvP b1 b2) 0 (.pointer (some ⟨sb,0,none⟩)) er dn vl)::boxI b1 [mvL 224 u]::boxI b2 [mvL 244 o]::boxI u (ukC S.c x y z W C X rt key (slotI X) (mvL 260 u) 0)::boxI sb (srC S.c rt key true (.pointer (some ⟨a,0,none⟩)))::boxI a (laneC S.c 0 key true lnx st x y z W C X wd pf pv)::LT S R) w':=by
 have HLE:=zH fun (v:World) (hv:Below w0.heap.size w0 v)=>lead_c X 0 false v hX (hg.keep' hv);have r:=hE.rule 0 rfl;unfold opT at r;clear hX hg;go_enter func172,ntmps172;go_wp2_with fail;refine (lane_t hE).mono ?_;rintro e w1 ⟨rfl,rfl⟩;go_wp2_with fail;refine (out_g (hE.get 2 rfl)).mono ?_;rintro e w2 ⟨rfl,hb⟩;replace hE:=hE.over hb;clear hb r;go_wp2_with fail;refine (HLE.out _ hE.below).mono ?_;rintro e w3 ⟨rfl,hb⟩;replace hE:=hE.over hb;clear hb;go_wp2_with fail;refine (unlink_t (slotI X) hE).mono ?_;rintro e w4 ⟨rfl,b1,b2,u,hE2⟩;go_wp2_with fail;go_ret;exact ⟨rfl,b1,b2,u,hE2⟩
theorem foundGet_t (hk4:kd≠4) (hk5:kd≠5) (hk6:kd≠6) (hE:Env w0 (boxI o (opT S.c kd key val lv rt nx 0 (.pointer (some ⟨sb,0,none⟩)) er dn vl)::boxI sb (srC S.c rt key true (.pointer (some ⟨a,0,none⟩)))::boxI a (laneC S.c 0 key true lnx st x y z W C X wd pf pv)::LT S R) w) :
  Calls prog 172 #[.pointer (some ⟨o,0,none⟩)] w fun r w'=>r=.returned (.int .i64 1)/\Env w0 (boxI o (opT S.c kd key val lv rt nx 1 (.pointer (some ⟨sb,0,none⟩)) 0 true pv)::LT S R) w':=by
 have h4:(kd==4)=false:=by simpa using hk4
 have h5:(kd==5)=false:=by simpa using hk5
 have h6:(kd==6)=false:=by simpa using hk6
 have r:=hE.rule 0 rfl;unfold opT at r;clear hk4 hk5 hk6;go_enter func172,ntmps172;go_wp2_with fail;refine (lane_t hE).mono ?_;rintro e w1 ⟨rfl,rfl⟩;go_wp2_with fail;refine (val_g (hE.get 2 rfl)).mono ?_;rintro e w2 ⟨rfl,rfl⟩;go_wp2_with fail;refine (over_t 0 true pv hE).mono ?_;rintro e w3 ⟨rfl,hE2⟩;go_wp2_with fail;go_ret;exact ⟨rfl,hE2.sub (.cons_cons _ (.cons _ (.cons _ (List.Sublist.refl _))))⟩
theorem foundAdd_t (hl:S.ql.length+1<=1048576) (hE:Env w0 (boxI o (opT S.c 5 key val lv rt nx 0 (.pointer (some ⟨sb,0,none⟩)) er dn vl)::boxI sb (srC S.c rt key true (.pointer (some ⟨a,0,none⟩)))::boxI a (laneC S.c 0 key true lnx st x y z W C X wd pf pv)::LT S R) w) :
  Calls prog 172 #[.pointer (some ⟨o,0,none⟩)] w fun r w'=>r=.returned (.int .i64 1)/\∃ F' k',Env w0 (boxI o (opT S.c 5 key val lv rt nx 1 (.pointer (some ⟨sb,0,none⟩)) 0 false pv)::LT { S with ql:=dropQ S.hs S.ql,hs:=0,F:=F',kq:=k' } R) w':=by
 have r:=hE.rule 0 rfl;unfold opT at r
 by_cases hh:S.hs=0
 ·have HH:=zH hh;clear hh;go_enter func172,ntmps172;go_wp2_with fail;refine (dropNo_c HH.out (hE.get 3 rfl)).mono ?_;rintro e w1 ⟨rfl,hb1⟩;replace hE:=hE.over hb1;clear hb1 r;go_wp2_with fail;refine (lane_t hE).mono ?_;rintro e w2 ⟨rfl,rfl⟩;go_wp2_with fail;refine (val_g (hE.get 2 rfl)).mono ?_;rintro e w3 ⟨rfl,rfl⟩;go_wp2_with fail;refine (over_t 0 false pv hE).mono ?_;rintro e w4 ⟨rfl,hE2⟩;go_wp2_with fail;go_ret;have hh:=HH.out;rw [show dropQ S.hs S.ql=S.ql from if_pos hh];have h9:=hE2.sub (L':=boxI o (opT S.c 5 key val lv rt nx 1 (.pointer (some ⟨sb,0,none⟩)) 0 false pv)::LT S R) (.cons_cons _ (.cons _ (.cons _ (List.Sublist.refl _))));have hS0:({ S with hs:=0 }:ST)=S:=by rw [<- hh]
  rw [<- hS0] at h9;exact ⟨rfl,S.F,S.kq,h9⟩
 ·have HH:=zH hh;have HL:=zH hl;clear hh hl;go_enter func172,ntmps172;go_wp2_with fail;refine (dropYes_c HH.out 3 4 (by decide) hE rfl rfl HL.out).mono ?_;rintro e w1 ⟨rfl,k',F',-,hE1⟩;simp only [zZ,zS] at hE1;clear hE r;go_wp2_with fail;refine (lane_t hE1).mono ?_;rintro e w2 ⟨rfl,rfl⟩;go_wp2_with fail;refine (val_g (hE1.get 2 rfl)).mono ?_;rintro e w3 ⟨rfl,rfl⟩;go_wp2_with fail;refine (over_t 0 false pv hE1).mono ?_;rintro e w4 ⟨rfl,hE2⟩;go_wp2_with fail;go_ret;rw [show dropQ S.hs S.ql=S.ql++[(S.hs,0,0)] from if_neg HH.out];exact ⟨rfl,F',k',hE2.sub (.cons_cons _ (.cons _ (.cons _ (List.Sublist.refl _))))⟩
end
section
variable {w0 w:World} {L R:List Item} {o sb a c:Nat} {S:ST} {kd key val lv rt:Int} {nx lnx sp:Value} {er st st9 x y z W C X wd vl pv:Int} {dn pf:Bool}
theorem replaceLate_t (hh:S.hs=0) (hd:decP S.ql S.ce S.cl=0) (hE:Env w0 (boxI o (opT S.c 4 key val lv rt nx 0 (.pointer (some ⟨sb,0,none⟩)) er dn vl)::boxI sb (srC S.c rt key true (.pointer (some ⟨a,0,none⟩)))::boxI a (laneC S.c 0 key true lnx st x y z W C X wd pf pv)::LT S R) w) :
  Calls prog 203 #[.pointer (some ⟨o,0,none⟩)] w fun r w'=>r=.returned (.int .i64 1)/\Env w0 (boxI o (opT S.c 4 key val lv rt nx 1 (.pointer (some ⟨sb,0,none⟩)) 7 false 0)::LT S R) w':=by
 have hb:(S.hs != 0)=false:=by simpa using hh
 have HT:=zH fun (v:World) (hv:Env w0 (boxI o (opT S.c 4 key val lv rt nx 0 (.pointer (some ⟨sb,0,none⟩)) er dn vl)::LT S R) v)=>takeLate_t hh hd hv;have hE1:Env w0 (boxI o (opT S.c 4 key val lv rt nx 0 (.pointer (some ⟨sb,0,none⟩)) er dn vl)::LT S R) w:=(hE.sub (.cons_cons _ (.cons _ (.cons _ (List.Sublist.refl _)))));clear hE hh hd;go_enter func203,ntmps203;go_wp2_with fail;refine (holds_t hE1).mono ?_;rintro e w1 ⟨rfl,hb1⟩;rw [hb];replace hE1:=hE1.over hb1;clear hb1 hb;go_wp2_with fail;refine (HT.out _ hE1).mono ?_;rintro e w2 ⟨rfl,hE2⟩;go_wp2_with fail;go_ret;exact ⟨rfl,hE2⟩
theorem replaceAlloc_t (hh:S.hs=0) (hd:decP S.ql S.ce S.cl≠0) (hE:Env w0 (boxI o (opT S.c 4 key val lv rt nx 0 (.pointer (some ⟨sb,0,none⟩)) er dn vl)::boxI sb (srC S.c rt key true (.pointer (some ⟨a,0,none⟩)))::boxI a (laneC S.c 0 key true lnx st x y z W C X wd pf pv)::LT S R) w) :
  Calls prog 203 #[.pointer (some ⟨o,0,none⟩)] w fun r w'=>r=.returned (.int .i64 0)/\∃ b1 b2 l,Env w0 (boxI o (opT S.c 4 key val lv rt (cvP b1 b2) 0 (.pointer (some ⟨sb,0,none⟩)) er dn vl)::boxI b1 [mvL 251 l]::boxI b2 [cmV S.c 4 key val lv o 6 84 208]::boxI l (av S.c { nx:=nxA l (decP S.ql S.ce S.cl),left:=.slice none 0 0,k:=4,key:=key,val:=val,lv:=lv,h:=0,n:=0,r:=0,s:=0 })::LT S R) w':=by
 have hb:(S.hs != 0)=false:=by simpa using hh
 have HT:=zH fun (v:World) (hv:Env w0 (boxI o (opT S.c 4 key val lv rt nx 0 (.pointer (some ⟨sb,0,none⟩)) er dn vl)::LT S R) v)=>takeAlloc_t hh hd hv;have hE1:Env w0 (boxI o (opT S.c 4 key val lv rt nx 0 (.pointer (some ⟨sb,0,none⟩)) er dn vl)::LT S R) w:=(hE.sub (.cons_cons _ (.cons _ (.cons _ (List.Sublist.refl _)))));clear hE hh hd;go_enter func203,ntmps203;go_wp2_with fail;refine (holds_t hE1).mono ?_;rintro e w1 ⟨rfl,hb1⟩;rw [hb];replace hE1:=hE1.over hb1;clear hb1 hb;go_wp2_with fail;refine (HT.out _ hE1).mono ?_;rintro e w2 ⟨rfl,b1,b2,l,hE2⟩;go_wp2_with fail;go_ret;exact ⟨rfl,b1,b2,l,hE2⟩
theorem foundPutLate_t (hh:S.hs=0) (hd:decP S.ql S.ce S.cl=0) (hE:Env w0 (boxI o (opT S.c 4 key val lv rt nx 0 (.pointer (some ⟨sb,0,none⟩)) er dn vl)::boxI sb (srC S.c rt key true (.pointer (some ⟨a,0,none⟩)))::boxI a (laneC S.c 0 key true lnx st x y z W C X wd pf pv)::LT S R) w) :
  Calls prog 172 #[.pointer (some ⟨o,0,none⟩)] w fun r w'=>r=.returned (.int .i64 1)/\Env w0 (boxI o (opT S.c 4 key val lv rt nx 1 (.pointer (some ⟨sb,0,none⟩)) 7 false 0)::LT S R) w':=by
 have HT:=zH (replaceLate_t hh hd hE);have r:=hE.rule 0 rfl;unfold opT at r;clear hh hd;go_enter func172,ntmps172;go_wp2_with fail;refine HT.out.mono ?_;rintro e w2 ⟨rfl,hE2⟩;go_wp2_with fail;go_ret;exact ⟨rfl,hE2⟩
theorem foundPutAlloc_t (hh:S.hs=0) (hd:decP S.ql S.ce S.cl≠0) (hE:Env w0 (boxI o (opT S.c 4 key val lv rt nx 0 (.pointer (some ⟨sb,0,none⟩)) er dn vl)::boxI sb (srC S.c rt key true (.pointer (some ⟨a,0,none⟩)))::boxI a (laneC S.c 0 key true lnx st x y z W C X wd pf pv)::LT S R) w) :
  Calls prog 172 #[.pointer (some ⟨o,0,none⟩)] w fun r w'=>r=.returned (.int .i64 0)/\∃ b1 b2 l,Env w0 (boxI o (opT S.c 4 key val lv rt (cvP b1 b2) 0 (.pointer (some ⟨sb,0,none⟩)) er dn vl)::boxI b1 [mvL 251 l]::boxI b2 [cmV S.c 4 key val lv o 6 84 208]::boxI l (av S.c { nx:=nxA l (decP S.ql S.ce S.cl),left:=.slice none 0 0,k:=4,key:=key,val:=val,lv:=lv,h:=0,n:=0,r:=0,s:=0 })::LT S R) w':=by
 have HT:=zH (replaceAlloc_t hh hd hE);have r:=hE.rule 0 rfl;unfold opT at r;clear hh hd;go_enter func172,ntmps172;go_wp2_with fail;refine HT.out.mono ?_;rintro e w2 ⟨rfl,b1,b2,l,hE2⟩;go_wp2_with fail;go_ret;exact ⟨rfl,b1,b2,l,hE2⟩
theorem replaceHeld_t (hh:S.hs≠0) (hE:Env w0 (boxI o (opT S.c 4 key val lv rt nx 0 (.pointer (some ⟨sb,0,none⟩)) er dn vl)::boxI sb (srC S.c rt key true (.pointer (some ⟨a,0,none⟩)))::boxI a (laneC S.c 0 key true lnx st x y z W C X wd pf pv)::LT S R) w) :
  Calls prog 203 #[.pointer (some ⟨o,0,none⟩)] w fun r w'=>r=.returned (.int .i64 0)/\Env w0 (boxI o (opT S.c 4 key val lv rt (mvL 243 o) 0 (.pointer (some ⟨sb,0,none⟩)) er dn vl)::boxI sb (srC S.c rt key true (.pointer (some ⟨a,0,none⟩)))::boxI a (laneC S.c 0 key true lnx st x y z W C X wd pf pv)::LT S R) w':=by
 have hmf:=makeF;have hb:(S.hs != 0)=true:=by simpa using hh
 have hE1:Env w0 (boxI o (opT S.c 4 key val lv rt nx 0 (.pointer (some ⟨sb,0,none⟩)) er dn vl)::LT S R) w:=(hE.sub (.cons_cons _ (.cons _ (.cons _ (List.Sublist.refl _)))));have HH:=zH (holds_t hE1);clear hh hE1;go_enter func203,ntmps203;go_wp2_with fail;refine HH.out.mono ?_;rintro e w1 ⟨rfl,hb1⟩;rw [hb];replace hE:=hE.over hb1;clear hb1 hb HH;go_wp2_with fail;refine (goOn_r (o:=6) 0 (.func 243) #[.pointer (some ⟨o,0,none⟩)] #[] (by simp [opT]) hE rfl).mono ?_;rintro e w2 ⟨rfl,hE2⟩;go_wp2_with fail;go_ret;exact ⟨rfl,hE2⟩
theorem foundPutHeld_t (hh:S.hs≠0) (hE:Env w0 (boxI o (opT S.c 4 key val lv rt nx 0 (.pointer (some ⟨sb,0,none⟩)) er dn vl)::boxI sb (srC S.c rt key true (.pointer (some ⟨a,0,none⟩)))::boxI a (laneC S.c 0 key true lnx st x y z W C X wd pf pv)::LT S R) w) :
  Calls prog 172 #[.pointer (some ⟨o,0,none⟩)] w fun r w'=>r=.returned (.int .i64 0)/\Env w0 (boxI o (opT S.c 4 key val lv rt (mvL 243 o) 0 (.pointer (some ⟨sb,0,none⟩)) er dn vl)::boxI sb (srC S.c rt key true (.pointer (some ⟨a,0,none⟩)))::boxI a (laneC S.c 0 key true lnx st x y z W C X wd pf pv)::LT S R) w':=by
 have HT:=zH (replaceHeld_t hh hE);have r:=hE.rule 0 rfl;unfold opT at r;clear hh;go_enter func172,ntmps172;go_wp2_with fail;refine HT.out.mono ?_;rintro e w2 ⟨rfl,hE2⟩;go_wp2_with fail;go_ret;exact ⟨rfl,hE2⟩
theorem missedNo_t (h4:kd≠4) (h5:kd≠5) (hE:Env w0 (boxI o (opT S.c kd key val lv rt nx 0 (.pointer (some ⟨sb,0,none⟩)) er dn vl)::boxI sb (srC S.c rt key true (.pointer (some ⟨a,0,none⟩)))::boxI a (laneC S.c 0 key true lnx st x y z W C X wd pf pv)::LT S R) w) :
  Calls prog 173 #[.pointer (some ⟨o,0,none⟩)] w fun r w'=>r=.returned (.int .i64 1)/\Env w0 (boxI o (opT S.c kd key val lv rt nx 1 (.pointer (some ⟨sb,0,none⟩)) 0 false 0)::LT S R) w':=by
 have b4:(kd != 4)=true:=by simpa using h4
 have b5:(kd != 5)=true:=by simpa using h5
 have r:=hE.rule 0 rfl;unfold opT at r;clear h4 h5;go_enter func173,ntmps173;go_wp2_with fail;refine (over_t 0 false 0 hE).mono ?_;rintro e w3 ⟨rfl,hE2⟩;go_wp2_with fail;go_ret;exact ⟨rfl,hE2.sub (.cons_cons _ (.cons _ (.cons _ (List.Sublist.refl _))))⟩
theorem missedLate_t (hk:kd=4\/kd=5) (hh:S.hs=0) (hd:decP S.ql S.ce S.cl=0) (hE:Env w0 (boxI o (opT S.c kd key val lv rt nx 0 (.pointer (some ⟨sb,0,none⟩)) er dn vl)::boxI sb (srC S.c rt key true (.pointer (some ⟨a,0,none⟩)))::boxI a (laneC S.c 0 key true lnx st x y z W C X wd pf pv)::LT S R) w) :
  Calls prog 173 #[.pointer (some ⟨o,0,none⟩)] w fun r w'=>r=.returned (.int .i64 1)/\Env w0 (boxI o (opT S.c kd key val lv rt nx 1 (.pointer (some ⟨sb,0,none⟩)) 7 false 0)::LT S R) w':=by
 have hb:(S.hs != 0)=false:=by simpa using hh
 have HT:=zH fun (v:World) (hv:Env w0 (boxI o (opT S.c kd key val lv rt nx 0 (.pointer (some ⟨sb,0,none⟩)) er dn vl)::LT S R) v)=>takeLate_t hh hd hv;have hE1:Env w0 (boxI o (opT S.c kd key val lv rt nx 0 (.pointer (some ⟨sb,0,none⟩)) er dn vl)::LT S R) w:=(hE.sub (.cons_cons _ (.cons _ (.cons _ (List.Sublist.refl _)))));have r:=hE1.rule 0 rfl;unfold opT at r;clear hE hh hd
 rcases hk with rfl | rfl
 all_goals
  go_enter func173,ntmps173;go_wp2_with fail;refine (holds_t hE1).mono ?_;rintro e w1 ⟨rfl,hb1⟩;rw [hb];replace hE1:=hE1.over hb1;clear hb1 hb r;go_wp2_with fail;refine (HT.out _ hE1).mono ?_;rintro e w2 ⟨rfl,hE2⟩;go_wp2_with fail;go_ret;exact ⟨rfl,hE2⟩
theorem missedAlloc_t (hk:kd=4\/kd=5) (hh:S.hs=0) (hd:decP S.ql S.ce S.cl≠0) (hE:Env w0 (boxI o (opT S.c kd key val lv rt nx 0 (.pointer (some ⟨sb,0,none⟩)) er dn vl)::boxI sb (srC S.c rt key true (.pointer (some ⟨a,0,none⟩)))::boxI a (laneC S.c 0 key true lnx st x y z W C X wd pf pv)::LT S R) w) :
  Calls prog 173 #[.pointer (some ⟨o,0,none⟩)] w fun r w'=>r=.returned (.int .i64 0)/\∃ b1 b2 l,Env w0 (boxI o (opT S.c kd key val lv rt (cvP b1 b2) 0 (.pointer (some ⟨sb,0,none⟩)) er dn vl)::boxI b1 [mvL 251 l]::boxI b2 [cmV S.c kd key val lv o 6 84 208]::boxI l (av S.c { nx:=nxA l (decP S.ql S.ce S.cl),left:=.slice none 0 0,k:=kd,key:=key,val:=val,lv:=lv,h:=0,n:=0,r:=0,s:=0 })::LT S R) w':=by
 have hb:(S.hs != 0)=false:=by simpa using hh
 have HT:=zH fun (v:World) (hv:Env w0 (boxI o (opT S.c kd key val lv rt nx 0 (.pointer (some ⟨sb,0,none⟩)) er dn vl)::LT S R) v)=>takeAlloc_t hh hd hv;have hE1:Env w0 (boxI o (opT S.c kd key val lv rt nx 0 (.pointer (some ⟨sb,0,none⟩)) er dn vl)::LT S R) w:=(hE.sub (.cons_cons _ (.cons _ (.cons _ (List.Sublist.refl _)))));have r:=hE1.rule 0 rfl;unfold opT at r;clear hE hh hd
 rcases hk with rfl | rfl
 all_goals
  go_enter func173,ntmps173;go_wp2_with fail;refine (holds_t hE1).mono ?_;rintro e w1 ⟨rfl,hb1⟩;rw [hb];replace hE1:=hE1.over hb1;clear hb1 hb r;go_wp2_with fail;refine (HT.out _ hE1).mono ?_;rintro e w2 ⟨rfl,b1,b2,l,hE2⟩;go_wp2_with fail;go_ret;exact ⟨rfl,b1,b2,l,hE2⟩
theorem searchedYes_t (u:Int) (Q:Int->World->Prop) (hE:Env w0 (boxI o (opT S.c kd key val lv rt nx 0 (.pointer (some ⟨sb,0,none⟩)) er dn vl)::boxI sb (srC S.c rt key true (.pointer (some ⟨a,0,none⟩)))::boxI a (laneC S.c 0 key true lnx st x y z W C X wd true pv)::LT S R) w) (hc:Calls prog 172 #[.pointer (some ⟨o,0,none⟩)] w fun e w'=>∃ s,e=.returned (.int .i64 s)/\Q s w') :
  Calls prog 133 #[.pointer (some ⟨o,0,none⟩),.int .i64 u] w fun e w'=>∃ s,e=.returned (.int .i64 s)/\Q s w':=by
 have HC:=zH hc;clear hc;go_enter func133,ntmps133;go_wp2_with fail;refine (lane_t hE).mono ?_;rintro e w1 ⟨rfl,rfl⟩;go_wp2_with fail;refine (found_g (hE.get 2 rfl)).mono ?_;rintro e w1 ⟨rfl,rfl⟩;go_wp2_with fail;refine HC.out.mono ?_;rintro e w2 ⟨s,rfl,hq⟩;go_wp2_with fail;go_ret;exact ⟨s,rfl,hq⟩
theorem searchedNo_t (u:Int) (Q:Int->World->Prop) (hE:Env w0 (boxI o (opT S.c kd key val lv rt nx 0 (.pointer (some ⟨sb,0,none⟩)) er dn vl)::boxI sb (srC S.c rt key true (.pointer (some ⟨a,0,none⟩)))::boxI a (laneC S.c 0 key true lnx st x y z W C X wd false pv)::LT S R) w) (hc:Calls prog 173 #[.pointer (some ⟨o,0,none⟩)] w fun e w'=>∃ s,e=.returned (.int .i64 s)/\Q s w') :
  Calls prog 133 #[.pointer (some ⟨o,0,none⟩),.int .i64 u] w fun e w'=>∃ s,e=.returned (.int .i64 s)/\Q s w':=by
 have HC:=zH hc;clear hc;go_enter func133,ntmps133;go_wp2_with fail;refine (lane_t hE).mono ?_;rintro e w1 ⟨rfl,rfl⟩;go_wp2_with fail;refine (found_g (hE.get 2 rfl)).mono ?_;rintro e w1 ⟨rfl,rfl⟩;go_wp2_with fail;refine HC.out.mono ?_;rintro e w2 ⟨s,rfl,hq⟩;go_wp2_with fail;go_ret;exact ⟨s,rfl,hq⟩
theorem unlinkedDone_t (hE:Env w0 (boxI o (opT S.c kd key val lv rt nx 0 (.pointer (some ⟨sb,0,none⟩)) er dn vl)::boxI sb (srC S.c rt key true (.pointer (some ⟨a,0,none⟩)))::boxI a (laneC S.c 0 key true lnx st x y z W C X wd pf pv)::LT S R) w) :
  Calls prog 244 #[.pointer (some ⟨o,0,none⟩),.int .i64 1] w fun r w'=>r=.returned (.int .i64 1)/\Env w0 (boxI o (opT S.c kd key val lv rt nx 1 (.pointer (some ⟨sb,0,none⟩)) 0 true pv)::LT S R) w':=by
 go_enter func244,ntmps244;go_wp2_with fail;refine (lane_t hE).mono ?_;rintro e w1 ⟨rfl,rfl⟩;go_wp2_with fail;refine (val_g (hE.get 2 rfl)).mono ?_;rintro e w2 ⟨rfl,rfl⟩;go_wp2_with fail;refine (over_t 0 true pv hE).mono ?_;rintro e w3 ⟨rfl,hE2⟩;go_wp2_with fail;go_ret;exact ⟨rfl,hE2.sub (.cons_cons _ (.cons _ (.cons _ (List.Sublist.refl _))))⟩
theorem unlinkedFind_t (hE:Env w0 (boxI o (opT S.c kd key val lv rt nx 0 (.pointer (some ⟨sb,0,none⟩)) er dn vl)::LT S R) w) :
  Calls prog 244 #[.pointer (some ⟨o,0,none⟩),.int .i64 2] w fun r w'=>r=.returned (.int .i64 0)/\∃ b1 b2 sb2,Env w0 (boxI o (opT S.c kd key val lv rt (cvP b1 b2) 0 (.pointer (some ⟨sb2,0,none⟩)) er dn vl)::boxI b1 [mvL 132 sb2]::boxI b2 [mvL 133 o]::boxI sb2 (srC S.c rt key true (.pointer none))::LT S R) w':=by
 have HF:=zH (find_t hE);clear hE;go_enter func244,ntmps244;go_wp2_with fail;refine HF.out.mono ?_;rintro e w1 ⟨rfl,b1,b2,sb2,hE2⟩;go_wp2_with fail;go_ret;exact ⟨rfl,b1,b2,sb2,hE2⟩
end
section
variable {w0 w:World} {L R:List Item} {o sb a c:Nat} {S:ST} {kd key val lv rt:Int} {nx lnx sp:Value} {er st st9 x y z W C X wd vl pv:Int} {dn pf:Bool}
theorem missedLink_t (hk:kd=4\/kd=5) (hh:S.hs≠0) (hE:Env w0 (boxI o (opT S.c kd key val lv rt nx 0 (.pointer (some ⟨sb,0,none⟩)) er dn vl)::boxI sb (srC S.c rt key true (.pointer (some ⟨a,0,none⟩)))::boxI a (laneC S.c 0 key true lnx st x y z W C X wd false pv)::LT S R) w) :
  Calls prog 173 #[.pointer (some ⟨o,0,none⟩)] w fun r w'=>r=.returned (.int .i64 0)/\∃ b1 b2 l,Env w0 (boxI o (opT S.c kd key val lv rt (cvP b1 b2) 0 (.pointer (some ⟨sb,0,none⟩)) er dn vl)::boxI b1 [mvL 213 l]::boxI b2 [mvL 214 o]::boxI l (lkC S.c x y z W C X (mvL 247 l) 0)::LT S R) w':=by
 have hmf:=makeF;have hb:(S.hs != 0)=true:=by simpa using hh
 have hE1:Env w0 (boxI o (opT S.c kd key val lv rt nx 0 (.pointer (some ⟨sb,0,none⟩)) er dn vl)::LT S R) w:=(hE.sub (.cons_cons _ (.cons _ (.cons _ (List.Sublist.refl _)))));have HH:=zH (holds_t hE1);have r:=hE1.rule 0 rfl;unfold opT at r;clear hh hE1;have key9:∀ (w3:World),Env w0 (boxI o (opT S.c kd key val lv rt nx 0 (.pointer (some ⟨sb,0,none⟩)) er dn vl)::boxI sb (srC S.c rt key true (.pointer (some ⟨a,0,none⟩)))::boxI a (laneC S.c 0 key true lnx st x y z W C X wd false pv)::LT S R) w3->True:=fun _ _=>trivial;clear key9
 rcases hk with rfl | rfl
 ·go_enter func173,ntmps173;go_wp2_with fail;refine HH.out.mono ?_;rintro e w1 ⟨rfl,hb1⟩;rw [hb];replace hE:=hE.over hb1;clear hb1 hb r HH;go_wp2_with fail;obtain ⟨L2,hL2⟩:∃ L2,LT S R=L2:=⟨_,rfl⟩;rw [hL2] at hE;have HL2:=zH hL2;clear hL2;refine Ord3.wp_chain [?_,?_,?_,?_,?_,?_,?_,?_,?_,?_,?_,?_,?_,?_,?_] [9,10,13] (fun w'=>(∃ nx9,Blk 0 w' o (opT S.c 4 key val lv rt nx9 0 (.pointer (some ⟨sb,0,none⟩)) er dn vl))/\Blk 0 w' sb (srC S.c rt key true (.pointer (some ⟨a,0,none⟩)))) (Ord3.Stage fun κs=>[Env w0 (boxI o (opT S.c 4 key val lv rt nx 0 (.pointer (some ⟨sb,0,none⟩)) er dn vl)::boxI sb (srC S.c rt key true (.pointer (some ⟨a,0,none⟩)))::boxI a (laneC S.c 0 key true lnx st x y z W C X wd false pv)::L2),fun w'=>∃ q,κs.getD 0 undef=.pointer (some ⟨q,0,none⟩)/\Env w0 (boxI q (lkC S.c x y z W C X (mvL 247 q) 0)::boxI o (opT S.c 4 key val lv rt nx 0 (.pointer (some ⟨sb,0,none⟩)) er dn vl)::boxI sb (srC S.c rt key true (.pointer (some ⟨a,0,none⟩)))::boxI a (laneC S.c 0 key true lnx st x y z W C X wd false pv)::L2) w',fun w'=>∃ q,κs.getD 1 undef=mvL 213 q/\Env w0 (boxI q (lkC S.c x y z W C X (mvL 247 q) 0)::boxI o (opT S.c 4 key val lv rt nx 0 (.pointer (some ⟨sb,0,none⟩)) er dn vl)::boxI sb (srC S.c rt key true (.pointer (some ⟨a,0,none⟩)))::boxI a (laneC S.c 0 key true lnx st x y z W C X wd false pv)::L2) w',fun w'=>∃ b1 b2 q,Env w0 (boxI b1 [mvL 213 q]::boxI b2 [mvL 214 o]::boxI q (lkC S.c x y z W C X (mvL 247 q) 0)::boxI o (opT S.c 4 key val lv rt (cvP b1 b2) 0 (.pointer (some ⟨sb,0,none⟩)) er dn vl)::boxI sb (srC S.c rt key true (.pointer (some ⟨a,0,none⟩)))::boxI a (laneC S.c 0 key true lnx st x y z W C X wd false pv)::L2) w']) (by kernel_rfl) (by kernel_rfl) (by kernel_rfl) ⟨⟨nx,hE.drew.get 0 rfl⟩,hE.drew.get 1 rfl⟩ ⟨_,rfl,hE.drew⟩ (fun hT=>?_);rotate_left 15;have hT9:=zH hT;clear hT
  repeat ((first
   | (focus (refine Ord3.in_value (v:=?_) hT9.o (by decide) ?_ (by rfl) ?_ ?_; rotate_left 2; (intro w5 hS; obtain ⟨⟨nx9,hS9⟩,hS8⟩:=hS; have r1:=Blk.rule hS9; unfold opT at r1; go_simp<;>rfl); rotate_right; (focus rfl)))
   | (focus (refine Ord3.in_off hT9.o (by decide) ?_ (by rfl) ?_; (focus rfl)))
   | (focus (refine Ord3.in_call (v:=?_) (f:=?_) (args:=?_) hT9.o (by decide) ?_ (by rfl) ?_ ?_ ?_; rotate_left 4; (intro w5 hS; obtain ⟨⟨nx9,hS9⟩,hS8⟩:=hS; have r1:=Blk.rule hS9; unfold opT at r1; go_simp; constructor<;>rfl); (intro w5 hS; (first | (obtain ⟨⟨nx9,hS9⟩,hS8⟩:=hS; with_reducible refine (lane_b hS9 hS8).mono ?_; rintro e w6 ⟨rfl,rfl⟩; constructor; rfl; exact ⟨⟨⟨nx9,hS9⟩,hS8⟩,fun us h=>h⟩))); rotate_right; (focus rfl))));try simp only [Act.put,zA,zZ,zS])
  refine Ord3.in_turn (fun u=>∃ q,u=.pointer (some ⟨q,0,none⟩)) _ ⟨0,rfl⟩ hT9.o rfl (by decide) (by rfl) ?_ (Or.inl rfl) (by rfl) ?_ ?_
  ·rfl
  ·rintro w7 hC7 ⟨P7,hP7,hA7⟩;cases hP7;go_simp;simp only [Ord3.Lands];refine (newLink_k 2 rfl hA7).mono ?_;rintro o8 w8 ⟨r8,rfl,hE8⟩;exact ⟨_,rfl,⟨r8,rfl⟩,⟨⟨nx,hE8.get 1 rfl⟩,hE8.get 2 rfl⟩,_,rfl,r8,rfl,hE8⟩
  rintro _ ⟨r9,rfl⟩
  try simp only [Act.put,zA,zZ,zS]
  refine Ord3.in_turn (fun u=>∃ q,u=mvL 213 q) _ ⟨0,rfl⟩ hT9.o rfl (by decide) (by rfl) ?_ (Or.inr ⟨_,9,[],rfl,by kernel_rfl,by kernel_rfl,rfl⟩) (by rfl) ?_ ?_
  ·rfl
  ·rintro w7 hC7 ⟨P7,hP7,hA7⟩;cases hP7;obtain ⟨r8,he,hA7⟩:=hA7;cases he;go_simp;simp only [Ord3.Lands];exact ⟨⟨_,rfl⟩,hC7,_,rfl,r9,rfl,hA7⟩
  rintro _ ⟨r9,rfl⟩
  try simp only [Act.put,zA,zZ,zS]
  repeat ((first
   | (focus (refine Ord3.in_value (v:=?_) hT9.o (by decide) ?_ (by rfl) ?_ ?_; rotate_left 2; (intro w5 hS; obtain ⟨⟨nx9,hS9⟩,hS8⟩:=hS; have r1:=Blk.rule hS9; unfold opT at r1; go_simp<;>rfl); rotate_right; (focus rfl)))
   | (focus (refine Ord3.in_off hT9.o (by decide) ?_ (by rfl) ?_; (focus rfl))));try simp only [Act.put,zA,zZ,zS])
  refine Ord3.in_turn (fun u=>u=.int .i64 0) _ rfl hT9.o rfl (by decide) (by rfl) ?_ (Or.inr ⟨_,10,[],rfl,by kernel_rfl,by kernel_rfl,rfl⟩) (by rfl) ?_ ?_
  ·rfl
  ·rintro w7 hC7 ⟨P7,hP7,hA7⟩;cases hP7;obtain ⟨r8,he,hA7⟩:=hA7;cases he;go_simp;simp only [Ord3.Lands];refine (play_r (o:=6) 1 _ _ _ _ _ _ (by simp [opT]) hA7 rfl).mono ?_;rintro o8 w8 ⟨rfl,b1,b2,hE8⟩;exact ⟨_,rfl,rfl,⟨⟨_,hE8.get 3 rfl⟩,hE8.get 4 rfl⟩,_,rfl,b1,b2,r9,hE8⟩
  rintro _ rfl
  try simp only [Act.put,zA,zZ,zS]
  repeat ((first
   | (focus (refine Ord3.in_value (v:=?_) hT9.o (by decide) ?_ (by rfl) ?_ ?_; rotate_left 2; (intro w5 hS; skip; go_simp<;>rfl); rotate_right; (focus rfl)))
   | (focus (refine Ord3.in_off hT9.o (by decide) ?_ (by rfl) ?_; (focus rfl))));try simp only [Act.put,zA,zZ,zS])
  refine Ord3.in_nil rfl ?_;rintro w9 hC9 ⟨P9,hP9,hA9⟩;cases hP9;obtain ⟨b1,b2,q,hA9⟩:=hA9;clear hT9 hC9 hE;go_wp2_with fail;go_ret;have h3:=HL2.out;subst h3;refine ⟨rfl,b1,b2,q,?_⟩;have h9:=hA9.sub (L':=boxI b1 [mvL 213 q]::boxI b2 [mvL 214 o]::boxI q (lkC S.c x y z W C X (mvL 247 q) 0)::boxI o (opT S.c 4 key val lv rt (cvP b1 b2) 0 (.pointer (some ⟨sb,0,none⟩)) er dn vl)::LT S R) (.cons_cons _ (.cons_cons _ (.cons_cons _ (.cons_cons _ (.cons _ (.cons _ (List.Sublist.refl _)))))));exact h9.perm (List.perm_middle (l₁:=[_,_,_]))
 ·go_enter func173,ntmps173;go_wp2_with fail;refine HH.out.mono ?_;rintro e w1 ⟨rfl,hb1⟩;rw [hb];replace hE:=hE.over hb1;clear hb1 hb r HH;go_wp2_with fail;obtain ⟨L2,hL2⟩:∃ L2,LT S R=L2:=⟨_,rfl⟩;rw [hL2] at hE;have HL2:=zH hL2;clear hL2;refine Ord3.wp_chain [?_,?_,?_,?_,?_,?_,?_,?_,?_,?_,?_,?_,?_,?_,?_] [9,10,13] (fun w'=>(∃ nx9,Blk 0 w' o (opT S.c 5 key val lv rt nx9 0 (.pointer (some ⟨sb,0,none⟩)) er dn vl))/\Blk 0 w' sb (srC S.c rt key true (.pointer (some ⟨a,0,none⟩)))) (Ord3.Stage fun κs=>[Env w0 (boxI o (opT S.c 5 key val lv rt nx 0 (.pointer (some ⟨sb,0,none⟩)) er dn vl)::boxI sb (srC S.c rt key true (.pointer (some ⟨a,0,none⟩)))::boxI a (laneC S.c 0 key true lnx st x y z W C X wd false pv)::L2),fun w'=>∃ q,κs.getD 0 undef=.pointer (some ⟨q,0,none⟩)/\Env w0 (boxI q (lkC S.c x y z W C X (mvL 247 q) 0)::boxI o (opT S.c 5 key val lv rt nx 0 (.pointer (some ⟨sb,0,none⟩)) er dn vl)::boxI sb (srC S.c rt key true (.pointer (some ⟨a,0,none⟩)))::boxI a (laneC S.c 0 key true lnx st x y z W C X wd false pv)::L2) w',fun w'=>∃ q,κs.getD 1 undef=mvL 213 q/\Env w0 (boxI q (lkC S.c x y z W C X (mvL 247 q) 0)::boxI o (opT S.c 5 key val lv rt nx 0 (.pointer (some ⟨sb,0,none⟩)) er dn vl)::boxI sb (srC S.c rt key true (.pointer (some ⟨a,0,none⟩)))::boxI a (laneC S.c 0 key true lnx st x y z W C X wd false pv)::L2) w',fun w'=>∃ b1 b2 q,Env w0 (boxI b1 [mvL 213 q]::boxI b2 [mvL 214 o]::boxI q (lkC S.c x y z W C X (mvL 247 q) 0)::boxI o (opT S.c 5 key val lv rt (cvP b1 b2) 0 (.pointer (some ⟨sb,0,none⟩)) er dn vl)::boxI sb (srC S.c rt key true (.pointer (some ⟨a,0,none⟩)))::boxI a (laneC S.c 0 key true lnx st x y z W C X wd false pv)::L2) w']) (by kernel_rfl) (by kernel_rfl) (by kernel_rfl) ⟨⟨nx,hE.drew.get 0 rfl⟩,hE.drew.get 1 rfl⟩ ⟨_,rfl,hE.drew⟩ (fun hT=>?_);rotate_left 15;have hT9:=zH hT;clear hT
  repeat ((first
   | (focus (refine Ord3.in_value (v:=?_) hT9.o (by decide) ?_ (by rfl) ?_ ?_; rotate_left 2; (intro w5 hS; obtain ⟨⟨nx9,hS9⟩,hS8⟩:=hS; have r1:=Blk.rule hS9; unfold opT at r1; go_simp<;>rfl); rotate_right; (focus rfl)))
   | (focus (refine Ord3.in_off hT9.o (by decide) ?_ (by rfl) ?_; (focus rfl)))
   | (focus (refine Ord3.in_call (v:=?_) (f:=?_) (args:=?_) hT9.o (by decide) ?_ (by rfl) ?_ ?_ ?_; rotate_left 4; (intro w5 hS; obtain ⟨⟨nx9,hS9⟩,hS8⟩:=hS; have r1:=Blk.rule hS9; unfold opT at r1; go_simp; constructor<;>rfl); (intro w5 hS; (first | (obtain ⟨⟨nx9,hS9⟩,hS8⟩:=hS; with_reducible refine (lane_b hS9 hS8).mono ?_; rintro e w6 ⟨rfl,rfl⟩; constructor; rfl; exact ⟨⟨⟨nx9,hS9⟩,hS8⟩,fun us h=>h⟩))); rotate_right; (focus rfl))));try simp only [Act.put,zA,zZ,zS])
  refine Ord3.in_turn (fun u=>∃ q,u=.pointer (some ⟨q,0,none⟩)) _ ⟨0,rfl⟩ hT9.o rfl (by decide) (by rfl) ?_ (Or.inl rfl) (by rfl) ?_ ?_
  ·rfl
  ·rintro w7 hC7 ⟨P7,hP7,hA7⟩;cases hP7;go_simp;simp only [Ord3.Lands];refine (newLink_k 2 rfl hA7).mono ?_;rintro o8 w8 ⟨r8,rfl,hE8⟩;exact ⟨_,rfl,⟨r8,rfl⟩,⟨⟨nx,hE8.get 1 rfl⟩,hE8.get 2 rfl⟩,_,rfl,r8,rfl,hE8⟩
  rintro _ ⟨r9,rfl⟩
  try simp only [Act.put,zA,zZ,zS]
  refine Ord3.in_turn (fun u=>∃ q,u=mvL 213 q) _ ⟨0,rfl⟩ hT9.o rfl (by decide) (by rfl) ?_ (Or.inr ⟨_,9,[],rfl,by kernel_rfl,by kernel_rfl,rfl⟩) (by rfl) ?_ ?_
  ·rfl
  ·rintro w7 hC7 ⟨P7,hP7,hA7⟩;cases hP7;obtain ⟨r8,he,hA7⟩:=hA7;cases he;go_simp;simp only [Ord3.Lands];exact ⟨⟨_,rfl⟩,hC7,_,rfl,r9,rfl,hA7⟩
  rintro _ ⟨r9,rfl⟩
  try simp only [Act.put,zA,zZ,zS]
  repeat ((first
   | (focus (refine Ord3.in_value (v:=?_) hT9.o (by decide) ?_ (by rfl) ?_ ?_; rotate_left 2; (intro w5 hS; obtain ⟨⟨nx9,hS9⟩,hS8⟩:=hS; have r1:=Blk.rule hS9; unfold opT at r1; go_simp<;>rfl); rotate_right; (focus rfl)))
   | (focus (refine Ord3.in_off hT9.o (by decide) ?_ (by rfl) ?_; (focus rfl))));try simp only [Act.put,zA,zZ,zS])
  refine Ord3.in_turn (fun u=>u=.int .i64 0) _ rfl hT9.o rfl (by decide) (by rfl) ?_ (Or.inr ⟨_,10,[],rfl,by kernel_rfl,by kernel_rfl,rfl⟩) (by rfl) ?_ ?_
  ·rfl
  ·rintro w7 hC7 ⟨P7,hP7,hA7⟩;cases hP7;obtain ⟨r8,he,hA7⟩:=hA7;cases he;go_simp;simp only [Ord3.Lands];refine (play_r (o:=6) 1 _ _ _ _ _ _ (by simp [opT]) hA7 rfl).mono ?_;rintro o8 w8 ⟨rfl,b1,b2,hE8⟩;exact ⟨_,rfl,rfl,⟨⟨_,hE8.get 3 rfl⟩,hE8.get 4 rfl⟩,_,rfl,b1,b2,r9,hE8⟩
  rintro _ rfl
  try simp only [Act.put,zA,zZ,zS]
  repeat ((first
   | (focus (refine Ord3.in_value (v:=?_) hT9.o (by decide) ?_ (by rfl) ?_ ?_; rotate_left 2; (intro w5 hS; skip; go_simp<;>rfl); rotate_right; (focus rfl)))
   | (focus (refine Ord3.in_off hT9.o (by decide) ?_ (by rfl) ?_; (focus rfl))));try simp only [Act.put,zA,zZ,zS])
  refine Ord3.in_nil rfl ?_;rintro w9 hC9 ⟨P9,hP9,hA9⟩;cases hP9;obtain ⟨b1,b2,q,hA9⟩:=hA9;clear hT9 hC9 hE;go_wp2_with fail;go_ret;have h3:=HL2.out;subst h3;refine ⟨rfl,b1,b2,q,?_⟩;have h9:=hA9.sub (L':=boxI b1 [mvL 213 q]::boxI b2 [mvL 214 o]::boxI q (lkC S.c x y z W C X (mvL 247 q) 0)::boxI o (opT S.c 5 key val lv rt (cvP b1 b2) 0 (.pointer (some ⟨sb,0,none⟩)) er dn vl)::LT S R) (.cons_cons _ (.cons_cons _ (.cons_cons _ (.cons_cons _ (.cons _ (.cons _ (List.Sublist.refl _)))))));exact h9.perm (List.perm_middle (l₁:=[_,_,_]))
theorem step_tV (F p Y:Nat) (y9 u:Value) {b1 b2:Nat} (hx:∀ (ar:Array Value) (v:World),(callFunc F ar).run prog v=.ok (.enter F ar) v) (hy:∀ (ar:Array Value) (v:World),(callFunc Y ar).run prog v=.ok (.enter Y ar) v) (Q:Int->World->Prop)
  (hE:Env w0 (boxI o (opT c kd key val lv rt (cvP b1 b2) 0 sp er dn vl)::boxI b1 [mvL F p]::boxI b2 [.func (.func Y) #[y9] #[]]::L) w)
  (hc:Calls prog F #[.pointer (some ⟨p,0,none⟩),u] w fun e w1=>∃ s,e=.returned (.int .i64 s)/\(s=0->Q 0 w1)/\(s≠0->w1.cell? ⟨b2,0,none⟩=some (.func (.func Y) #[y9] #[])/\Calls prog Y #[y9,.int .i64 s] w1 fun e2 w2=>∃ s2,e2=.returned (.int .i64 s2)/\Q s2 w2)) :
  Calls prog 33 #[.pointer (some ⟨o,0,none⟩),u] w fun e w'=>∃ s,e=.returned (.int .i64 s)/\Q s w':=by
 have HST:=zH (stepP_r (o:=6) F hx (.pointer (some ⟨p,0,none⟩)) u y9 Y hy b1 b2 Q (hE.rule 0 rfl 6) (hE.rule 0 rfl 7) (hE.rule 1 rfl 0) hc);clear hc hE;go_enter func33,ntmps33;go_wp2_with fail;refine HST.out.mono ?_;rintro e w1 ⟨s,rfl,hQ⟩;go_wp2_with fail;go_ret;exact ⟨s,rfl,hQ⟩
theorem stepMv_t (F:Nat) (u:Value) (hx:∀ (ar:Array Value) (v:World),(callFunc F ar).run prog v=.ok (.enter F ar) v) (Q:Int->World->Prop)
  (hE:Env w0 (boxI o (opT c kd key val lv rt (mvL F o) 0 sp er dn vl)::L) w)
  (hc:Calls prog F #[.pointer (some ⟨o,0,none⟩),u] w fun e w'=>∃ s,e=.returned (.int .i64 s)/\Q s w') :
  Calls prog 33 #[.pointer (some ⟨o,0,none⟩),u] w fun e w'=>∃ s,e=.returned (.int .i64 s)/\Q s w':=by
 have HST:=zH (stepMv_r (o:=6) F hx (.pointer (some ⟨o,0,none⟩)) u (fun o w'=>∃ s,o=.returned (.int .i64 s)/\Q s w') (hE.rule 0 rfl 6) (hE.rule 0 rfl 7) (hc.mono fun e w' ⟨s,he,hq⟩=>⟨s,he,s,rfl,hq⟩));clear hc hE;go_enter func33,ntmps33;go_wp2_with fail;refine HST.out.mono ?_;rintro e w1 ⟨s,rfl,hQ⟩;go_wp2_with fail;go_ret;exact ⟨s,rfl,hQ⟩
end
theorem answer_t {w:World} {o c:Nat} {kd key val lv rt st er vl:Int} {nx sp:Value} {dn:Bool} (hb:Blk 0 w o (opT c kd key val lv rt nx st sp er dn vl)):Calls prog 34 #[.pointer (some ⟨o,0,none⟩)] w fun p w'=>p=.returned (.agg #[.int .i64 er,.bool dn,.int .u64 vl])/\Below w.heap.size w w':=by
 have r1:=cell_more hb.1 hb.rule;unfold opT at r1;go_enter func34,ntmps34
 go_wp2
 exact bodyPost_ret (v:=.agg #[.int .i64 er,.bool dn,.int .u64 vl]) (by simp [results,results34,go_sem]) rfl ⟨rfl,(Below.refl _ _).alloc (Nat.le_refl _) _⟩
section
variable {w0 w:World} {R L:List Item} {l:Nat} {S:ST} {nx:Value} {x y z W C X k key to:Int}
theorem markHeld_k (hX:InU X) (hmk:markB X=false) (hs0:S.hs≠0) (hC:In64 C) (hg:Glo w0) (hm:S.m < maxLen) (hE:Env w0 (boxI l (ukC S.c x y z W C X k key S.hs nx 0)::LT S R) w) :
  Calls prog 260 #[.pointer (some ⟨l,0,none⟩),.iface 26 (.pointer (some ⟨S.p,0,none⟩))] w fun o w'=>o=.returned (.int .i64 (if S.f (5,C,7)=X then 0 else 2))/\∃ G' nx',(S.f (5,C,7)=X->nx'=mvL 287 l)/\Env w0 (boxI l (ukC S.c x y z W C X k key S.hs nx' (if S.f (5,C,7)=X then 0 else 2))::LT { S with hs:=if S.f (5,C,7)=X then 0 else S.hs,G:=G',f:=swf S.f (5,C,7) X (wordI true S.hs S.ce),qc:=swq S.qc (decide (S.f (5,C,7)=X)),m:=S.m+1 } R) w':=by
 have hmf:=makeF;have hah:=ahead_swap;have hb:(S.hs != 0)=true:=by simpa using hs0
 have HH0:=zH hs0;have HWF:Hid (Wf (5,C,7)):=zH (by unfold Wf; exact ⟨by show In64 5; unfold In64; omega,hC,by show In64 7; unfold In64; omega⟩);have hqi:InU (wordI true S.hs S.ce):=wordI_in _ _ _;have hto:=fun (v:World) (hv:Below w0.heap.size w0 v) (hb:Blk 0 v S.c (crv S.ck S.cs S.cb S.ch S.cl S.ce S.cr S.hs 0 S.q))=>markNew_c X 0 false S.hs 0 hX hmk (hg.keep' hv) hb;obtain ⟨q,hq⟩:∃ q,wordI true S.hs S.ce=q:=⟨_,rfl⟩;rw [hq] at hqi ⊢;simp only [hq] at hto;have HQI:=zH hqi;have HTO:=zH hto;clear hq hqi hto hg hs0 hmk hC;obtain ⟨dd,hdd⟩:∃ dd,decide (S.f (5,C,7)=X)=dd:=⟨_,rfl⟩;have hds:(if S.f (5,C,7)=X then (0:Int) else 2)=if dd then 0 else 2:=by rw [<- hdd]; by_cases h:S.f (5,C,7)=X<;>simp [h]
 have hdp:S.f (5,C,7)=X ↔ dd=true:=by rw [<- hdd]; simp
 rw [hds,hdd];simp only [hdp];clear hds hdp;have HDD:=zH hdd;clear hdd hX;go_enter func260,ntmps260;go_wp2_with fail;refine Ord.wc [29] (fun v=>Below w0.heap.size w0 v/\Blk 0 v l (ukC S.c x y z W C X k key S.hs nx 0)/\Blk 0 v S.c (crv S.ck S.cs S.cb S.ch S.cl S.ce S.cr S.hs 0 S.q)) (fun k9 w'=>∃ G5,Env w0 (boxI l (ukC S.c x y z W C X k key S.hs nx 0)::LT (if k9=0 then S else { S with G:=G5,f:=swf S.f (5,C,7) X q,qc:=swq S.qc dd,m:=S.m+1 }) R) w') ⟨hE.drew.below,hE.drew.get 0 rfl,hE.drew.get 1 rfl⟩ ⟨S.G,hE.drew⟩ fun hT9=>?_
 repeat ((first
  | (refine Ord.cv ?_ hT9.o ?_ ?_; rotate_left; (intro w5 hS; have r:=hS.2.1.rule; unfold ukC at r; go_simp<;>rfl))
  | (refine Ord.co hT9.o ?_)
  | (refine Ord.cc ?_ ?_ ?_ hT9.o ?_ ?_ ?_; rotate_left 3; (intro w5 hS; have r:=hS.2.1.rule; unfold ukC at r; go_simp; constructor<;>rfl); (intro w5 hS; (first | (with_reducible refine kp (linkOf_any _ _ _) ?_ ?_; rfl; exact fun w6 hb6=>⟨⟨hS.1.trans (hb6.mono hS.1.size),hS.2.1.under hb6,hS.2.2.under hb6⟩,fun k h=>h.elim fun G5 h=>⟨G5,h.over hb6⟩⟩) | (with_reducible refine kp (HTO.out _ hS.1 hS.2.2) ?_ ?_; rfl; exact fun w6 hb6=>⟨⟨hS.1.trans (hb6.mono hS.1.size),hS.2.1.under hb6,hS.2.2.under hb6⟩,fun k h=>h.elim fun G5 h=>⟨G5,h.over hb6⟩⟩)))));try simp only [Act.put,zA,zZ,zS])
 refine Ord.ch_turn (v:=.bool dd) 0 hT9.o rfl (by decide) (Or.inl rfl) (by rfl) ?_ ?_
 ·rintro w5 hC5 ⟨G5,hA5⟩;simp only [if_true] at hA5;go_simp;rw [method_swap];simp only [Result.andThen_ok];go_simp;simp only [Ord.LandsIn];have hsw:=swap_w 5 C 7 0 X 0 q 0 false false HWF.out HQI.out hm 3 4 (by decide) hA5 rfl rfl;rw [HDD.out] at hsw;refine hsw.mono ?_;rintro e w6 ⟨rfl,G6,hE6⟩;exact ⟨rfl,⟨hE6.below,hE6.get 0 rfl,hE6.get 1 rfl⟩,G6,hE6⟩
 try simp only [Act.put,zA,zZ,zS]
 repeat ((first
  | (refine Ord.cv ?_ hT9.o ?_ ?_; rotate_left; (intro w5 hS; skip; go_simp<;>rfl))
  | (refine Ord.co hT9.o ?_));try simp only [Act.put,zA,zZ,zS])
 refine Ord.InText.nil fun w5 hS=>?_;clear hT9;obtain ⟨hC9,hA9⟩:=Ord.chain_end hS;clear hS;obtain ⟨G9,hA9⟩:=hA9;simp only [List.length_cons,List.length_nil,Nat.zero_add,Nat.one_ne_zero,if_false] at hA9;clear hC9 hE HTO HDD;have r:=hA9.rule 0 rfl;unfold ukC at r;cases dd
 ·go_wp2_with fail;refine (end_r (o:=17) 0 2 (by simp [ukC]) hA9 rfl).mono ?_;rintro o w5 ⟨rfl,hE5⟩;go_wp2_with fail;go_ret
  first | exact ⟨rfl,G9,nx,fun h=>absurd h (by decide),hE5⟩ | exact ⟨rfl,G9,nx,hE5⟩
 ·go_wp2_with fail;refine (held_c (hA9.get 1 rfl)).mono ?_;rintro o w4 ⟨rfl,hb1⟩;rw [hb];have hE2:=(hA9.over hb1).box w4.heap.size rfl [.int .i64 S.hs,.int .i64 0] 136;clear hb1 hA9 r hb;go_wp2_with fail;generalize w4.alloc _=w6 at *;generalize w4.heap.size=Y at *;obtain ⟨S2,hS2⟩:∃ S2:ST,{ S with G:=G9,f:=swf S.f (5,C,7) X q,qc:=swq S.qc true,m:=S.m+1 }=S2:=⟨_,rfl⟩;rw [hS2] at hE2;have HS2:=zH hS2;clear hS2;refine wp_text (S:=(Env w0 (boxI Y [.int .i64 S.hs,.int .i64 0]::boxI l (ukC S.c x y z W C X k key S.hs nx 0)::LT S2 R))) (by kernel_rfl) (by kernel_rfl) hE2.drew (fun hT=>?_);have hT9:=zH hT;clear hT
  repeat ((first
   | (refine text_value (v:=?_) hT9.o (by rfl) ?_ ?_; rotate_left; (intro w5 hS; have r:=hS.rule 1 rfl; have r1:=hS.rule 0 rfl; unfold ukC at r; go_simp<;>rfl))
   | (refine text_off hT9.o (by rfl) ?_)
   | (refine text_call (v:=?_) (f:=?_) (args:=?_) hT9.o (by rfl) ?_ ?_ ?_; rotate_left 3; (intro w5 hS; have r:=hS.rule 1 rfl; have r1:=hS.rule 0 rfl; unfold ukC at r; go_simp; constructor<;>rfl); (intro w5 hS; (first | fail))));try simp only [Act.put,zA,zZ,zS])
  refine InText.nil fun w5 hS5=>?_;clear hT9;clear hE2;have hc2:S.c=S2.c:=by rw [<- HS2.out]
  rw [hc2] at hS5;clear hc2;have hh2:S2.hs≠0:=by rw [<- HS2.out]; exact HH0.out
  replace hS5:=hS5.sub (.cons _ (List.Sublist.refl _));have r:=hS5.rule 0 rfl;unfold ukC at r;have HH2:=zH hh2;clear hh2;go_wp2_with fail;refine (takeYes_c HH2.out 1 hS5 rfl).mono ?_;rintro o w7 ⟨rfl,hE7⟩;simp only [zZ,zS] at hE7;clear hS5 r;have r:=hE7.rule 0 rfl;unfold ukC at r;go_wp2_with fail;refine (goOn_r (o:=17) 0 _ _ _ (by simp [ukC]) hE7 rfl).mono ?_;rintro o w8 ⟨rfl,hE8⟩;go_wp2_with fail;go_ret;have h2:=HS2.out;subst h2
  first | exact ⟨rfl,G9,hE8⟩ | exact ⟨rfl,G9,_,fun _=>rfl,hE8⟩ | exact ⟨rfl,G9,_,rfl,hE8⟩
end
end
section
open Go.RowKit
theorem isAsked_any (k o:Int) (w:World):Calls prog 62 #[.int .i64 k,.int .i64 o] w fun e w'=>e=.returned (.bool (askB k o))/\w=w':=by
 go_enter func62,ntmps62
 go_wp2
 all_goals
  go_ret
  (try go_light)
  (try simp only [bne_iff_ne,ne_eq,bne_eq_false_iff_eq,beq_iff_eq,beq_eq_false_iff_ne,Bool.or_eq_true,Bool.and_eq_true,decide_eq_true_eq,decide_eq_false_iff_not,Bool.or_eq_false_iff,Bool.not_eq_true',Bool.not_eq_false'] at *)
  refine ⟨ret_bool ?_,(by first | rfl | trivial)⟩;rw [Bool.eq_iff_iff];unfold askB
  split
  ·simp; try omega
  ·split
   ·simp; try omega
   ·simp; try omega
theorem hasVal_any (o:Int) (w:World):Calls prog 64 #[.int .i64 o] w fun e w'=>e=.returned (.bool (putB o))/\w=w':=by
 go_enter func64,ntmps64
 go_wp2
 all_goals
  go_ret;refine ⟨ret_bool (by rw [Bool.eq_iff_iff]; simp [putB]; try omega),rfl⟩
theorem isLevel_any (k s b h l o x v y:Int) (w:World):Calls prog 63 #[.agg #[.int .i64 k,.int .i64 s,.int .i64 b,.int .i64 h,.int .i64 l],.agg #[.int .i64 o,.int .u64 x,.int .u64 v,.int .i64 y]] w fun e w'=>e=.returned (.bool (lvlB k h o y))/\Below w.heap.size w w':=by
 have hF:=((Fr.start w).push w.heap.size rfl [.int .i64 k,.int .i64 s,.int .i64 b,.int .i64 h,.int .i64 l] 58).push (w.heap.size+1) (by simp) [.int .i64 o,.int .u64 x,.int .u64 v,.int .i64 y] 50;go_enter func63,ntmps63;go_wp2_with
  (with_reducible refine (within_any _ _ _ _).mono ?_; rintro e w1 ⟨rfl,rfl⟩)
 all_goals
  go_ret
  (try go_light)
  (try simp only [bne_iff_ne,ne_eq,bne_eq_false_iff_eq,beq_iff_eq,beq_eq_false_iff_ne,Bool.or_eq_true,Bool.and_eq_true,decide_eq_true_eq,decide_eq_false_iff_not,Bool.or_eq_false_iff,Bool.not_eq_true',Bool.not_eq_false'] at *)
  (try subst_vars)
  refine ⟨ret_bool ?_,hF.below⟩;unfold lvlB
  split
  ·first | rfl | (exfalso; omega)
  ·rw [Bool.eq_iff_iff]; simp; try omega
theorem isOp_any (k s b h l o x v y:Int) (w:World):Calls prog 18 #[.agg #[.int .i64 k,.int .i64 s,.int .i64 b,.int .i64 h,.int .i64 l],.agg #[.int .i64 o,.int .u64 x,.int .u64 v,.int .i64 y]] w fun e w'=>e=.returned (.int .i64 (opI k s b h l o x v y))/\Below w.heap.size w w':=by
 have hF:=((Fr.start w).push w.heap.size rfl [.int .i64 k,.int .i64 s,.int .i64 b,.int .i64 h,.int .i64 l] 58).push (w.heap.size+1) (by simp) [.int .i64 o,.int .u64 x,.int .u64 v,.int .i64 y] 50;have r:=hF.rule 0 rfl;have q:=hF.rule 1 rfl;go_enter func18,ntmps18;go_wp2_with (first
  |
   (with_reducible refine (isAsked_any _ _ _).mono ?_; rintro e w1 ⟨rfl,rfl⟩)
  |
   (with_reducible refine (hasVal_any _ _).mono ?_; rintro e w1 ⟨rfl,rfl⟩)
  |
   (with_reducible refine (check_any _ _ _ _ _ _).mono ?_; rintro e w1 ⟨rfl,hb⟩; replace hF:=hF.over hb; clear hb r q; have r:=hF.rule 0 rfl; have q:=hF.rule 1 rfl)
  |
   (with_reducible refine (isLevel_any _ _ _ _ _ _ _ _ _ _).mono ?_; rintro e w1 ⟨rfl,hb⟩; replace hF:=hF.over hb; clear hb r q; have r:=hF.rule 0 rfl; have q:=hF.rule 1 rfl)
  )
 all_goals
  go_ret
  (try go_light)
  (try simp only [bne_iff_ne,ne_eq,bne_eq_false_iff_eq,beq_iff_eq,beq_eq_false_iff_ne,Bool.or_eq_true,Bool.and_eq_true,decide_eq_true_eq,decide_eq_false_iff_not,Bool.or_eq_false_iff,Bool.not_eq_true',Bool.not_eq_false'] at *)
  refine ⟨ret_int ?_,hF.below⟩
  (try simp only [putB,decide_eq_true_eq] at *)
  by_cases h8:o=8
  ·subst h8;simp_all [opI,argB]
  ·simp [opI,argB, *]
   (try omega)
end
section
open Go.RowKit Go.Maps
theorem kind_ofT (v:World) (a b c d e:Int):(Instr.field 58 (.agg #[.int .i64 a,.int .i64 b,.int .i64 c,.int .i64 d,.int .i64 e]) 0).run prog v=.ok (.int .i64 a) v:=by kernel_rfl
section
variable {w0 w:World} {L:List Item} {c q:Nat} {k s b h l e r hs hi:Int}
theorem newNo_t (i:Nat) (kd key val lv:Int) (hno:k≠2\/kd=8\/opI k s b h l kd key val lv≠0) (hm:L[i]?=some (coreI c k s b h l e r hs hi q)) (hE:Env w0 L w) :
  Calls prog 32 #[.pointer (some ⟨c,0,none⟩),.agg #[.int .i64 kd,.int .u64 key,.int .u64 val,.int .i64 lv]] w fun o w'=>o=.returned (.pointer none)/\Env w0 L w':=by
 have hko:=kind_ofT;have hE1:=hE.box w.heap.size rfl [.int .i64 kd,.int .u64 key,.int .u64 val,.int .i64 lv] 50;have hm1:(boxI w.heap.size [.int .i64 kd,.int .u64 key,.int .u64 val,.int .i64 lv]::L)[i+1]?=some (coreI c k s b h l e r hs hi q):=hm;have HCF:=zH fun (v:World) (hv:Env w0 (boxI w.heap.size [.int .i64 kd,.int .u64 key,.int .u64 val,.int .i64 lv]::L) v)=>conf_c (hv.get (i+1) hm1);have hIO:=fun v=>isOp_any k s b h l kd key val lv v;obtain ⟨io,hio⟩:∃ io,opI k s b h l kd key val lv=io:=⟨_,rfl⟩;simp only [hio] at hIO hno;have HIO:=zH hIO;clear hio hIO hE hm;go_enter func32,ntmps32;go_wp2_with fail;generalize w.alloc _=w2 at *;generalize w.heap.size=Y at *
 by_cases h1:k=2
 ·have b1:(k != 2)=false:=by simpa using h1
  by_cases h2:kd=8
  ·have b2:(kd==8)=true:=by simpa using h2
   clear h1 h2 hno;refine wp_text (S:=(Env w0 (boxI Y [.int .i64 kd,.int .u64 key,.int .u64 val,.int .i64 lv]::L))) (by kernel_rfl) (by kernel_rfl) hE1.drew (fun hT=>?_);have hT9:=zH hT;clear hT
   repeat ((first
    | (refine text_value (v:=?_) hT9.o (by rfl) ?_ ?_; rotate_left; (intro w5 hS; have r0:=hS.rule 0 rfl; go_simp<;>rfl))
    | (refine text_off hT9.o (by rfl) ?_)
    | (refine text_call (v:=?_) (f:=?_) (args:=?_) hT9.o (by rfl) ?_ ?_ ?_; rotate_left 3; (intro w5 hS; have r0:=hS.rule 0 rfl; go_simp; constructor<;>rfl); (intro w5 hS; (first | (with_reducible refine kp (HCF.out _ hS) ?_ ?_; rfl; exact fun w6 hb5=>hS.over hb5)))));try simp only [Act.put,zA,zZ,zS])
   refine InText.nil fun w5 hS5=>?_;clear hT9;clear hE1;go_wp2_with fail;go_ret;exact ⟨rfl,hS5.sub (.cons _ (List.Sublist.refl _))⟩
  ·have b2:(kd==8)=false:=by simpa using h2
   have b3:(io != 0)=true:=by simpa [h1,h2] using hno
   clear h1 h2 hno;refine wp_text (S:=(Env w0 (boxI Y [.int .i64 kd,.int .u64 key,.int .u64 val,.int .i64 lv]::L))) (by kernel_rfl) (by kernel_rfl) hE1.drew (fun hT=>?_);have hT9:=zH hT;clear hT
   repeat ((first
    | (refine text_value (v:=?_) hT9.o (by rfl) ?_ ?_; rotate_left; (intro w5 hS; have r0:=hS.rule 0 rfl; go_simp<;>rfl))
    | (refine text_off hT9.o (by rfl) ?_)
    | (refine text_call (v:=?_) (f:=?_) (args:=?_) hT9.o (by rfl) ?_ ?_ ?_; rotate_left 3; (intro w5 hS; have r0:=hS.rule 0 rfl; go_simp; constructor<;>rfl); (intro w5 hS; (first | (with_reducible refine kp (HCF.out _ hS) ?_ ?_; rfl; exact fun w6 hb5=>hS.over hb5) | (with_reducible refine kp (HIO.out _) ?_ ?_; rfl; exact fun w6 hb5=>hS.over hb5)))));try simp only [Act.put,zA,zZ,zS])
   refine InText.nil fun w5 hS5=>?_;clear hT9;clear hE1;go_wp2_with fail;go_ret;exact ⟨rfl,hS5.sub (.cons _ (List.Sublist.refl _))⟩
 ·have b1:(k != 2)=true:=by simpa using h1
  clear h1 hno;refine wp_text (S:=(Env w0 (boxI Y [.int .i64 kd,.int .u64 key,.int .u64 val,.int .i64 lv]::L))) (by kernel_rfl) (by kernel_rfl) hE1.drew (fun hT=>?_);have hT9:=zH hT;clear hT
  repeat ((first
   | (refine text_value (v:=?_) hT9.o (by rfl) ?_ ?_; rotate_left; (intro w5 hS; have r0:=hS.rule 0 rfl; go_simp<;>rfl))
   | (refine text_off hT9.o (by rfl) ?_)
   | (refine text_call (v:=?_) (f:=?_) (args:=?_) hT9.o (by rfl) ?_ ?_ ?_; rotate_left 3; (intro w5 hS; have r0:=hS.rule 0 rfl; go_simp; constructor<;>rfl); (intro w5 hS; (first | (with_reducible refine kp (HCF.out _ hS) ?_ ?_; rfl; exact fun w6 hb5=>hS.over hb5)))));try simp only [Act.put,zA,zZ,zS])
  refine InText.nil fun w5 hS5=>?_;clear hT9;clear hE1;go_wp2_with fail;go_ret;exact ⟨rfl,hS5.sub (.cons _ (List.Sublist.refl _))⟩
end
end
section
open Go.RowKit
theorem tu_bits {x:Int} (h:InU x):bits .xor .u64 x (x / 8589934592)=tuI x:=by
 obtain ⟨X,rfl⟩:=Int.eq_ofNat_of_zero_le h.1;have hX:X < 18446744073709551616:=by have:=h.2; omega
 have e:(X:Int) / 8589934592=((X / 8589934592:Nat):Int):=by simp
 rw [e,bits_xor_u64_nat _ _ hX (Nat.lt_of_le_of_lt (Nat.div_le_self _ _) hX)];rfl
theorem quo_u {x:Int} (h:InU x) {c:Int} (hc:1<=c):IntKind.u64.wrap (x.tdiv c)=x / c:=by
 rw [Int.tdiv_eq_ediv_of_nonneg h.1,IntKind.wrap_u64];have h1:0<=x / c:=Int.ediv_nonneg h.1 (by omega);have h2:x / c<=x:=Int.ediv_le_self _ h.1;have:=h.2;omega
theorem tu_any {x:Int} (hx:InU x) (w:World):Calls prog 165 #[.int .u64 x] w fun e w'=>e=.returned (.int .u64 (tuI x))/\w=w':=by
 have HX:=zH hx;clear hx;go_enter func165,ntmps165
 go_wp2
 go_ret;exact ⟨ret_int (tu_bits HX.out),rfl⟩
theorem refTu_any {x:Int} (hx:InU x) (w:World):Calls prog 231 #[.int .u64 x] w fun e w'=>e=.returned (.int .u64 (tuI x))/\w=w':=by
 have HX:=zH hx;clear hx;go_enter func231,ntmps231
 go_wp2
 go_ret;exact ⟨ret_int (by rw [quo_u HX.out (by decide)]; exact tu_bits HX.out),rfl⟩
theorem mix_any {x:Int} (hx:InU x) (w:World):Calls prog 129 #[.int .u64 x] w fun e w'=>e=.returned (.int .u64 (mixI x))/\w=w':=by
 have HX:=zH hx;clear hx;have HE:=zH (mixI_eq x);go_enter func129,ntmps129;go_wp2_with fail;refine (tu_any HX.out _).mono ?_;rintro e w1 ⟨rfl,rfl⟩;have m1:=zH (tiI_wrap (a:=18397679294719823053) ⟨by decide,by decide⟩ (tuI_in HX.out));have n1:=zH (tiI_in 18397679294719823053 (tuI x));generalize tuI x=y at *;go_wp2_with fail;refine (tu_any (by rw [m1.out]; exact n1.out) _).mono ?_;rintro e w1 ⟨rfl,rfl⟩;rw [m1.out];have m2:=zH (tiI_wrap (a:=14181476777654086739) ⟨by decide,by decide⟩ (tuI_in n1.out));have n2:=zH (tiI_in 14181476777654086739 (tuI (tiI 18397679294719823053 y)));generalize tuI (tiI 18397679294719823053 y)=z at *;go_wp2_with fail;refine (tu_any (by rw [m2.out]; exact n2.out) _).mono ?_;rintro e w1 ⟨rfl,rfl⟩;rw [m2.out]
 go_wp2
 go_ret;exact ⟨ret_int HE.out.symm,rfl⟩
theorem refMix_any {x:Int} (hx:InU x) (w:World):Calls prog 196 #[.int .u64 x] w fun e w'=>e=.returned (.int .u64 (mixI x))/\w=w':=by
 have HX:=zH hx;clear hx;have HE:=zH (mixI_eq x);go_enter func196,ntmps196;go_wp2_with fail;refine (refTu_any HX.out _).mono ?_;rintro e w1 ⟨rfl,rfl⟩;have m1:=zH (tiI_wrap (a:=18397679294719823053) ⟨by decide,by decide⟩ (tuI_in HX.out));have n1:=zH (tiI_in 18397679294719823053 (tuI x));generalize tuI x=y at *;go_wp2_with fail;refine (refTu_any (by rw [m1.out]; exact n1.out) _).mono ?_;rintro e w1 ⟨rfl,rfl⟩;rw [m1.out];have m2:=zH (tiI_wrap (a:=14181476777654086739) ⟨by decide,by decide⟩ (tuI_in n1.out));have n2:=zH (tiI_in 14181476777654086739 (tuI (tiI 18397679294719823053 y)));generalize tuI (tiI 18397679294719823053 y)=z at *;go_wp2_with fail;refine (refTu_any (by rw [m2.out]; exact n2.out) _).mono ?_;rintro e w1 ⟨rfl,rfl⟩;rw [m2.out]
 go_wp2
 go_ret;exact ⟨ret_int HE.out.symm,rfl⟩
def bkI (k s b h l x:Int):Int:=if k=2/\chkI k s b h l=0 then buI b x else 0
theorem bkI_no {k s b h l x:Int} (hn:¬ (k=2/\chkI k s b h l=0)):bkI k s b h l x=0:=by simp [bkI,hn]
theorem bkI_yes {k s b h l x:Int} (h1:k=2) (h2:chkI k s b h l=0):bkI k s b h l x=buI b x:=by simp [bkI,h1]; intro h; exact absurd (h1 ▸ h2) h
set_option maxRecDepth 100000 in
theorem bucket_any (k s b h l:Int) {x:Int} (hx:InU x) (w:World):Calls prog 83 #[.agg #[.int .i64 k,.int .i64 s,.int .i64 b,.int .i64 h,.int .i64 l],.int .u64 x] w fun e w'=>e=.returned (.int .i64 (bkI k s b h l x))/\Below w.heap.size w w':=by
 have HX:=zH hx;clear hx;have hF:=(Fr.start w).push w.heap.size rfl [.int .i64 k,.int .i64 s,.int .i64 b,.int .i64 h,.int .i64 l] 58;have r:=hF.rule 0 rfl
 by_cases h2:k=2
 ·by_cases hc:chkI k s b h l=0
  ·have hy:=zH (chk_yes hc);have HE:=zH (bkI_yes (x:=x) h2 hc);have HC:=zH hc;clear hc;have hk:(k != 2)=false:=by simp [h2]
   have HK:=zH h2;clear h2;go_enter func83,ntmps83;go_wp2_with fail;refine (check_any _ _ _ _ _ _).mono ?_;rintro e w1 ⟨rfl,hb⟩;replace hF:=hF.over hb;clear hb r;have r:=hF.rule 0 rfl;rw [HC.out];go_wp2_with fail;refine (mix_any HX.out _).mono ?_;rintro e w2 ⟨rfl,rfl⟩
   go_wp2
   go_ret;refine ⟨ret_int ?_,hF.below⟩;have hh:=high_in x;have hbb:1<=b/\b<=64:=by have:=hy.out; have:=HK.out; omega
   have hB:=buI_in x hbb;have hW:=buI_wrap x hbb;have e1:IntKind.u64.wrap b=b:=by rw [IntKind.wrap_u64]; omega
   have e2:mixI x / 4294967296 % 4294967296=mixI x / 4294967296:=by omega
   rw [HE.out,e1,e2,hW];exact w64 _ (by unfold buI at hB; omega)
  ·have HE:=zH (bkI_no (x:=x) (fun h=>hc h.2));have hk:(k != 2)=false:=by simp [h2]
   have hcb:(chkI k s b h l != 0)=true:=by simpa using hc
   clear h2 hc;go_enter func83,ntmps83;go_wp2_with
    (with_reducible refine (check_any _ _ _ _ _ _).mono ?_; rintro e w1 ⟨rfl,hb⟩; replace hF:=hF.over hb; clear hb r; have r:=hF.rule 0 rfl)
   all_goals
    go_ret;exact ⟨ret_int HE.out.symm,hF.below⟩
 ·have HE:=zH (bkI_no (x:=x) (s:=s) (b:=b) (h:=h) (l:=l) (fun h=>h2 h.1));have hk:(k != 2)=true:=by simpa using h2
  clear h2;go_enter func83,ntmps83
  go_wp2
  go_ret;exact ⟨ret_int HE.out.symm,hF.below⟩
theorem refBucket_any {n x:Int} (hx:InU x) (hn:1<=n/\n<=64) (w:World):Calls prog 158 #[.int .i64 n,.int .u64 x] w fun e w'=>e=.returned (.int .i64 (buI n x))/\w=w':=by
 have HX:=zH hx;have HB:=zH (buI_in x hn);have HW:=zH (buI_wrap x hn);have HN:=zH hn;clear hx hn;go_enter func158,ntmps158;go_wp2_with fail;refine (refMix_any HX.out _).mono ?_;rintro e w2 ⟨rfl,rfl⟩
 go_wp2
 go_ret;refine ⟨ret_int ?_,rfl⟩;have hh:=high_in x;have hb:=HB.out;have hn:=HN.out;have e1:IntKind.u64.wrap n=n:=by rw [IntKind.wrap_u64]; omega
 rw [quo_u (mixI_in x) (by decide),e1,HW.out];unfold buI at hb ⊢;have h64:=mul_in hh (B:=64) (b:=n) (by omega);rw [quo_u (by unfold InU; omega) (by decide)];exact w64 _ (by omega)
end
section
open Go.RowKit Go.Maps
section
variable {w0 w:World} {L:List Item} {c q:Nat} {k s b h l e r hs hi:Int}
theorem newYes_t (i:Nat) (kd key val lv:Int) (hk:InU key) (h2:kd≠8) (h3:opI 2 s b h l kd key val lv=0) (hm:L[i]?=some (coreI c 2 s b h l e r hs hi q)) (hE:Env w0 L w) :
  Calls prog 32 #[.pointer (some ⟨c,0,none⟩),.agg #[.int .i64 kd,.int .u64 key,.int .u64 val,.int .i64 lv]] w fun p w'=>∃ o b1 b2 sb,p=.returned (.pointer (some ⟨o,0,none⟩))/\Env w0 (boxI o (opT c kd key val lv (bkI 2 s b h l key) (cvP b1 b2) 0 (.pointer (some ⟨sb,0,none⟩)) 0 false 0)::boxI b1 [mvL 132 sb]::boxI b2 [mvL 133 o]::boxI sb (srC c (bkI 2 s b h l key) key true (.pointer none))::L) w':=by
 have hko:=kind_ofT;have hE1:=hE.box w.heap.size rfl [.int .i64 kd,.int .u64 key,.int .u64 val,.int .i64 lv] 50;have hm1:(boxI w.heap.size [.int .i64 kd,.int .u64 key,.int .u64 val,.int .i64 lv]::L)[i+1]?=some (coreI c 2 s b h l e r hs hi q):=hm;have HCF:=zH fun (v:World) (hv:Env w0 (boxI w.heap.size [.int .i64 kd,.int .u64 key,.int .u64 val,.int .i64 lv]::L) v)=>conf_c (hv.get (i+1) hm1);have hIO:=fun v=>isOp_any 2 s b h l kd key val lv v;simp only [h3] at hIO;have HIO:=zH hIO;have hbk:=fun v=>bucket_any 2 s b h l hk v;generalize bkI 2 s b h l key=rt at hbk ⊢;have HBK:=zH hbk;have b2:(kd==8)=false:=by simpa using h2
 clear hIO hE hm h2 h3 hk hbk;go_enter func32,ntmps32;go_wp2_with fail;generalize w.alloc _=w2 at *;generalize w.heap.size=Y at *;refine wp_text (S:=(Env w0 (boxI Y [.int .i64 kd,.int .u64 key,.int .u64 val,.int .i64 lv]::L))) (by kernel_rfl) (by kernel_rfl) hE1.drew (fun hT=>?_);have hT9:=zH hT;clear hT
 repeat ((first
  | (refine text_value (v:=?_) hT9.o (by rfl) ?_ ?_; rotate_left; (intro w5 hS; have r0:=hS.rule 0 rfl; go_simp<;>rfl))
  | (refine text_off hT9.o (by rfl) ?_)
  | (refine text_call (v:=?_) (f:=?_) (args:=?_) hT9.o (by rfl) ?_ ?_ ?_; rotate_left 3; (intro w5 hS; have r0:=hS.rule 0 rfl; go_simp; constructor<;>rfl); (intro w5 hS; (first | (with_reducible refine kp (HCF.out _ hS) ?_ ?_; rfl; exact fun w6 hb5=>hS.over hb5) | (with_reducible refine kp (HIO.out _) ?_ ?_; rfl; exact fun w6 hb5=>hS.over hb5)))));try simp only [Act.put,zA,zZ,zS])
 refine InText.nil fun w5 hS5=>?_;clear hT9;clear hE1;have r0:=hS5.rule 0 rfl;go_wp2_with fail;refine Ord3.wp_chain [?_,?_,?_,?_,?_,?_,?_,?_,?_,?_] [3,6,8,9] (fun w'=>Blk 0 w' Y [.int .i64 kd,.int .u64 key,.int .u64 val,.int .i64 lv]) (Ord3.Stage fun κs=>[Env w0 (boxI Y [.int .i64 kd,.int .u64 key,.int .u64 val,.int .i64 lv]::L),Env w0 (boxI Y [.int .i64 kd,.int .u64 key,.int .u64 val,.int .i64 lv]::L),Env w0 (boxI Y [.int .i64 kd,.int .u64 key,.int .u64 val,.int .i64 lv]::L),fun w'=>∃ o,κs.getD 2 undef=.pointer (some ⟨o,0,none⟩)/\Env w0 (boxI o (opT c kd key val lv rt .nilFunc 0 (.pointer none) 0 false 0)::(boxI Y [.int .i64 kd,.int .u64 key,.int .u64 val,.int .i64 lv]::L)) w',fun w'=>∃ o,κs.getD 3 undef=.pointer (some ⟨o,0,none⟩)/\Env w0 (boxI o (opT c kd key val lv rt .nilFunc 0 (.pointer none) 0 false 0)::(boxI Y [.int .i64 kd,.int .u64 key,.int .u64 val,.int .i64 lv]::L)) w']) (by kernel_rfl) (by kernel_rfl) (by kernel_rfl) (hS5.drew.get 0 rfl) ⟨_,rfl,hS5.drew⟩ (fun hT=>?_);rotate_left 10;have hT9:=zH hT;clear hT
 repeat ((first
  | (focus (refine Ord3.in_value (v:=?_) hT9.o (by decide) ?_ (by rfl) ?_ ?_; rotate_left 2; (intro w5 hS; have r0:=Blk.rule hS; go_simp<;>rfl); rotate_right; (focus rfl)))
  | (focus (refine Ord3.in_off hT9.o (by decide) ?_ (by rfl) ?_; (focus rfl))));try simp only [Act.put,zA,zZ,zS])
 refine Ord3.in_turn (fun u=>u=.agg #[.int .i64 2,.int .i64 s,.int .i64 b,.int .i64 h,.int .i64 l]) _ rfl hT9.o rfl (by decide) (by rfl) ?_ (Or.inl rfl) (by rfl) ?_ ?_
 ·rfl
 ·rintro w7 hC7 ⟨P7,hP7,hA7⟩;cases hP7;go_simp;simp only [Ord3.Lands];refine (HCF.out _ hA7).mono ?_;rintro o w8 ⟨rfl,hb8⟩;exact ⟨_,rfl,rfl,(hA7.over hb8).get 0 rfl,_,rfl,hA7.over hb8⟩
 rintro _ rfl
 try simp only [Act.put,zA,zZ,zS]
 repeat ((first
  | (focus (refine Ord3.in_value (v:=?_) hT9.o (by decide) ?_ (by rfl) ?_ ?_; rotate_left 2; (intro w5 hS; have r0:=Blk.rule hS; go_simp<;>rfl); rotate_right; (focus rfl)))
  | (focus (refine Ord3.in_off hT9.o (by decide) ?_ (by rfl) ?_; (focus rfl))));try simp only [Act.put,zA,zZ,zS])
 refine Ord3.in_turn (fun u=>u=.int .i64 rt) _ rfl hT9.o rfl (by decide) (by rfl) ?_ (Or.inr ⟨_,3,[],rfl,by kernel_rfl,by kernel_rfl,rfl⟩) (by rfl) ?_ ?_
 ·rfl
 ·rintro w7 hC7 ⟨P7,hP7,hA7⟩;cases hP7;go_simp;simp only [Ord3.Lands];refine (HBK.out _).mono ?_;rintro o w8 ⟨rfl,hb8⟩;exact ⟨_,rfl,rfl,(hA7.over hb8).get 0 rfl,_,rfl,hA7.over hb8⟩
 rintro _ rfl
 try simp only [Act.put,zA,zZ,zS]
 repeat ((first
  | (focus (refine Ord3.in_value (v:=?_) hT9.o (by decide) ?_ (by rfl) ?_ ?_; rotate_left 2; (intro w5 hS; have r0:=Blk.rule hS; go_simp<;>rfl); rotate_right; (focus rfl)))
  | (focus (refine Ord3.in_off hT9.o (by decide) ?_ (by rfl) ?_; (focus rfl))));try simp only [Act.put,zA,zZ,zS])
 refine Ord3.in_turn (fun u=>∃ o,u=.pointer (some ⟨o,0,none⟩)) _ ⟨0,rfl⟩ hT9.o rfl (by decide) (by rfl) ?_ (Or.inr ⟨_,7,[6],rfl,by kernel_rfl,by kernel_rfl,rfl⟩) (by rfl) ?_ ?_
 ·rfl
 ·rintro w7 hC7 ⟨P7,hP7,hA7⟩;cases hP7;have hE8:=hA7.box w7.heap.size rfl (opT c kd key val lv rt .nilFunc 0 (.pointer none) 0 false 0) 167;go_simp;simp only [Ord3.Lands];exact ⟨⟨_,rfl⟩,hE8.get 1 rfl,_,rfl,_,rfl,hE8⟩
 rintro _ ⟨o9,rfl⟩
 try simp only [Act.put,zA,zZ,zS]
 repeat ((first
  | (focus (refine Ord3.in_value (v:=?_) hT9.o (by decide) ?_ (by rfl) ?_ ?_; rotate_left 2; (intro w5 hS; have r0:=Blk.rule hS; go_simp<;>rfl); rotate_right; (focus rfl)))
  | (focus (refine Ord3.in_off hT9.o (by decide) ?_ (by rfl) ?_; (focus rfl))));try simp only [Act.put,zA,zZ,zS])
 refine Ord3.in_turn (fun u=>∃ o,u=.pointer (some ⟨o,0,none⟩)) _ ⟨0,rfl⟩ hT9.o rfl (by decide) (by rfl) ?_ (Or.inr ⟨_,8,[],rfl,by kernel_rfl,by kernel_rfl,rfl⟩) (by rfl) ?_ ?_
 ·rfl
 ·rintro w7 hC7 ⟨P7,hP7,hA7⟩;cases hP7;obtain ⟨r8,he,hA7⟩:=hA7;cases he;go_simp;simp only [Ord3.Lands];exact ⟨⟨_,rfl⟩,hC7,_,rfl,_,rfl,hA7⟩
 rintro _ ⟨o8,rfl⟩
 try simp only [Act.put,zA,zZ,zS]
 refine Ord3.in_nil rfl ?_;rintro w9 hC9 ⟨P9,hP9,hA9⟩;cases hP9;obtain ⟨o7,he,hA9⟩:=hA9;cases he;clear hT9 hC9 hS5 r0;go_wp2_with fail;refine (find_t hA9).mono ?_;rintro p w6 ⟨rfl,b1,b3,sb,hE7⟩;go_wp2_with fail;go_ret;exact ⟨_,b1,b3,sb,rfl,hE7.sub (.cons_cons _ (.cons_cons _ (.cons_cons _ (.cons_cons _ (.cons _ (List.Sublist.refl _))))))⟩
end
def One (q q':Cnt):Prop :=
 (q'.l=wrap64 (q.l+1)/\q'.s=q.s/\q'.w=q.w/\q'.a=q.a)\/(q'.l=q.l/\q'.s=wrap64 (q.s+1)/\q'.w=q.w/\q'.a=q.a) \/
 (q'.l=q.l/\q'.s=q.s/\q'.w=wrap64 (q.w+1)/\q'.a=q.a)\/(q'.l=q.l/\q'.s=q.s/\q'.w=q.w/\q'.a=wrap64 (q.a+1))
structure Nx (n:Nat) (q:Cnt) (n':Nat) (q':Cnt):Prop where
 (le:n'<=n+1)
 (one:One q q')
end
end Go.Proofs.YtdknbegcflldjaaGreatDoor
