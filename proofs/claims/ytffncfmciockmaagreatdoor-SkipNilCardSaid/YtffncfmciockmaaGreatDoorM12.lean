/- SkipNil: of nothing there is nothing; an op that can't be asked of a skip list is none: so the law answers true, for every input, where package link's three variables hold what the program's text lays in them (tied). -/
import Derived.Test.YtffncfmciockmaaGreatDoorM11
import Derived.Test.YtffncfmciockmaaGreatDoorCards
import Derived.SevenTiedAt

open _root_.Go.Proofs.Tryz
set_option maxRecDepth 100000
set_option maxHeartbeats 25600000
namespace Go.Proofs.YtffncfmciockmaaGreatDoor.skipNil
section
open Go.ChangeShapes Go.WideShapes Go.ChangeAt Go.RowKit Go.Joins Go.Maps
theorem walk (k s b h l kd key val lv:Int) (hk:InU key) (w:World) (hg:Glo w) :
  Calls prog 4 #[.agg #[.int .i64 k,.int .i64 s,.int .i64 b,.int .i64 h,.int .i64 l],.agg #[.int .i64 kd,.int .u64 key,.int .u64 val,.int .i64 lv]] w fun e w'=>e=.returned (.bool true)/\Below w.heap.size w w':=by
 have hE:=((Env.start w).box w.heap.size rfl [.int .i64 k,.int .i64 s,.int .i64 b,.int .i64 h,.int .i64 l] 23).box (w.heap.size+1) (by simp) [.int .i64 kd,.int .u64 key,.int .u64 val,.int .i64 lv] 51;have HG:=zH hg;have HK:=zH hk;clear hg hk;go_enter func4,ntmps4;go_wp2_with fail;refine (awake_s _ (HG.out.keep' hE.below)).mono ?_;rintro o w1 ⟨rfl,hb⟩;replace hE:=hE.over hb;clear hb;go_wp2_with fail;refine (new_w hE).mono ?_;rintro o w2 ⟨p,cc,rfl,hE2,-⟩;clear hE;have r3:=hE2.rule 2 rfl;have r2:=hE2.rule 3 rfl;go_wp2_with fail;refine (newNil_s kd key val lv _).mono ?_;rintro o w3 ⟨rfl,hb⟩;replace hE2:=hE2.over hb;clear hb r3 r2;have HCNT:Hid (∀ v,Env w (wbox p cc::cellI cc (fun k=>k=cc) (fun _=>0) ⟨0,0,0,0,0⟩ 0::boxI (w.heap.size+1) [.int .i64 kd,.int .u64 key,.int .u64 val,.int .i64 lv]::boxI w.heap.size [.int .i64 k,.int .i64 s,.int .i64 b,.int .i64 h,.int .i64 l]::[]) v->Calls prog 10 #[.pointer (some ⟨p,0,none⟩)] v fun o w'=>o=.returned (.agg #[.int .i64 0,.int .i64 0,.int .i64 0,.int .i64 0,.int .i64 0])/\Below v.heap.size v w'):=zH fun v hv=>count_w 0 1 hv rfl rfl
 go_upto_region 7 with (first
  | (with_reducible refine (stepNil_s _ _).mono ?_; rintro o w9 ⟨rfl,rfl⟩)
  | (with_reducible refine (answerNil_s _).mono ?_; rintro o w9 ⟨rfl,hb⟩; replace hE2:=hE2.over hb; clear hb)
  | (with_reducible refine (HCNT.out _ hE2).mono ?_; rintro o w9 ⟨rfl,hb⟩; replace hE2:=hE2.over hb; clear hb; clear HCNT))
 have hE8:Env w (boxI (w.heap.size+1) [.int .i64 kd,.int .u64 key,.int .u64 val,.int .i64 lv]::boxI w.heap.size [.int .i64 k,.int .i64 s,.int .i64 b,.int .i64 h,.int .i64 l]::[]) _:=hE2.sub (.cons _ (.cons _ (List.Sublist.refl _)));clear hE2;generalize w.heap.size+1=Y at *;generalize w.heap.size=X at *;obtain ⟨io,hio⟩:∃ io,opI k s b h l kd key val lv=io:=⟨_,rfl⟩
 by_cases hch:chkI k s b h l=0
 ·have HCH:=zH hch
  by_cases hall:k=3/\kd≠8/\io=0
  ·obtain ⟨rfl,h8,hi0⟩:=hall;have b1:(io==0)=true:=by simpa using hi0
   have b2:(kd != 8)=true:=by simpa using h8
   obtain ⟨H,rfl,HH⟩:∃ H:Nat,h=(H:Int)/\H<=1000:=by
    have hy:=chk_yes hch;exact ⟨h.toNat,by omega,by omega⟩
   have HIOE:=zH hio;have HIO:Hid (opI 3 s b (H:Int) l kd key val lv=0):=zH (hio.trans hi0);have H8:=zH h8;clear hi0 h8 hio hch;have HIS:Hid (∀ v,Calls prog 18 #[.agg #[.int .i64 3,.int .i64 s,.int .i64 b,.int .i64 (H:Int),.int .i64 l],.agg #[.int .i64 kd,.int .u64 key,.int .u64 val,.int .i64 lv]] v fun o w'=>o=.returned (.int .i64 io)/\Below v.heap.size v w'):=zH fun v=>by rw [<- HIOE.out]; exact isOp_any 3 s b (H:Int) l kd key val lv v
   have r0:=hE8.rule 0 rfl;have r1:=hE8.rule 1 rfl
   go_upto_region 8 with (with_reducible refine (HIS.out _).mono ?_; rintro o w9 ⟨rfl,hb⟩; replace hE8:=hE8.over hb; clear hb r0 r1; have r0:=hE8.rule 0 rfl; have r1:=hE8.rule 1 rfl)
   clear r0 r1;refine Ord3.wp_chain [?_,?_,?_,?_,?_,?_,?_,?_] [1,3] (fun v=>Blk 0 v X [.int .i64 3,.int .i64 s,.int .i64 b,.int .i64 (H:Int),.int .i64 l]/\Blk 0 v Y [.int .i64 kd,.int .u64 key,.int .u64 val,.int .i64 lv]) (Ord3.Stage fun κs=>[Env w (boxI Y [.int .i64 kd,.int .u64 key,.int .u64 val,.int .i64 lv]::boxI X [.int .i64 3,.int .i64 s,.int .i64 b,.int .i64 (H:Int),.int .i64 l]::[]),fun v=>∃ c9,κs.getD 0 undef=.pointer (some ⟨c9,0,none⟩)/\∃ q9 F9,Env w (coreI c9 3 s b (H:Int) l 0 0 0 0 q9::queueI q9 F9 [] 2::boxI Y [.int .i64 kd,.int .u64 key,.int .u64 val,.int .i64 lv]::boxI X [.int .i64 3,.int .i64 s,.int .i64 b,.int .i64 (H:Int),.int .i64 l]::[]) v,fun v=>∃ o9,κs.getD 1 undef=.pointer (some ⟨o9,0,none⟩)/\∃ c9 q9 F9 b1 b2 fb gg,Env w (boxI o9 (opS c9 kd key val lv (cvP b1 b2) 0 (.pointer (some ⟨fb,0,none⟩)) 0 0 0 0 false 0 false)::boxI b1 [mvL 131 fb]::boxI b2 [mvL 100 o9]::boxI fb (fdC c9 key (mvL 151 fb) 0 gg H 0)::boxI gg (List.replicate H (.pointer none))::coreI c9 3 s b (H:Int) l 0 0 0 0 q9::queueI q9 F9 [] 2::boxI Y [.int .i64 kd,.int .u64 key,.int .u64 val,.int .i64 lv]::boxI X [.int .i64 3,.int .i64 s,.int .i64 b,.int .i64 (H:Int),.int .i64 l]::[]) v]) (by kernel_rfl) (by kernel_rfl) (by kernel_rfl) ⟨hE8.drew.get 1 rfl,hE8.drew.get 0 rfl⟩ ⟨_,rfl,hE8.drew⟩ (fun hT=>?_);rotate_left 8;have hT9:=zH hT;clear hT
   repeat ((first
    | (focus (refine Ord3.in_value (v:=?_) hT9.o (by decide) ?_ (by rfl) ?_ ?_; rotate_left 2; (intro w5 hS; have r0:=Blk.rule hS.1; have r1:=Blk.rule hS.2; go_simp<;>rfl); rotate_right; (focus rfl)))
    | (focus (refine Ord3.in_off hT9.o (by decide) ?_ (by rfl) ?_; (focus rfl))));try simp only [Act.put,zA,zZ,zS])
   refine Ord3.in_turn (fun u=>∃ z,u=.pointer (some ⟨z,0,none⟩)) _ ⟨0,rfl⟩ hT9.o rfl (by decide) (by rfl) ?_ (Or.inl rfl) (by rfl) ?_ ?_
   ·rfl
   ·rintro v7 hC7 ⟨P7,hP7,hA7⟩;cases hP7;go_simp;simp only [Ord3.Lands];refine (newYes_c 3 s b (H:Int) l HCH.out hA7).mono ?_;rintro o v8 ⟨c9,q9,F9,rfl,hX8⟩;exact ⟨_,rfl,⟨_,rfl⟩,⟨hX8.get 3 rfl,hX8.get 2 rfl⟩,_,rfl,c9,rfl,q9,F9,hX8⟩
   rintro _ ⟨x8,rfl⟩
   try simp only [Act.put,zA,zZ,zS]
   repeat ((first
    | (focus (refine Ord3.in_value (v:=?_) hT9.o (by decide) ?_ (by rfl) ?_ ?_; rotate_left 2; (intro w5 hS; have r0:=Blk.rule hS.1; have r1:=Blk.rule hS.2; go_simp<;>rfl); rotate_right; (focus rfl)))
    | (focus (refine Ord3.in_off hT9.o (by decide) ?_ (by rfl) ?_; (focus rfl))));try simp only [Act.put,zA,zZ,zS])
   refine Ord3.in_turn (fun u=>∃ z,u=.pointer (some ⟨z,0,none⟩)) _ ⟨0,rfl⟩ hT9.o rfl (by decide) (by rfl) ?_ (Or.inr ⟨_,1,[],rfl,by kernel_rfl,by kernel_rfl,rfl⟩) (by rfl) ?_ ?_
   ·rfl
   ·rintro v7 hC7 ⟨P7,hP7,hA7⟩;cases hP7;obtain ⟨c9,he,q9,F9,hA7⟩:=hA7;cases he;go_simp;simp only [Ord3.Lands];refine (newYes_s HH 0 kd key val lv H8.out HIO.out rfl hA7).mono ?_;rintro o v8 ⟨o9,b1,b2,fb,gg,rfl,hX8⟩;exact ⟨_,rfl,⟨_,rfl⟩,⟨hX8.get 8 rfl,hX8.get 7 rfl⟩,_,rfl,o9,rfl,_,q9,F9,b1,b2,fb,gg,hX8⟩
   rintro _ ⟨x9,rfl⟩
   try simp only [Act.put,zA,zZ,zS]
   repeat ((first
    | (focus (refine Ord3.in_value (v:=?_) hT9.o (by decide) ?_ (by rfl) ?_ ?_; rotate_left 2; (intro w5 hS; skip; go_simp<;>rfl); rotate_right; (focus rfl)))
    | (focus (refine Ord3.in_off hT9.o (by decide) ?_ (by rfl) ?_; (focus rfl))));try simp only [Act.put,zA,zZ,zS])
   refine Ord3.in_nil rfl ?_;rintro v9 hC9 ⟨P9,hP9,hA9⟩;cases hP9;obtain ⟨o9,he,c9,q9,F9,b1,b2,fb,gg,hA9⟩:=hA9;clear hT9 hC9;go_wp2_with fail;go_ret;exact ⟨rfl,hA9.below⟩
  ·have HNO:Hid (k≠3\/kd=8\/opI k s b h l kd key val lv≠0):=zH (by rw [hio]; omega);have HIOE:=zH hio
   by_cases hi0:io=0
   ·have b1:(io==0)=true:=by simpa using hi0
    by_cases hk1:k=3
    ·have hk8:kd=8:=by omega
     have b2:(k==3)=true:=by simpa using hk1
     have b3:(kd != 8)=false:=by simpa using hk8
     clear hi0 hk1 hk8 hall hio hch;have HIS:Hid (∀ v,Calls prog 18 #[.agg #[.int .i64 k,.int .i64 s,.int .i64 b,.int .i64 h,.int .i64 l],.agg #[.int .i64 kd,.int .u64 key,.int .u64 val,.int .i64 lv]] v fun o w'=>o=.returned (.int .i64 io)/\Below v.heap.size v w'):=zH fun v=>by rw [<- HIOE.out]; exact isOp_any k s b h l kd key val lv v
     have r0:=hE8.rule 0 rfl;have r1:=hE8.rule 1 rfl
     go_upto_region 8 with (with_reducible refine (HIS.out _).mono ?_; rintro o w9 ⟨rfl,hb⟩; replace hE8:=hE8.over hb; clear hb r0 r1; have r0:=hE8.rule 0 rfl; have r1:=hE8.rule 1 rfl)
     clear r0 r1;refine Ord3.wp_chain [?_,?_,?_,?_,?_,?_,?_,?_] [1,3] (fun v=>Blk 0 v X [.int .i64 k,.int .i64 s,.int .i64 b,.int .i64 h,.int .i64 l]/\Blk 0 v Y [.int .i64 kd,.int .u64 key,.int .u64 val,.int .i64 lv]) (Ord3.Stage fun κs=>[Env w (boxI Y [.int .i64 kd,.int .u64 key,.int .u64 val,.int .i64 lv]::boxI X [.int .i64 k,.int .i64 s,.int .i64 b,.int .i64 h,.int .i64 l]::[]),fun v=>∃ c9,κs.getD 0 undef=.pointer (some ⟨c9,0,none⟩)/\∃ q9 F9,Env w (coreI c9 k s b h l 0 0 0 0 q9::queueI q9 F9 [] 2::boxI Y [.int .i64 kd,.int .u64 key,.int .u64 val,.int .i64 lv]::boxI X [.int .i64 k,.int .i64 s,.int .i64 b,.int .i64 h,.int .i64 l]::[]) v,fun v=>κs.getD 1 undef=.pointer none/\∃ c9 q9 F9,Env w (coreI c9 k s b h l 0 0 0 0 q9::queueI q9 F9 [] 2::boxI Y [.int .i64 kd,.int .u64 key,.int .u64 val,.int .i64 lv]::boxI X [.int .i64 k,.int .i64 s,.int .i64 b,.int .i64 h,.int .i64 l]::[]) v]) (by kernel_rfl) (by kernel_rfl) (by kernel_rfl) ⟨hE8.drew.get 1 rfl,hE8.drew.get 0 rfl⟩ ⟨_,rfl,hE8.drew⟩ (fun hT=>?_);rotate_left 8;have hT9:=zH hT;clear hT
     repeat ((first
      | (focus (refine Ord3.in_value (v:=?_) hT9.o (by decide) ?_ (by rfl) ?_ ?_; rotate_left 2; (intro w5 hS; have r0:=Blk.rule hS.1; have r1:=Blk.rule hS.2; go_simp<;>rfl); rotate_right; (focus rfl)))
      | (focus (refine Ord3.in_off hT9.o (by decide) ?_ (by rfl) ?_; (focus rfl))));try simp only [Act.put,zA,zZ,zS])
     refine Ord3.in_turn (fun u=>∃ z,u=.pointer (some ⟨z,0,none⟩)) _ ⟨0,rfl⟩ hT9.o rfl (by decide) (by rfl) ?_ (Or.inl rfl) (by rfl) ?_ ?_
     ·rfl
     ·rintro v7 hC7 ⟨P7,hP7,hA7⟩;cases hP7;go_simp;simp only [Ord3.Lands];refine (newYes_c k s b h l HCH.out hA7).mono ?_;rintro o v8 ⟨c9,q9,F9,rfl,hX8⟩;exact ⟨_,rfl,⟨_,rfl⟩,⟨hX8.get 3 rfl,hX8.get 2 rfl⟩,_,rfl,c9,rfl,q9,F9,hX8⟩
     rintro _ ⟨x8,rfl⟩
     try simp only [Act.put,zA,zZ,zS]
     repeat ((first
      | (focus (refine Ord3.in_value (v:=?_) hT9.o (by decide) ?_ (by rfl) ?_ ?_; rotate_left 2; (intro w5 hS; have r0:=Blk.rule hS.1; have r1:=Blk.rule hS.2; go_simp<;>rfl); rotate_right; (focus rfl)))
      | (focus (refine Ord3.in_off hT9.o (by decide) ?_ (by rfl) ?_; (focus rfl))));try simp only [Act.put,zA,zZ,zS])
     refine Ord3.in_turn (fun u=>u=.pointer none) _ rfl hT9.o rfl (by decide) (by rfl) ?_ (Or.inr ⟨_,1,[],rfl,by kernel_rfl,by kernel_rfl,rfl⟩) (by rfl) ?_ ?_
     ·rfl
     ·rintro v7 hC7 ⟨P7,hP7,hA7⟩;cases hP7;obtain ⟨c9,he,q9,F9,hA7⟩:=hA7;cases he;go_simp;simp only [Ord3.Lands];refine (newNo_s 0 kd key val lv HNO.out rfl hA7).mono ?_;rintro o v8 ⟨rfl,hX8⟩;exact ⟨_,rfl,rfl,⟨hX8.get 3 rfl,hX8.get 2 rfl⟩,_,rfl,rfl,_,q9,F9,hX8⟩
     rintro _ rfl
     try simp only [Act.put,zA,zZ,zS]
     repeat ((first
      | (focus (refine Ord3.in_value (v:=?_) hT9.o (by decide) ?_ (by rfl) ?_ ?_; rotate_left 2; (intro w5 hS; skip; go_simp<;>rfl); rotate_right; (focus rfl)))
      | (focus (refine Ord3.in_off hT9.o (by decide) ?_ (by rfl) ?_; (focus rfl))));try simp only [Act.put,zA,zZ,zS])
     refine Ord3.in_nil rfl ?_;rintro v9 hC9 ⟨P9,hP9,hA9⟩;cases hP9;obtain ⟨he,c9,q9,F9,hA9⟩:=hA9;clear hT9 hC9;go_wp2_with fail;go_ret;exact ⟨rfl,hA9.below⟩
    ·have b2:(k==3)=false:=by simpa using hk1
     clear hi0 hk1 hall hio hch;have HIS:Hid (∀ v,Calls prog 18 #[.agg #[.int .i64 k,.int .i64 s,.int .i64 b,.int .i64 h,.int .i64 l],.agg #[.int .i64 kd,.int .u64 key,.int .u64 val,.int .i64 lv]] v fun o w'=>o=.returned (.int .i64 io)/\Below v.heap.size v w'):=zH fun v=>by rw [<- HIOE.out]; exact isOp_any k s b h l kd key val lv v
     have r0:=hE8.rule 0 rfl;have r1:=hE8.rule 1 rfl
     go_upto_region 8 with (with_reducible refine (HIS.out _).mono ?_; rintro o w9 ⟨rfl,hb⟩; replace hE8:=hE8.over hb; clear hb r0 r1; have r0:=hE8.rule 0 rfl; have r1:=hE8.rule 1 rfl)
     clear r0 r1;refine Ord3.wp_chain [?_,?_,?_,?_,?_,?_,?_,?_] [1,3] (fun v=>Blk 0 v X [.int .i64 k,.int .i64 s,.int .i64 b,.int .i64 h,.int .i64 l]/\Blk 0 v Y [.int .i64 kd,.int .u64 key,.int .u64 val,.int .i64 lv]) (Ord3.Stage fun κs=>[Env w (boxI Y [.int .i64 kd,.int .u64 key,.int .u64 val,.int .i64 lv]::boxI X [.int .i64 k,.int .i64 s,.int .i64 b,.int .i64 h,.int .i64 l]::[]),fun v=>∃ c9,κs.getD 0 undef=.pointer (some ⟨c9,0,none⟩)/\∃ q9 F9,Env w (coreI c9 k s b h l 0 0 0 0 q9::queueI q9 F9 [] 2::boxI Y [.int .i64 kd,.int .u64 key,.int .u64 val,.int .i64 lv]::boxI X [.int .i64 k,.int .i64 s,.int .i64 b,.int .i64 h,.int .i64 l]::[]) v,fun v=>κs.getD 1 undef=.pointer none/\∃ c9 q9 F9,Env w (coreI c9 k s b h l 0 0 0 0 q9::queueI q9 F9 [] 2::boxI Y [.int .i64 kd,.int .u64 key,.int .u64 val,.int .i64 lv]::boxI X [.int .i64 k,.int .i64 s,.int .i64 b,.int .i64 h,.int .i64 l]::[]) v]) (by kernel_rfl) (by kernel_rfl) (by kernel_rfl) ⟨hE8.drew.get 1 rfl,hE8.drew.get 0 rfl⟩ ⟨_,rfl,hE8.drew⟩ (fun hT=>?_);rotate_left 8;have hT9:=zH hT;clear hT
     repeat ((first
      | (focus (refine Ord3.in_value (v:=?_) hT9.o (by decide) ?_ (by rfl) ?_ ?_; rotate_left 2; (intro w5 hS; have r0:=Blk.rule hS.1; have r1:=Blk.rule hS.2; go_simp<;>rfl); rotate_right; (focus rfl)))
      | (focus (refine Ord3.in_off hT9.o (by decide) ?_ (by rfl) ?_; (focus rfl))));try simp only [Act.put,zA,zZ,zS])
     refine Ord3.in_turn (fun u=>∃ z,u=.pointer (some ⟨z,0,none⟩)) _ ⟨0,rfl⟩ hT9.o rfl (by decide) (by rfl) ?_ (Or.inl rfl) (by rfl) ?_ ?_
     ·rfl
     ·rintro v7 hC7 ⟨P7,hP7,hA7⟩;cases hP7;go_simp;simp only [Ord3.Lands];refine (newYes_c k s b h l HCH.out hA7).mono ?_;rintro o v8 ⟨c9,q9,F9,rfl,hX8⟩;exact ⟨_,rfl,⟨_,rfl⟩,⟨hX8.get 3 rfl,hX8.get 2 rfl⟩,_,rfl,c9,rfl,q9,F9,hX8⟩
     rintro _ ⟨x8,rfl⟩
     try simp only [Act.put,zA,zZ,zS]
     repeat ((first
      | (focus (refine Ord3.in_value (v:=?_) hT9.o (by decide) ?_ (by rfl) ?_ ?_; rotate_left 2; (intro w5 hS; have r0:=Blk.rule hS.1; have r1:=Blk.rule hS.2; go_simp<;>rfl); rotate_right; (focus rfl)))
      | (focus (refine Ord3.in_off hT9.o (by decide) ?_ (by rfl) ?_; (focus rfl))));try simp only [Act.put,zA,zZ,zS])
     refine Ord3.in_turn (fun u=>u=.pointer none) _ rfl hT9.o rfl (by decide) (by rfl) ?_ (Or.inr ⟨_,1,[],rfl,by kernel_rfl,by kernel_rfl,rfl⟩) (by rfl) ?_ ?_
     ·rfl
     ·rintro v7 hC7 ⟨P7,hP7,hA7⟩;cases hP7;obtain ⟨c9,he,q9,F9,hA7⟩:=hA7;cases he;go_simp;simp only [Ord3.Lands];refine (newNo_s 0 kd key val lv HNO.out rfl hA7).mono ?_;rintro o v8 ⟨rfl,hX8⟩;exact ⟨_,rfl,rfl,⟨hX8.get 3 rfl,hX8.get 2 rfl⟩,_,rfl,rfl,_,q9,F9,hX8⟩
     rintro _ rfl
     try simp only [Act.put,zA,zZ,zS]
     repeat ((first
      | (focus (refine Ord3.in_value (v:=?_) hT9.o (by decide) ?_ (by rfl) ?_ ?_; rotate_left 2; (intro w5 hS; skip; go_simp<;>rfl); rotate_right; (focus rfl)))
      | (focus (refine Ord3.in_off hT9.o (by decide) ?_ (by rfl) ?_; (focus rfl))));try simp only [Act.put,zA,zZ,zS])
     refine Ord3.in_nil rfl ?_;rintro v9 hC9 ⟨P9,hP9,hA9⟩;cases hP9;obtain ⟨he,c9,q9,F9,hA9⟩:=hA9;clear hT9 hC9;go_wp2_with fail;go_ret;exact ⟨rfl,hA9.below⟩
   ·have b1:(io==0)=false:=by simpa using hi0
    clear hi0 hall hio hch;have HIS:Hid (∀ v,Calls prog 18 #[.agg #[.int .i64 k,.int .i64 s,.int .i64 b,.int .i64 h,.int .i64 l],.agg #[.int .i64 kd,.int .u64 key,.int .u64 val,.int .i64 lv]] v fun o w'=>o=.returned (.int .i64 io)/\Below v.heap.size v w'):=zH fun v=>by rw [<- HIOE.out]; exact isOp_any k s b h l kd key val lv v
    have r0:=hE8.rule 0 rfl;have r1:=hE8.rule 1 rfl
    go_upto_region 8 with (with_reducible refine (HIS.out _).mono ?_; rintro o w9 ⟨rfl,hb⟩; replace hE8:=hE8.over hb; clear hb r0 r1; have r0:=hE8.rule 0 rfl; have r1:=hE8.rule 1 rfl)
    clear r0 r1;refine Ord3.wp_chain [?_,?_,?_,?_,?_,?_,?_,?_] [1,3] (fun v=>Blk 0 v X [.int .i64 k,.int .i64 s,.int .i64 b,.int .i64 h,.int .i64 l]/\Blk 0 v Y [.int .i64 kd,.int .u64 key,.int .u64 val,.int .i64 lv]) (Ord3.Stage fun κs=>[Env w (boxI Y [.int .i64 kd,.int .u64 key,.int .u64 val,.int .i64 lv]::boxI X [.int .i64 k,.int .i64 s,.int .i64 b,.int .i64 h,.int .i64 l]::[]),fun v=>∃ c9,κs.getD 0 undef=.pointer (some ⟨c9,0,none⟩)/\∃ q9 F9,Env w (coreI c9 k s b h l 0 0 0 0 q9::queueI q9 F9 [] 2::boxI Y [.int .i64 kd,.int .u64 key,.int .u64 val,.int .i64 lv]::boxI X [.int .i64 k,.int .i64 s,.int .i64 b,.int .i64 h,.int .i64 l]::[]) v,fun v=>κs.getD 1 undef=.pointer none/\∃ c9 q9 F9,Env w (coreI c9 k s b h l 0 0 0 0 q9::queueI q9 F9 [] 2::boxI Y [.int .i64 kd,.int .u64 key,.int .u64 val,.int .i64 lv]::boxI X [.int .i64 k,.int .i64 s,.int .i64 b,.int .i64 h,.int .i64 l]::[]) v]) (by kernel_rfl) (by kernel_rfl) (by kernel_rfl) ⟨hE8.drew.get 1 rfl,hE8.drew.get 0 rfl⟩ ⟨_,rfl,hE8.drew⟩ (fun hT=>?_);rotate_left 8;have hT9:=zH hT;clear hT
    repeat ((first
     | (focus (refine Ord3.in_value (v:=?_) hT9.o (by decide) ?_ (by rfl) ?_ ?_; rotate_left 2; (intro w5 hS; have r0:=Blk.rule hS.1; have r1:=Blk.rule hS.2; go_simp<;>rfl); rotate_right; (focus rfl)))
     | (focus (refine Ord3.in_off hT9.o (by decide) ?_ (by rfl) ?_; (focus rfl))));try simp only [Act.put,zA,zZ,zS])
    refine Ord3.in_turn (fun u=>∃ z,u=.pointer (some ⟨z,0,none⟩)) _ ⟨0,rfl⟩ hT9.o rfl (by decide) (by rfl) ?_ (Or.inl rfl) (by rfl) ?_ ?_
    ·rfl
    ·rintro v7 hC7 ⟨P7,hP7,hA7⟩;cases hP7;go_simp;simp only [Ord3.Lands];refine (newYes_c k s b h l HCH.out hA7).mono ?_;rintro o v8 ⟨c9,q9,F9,rfl,hX8⟩;exact ⟨_,rfl,⟨_,rfl⟩,⟨hX8.get 3 rfl,hX8.get 2 rfl⟩,_,rfl,c9,rfl,q9,F9,hX8⟩
    rintro _ ⟨x8,rfl⟩
    try simp only [Act.put,zA,zZ,zS]
    repeat ((first
     | (focus (refine Ord3.in_value (v:=?_) hT9.o (by decide) ?_ (by rfl) ?_ ?_; rotate_left 2; (intro w5 hS; have r0:=Blk.rule hS.1; have r1:=Blk.rule hS.2; go_simp<;>rfl); rotate_right; (focus rfl)))
     | (focus (refine Ord3.in_off hT9.o (by decide) ?_ (by rfl) ?_; (focus rfl))));try simp only [Act.put,zA,zZ,zS])
    refine Ord3.in_turn (fun u=>u=.pointer none) _ rfl hT9.o rfl (by decide) (by rfl) ?_ (Or.inr ⟨_,1,[],rfl,by kernel_rfl,by kernel_rfl,rfl⟩) (by rfl) ?_ ?_
    ·rfl
    ·rintro v7 hC7 ⟨P7,hP7,hA7⟩;cases hP7;obtain ⟨c9,he,q9,F9,hA7⟩:=hA7;cases he;go_simp;simp only [Ord3.Lands];refine (newNo_s 0 kd key val lv HNO.out rfl hA7).mono ?_;rintro o v8 ⟨rfl,hX8⟩;exact ⟨_,rfl,rfl,⟨hX8.get 3 rfl,hX8.get 2 rfl⟩,_,rfl,rfl,_,q9,F9,hX8⟩
    rintro _ rfl
    try simp only [Act.put,zA,zZ,zS]
    repeat ((first
     | (focus (refine Ord3.in_value (v:=?_) hT9.o (by decide) ?_ (by rfl) ?_ ?_; rotate_left 2; (intro w5 hS; skip; go_simp<;>rfl); rotate_right; (focus rfl)))
     | (focus (refine Ord3.in_off hT9.o (by decide) ?_ (by rfl) ?_; (focus rfl))));try simp only [Act.put,zA,zZ,zS])
    refine Ord3.in_nil rfl ?_;rintro v9 hC9 ⟨P9,hP9,hA9⟩;cases hP9;obtain ⟨he,c9,q9,F9,hA9⟩:=hA9;clear hT9 hC9;go_wp2_with fail;go_ret;exact ⟨rfl,hA9.below⟩
 ·have hi0:io≠0:=by rw [<- hio]; unfold opI; rw [if_neg hch]; exact hch
  have b1:(io==0)=false:=by simpa using hi0
  have HIOE:=zH hio;have HCH:=zH hch;clear hi0 hio hch;have HIS:Hid (∀ v,Calls prog 18 #[.agg #[.int .i64 k,.int .i64 s,.int .i64 b,.int .i64 h,.int .i64 l],.agg #[.int .i64 kd,.int .u64 key,.int .u64 val,.int .i64 lv]] v fun o w'=>o=.returned (.int .i64 io)/\Below v.heap.size v w'):=zH fun v=>by rw [<- HIOE.out]; exact isOp_any k s b h l kd key val lv v
  have r0:=hE8.rule 0 rfl;have r1:=hE8.rule 1 rfl
  go_upto_region 8 with (with_reducible refine (HIS.out _).mono ?_; rintro o w9 ⟨rfl,hb⟩; replace hE8:=hE8.over hb; clear hb r0 r1; have r0:=hE8.rule 0 rfl; have r1:=hE8.rule 1 rfl)
  clear r0 r1;refine wp_text (S:=(Env w (boxI Y [.int .i64 kd,.int .u64 key,.int .u64 val,.int .i64 lv]::boxI X [.int .i64 k,.int .i64 s,.int .i64 b,.int .i64 h,.int .i64 l]::[]))) (by kernel_rfl) (by kernel_rfl) hE8.drew (fun hT=>?_);have hT9:=zH hT;clear hT
  repeat ((first
   | (refine text_value (v:=?_) hT9.o (by rfl) ?_ ?_; rotate_left; (intro w5 hS; have r0:=hS.rule 0 rfl; have r1:=hS.rule 1 rfl; go_simp<;>rfl))
   | (refine text_off hT9.o (by rfl) ?_)
   | (refine text_call (v:=?_) (f:=?_) (args:=?_) hT9.o (by rfl) ?_ ?_ ?_; rotate_left 3; (intro w5 hS; have r0:=hS.rule 0 rfl; have r1:=hS.rule 1 rfl; go_simp; constructor<;>rfl); (intro w5 hS; (first | (with_reducible refine kp (newNo_c k s b h l HCH.out _) ?_ ?_; rfl; exact fun w6 hb5=>hS.over hb5) | (with_reducible refine kp (newNil_s kd key val lv _) ?_ ?_; rfl; exact fun w6 hb5=>hS.over hb5)))));try simp only [Act.put,zA,zZ,zS])
  refine InText.nil fun w5 hS5=>?_;clear hT9;go_wp2_with fail;go_ret;exact ⟨rfl,hS5.below⟩
theorem own:ownKnob prog.godebug=none:=by kernel_rfl
theorem laidOut:laidOutB prog=true:=by kernel_rfl
set_option maxRecDepth 100000 in
theorem lifted (os:Os) (started:os.Started) (H:Type) (enc:TypeId × Value->H) :
  ReturnsInHanded {} Tryz.checked os 4 .any (fun w args=>(Rows.skipNilSpec.pre enc prog Tryz.f4 [] false w args/\laidMetH prog laid3 w)/\sizedMet enc prog Tryz.f4 (OpenSpec.ofChange Rows.skipNilSpec) false w args)
   (Rows.skipNilSpec.post enc prog Tryz.f4 false true false false):=by
 refine returnsInHanded_of_change_and (C:=Tryz.checked) (X:=fun w _=>laidMetH prog laid3 w) (fun _ _ _ hh h=>h.of_heap hh) own started (by kernel_rfl) func4
  (ChangeSpec.witness_shaped (enc:=enc) (C:=Tryz.checked) (os:=os) (X:=fun w _=>laidMetH prog laid3 w) false (World.doorLaid prog 24 os) #[.agg #[.int .i64 0,.int .i64 0,.int .i64 0,.int .i64 0,.int .i64 0],.agg #[.int .i64 0,.int .u64 0,.int .u64 0,.int .i64 0]] 8 rfl (World.shaped_of_RefB (by kernel_rfl) (by kernel_rfl)) (by kernel_rfl) (by kernel_rfl) (by kernel_rfl) (door_met os _)) ?_
 intro W base args ds gs before hval0 hW _ _ hL _;have hval:∀ (j:Nat) t v,Tryz.f4.params[j]?=some t->args[j]?=some v->Value.okWide prog W .any base t v:=hval0;have hW':=hW;obtain ⟨p,q,hA0,hV,rfl,hfz,hnd⟩:=hW;have hA:DataW.TrodAll enc prog W 0 (fun _=>true) true Tryz.f4.params.toList args.toList ds p:=hA0;rw [Tryz.params4] at hA hval;obtain ⟨v0,vs0,d0,ds0,p0,q0,hargs,rfl,rfl,g0,r0⟩:=trodAll_cons hA;obtain ⟨v1,vs1,d1,ds1,p1,q1,rfl,rfl,rfl,g1,r1⟩:=trodAll_cons r0;obtain ⟨rfl,rfl,rfl⟩:=trodAll_nil r1;obtain rfl:args=#[v0,v1]:=by cases args; simp_all
 obtain ⟨rfl,rfl⟩:=trodVars_none hV;obtain ⟨cs0,rfl,z0,H0⟩:=open_flat (ss:=[.num .i64,.num .i64,.num .i64,.num .i64,.num .i64]) Tryz.underlying23 (by kernel_rfl) (by kernel_rfl) ⟨Tryz.underlying3,Tryz.underlying3,Tryz.underlying3,Tryz.underlying3,Tryz.underlying3,trivial⟩ (hval 0 23 v0 rfl rfl) g0;obtain ⟨l0,rfl,z0⟩:=list_of z0;obtain ⟨x0_0,x0_1,x0_2,x0_3,x0_4,rfl⟩:=list5 z0;obtain ⟨_,e,a0_0,rfl,w0_0⟩:=H0 0 _ rfl;obtain rfl:x0_0=.int .i64 a0_0:=by simpa using e
 clear e;have h0_0:=i64_in w0_0;obtain ⟨_,e,a0_1,rfl,w0_1⟩:=H0 1 _ rfl;obtain rfl:x0_1=.int .i64 a0_1:=by simpa using e
 clear e;have h0_1:=i64_in w0_1;obtain ⟨_,e,a0_2,rfl,w0_2⟩:=H0 2 _ rfl;obtain rfl:x0_2=.int .i64 a0_2:=by simpa using e
 clear e;have h0_2:=i64_in w0_2;obtain ⟨_,e,a0_3,rfl,w0_3⟩:=H0 3 _ rfl;obtain rfl:x0_3=.int .i64 a0_3:=by simpa using e
 clear e;have h0_3:=i64_in w0_3;obtain ⟨_,e,a0_4,rfl,w0_4⟩:=H0 4 _ rfl;obtain rfl:x0_4=.int .i64 a0_4:=by simpa using e
 clear e;have h0_4:=i64_in w0_4;clear H0;obtain ⟨cs1,rfl,z1,H1⟩:=open_flat (ss:=[.num .i64,.num .u64,.num .u64,.num .i64]) Tryz.underlying51 (by kernel_rfl) (by kernel_rfl) ⟨Tryz.underlying3,Tryz.underlying49,Tryz.underlying49,Tryz.underlying3,trivial⟩ (hval 1 51 v1 rfl rfl) g1;obtain ⟨l1,rfl,z1⟩:=list_of z1;obtain ⟨x1_0,x1_1,x1_2,x1_3,rfl⟩:=list4 z1;obtain ⟨_,e,a1_0,rfl,w1_0⟩:=H1 0 _ rfl;obtain rfl:x1_0=.int .i64 a1_0:=by simpa using e
 clear e;have h1_0:=i64_in w1_0;obtain ⟨_,e,a1_1,rfl,w1_1⟩:=H1 1 _ rfl;obtain rfl:x1_1=.int .u64 a1_1:=by simpa using e
 clear e;have h1_1:=u64_in w1_1;obtain ⟨_,e,a1_2,rfl,w1_2⟩:=H1 2 _ rfl;obtain rfl:x1_2=.int .u64 a1_2:=by simpa using e
 clear e;have h1_2:=u64_in w1_2;obtain ⟨_,e,a1_3,rfl,w1_3⟩:=H1 3 _ rfl;obtain rfl:x1_3=.int .i64 a1_3:=by simpa using e
 clear e;have h1_3:=i64_in w1_3;clear H1;clear hA0 hval0;have hG:=glo_of_laid hL;refine (walk a0_0 a0_1 a0_2 a0_3 a0_4 a1_0 a1_1 a1_2 a1_3 h1_1 W hG).mono fun e W' ⟨he,hg⟩=>?_;subst he;exact ⟨_,rfl,law_post laidOut (by kernel_rfl) (by kernel_rfl) Tryz.underlying4 rfl rfl hW' hg⟩
theorem closedR:joinedFacts Tryz.pinned.checked.prog 4 Tryz.f4 Rows.skipNilSpec Rows.skipNilRow=true:=by
 unfold joinedFacts;simp only [Bool.and_eq_true]
 repeat' (refine And.intro ?_ ?_)
 all_goals (as_aux_lemma=>kernel_rfl)
theorem over:Rows.skipNilRow.holds Tryz.pinned (OpenSpec.ofChange Rows.skipNilSpec) :=
 OpenClaim.holds_of_wide 4 Tryz.f4 rfl rfl rfl rfl rfl rfl rfl ⟨rfl,rfl,rfl,rfl,rfl⟩ rfl rfl rfl rfl rfl (by kernel_rfl) func4 closedR
  (of_decide_eq_true (by kernel_rfl)) (by unfold Func.isWrapper; first | (rw [if_pos (by decide +kernel)]; kernel_rfl) | (rw [if_neg (by decide +kernel)]; exact ⟨rfl,rfl⟩))
  (fun os started H enc _=>lifted os started H enc)
theorem proved:Rows.SkipNilCardSaid :=
 Claim7.holds_tied_plain_at .later [] [.wider,.wider,.wider] true _ true
  over (fun _ h=>by cases h) (by as_aux_lemma=>kernel_rfl) (fun _ h=>by cases h) skipNil_row_tie rfl ⟨rfl,rfl⟩ (by as_aux_lemma=>kernel_rfl) rfl
  (fun f fn hf hfn=>by
    obtain rfl:f=4:=Option.some.inj ((show prog.funcNamed "revenant/revenantlaw19.SkipNil"=some 4 by as_aux_lemma=>kernel_rfl).symm.trans hf) |>.symm;obtain rfl:fn=Tryz.f4:=(Option.some.inj (func4.symm.trans hfn)).symm;exact ⟨(by as_aux_lemma=>kernel_rfl),fun j t ht=>by
     rw [Tryz.params4] at ht;have hm:t∈[23,51]:=by simpa using Array.mem_of_getElem? ht
     have hall:([23,51].all fun u=>!prog.wantsStandIn u)=true:=by as_aux_lemma=>kernel_rfl
     exact (show prog.wantsStandIn t=false by simpa using List.all_eq_true.1 hall t hm)⟩)
  (by as_aux_lemma=>kernel_rfl)
#print axioms proved
end
end Go.Proofs.YtffncfmciockmaaGreatDoor.skipNil
