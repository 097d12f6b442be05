/- What is proved on the way to the statement, part 11: contracts of the functions, among other things in memory. -/
import Derived.Test.YtffncfmciockmaaGreatDoorM10
import Derived.LoopIn
import Derived.Great.BuildSlice
import Derived.Great.Walk
import Derived.Test.YtffncfmciockmaaGreatDoorTie
import Derived.LaidMore
import Derived.Stop.Joined
import Derived.WalkKit
import Derived.ProofKit
import Derived.OpenShut
import Derived.Deep.SlicePairs

open _root_.Go.Proofs.Tryz
set_option maxRecDepth 100000
set_option maxHeartbeats 25600000
namespace Go.Proofs.YtffncfmciockmaaGreatDoor
section
open Go.RowKit Go.Maps
theorem setRow_alloc (w:World) (g:Nat) (old cs:Array Value) (t:TypeId) (hg:g=w.heap.size):(w.alloc (.cells old t)).setRow g cs=w.alloc (.cells cs t):=by
 subst hg;have h9:(w.heap.push (Obj.cells old t)).modify w.heap.size (fun o=>match o with | .cells _ elem frozen=>.cells cs elem frozen | o=>o)=w.heap.push (.cells cs t):=by
  apply Array.ext
  ·simp
  ·intro i h1 h2;rw [Array.getElem_modify]
   by_cases hi:w.heap.size=i
   ·subst hi; simp
   ·rw [if_neg hi]; simp at h2; rw [Array.getElem_push_lt (by omega),Array.getElem_push_lt (by omega)]
 show ({ w.alloc (.cells old t) with heap:=(w.heap.push (Obj.cells old t)).modify w.heap.size _ }:World)=_;exact congrArg (fun h=>({ w.alloc (.cells old t) with heap:=h }:World)) h9
theorem alloc_last (w:World) (o:Obj):(w.alloc o).heap[w.heap.size]?=some o:=by show (w.heap.push o)[w.heap.size]?=some o; exact Array.getElem?_push_size
theorem levels_s (s h l:Int) (w:World):Calls prog 32 #[.int .i64 s,.int .i64 h,.int .i64 l] w fun e w'=>e=.returned (.agg #[.int .i64 3,.int .i64 s,.int .i64 0,.int .i64 h,.int .i64 l])/\Below w.heap.size w w':=by
 go_enter func32,ntmps32
 go_wp2
 exact bodyPost_ret (v:=.agg #[.int .i64 3,.int .i64 s,.int .i64 0,.int .i64 h,.int .i64 l]) (by simp [results,results32,go_sem]) rfl ⟨rfl,(Below.refl _ _).alloc (Nat.le_refl _) _⟩
section
variable {C:Cf} {B:Nat}
theorem T0_ok (hC:COk C) {ds:List Dd} (hd:ds.length<=B):OkT C ds B T0:=by
 have hs:=hC.s;have hl:=hC.l;have hz:slotI 0=0:=by decide
 have hu0:InU 0:=by unfold InU; omega
 exact { e:=(by show (0:Int)<=0/\(0:Int)<=C.l; omega),w:=⟨hu0,hu0,hu0⟩,hs:=(by show (0:Int)<=0/\(0:Int)<=C.s; omega),rs:=(by show (0:Int)<=0/\(0:Int)<=C.s; omega),ql:=(by intro x hx; cases hx),nd:=Nat.zero_le _,len:=(by show 0+(ds.length - 0)<=B; omega),done:=(by show (0:Int)<=0/\(0:Int)<=B; omega),pc:=.inl rfl,p1:=fun h=>no h rfl,nd1:=fun h=>absurd rfl h,apc:=fun h=>no h rfl,low:=fun h=>no h rfl,adv:=fun h=>no h rfl,born:=fun h=>no h rfl,pool:=fun h=>no h rfl,an:=(by show slotI 0<=C.s; omega),rpc:=fun h=>no h rfl,rsp:=fun h=>no h rfl,re:=(by show (0:Int)<=0/\(0:Int)<=C.l; omega),gpc:=Nat.zero_le 3,give:=fun h=>no h rfl,ghu:=hu0,gh:=(by show slotI 0<=C.s; omega),gv:=fun h=>no h rfl }
theorem K0_ok (hC:COk C) {ds:List Dd} {d:Dd} (hd:ds.length<=B):KOk C ds B d K0 :=
 ⟨T0_ok hC hd,rfl,(show (0:Int)=0 from rfl),fun h=>absurd (show (0:Nat)=2 from h) (by decide),fun h=>absurd rfl h⟩
theorem f0_ok (hC:COk C):OkF C f0/\LnkF C f0:=by
 have hs:=hC.s;have hl:=hC.l;have hz:slotI 0=0:=by decide
 refine ⟨⟨fun x=>?_,?_,fun i=>?_,?_⟩,⟨fun r=>?_,fun i l h=>?_⟩⟩<;>unfold f0
 ·split<;>(unfold InU; omega)
 ·rw [if_neg (by decide)]; omega
 ·rw [if_neg (by simp)]; omega
 ·rw [if_pos rfl]; omega
 ·rw [if_neg (by simp)]; omega
 ·rw [if_neg (by simp)]; omega
end
theorem ok9:CSk C9:=⟨⟨by decide,by decide⟩,by decide,by decide⟩
def ds19:List Dd:=[⟨0,1,5,0,2⟩,⟨0,1,5,0,1⟩,⟨0,3,5,0,0⟩,⟨0,2,5,0,0⟩,⟨0,3,5,0,0⟩]
def rowO19:List Value:=[.int .i64 1,.int .u64 5,.int .u64 0,.int .i64 2,.int .i64 1,.int .u64 5,.int .u64 0,.int .i64 1,.int .i64 3,.int .u64 5,.int .u64 0,.int .i64 0,.int .i64 2,.int .u64 5,.int .u64 0,.int .i64 0,.int .i64 3,.int .u64 5,.int .u64 0,.int .i64 0]
def rowS19:List Value:=[.int .i64 21,.int .i64 13,.int .i64 13,.int .i64 40,.int .i64 5]
def rowD19:List Value:=[.bool true,.bool false,.bool true,.bool true,.bool false]
def vm (p cc m:Nat):Wm:=⟨p,cc,m,fun _=>False,fun _=>False,⟨0,0,0,0,0⟩,0,[]⟩
def tm0 (c q:Nat):Tm:={ thr:=0,c:=c,q:=q,u:=0,F:=fun _=>False,kq:=2,A:=none,rc:=0,N:=0,cr:=0,ro:=0,dA:=none,dn:=0,dc:=0,pa:=.pointer none,pb:=.pointer none,pr:=.pointer none,pq:=.pointer none,pg:=.pointer none,ph:=.pointer none }
theorem lv19:∀ i,(d19 i).ok=1->1<=(d19 i).lv/\(d19 i).lv<=((C9.h.toNat:Nat):Int):=fun i h=>by
 have h2:((C9.h.toNat:Nat):Int)=2:=by decide
 rw [h2];unfold d19 at h ⊢;dsimp only at h ⊢
 split at h
 ·split
  ·omega
  ·rw [if_pos (by omega)]; omega
 ·split at h<;>omega
structure RunOk (A:Nat->Kt × Mem) (Rn:Nat->Nat->Int × Kt × Mem):Prop where
 (a0:A 0=(K0,f0))
 (an:∀ i,A (i+1)=(endK (Rn i (s19 i)),(Rn i (s19 i)).2.2))
 (r0:∀ i,Rn i 0=(0,beginK (d19 i) (A i).1,(A i).2))
 (rs:∀ i j,Rn i (j+1)=opM C9 (d19 i) (Rn i j).2.1 (Rn i j).2.2)
 (busy:∀ i,i < 5->∀ j,j < s19 i->(Rn i j).1=0/\1<=(Rn i j).2.1.pc/\(Rn i j).2.1.pc≠8)
 (done:∀ i,i < 5->(Rn i (s19 i)).1=1/\(Rn i (s19 i)).2.1.err=0/\(Rn i (s19 i)).2.1.dn=r19 i)
 (nd:∀ i,i < 6->(A i).1.T.nd=i/\(A i).1.pc=0)
theorem awake_run (A:Nat->Kt × Mem) (Rn:Nat->Nat->Int × Kt × Mem) (hr:RunOk A Rn) (w:World) (hg:Glo w):Calls prog 7 #[] w fun o w'=>o=.returned (.bool true)/\Below w.heap.size w w':=by
 have hE:=Env.start w;have HG:=zH hg;have HC:=zH (show chkI 3 4 0 2 9=0 by decide);clear hg;go_enter func7,ntmps7;go_wp2_with fail;refine (new_w hE).mono ?_;rintro o w3 ⟨p,cc,rfl,hE3,hb⟩;clear hb hE;go_wp2_with fail;refine (start_w 0 1 (by decide) (by unfold maxLen; omega) hE3 rfl rfl).mono ?_;rintro o w4 ⟨rfl,F4,hE4⟩;simp only [zS,zZ] at hE4;clear hE3;generalize ({ l:=_,s:=_,w:=_,f:=_,a:=_ }:Cnt)=q4 at hE4;go_wp2_with fail;refine (levels_s 4 2 9 _).mono ?_;rintro o w5 ⟨rfl,hb⟩;replace hE4:=hE4.over hb;clear hb;go_wp2_with fail;refine (newYes_c 3 4 0 2 9 HC.out hE4).mono ?_;rintro o w6 ⟨c,q,F,rfl,hE6⟩;clear hE4
 go_upto_region 4 with fail
 apply wp_region_lit;refine wpList_buildTo rfl 51 _ rfl (some 16) rfl #[.int .i64 1,.int .u64 5,.int .u64 0,.int .i64 2] (by as_aux_lemma=>kernel_rfl) ?_;refine wpList_buildTo rfl 51 _ rfl (some 17) rfl #[.int .i64 1,.int .u64 5,.int .u64 0,.int .i64 1] (by as_aux_lemma=>kernel_rfl) ?_;refine wpList_buildTo rfl 51 _ rfl (some 18) rfl #[.int .i64 3,.int .u64 5,.int .u64 0,.int .i64 0] (by as_aux_lemma=>kernel_rfl) ?_;refine wpList_buildTo rfl 51 _ rfl (some 19) rfl #[.int .i64 2,.int .u64 5,.int .u64 0,.int .i64 0] (by as_aux_lemma=>kernel_rfl) ?_;refine wpList_buildTo rfl 51 _ rfl (some 20) rfl #[.int .i64 3,.int .u64 5,.int .u64 0,.int .i64 0] (by as_aux_lemma=>kernel_rfl) ?_;refine wpList_buildTo rfl 81 _ rfl (some 21) rfl #[.int .i64 1,.int .u64 5,.int .u64 0,.int .i64 2,.int .i64 1,.int .u64 5,.int .u64 0,.int .i64 1,.int .i64 3,.int .u64 5,.int .u64 0,.int .i64 0,.int .i64 2,.int .u64 5,.int .u64 0,.int .i64 0,.int .i64 3,.int .u64 5,.int .u64 0,.int .i64 0] (by kernel_rfl) ?_;refine Go.Great.wpList_allocTo rfl (some 3) rfl (.pointer (some ⟨w6.heap.size,0,none⟩)) (.cells #[.int .i64 0,.int .u64 0,.int .u64 0,.int .i64 0,.int .i64 0,.int .u64 0,.int .u64 0,.int .i64 0,.int .i64 0,.int .u64 0,.int .u64 0,.int .i64 0,.int .i64 0,.int .u64 0,.int .u64 0,.int .i64 0,.int .i64 0,.int .u64 0,.int .u64 0,.int .i64 0] 81) (by kernel_rfl) ?_;refine wpList_store_rowTo rfl 81 _ _ rfl rfl (w6.heap.size) #[.int .i64 1,.int .u64 5,.int .u64 0,.int .i64 2,.int .i64 1,.int .u64 5,.int .u64 0,.int .i64 1,.int .i64 3,.int .u64 5,.int .u64 0,.int .i64 0,.int .i64 2,.int .u64 5,.int .u64 0,.int .i64 0,.int .i64 3,.int .u64 5,.int .u64 0,.int .i64 0] (by kernel_rfl) (by kernel_rfl) 81 #[.int .i64 0,.int .u64 0,.int .u64 0,.int .i64 0,.int .i64 0,.int .u64 0,.int .u64 0,.int .i64 0,.int .i64 0,.int .u64 0,.int .u64 0,.int .i64 0,.int .i64 0,.int .u64 0,.int .u64 0,.int .i64 0,.int .i64 0,.int .u64 0,.int .u64 0,.int .i64 0] (alloc_last _ _) (by as_aux_lemma=>kernel_rfl) (by as_aux_lemma=>kernel_rfl) (by as_aux_lemma=>kernel_rfl) ?_;apply wpList_nil;rw [setRow_alloc _ _ _ _ _ rfl];rename_i aK4;refine aK4 _ _ ?_;clear aK4;have hE66:=hE6.box w6.heap.size rfl [.int .i64 1,.int .u64 5,.int .u64 0,.int .i64 2,.int .i64 1,.int .u64 5,.int .u64 0,.int .i64 1,.int .i64 3,.int .u64 5,.int .u64 0,.int .i64 0,.int .i64 2,.int .u64 5,.int .u64 0,.int .i64 0,.int .i64 3,.int .u64 5,.int .u64 0,.int .i64 0] 81;generalize World.alloc w6 _=w66 at *;clear hE6;generalize w6.heap.size=Z3 at *
 go_upto_region 5 with fail
 apply wp_region_lit;refine wpList_buildTo rfl 82 _ rfl (some 22) rfl #[.int .i64 21,.int .i64 13,.int .i64 13,.int .i64 40,.int .i64 5] (by kernel_rfl) ?_;refine Go.Great.wpList_allocTo rfl (some 4) rfl (.pointer (some ⟨w66.heap.size,0,none⟩)) (.cells #[.int .i64 0,.int .i64 0,.int .i64 0,.int .i64 0,.int .i64 0] 82) (by kernel_rfl) ?_;refine wpList_store_rowTo rfl 82 _ _ rfl rfl (w66.heap.size) #[.int .i64 21,.int .i64 13,.int .i64 13,.int .i64 40,.int .i64 5] (by kernel_rfl) (by kernel_rfl) 82 #[.int .i64 0,.int .i64 0,.int .i64 0,.int .i64 0,.int .i64 0] (alloc_last _ _) (by as_aux_lemma=>kernel_rfl) (by as_aux_lemma=>kernel_rfl) (by as_aux_lemma=>kernel_rfl) ?_;apply wpList_nil;rw [setRow_alloc _ _ _ _ _ rfl];rename_i aK5;refine aK5 _ _ ?_;clear aK5;have hE67:=hE66.box w66.heap.size rfl [.int .i64 21,.int .i64 13,.int .i64 13,.int .i64 40,.int .i64 5] 82;generalize World.alloc w66 _=w67 at *;clear hE66;generalize w66.heap.size=Z4 at *
 go_upto_region 6 with fail
 apply wp_region_lit;refine wpList_buildTo rfl 83 _ rfl (some 23) rfl #[.bool true,.bool false,.bool true,.bool true,.bool false] (by kernel_rfl) ?_;refine Go.Great.wpList_allocTo rfl (some 5) rfl (.pointer (some ⟨w67.heap.size,0,none⟩)) (.cells #[.bool false,.bool false,.bool false,.bool false,.bool false] 83) (by kernel_rfl) ?_;refine wpList_store_rowTo rfl 83 _ _ rfl rfl (w67.heap.size) #[.bool true,.bool false,.bool true,.bool true,.bool false] (by kernel_rfl) (by kernel_rfl) 83 #[.bool false,.bool false,.bool false,.bool false,.bool false] (alloc_last _ _) (by as_aux_lemma=>kernel_rfl) (by as_aux_lemma=>kernel_rfl) (by as_aux_lemma=>kernel_rfl) ?_;apply wpList_nil;rw [setRow_alloc _ _ _ _ _ rfl];rename_i aK6;refine aK6 _ _ ?_;clear aK6;have hE7:=hE67.box w67.heap.size rfl [.bool true,.bool false,.bool true,.bool true,.bool false] 83;generalize World.alloc w67 _=w7 at *;clear hE67;generalize w67.heap.size=Z5 at *;go_wp2_with fail;have HRO:Hid (∀ (S:ST) (ps:List Item) (v:World),Env w (ps++LT S [boxI Z5 rowD19,boxI Z4 rowS19,boxI Z3 rowO19]) v->(∀ j,v.cell? ⟨Z5,j,none⟩=rowD19[j]?)/\(∀ j,v.cell? ⟨Z4,j,none⟩=rowS19[j]?)/\∀ j,v.cell? ⟨Z3,j,none⟩=rowO19[j]?):=zH fun S ps v hv=>⟨Blk.rule ((hv.2.2 (boxI Z5 rowD19) (by simp [LT])).1),Blk.rule ((hv.2.2 (boxI Z4 rowS19) (by simp [LT])).1),Blk.rule ((hv.2.2 (boxI Z3 rowO19) (by simp [LT])).1)⟩;have hf0:upd (fun _=>0) (1,0,0) 1=(A 0).2:=by
  rw [hr.a0]
  funext x
  show _=f0 x;unfold upd f0
  by_cases hx:x=(1,0,0)<;>simp [hx]
 have hE8:Env w (LT (SPK C9 { tm0 c q with F:=F,kq:=2 } (vm p cc 0) (A 0).1 (A 0).2 F4 q4 (0+1)) [boxI Z5 rowD19,boxI Z4 rowS19,boxI Z3 rowO19]) w7:=by
  rw [<- hf0,hr.a0];exact hE7.perm (List.perm_append_comm (l₁:=[_,_,_]))
 clear hE7 hf0;have HK0:Hid (KOk C9 ds19 5 (d19 0) (A 0).1/\OkF C9 (A 0).2/\LnkF C9 (A 0).2):=zH (by rw [hr.a0]; exact ⟨K0_ok ok9.ok (by decide),f0_ok ok9.ok⟩)
 go_loopw [6] (fun iv wr=>∃ (i B n k:Nat) (F G:Nat->Prop) (qc:Cnt),i<=5/\iv=.int .i64 i/\B<=5+40 * i/\n<=2+40 * i/\Hid (∀ d,KOk C9 ds19 B d (A i).1)/\Hid (OkF C9 (A i).2/\LnkF C9 (A i).2)/\Env w (LT (SPK C9 { tm0 c q with F:=F,kq:=k } (vm p cc 0) (A i).1 (A i).2 G qc n) [boxI Z5 rowD19,boxI Z4 rowS19,boxI Z3 rowO19]) wr) (fun iv _=>5 - (intOf iv).toNat)
 case atStart=>exact ⟨0,5,0+1,2,F,F4,q4,by omega,rfl,by omega,by omega,zH fun d=>HK0.out.1.any (by rw [hr.a0]; rfl),zH HK0.out.2,hE8⟩
 case round =>
  clear hE8 HK0;obtain ⟨i,B,n,k,F,G,qc,hi,rfl,hB,hn,hK,hF,hE⟩:=hrel
  by_cases hlt:i < 5
  ·as_aux_lemma =>
    have hb1:decide ((i:Int) < 5)=true:=by simp; omega
    have hb2:(i:Int) < 5:=by omega
    have HNW:=zH fun (v:World) (hv:Env w (LT (SPK C9 { tm0 c q with F:=F,kq:=k } (vm p cc 0) (A i).1 (A i).2 G qc n) [boxI Z5 rowD19,boxI Z4 rowS19,boxI Z3 rowO19]) v)=>newYes_s (H:=2) (by omega) (c:=c) (e:=(A i).1.T.e) (r:=(A i).1.r) (hs:=(A i).1.T.hs) (hi:=0) (q:=q) (s:=4) (b:=0) (l:=9) 0 (d19 i).ok (d19 i).key (d19 i).val (d19 i).lv (by rcases (show i=0\/i=1\/i=2\/i=3\/i=4 by omega) with rfl | rfl | rfl | rfl | rfl<;>decide) (by rcases (show i=0\/i=1\/i=2\/i=3\/i=4 by omega) with rfl | rfl | rfl | rfl | rfl<;>decide) rfl hv;have hc9:∀ j,wr.cell? ⟨Z3,j,none⟩=rowO19[j]?:=(HRO.out _ [] _ hE).2.2;have c0:wr.cell? ⟨Z3,i * 4,none⟩=some (.int .i64 (d19 i).ok):=by rw [hc9]; rcases (show i=0\/i=1\/i=2\/i=3\/i=4 by omega) with rfl | rfl | rfl | rfl | rfl<;>rfl
    have c1:wr.cell? ⟨Z3,i * 4+1,none⟩=some (.int .u64 (d19 i).key):=by rw [hc9]; rcases (show i=0\/i=1\/i=2\/i=3\/i=4 by omega) with rfl | rfl | rfl | rfl | rfl<;>rfl
    have c2:wr.cell? ⟨Z3,i * 4+2,none⟩=some (.int .u64 (d19 i).val):=by rw [hc9]; rcases (show i=0\/i=1\/i=2\/i=3\/i=4 by omega) with rfl | rfl | rfl | rfl | rfl<;>rfl
    have c3:wr.cell? ⟨Z3,i * 4+3,none⟩=some (.int .i64 (d19 i).lv):=by rw [hc9]; rcases (show i=0\/i=1\/i=2\/i=3\/i=4 by omega) with rfl | rfl | rfl | rfl | rfl<;>rfl
    have HLT:=zH hlt;clear hc9 hlt hi;go_wp2_with fail;refine (HNW.out _ hE).mono ?_;rintro e w8 ⟨o,b1,b2,fb,gg,rfl,hE8⟩;clear hE HNW c0 c1 c2 c3;have hnd:=hr.nd i (by have:=HLT.out; omega);have hbg:=begin_keep (ds:=ds19) (B:=B) ok9 (hK.out (d19 i)) hnd.2 (by rw [hnd.1]; exact HLT.out) (d19 i);have hbk:beginK (d19 i) (A i).1={ seekM 0 (A i).1 with T:={ (A i).1.T with nd:=(A i).1.T.nd+1 },an:=false,err:=0,dn:=false }:=by unfold beginK; rw [if_neg (by have:=HLT.out; rcases (show i=0\/i=1\/i=2\/i=3\/i=4 by omega) with rfl | rfl | rfl | rfl | rfl<;>decide)]
    have hE9:Env w ([boxI o (opS c (d19 i).ok (d19 i).key (d19 i).val (d19 i).lv (cvP b1 b2) 0 (.pointer (some ⟨fb,0,none⟩)) 0 0 0 0 false 0 false),boxI b1 [mvL 131 fb],boxI b2 [mvL 100 o],boxI fb (fdC c (d19 i).key (mvL 151 fb) 0 gg 2 0),boxI gg (List.replicate 2 (.pointer none))]++LT (SPK C9 { tm0 c q with F:=F,kq:=k } (vm p cc 0) (Rn i 0).2.1 (Rn i 0).2.2 G qc n) [boxI Z5 rowD19,boxI Z4 rowS19,boxI Z3 rowO19]) w8:=by
     rw [hr.r0];show Env w ([_,_,_,_,_]++LT (SPK C9 { tm0 c q with F:=F,kq:=k } (vm p cc 0) (beginK (d19 i) (A i).1) (A i).2 G qc n) [boxI Z5 rowD19,boxI Z4 rowS19,boxI Z3 rowO19]) w8;rw [hbk];exact hE8
    have HPM:Hid (PM C9 c (d19 i) (Rn i 0).2.1 o [boxI o (opS c (d19 i).ok (d19 i).key (d19 i).val (d19 i).lv (cvP b1 b2) 0 (.pointer (some ⟨fb,0,none⟩)) 0 0 0 0 false 0 false),boxI b1 [mvL 131 fb],boxI b2 [mvL 100 o],boxI fb (fdC c (d19 i).key (mvL 151 fb) 0 gg 2 0),boxI gg (List.replicate 2 (.pointer none))]):=zH (by
     rw [hr.r0];show PM C9 c (d19 i) (beginK (d19 i) (A i).1) o _;rw [hbk];exact .inl ⟨rfl,b1,b2,fb,0,0,0,0,_,rfl,fun h=>absurd rfl h,fun h=>absurd (show (0:Nat)=1 from h) (by decide),.inl ⟨rfl,rfl,gg,_,0,List.length_replicate,rfl⟩⟩)
    have HBG:Hid (KOk C9 ds19 B (d19 i) (Rn i 0).2.1):=zH (by rw [hr.r0]; exact hbg.1);have HF:Hid (OkF C9 (Rn i 0).2.2/\LnkF C9 (Rn i 0).2.2):=zH (by rw [hr.r0]; exact hF.out);clear hE8 hbk hbg hnd hK hF;have hs12:s19 i<=40:=by unfold s19; (repeat' split)<;>omega
    have hs1:1<=s19 i:=by unfold s19; (repeat' split)<;>omega
    go_wp2_with fail
    go_loopw [8,9] (fun nv sv wr=>∃ (j B n k:Nat) (st:Int) (F G:Nat->Prop) (qc:Cnt) (ps:List Item),j<=s19 i/\nv=.int .i64 j/\sv=.int .i64 st/\B<=5+40 * i+j/\n<=2+40 * i+j/\Hid (st=(Rn i j).1)/\Hid (st=0->PM C9 c (d19 i) (Rn i j).2.1 o ps/\KOk C9 ds19 B (d19 i) (Rn i j).2.1)/\Hid (st≠0->(∃ nx fp n0 l0 t0 y0 an,ps=[boxI o (opS c (d19 i).ok (d19 i).key (d19 i).val (d19 i).lv nx st fp n0 l0 t0 y0 an (Rn i j).2.1.err (Rn i j).2.1.dn)])/\KOk C9 ds19 B (d19 i) (endK (Rn i j)))/\Hid (OkF C9 (Rn i j).2.2/\LnkF C9 (Rn i j).2.2)/\Env w (ps++LT (SPK C9 { tm0 c q with F:=F,kq:=k } (vm p cc 0) (Rn i j).2.1 (Rn i j).2.2 G qc n) [boxI Z5 rowD19,boxI Z4 rowS19,boxI Z3 rowO19]) wr) (fun nv _ _=>100 - (intOf nv).toNat)
    case atStart=>exact ⟨0,B,n,k,0,F,G,qc,_,Nat.zero_le _,rfl,rfl,by omega,by omega,zH (by rw [hr.r0]),zH (fun _=>⟨HPM.out,HBG.out⟩),zH (fun h=>absurd rfl h),HF,hE9⟩
    case round =>
     clear hE9 HPM HBG HF;obtain ⟨j,B9,n9,k9,st,F9,G9,qc9,ps,hj,rfl,rfl,hB9,hn9,hst,hP,hQ,hF,hE⟩:=hrel
     by_cases hjl:j < s19 i
     ·as_aux_lemma =>
       have hby:=hr.busy i HLT.out j hjl;have h0:st=0:=by rw [hst.out]; exact hby.1
       subst h0;have hb3:decide ((j:Int) < 100)=true:=by simp; omega
       have hP:=(hP.out rfl);have hi4:=HLT.out;have hkc:=hP.2.kc (n:=n9) ok9 rfl (by decide) (lv19 i) hF.out.1 hby.2.1 hby.2.2 (by show InU 5/\InU 0; unfold InU; omega) (by omega) (by unfold maxLen; omega);have HST:=zH (op_p (R:=[boxI Z5 rowD19,boxI Z4 rowS19,boxI Z3 rowO19]) (X:={ tm0 c q with F:=F9,kq:=k9 }) (V:=vm p cc 0) hkc HG.out hP.1 hE);have HKE:=zH fun hu=>op_keep ok9 (lv19 i) hF.out.1 hF.out.2 hP.2 hu hby.2.1 hby.2.2;have HNX:Hid (opM C9 (d19 i) (Rn i j).2.1 (Rn i j).2.2=Rn i (j+1)):=zH (hr.rs i j).symm;rw [HNX.out] at HST HKE;clear hkc hby hst hP hQ hE hF hi4 HNX;go_wp2_with fail;refine HST.out.mono ?_;rintro e w9 ⟨s9,rfl,hs9,F',k',G',qc',n',ps',⟨hn',-⟩,h0,h1,hE'⟩;have hu:∀ x,InU ((Rn i (j+1)).2.2 x):=fun x=>by
        have h9:Blk 0 w9 0 []\/True:=.inr trivial;exact (hE'.perm (List.perm_append_comm)).cell 3 rfl |>.words.1 x
       have hke:=HKE.out hu;clear HST HKE;subst hs9;go_wp2_with fail;refine ⟨⟨j+1,B9+1,n',k',_,F',G',qc',ps',hjl,by simp,rfl,by omega,by omega,zH rfl,zH fun h=>⟨h0 h,?_⟩,zH fun h=>⟨h1 h,?_⟩,zH ⟨hke.f,hke.l⟩,hE'⟩,by simp [intOf]; omega⟩
       ·have:=hke.k;rw [if_pos h] at this;exact this
       ·have:=hke.k;rw [if_neg h] at this;exact this
     ·as_aux_lemma =>
       have hjs:j=s19 i:=by omega
       subst hjs;have hdn:=hr.done i HLT.out;have h1:st=1:=by rw [hst.out]; exact hdn.1
       subst h1;obtain ⟨⟨nx,fp,n0,l0,t0,y0,an,rfl⟩,hK⟩:=hQ.out (by decide);rw [hdn.2.1,hdn.2.2] at hE;have HK:=zH hK;clear hP hQ hdn hst hK;obtain ⟨M9,hM9⟩:∃ M:Int,(if i=3 then (40:Int) else ((s19 i:Nat):Int))=M:=⟨_,rfl⟩;have HM9:=zH hM9;clear hM9;have hb3:decide (((s19 i:Nat):Int) < 100)=true:=by simp; omega
       go_wp2_with fail;have HAN:Hid (∀ v,Env w ([boxI o (opS c (d19 i).ok (d19 i).key (d19 i).val (d19 i).lv nx 1 fp n0 l0 t0 y0 an 0 (r19 i))]++LT (SPK C9 { tm0 c q with F:=F9,kq:=k9 } (vm p cc 0) (Rn i (s19 i)).2.1 (Rn i (s19 i)).2.2 G9 qc9 n9) [boxI Z5 rowD19,boxI Z4 rowS19,boxI Z3 rowO19]) v->Calls prog 17 #[.pointer (some ⟨o,0,none⟩)] v fun p w'=>p=.returned (.agg #[.int .i64 0,.bool (r19 i),.int .u64 0])/\Below v.heap.size v w'):=zH fun v hv=>answer_s (hv.get 0 rfl);have HCE:Hid (∀ v,Env w ([boxI o (opS c (d19 i).ok (d19 i).key (d19 i).val (d19 i).lv nx 1 fp n0 l0 t0 y0 an 0 (r19 i))]++LT (SPK C9 { tm0 c q with F:=F9,kq:=k9 } (vm p cc 0) (Rn i (s19 i)).2.1 (Rn i (s19 i)).2.2 G9 qc9 n9) [boxI Z5 rowD19,boxI Z4 rowS19,boxI Z3 rowO19]) v->v.cell? ⟨Z4,i,none⟩=some (.int .i64 M9)/\v.cell? ⟨Z5,i,none⟩=some (.bool (r19 i))):=zH fun v hv=>by
        have h9:=HRO.out _ _ _ hv;have hi4:=HLT.out;rw [h9.1,h9.2.1,<- HM9.out]
        rcases (show i=0\/i=1\/i=2\/i=3\/i=4 by omega) with rfl | rfl | rfl | rfl | rfl<;>exact ⟨rfl,rfl⟩
       have hi4:(i:Int) < 5:=by have:=HLT.out; omega
       have hgt:decide (((s19 i:Nat):Int) > M9)=false:=by rw [<- HM9.out]; simp; rcases (show i=0\/i=1\/i=2\/i=3\/i=4 by omega) with rfl | rfl | rfl | rfl | rfl<;>decide
       have hgt2:decide (M9 < ((s19 i:Nat):Int))=false:=hgt
       by_cases hi3:i=3
       ·have hne:((i:Int) != 3)=false:=by subst hi3; rfl
        clear hi3;refine wp_text (S:=(Env w ([boxI o (opS c (d19 i).ok (d19 i).key (d19 i).val (d19 i).lv nx 1 fp n0 l0 t0 y0 an 0 (r19 i))]++LT (SPK C9 { tm0 c q with F:=F9,kq:=k9 } (vm p cc 0) (Rn i (s19 i)).2.1 (Rn i (s19 i)).2.2 G9 qc9 n9) [boxI Z5 rowD19,boxI Z4 rowS19,boxI Z3 rowO19]))) (by kernel_rfl) (by kernel_rfl) hE.drew (fun hT=>?_);have hT9:=zH hT;clear hT
        repeat ((first
         | (refine text_value (v:=?_) hT9.o (by rfl) ?_ ?_; rotate_left; (intro w5 hS; obtain ⟨e1,e2⟩:=HCE.out _ hS; go_simp<;>rfl))
         | (refine text_off hT9.o (by rfl) ?_)
         | (refine text_call (v:=?_) (f:=?_) (args:=?_) hT9.o (by rfl) ?_ ?_ ?_; rotate_left 3; (intro w5 hS; obtain ⟨e1,e2⟩:=HCE.out _ hS; go_simp; constructor<;>rfl); (intro w5 hS; (first | (with_reducible refine kp (HAN.out _ hS) ?_ ?_; rfl; exact fun w6 hb5=>hS.over hb5)))));try simp only [Act.put,zA,zZ,zS])
        refine InText.nil fun w5 hS5=>?_;clear hT9;clear hE HAN HCE;go_wp2_with fail;have hi4:=HLT.out;exact ⟨⟨i+1,B9,n9,k9,F9,G9,qc9,by omega,by simp,by omega,by omega,zH fun d=>(by rw [hr.an]; exact HK.out.any rfl),zH (by rw [hr.an]; exact hF.out),(by rw [hr.an]; exact hS5.sub (.cons _ (List.Sublist.refl _)))⟩,by simp [intOf]; omega⟩
       ·have hne:((i:Int) != 3)=true:=by simp; omega
        have hss:(((s19 i:Nat):Int) != M9)=false:=by rw [<- HM9.out,if_neg hi3]; simp
        clear hi3;refine wp_text (S:=(Env w ([boxI o (opS c (d19 i).ok (d19 i).key (d19 i).val (d19 i).lv nx 1 fp n0 l0 t0 y0 an 0 (r19 i))]++LT (SPK C9 { tm0 c q with F:=F9,kq:=k9 } (vm p cc 0) (Rn i (s19 i)).2.1 (Rn i (s19 i)).2.2 G9 qc9 n9) [boxI Z5 rowD19,boxI Z4 rowS19,boxI Z3 rowO19]))) (by kernel_rfl) (by kernel_rfl) hE.drew (fun hT=>?_);have hT9:=zH hT;clear hT
        repeat ((first
         | (refine text_value (v:=?_) hT9.o (by rfl) ?_ ?_; rotate_left; (intro w5 hS; obtain ⟨e1,e2⟩:=HCE.out _ hS; go_simp<;>rfl))
         | (refine text_off hT9.o (by rfl) ?_)
         | (refine text_call (v:=?_) (f:=?_) (args:=?_) hT9.o (by rfl) ?_ ?_ ?_; rotate_left 3; (intro w5 hS; obtain ⟨e1,e2⟩:=HCE.out _ hS; go_simp; constructor<;>rfl); (intro w5 hS; (first | (with_reducible refine kp (HAN.out _ hS) ?_ ?_; rfl; exact fun w6 hb5=>hS.over hb5)))));try simp only [Act.put,zA,zZ,zS])
        refine InText.nil fun w5 hS5=>?_;clear hT9;clear hE HAN HCE;go_wp2_with fail;have hi4:=HLT.out;exact ⟨⟨i+1,B9,n9,k9,F9,G9,qc9,by omega,by simp,by omega,by omega,zH fun d=>(by rw [hr.an]; exact HK.out.any rfl),zH (by rw [hr.an]; exact hF.out),(by rw [hr.an]; exact hS5.sub (.cons _ (List.Sublist.refl _)))⟩,by simp [intOf]; omega⟩
  ·as_aux_lemma =>
    have hb1:decide ((i:Int) < 5)=false:=by simp; omega
    have hn:=HC.out;go_wp2_with fail;have hE9:=hE;refine (newNo_s (c:=c) (k:=3) (s:=4) (b:=0) (h:=2) (l:=9) (q:=q) 0 8 0 0 0 (.inr (.inl rfl)) rfl hE).mono ?_;rintro e w9 ⟨rfl,hE10⟩;go_wp2_with fail;go_ret;exact ⟨rfl,hE10.below⟩
theorem run_ok:RunOk at19 run19:=⟨by rw [at19],fun i=>by unfold run19; rw [at19],fun i=>by unfold run19; rw [runJ],fun i j=>by unfold run19; rw [runJ],busy19,done19,at19_nd⟩
theorem awake_s (w:World) (hg:Glo w):Calls prog 7 #[] w fun o w'=>o=.returned (.bool true)/\Below w.heap.size w w':=awake_run at19 run19 run_ok w hg
theorem count_any {c n:Nat} {F:Nat->Prop} {f:Plc->Int} {q:Cnt} {w:World} (hC:IsC w c F f q n) :
  Calls prog 37 #[.pointer (some ⟨c,0,none⟩)] w fun e w'=>e=.returned (.agg #[.int .i64 q.l,.int .i64 q.s,.int .i64 q.w,.int .i64 q.f,.int .i64 q.a])/\Below w.heap.size w w':=by
 obtain ⟨mp,hb,hm,hF⟩:=hC;have r1:=cell_more hb.1 hb.rule;unfold cv at r1;go_enter func37,ntmps37
 go_wp2
 refine bodyPost_ret (v:=.agg #[.int .i64 q.l,.int .i64 q.s,.int .i64 q.w,.int .i64 q.f,.int .i64 q.a]) (by simp [results,results37,go_sem]) rfl ⟨rfl,?_⟩;exact (Below.refl _ _).alloc (Nat.le_refl _) _
section
variable {w0 w:World} {L:List Item} {p c n:Nat} {F:Nat->Prop} {f:Plc->Int} {q:Cnt}
theorem count_w (i j:Nat) (hE:Env w0 L w) (hi:L[i]?=some (wbox p c)) (hj:L[j]?=some (cellI c F f q n)) :
  Calls prog 10 #[.pointer (some ⟨p,0,none⟩)] w fun e w'=>e=.returned (.agg #[.int .i64 q.l,.int .i64 q.s,.int .i64 q.w,.int .i64 q.f,.int .i64 q.a])/\Below w.heap.size w w':=by
 have hb:=(Below.refl w.heap.size w).alloc (Nat.le_refl _) (.cells #[.int .i64 0,.int .i64 0,.int .i64 0,.int .i64 0,.int .i64 0] 36);replace hE:=hE.box w.heap.size rfl [.int .i64 0,.int .i64 0,.int .i64 0,.int .i64 0,.int .i64 0] 36;go_enter func10,ntmps10;go_wp2_with fail;refine (kept_any (hE.wblk (i+1) hi)).mono ?_;rintro e w1 ⟨rfl,rfl⟩;go_wp2_with fail;refine (count_any (hE.cell (j+1) hj)).mono ?_;rintro e w2 ⟨rfl,hb2⟩;have hE2:=hE.over hb2;have f5:=hE2.thaw 0 rfl;have f0:=f5 0 (by simp);have f1:=f5 1 (by simp);have f2:=f5 2 (by simp);have f3:=f5 3 (by simp);have f4:=f5 4 (by simp);have r:=hE2.rule 0 rfl;have hB:=hb.trans (hb2.mono hb.size);clear f5
 go_wp2
 have hP:=hE2.put5 0 rfl (.int .i64 q.l) (.int .i64 q.s) (.int .i64 q.w) (.int .i64 q.f) (.int .i64 q.a);have q9:=hP.rule 0 rfl;refine bodyPost_ret (v:=.agg #[.int .i64 q.l,.int .i64 q.s,.int .i64 q.w,.int .i64 q.f,.int .i64 q.a]) (by simp [results,results10,go_sem,q9]) rfl ⟨rfl,?_⟩;exact ((((hB.setCell (Nat.le_refl _) _).setCell (Nat.le_refl _) _).setCell (Nat.le_refl _) _).setCell (Nat.le_refl _) _).setCell (Nat.le_refl _) _
end
end
section
open Go.ChangeShapes Go.WideShapes Go.ChangeAt Go.RowKit
section
variable {P:Program} {w:World}
theorem cell_lt {b o:Nat} {v:Value} (h:w.cell? ⟨b,o,none⟩=some v):b < w.heap.size:=by
 rcases Nat.lt_or_ge b w.heap.size with h' | h'
 ·exact h'
 ·simp [World.cell?,Array.getElem?_eq_none h'] at h
theorem laid_pair {n:String} {g:Nat} {t k:TypeId} {f0 f1:Field} {a b:Int} {r:List (String × DataW Unit)} {ps:List MemPlace}
  (h:DataW.LaidVars P w ((n,.agg [.lit (.int .i64 a),.lit (.int .i64 b)])::r) ps) (hg:P.globalNamed n=some g) (ht:(P.globals[g]?).map (·.type)=some t)
  (hs:P.underlying t=some (.struct #[f0,f1])) (hc:P.cellsOf t=2) (h0:f0.offset=0) (h1:f1.offset=1) (hk0:f0.type=k) (hk1:f1.type=k) (hk:P.cellsOf k=1) (hi:P.underlying k=some (.int .i64)) :
  w.cell? ⟨g,0,none⟩=some (.int .i64 a)/\w.cell? ⟨g,1,none⟩=some (.int .i64 b)/\∃ q,DataW.LaidVars P w r q:=by
 obtain ⟨g',t',cs,fuel,p,q,hg',ht',hv,hd,hr,-⟩:=h;obtain rfl:=Option.some.inj (hg.symm.trans hg');obtain rfl:=Option.some.inj (ht.symm.trans ht');obtain ⟨xs,m,-,hx,hl,hn,hel⟩:=DataW.trod_struct hs hd;have e0:=hel 0 f0 rfl;have e1:=hel 1 f1 rfl;rw [h0,hk0,hk] at e0;rw [h1,hk1,hk] at e1;obtain ⟨l⟩:=cs;rw [hc] at hl
 match l,hl,xs,hn,hx,e0,e1,hv with
 | [c0,c1],_,[x0,x1],_,hx,e0,e1,hv =>
  simp only [Prod.mk.injEq,List.map_cons,List.map_nil,DataW.agg.injEq,List.cons.injEq] at hx;obtain ⟨n0,s0,y0,-⟩:=DataW.trod_int hi (show DataW.trod _ P w 0 _ false m k [c0]=some x0 from e0);obtain ⟨n1,s1,y1,-⟩:=DataW.trod_int hi (show DataW.trod _ P w 0 _ false m k [c1]=some x1 from e1);simp at s0 s1;subst s0 s1;have k0:=hx.1.1;have k1:=hx.1.2.1;rw [y0] at k0;rw [y1] at k1;simp at k0 k1;subst k0 k1;exact ⟨by rw [World.var?_cell hg hv 0]; rfl,by rw [World.var?_cell hg hv 1]; rfl,q,hr⟩
end
def laid3:List (String × DataW Unit):=[("revenant/link.versionPart",Rows.laid_revenant_link_versionPart),("revenant/link.slotPart",Rows.laid_revenant_link_slotPart),("revenant/link.markPart",Rows.laid_revenant_link_markPart)]
theorem glo_of_laid {W:World} (h:laidMetH prog laid3 W):Glo W:=by
 rw [MakeChecks.laidMetH_plain _ _ _ (by kernel_rfl)] at h;obtain ⟨ps,h,-,-⟩:=h;obtain ⟨a0,a1,q1,h⟩:=laid_pair (g:=0) (t:=309) (k:=3) h (by kernel_rfl) (by kernel_rfl) Tryz.underlying309 (by kernel_rfl) rfl rfl rfl rfl (by kernel_rfl) Tryz.underlying3;obtain ⟨b0,b1,q2,h⟩:=laid_pair (g:=1) (t:=309) (k:=3) h (by kernel_rfl) (by kernel_rfl) Tryz.underlying309 (by kernel_rfl) rfl rfl rfl rfl (by kernel_rfl) Tryz.underlying3;obtain ⟨c0,c1,q3,h⟩:=laid_pair (g:=2) (t:=309) (k:=3) h (by kernel_rfl) (by kernel_rfl) Tryz.underlying309 (by kernel_rfl) rfl rfl rfl rfl (by kernel_rfl) Tryz.underlying3;exact ⟨⟨a0,a1⟩,⟨b0,b1⟩,⟨c0,c1⟩,cell_lt a0,cell_lt b0,cell_lt c0⟩
theorem door_met (os:Os) (args:Array Value):laidMetH prog laid3 ((World.doorLaid prog 24 os).forCall (fun _ _=>0) ⟨#[],args,[]⟩).memory :=
 laidMetH_of_parts3 (fuel:=8) (laidMet_of_run' 8 (by kernel_rfl) (by kernel_rfl)) (by kernel_rfl) (by kernel_rfl)
end
end Go.Proofs.YtffncfmciockmaaGreatDoor
