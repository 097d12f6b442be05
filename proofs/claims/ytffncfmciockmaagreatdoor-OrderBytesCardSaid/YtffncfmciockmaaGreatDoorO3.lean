/- What is proved on the way to the statement, part 3: contracts of the functions, among other things in memory. -/
import Derived.Test.YtffncfmciockmaaGreatDoorO2
import Derived.WalkKit
import Derived.Orders
import Derived.Test.YtffncfmciockmaaGreatDoorChecked
import Derived.Laws.EntriesVeiled

open _root_.Go.Proofs.Tryz
set_option maxRecDepth 100000
set_option maxHeartbeats 25600000
namespace Go.Proofs.YtffncfmciockmaaGreatDoor
section
open Go
section
variable {P:Program} {ops:Array Oper} {Q:Exit->Act->World->Prop} {md:Region.Mode} {S:World->Prop}
def LandsIn (P:Program) (S:World->Prop) (v:Value):Result Next->Prop
 | .ok (.value u) w'=>u=v/\S w'
 | .ok .skip w'=>v=undef/\S w'
 | .ok (.enter f args) w'=>Calls P f args w' fun e w''=>e=.returned v/\S w''
 | _=>False
def Settles (P:Program) (ops:Array Oper) (S:World->Prop) (o:Oper) (v:Value) (a:Act):Prop :=
 (Region.wanted o (yielded ops a.tmps)=true/\∀ w,S w->LandsIn P S v ((execOp a.eval o).run P w))\/(Region.wanted o (yielded ops a.tmps)=false/\v=undef)
theorem Settles.of_same {o:Oper} {v:Value} {a a':Act} (h:Settles P ops S o v a) (he:execOp a'.eval o=execOp a.eval o)
  (hw:Region.wanted o (yielded ops a'.tmps)=Region.wanted o (yielded ops a.tmps)):Settles P ops S o v a':=by
 unfold Settles at *;rw [he,hw];exact h
theorem Settles.wpOp {i:Nat} {o:Oper} {v:Value} {a:Act} (hi:ops[i]?=some o) (h:Settles P ops S o v a) {K:Act->World->Prop} {w:World} (hS:S w)
  (hK:∀ w',S w'->K (a.put o.dst v) w'):wpOp P ops Q i K a w:=by
 unfold Go.wpOp;simp only [hi]
 rcases h with ⟨hw,hv⟩ | ⟨hw,rfl⟩
 ·simp only [hw,if_true];have:=hv w hS;refine .inl ?_;unfold Oper.wp;generalize (execOp a.eval o).run P w=r at *;cases r with
  | ok n w' =>
   cases n<;>simp only [LandsIn] at this<;>simp only [Oper.upon]
   case value u=>obtain ⟨rfl,h2⟩:=this; exact hK _ h2
   case skip=>obtain ⟨rfl,h2⟩:=this; exact hK _ h2
   case enter f args =>
    refine Calls.mono this fun e w'' he=>?_;obtain ⟨rfl,h2⟩:=he;exact hK _ h2
  | halt x w'=>simp only [LandsIn] at this
 ·simp only [hw,Bool.false_eq_true,if_false];exact hK _ hS
def Every (P:Program) (md:Region.Mode) (ops:Array Oper) (Q:Exit->Act->World->Prop) (S:World->Prop):Nat->Array Bool->Act->Prop
 | 0,listed,a=>Region.ready md ops listed=[]/\∀ w,S w->Q .normal a w
 | fuel+1,listed,a=>(Region.ready md ops listed=[]->∀ w,S w->Q .normal a w) /\
  ∀ i∈Region.ready md ops listed,∃ o v,ops[i]?=some o/\Settles P ops S o v a/\Every P md ops Q S fuel (listed.setIfInBounds i true) (a.put o.dst v)
theorem Every.sound:∀ (fuel:Nat) (listed:Array Bool) (a:Act),Every P md ops Q S fuel listed a->∀ w,S w->wpAny P md ops Q fuel listed a w
 | 0,_,_,h,w,hS=>⟨h.1,h.2 w hS⟩
 | fuel+1,listed,a,h,w,hS=>⟨fun h0=>h.1 h0 w hS,fun i hi=>by
   obtain ⟨o,v,ho,hs,hE⟩:=h.2 i hi;exact hs.wpOp ho hS fun w' hS'=>Every.sound fuel _ _ hE w' hS'⟩
theorem Every.first {i:Nat} {oi:Oper} {v:Value} (hi:ops[i]?=some oi) (hsel:∀ (j:Nat) (o:Oper) cs b,ops[j]?=some o->o.op≠.select cs b) :
  ∀ (fuel:Nat) (listed:Array Bool) (a:Act),
   (∀ j oj,ops[j]?=some oj->j≠i->listed.getD j true=false->(∀ e∈oj.after,Region.binds md e=true->e.on≠i)->oi.apart ops oj=true) ->
   i∈Region.ready md ops listed->Settles P ops S oi v a ->
   Every P md ops Q S fuel (listed.setIfInBounds i true) (a.put oi.dst v)->Every P md ops Q S (fuel+1) listed a:=by
 intro fuel
 induction fuel with
 | zero =>
  intro listed a _ hr hy H;refine ⟨fun h=>(by rw [h] at hr; cases hr),fun j hj=>?_⟩
  by_cases hji:j=i
  ·subst hji; exact ⟨oi,v,hi,hy,H⟩
  ·have:=ready_mono hj hji;rw [H.1] at this;cases this
 | succ fuel ih =>
  intro listed a hfree hr hy H;refine ⟨fun h=>(by rw [h] at hr; cases hr),fun j hj=>?_⟩
  by_cases hji:j=i
  ·subst hji; exact ⟨oi,v,hi,hy,H⟩
  ·obtain ⟨oj,u,hoj,hsj,hE⟩:=H.2 j (ready_mono hj hji);obtain ⟨hjun,oj',hoj',hall⟩:=mem_ready.1 hj;obtain rfl:oj=oj':=Option.some.inj (hoj.symm.trans hoj');have hnot:∀ e∈oj.after,Region.binds md e=true->e.on≠i:=fun e he hb heq=>by
    have h1:=hall e he hb;have h0:=(mem_ready.1 hr).1;rw [heq] at h1
    rcases Nat.lt_or_ge i listed.size with h' | h'
    ·simp [h'] at h0 h1; rw [h0] at h1; cases h1
    ·simp [Array.getElem?_eq_none h'] at h1
   have hap:=hfree j oj hoj hji hjun hnot;obtain ⟨p1,p2,p3⟩:=Oper.apart_spec hap;have hfree':∀ k ok,ops[k]?=some ok->k≠i->(listed.setIfInBounds j true).getD k true=false ->
     (∀ e∈ok.after,Region.binds md e=true->e.on≠i)->oi.apart ops ok=true:=fun k ok hk hki hun hno=>by
    refine hfree k ok hk hki ?_ hno
    by_cases hjk:j=k
    ·subst hjk; exact hjun
    ·rw [getD_set_ne true hjk] at hun; exact hun
   refine ⟨oj,u,hoj,hsj.of_same (execOp_put oj (fun cs b=>hsel j oj cs b hoj) a oi.dst v p1).symm (wanted_put oj a oi.dst v p1).symm,?_⟩;refine ih (listed.setIfInBounds j true) (a.put oj.dst u) hfree' (ready_mono hr (Ne.symm hji)) (hy.of_same (execOp_put oi (fun cs b=>hsel i oi cs b hi) a oj.dst u p3) (wanted_put oi a oj.dst u p3)) ?_;rw [Array.setIfInBounds_comm _ _ hji,<- Act.put_comm a v u p2];exact hE
def firstK (n k:Nat):Array Bool:=Array.ofFn (n:=n) fun i=>decide (i.1 < k)
def textFits (md:Region.Mode) (ops:Array Oper):Bool :=
 Region.noSelect ops && (List.range ops.size).all fun k=>Region.free md ops (firstK ops.size k) k && (Region.ready md ops (firstK ops.size k)).contains k
def InText (P:Program) (md:Region.Mode) (ops:Array Oper) (Q:Exit->Act->World->Prop) (S:World->Prop) (rest:List Oper) (a:Act):Prop :=
 ∀ k,k+rest.length=ops.size->ops.toList.drop k=rest->Every P md ops Q S rest.length (firstK ops.size k) a
theorem firstK_succ (n k:Nat):(firstK n k).setIfInBounds k true=firstK n (k+1):=by
 apply Array.ext
 ·simp [firstK]
 ·intro i h1 h2
  by_cases hik:i=k
  ·subst hik;simp [firstK]
  ·have e:=Array.getElem_setIfInBounds_ne (xs:=firstK n k) (i:=k) (j:=i) (a:=true) (by simpa using h1) (by omega);rw [e];simp only [firstK,Array.getElem_ofFn]
   congr 1
   apply propext;omega
theorem InText.nil {a:Act} (h:∀ w,S w->Q .normal a w):InText P md ops Q S [] a:=fun k hk _=>by
 refine ⟨?_,h⟩;have hk':k=ops.size:=by simpa using hk
 subst hk';unfold Region.ready;rw [List.filter_eq_nil_iff];intro i hi;have:i < ops.size:=by simpa using hi
 simp [firstK,this]
theorem InText.cons {o:Oper} {rest:List Oper} {a:Act} {v:Value} (hf:textFits md ops=true) (hs:Settles P ops S o v a) (h:InText P md ops Q S rest (a.put o.dst v)):InText P md ops Q S (o::rest) a:=fun k hk hd=>by
 unfold textFits at hf;rw [Bool.and_eq_true,List.all_eq_true] at hf;have hlt:k < ops.size:=by simp at hk; omega
 have hf2:=hf.2 k (by simpa using hlt);rw [Bool.and_eq_true] at hf2;have ho:ops[k]?=some o:=by
  have h0:(ops.toList.drop k)[0]?=some o:=by rw [hd]; rfl
  simpa using h0
 have hsel:∀ (j:Nat) (o:Oper) cs b,ops[j]?=some o->o.op≠.select cs b:=Region.noSelect_spec hf.1;refine Every.first ho hsel rest.length (firstK ops.size k) a (Region.free_spec ho hf2.1) (by simpa using hf2.2) hs ?_;rw [firstK_succ];refine h (k+1) (by simp at hk; omega) ?_;rw [<- List.drop_drop,hd];rfl
theorem wp_text {id:Nat} {a:Act} {w:World} (hm:P.follows .mixedOrders=true) (hf:textFits .any ops=true) (hS:S w.drew) (h:textFits .any ops=true->InText P .any ops Q S ops.toList a):(Code.region id ops true).wp P Q a w :=
 wp_region_any hm (by
  have h0:=h hf 0 (by simp) rfl;have e:firstK ops.size 0=Array.replicate ops.size false:=by
   apply Array.ext
   ·simp [firstK]
   ·intro i h1 h2; simp [firstK]
  rw [e] at h0
  simpa using Every.sound _ _ _ h0 _ hS)
theorem text_value {o:Oper} {rest:List Oper} {a:Act} {v:Value} (hf:textFits md ops=true) (hw:Region.wanted o (yielded ops a.tmps)=true) (hv:∀ w,S w->(execOp a.eval o).run P w=.ok (.value v) w)
  (h:InText P md ops Q S rest (a.put o.dst v)):InText P md ops Q S (o::rest) a :=
 InText.cons hf (Or.inl ⟨hw,fun w hS=>by rw [hv w hS]; exact ⟨rfl,hS⟩⟩) h
theorem text_off {o:Oper} {rest:List Oper} {a:Act} (hf:textFits md ops=true) (hw:Region.wanted o (yielded ops a.tmps)=false) (h:InText P md ops Q S rest (a.put o.dst undef)):InText P md ops Q S (o::rest) a :=
 InText.cons hf (Or.inr ⟨hw,rfl⟩) h
theorem text_call {o:Oper} {rest:List Oper} {a:Act} {v:Value} {f:FuncId} {args:Array Value} (hf:textFits md ops=true) (hw:Region.wanted o (yielded ops a.tmps)=true) (hr:∀ w,S w->(execOp a.eval o).run P w=.ok (.enter f args) w)
  (hc:∀ w,S w->Calls P f args w fun e w'=>e=.returned v/\S w') (h:InText P md ops Q S rest (a.put o.dst v)):InText P md ops Q S (o::rest) a :=
 InText.cons hf (Or.inl ⟨hw,fun w hS=>by rw [hr w hS]; exact hc w hS⟩) h
end
end
section
open Go.RowKit Go.Maps
section
variable {w0 w:World} {L:List Item} {c q kq:Nat} {F:Nat->Prop} {ql:List Trip} {k s b h l e r hs hi:Int}
theorem holdYes_c (a d:Int) (hh:hs=0) (ha:1<=a/\a<=s) (m:Nat) (hE:Env w0 L w) (hm:L[m]?=some (coreI c k s b h l e r hs hi q)) :
  Calls prog 270 #[.pointer (some ⟨c,0,none⟩),.agg #[.int .i64 a,.int .i64 d]] w fun o w'=>o=.returned (.int .i64 0)/\Env w0 (L.set m (coreI c k s b h l e r a d q)) w':=by
 have hE1:=hE.box w.heap.size rfl [.int .i64 a,.int .i64 d] 110;have hm1:(boxI w.heap.size [.int .i64 a,.int .i64 d]::L)[m+1]?=some (coreI c k s b h l e r hs hi q):=hm;have hn:(hs != 0)=false:=by simpa using hh
 clear hh;have hd:decide (a < 1)=false:=by simp; omega
 have hd2:decide (s < a)=false:=by simp; omega
 clear hE;go_enter func270,ntmps270;go_wp2_with fail;refine (held_c (hE1.get (m+1) hm1)).mono ?_;rintro o w1 ⟨rfl,hb⟩;rw [hn];replace hE1:=hE1.over hb;clear hb;replace hE1:=hE1.box w1.heap.size rfl [.int .i64 hs,.int .i64 hi] 110;generalize w.heap.size=X at *;go_wp2_with fail;generalize w1.heap.size=Y at *;generalize w1.alloc _=w2 at *;have hm2:(boxI Y [.int .i64 hs,.int .i64 hi]::boxI X [.int .i64 a,.int .i64 d]::L)[m+2]?=some (coreI c k s b h l e r hs hi q):=hm;have HCB:Hid (∀ v,Env w0 (boxI Y [.int .i64 hs,.int .i64 hi]::boxI X [.int .i64 a,.int .i64 d]::L) v->Blk 0 v c [.int .i64 k,.int .i64 s,.int .i64 b,.int .i64 h,.int .i64 l,.int .i64 e,.int .i64 r,.int .i64 hs,.int .i64 hi,.pointer (some ⟨q,0,none⟩)]):=zH fun v hv=>hv.get (m+2) hm2;refine wp_text (S:=(Env w0 (boxI Y [.int .i64 hs,.int .i64 hi]::boxI X [.int .i64 a,.int .i64 d]::L))) (by kernel_rfl) (by kernel_rfl) hE1.drew (fun hT=>?_);have hT9:=zH hT;clear hT
 repeat ((first
  | (refine text_value (v:=?_) hT9.o (by rfl) ?_ ?_; rotate_left; (intro w5 hS; have r1:=Blk.rule (HCB.out _ hS); have r2:=hS.rule 1 rfl; go_simp<;>rfl))
  | (refine text_off hT9.o (by rfl) ?_)
  | (refine text_call (v:=?_) (f:=?_) (args:=?_) hT9.o (by rfl) ?_ ?_ ?_; rotate_left 3; (intro w5 hS; have r1:=Blk.rule (HCB.out _ hS); have r2:=hS.rule 1 rfl; go_simp; constructor<;>rfl); (intro w5 hS; (first | fail))));try simp only [Act.put,zA,zZ,zS])
 refine InText.nil fun w5 hS5=>?_;clear hT9;clear hE1;have r1:=Blk.rule (HCB.out _ hS5);have r2:=hS5.rule 1 rfl;have ff:=hS5.thaw (m+2) hm2;have f7:=ff 7 (by simp [crv]);have f8:=ff 8 (by simp [crv]);clear ff;go_wp2_with fail;go_ret;have hE9:=hS5.put (m+2) hm2 (j:=7) (by simp [crv]) (.int .i64 a);have hml:m < L.length:=(List.getElem?_eq_some_iff.1 hm).1;have hE10:=hE9.put (m+2) (by rw [List.getElem?_set_self (by simpa using hml)]) (j:=8) (by simp [crv]) (.int .i64 d);rw [List.set_set] at hE10;exact ⟨rfl,hE10.sub (.cons _ (.cons _ (List.Sublist.refl _)))⟩
end
end
section
open Go.RowKit
theorem placeOf_any (y z:Int) (w:World):Calls prog 215 #[.int .i64 y,.int .i64 z] w fun e w'=>e=.returned (.agg #[.int .i64 5,.int .i64 y,.int .i64 z])/\Below w.heap.size w w':=by
 go_enter func215,ntmps215
 go_wp2
 exact bodyPost_ret (v:=.agg #[.int .i64 5,.int .i64 y,.int .i64 z]) (by simp [results,results215,go_sem]) rfl ⟨rfl,(Below.refl _ _).alloc (Nat.le_refl _) _⟩
theorem pool_any (w:World):Calls prog 197 #[] w fun e w'=>e=.returned (.agg #[.int .i64 2,.int .i64 0,.int .i64 0])/\Below w.heap.size w w':=by
 go_enter func197,ntmps197
 go_wp2
 exact bodyPost_ret (v:=.agg #[.int .i64 2,.int .i64 0,.int .i64 0]) (by simp [results,results197,go_sem]) rfl ⟨rfl,(Below.refl _ _).alloc (Nat.le_refl _) _⟩
theorem fresh_any (w:World):Calls prog 267 #[] w fun e w'=>e=.returned (.agg #[.int .i64 3,.int .i64 0,.int .i64 0])/\Below w.heap.size w w':=by
 go_enter func267,ntmps267
 go_wp2
 exact bodyPost_ret (v:=.agg #[.int .i64 3,.int .i64 0,.int .i64 0]) (by simp [results,results267,go_sem]) rfl ⟨rfl,(Below.refl _ _).alloc (Nat.le_refl _) _⟩
theorem to_any (s v:Int) (w:World) (hg:Glo w) :
  Calls prog 231 #[.int .i64 s,.int .i64 v] w fun e w'=>e=.returned (.int .u64 (wordI false s v))/\Below w.heap.size w w':=by
 go_enter func231,ntmps231;go_wp2_with fail;refine (word_any false s v _ hg).mono ?_;rintro e w1 ⟨rfl,hb⟩;go_wp2_with fail;go_ret;exact ⟨rfl,hb⟩
theorem version_any (x:Int) (w:World) (hg:Glo w) (h0:0<=x) (h1:x<=18446744073709551615) :
  Calls prog 228 #[.int .u64 x] w fun e w'=>e=.returned (.int .i64 (verI x))/\Below w.heap.size w w':=by
 obtain ⟨⟨c0,c1⟩,-,-,hs,-,-⟩:=hg;obtain ⟨k0,k1⟩:=verI_in x;have HG:=zH (get_version x h0);go_enter func228,ntmps228;go_wp2_with fail;refine (get_any 0 40 x _ (by decide) (by decide) h0 h1).mono ?_;rintro e w1 ⟨rfl,hb⟩;rw [HG.out]
 go_wp2
 go_ret;exact ⟨rfl,hb⟩
theorem ret_int2 {k l:IntKind} {x y u v:Int} (h:x=y) (g:u=v):Ending.returned (.tuple #[.int k x,.int l u])=.returned (.tuple #[.int k y,.int l v]):=by rw [h,g]
theorem next_any (x s:Int) (w:World) (hg:Glo w) (h0:0<=x) (h1:x<=18446744073709551615) :
  Calls prog 287 #[.int .u64 x,.int .i64 s] w fun e w'=>e=.returned (.tuple #[.int .u64 (nextW x s),.int .i64 (nextE x s)])/\Below w.heap.size w w':=by
 cases hS:isS s
 ·have HW:=zH (show nextW x s=0 by simp [nextW,hS]);have HE:=zH (show nextE x s=3 by simp [nextE,hS]);have H:=zH hS;clear hS;go_enter func287,ntmps287;go_wp2_with fail;refine (isSlot_any s _).mono ?_;rintro e w1 ⟨rfl,rfl⟩;rw [H.out];go_wp2_with fail
  go_ret2
  exact ⟨ret_int2 HW.out.symm HE.out.symm,Below.refl _ _⟩
 ·obtain ⟨k0,k1⟩:=verI_in x
  by_cases hv:verI x=1099511627775
  ·have HW:=zH (show nextW x s=0 by simp [nextW,hS,hv]);have HE:=zH (show nextE x s=7 by simp [nextE,hS,hv]);have H:=zH hS;have HV:=zH hv;clear hS hv;go_enter func287,ntmps287;go_wp2_with fail;refine (isSlot_any s _).mono ?_;rintro e w1 ⟨rfl,rfl⟩;rw [H.out];go_wp2_with fail;refine (version_any x _ hg h0 h1).mono ?_;rintro e w1 ⟨rfl,hb⟩;rw [HV.out];go_wp2_with fail
   go_ret2
   exact ⟨ret_int2 HW.out.symm HE.out.symm,hb⟩
  ·have HW:=zH (show nextW x s=wordI false s (verI x+1) by simp [nextW,hS,hv]);have HE:=zH (show nextE x s=0 by simp [nextE,hS,hv]);have H:=zH hS;have hv2:verI x < 1099511627775:=by omega
   clear hS hv;generalize hy:verI x=y at *;have HY:=zH hy;clear hy;go_enter func287,ntmps287;go_wp2_with fail;refine (isSlot_any s _).mono ?_;rintro e w1 ⟨rfl,rfl⟩;rw [H.out];go_wp2_with fail;refine (version_any x _ hg h0 h1).mono ?_;rintro e w1 ⟨rfl,hb⟩;rw [HY.out];have hg1:=hg.keep' hb;go_wp2_with fail;refine (version_any x _ hg1 h0 h1).mono ?_;rintro e w2 ⟨rfl,hb2⟩;rw [HY.out];have hg2:=hg1.keep' hb2;go_wp2_with fail;refine (to_any s _ _ hg2).mono ?_;rintro e w3 ⟨rfl,hb3⟩;go_wp2_with fail
   go_ret2
   exact ⟨ret_int2 HW.out.symm HE.out.symm,(hb.trans (hb2.mono (by have:=hb.size; omega))).trans (hb3.mono (by have:=hb.size; have:=hb2.size; omega))⟩
end
section
open Go.RowKit Go.Maps
structure ST where
 (c q p cc:Nat)
 (ck cs cb ch cl ce cr hs:Int)
 (F:Nat->Prop)
 (ql:List Trip)
 (kq:Nat)
 (G:Nat->Prop)
 (f:Plc->Int)
 (qc:Cnt)
 (m:Nat)
def LT (S:ST) (R:List Item):List Item:=coreI S.c S.ck S.cs S.cb S.ch S.cl S.ce S.cr S.hs 0 S.q::queueI S.q S.F S.ql S.kq::wbox S.p S.cc::cellI S.cc S.G S.f S.qc S.m::R
theorem slot_of (v:World) (a b:Int):(Instr.field 110 (.agg #[.int .i64 a,.int .i64 b]) 0).run prog v=.ok (.int .i64 a) v:=by kernel_rfl
theorem makeF (fn:Fn) (first cap:Array Value) (w:World):(Instr.makeFunc fn first cap).run prog w=.ok (.func fn first cap) w:=rfl
def mvL (f a:Nat):Value:=.func (.func f) #[.pointer (some ⟨a,0,none⟩)] #[]
section
variable {w0 w:World} {L:List Item} {a o:Nat} {vs:List Value}
theorem goOn_r (m:Nat) (fn:Fn) (fs cs:Array Value) (hv:o < vs.length) (hE:Env w0 L w) (hm:L[m]?=some (boxI a vs)) :
  Calls prog 107 #[.pointer (some ⟨a,o,none⟩),.func fn fs cs] w fun r w'=>r=.returned (.int .i64 0)/\Env w0 (L.set m (boxI a (vs.set o (.func fn fs cs)))) w':=by
 have f1:=hE.thaw m hm o hv;have r1:∃ u,w.cell? ⟨a,o,none⟩=some u:=⟨_,(hE.rule m hm o).trans (List.getElem?_eq_getElem hv)⟩;obtain ⟨u1,r1⟩:=r1;have hP:=hE.put m hm (j:=o) hv (.func fn fs cs);clear hv hm hE;go_enter func107,ntmps107;go_wp2_with fail;go_ret;exact ⟨rfl,hP⟩
theorem end_r (m:Nat) (s:Int) (hv:o+1 < vs.length) (hE:Env w0 L w) (hm:L[m]?=some (boxI a vs)) :
  Calls prog 140 #[.pointer (some ⟨a,o,none⟩),.int .i64 s] w fun r w'=>r=.returned (.int .i64 s)/\Env w0 (L.set m (boxI a (vs.set (o+1) (.int .i64 s)))) w':=by
 have f1:=hE.thaw m hm (o+1) hv;have r1:∃ u,w.cell? ⟨a,o+1,none⟩=some u:=⟨_,(hE.rule m hm (o+1)).trans (List.getElem?_eq_getElem hv)⟩;obtain ⟨u1,r1⟩:=r1;have hP:=hE.put m hm (j:=o+1) hv (.int .i64 s);clear hv hm hE;go_enter func140,ntmps140;go_wp2_with fail;go_ret;exact ⟨rfl,hP⟩
theorem caught_r (w:World):CallsD prog 101 #[] .returning w fun e u' w'=>u'=.returning/\e=.returned (.tuple #[])/\w'=w:=by
 refine callsD_of_wpS func101 rfl fun c₀ cs hu=>?_;apply wpS_region;cases c₀;simp_all [wpOpsS,go_sem,recoverD,ntmps101,Exit.thenS,bodyPostS,results,results101]
theorem stepMv_r (X:Nat) (hx:∀ (ar:Array Value) (v:World),(callFunc X ar).run prog v=.ok (.enter X ar) v) (r u:Value) (Q:Ending->World->Prop) (hn:w.cell? ⟨a,o,none⟩=some (.func (.func X) #[r] #[])) (hs:w.cell? ⟨a,o+1,none⟩=some (.int .i64 0)) (hc:Calls prog X #[r,u] w fun e w'=>∃ s,e=.returned (.int .i64 s)/\Q (.returned (.int .i64 s)) w') :
  Calls prog 55 #[.pointer (some ⟨a,o,none⟩),u] w Q:=by
 have hmf:=makeF
 go_enter_defers func55,ntmps55
 go_wp2_with fail;refine hc.mono ?_;rintro e w1 ⟨s,rfl,hQ⟩;go_wp2_with fail;refine leaves_cons (f:=101) (args:=#[]) (by simp) (by simp [go_sem]) ?_;refine (caught_r _).mono ?_;rintro e u' w'' ⟨rfl,rfl,rfl⟩;exact ⟨.int .i64 s,by simp [results,results55,go_sem],hQ⟩
theorem stepCv_r (X b1 b2:Nat) (hx:∀ (ar:Array Value) (v:World),(callFunc X ar).run prog v=.ok (.enter X ar) v) (u:Value) (Q:Ending->World->Prop) (hn:w.cell? ⟨a,o,none⟩=some (.func (.func X) #[] #[.pointer (some ⟨b1,0,none⟩),.pointer (some ⟨b2,0,none⟩)])) (hs:w.cell? ⟨a,o+1,none⟩=some (.int .i64 0)) (hc:Calls prog X #[u,.pointer (some ⟨b1,0,none⟩),.pointer (some ⟨b2,0,none⟩)] w fun e w'=>∃ s,e=.returned (.int .i64 s)/\Q (.returned (.int .i64 s)) w') :
  Calls prog 55 #[.pointer (some ⟨a,o,none⟩),u] w Q:=by
 have hmf:=makeF
 go_enter_defers func55,ntmps55
 go_wp2_with fail;refine hc.mono ?_;rintro e w1 ⟨s,rfl,hQ⟩;go_wp2_with fail;refine leaves_cons (f:=101) (args:=#[]) (by simp) (by simp [go_sem]) ?_;refine (caught_r _).mono ?_;rintro e u' w'' ⟨rfl,rfl,rfl⟩;exact ⟨.int .i64 s,by simp [results,results55,go_sem],hQ⟩
theorem goOn_m (m:Nat) (fn:Fn) (fs cs:Array Value) (hv:1 < vs.length) (hz:vs[2]?=some (.int .i64 0)) (hE:Env w0 L w) (hm:L[m]?=some (boxI a vs)) :
  Calls prog 107 #[.pointer (some ⟨a,1,none⟩),.func fn fs cs] w fun o w'=>o=.returned (.int .i64 0)/\Env w0 (L.set m (boxI a ((vs.set 1 (.func fn fs cs)).set 2 (.int .i64 0)))) w':=by
 refine (goOn_r (o:=1) m fn fs cs hv hE hm).mono ?_;rintro o w1 ⟨rfl,h⟩;have h2:(vs.set 1 (.func fn fs cs)).set 2 (.int .i64 0)=vs.set 1 (.func fn fs cs):=by
  apply List.ext_getElem?;intro i
  by_cases hi:i=2
  ·subst hi;have hl:2 < vs.length:=(List.getElem?_eq_some_iff.1 hz).1;rw [List.getElem?_set_self (by rw [List.length_set]; exact hl),List.getElem?_set_ne (by decide),hz]
  ·rw [List.getElem?_set_ne (fun e=>hi e.symm)]
 rw [h2];exact ⟨rfl,h⟩
theorem end_m (m:Nat) (s:Int) (hv:2 < vs.length) (hE:Env w0 L w) (hm:L[m]?=some (boxI a vs)) :
  Calls prog 140 #[.pointer (some ⟨a,1,none⟩),.int .i64 s] w fun o w'=>o=.returned (.int .i64 s)/\∃ nx:Value × Value,Env w0 (L.set m (boxI a ((vs.set 1 nx.1).set 2 nx.2))) w':=by
 refine (end_r (o:=1) m s hv hE hm).mono ?_;rintro o w1 ⟨rfl,h⟩;refine ⟨rfl,(vs[1],.int .i64 s),?_⟩;show Env w0 (L.set m (boxI a ((vs.set 1 vs[1]).set 2 (.int .i64 s)))) w1;rw [List.set_getElem_self];exact h
end
theorem shared_any (x y z:Int) (w:World):Calls prog 196 #[.agg #[.int .i64 x,.int .i64 y,.int .i64 z]] w fun e w'=>e=.returned (.agg #[.int .i64 x,.int .i64 y,.int .i64 z,.int .i64 0])/\Below w.heap.size w w':=by
 have hE:=((Env.start w).box w.heap.size rfl [.int .i64 x,.int .i64 y,.int .i64 z] 90).box (w.heap.size+1) (by simp) [.int .i64 0,.int .i64 0,.int .i64 0,.int .i64 0] 150;have r:=hE.rule 1 rfl;have f:=hE.thaw 0 rfl;have f0:=f 0 (by simp);have f1:=f 1 (by simp);have f2:=f 2 (by simp);have f3:=f 3 (by simp);clear f;go_enter func196,ntmps196
 go_wp2
 have hP:=(((hE.put 0 rfl (j:=0) (by simp) (.int .i64 x)).put 0 rfl (j:=1) (by simp) (.int .i64 y)).put 0 rfl (j:=2) (by simp) (.int .i64 z)).put 0 rfl (j:=3) (by simp) (.int .i64 0);have q:=hP.rule 0 rfl;exact bodyPost_ret (v:=.agg #[.int .i64 x,.int .i64 y,.int .i64 z,.int .i64 0]) (by simp [results,results196,go_sem,q]) rfl ⟨rfl,((Below.refl _ _).alloc (Nat.le_refl _) _).alloc (by simp) _⟩
theorem part_any (s d n:Int) (w:World):Calls prog 229 #[.agg #[.int .i64 s,.int .i64 d],.int .i64 n] w fun e w'=>e=.returned (.agg #[.int .i64 5,.int .i64 s,.int .i64 n,.int .i64 d])/\Below w.heap.size w w':=by
 have hF:=((Fr.start w).push w.heap.size rfl [.int .i64 s,.int .i64 d] 110).push (w.heap.size+1) (by simp) [.int .i64 0,.int .i64 0,.int .i64 0,.int .i64 0] 150;have hX:=hF.blk 1 rfl (by omega);have hZ:=hF.blk 0 rfl (by omega);have hE:=hF.below;clear hF;go_enter func229,ntmps229;go_wp2_with fail;refine Ord.wc [7] (fun w'=>Below w.heap.size w w'/\Blk 0 w' w.heap.size [.int .i64 s,.int .i64 d]) (fun j w'=>Blk 0 w' (w.heap.size+1) (if j=0 then [.int .i64 0,.int .i64 0,.int .i64 0,.int .i64 0] else [.int .i64 5,.int .i64 s,.int .i64 n,.int .i64 d])) ⟨hE.drew,hX.drew⟩ hZ.drew fun hT9=>?_
 repeat ((first
  | (refine Ord.cv ?_ hT9.o ?_ ?_; rotate_left; (intro w5 hS; have r:=Blk.rule hS.2; go_simp<;>rfl))
  | (refine Ord.co hT9.o ?_)
  | (refine Ord.cc ?_ ?_ ?_ hT9.o ?_ ?_ ?_; rotate_left 3; (intro w5 hS; have r:=Blk.rule hS.2; go_simp; constructor<;>rfl); (intro w5 hS; (first | (with_reducible refine kp (placeOf_any _ _ _) ?_ ?_; rfl; exact fun w6 hb6=>⟨⟨hS.1.trans (hb6.mono hS.1.size),hS.2.under hb6⟩,fun _ h=>h.under hb6⟩)))));try simp only [Act.put,zA,zZ,zS])
 refine Ord.ch_turn (v:=undef) 0 hT9.o rfl (by decide) (Or.inl rfl) (by rfl) ?_ ?_
 ·rintro w5 hS hA2;simp only [if_true] at hA2;have r:=hA2.rule;have f0:=hA2.thaw 0 (by simp);have f1:=hA2.thaw 1 (by simp);have f2:=hA2.thaw 2 (by simp);have f3:=hA2.thaw 3 (by simp);have hz:=hS.1.size;go_simp;refine ⟨rfl,⟨?_,?_⟩,?_⟩
  ·exact below_set (below_set (below_set (below_set hS.1 hz (by omega) _) (by simp; omega) (by omega) _) (by simp; omega) (by omega) _) (by simp; omega) (by omega) _
  ·exact (((hS.2.off (by omega) _).off (by omega) _).off (by omega) _).off (by omega) _
  ·exact (((hA2.set (i:=0) (by simp) _).set (i:=1) (by simp) _).set (i:=2) (by simp) _).set (i:=3) (by simp) _
 try simp only [Act.put,zA,zZ,zS]
 repeat ((first
  | (refine Ord.cv ?_ hT9.o ?_ ?_; rotate_left; (intro w5 hS; skip; go_simp<;>rfl))
  | (refine Ord.co hT9.o ?_));try simp only [Act.put,zA,zZ,zS])
 refine Ord.InText.nil fun w5 hS=>?_;clear hT9;obtain ⟨hC9,hA9⟩:=Ord.chain_end hS;clear hS;have q:=hA9.rule;simp only [show ¬ [7].length=0 by decide,if_false] at q
 go_wp2
 exact bodyPost_ret (v:=.agg #[.int .i64 5,.int .i64 s,.int .i64 n,.int .i64 d]) (by simp [results,results229,go_sem,q]) rfl ⟨rfl,hC9.1⟩
theorem epochOf_any (x d:Int) (t:Bool) (hx:InU x) (w:World):Calls prog 313 #[.agg #[.int .u64 x,.int .i64 d,.bool t]] w fun e w'=>e=.returned (.int .i64 (epI x))/\Below w.heap.size w w':=by
 have hE:=(Env.start w).box w.heap.size rfl [.int .u64 x,.int .i64 d,.bool t] 127;have r:=hE.rule 0 rfl;go_enter func313,ntmps313;go_wp2_with fail;refine (fint_any x hx _).mono ?_;rintro e w1 ⟨rfl,rfl⟩;go_wp2_with fail;go_ret;exact ⟨rfl,hE.below⟩
theorem head_any {w:World} {q k:Nat} {F:Nat->Prop} {l:List Trip} (x y z:Int) (hQ:IsQ w q F ((x,y,z)::l) k) :
  Calls prog 236 #[.pointer (some ⟨q,0,none⟩)] w fun e w'=>e=.returned (.tuple #[tv (x,y,z),.bool true])/\Below w.heap.size w w':=by
 obtain ⟨hl1,hl2,hk2,hk⟩:=hQ.len;have hQ0:=zH hQ;obtain ⟨R,g,r,hq,hr,hring,_,_,hne,hF⟩:=hQ;obtain ⟨hx,-⟩:=hring.pop;have hrl:=hring.1;have h4:=pow_four hk2;have hlt:g % 2 ^ k < 2 ^ k:=Nat.mod_lt _ (by omega);have hcell:∀ w',Blk 0 w' R (flat3 r)->w'.cell? ⟨R,g % 2 ^ k * 3,none⟩=some (.int .i64 x)/\w'.cell? ⟨R,g % 2 ^ k * 3+1,none⟩=some (.int .i64 y)/\w'.cell? ⟨R,g % 2 ^ k * 3+2,none⟩=some (.int .i64 z):=fun w' h=>by
  have e:=fun c hc=>(h.rule (g % 2 ^ k * 3+c)).trans (flat3_get r (g % 2 ^ k) c (by omega) hc);rw [hx] at e;exact ⟨e 0 (by omega),e 1 (by omega),e 2 (by omega)⟩
 have HA:=zH fun w'=>at_any R k g w' hk;have hB:=Blk.new 0 w [.int .i64 0,.int .i64 0,.int .i64 0] 114;have hq1:=hq.more (.cells [.int .i64 0,.int .i64 0,.int .i64 0].toArray 114);have hr1:=hr.more (.cells [.int .i64 0,.int .i64 0,.int .i64 0].toArray 114);have hE:=(Below.refl w.heap.size w).alloc (Nat.le_refl _) (.cells [.int .i64 0,.int .i64 0,.int .i64 0].toArray 114);have hqR:q < w.heap.size/\R < w.heap.size:=⟨hq.1,hr.1⟩;have hz:((((x,y,z)::l).length:Int)==0)=false:=by simp; omega
 unfold qv at hq1;generalize hG:(cnt g)=G at *;generalize (cnt (g+((x,y,z)::l).length))=C at *;generalize ((x,y,z)::l).length=n at *;clear hq hr hring hF hx;generalize g % 2 ^ k=p at *;generalize 2 ^ k=N at *;have HC:=zH hcell;clear hcell;go_enter func236,ntmps236;go_wp2_with fail;refine (len_any (hQ0.out.below hE)).mono ?_;rintro e w1 ⟨rfl,hb⟩;have hB1:Blk 0 w1 w.heap.size [.int .i64 0,.int .i64 0,.int .i64 0]:=hB.kept hb.size (hb.block _ hB.1);have hq2:Blk 0 w1 q _:=hq1.kept hb.size (hb.block _ hq1.1);have hr2:Blk 0 w1 R _:=hr1.kept hb.size (hb.block _ hr1.1);have hE1:Below w.heap.size w w1:=hE.trans (hb.mono (by simp));have hs1:w.heap.size+1<=w1.heap.size:=by have:=hb.size; simpa using this
 clear hB hq1 hr1 hE hb hQ0;have hz':((n:Int)==0)=false:=by simpa using hz
 go_wp2_with fail;refine Ord.wc [11] (fun w'=>Blk 0 w' q [.slice (some ⟨R,0,none⟩) N N,.int .u64 G,.int .u64 C]/\Blk 0 w' R (flat3 r)) (fun j w'=>w.heap.size+1<=w'.heap.size/\Below w.heap.size w w'/\Blk 0 w' w.heap.size (if j=0 then [.int .i64 0,.int .i64 0,.int .i64 0] else [.int .i64 x,.int .i64 y,.int .i64 z])) ⟨hq2.drew,hr2.drew⟩ ⟨hs1,hE1.drew,hB1.drew⟩ fun hT9=>?_
 repeat ((first
  | (refine Ord.cv ?_ hT9.o ?_ ?_; rotate_left; (intro w5 hS; have r:=Blk.rule hS.1; obtain ⟨c0,c1,c2⟩:=HC.out _ hS.2; go_simp<;>rfl))
  | (refine Ord.co hT9.o ?_)
  | (refine Ord.cc ?_ ?_ ?_ hT9.o ?_ ?_ ?_; rotate_left 3; (intro w5 hS; have r:=Blk.rule hS.1; obtain ⟨c0,c1,c2⟩:=HC.out _ hS.2; go_simp; constructor<;>rfl); (intro w5 hS; (first | (with_reducible refine (HA.out w5).mono ?_; rintro e w6 ⟨rfl,rfl⟩; constructor; rfl; exact ⟨hS,fun _ h=>h⟩)))));try simp only [Act.put,zA,zZ,zS])
 refine Ord.ch_turn (v:=undef) 0 hT9.o rfl (by decide) (Or.inl rfl) (by rfl) ?_ ?_
 ·rintro w5 hS ⟨hA0,hA1,hA2⟩;simp only [if_true] at hA2;have r:=hA2.rule;have f0:=hA2.thaw 0 (by simp);have f1:=hA2.thaw 1 (by simp);have f2:=hA2.thaw 2 (by simp);go_simp;refine ⟨rfl,⟨((hS.1.off (by omega) _).off (by omega) _).off (by omega) _,((hS.2.off (by omega) _).off (by omega) _).off (by omega) _⟩,by simpa using hA0,?_,?_⟩
  ·exact below_set (below_set (below_set hA1 (by omega) (Nat.le_refl _) _) (by simp; omega) (Nat.le_refl _) _) (by simp; omega) (Nat.le_refl _) _
  ·exact Blk.put3 hA2 _ _ _
 try simp only [Act.put,zA,zZ,zS]
 repeat ((first
  | (refine Ord.cv ?_ hT9.o ?_ ?_; rotate_left; (intro w5 hS; skip; go_simp<;>rfl))
  | (refine Ord.co hT9.o ?_));try simp only [Act.put,zA,zZ,zS])
 refine Ord.InText.nil fun w5 hS=>?_;clear hT9;obtain ⟨hC9,hA9⟩:=Ord.chain_end hS;clear hS;obtain ⟨hA0,hA1,hA2⟩:=hA9;have q:=hA2.rule;simp only [show ¬ [11].length=0 by decide,if_false] at q
 go_wp2
 exact bodyPost_ret (v:=.tuple #[tv (x,y,z),.bool true]) (by simp [results,results236,go_sem,q,tv]) rfl ⟨rfl,hA1⟩
theorem headNone_any {w:World} {q k:Nat} {F:Nat->Prop} (hQ:IsQ w q F [] k) :
  Calls prog 236 #[.pointer (some ⟨q,0,none⟩)] w fun e w'=>e=.returned (.tuple #[tv t0,.bool false])/\Below w.heap.size w w':=by
 have hB:=Blk.new 0 w [.int .i64 0,.int .i64 0,.int .i64 0] 114;have hE:=(Below.refl w.heap.size w).alloc (Nat.le_refl _) (.cells [.int .i64 0,.int .i64 0,.int .i64 0].toArray 114);go_enter func236,ntmps236;go_wp2_with fail;refine (len_any (hQ.below hE)).mono ?_;rintro e w1 ⟨rfl,hb⟩;have hB1:Blk 0 w1 w.heap.size [.int .i64 0,.int .i64 0,.int .i64 0]:=hB.kept hb.size (hb.block _ hB.1);have hE1:Below w.heap.size w w1:=hE.trans (hb.mono (by simp));have hs1:w.heap.size<=w1.heap.size:=hE1.size;have r:=hB1.rule;have f0:=hB1.thaw 0 (by simp);have f1:=hB1.thaw 1 (by simp);have f2:=hB1.thaw 2 (by simp);clear hB hE hb hQ
 go_wp2
 have hP:=hB1.put3 (.int .i64 0) (.int .i64 0) (.int .i64 0);have q:=hP.rule;refine bodyPost_ret (v:=.tuple #[tv t0,.bool false]) (by simp [results,results236,go_sem,q,tv,t0]) rfl ⟨rfl,?_⟩;exact below_set (below_set (below_set hE1 (by omega) (Nat.le_refl _) _) (by simp; omega) (Nat.le_refl _) _) (by simp; omega) (Nat.le_refl _) _
theorem pop_any {w:World} {q k:Nat} {F:Nat->Prop} {l:List Trip} (x y z:Int) (hQ:IsQ w q F ((x,y,z)::l) k) :
  Calls prog 263 #[.pointer (some ⟨q,0,none⟩)] w fun e w'=>e=.returned (.tuple #[tv (x,y,z),.bool true])/\IsQ w' q F l k/\Step F F w w':=by
 obtain ⟨hl1,hl2,hk2,hk⟩:=hQ.len;have hQ0:=zH hQ;obtain ⟨R,g,r,hq,hr,hring,_,_,hne,hF⟩:=hQ;have hring':=hring.pop.2;have hB:=Blk.new 0 w [.int .i64 0,.int .i64 0,.int .i64 0] 114;have hq1:=hq.more (.cells [.int .i64 0,.int .i64 0,.int .i64 0].toArray 114);have hr1:=hr.more (.cells [.int .i64 0,.int .i64 0,.int .i64 0].toArray 114);have hE:=(Below.refl w.heap.size w).alloc (Nat.le_refl _) (.cells [.int .i64 0,.int .i64 0,.int .i64 0].toArray 114);have hqR:q < w.heap.size/\R < w.heap.size:=⟨hq.1,hr.1⟩;have hG1:=round_up g 1;have hset:(qv R (2 ^ k) g ((x,y,z)::l).length).set 1 (.int .u64 (cnt (g+1)))=qv R (2 ^ k) (g+1) l.length:=by
  simp only [qv,List.length_cons,zS,zZ];rw [show g+(l.length+1)=g+1+l.length by omega]
 clear hq hr hring;go_enter func263,ntmps263;go_wp2_with fail;refine (head_any x y z (hQ0.out.below hE)).mono ?_;rintro e w1 ⟨rfl,hb⟩;have hB1:Blk 0 w1 w.heap.size [.int .i64 0,.int .i64 0,.int .i64 0]:=hB.kept hb.size (hb.block _ hB.1);have hq2:Blk 0 w1 q _:=hq1.kept hb.size (hb.block _ hq1.1);have hr2:Blk 0 w1 R _:=hr1.kept hb.size (hb.block _ hr1.1);have hE1:Below w.heap.size w w1:=hE.trans (hb.mono (by simp));have hs1:w.heap.size+1<=w1.heap.size:=by have:=hb.size; simpa using this
 clear hB hq1 hr1 hE hb hQ0;have HQ2:=zH hq2;have hq3:=hq2.more (.cells [.int .i64 x,.int .i64 y,.int .i64 z].toArray 114);have hB3:=hB1.more (.cells [.int .i64 x,.int .i64 y,.int .i64 z].toArray 114);have rq:=hq3.rule;have fq:=hq3.thaw 1 (by simp [qv]);have rB:=hB3.rule;have f0:=hB3.thaw 0 (by simp);have f1:=hB3.thaw 1 (by simp);have f2:=hB3.thaw 2 (by simp);unfold qv at rq;have HSET:=zH hset;clear hset hq2 hq3 hB3;simp only [Int.natCast_one] at hG1;generalize hG:(cnt g)=G at *;generalize hC:(cnt (g+((x,y,z)::l).length))=C at *;generalize hG':(cnt (g+1))=G1 at *;generalize hN:2 ^ k=N at *;simp only [tv];have HN:=zH hN;clear hN hG hC hG';go_wp2_with fail;have hb9:=(((HQ2.out.more (.cells [.int .i64 x,.int .i64 y,.int .i64 z].toArray 114)).set (i:=1) (by simp [qv]) (.int .u64 G1)).off (B:=w.heap.size) (i:=0) (by omega) (.int .i64 x)).off (B:=w.heap.size) (i:=1) (by omega) (.int .i64 y) |>.off (B:=w.heap.size) (i:=2) (by omega) (.int .i64 z);have hr9:=((((hr2.more (.cells [.int .i64 x,.int .i64 y,.int .i64 z].toArray 114)).off (B:=q) (i:=1) (fun e=>hne e.symm) (.int .u64 G1)).off (B:=w.heap.size) (i:=0) (by omega) (.int .i64 x)).off (B:=w.heap.size) (i:=1) (by omega) (.int .i64 y)).off (B:=w.heap.size) (i:=2) (by omega) (.int .i64 z);have hP:=Blk.put3 ((hB1.more (.cells [.int .i64 x,.int .i64 y,.int .i64 z].toArray 114)).off (B:=q) (i:=1) (by omega) (.int .u64 G1)) (.int .i64 x) (.int .i64 y) (.int .i64 z);rw [HSET.out] at hb9;have q9:=hP.rule;refine bodyPost_ret (v:=.tuple #[tv (x,y,z),.bool true]) (by simp [results,results263,go_sem,q9,tv]) rfl ⟨rfl,⟨R,g+1,r,by rw [HN.out]; exact hb9,hr9,by rw [HN.out]; exact hring',hk2,hk,hne,hF⟩,?_,fun j hj=>.inl hj⟩;exact step_set (step_set (step_set ((((Turn.of_below hE1:Turn F w w1).alloc _).setCell (p:=⟨q,1,none⟩) (fun _=>(hF q).2 (.inl rfl)) _)) rfl (Nat.le_refl _) _) rfl (Nat.le_refl _) _) rfl (Nat.le_refl _) _
section
variable {w0 w:World} {L:List Item} {p c n:Nat} {F:Nat->Prop} {f:Plc->Int} {q:Cnt}
theorem add_w (x y z d v:Int) (hx:Wf (x,y,z)) (hn:n < maxLen) (i j:Nat) (hij:j≠i) (hE:Env w0 L w) (hi:L[i]?=some (wbox p c)) (hj:L[j]?=some (cellI c F f q n)) :
  Calls prog 334 #[.pointer (some ⟨p,0,none⟩),.agg #[.int .i64 x,.int .i64 y,.int .i64 z,.int .i64 d],.int .u64 v] w fun e w'=>e=.returned (.int .u64 (f (x,y,z)))/\∃ F',Env w0 (L.set j (cellI c F' (upd f (x,y,z) (IntKind.u64.wrap (f (x,y,z)+v))) { q with a:=wrap64 (q.a+1) } (n+1))) w':=by
 replace hE:=(hE.box w.heap.size rfl [.int .i64 x,.int .i64 y,.int .i64 z,.int .i64 d] 150);have hi':(boxI (w.heap.size) [.int .i64 x,.int .i64 y,.int .i64 z,.int .i64 d]::L)[i+1]?=some (wbox p c):=hi;have hj':(boxI (w.heap.size) [.int .i64 x,.int .i64 y,.int .i64 z,.int .i64 d]::L)[j+1]?=some (cellI c F f q n):=hj;have HX:=zH hx;clear hx;go_enter func334,ntmps334;go_wp2_with fail;generalize w.heap.size=X at *;refine Ord.wc [5] (fun w'=>Blk 0 w' X [.int .i64 x,.int .i64 y,.int .i64 z,.int .i64 d]/\Blk 0 w' p [.pointer (some ⟨c,0,none⟩)]) (Stage [Env w0 (boxI X [.int .i64 x,.int .i64 y,.int .i64 z,.int .i64 d]::L),fun w'=>∃ F',Env w0 (boxI X [.int .i64 x,.int .i64 y,.int .i64 z,.int .i64 d]::L.set j (cellI c F' (upd f (x,y,z) (IntKind.u64.wrap (f (x,y,z)+v))) { q with a:=wrap64 (q.a+1) } (n+1))) w']) ⟨hE.drew.get 0 rfl,hE.drew.get (i+1) hi'⟩ ⟨_,rfl,hE.drew⟩ fun hT9=>?_
 repeat ((first
  | (refine Ord.cv ?_ hT9.o ?_ ?_; rotate_left; (intro w5 hS; have r0:=hS.1.rule; go_simp<;>rfl))
  | (refine Ord.co hT9.o ?_)
  | (refine Ord.cc ?_ ?_ ?_ hT9.o ?_ ?_ ?_; rotate_left 3; (intro w5 hS; have r0:=hS.1.rule; go_simp; constructor<;>rfl); (intro w5 hS; (first | (with_reducible refine (kept_any hS.2).mono ?_; rintro e w6 ⟨rfl,rfl⟩; constructor; rfl; exact ⟨hS,fun _ h=>h⟩)))));try simp only [Act.put,zA,zZ,zS])
 refine Ord.ch_turn (v:=.int .u64 (f (x,y,z))) 0 hT9.o rfl (by decide) (Or.inl rfl) (by rfl) ?_ ?_
 ·rintro w5 hC5 ⟨P5,hP5,hA5⟩;cases hP5;go_simp;simp only [Ord.LandsIn];refine (add_any x y z v HX.out hn (hA5.cell (j+1) hj')).mono ?_;rintro e w6 ⟨rfl,F6,hC,hs⟩;have hE6:=hA5.turn (j+1) hj' hC hs;exact ⟨rfl,⟨hE6.get 0 rfl,hE6.get (i+1) (wset (j:=j+1) (by omega) hi')⟩,_,rfl,F6,hE6⟩
 try simp only [Act.put,zA,zZ,zS]
 repeat ((first
  | (refine Ord.cv ?_ hT9.o ?_ ?_; rotate_left; (intro w5 hS; skip; go_simp<;>rfl))
  | (refine Ord.co hT9.o ?_));try simp only [Act.put,zA,zZ,zS])
 refine Ord.InText.nil fun w5 hS=>?_;clear hT9;obtain ⟨hC9,hA9⟩:=Ord.chain_end hS;clear hS;obtain ⟨P9,hP9,hA9⟩:=hA9;cases hP9;obtain ⟨F9,hA9⟩:=hA9;clear hC9
 go_wp2
 go_ret;exact ⟨rfl,F9,hA9.sub (.cons _ (List.Sublist.refl _))⟩
end
def swq (q:Cnt) (b:Bool):Cnt:={ q with w:=wrap64 (q.w+1),f:=if b then q.f else wrap64 (q.f+1) }
def swf (f:Plc->Int) (x:Plc) (o v:Int):Plc->Int:=if f x=o then upd f x v else f
theorem swap_any {c n:Nat} {F:Nat->Prop} {f:Plc->Int} {q:Cnt} {w:World} (a b d o v:Int) (hx:Wf (a,b,d)) (hv:InU v) (hn:n < maxLen) (hC:IsC w c F f q n) :
  Calls prog 342 #[.pointer (some ⟨c,0,none⟩),.agg #[.int .i64 a,.int .i64 b,.int .i64 d],.int .u64 o,.int .u64 v] w fun e w'=>e=.returned (.bool (decide (f (a,b,d)=o)))/\∃ F',IsC w' c F' (swf f (a,b,d) o v) (swq q (decide (f (a,b,d)=o))) (n+1)/\Step F F' w w':=by
 have hFc:=hC.at
 obtain ⟨mp,hb,hm,hF⟩:=hC;have r0:=hb.rule;have hcl:=hb.1;have r1:=cell_more hcl r0;have z1:=hb.thaw 3 (by simp [cv]);have hS0:=ticked hb hm hFc (i:=3) (v:=.int .i64 (wrap64 (q.w+1))) (q1:={ q with w:=wrap64 (q.w+1) }) (by omega) rfl [.int .i64 a,.int .i64 b,.int .i64 d] 90;unfold cv at r0 r1;go_enter func342,ntmps342;go_wp2_with fail;generalize (w.setCell ⟨c,3,none⟩ (.int .i64 (wrap64 (q.w+1)))).alloc _=w1 at *;clear r0 r1 z1;refine Ord.wc [] (fun w'=>At F c w w.heap.size [.int .i64 a,.int .i64 b,.int .i64 d] mp { q with w:=wrap64 (q.w+1) } w'/\MapIs w' mp f n) (fun _ _=>True) ⟨hS0.1.drew,hS0.2.drew⟩ trivial fun hT9=>?_
 repeat ((first
  | (refine Ord.cv ?_ hT9.o ?_ ?_; rotate_left; (intro w5 hS; have r:=hS.1.2.1.rule; unfold cv at r; have r2:=hS.1.2.2.rule; have hl:=hS.2.look hx; simp only [pv] at hl; go_simp<;>rfl))
  | (refine Ord.co hT9.o ?_));try simp only [Act.put,zA,zZ,zS])
 refine Ord.InText.nil fun w5 hS=>?_;clear hT9;obtain ⟨hA9,hM9⟩:=Ord.chain_end hS;clear hS;have HX:=zH hx;clear hx
 by_cases he:f (a,b,d)=o
 ·have r:=hA9.1.2.1.rule;have r2:=hA9.1.2.2.rule;unfold cv at r;have hb1:(f (a,b,d) != o)=false:=by simpa using he
  have hE:=zH he;clear he;go_wp2_with fail;refine (put_any a b d v HX.out hv hn (.of hA9.1 hA9.2 hF)).mono ?_;rintro e w2 ⟨rfl,F',hC2,hs2⟩;clear r r2
  go_wp2
  go_ret;have hE':=hE.out;refine ⟨by simp [hE'],F',?_,(Step.mk hA9.1.1 fun k h=>.inl h).trans hs2⟩;simp only [swf,swq,hE',if_true,decide_true];exact hC2
 ·have r:=hA9.1.2.1.rule;have r2:=hA9.1.2.2.rule;have z4:=hA9.1.2.1.thaw 4 (by simp [cv]);unfold cv at r;have hb1:(f (a,b,d) != o)=true:=by simpa using he
  have hE:=zH he;clear he
  go_wp2
  go_ret;have hE':=hE.out;refine ⟨by simp [hE'],F,?_,⟨hA9.1.1.setCell (fun _=>hFc) _,fun k h=>.inl h⟩⟩;simp only [swf,swq,hE',if_false,decide_false,Bool.false_eq_true];exact (IsC.tick (.of hA9.1 hA9.2 hF) (by omega) fun _=>rfl).mono (Nat.le_succ _)
section
variable {w0 w:World} {L:List Item} {p c n:Nat} {F:Nat->Prop} {f:Plc->Int} {q:Cnt}
theorem swap_w (x y z d o oe v e:Int) (ob b:Bool) (hx:Wf (x,y,z)) (hv:InU v) (hn:n < maxLen) (i j:Nat) (hij:j≠i) (hE:Env w0 L w) (hi:L[i]?=some (wbox p c)) (hj:L[j]?=some (cellI c F f q n)) :
  Calls prog 338 #[.pointer (some ⟨p,0,none⟩),.agg #[.int .i64 x,.int .i64 y,.int .i64 z,.int .i64 d],.agg #[.int .u64 o,.int .i64 oe,.bool ob],.agg #[.int .u64 v,.int .i64 e,.bool b]] w fun e w'=>e=.returned (.bool (decide (f (x,y,z)=o)))/\∃ F',Env w0 (L.set j (cellI c F' (swf f (x,y,z) o v) (swq q (decide (f (x,y,z)=o))) (n+1))) w':=by
 replace hE:=(((hE.box w.heap.size rfl [.int .i64 x,.int .i64 y,.int .i64 z,.int .i64 d] 150).box (w.heap.size+1) (by simp) [.int .u64 o,.int .i64 oe,.bool ob] 127).box (w.heap.size+1+1) (by simp) [.int .u64 v,.int .i64 e,.bool b] 127);have hi':(boxI (w.heap.size+1+1) [.int .u64 v,.int .i64 e,.bool b]::boxI (w.heap.size+1) [.int .u64 o,.int .i64 oe,.bool ob]::boxI (w.heap.size) [.int .i64 x,.int .i64 y,.int .i64 z,.int .i64 d]::L)[i+3]?=some (wbox p c):=hi;have hj':(boxI (w.heap.size+1+1) [.int .u64 v,.int .i64 e,.bool b]::boxI (w.heap.size+1) [.int .u64 o,.int .i64 oe,.bool ob]::boxI (w.heap.size) [.int .i64 x,.int .i64 y,.int .i64 z,.int .i64 d]::L)[j+3]?=some (cellI c F f q n):=hj;have HX:=zH hx;clear hx;go_enter func338,ntmps338;go_wp2_with fail;generalize w.heap.size+1+1=Z at *;generalize w.heap.size+1=Y at *;generalize w.heap.size=X at *;refine Ord.wc [8] (fun w'=>Blk 0 w' X [.int .i64 x,.int .i64 y,.int .i64 z,.int .i64 d]/\Blk 0 w' Y [.int .u64 o,.int .i64 oe,.bool ob]/\Blk 0 w' Z [.int .u64 v,.int .i64 e,.bool b]/\Blk 0 w' p [.pointer (some ⟨c,0,none⟩)]) (Stage [Env w0 (boxI Z [.int .u64 v,.int .i64 e,.bool b]::boxI Y [.int .u64 o,.int .i64 oe,.bool ob]::boxI X [.int .i64 x,.int .i64 y,.int .i64 z,.int .i64 d]::L),fun w'=>∃ F',Env w0 (boxI Z [.int .u64 v,.int .i64 e,.bool b]::boxI Y [.int .u64 o,.int .i64 oe,.bool ob]::boxI X [.int .i64 x,.int .i64 y,.int .i64 z,.int .i64 d]::L.set j (cellI c F' (swf f (x,y,z) o v) (swq q (decide (f (x,y,z)=o))) (n+1))) w']) ⟨hE.drew.get 2 rfl,hE.drew.get 1 rfl,hE.drew.get 0 rfl,hE.drew.get (i+3) hi'⟩ ⟨_,rfl,hE.drew⟩ fun hT9=>?_
 repeat ((first
  | (refine Ord.cv ?_ hT9.o ?_ ?_; rotate_left; (intro w5 hS; have r0:=hS.1.rule; have r1:=hS.2.1.rule; have r2:=hS.2.2.1.rule; go_simp<;>rfl))
  | (refine Ord.co hT9.o ?_)
  | (refine Ord.cc ?_ ?_ ?_ hT9.o ?_ ?_ ?_; rotate_left 3; (intro w5 hS; have r0:=hS.1.rule; have r1:=hS.2.1.rule; have r2:=hS.2.2.1.rule; go_simp; constructor<;>rfl); (intro w5 hS; (first | (with_reducible refine (kept_any hS.2.2.2).mono ?_; rintro e w6 ⟨rfl,rfl⟩; constructor; rfl; exact ⟨hS,fun _ h=>h⟩)))));try simp only [Act.put,zA,zZ,zS])
 refine Ord.ch_turn (v:=.bool (decide (f (x,y,z)=o))) 0 hT9.o rfl (by decide) (Or.inl rfl) (by rfl) ?_ ?_
 ·rintro w5 hC5 ⟨P5,hP5,hA5⟩;cases hP5;go_simp;simp only [Ord.LandsIn];refine (swap_any x y z o v HX.out hv hn (hA5.cell (j+3) hj')).mono ?_;rintro e w6 ⟨rfl,F6,hC,hs⟩;have hE6:=hA5.turn (j+3) hj' hC hs;exact ⟨rfl,⟨hE6.get 2 rfl,hE6.get 1 rfl,hE6.get 0 rfl,hE6.get (i+3) (wset (j:=j+3) (by omega) hi')⟩,_,rfl,F6,hE6⟩
 try simp only [Act.put,zA,zZ,zS]
 repeat ((first
  | (refine Ord.cv ?_ hT9.o ?_ ?_; rotate_left; (intro w5 hS; skip; go_simp<;>rfl))
  | (refine Ord.co hT9.o ?_));try simp only [Act.put,zA,zZ,zS])
 refine Ord.InText.nil fun w5 hS=>?_;clear hT9;obtain ⟨hC9,hA9⟩:=Ord.chain_end hS;clear hS;obtain ⟨P9,hP9,hA9⟩:=hA9;cases hP9;obtain ⟨F9,hA9⟩:=hA9;clear hC9
 go_wp2
 go_ret;exact ⟨rfl,F9,hA9.sub (.cons _ (.cons _ (.cons _ (List.Sublist.refl _))))⟩
end
end
end Go.Proofs.YtffncfmciockmaaGreatDoor
namespace Go.Proofs.YtffncfmciockmaaGreatDoor.Ord3
section
open Go Go.Proofs.YtffncfmciockmaaGreatDoor.Ord
variable {P:Program} {md:Region.Mode} {ops:Array Oper} {Q:Exit->Act->World->Prop} {vs:List (Value->Prop)} {ps:List Nat} {C:World->Prop} {A:List Value->World->Prop}
theorem in_call {k:Nat} {o:Oper} {rest:List Oper} {a:Act} {v:Value} {f:FuncId} {args:Array Value} {κs:List Value} (hf:textFits md ops=true) (hk:k ∉ ps) (hvs:vs[k]?=some fun u=>u=v) (hw:Region.wanted o (yielded ops a.tmps)=true)
  (hr:∀ w,C w->(execOp a.eval o).run P w=.ok (.enter f args) w) (hc:∀ w,C w->Calls P f args w fun e w'=>e=.returned v/\C w'/\∀ us,A us w->A us w')
  (h:In P md ops Q vs ps C A (k+1) rest κs (a.put o.dst v)):In P md ops Q vs ps C A k (o::rest) κs a:=fun κ hκ =>
 InText.cons hf v ⟨_,hvs,rfl⟩ (Or.inl ⟨hw,fun l ρ w hr' _ _ hS=>by
  rw [hr w hS.2.2.1];refine (hc w hS.2.2.1).mono fun e w' he=>?_;exact ⟨_,he.1,⟨_,hvs,rfl⟩,chain_set hk hr' hS he.2.1 he.2.2⟩⟩)
  fun u ⟨p,hp,hu⟩=>by
   rw [hvs] at hp;cases hp;rw [hu];exact h _ (by rw [map_up (fun e=>hk (List.mem_of_mem_take e))]; exact hκ)
theorem Stage.three {A1 A2 A3:List Value->World->Prop} {κs:List Value} {w w':World} (h:Stage (fun κs=>[A1 κs,A2 κs,A3 κs]) κs w) (h1:A1 κs w->A1 κs w') (h2:A2 κs w->A2 κs w') (h3:A3 κs w->A3 κs w'):Stage (fun κs=>[A1 κs,A2 κs,A3 κs]) κs w':=by
 obtain ⟨T,hT,hw⟩:=h;refine ⟨T,hT,?_⟩;have hm:=List.mem_of_getElem? hT;simp only [List.mem_cons,List.not_mem_nil,or_false] at hm
 rcases hm with rfl | rfl | rfl
 ·exact h1 hw
 ·exact h2 hw
 ·exact h3 hw
end
end Go.Proofs.YtffncfmciockmaaGreatDoor.Ord3
namespace Go.Proofs.YtffncfmciockmaaGreatDoor
section
open Go.RowKit Go.Maps
structure MA where
 (nx:Value × Value)
 (left:Value)
 (k key val lv h n r s:Int)
def av (c:Nat) (M:MA):List Value:=[.pointer (some ⟨c,0,none⟩),M.nx.1,M.nx.2,.int .i64 M.k,.int .u64 M.key,.int .u64 M.val,.int .i64 M.lv,.int .u64 M.h,.int .i64 0,.bool false,.int .u64 M.n,.int .i64 0,.bool false,.int .u64 M.r,.int .i64 0,.bool false,.int .i64 M.s,.int .i64 0,M.left]
def fnA (pc:Nat):Nat:=if pc=1 then 239 else if pc=2 then 237 else if pc=3 then 268 else if pc=4 then 290 else if pc=5 then 302 else if pc=6 then 309 else if pc=10 then 238 else 272
def nxA (a pc:Nat):Value × Value:=(mvL (fnA pc) a,.int .i64 0)
def decP:List Trip->Int->Int->Nat
 | [],_,_=>2
 | (_,y,_)::_,e,l=>if y < e then 10 else if l<=e then 0 else 1
def decS (ql:List Trip) (e l:Int):Int:=if decP ql e l=0 then 4 else 0
theorem limit_of (v:World) (a b c d e:Int):(Instr.field 23 (.agg #[.int .i64 a,.int .i64 b,.int .i64 c,.int .i64 d,.int .i64 e]) 4).run prog v=.ok (.int .i64 e) v:=by kernel_rfl
theorem slots_of (v:World) (a b c d e:Int):(Instr.field 23 (.agg #[.int .i64 a,.int .i64 b,.int .i64 c,.int .i64 d,.int .i64 e]) 1).run prog v=.ok (.int .i64 b) v:=by kernel_rfl
theorem kind_of (v:World) (a b c d e:Int):(Instr.field 23 (.agg #[.int .i64 a,.int .i64 b,.int .i64 c,.int .i64 d,.int .i64 e]) 0).run prog v=.ok (.int .i64 a) v:=by kernel_rfl
section
variable {w0 w:World} {R:List Item} {a:Nat} {S:ST} {M:MA}
theorem decide_a (hz:Hid (M.nx.2=.int .i64 0)) (hE:Env w0 (boxI a (av S.c M)::LT S R) w) :
  Calls prog 208 #[.pointer (some ⟨a,0,none⟩)] w fun o w'=>o=.returned (.int .i64 (decS S.ql S.ce S.cl))/\∃ nx,(decP S.ql S.ce S.cl≠0->nx=nxA a (decP S.ql S.ce S.cl))/\Env w0 (boxI a (av S.c { M with nx:=nx })::LT S R) w':=by
 have hmf:=makeF;have r:=hE.rule 0 rfl;unfold av at r;have hlo:=limit_of;have HA:=zH (show 239=fnA 1 from rfl);go_enter func208,ntmps208;go_wp2_with fail;refine (queue_c (hE.get 1 rfl)).mono ?_;rintro o w1 ⟨rfl,rfl⟩;go_wp2_with fail;have hQ:=hE.queue 2 rfl
 rcases hq:S.ql with _ | ⟨⟨x,y,z⟩,t⟩
 ·rw [hq] at hQ;refine (headNone_any hQ).mono ?_;rintro o w2 ⟨rfl,hb⟩;replace hE:=(hE.over hb).box w2.heap.size rfl [.int .i64 0,.int .i64 0,.int .i64 0] 114;clear hb r hQ;simp only [tv,t0];have r:=hE.rule 1 rfl;unfold av at r;go_wp2_with fail;refine (epoch_c (hE.get 2 rfl)).mono ?_;rintro o w3 ⟨rfl,rfl⟩;go_wp2_with fail;refine (goOn_m 1 _ _ _ (by simp [av]) (by exact congrArg some hz.out) hE rfl).mono ?_;rintro o w4 ⟨rfl,hE4⟩;go_wp2_with fail;go_ret;have hp:decP S.ql S.ce S.cl=2:=by rw [hq]; rfl
  unfold decS;rw [hp];exact ⟨rfl,nxA a 2,fun _=>rfl,hE4.sub (.cons _ (List.Sublist.refl _))⟩
 ·rw [hq] at hQ;refine (head_any x y z hQ).mono ?_;rintro o w2 ⟨rfl,hb⟩;replace hE:=(hE.over hb).box w2.heap.size rfl [.int .i64 x,.int .i64 y,.int .i64 z] 114;clear hb r hQ;simp only [tv];have r:=hE.rule 1 rfl;have rX:=hE.rule 0 rfl;unfold av at r
  by_cases hy:y < S.ce
  ·have hyb:decide (y < S.ce)=true:=by simpa using hy
   go_wp2_with fail;refine (epoch_c (hE.get 2 rfl)).mono ?_;rintro o w3 ⟨rfl,rfl⟩;go_wp2_with fail;refine (goOn_m 1 _ _ _ (by simp [av]) (by exact congrArg some hz.out) hE rfl).mono ?_;rintro o w4 ⟨rfl,hE4⟩;go_wp2_with fail;go_ret;have hp:decP S.ql S.ce S.cl=10:=by rw [hq]; simp [decP,hy]
   unfold decS;rw [hp];exact ⟨rfl,nxA a 10,fun _=>rfl,hE4.sub (.cons _ (List.Sublist.refl _))⟩
  ·have hyb:decide (y < S.ce)=false:=by simpa using hy
   by_cases hl:S.cl<=S.ce
   ·have hlb:decide (S.cl<=S.ce)=true:=by simpa using hl
    go_wp2_with fail;refine (epoch_c (hE.get 2 rfl)).mono ?_;rintro o w3 ⟨rfl,rfl⟩;go_wp2_with fail;refine (conf_c (hE.get 2 rfl)).mono ?_;rintro o w4 ⟨rfl,hb⟩;replace hE:=hE.over hb;clear hb r rX;have r:=hE.rule 1 rfl;unfold av at r;go_wp2_with fail;refine (end_m 1 4 (by simp [av]) hE rfl).mono ?_;rintro o w5 ⟨rfl,nx,hE5⟩;go_wp2_with fail;go_ret;have hp:decP S.ql S.ce S.cl=0:=by rw [hq]; simp [decP,hy,hl]
    unfold decS;rw [hp];exact ⟨rfl,nx,fun h=>absurd rfl h,hE5.sub (.cons _ (List.Sublist.refl _))⟩
   ·have hlb:decide (S.cl<=S.ce)=false:=by simpa using hl
    go_wp2_with fail;refine (epoch_c (hE.get 2 rfl)).mono ?_;rintro o w3 ⟨rfl,rfl⟩;go_wp2_with fail;refine (conf_c (hE.get 2 rfl)).mono ?_;rintro o w4 ⟨rfl,hb⟩;replace hE:=hE.over hb;clear hb r rX;have r:=hE.rule 1 rfl;unfold av at r;go_wp2_with fail;refine (goOn_m 1 _ _ _ (by simp [av]) (by exact congrArg some hz.out) hE rfl).mono ?_;rintro o w5 ⟨rfl,hE5⟩;go_wp2_with fail;go_ret;have hp:decP S.ql S.ce S.cl=1:=by rw [hq]; simp only [decP]; rw [if_neg (by omega),if_neg (by omega)]
    unfold decS;rw [hp];exact ⟨rfl,nxA a 1,fun _=>rfl,hE5.sub (.cons _ (List.Sublist.refl _))⟩
theorem came_a (x y:Int) (hl:S.ql.length+1<=1048576) (hz:Hid (M.nx.2=.int .i64 0)) (hE:Env w0 (boxI a (av S.c M)::LT S R) w) :
  Calls prog 269 #[.pointer (some ⟨a,0,none⟩),.agg #[.int .i64 x,.int .i64 y,.int .i64 0]] w fun o w'=>o=.returned (.int .i64 (decS (S.ql++[(x,y,0)]) S.ce S.cl))/\∃ nx k' F',(decP (S.ql++[(x,y,0)]) S.ce S.cl≠0->nx=nxA a (decP (S.ql++[(x,y,0)]) S.ce S.cl))/\Rm S.kq (S.ql.length+1) k'/\Env w0 (boxI a (av S.c { M with nx:=nx })::LT { S with ql:=S.ql++[(x,y,0)],kq:=k',F:=F' } R) w':=by
 replace hE:=hE.box w.heap.size rfl [.int .i64 x,.int .i64 y,.int .i64 0] 114;go_enter func269,ntmps269;go_wp2_with fail;generalize w.alloc _=w2 at *;generalize w.heap.size=Y at *;refine Ord3.wp_chain [?_,?_,?_,?_,?_,?_,?_,?_,?_] [7,8] (fun w'=>Blk 0 w' a (av S.c M)/\Blk 0 w' S.c (crv S.ck S.cs S.cb S.ch S.cl S.ce S.cr S.hs 0 S.q)/\Blk 0 w' Y [.int .i64 x,.int .i64 y,.int .i64 0]) (Ord3.Stage fun κs=>[Env w0 (boxI Y [.int .i64 x,.int .i64 y,.int .i64 0]::boxI a (av S.c M)::LT S R),fun w'=>∃ z,κs.getD 0 undef=.slice (some ⟨z,0,none⟩) 1 1/\Env w0 (boxI z [.int .i64 x,.int .i64 y,.int .i64 0]::boxI Y [.int .i64 x,.int .i64 y,.int .i64 0]::boxI a (av S.c M)::LT S R) w',fun w'=>∃ k',Rm S.kq (S.ql.length+1) k'/\∃ F' z,Env w0 (boxI z [.int .i64 x,.int .i64 y,.int .i64 0]::boxI Y [.int .i64 x,.int .i64 y,.int .i64 0]::boxI a (av S.c M)::LT { S with ql:=S.ql++[(x,y,0)],kq:=k',F:=F' } R) w']) (by kernel_rfl) (by kernel_rfl) (by kernel_rfl) ⟨hE.drew.get 1 rfl,hE.drew.get 2 rfl,hE.drew.get 0 rfl⟩ ⟨_,rfl,hE.drew⟩ (fun hT=>?_);rotate_left 9;have hT9:=zH hT;clear hT
 repeat ((first
  | (focus (refine Ord3.in_value (v:=?_) hT9.o (by decide) ?_ (by rfl) ?_ ?_; rotate_left 2; (intro w5 hS; have r1:=Blk.rule hS.1; have r2:=Blk.rule hS.2.2; unfold av at r1; go_simp<;>rfl); rotate_right; (focus rfl)))
  | (focus (refine Ord3.in_off hT9.o (by decide) ?_ (by rfl) ?_; (focus rfl)))
  | (focus (refine Ord3.in_call (v:=?_) (f:=?_) (args:=?_) hT9.o (by decide) ?_ (by rfl) ?_ ?_ ?_; rotate_left 4; (intro w5 hS; have r1:=Blk.rule hS.1; have r2:=Blk.rule hS.2.2; unfold av at r1; go_simp; constructor<;>rfl); (intro w5 hS; (first | (with_reducible refine (queue_c hS.2.1).mono ?_; rintro o w6 ⟨rfl,rfl⟩; constructor; rfl; exact ⟨hS,fun _ h=>h⟩))); rotate_right; (focus rfl))));try simp only [Act.put,zA,zZ,zS])
 refine Ord3.in_turn (fun u=>∃ z,u=.slice (some ⟨z,0,none⟩) 1 1) _ ⟨0,rfl⟩ hT9.o rfl (by decide) (by rfl) ?_ (Or.inl rfl) (by rfl) ?_ ?_
 ·rfl
 ·rintro w7 hC7 ⟨P7,hP7,hA7⟩;cases hP7;go_simp;simp only [Ord3.Lands];have hE8:=hA7.box w7.heap.size rfl [.int .i64 x,.int .i64 y,.int .i64 0] 114;exact ⟨⟨_,rfl⟩,⟨hE8.get 2 rfl,hE8.get 3 rfl,hE8.get 1 rfl⟩,_,rfl,w7.heap.size,rfl,hE8⟩
 rintro _ ⟨z9,rfl⟩
 try simp only [Act.put,zA,zZ,zS]
 refine Ord3.in_turn (fun u=>u=.int .i64 0) _ rfl hT9.o rfl (by decide) (by rfl) ?_ (Or.inr ⟨_,7,[],rfl,by kernel_rfl,by kernel_rfl,rfl⟩) (by rfl) ?_ ?_
 ·rfl
 ·rintro w7 hC7 ⟨P7,hP7,hA7⟩;cases hP7;obtain ⟨z8,he,hA7⟩:=hA7;cases he;go_simp;simp only [Ord3.Lands];have hA:Row3 w7 (some ⟨z9,0,none⟩) [(x,y,0)]:=Blk.row3 (l:=[(x,y,0)]) (hA7.get 0 rfl);refine (push_any (l:=S.ql) (xs:=[(x,y,0)]) (A:=some ⟨z9,0,none⟩) (cap:=1) (by simp; omega) hA (fun _ b hb hFb=>?_) (hA7.queue 4 rfl)).mono ?_
  ·obtain ⟨off,he⟩:=hb;cases he;exact (hA7.off (i:=0) (j:=4) rfl rfl (by omega)) z9 rfl hFb
  rintro o w8 ⟨rfl,k8,F8,hrm,hQ8,hs8⟩;have hE8:=hA7.turnQ 4 rfl hQ8 hs8;exact ⟨_,rfl,rfl,⟨hE8.get 2 rfl,hE8.get 3 rfl,hE8.get 1 rfl⟩,_,rfl,k8,by simpa using hrm,F8,z9,hE8⟩
 rintro _ rfl
 try simp only [Act.put,zA,zZ,zS]
 refine Ord3.in_nil rfl ?_;rintro w9 hC9 ⟨P9,hP9,hA9⟩;cases hP9;obtain ⟨k8,hrm,F8,z8,hA9⟩:=hA9;clear hT9 hC9;have hE9:=hA9.sub (.cons _ (.cons _ (List.Sublist.refl _)));go_wp2_with fail;refine (decide_a (S:={ S with ql:=S.ql++[(x,y,0)],kq:=k8,F:=F8 }) hz hE9).mono ?_;rintro o w10 ⟨rfl,nx,hnx,hE10⟩;go_wp2_with fail;go_ret;exact ⟨rfl,nx,k8,F8,hnx,hrm,hE10⟩
end
theorem method_swap (k p:Nat) (w:World):(method (k+1) 28 (.pointer (some ⟨p,0,none⟩)) "Swap").run prog w=.ok (338,.pointer (some ⟨p,0,none⟩)) w:=by kernel_rfl
theorem ahead_swap (k p:Nat) (w:World):(nilAhead (k+1) 28 (.pointer (some ⟨p,0,none⟩)) "Swap").run prog w=.ok (some false) w:=by kernel_rfl
theorem ahead_load (k p:Nat) (w:World):(nilAhead (k+1) 28 (.pointer (some ⟨p,0,none⟩)) "Load").run prog w=.ok (some false) w:=by kernel_rfl
def pick3 {α:Type _} (a b c:α):Nat->α
 | 0=>a
 | 1=>b
 | _=>c
theorem wrapU (x:Int) (h0:0<=x) (h1:x<=18446744073709551615):IntKind.u64.wrap x=x:=by
 rw [IntKind.wrap_u64];exact Int.emod_eq_of_lt h0 (by omega)
theorem method_add (k p:Nat) (w:World):(method (k+1) 28 (.pointer (some ⟨p,0,none⟩)) "Add").run prog w=.ok (334,.pointer (some ⟨p,0,none⟩)) w:=by kernel_rfl
theorem ahead_add (k p:Nat) (w:World):(nilAhead (k+1) 28 (.pointer (some ⟨p,0,none⟩)) "Add").run prog w=.ok (some false) w:=by kernel_rfl
theorem ahead_store (k p:Nat) (w:World):(nilAhead (k+1) 28 (.pointer (some ⟨p,0,none⟩)) "Store").run prog w=.ok (some false) w:=by kernel_rfl
section
variable {w0 w:World} {R:List Item} {a:Nat} {S:ST} {M:MA}
theorem advance_a (he:0<=S.ce/\S.ce<=9223372036854775807) (hm:S.m < maxLen) (hE:Env w0 (boxI a (av S.c M)::LT S R) w) :
  Calls prog 239 #[.pointer (some ⟨a,0,none⟩),.iface 28 (.pointer (some ⟨S.p,0,none⟩))] w fun o w'=>o=.returned (.int .i64 2)/\∃ nx G',Env w0 (boxI a (av S.c { M with nx:=nx })::LT { S with G:=G',f:=swf S.f (1,0,0) S.ce (S.ce+1),qc:=swq S.qc (decide (S.f (1,0,0)=S.ce)),m:=S.m+1 } R) w':=by
 have hmf:=makeF;have hah:=ahead_swap;have hw1:IntKind.u64.wrap S.ce=S.ce:=wrapU _ (by omega) (by omega);have hw2:IntKind.u64.wrap (S.ce+1)=S.ce+1:=wrapU _ (by omega) (by omega);have HW2:=zH hw2;clear hw2;have hiv:InU (S.ce+1):=by unfold InU; omega
 have HIV:=zH hiv;clear hiv he;have r:=hE.rule 0 rfl;unfold av at r;go_enter func239,ntmps239;go_wp2_with (first | (refine (epoch_c (hE.get 1 rfl)).mono ?_; rintro o w1 ⟨rfl,rfl⟩));clear r;refine Ord.wc [11] (fun _=>True) (fun k w'=>∃ G',Env w0 (if k=0 then (boxI a (av S.c M)::LT S R) else (boxI a (av S.c M)::LT { S with G:=G',f:=swf S.f (1,0,0) S.ce (S.ce+1),qc:=swq S.qc (decide (S.f (1,0,0)=S.ce)),m:=S.m+1 } R)) w') trivial ⟨S.G,hE.drew⟩ fun hT9=>?_
 repeat ((first
  | (refine Ord.cv ?_ hT9.o ?_ ?_; rotate_left; (intro w5 hS; skip; go_simp<;>rfl))
  | (refine Ord.co hT9.o ?_)
  | (refine Ord.cc ?_ ?_ ?_ hT9.o ?_ ?_ ?_; rotate_left 3; (intro w5 hS; skip; go_simp; constructor<;>rfl); (intro w5 hS; (first | (with_reducible refine kp (epoch_any _) ?_ ?_; rfl; exact fun w6 hb6=>⟨trivial,fun k h=>h.elim fun G' h=>⟨G',h.over hb6⟩⟩) | (with_reducible refine kp (shared_any _ _ _ _) ?_ ?_; rfl; exact fun w6 hb6=>⟨trivial,fun k h=>h.elim fun G' h=>⟨G',h.over hb6⟩⟩)))));try simp only [Act.put,zA,zZ,zS])
 refine Ord.ch_turn (v:=.bool (decide (S.f (1,0,0)=S.ce))) 0 hT9.o rfl (by decide) (Or.inl rfl) (by rfl) ?_ ?_
 ·rintro w5 hC5 ⟨G5,hA5⟩;simp only [if_true] at hA5;go_simp;rw [method_swap];simp only [Result.andThen_ok];go_simp;simp only [Ord.LandsIn];rw [HW2.out];refine (swap_w 1 0 0 0 S.ce 0 (S.ce+1) 0 false false (by unfold Wf In64; simp) HIV.out hm 3 4 (by decide) hA5 rfl rfl).mono ?_;rintro e w6 ⟨rfl,G6,hE6⟩;exact ⟨rfl,G6,hE6⟩
 try simp only [Act.put,zA,zZ,zS]
 repeat ((first
  | (refine Ord.cv ?_ hT9.o ?_ ?_; rotate_left; (intro w5 hS; skip; go_simp<;>rfl))
  | (refine Ord.co hT9.o ?_));try simp only [Act.put,zA,zZ,zS])
 refine Ord.InText.nil fun w5 hS=>?_;clear hT9;obtain ⟨hC9,hA9⟩:=Ord.chain_end hS;clear hS;obtain ⟨G9,hA9⟩:=hA9;simp only [List.length_cons,List.length_nil,Nat.zero_add,Nat.one_ne_zero,if_false] at hA9;go_wp2_with fail;refine (end_m 0 2 (by simp [av]) hA9 rfl).mono ?_;rintro o w5 ⟨rfl,nx,hE5⟩;go_wp2_with fail;go_ret;exact ⟨rfl,nx,G9,hE5⟩
end
def poolS (x l:Int):Int:=if slotI x=0 then 3 else if l<=verI x then 4 else 0
section
variable {w0 w:World} {R:List Item} {a:Nat} {S:ST} {M:MA}
theorem isLast_m {vs:List Value} (x d:Int) (t:Bool) (hx:InU x) (hg:Glo w0) (hv:vs[0]?=some (.pointer (some ⟨S.c,0,none⟩))) (hE:Env w0 (boxI a vs::LT S R) w) :
  Calls prog 198 #[.pointer (some ⟨a,0,none⟩),.agg #[.int .u64 x,.int .i64 d,.bool t]] w fun o w'=>o=.returned (.bool (decide (S.cl<=verI x)))/\Below w.heap.size w w':=by
 have hb0:=(Below.refl w.heap.size w).alloc (Nat.le_refl _) (.cells [.int .u64 x,.int .i64 d,.bool t].toArray 127);have hE1:=hE.box w.heap.size rfl [.int .u64 x,.int .i64 d,.bool t] 127;have HV:Hid (∀ v,Env w0 (boxI w.heap.size [.int .u64 x,.int .i64 d,.bool t]::boxI a vs::LT S R) v->v.cell? ⟨a,0,none⟩=some (.pointer (some ⟨S.c,0,none⟩))):=zH fun v h=>(h.rule 1 rfl 0).trans hv;have HG:Hid (∀ v,Env w0 (boxI w.heap.size [.int .u64 x,.int .i64 d,.bool t]::boxI a vs::LT S R) v->Calls prog 228 #[.int .u64 x] v fun e w'=>e=.returned (.int .i64 (verI x))/\Below v.heap.size v w'):=zH fun v h=>version_any x v (hg.keep' h.below) hx.1 hx.2;have hlo:=limit_of;generalize verI x=y at *;clear hv hx hg hE;go_enter func198,ntmps198;go_wp2_with fail;refine wp_text (S:=(fun v=>Env w0 (boxI w.heap.size [.int .u64 x,.int .i64 d,.bool t]::boxI a vs::LT S R) v/\Below w.heap.size w v)) (by kernel_rfl) (by kernel_rfl) (⟨hE1.drew,hb0.drew⟩) (fun hT=>?_);have hT9:=zH hT;clear hT
 repeat ((first
  | (refine text_value (v:=?_) hT9.o (by rfl) ?_ ?_; rotate_left; (intro w5 hS; have r0:=HV.out _ hS.1; have r1:=hS.1.rule 0 rfl; go_simp<;>rfl))
  | (refine text_off hT9.o (by rfl) ?_)
  | (refine text_call (v:=?_) (f:=?_) (args:=?_) hT9.o (by rfl) ?_ ?_ ?_; rotate_left 3; (intro w5 hS; have r0:=HV.out _ hS.1; have r1:=hS.1.rule 0 rfl; go_simp; constructor<;>rfl); (intro w5 hS; (first | (with_reducible refine kp (HG.out _ hS.1) ?_ ?_; rfl; exact fun w6 hb6=>⟨hS.1.over hb6,hS.2.trans (hb6.mono hS.2.size)⟩) | (with_reducible refine kp (conf_c (hS.1.get 2 rfl)) ?_ ?_; rfl; exact fun w6 hb6=>⟨hS.1.over hb6,hS.2.trans (hb6.mono hS.2.size)⟩)))));try simp only [Act.put,zA,zZ,zS])
 refine InText.nil fun w5 hS5=>?_;clear hT9;go_wp2_with fail;go_ret;exact ⟨rfl,hS5.2⟩
theorem freshNo_a (x:Int) (hfx:S.f (3,0,0)=x) (h0:0<=x) (ht:S.cs<=x) (hcs:0<=S.cs/\S.cs<=9223372036854775806) (hm:S.m < maxLen) (hz:Hid (M.nx.2=.int .i64 0)) (hE:Env w0 (boxI a (av S.c M)::LT S R) w) :
  Calls prog 237 #[.pointer (some ⟨a,0,none⟩),.iface 28 (.pointer (some ⟨S.p,0,none⟩))] w fun o w'=>o=.returned (.int .i64 0)/\∃ G',Env w0 (boxI a (av S.c { M with nx:=nxA a 3 })::LT { S with G:=G',f:=upd S.f (3,0,0) (IntKind.u64.wrap (x+1)),qc:={ S.qc with a:=wrap64 (S.qc.a+1) },m:=S.m+1 } R) w':=by
 have hmf:=makeF;have hah:=ahead_add;have hso:=slots_of;have HT:=zH hfx;have hw1:IntKind.u64.wrap S.cs=S.cs:=wrapU _ (by omega) (by omega);have hd:decide (S.cs<=x)=true:=by simpa using ht
 clear h0 ht hcs hfx;go_enter func237,ntmps237;go_wp2_with fail;refine Ord.wc [6] (fun _=>True) (fun k w'=>∃ G5,Env w0 (if k=0 then (boxI a (av S.c M)::LT S R) else (boxI a (av S.c M)::LT { S with G:=G5,f:=upd S.f (3,0,0) (IntKind.u64.wrap (x+1)),qc:={ S.qc with a:=wrap64 (S.qc.a+1) },m:=S.m+1 } R)) w') trivial ⟨S.G,hE.drew⟩ fun hT9=>?_
 repeat ((first
  | (refine Ord.cv ?_ hT9.o ?_ ?_; rotate_left; (intro w5 hS; skip; go_simp<;>rfl))
  | (refine Ord.co hT9.o ?_)
  | (refine Ord.cc ?_ ?_ ?_ hT9.o ?_ ?_ ?_; rotate_left 3; (intro w5 hS; skip; go_simp; constructor<;>rfl); (intro w5 hS; (first | (with_reducible refine kp (fresh_any _) ?_ ?_; rfl; exact fun w6 hb6=>⟨trivial,fun k h=>h.elim fun G5 h=>⟨G5,h.over hb6⟩⟩) | (with_reducible refine kp (shared_any _ _ _ _) ?_ ?_; rfl; exact fun w6 hb6=>⟨trivial,fun k h=>h.elim fun G5 h=>⟨G5,h.over hb6⟩⟩)))));try simp only [Act.put,zA,zZ,zS])
 refine Ord.ch_turn (v:=.int .u64 x) 0 hT9.o rfl (by decide) (Or.inl rfl) (by rfl) ?_ ?_
 ·rintro w5 hC5 ⟨G5,hA5⟩;simp only [if_true] at hA5;go_simp;rw [method_add];simp only [Result.andThen_ok];go_simp;simp only [Ord.LandsIn];have h7:=add_w 3 0 0 0 1 (by unfold Wf In64; simp) hm 3 4 (by decide) hA5 rfl rfl;rw [HT.out] at h7;refine h7.mono ?_;rintro e w6 ⟨rfl,G6,hE6⟩;exact ⟨rfl,G6,hE6⟩
 try simp only [Act.put,zA,zZ,zS]
 repeat ((first
  | (refine Ord.cv ?_ hT9.o ?_ ?_; rotate_left; (intro w5 hS; skip; go_simp<;>rfl))
  | (refine Ord.co hT9.o ?_));try simp only [Act.put,zA,zZ,zS])
 refine Ord.InText.nil fun w5 hS=>?_;clear hT9;obtain ⟨hC9,hA9⟩:=Ord.chain_end hS;clear hS;obtain ⟨G9,hA9⟩:=hA9;simp only [List.length_cons,List.length_nil,Nat.zero_add,Nat.one_ne_zero,if_false] at hA9;have r:=hA9.rule 0 rfl;unfold av at r;go_wp2_with fail;refine (conf_c (hA9.get 1 rfl)).mono ?_;rintro o w6 ⟨rfl,hb⟩;replace hA9:=hA9.over hb;clear hb r;have r:=hA9.rule 0 rfl;unfold av at r;go_wp2_with fail;refine (goOn_m 0 _ _ _ (by simp [av]) (by exact congrArg some hz.out) hA9 rfl).mono ?_;rintro o w7 ⟨rfl,hE7⟩;go_wp2_with fail;go_ret;exact ⟨rfl,G9,hE7⟩
theorem freshYes_a (x:Int) (hfx:S.f (3,0,0)=x) (hl:S.ql.length+1<=1048576) (h0:0<=x) (ht:x < S.cs) (hcs:S.cs<=9223372036854775806) (hm:S.m < maxLen) (hz:Hid (M.nx.2=.int .i64 0)) (hE:Env w0 (boxI a (av S.c M)::LT S R) w) :
  Calls prog 237 #[.pointer (some ⟨a,0,none⟩),.iface 28 (.pointer (some ⟨S.p,0,none⟩))] w fun o w'=>o=.returned (.int .i64 (decS (S.ql++[(x+1,0,0)]) S.ce S.cl))/\∃ nx k' F' G',(decP (S.ql++[(x+1,0,0)]) S.ce S.cl≠0->nx=nxA a (decP (S.ql++[(x+1,0,0)]) S.ce S.cl))/\Rm S.kq (S.ql.length+1) k'/\Env w0 (boxI a (av S.c { M with nx:=nx })::LT { S with G:=G',f:=upd S.f (3,0,0) (IntKind.u64.wrap (x+1)),qc:={ S.qc with a:=wrap64 (S.qc.a+1) },m:=S.m+1,ql:=S.ql++[(x+1,0,0)],kq:=k',F:=F' } R) w':=by
 have hmf:=makeF;have hah:=ahead_add;have hso:=slots_of;have HT:=zH hfx;have hw1:IntKind.u64.wrap S.cs=S.cs:=wrapU _ (by omega) (by omega);have hd:decide (S.cs<=x)=false:=by simp; omega
 have hw2:wrap64 x=x:=w64 _ (by omega);have hw3:wrap64 (x+1)=x+1:=w64 _ (by omega);clear h0 ht hcs hfx;go_enter func237,ntmps237;go_wp2_with fail;refine Ord.wc [6] (fun _=>True) (fun k w'=>∃ G5,Env w0 (if k=0 then (boxI a (av S.c M)::LT S R) else (boxI a (av S.c M)::LT { S with G:=G5,f:=upd S.f (3,0,0) (IntKind.u64.wrap (x+1)),qc:={ S.qc with a:=wrap64 (S.qc.a+1) },m:=S.m+1 } R)) w') trivial ⟨S.G,hE.drew⟩ fun hT9=>?_
 repeat ((first
  | (refine Ord.cv ?_ hT9.o ?_ ?_; rotate_left; (intro w5 hS; skip; go_simp<;>rfl))
  | (refine Ord.co hT9.o ?_)
  | (refine Ord.cc ?_ ?_ ?_ hT9.o ?_ ?_ ?_; rotate_left 3; (intro w5 hS; skip; go_simp; constructor<;>rfl); (intro w5 hS; (first | (with_reducible refine kp (fresh_any _) ?_ ?_; rfl; exact fun w6 hb6=>⟨trivial,fun k h=>h.elim fun G5 h=>⟨G5,h.over hb6⟩⟩) | (with_reducible refine kp (shared_any _ _ _ _) ?_ ?_; rfl; exact fun w6 hb6=>⟨trivial,fun k h=>h.elim fun G5 h=>⟨G5,h.over hb6⟩⟩)))));try simp only [Act.put,zA,zZ,zS])
 refine Ord.ch_turn (v:=.int .u64 x) 0 hT9.o rfl (by decide) (Or.inl rfl) (by rfl) ?_ ?_
 ·rintro w5 hC5 ⟨G5,hA5⟩;simp only [if_true] at hA5;go_simp;rw [method_add];simp only [Result.andThen_ok];go_simp;simp only [Ord.LandsIn];have h7:=add_w 3 0 0 0 1 (by unfold Wf In64; simp) hm 3 4 (by decide) hA5 rfl rfl;rw [HT.out] at h7;refine h7.mono ?_;rintro e w6 ⟨rfl,G6,hE6⟩;exact ⟨rfl,G6,hE6⟩
 try simp only [Act.put,zA,zZ,zS]
 repeat ((first
  | (refine Ord.cv ?_ hT9.o ?_ ?_; rotate_left; (intro w5 hS; skip; go_simp<;>rfl))
  | (refine Ord.co hT9.o ?_));try simp only [Act.put,zA,zZ,zS])
 refine Ord.InText.nil fun w5 hS=>?_;clear hT9;obtain ⟨hC9,hA9⟩:=Ord.chain_end hS;clear hS;obtain ⟨G9,hA9⟩:=hA9;simp only [List.length_cons,List.length_nil,Nat.zero_add,Nat.one_ne_zero,if_false] at hA9;have r:=hA9.rule 0 rfl;unfold av at r;go_wp2_with fail;refine (conf_c (hA9.get 1 rfl)).mono ?_;rintro o w6 ⟨rfl,hb⟩;replace hA9:=hA9.over hb;clear hb r;have r:=hA9.rule 0 rfl;unfold av at r;go_wp2_with fail;refine (came_a (S:={ S with G:=G9,f:=upd S.f (3,0,0) (IntKind.u64.wrap (x+1)),qc:={ S.qc with a:=wrap64 (S.qc.a+1) },m:=S.m+1 }) (x+1) 0 hl hz hA9).mono ?_;rintro o w7 ⟨rfl,nx,k',F',hnx,hrm,hE7⟩;go_wp2_with fail;go_ret;exact ⟨rfl,nx,k',F',G9,hnx,hrm,hE7⟩
theorem loadPool_a (x:Int) (hfx:S.f (2,0,0)=x) (hg:Glo w0) (hz:Hid (M.nx.2=.int .i64 0)) (hE:Env w0 (boxI a (av S.c M)::LT S R) w) :
  Calls prog 268 #[.pointer (some ⟨a,0,none⟩),.iface 28 (.pointer (some ⟨S.p,0,none⟩))] w fun o w'=>o=.returned (.int .i64 (poolS x S.cl))/\∃ nx,(poolS x S.cl=0->nx=nxA a 4)/\Env w0 (boxI a (av S.c { M with nx:=nx,h:=x })::LT { S with qc:={ S.qc with l:=wrap64 (S.qc.l+1) } } R) w':=by
 have hmf:=makeF;have hah:=ahead_load;have hso:=slot_of;have hxu:InU x:=by rw [<- hfx]; exact (hE.cell 4 rfl).words.1 _
 have HX:=zH hfx;have HXU:=zH hxu;clear hfx hxu;go_enter func268,ntmps268;go_wp2_with fail;refine Ord.wc [7,10] (fun _=>True) (fun k w'=>Env w0 (pick3 (boxI a (av S.c M)::LT S R) (boxI a (av S.c M)::LT { S with qc:={ S.qc with l:=wrap64 (S.qc.l+1) } } R) (boxI a (av S.c { M with h:=x })::LT { S with qc:={ S.qc with l:=wrap64 (S.qc.l+1) } } R) k) w') trivial hE.drew fun hT9=>?_
 repeat ((first
  | (refine Ord.cv ?_ hT9.o ?_ ?_; rotate_left; (intro w5 hS; skip; go_simp<;>rfl))
  | (refine Ord.co hT9.o ?_)
  | (refine Ord.cc ?_ ?_ ?_ hT9.o ?_ ?_ ?_; rotate_left 3; (intro w5 hS; skip; go_simp; constructor<;>rfl); (intro w5 hS; (first | (with_reducible refine kp (pool_any _) ?_ ?_; rfl; exact fun w6 hb6=>⟨trivial,fun k h=>h.over hb6⟩) | (with_reducible refine kp (shared_any _ _ _ _) ?_ ?_; rfl; exact fun w6 hb6=>⟨trivial,fun k h=>h.over hb6⟩)))));try simp only [Act.put,zA,zZ,zS])
 refine Ord.ch_turn (v:=.agg #[.int .u64 x,.int .i64 0,.bool false]) 0 hT9.o rfl (by decide) (Or.inl rfl) (by rfl) ?_ ?_
 ·rintro w5 hC5 hA5;replace hA5:Env w0 (boxI a (av S.c M)::LT S R) w5:=hA5;go_simp;rw [method_load];simp only [Result.andThen_ok];go_simp;simp only [Ord.LandsIn];have hl:=load_w 2 0 0 0 (by unfold Wf In64; simp) 3 4 (by decide) hA5 rfl rfl;rw [HX.out] at hl;refine hl.mono ?_;rintro e w6 ⟨rfl,hE6⟩;exact ⟨rfl,hE6⟩
 try simp only [Act.put,zA,zZ,zS]
 repeat ((first
  | (refine Ord.cv ?_ hT9.o ?_ ?_; rotate_left; (intro w5 hS; skip; go_simp<;>rfl))
  | (refine Ord.co hT9.o ?_));try simp only [Act.put,zA,zZ,zS])
 refine Ord.ch_turn (v:=undef) 1 hT9.o rfl (by decide) (Or.inr ⟨_,rfl,by kernel_rfl⟩) (by rfl) ?_ ?_
 ·rintro w5 hC5 hA5;replace hA5:Env w0 (boxI a (av S.c M)::LT { S with qc:={ S.qc with l:=wrap64 (S.qc.l+1) } } R) w5:=hA5;have r:=hA5.rule 0 rfl;unfold av at r;have f6:=hA5.thaw 0 rfl 7 (by simp [av]);have f7:=hA5.thaw 0 rfl 8 (by simp [av]);have f8:=hA5.thaw 0 rfl 9 (by simp [av]);go_simp;have h9:=((hA5.put 0 rfl (j:=7) (by simp [av]) (.int .u64 x)).put 0 rfl (j:=8) (by simp [av]) (.int .i64 0)).put 0 rfl (j:=9) (by simp [av]) (.bool false)
  first | exact ⟨rfl,trivial,h9⟩ | exact ⟨rfl,h9⟩ | exact h9
 try simp only [Act.put,zA,zZ,zS]
 repeat ((first
  | (refine Ord.cv ?_ hT9.o ?_ ?_; rotate_left; (intro w5 hS; skip; go_simp<;>rfl))
  | (refine Ord.co hT9.o ?_));try simp only [Act.put,zA,zZ,zS])
 refine Ord.InText.nil fun w5 hS=>?_;clear hT9;obtain ⟨hC9,hA9⟩:=Ord.chain_end hS;clear hS;replace hA9:Env w0 (boxI a (av S.c { M with h:=x })::LT { S with qc:={ S.qc with l:=wrap64 (S.qc.l+1) } } R) w5:=hA9;have r:=hA9.rule 0 rfl;unfold av at r;go_wp2_with fail;refine (lead_c x 0 false _ HXU.out (hg.keep' hA9.below)).mono ?_;rintro o w6 ⟨rfl,hb⟩;replace hA9:=hA9.over hb;clear hb r;have r:=hA9.rule 0 rfl;unfold av at r
 by_cases hs:slotI x=0
 ·have hp:poolS x S.cl=3:=if_pos hs;have HP:=zH hp;have hsb:(slotI x==0)=true:=by simpa using hs
  have HS:=zH hs;clear hp hs;go_wp2_with fail;refine (end_m 0 3 (by simp [av]) hA9 rfl).mono ?_;rintro o w7 ⟨rfl,nx,hE7⟩;go_wp2_with fail;go_ret;rw [HP.out];exact ⟨rfl,nx,fun h=>absurd h (by decide),hE7⟩
 ·have hsb:(slotI x==0)=false:=by simpa using hs
  have HIL:Hid (∀ v,Env w0 (boxI a (av S.c { M with h:=x })::LT { S with qc:={ S.qc with l:=wrap64 (S.qc.l+1) } } R) v->Calls prog 198 #[.pointer (some ⟨a,0,none⟩),.agg #[.int .u64 x,.int .i64 0,.bool false]] v fun o w'=>o=.returned (.bool (decide (S.cl<=verI x)))/\Below v.heap.size v w'):=zH fun v hv=>isLast_m (S:={ S with qc:={ S.qc with l:=wrap64 (S.qc.l+1) } }) x 0 false HXU.out hg rfl hv;obtain ⟨b,hb⟩:∃ b,decide (S.cl<=verI x)=b:=⟨_,rfl⟩;rw [hb] at HIL;have HB:=zH hb;have HS:=zH hs;clear hb hs;go_wp2_with fail;refine wp_text (S:=(Env w0 (boxI a (av S.c { M with h:=x })::LT { S with qc:={ S.qc with l:=wrap64 (S.qc.l+1) } } R))) (by kernel_rfl) (by kernel_rfl) hA9.drew (fun hT=>?_);have hT9:=zH hT;clear hT
  repeat ((first
   | (refine text_value (v:=?_) hT9.o (by rfl) ?_ ?_; rotate_left; (intro w5 hS; have r:=hS.rule 0 rfl; unfold av at r; go_simp<;>rfl))
   | (refine text_off hT9.o (by rfl) ?_)
   | (refine text_call (v:=?_) (f:=?_) (args:=?_) hT9.o (by rfl) ?_ ?_ ?_; rotate_left 3; (intro w5 hS; have r:=hS.rule 0 rfl; unfold av at r; go_simp; constructor<;>rfl); (intro w5 hS; (first | (with_reducible refine kp (HIL.out _ hS) ?_ ?_; rfl; exact fun w6 hb6=>hS.over hb6)))));try simp only [Act.put,zA,zZ,zS])
  refine InText.nil fun w5 hS5=>?_;clear hT9;clear hA9 r HIL;cases b
  ·have hv:¬ S.cl<=verI x:=by simpa using HB.out
   have hp:poolS x S.cl=0:=by unfold poolS; rw [if_neg HS.out,if_neg hv]
   have HP:=zH hp;clear hp hv;go_wp2_with fail;refine (goOn_m 0 _ _ _ (by simp [av]) (by exact congrArg some hz.out) hS5 rfl).mono ?_;rintro o w7 ⟨rfl,hE7⟩;go_wp2_with fail;go_ret;rw [HP.out];exact ⟨rfl,_,fun _=>rfl,hE7⟩
  ·have hv:S.cl<=verI x:=by simpa using HB.out
   have hp:poolS x S.cl=4:=by unfold poolS; rw [if_neg HS.out,if_pos hv]
   have HP:=zH hp;clear hp hv;go_wp2_with fail;refine (end_m 0 4 (by simp [av]) hS5 rfl).mono ?_;rintro o w7 ⟨rfl,nx,hE7⟩;go_wp2_with fail;go_ret;rw [HP.out];exact ⟨rfl,nx,fun h=>absurd h (by decide),hE7⟩
theorem loadChain_a (x:Int) (hfx:S.f (5,slotI M.h,2)=x) (hh:InU M.h) (hg:Glo w0) (hz:Hid (M.nx.2=.int .i64 0)) (hE:Env w0 (boxI a (av S.c M)::LT S R) w) :
  Calls prog 290 #[.pointer (some ⟨a,0,none⟩),.iface 28 (.pointer (some ⟨S.p,0,none⟩))] w fun o w'=>o=.returned (.int .i64 0)/\Env w0 (boxI a (av S.c { M with nx:=nxA a 5,n:=x })::LT { S with qc:={ S.qc with l:=wrap64 (S.qc.l+1) } } R) w':=by
 have hmf:=makeF;have hah:=ahead_load;have HX:=zH hfx;have HGL:=zH fun (v:World) (hv:Below w0.heap.size w0 v)=>lead_c M.h 0 false v hh (hg.keep' hv);have HWF:Hid (Wf (5,slotI M.h,2)):=zH (by have:=slotI_in M.h; unfold Wf In64; simp; omega);clear hfx hh;go_enter func290,ntmps290;go_wp2_with fail;refine Ord.wc [11,14] (fun v=>Below w0.heap.size w0 v/\∃ n9 r9,Blk 0 v a (av S.c { M with n:=n9,r:=r9 })) (fun k w'=>Env w0 (pick3 (boxI a (av S.c M)::LT S R) (boxI a (av S.c M)::LT { S with qc:={ S.qc with l:=wrap64 (S.qc.l+1) } } R) (boxI a (av S.c { M with n:=x })::LT { S with qc:={ S.qc with l:=wrap64 (S.qc.l+1) } } R) k) w') ⟨hE.drew.below,M.n,M.r,hE.drew.get 0 rfl⟩ hE.drew fun hT9=>?_
 repeat ((first
  | (refine Ord.cv ?_ hT9.o ?_ ?_; rotate_left; (intro w5 hS; obtain ⟨hS0,n9,r9,hS1⟩:=hS; have r:=Blk.rule hS1; unfold av at r; go_simp<;>rfl))
  | (refine Ord.co hT9.o ?_)
  | (refine Ord.cc ?_ ?_ ?_ hT9.o ?_ ?_ ?_; rotate_left 3; (intro w5 hS; obtain ⟨hS0,n9,r9,hS1⟩:=hS; have r:=Blk.rule hS1; unfold av at r; go_simp; constructor<;>rfl); (intro w5 hS; (first | (with_reducible refine kp (HGL.out _ hS.1) ?_ ?_; rfl; exact fun w6 hb6=>⟨⟨hS.1.trans (hb6.mono hS.1.size),Exists.elim hS.2 fun n9 h=>Exists.elim h fun r9 h=>⟨n9,r9,h.under hb6⟩⟩,fun k h=>h.over hb6⟩) | (with_reducible refine kp (part_any _ _ _ _) ?_ ?_; rfl; exact fun w6 hb6=>⟨⟨hS.1.trans (hb6.mono hS.1.size),Exists.elim hS.2 fun n9 h=>Exists.elim h fun r9 h=>⟨n9,r9,h.under hb6⟩⟩,fun k h=>h.over hb6⟩)))));try simp only [Act.put,zA,zZ,zS])
 refine Ord.ch_turn (v:=.agg #[.int .u64 x,.int .i64 0,.bool false]) 0 hT9.o rfl (by decide) (Or.inl rfl) (by rfl) ?_ ?_
 ·rintro w5 hC5 hA5;replace hA5:Env w0 (boxI a (av S.c M)::LT S R) w5:=hA5;go_simp;rw [method_load];simp only [Result.andThen_ok];go_simp;simp only [Ord.LandsIn];have hl:=load_w 5 (slotI M.h) 2 0 HWF.out 3 4 (by decide) hA5 rfl rfl;rw [HX.out] at hl;refine hl.mono ?_;rintro e w6 ⟨rfl,hE6⟩;exact ⟨rfl,⟨hE6.below,M.n,M.r,hE6.get 0 rfl⟩,hE6⟩
 try simp only [Act.put,zA,zZ,zS]
 repeat ((first
  | (refine Ord.cv ?_ hT9.o ?_ ?_; rotate_left; (intro w5 hS; skip; go_simp<;>rfl))
  | (refine Ord.co hT9.o ?_));try simp only [Act.put,zA,zZ,zS])
 refine Ord.ch_turn (v:=undef) 1 hT9.o rfl (by decide) (Or.inr ⟨_,rfl,by kernel_rfl⟩) (by rfl) ?_ ?_
 ·rintro w5 hC5 hA5;replace hA5:Env w0 (boxI a (av S.c M)::LT { S with qc:={ S.qc with l:=wrap64 (S.qc.l+1) } } R) w5:=hA5;have r:=hA5.rule 0 rfl;unfold av at r;have f6:=hA5.thaw 0 rfl 10 (by simp [av]);have f7:=hA5.thaw 0 rfl 11 (by simp [av]);have f8:=hA5.thaw 0 rfl 12 (by simp [av]);go_simp;have h9:=((hA5.put 0 rfl (j:=10) (by simp [av]) (.int .u64 x)).put 0 rfl (j:=11) (by simp [av]) (.int .i64 0)).put 0 rfl (j:=12) (by simp [av]) (.bool false);replace h9:Env w0 (boxI a (av S.c { M with n:=x })::LT { S with qc:={ S.qc with l:=wrap64 (S.qc.l+1) } } R) _:=h9;exact ⟨rfl,⟨h9.below,_,_,h9.get 0 rfl⟩,h9⟩
 try simp only [Act.put,zA,zZ,zS]
 repeat ((first
  | (refine Ord.cv ?_ hT9.o ?_ ?_; rotate_left; (intro w5 hS; skip; go_simp<;>rfl))
  | (refine Ord.co hT9.o ?_));try simp only [Act.put,zA,zZ,zS])
 refine Ord.InText.nil fun w5 hS=>?_;clear hT9;obtain ⟨hC9,hA9⟩:=Ord.chain_end hS;clear hS;replace hA9:Env w0 (boxI a (av S.c { M with n:=x })::LT { S with qc:={ S.qc with l:=wrap64 (S.qc.l+1) } } R) w5:=hA9;have r:=hA9.rule 0 rfl;unfold av at r;go_wp2_with fail;refine (goOn_m 0 _ _ _ (by simp [av]) (by exact congrArg some hz.out) hA9 rfl).mono ?_;rintro o w7 ⟨rfl,hE7⟩;go_wp2_with fail;go_ret;exact ⟨rfl,hE7⟩
theorem loadRetired_a (x:Int) (hfx:S.f (5,slotI M.h,1)=x) (hh:InU M.h) (hg:Glo w0) (hz:Hid (M.nx.2=.int .i64 0)) (hE:Env w0 (boxI a (av S.c M)::LT S R) w) :
  Calls prog 302 #[.pointer (some ⟨a,0,none⟩),.iface 28 (.pointer (some ⟨S.p,0,none⟩))] w fun o w'=>o=.returned (.int .i64 0)/\Env w0 (boxI a (av S.c { M with nx:=nxA a 6,r:=x })::LT { S with qc:={ S.qc with l:=wrap64 (S.qc.l+1) } } R) w':=by
 have hmf:=makeF;have hah:=ahead_load;have HX:=zH hfx;have HGL:=zH fun (v:World) (hv:Below w0.heap.size w0 v)=>lead_c M.h 0 false v hh (hg.keep' hv);have HWF:Hid (Wf (5,slotI M.h,1)):=zH (by have:=slotI_in M.h; unfold Wf In64; simp; omega);clear hfx hh;go_enter func302,ntmps302;go_wp2_with fail;refine Ord.wc [11,14] (fun v=>Below w0.heap.size w0 v/\∃ n9 r9,Blk 0 v a (av S.c { M with n:=n9,r:=r9 })) (fun k w'=>Env w0 (pick3 (boxI a (av S.c M)::LT S R) (boxI a (av S.c M)::LT { S with qc:={ S.qc with l:=wrap64 (S.qc.l+1) } } R) (boxI a (av S.c { M with r:=x })::LT { S with qc:={ S.qc with l:=wrap64 (S.qc.l+1) } } R) k) w') ⟨hE.drew.below,M.n,M.r,hE.drew.get 0 rfl⟩ hE.drew fun hT9=>?_
 repeat ((first
  | (refine Ord.cv ?_ hT9.o ?_ ?_; rotate_left; (intro w5 hS; obtain ⟨hS0,n9,r9,hS1⟩:=hS; have r:=Blk.rule hS1; unfold av at r; go_simp<;>rfl))
  | (refine Ord.co hT9.o ?_)
  | (refine Ord.cc ?_ ?_ ?_ hT9.o ?_ ?_ ?_; rotate_left 3; (intro w5 hS; obtain ⟨hS0,n9,r9,hS1⟩:=hS; have r:=Blk.rule hS1; unfold av at r; go_simp; constructor<;>rfl); (intro w5 hS; (first | (with_reducible refine kp (HGL.out _ hS.1) ?_ ?_; rfl; exact fun w6 hb6=>⟨⟨hS.1.trans (hb6.mono hS.1.size),Exists.elim hS.2 fun n9 h=>Exists.elim h fun r9 h=>⟨n9,r9,h.under hb6⟩⟩,fun k h=>h.over hb6⟩) | (with_reducible refine kp (part_any _ _ _ _) ?_ ?_; rfl; exact fun w6 hb6=>⟨⟨hS.1.trans (hb6.mono hS.1.size),Exists.elim hS.2 fun n9 h=>Exists.elim h fun r9 h=>⟨n9,r9,h.under hb6⟩⟩,fun k h=>h.over hb6⟩)))));try simp only [Act.put,zA,zZ,zS])
 refine Ord.ch_turn (v:=.agg #[.int .u64 x,.int .i64 0,.bool false]) 0 hT9.o rfl (by decide) (Or.inl rfl) (by rfl) ?_ ?_
 ·rintro w5 hC5 hA5;replace hA5:Env w0 (boxI a (av S.c M)::LT S R) w5:=hA5;go_simp;rw [method_load];simp only [Result.andThen_ok];go_simp;simp only [Ord.LandsIn];have hl:=load_w 5 (slotI M.h) 1 0 HWF.out 3 4 (by decide) hA5 rfl rfl;rw [HX.out] at hl;refine hl.mono ?_;rintro e w6 ⟨rfl,hE6⟩;exact ⟨rfl,⟨hE6.below,M.n,M.r,hE6.get 0 rfl⟩,hE6⟩
 try simp only [Act.put,zA,zZ,zS]
 repeat ((first
  | (refine Ord.cv ?_ hT9.o ?_ ?_; rotate_left; (intro w5 hS; skip; go_simp<;>rfl))
  | (refine Ord.co hT9.o ?_));try simp only [Act.put,zA,zZ,zS])
 refine Ord.ch_turn (v:=undef) 1 hT9.o rfl (by decide) (Or.inr ⟨_,rfl,by kernel_rfl⟩) (by rfl) ?_ ?_
 ·rintro w5 hC5 hA5;replace hA5:Env w0 (boxI a (av S.c M)::LT { S with qc:={ S.qc with l:=wrap64 (S.qc.l+1) } } R) w5:=hA5;have r:=hA5.rule 0 rfl;unfold av at r;have f6:=hA5.thaw 0 rfl 13 (by simp [av]);have f7:=hA5.thaw 0 rfl 14 (by simp [av]);have f8:=hA5.thaw 0 rfl 15 (by simp [av]);go_simp;have h9:=((hA5.put 0 rfl (j:=13) (by simp [av]) (.int .u64 x)).put 0 rfl (j:=14) (by simp [av]) (.int .i64 0)).put 0 rfl (j:=15) (by simp [av]) (.bool false);replace h9:Env w0 (boxI a (av S.c { M with r:=x })::LT { S with qc:={ S.qc with l:=wrap64 (S.qc.l+1) } } R) _:=h9;exact ⟨rfl,⟨h9.below,_,_,h9.get 0 rfl⟩,h9⟩
 try simp only [Act.put,zA,zZ,zS]
 repeat ((first
  | (refine Ord.cv ?_ hT9.o ?_ ?_; rotate_left; (intro w5 hS; skip; go_simp<;>rfl))
  | (refine Ord.co hT9.o ?_));try simp only [Act.put,zA,zZ,zS])
 refine Ord.InText.nil fun w5 hS=>?_;clear hT9;obtain ⟨hC9,hA9⟩:=Ord.chain_end hS;clear hS;replace hA9:Env w0 (boxI a (av S.c { M with r:=x })::LT { S with qc:={ S.qc with l:=wrap64 (S.qc.l+1) } } R) w5:=hA9;have r:=hA9.rule 0 rfl;unfold av at r;go_wp2_with fail;refine (goOn_m 0 _ _ _ (by simp [av]) (by exact congrArg some hz.out) hA9 rfl).mono ?_;rintro o w7 ⟨rfl,hE7⟩;go_wp2_with fail;go_ret;exact ⟨rfl,hE7⟩
end
theorem AF_over {w0 w w':World} {z0:List Value} {St:List Value->List Item->List Value->Prop} {κs:List Value} {fo:Option Value} (h:OrdF.AF w0 z0 St κs fo w) (hb:Below w.heap.size w w'):OrdF.AF w0 z0 St κs fo w':=by
 obtain ⟨L,zs,hst,⟨h1,h2,hE⟩ | ⟨n,hn,hE⟩⟩:=h
 ·exact ⟨L,zs,hst,.inl ⟨h1,h2,hE.over hb⟩⟩
 ·exact ⟨L,zs,hst,.inr ⟨n,hn,hE.over hb⟩⟩
end
end Go.Proofs.YtffncfmciockmaaGreatDoor
