/- What is proved on the way to the statement, part 1: contracts of the functions, among other things in memory. -/
import Derived.WalkKit
import Derived.Orders
import Derived.Lib.Hide
import Derived.Maps.OwnSet
import Derived.Test.YtleklonmmlfijaaGreatDoorChecked
import Derived.Deep.AppendLies
import Derived.Maps.AppendAt
import Derived.OneCell
import Derived.Laws.OwnMore
import Derived.Deep.Light
import Derived.Lib.SmallJoins
import Derived.Deep.Slices

open _root_.Go.Proofs.Tryz
set_option maxRecDepth 100000
set_option maxHeartbeats 25600000
namespace Go
abbrev zI (x : Int) : Value := .int .i64 x
abbrev zU (x : Int) : Value := .int .u64 x
abbrev zP (b : Nat) : Value := .pointer (some ⟨b, 0, none⟩)
theorem zH {p : Prop} (h : p) : RowKit.Hid p := h
theorem _root_.Go.RowKit.Hid.o {p : Prop} (h : RowKit.Hid p) : p := h
theorem zA {α : Type _} (l : List α) (i : Nat) (a : α) : l.toArray.setIfInBounds i a = (l.set i a).toArray := List.setIfInBounds_toArray ..
theorem zZ {α : Type _} (a b : α) (l : List α) : (a :: l).set 0 b = b :: l := rfl
theorem zS {α : Type _} (a b : α) (l : List α) (n : Nat) : (a :: l).set (n + 1) b = a :: l.set n b := rfl
end Go
namespace Go.Proofs.YtleklonmmlfijaaGreatDoor.Ord
section
open Go
section
variable {P:Program} {ops:Array Oper} {Q:Exit->Act->World->Prop} {md:Region.Mode} {S:Array Bool->World->Prop}
def LandsIn (P:Program) (T:World->Prop) (v:Value):Result Next->Prop
 | .ok (.value u) w'=>u=v/\T w'
 | .ok .skip w'=>v=undef/\T w'
 | .ok (.enter f args) w'=>Calls P f args w' fun e iK=>e=.returned v/\T iK
 | _=>False
theorem LandsIn.mono {T T':World->Prop} {v:Value} {r:Result Next} (h:LandsIn P T v r) (hT:∀ w,T w->T' w):LandsIn P T' v r:=by
 cases r with
 | ok n w' =>
  cases n<;>simp only[LandsIn] at *
  case value u=>exact⟨h.1,hT _ h.2⟩
  case skip=>exact⟨h.1,hT _ h.2⟩
  case enter f args=>exact h.mono fun e iK he=>⟨he.1,hT _ he.2⟩
 | halt x w'=>simp only[LandsIn] at h
def ew (P:Program) (md:Region.Mode) (ops:Array Oper) (S:Array Bool->World->Prop) (i:Nat) (o:Oper) (v:Value) (a:Act):Prop :=
 (Region.wanted o (yielded ops a.tmps)=true/\∀ l w,i∈Region.ready md ops l->S l w->LandsIn P (S (l.setIfInBounds i true)) v ((execOp a.eval o).run P w)) \/
 (Region.wanted o (yielded ops a.tmps)=false/\v=undef/\∀ l w,i∈Region.ready md ops l->S l w->S (l.setIfInBounds i true) w)
theorem ew.of_same {i:Nat} {o:Oper} {v:Value} {a a':Act} (h:ew P md ops S i o v a) (he:execOp a'.eval o=execOp a.eval o)
  (hw:Region.wanted o (yielded ops a'.tmps)=Region.wanted o (yielded ops a.tmps)):ew P md ops S i o v a':=by
 unfold ew at *;rw[he,hw];exact h
theorem ew.wpOp {i:Nat} {o:Oper} {v:Value} {a:Act} {l:Array Bool} (hi:ops[i]?=some o) (h:ew P md ops S i o v a) (hr:i∈Region.ready md ops l) {K:Act->World->Prop} {w:World} (hS:S l w)
  (hK:∀ w',S (l.setIfInBounds i true) w'->K (a.put o.dst v) w'):wpOp P ops Q i K a w:=by
 unfold Go.wpOp;simp only[hi]
 rcases h with ⟨hw,hv⟩ | ⟨hw,rfl,hv⟩
 ·simp only[hw,if_true];have:=hv l w hr hS;refine .inl ?_;unfold Oper.wp;generalize (execOp a.eval o).run P w=r at *;cases r with
  | ok n w' =>
   cases n<;>simp only[LandsIn] at this<;>simp only[Oper.upon]
   case value u=>obtain⟨rfl,h2⟩:=this;exact hK _ h2
   case skip=>obtain⟨rfl,h2⟩:=this;exact hK _ h2
   case enter f args =>
    refine Calls.mono this fun e iK he=>?_;obtain⟨rfl,h2⟩:=he;exact hK _ h2
  | halt x w'=>simp only[LandsIn] at this
 ·simp only[hw,Bool.false_eq_true,if_false];exact hK _ (hv l w hr hS)
def eM (P:Program) (md:Region.Mode) (ops:Array Oper) (Q:Exit->Act->World->Prop) (S:Array Bool->World->Prop):Nat->Array Bool->Act->Prop
 | 0,listed,a=>Region.ready md ops listed=[]/\∀ w,S listed w->Q .normal a w
 | fuel+1,listed,a=>(Region.ready md ops listed=[]->∀ w,S listed w->Q .normal a w) /\
  ∀ i∈Region.ready md ops listed,∃ o v,ops[i]?=some o/\ew P md ops S i o v a/\eM P md ops Q S fuel (listed.setIfInBounds i true) (a.put o.dst v)
theorem eM.sound:∀ (fuel:Nat) (listed:Array Bool) (a:Act),eM P md ops Q S fuel listed a->∀ w,S listed w->wpAny P md ops Q fuel listed a w
 | 0,_,_,h,w,hS=>⟨h.1,h.2 w hS⟩
 | fuel+1,listed,a,h,w,hS=>⟨fun h0=>h.1 h0 w hS,fun i hi=>by
   obtain⟨o,v,ho,hs,hE⟩:=h.2 i hi;exact hs.wpOp ho hi hS fun w' gF=>eM.sound fuel _ _ hE w' gF⟩
theorem eM.first {i:Nat} {oi:Oper} {v:Value} (hi:ops[i]?=some oi) (kG:∀ (j:Nat) (o:Oper) cs b,ops[j]?=some o->o.op≠.select cs b) :
  ∀ (fuel:Nat) (listed:Array Bool) (a:Act),
   (∀ j oj,ops[j]?=some oj->j≠i->listed.getD j true=false->(∀ e∈oj.after,Region.binds md e=true->e.on≠i)->oi.apart ops oj=true) ->
   i∈Region.ready md ops listed->ew P md ops S i oi v a ->
   eM P md ops Q S fuel (listed.setIfInBounds i true) (a.put oi.dst v)->eM P md ops Q S (fuel+1) listed a:=by
 intro fuel
 induction fuel with
 | zero =>
  intro listed a _ hr hy H;refine⟨fun h=>(by rw[h] at hr;cases hr),fun j hj=>?_⟩
  by_cases fD:j=i
  ·subst fD;exact⟨oi,v,hi,hy,H⟩
  ·have:=ready_mono hj fD;rw[H.1] at this;cases this
 | succ fuel ih =>
  intro listed a pV hr hy H;refine⟨fun h=>(by rw[h] at hr;cases hr),fun j hj=>?_⟩
  by_cases fD:j=i
  ·subst fD;exact⟨oi,v,hi,hy,H⟩
  ·obtain⟨oj,u,kf,uH,hE⟩:=H.2 j (ready_mono hj fD);obtain⟨pW,ri,rj,eE⟩:=mem_ready.1 hj;obtain rfl:oj=ri:=Option.some.inj (kf.symm.trans rj);have rk:∀ e∈oj.after,Region.binds md e=true->e.on≠i:=fun e he hb heq=>by
    have h1:=eE e he hb;have h0:=(mem_ready.1 hr).1;rw[heq] at h1
    rcases Nat.lt_or_ge i listed.size with h' | h'
    ·simp[h'] at h0 h1;rw[h0] at h1;cases h1
    ·simp[Array.getElem?_eq_none h'] at h1
   have pX:=pV j oj kf fD pW rk;obtain⟨p1,p2,p3⟩:=Oper.apart_spec pX;have uI:∀ k ok,ops[k]?=some ok->k≠i->(listed.setIfInBounds j true).getD k true=false ->
     (∀ e∈ok.after,Region.binds md e=true->e.on≠i)->oi.apart ops ok=true:=fun k ok hk sU pY iY=>by
    refine pV k ok hk sU ?_ iY
    by_cases jz:j=k
    ·subst jz;exact pW
    ·rw[getD_set_ne true jz] at pY;exact pY
   refine⟨oj,u,kf,uH.of_same (execOp_put oj (fun cs b=>kG j oj cs b kf) a oi.dst v p1).symm (wanted_put oj a oi.dst v p1).symm,?_⟩;refine ih (listed.setIfInBounds j true) (a.put oj.dst u) uI (ready_mono hr (Ne.symm fD)) (hy.of_same (execOp_put oi (fun cs b=>kG i oi cs b hi) a oj.dst u p3) (wanted_put oi a oj.dst u p3)) ?_;rw[Array.setIfInBounds_comm _ _ fD,<- Act.put_comm a v u p2];exact hE
def du (n k:Nat):Array Bool:=Array.ofFn (n:=n) fun i=>decide (i.1 < k)
def dK (md:Region.Mode) (ops:Array Oper):Bool :=
 Region.noSelect ops && (List.range ops.size).all fun k=>Region.free md ops (du ops.size k) k && (Region.ready md ops (du ops.size k)).contains k
def InText (P:Program) (md:Region.Mode) (ops:Array Oper) (Q:Exit->Act->World->Prop) (S:Array Bool->World->Prop) (k:Nat) (rest:List Oper) (a:Act):Prop :=
 k+rest.length=ops.size->ops.toList.drop k=rest->eM P md ops Q S rest.length (du ops.size k) a
theorem wy (n k:Nat):(du n k).setIfInBounds k true=du n (k+1):=by
 apply Array.ext
 ·simp[du]
 ·intro i h1 h2
  by_cases gX:i=k
  ·subst gX;simp[du]
  ·have e:=Array.getElem_setIfInBounds_ne (xs:=du n k) (i:=k) (j:=i) (a:=true) (by simpa using h1) (by omega);rw[e];simp only[du,Array.getElem_ofFn]
   congr 1
   apply propext;omega
theorem ll (n k i:Nat) (h:i < n):(du n k).getD i false=decide (i < k):=by simp[du,h]
theorem InText.nil {a:Act} {k:Nat} (h:∀ w,S (du ops.size ops.size) w->Q .normal a w):InText P md ops Q S k [] a:=fun hk _=>by
 have oE:k=ops.size:=by simpa using hk
 subst oE;refine⟨?_,h⟩;unfold Region.ready;rw[List.filter_eq_nil_iff];intro i hi;have:i < ops.size:=by simpa using hi
 simp[du,this]
theorem InText.cons {o:Oper} {rest:List Oper} {a:Act} {v:Value} {k:Nat} (hf:dK md ops=true) (hs:ew P md ops S k o v a) (h:InText P md ops Q S (k+1) rest (a.put o.dst v)):InText P md ops Q S k (o::rest) a:=fun hk hd=>by
 unfold dK at hf;rw[Bool.and_eq_true,List.all_eq_true] at hf;have aE:k < ops.size:=by simp at hk;omega
 have jA:=hf.2 k (by simpa using aE);rw[Bool.and_eq_true] at jA;have ho:ops[k]?=some o:=by
  have h0:(ops.toList.drop k)[0]?=some o:=by rw[hd];rfl
  simpa using h0
 have kG:∀ (j:Nat) (o:Oper) cs b,ops[j]?=some o->o.op≠.select cs b:=Region.noSelect_spec hf.1;refine eM.first ho kG rest.length (du ops.size k) a (Region.free_spec ho jA.1) (by simpa using jA.2) hs ?_;rw[wy];refine h (by simp at hk;omega) ?_;rw[<- List.drop_drop,hd];rfl
theorem uJ {id:Nat} {a:Act} {w:World} (hm:P.follows .mixedOrders=true) (hf:dK .any ops=true) (hS:S (du ops.size 0) w.drew) (h:dK .any ops=true->InText P .any ops Q S 0 ops.toList a):(Code.region id ops true).wp P Q a w :=
 wp_region_any hm (by
  have h0:=h hf (by simp) rfl;have e:du ops.size 0=Array.replicate ops.size false:=by
   apply Array.ext
   ·simp[du]
   ·intro i h1 h2;simp[du]
  rw[e] at h0 hS
  simpa using eM.sound _ _ _ h0 _ hS)
def jB (md:Region.Mode) (ops:Array Oper) (k p:Nat):Bool :=
 match ops[k]? with
 | some o=>o.after.any fun e=>Region.binds md e && e.on==p
 | none=>false
theorem wz {l:Array Bool} {k p:Nat} (h:jB md ops k p=true) (hr:k∈Region.ready md ops l):l.getD p false=true:=by
 obtain⟨_,o,ho,eE⟩:=mem_ready.1 hr;unfold jB at h;rw[ho] at h;obtain⟨e,he,h2⟩:=Array.any_eq_true'.1 h;rw[Bool.and_eq_true] at h2;have:=eE e he h2.1
 rwa [show e.on=p by simpa using h2.2] at this
end
section
variable {P:Program} {ops:Array Oper} {Q:Exit->Act->World->Prop} {md:Region.Mode} {C:World->Prop} {A:Nat->World->Prop} {ps:List Nat}
def eN (n:Nat) (ps:List Nat) (C:World->Prop) (A:Nat->World->Prop) (l:Array Bool) (w:World):Prop :=
 l.size=n/\C w/\∃ j,j<=ps.length/\(∀ i p,ps[i]?=some p->p < n/\l.getD p false=decide (i < j))/\A j w
theorem sV {n:Nat} {w:World} (aE:∀ p∈ps,p < n) (hC:C w) (hA:A 0 w):eN n ps C A (du n 0) w:=by
 refine⟨by simp[du],hC,0,Nat.zero_le _,fun i p hp=>?_,hA⟩;have h:=aE p (List.mem_of_getElem? hp);exact⟨h,by rw[ll _ _ _ h];simp⟩
theorem chain_end {n:Nat} {w:World} (h:eN n ps C A (du n n) w):C w/\A ps.length w:=by
 obtain⟨_,hC,j,hj,hl,hA⟩:=h;refine⟨hC,?_⟩
 rcases Nat.lt_or_ge j ps.length with aE | kg
 ·exfalso
  have h1:=hl j ps[j] (by simp[aE]);rw[ll _ _ _ h1.1] at h1;simp at h1;omega
 ·rwa [show j=ps.length by omega] at hA
theorem kh {n:Nat} {l:Array Bool} {k:Nat} {w w':World} (hk:k ∉ ps) (h:eN n ps C A l w) (hC:C w') (hA:∀ j,A j w->A j w'):eN n ps C A (l.setIfInBounds k true) w':=by
 obtain⟨hs,_,j,hj,hl,iz⟩:=h;refine⟨by simpa using hs,hC,j,hj,fun i p hp=>?_,hA j iz⟩;have bu:k≠p:=fun e=>hk (e ▸ List.mem_of_getElem? hp);rw[Array.getD_eq_getD_getElem?,Array.getElem?_setIfInBounds,if_neg bu,<- Array.getD_eq_getD_getElem?];exact hl i p hp
theorem wp_chain (ps:List Nat) (C:World->Prop) (A:Nat->World->Prop) {id:Nat} {a:Act} {w:World} (hm:P.follows .mixedOrders=true) (hf:dK .any ops=true) (aE:(ps.all fun p=>decide (p < ops.size))=true) (hC:C w.drew) (hA:A 0 w.drew)
  (h:dK .any ops=true->InText P .any ops Q (eN ops.size ps C A) 0 ops.toList a):(Code.region id ops true).wp P Q a w :=
 uJ hm hf (sV (fun p hp=>by simpa using List.all_eq_true.1 aE p hp) hC hA) h
theorem ch_value {k:Nat} {o:Oper} {rest:List Oper} {a:Act} {v:Value} (hf:dK md ops=true) (hk:k ∉ ps) (hw:Region.wanted o (yielded ops a.tmps)=true) (hv:∀ w,C w->(execOp a.eval o).run P w=.ok (.value v) w)
  (h:InText P md ops Q (eN ops.size ps C A) (k+1) rest (a.put o.dst v)):InText P md ops Q (eN ops.size ps C A) k (o::rest) a :=
 InText.cons hf (Or.inl ⟨hw,fun l w _ hS=>by rw[hv w hS.2.1];exact⟨rfl,kh hk hS hS.2.1 fun _ h=>h⟩⟩) h
theorem G7 {k:Nat} {o:Oper} {rest:List Oper} {a:Act} (hf:dK md ops=true) (hk:k ∉ ps) (hw:Region.wanted o (yielded ops a.tmps)=false)
  (h:InText P md ops Q (eN ops.size ps C A) (k+1) rest (a.put o.dst undef)):InText P md ops Q (eN ops.size ps C A) k (o::rest) a :=
 InText.cons hf (Or.inr ⟨hw,rfl,fun l w _ hS=>kh hk hS hS.2.1 fun _ h=>h⟩) h
theorem G8 {k:Nat} {o:Oper} {rest:List Oper} {a:Act} {v:Value} {f:FuncId} {args:Array Value} (hf:dK md ops=true) (hk:k ∉ ps) (hw:Region.wanted o (yielded ops a.tmps)=true)
  (hr:∀ w,C w->(execOp a.eval o).run P w=.ok (.enter f args) w) (hc:∀ w,C w->Calls P f args w fun e w'=>e=.returned v/\C w'/\∀ j,A j w->A j w')
  (h:InText P md ops Q (eN ops.size ps C A) (k+1) rest (a.put o.dst v)):InText P md ops Q (eN ops.size ps C A) k (o::rest) a :=
 InText.cons hf (Or.inl ⟨hw,fun l w _ hS=>by rw[hr w hS.2.1];exact (hc w hS.2.1).mono fun e w' he=>⟨he.1,kh hk hS he.2.1 he.2.2⟩⟩) h
theorem cv {k:Nat} {o:Oper} {rest:List Oper} {a:Act} (v:Value) (hf:dK md ops=true) (hv:∀ w,C w->(execOp a.eval o).run P w=.ok (.value v) w) (h:InText P md ops Q (eN ops.size ps C A) (k+1) rest (a.put o.dst v)) (hk:k ∉ ps:=by decide) (hw:Region.wanted o (yielded ops a.tmps)=true:=by rfl):InText P md ops Q (eN ops.size ps C A) k (o::rest) a:=ch_value hf hk hw hv h
theorem co {k:Nat} {o:Oper} {rest:List Oper} {a:Act} (hf:dK md ops=true) (h:InText P md ops Q (eN ops.size ps C A) (k+1) rest (a.put o.dst undef)) (hk:k ∉ ps:=by decide) (hw:Region.wanted o (yielded ops a.tmps)=false:=by rfl):InText P md ops Q (eN ops.size ps C A) k (o::rest) a:=G7 hf hk hw h
theorem cc {k:Nat} {o:Oper} {rest:List Oper} {a:Act} (v:Value) (f:FuncId) (args:Array Value) (hf:dK md ops=true) (hr:∀ w,C w->(execOp a.eval o).run P w=.ok (.enter f args) w) (hc:∀ w,C w->Calls P f args w fun e w'=>e=.returned v/\C w'/\∀ j,A j w->A j w') (h:InText P md ops Q (eN ops.size ps C A) (k+1) rest (a.put o.dst v)) (hk:k ∉ ps:=by decide) (hw:Region.wanted o (yielded ops a.tmps)=true:=by rfl):InText P md ops Q (eN ops.size ps C A) k (o::rest) a:=G8 hf hk hw hr hc h
theorem wc (ps:List Nat) (C:World->Prop) (A:Nat->World->Prop) {id:Nat} {a:Act} {w:World} (hC:C w.drew) (hA:A 0 w.drew) (h:Go.RowKit.Hid (dK .any ops=true)->InText P .any ops Q (eN ops.size ps C A) 0 ops.toList a) (hm:P.follows .mixedOrders=true:=by kernel_rfl) (hf:dK .any ops=true:=by kernel_rfl) (aE:(ps.all fun p=>decide (p < ops.size))=true:=by kernel_rfl):(Code.region id ops true).wp P Q a w:=wp_chain ps C A hm hf aE hC hA fun h9=>h h9
theorem _root_.Go.kp {P:Program} {f:FuncId} {args:Array Value} {w:World} {u v:Value} {B Q:World->Prop} (h:Calls P f args w fun e w'=>e=.returned u/\B w') (e:Ending.returned u=.returned v) (g:∀ w',B w'->Q w'):Calls P f args w fun e w'=>e=.returned v/\Q w':=h.mono fun _ _ h=>⟨h.1.trans e,g _ h.2⟩
theorem ch_turn (j:Nat) {k:Nat} {o:Oper} {rest:List Oper} {a:Act} {v:Value} (hf:dK md ops=true) (hk:ps[j]?=some k) (ef:ps.Nodup) (hh:j=0\/∃ p,ps[j - 1]?=some p/\jB md ops k p=true) (hw:Region.wanted o (yielded ops a.tmps)=true)
  (hv:∀ w,C w->A j w->LandsIn P (fun w'=>C w'/\A (j+1) w') v ((execOp a.eval o).run P w))
  (h:InText P md ops Q (eN ops.size ps C A) (k+1) rest (a.put o.dst v)):InText P md ops Q (eN ops.size ps C A) k (o::rest) a :=
 InText.cons hf (Or.inl ⟨hw,fun l w hr hS=>by
  obtain⟨hs,hC,j',jk,hl,hA⟩:=hS;have kH:j < ps.length:=(List.getElem?_eq_some_iff.1 hk).1;have h1:=hl j k hk;have h2:l.getD k true=false:=(mem_ready.1 hr).1;have e2:l.getD k false=false:=by
   rw[Array.getD_eq_getD_getElem?] at h2 ⊢
   rcases Nat.lt_or_ge k l.size with ki | ki
   ·simp[ki] at h2 ⊢;exact h2
   ·simp[Array.getElem?_eq_none ki] at h2
  have h3:¬ j < j':=by rw[h1.2] at e2;simpa using e2
  have h4:j=j':=by
   rcases hh with rfl | ⟨p,hp,hg⟩
   ·omega
   ·rcases Nat.eq_zero_or_pos j with rfl | hj
    ·omega
    ·have h5:=hl (j - 1) p hp;have h6:=wz hg hr;rw[h5.2] at h6;have:j - 1 < j':=by simpa using h6
     omega
  subst h4;refine (hv w hC hA).mono fun w' nB=>⟨by simpa using hs,nB.1,j+1,by omega,fun i p hp=>?_,nB.2⟩;refine⟨(hl i p hp).1,?_⟩
  by_cases gX:p=k
  ·subst gX;have:i=j:=(List.getElem?_inj (List.getElem?_eq_some_iff.1 hp).1 ef).1 (hp.trans hk.symm);subst this;have gY:p < l.size:=by rw[hs];exact h1.1
   rw[Array.getD_eq_getD_getElem?,Array.getElem?_setIfInBounds,if_pos rfl];simp[gY]
  ·rw[Array.getD_eq_getD_getElem?,Array.getElem?_setIfInBounds,if_neg (fun e=>gX e.symm),<- Array.getD_eq_getD_getElem?,(hl i p hp).2];have bu:i≠j:=fun e=>gX (by subst e;exact Option.some.inj (hp.symm.trans hk))
   congr 1
   apply propext;omega⟩) h
end
section
variable {P:Program} {ops:Array Oper} {Q:Exit->Act->World->Prop} {md:Region.Mode} {C:World->Prop} {A:Nat->World->Prop} {ps:List Nat}
def kI (md:Region.Mode) (ops:Array Oper) (l:Array Bool):Prop :=
 ∀ i o,ops[i]?=some o->l.getD i false=true->∀ e∈o.after,Region.binds md e=true->l.getD e.on false=true
theorem kI.set {l:Array Bool} {k:Nat} (h:kI md ops l) (hr:k∈Region.ready md ops l):kI md ops (l.setIfInBounds k true):=by
 intro i o ho hl e he hb;have grow:∀ j,l.getD j false=true->(l.setIfInBounds k true).getD j false=true:=fun j hj=>by
  rw[Array.getD_eq_getD_getElem?] at hj ⊢;rw[Array.getElem?_setIfInBounds]
  split
  ·rename_i e;subst e
   split
   ·rfl
   ·rename_i hn;rw[Array.getElem?_eq_none (by omega)] at hj;simp at hj
  ·exact hj
 by_cases gX:i=k
 ·subst gX;obtain⟨_,o',lS,eE⟩:=mem_ready.1 hr;obtain rfl:o=o':=Option.some.inj (ho.symm.trans lS);exact grow _ (eE e he hb)
 ·refine grow _ (h i o ho ?_ e he hb);rw[Array.getD_eq_getD_getElem?] at hl ⊢
  rwa [Array.getElem?_setIfInBounds,if_neg (fun e=>gX e.symm)] at hl
def nC (md:Region.Mode) (ops:Array Oper) (ps:List Nat) (C:World->Prop) (A:Nat->World->Prop) (l:Array Bool) (w:World):Prop:=kI md ops l/\eN ops.size ps C A l w
theorem ew.closed {S:Array Bool->World->Prop} {i:Nat} {o:Oper} {v:Value} {a:Act} (h:ew P md ops S i o v a):ew P md ops (fun l w=>kI md ops l/\S l w) i o v a:=by
 rcases h with ⟨h1,h2⟩ | ⟨h1,h2,h3⟩
 ·exact .inl ⟨h1,fun l w hr hS=>(h2 l w hr hS.2).mono fun w' nB=>⟨hS.1.set hr,nB⟩⟩
 ·exact .inr ⟨h1,h2,fun l w hr hS=>⟨hS.1.set hr,h3 l w hr hS.2⟩⟩
theorem chain2_end {w:World} (h:nC md ops ps C A (du ops.size ops.size) w):C w/\A ps.length w:=chain_end h.2
theorem wp_chain2 (ps:List Nat) (C:World->Prop) (A:Nat->World->Prop) {id:Nat} {a:Act} {w:World} (hm:P.follows .mixedOrders=true) (hf:dK .any ops=true) (aE:(ps.all fun p=>decide (p < ops.size))=true) (hC:C w.drew) (hA:A 0 w.drew)
  (h:dK .any ops=true->InText P .any ops Q (nC .any ops ps C A) 0 ops.toList a):(Code.region id ops true).wp P Q a w :=
 uJ hm hf ⟨fun i o ho hl=>(by
  have hi:i < ops.size:=(Array.getElem?_eq_some_iff.1 ho).1;rw[ll _ _ _ hi] at hl;simp at hl),sV (fun p hp=>by simpa using List.all_eq_true.1 aE p hp) hC hA⟩ h
theorem ch2_value {k:Nat} {o:Oper} {rest:List Oper} {a:Act} {v:Value} (hf:dK md ops=true) (hk:k ∉ ps) (hw:Region.wanted o (yielded ops a.tmps)=true) (hv:∀ w,C w->(execOp a.eval o).run P w=.ok (.value v) w)
  (h:InText P md ops Q (nC md ops ps C A) (k+1) rest (a.put o.dst v)):InText P md ops Q (nC md ops ps C A) k (o::rest) a :=
 InText.cons hf (ew.closed (Or.inl ⟨hw,fun l w _ hS=>by rw[hv w hS.2.1];exact⟨rfl,kh hk hS hS.2.1 fun _ h=>h⟩⟩)) h
theorem ch2_early (m:Nat) {p:Nat} {k:Nat} {o:Oper} {rest:List Oper} {a:Act} {v:Value} (hf:dK md ops=true) (hk:k ∉ ps) (hp:ps[m]?=some p) (hh:jB md ops p k=true) (lq:k < ops.size) (hw:Region.wanted o (yielded ops a.tmps)=true)
  (hv:∀ w j,j<=m->C w->A j w->(execOp a.eval o).run P w=.ok (.value v) w)
  (h:InText P md ops Q (nC md ops ps C A) (k+1) rest (a.put o.dst v)):InText P md ops Q (nC md ops ps C A) k (o::rest) a :=
 InText.cons hf (Or.inl ⟨hw,fun l w hr hS=>by
  obtain⟨hc,hS⟩:=hS;have gF:=hS;obtain⟨hs,hC,j,hj,hl,hA⟩:=hS;have lu:j<=m:=by
   rcases Nat.lt_or_ge m j with aE | kg
   ·exfalso
    have h1:=hl m p hp;have h2:l.getD p false=true:=by rw[h1.2];simpa using aE
    have h0:l.getD k true=false:=(mem_ready.1 hr).1;unfold jB at hh;have aS:∃ o',ops[p]?=some o':=⟨_,Array.getElem?_eq_getElem h1.1⟩;obtain⟨o',lS⟩:=aS;rw[lS] at hh;obtain⟨e,he,h3⟩:=Array.any_eq_true'.1 hh;rw[Bool.and_eq_true] at h3;have h4:=hc p o' lS h2 e he h3.1;rw[show e.on=k by simpa using h3.2] at h4;rw[Array.getD_eq_getD_getElem?] at h4 h0;have gy:k < l.size:=by rw[hs];exact lq
    simp[gy] at h4 h0;rw[h0] at h4;cases h4
   ·exact kg
  rw[hv w j lu hC hA];exact⟨rfl,hc.set hr,kh hk gF hC fun _ h=>h⟩⟩) h
theorem Ha (j:Nat) {k:Nat} {o:Oper} {a:Act} {v:Value} (hk:ps[j]?=some k) (ef:ps.Nodup) (hh:j=0\/∃ p,ps[j - 1]?=some p/\jB md ops k p=true) (hw:Region.wanted o (yielded ops a.tmps)=true)
  (hv:∀ w,C w->A j w->LandsIn P (fun w'=>C w'/\A (j+1) w') v ((execOp a.eval o).run P w)):ew P md ops (eN ops.size ps C A) k o v a :=
 Or.inl ⟨hw,fun l w hr hS=>by
  obtain⟨hs,hC,j',jk,hl,hA⟩:=hS;have kH:j < ps.length:=(List.getElem?_eq_some_iff.1 hk).1;have h1:=hl j k hk;have h2:l.getD k true=false:=(mem_ready.1 hr).1;have e2:l.getD k false=false:=by
   rw[Array.getD_eq_getD_getElem?] at h2 ⊢
   rcases Nat.lt_or_ge k l.size with ki | ki
   ·simp[ki] at h2 ⊢;exact h2
   ·simp[Array.getElem?_eq_none ki] at h2
  have h3:¬ j < j':=by rw[h1.2] at e2;simpa using e2
  have h4:j=j':=by
   rcases hh with rfl | ⟨p,hp,hg⟩
   ·omega
   ·rcases Nat.eq_zero_or_pos j with rfl | hj
    ·omega
    ·have h5:=hl (j - 1) p hp;have h6:=wz hg hr;rw[h5.2] at h6;have:j - 1 < j':=by simpa using h6
     omega
  subst h4;refine (hv w hC hA).mono fun w' nB=>⟨by simpa using hs,nB.1,j+1,by omega,fun i p hp=>?_,nB.2⟩;refine⟨(hl i p hp).1,?_⟩
  by_cases gX:p=k
  ·subst gX;have:i=j:=(List.getElem?_inj (List.getElem?_eq_some_iff.1 hp).1 ef).1 (hp.trans hk.symm);subst this;have gY:p < l.size:=by rw[hs];exact h1.1
   rw[Array.getD_eq_getD_getElem?,Array.getElem?_setIfInBounds,if_pos rfl];simp[gY]
  ·rw[Array.getD_eq_getD_getElem?,Array.getElem?_setIfInBounds,if_neg (fun e=>gX e.symm),<- Array.getD_eq_getD_getElem?,(hl i p hp).2];have bu:i≠j:=fun e=>gX (by subst e;exact Option.some.inj (hp.symm.trans hk))
   congr 1
   apply propext;omega⟩
theorem ch2_turn (j:Nat) {k:Nat} {o:Oper} {rest:List Oper} {a:Act} {v:Value} (hf:dK md ops=true) (hk:ps[j]?=some k) (ef:ps.Nodup) (hh:j=0\/∃ p,ps[j - 1]?=some p/\jB md ops k p=true) (hw:Region.wanted o (yielded ops a.tmps)=true)
  (hv:∀ w,C w->A j w->LandsIn P (fun w'=>C w'/\A (j+1) w') v ((execOp a.eval o).run P w))
  (h:InText P md ops Q (nC md ops ps C A) (k+1) rest (a.put o.dst v)):InText P md ops Q (nC md ops ps C A) k (o::rest) a :=
 InText.cons hf (ew.closed (Ha j hk ef hh hw hv)) h
def oF (md:Region.Mode) (ops:Array Oper):List Nat->Bool
 | a::b::rest=>jB md ops a b && oF md ops (b::rest)
 | _=>true
theorem kI.step {l:Array Bool} (hc:kI md ops l) {a b:Nat} (h:jB md ops a b=true) (ha:l.getD a false=true):l.getD b false=true:=by
 unfold jB at h
 rcases ho:ops[a]? with _ | o
 ·rw[ho] at h;cases h
 ·rw[ho] at h;obtain⟨e,he,h3⟩:=Array.any_eq_true'.1 h;rw[Bool.and_eq_true] at h3;have h4:=hc a o ho ha e he h3.1
  rwa [show e.on=b by simpa using h3.2] at h4
theorem kI.path {l:Array Bool} (hc:kI md ops l):∀ (path:List Nat) (a:Nat),oF md ops (a::path)=true->l.getD a false=true->∀ p,(a::path).getLast?=some p->l.getD p false=true
 | [],a,_,ha,p,hp=>by simp at hp;rwa [<- hp]
 | b::rest,a,h,ha,p,hp=>by
  simp only[oF,Bool.and_eq_true] at h;refine kI.path hc rest b h.2 (hc.step h.1 ha) p ?_
  rwa [List.getLast?_cons_cons] at hp
theorem late {n:Nat} {l:Array Bool} {k b p m:Nat} {path:List Nat} {j:Nat} (hc:kI md ops l) (hr:k∈Region.ready md ops l) (hb:jB md ops k b=true) (rm:oF md ops (b::path)=true) (rn:(b::path).getLast?=some p) (hp:ps[m]?=some p)
  (hl:∀ i p,ps[i]?=some p->p < n/\l.getD p false=decide (i < j)):m < j:=by
 have h1:=hc.path path b rm (wz hb hr) p rn;rw[(hl m p hp).2] at h1
 simpa using h1
end
end
end Go.Proofs.YtleklonmmlfijaaGreatDoor.Ord
namespace Go.Proofs.YtleklonmmlfijaaGreatDoor.Ord3
section
open Go Go.Proofs.YtleklonmmlfijaaGreatDoor.Ord
section
variable {P:Program} {ops:Array Oper} {Q:Exit->Act->World->Prop} {md:Region.Mode} {V:Nat->Value->Prop} {S:Array Bool->(Nat->Value)->World->Prop}
def Lands (P:Program) (T:Value->World->Prop):Result Next->Prop
 | .ok (.value u) w'=>T u w'
 | .ok .skip w'=>T undef w'
 | .ok (.enter f args) w'=>Calls P f args w' fun e iK=>∃ v,e=.returned v/\T v iK
 | _=>False
theorem Lands.mono {T T':Value->World->Prop} {r:Result Next} (h:Lands P T r) (hT:∀ v w,T v w->T' v w):Lands P T' r:=by
 cases r with
 | ok n w' =>
  cases n<;>simp only[Lands] at *
  case value u=>exact hT _ _ h
  case skip=>exact hT _ _ h
  case enter f args=>exact h.mono fun e iK ⟨v,he,ht⟩=>⟨v,he,hT _ _ ht⟩
 | halt x w'=>simp only[Lands] at h
def up (f:Nat->Value) (i:Nat) (v:Value):Nat->Value:=fun j=>if j=i then v else f j
theorem Hb (f:Nat->Value) {i j:Nat} (u v:Value) (h:i≠j):up (up f i u) j v=up (up f j v) i u:=by
 funext k;unfold up;by_cases h1:k=j<;>by_cases h2:k=i<;>simp[h1,h2]<;>omega
def ew (P:Program) (md:Region.Mode) (ops:Array Oper) (V:Nat->Value->Prop) (S:Array Bool->(Nat->Value)->World->Prop) (i:Nat) (o:Oper) (listed:Array Bool) (κ:Nat->Value) (a:Act):Prop :=
 (Region.wanted o (yielded ops a.tmps)=true/\∀ l ρ w,i∈Region.ready md ops l->(∀ j,l.getD j false=true->V j (ρ j))->(∀ j,listed.getD j false=true->l.getD j false=true->ρ j=κ j)->S l ρ w ->
   Lands P (fun v w'=>V i v/\S (l.setIfInBounds i true) (up ρ i v) w') ((execOp a.eval o).run P w)) \/
 (Region.wanted o (yielded ops a.tmps)=false/\V i undef/\∀ l ρ w,i∈Region.ready md ops l->S l ρ w->S (l.setIfInBounds i true) (up ρ i undef) w)
theorem ew.wpOp {i:Nat} {o:Oper} {a:Act} {l:Array Bool} {κ:Nat->Value} (hi:ops[i]?=some o) (h:ew P md ops V S i o l κ a) (hr:i∈Region.ready md ops l) {K:Act->World->Prop} {w:World} (hV:∀ j,l.getD j false=true->V j (κ j)) (hS:S l κ w)
  (hK:∀ v w',V i v->S (l.setIfInBounds i true) (up κ i v) w'->K (a.put o.dst v) w'):wpOp P ops Q i K a w:=by
 unfold Go.wpOp;simp only[hi]
 rcases h with ⟨hw,hv⟩ | ⟨hw,hu,hv⟩
 ·simp only[hw,if_true];have:=hv l κ w hr hV (fun _ _ _=>rfl) hS;refine .inl ?_;unfold Oper.wp;generalize (execOp a.eval o).run P w=r at *;cases r with
  | ok n w' =>
   cases n<;>simp only[Lands] at this<;>simp only[Oper.upon]
   case value u=>exact hK _ _ this.1 this.2
   case skip=>exact hK _ _ this.1 this.2
   case enter f args =>
    refine Calls.mono this fun e iK he=>?_;obtain⟨v,rfl,h1,h2⟩:=he;exact hK _ _ h1 h2
  | halt x w'=>simp only[Lands] at this
 ·simp only[hw,Bool.false_eq_true,if_false];exact hK _ _ hu (hv l κ w hr hS)
def eM (P:Program) (md:Region.Mode) (ops:Array Oper) (Q:Exit->Act->World->Prop) (V:Nat->Value->Prop) (S:Array Bool->(Nat->Value)->World->Prop):Nat->Array Bool->(Nat->Value)->Act->Prop
 | 0,listed,κ,a=>Region.ready md ops listed=[]/\∀ w,S listed κ w->Q .normal a w
 | fuel+1,listed,κ,a=>(Region.ready md ops listed=[]->∀ w,S listed κ w->Q .normal a w) /\
  ∀ i∈Region.ready md ops listed,∃ o,ops[i]?=some o/\ew P md ops V S i o listed κ a/\∀ v,V i v->eM P md ops Q V S fuel (listed.setIfInBounds i true) (up κ i v) (a.put o.dst v)
theorem CA {l:Array Bool} {i j:Nat} (h:(l.setIfInBounds i true).getD j false=true):j=i\/l.getD j false=true:=by
 by_cases e:i=j
 ·exact .inl e.symm
 ·right
  rw[Array.getD_eq_getD_getElem?,Array.getElem?_setIfInBounds,if_neg e,<- Array.getD_eq_getD_getElem?] at h;exact h
theorem sW {l:Array Bool} {i:Nat} (h:i∈Region.ready md ops l):l.getD i false=false:=by
 have h2:l.getD i true=false:=(mem_ready.1 h).1;rw[Array.getD_eq_getD_getElem?] at h2 ⊢
 rcases Nat.lt_or_ge i l.size with ki | ki
 ·simp[ki] at h2 ⊢;exact h2
 ·simp[Array.getElem?_eq_none ki] at h2
theorem eM.sound:∀ (fuel:Nat) (listed:Array Bool) (κ:Nat->Value) (a:Act),eM P md ops Q V S fuel listed κ a->(∀ j,listed.getD j false=true->V j (κ j))->∀ w,S listed κ w->wpAny P md ops Q fuel listed a w
 | 0,_,_,_,h,_,w,hS=>⟨h.1,h.2 w hS⟩
 | fuel+1,listed,κ,a,h,hV,w,hS=>⟨fun h0=>h.1 h0 w hS,fun i hi=>by
   obtain⟨o,ho,hs,hE⟩:=h.2 i hi;refine hs.wpOp ho hi hV hS fun v w' hv gF=>eM.sound fuel _ _ _ (hE v hv) (fun j hj=>?_) w' gF;unfold up
   split
   ·rename_i e;subst e;exact hv
   ·rename_i e;exact hV j ((CA hj).resolve_left e)⟩
theorem ew.of_same {i:Nat} {o:Oper} {a a':Act} {l:Array Bool} {κ:Nat->Value} (h:ew P md ops V S i o l κ a) (he:execOp a'.eval o=execOp a.eval o)
  (hw:Region.wanted o (yielded ops a'.tmps)=Region.wanted o (yielded ops a.tmps)):ew P md ops V S i o l κ a':=by
 unfold ew at *;rw[he,hw];exact h
theorem eM.first {i:Nat} {oi:Oper} (hi:ops[i]?=some oi) (kG:∀ (j:Nat) (o:Oper) cs b,ops[j]?=some o->o.op≠.select cs b) (v0:Value) (iL:V i v0) :
  ∀ (fuel:Nat) (listed:Array Bool) (κ:Nat->Value) (a:Act),
   (∀ j oj,ops[j]?=some oj->j≠i->listed.getD j true=false->(∀ e∈oj.after,Region.binds md e=true->e.on≠i)->oi.apart ops oj=true) ->
   i∈Region.ready md ops listed->ew P md ops V S i oi listed κ a ->
   (∀ v,V i v->eM P md ops Q V S fuel (listed.setIfInBounds i true) (up κ i v) (a.put oi.dst v))->eM P md ops Q V S (fuel+1) listed κ a:=by
 intro fuel
 induction fuel with
 | zero =>
  intro listed κ a _ hr hy H;refine⟨fun h=>(by rw[h] at hr;cases hr),fun j hj=>?_⟩
  by_cases fD:j=i
  ·subst fD;exact⟨oi,hi,hy,H⟩
  ·have:=ready_mono hj fD;rw[(H v0 iL).1] at this;cases this
 | succ fuel ih =>
  intro listed κ a pV hr hy H;refine⟨fun h=>(by rw[h] at hr;cases hr),fun j hj=>?_⟩
  by_cases fD:j=i
  ·subst fD;exact⟨oi,hi,hy,H⟩
  ·obtain⟨oj,kf,Hc,dv⟩:=(H v0 iL).2 j (ready_mono hj fD);have HJ:∀ v,V i v->ew P md ops V S j oj (listed.setIfInBounds i true) (up κ i v) (a.put oi.dst v)/\∀ u,V j u->eM P md ops Q V S fuel ((listed.setIfInBounds i true).setIfInBounds j true) (up (up κ i v) j u) ((a.put oi.dst v).put oj.dst u):=fun v hv=>by
    obtain⟨ri,rj,uH,hE⟩:=(H v hv).2 j (ready_mono hj fD);obtain rfl:oj=ri:=Option.some.inj (kf.symm.trans rj);exact⟨uH,hE⟩
   obtain⟨pW,ri,rj,eE⟩:=mem_ready.1 hj;obtain rfl:oj=ri:=Option.some.inj (kf.symm.trans rj);have rk:∀ e∈oj.after,Region.binds md e=true->e.on≠i:=fun e he hb heq=>by
    have h1:=eE e he hb;rw[heq,Array.getD_eq_getD_getElem?] at h1;have h0:=sW hr;rw[Array.getD_eq_getD_getElem?] at h0;rw[h0] at h1;cases h1
   have pX:=pV j oj kf fD pW rk;obtain⟨p1,p2,p3⟩:=Oper.apart_spec pX;have uI:∀ k ok,ops[k]?=some ok->k≠i->(listed.setIfInBounds j true).getD k true=false ->
     (∀ e∈ok.after,Region.binds md e=true->e.on≠i)->oi.apart ops ok=true:=fun k ok hk sU pY iY=>by
    refine pV k ok hk sU ?_ iY
    by_cases jz:j=k
    ·subst jz;exact pW
    ·rw[getD_set_ne true jz] at pY;exact pY
   have hex:∀ v,execOp a.eval oj=execOp (a.put oi.dst v).eval oj:=fun v=>(execOp_put oj (fun cs b=>kG j oj cs b kf) a oi.dst v p1).symm;have wA:∀ v,Region.wanted oj (yielded ops a.tmps)=Region.wanted oj (yielded ops (a.put oi.dst v).tmps):=fun v=>(wanted_put oj a oi.dst v p1).symm;refine⟨oj,kf,?_,fun u hu=>?_⟩
   ·rcases Hc with ⟨hw,_⟩ | ⟨hw,hu,hv⟩
    ·refine .inl ⟨(wA v0).trans hw,fun l ρ w pZ jP nD yF=>?_⟩;have pick:∃ v,V i v/\(l.getD i false=true->ρ i=v):=by
      cases uK:l.getD i false
      ·exact⟨v0,iL,fun h=>by cases h⟩
      ·exact⟨ρ i,jP i uK,fun _=>rfl⟩
     obtain⟨v,hv,hρ⟩:=pick
     rcases (HJ v hv).1 with ⟨_,cZ⟩ | ⟨nB,_⟩
     ·rw[hex v];refine cZ l ρ w pZ jP (fun j' h1 h2=>?_) yF;unfold up
      split
      ·rename_i e;subst e;exact hρ h2
      ·rename_i e;exact nD j' ((CA h1).resolve_left e) h2
     ·rw[<- wA v,wA v0,hw] at nB;cases nB
    ·exact .inr ⟨(wA v0).trans hw,hu,hv⟩
   ·refine ih (listed.setIfInBounds j true) (up κ j u) (a.put oj.dst u) uI (ready_mono hr (Ne.symm fD)) ?_ fun v hv=>?_
    ·refine (show ew P md ops V S i oi (listed.setIfInBounds j true) (up κ j u) a from ?_).of_same (execOp_put oi (fun cs b=>kG i oi cs b hi) a oj.dst u p3) (wanted_put oi a oj.dst u p3)
     rcases hy with ⟨hw,cZ⟩ | hy
     ·refine .inl ⟨hw,fun l ρ w pZ jP nD yF=>cZ l ρ w pZ jP (fun j' h1 h2=>?_) yF⟩;have bu:j'≠j:=fun e=>by
       rw[e,sW hj] at h1;cases h1
      have h3:(listed.setIfInBounds j true).getD j' false=true:=by
       rw[Array.getD_eq_getD_getElem?,Array.getElem?_setIfInBounds,if_neg (fun e=>bu e.symm),<- Array.getD_eq_getD_getElem?];exact h1
      have:=nD j' h3 h2;rw[this];unfold up;rw[if_neg bu]
     ·exact .inr hy
    ·have:=(HJ v hv).2 u hu;rw[Array.setIfInBounds_comm _ _ fD,<- Act.put_comm a v u p2,Hb κ u v fD];exact this
def InText (P:Program) (md:Region.Mode) (ops:Array Oper) (Q:Exit->Act->World->Prop) (V:Nat->Value->Prop) (S:Array Bool->(Nat->Value)->World->Prop) (k:Nat) (rest:List Oper) (κ:Nat->Value) (a:Act):Prop :=
 k+rest.length=ops.size->ops.toList.drop k=rest->eM P md ops Q V S rest.length (du ops.size k) κ a
theorem InText.nil {a:Act} {k:Nat} {κ:Nat->Value} (h:∀ w,S (du ops.size ops.size) κ w->Q .normal a w):InText P md ops Q V S k [] κ a:=fun hk _=>by
 have oE:k=ops.size:=by simpa using hk
 subst oE;refine⟨?_,h⟩;unfold Region.ready;rw[List.filter_eq_nil_iff];intro i hi;have:i < ops.size:=by simpa using hi
 simp[du,this]
theorem InText.cons {o:Oper} {rest:List Oper} {a:Act} {k:Nat} {κ:Nat->Value} (hf:dK md ops=true) (v0:Value) (iL:V k v0) (hs:ew P md ops V S k o (du ops.size k) κ a) (h:∀ v,V k v->InText P md ops Q V S (k+1) rest (up κ k v) (a.put o.dst v)):InText P md ops Q V S k (o::rest) κ a:=fun hk hd=>by
 unfold dK at hf;rw[Bool.and_eq_true,List.all_eq_true] at hf;have aE:k < ops.size:=by simp at hk;omega
 have jA:=hf.2 k (by simpa using aE);rw[Bool.and_eq_true] at jA;have ho:ops[k]?=some o:=by
  have h0:(ops.toList.drop k)[0]?=some o:=by rw[hd];rfl
  simpa using h0
 have kG:∀ (j:Nat) (o:Oper) cs b,ops[j]?=some o->o.op≠.select cs b:=Region.noSelect_spec hf.1;refine eM.first ho kG v0 iL rest.length (du ops.size k) κ a (Region.free_spec ho jA.1) (by simpa using jA.2) hs fun v hv=>?_;rw[wy];refine h v hv (by simp at hk;omega) ?_;rw[<- List.drop_drop,hd];rfl
theorem uJ {id:Nat} {a:Act} {w:World} (κ:Nat->Value) (hm:P.follows .mixedOrders=true) (hf:dK .any ops=true) (hS:S (du ops.size 0) κ w.drew) (h:dK .any ops=true->InText P .any ops Q V S 0 ops.toList κ a):(Code.region id ops true).wp P Q a w :=
 wp_region_any hm (by
  have h0:=h hf (by simp) rfl;have e:du ops.size 0=Array.replicate ops.size false:=by
   apply Array.ext
   ·simp[du]
   ·intro i h1 h2;simp[du]
  rw[e] at h0 hS
  simpa using eM.sound _ _ _ _ h0 (fun j hj=>by
   rw[Array.getD_eq_getD_getElem?,Array.getElem?_replicate] at hj
   split at hj<;>simp at hj) _ hS)
end
section
variable {P:Program} {ops:Array Oper} {Q:Exit->Act->World->Prop} {md:Region.Mode} {C:World->Prop} {A:List Value->World->Prop} {ps:List Nat} {vs:List (Value->Prop)}
def VS (vs:List (Value->Prop)) (k:Nat) (v:Value):Prop:=∃ p,vs[k]?=some p/\p v
def eN (md:Region.Mode) (ops:Array Oper) (ps:List Nat) (C:World->Prop) (A:List Value->World->Prop) (l:Array Bool) (ρ:Nat->Value) (w:World):Prop :=
 kI md ops l/\l.size=ops.size/\C w/\∃ j,j<=ps.length/\(∀ i p,ps[i]?=some p->p < ops.size/\l.getD p false=decide (i < j))/\A ((ps.take j).map ρ) w
theorem kj {ps:List Nat} {ρ:Nat->Value} {k:Nat} {v:Value} (h:k ∉ ps):ps.map (up ρ k v)=ps.map ρ :=
 List.map_congr_left fun x hx=>by
  have bu:x≠k:=fun e=>h (by rw[<- e];exact hx);unfold up;rw[if_neg bu]
theorem sV {w:World} {ρ:Nat->Value} (aE:∀ p∈ps,p < ops.size) (hC:C w) (hA:A [] w):eN md ops ps C A (du ops.size 0) ρ w:=by
 refine⟨fun i o ho hl=>?_,by simp[du],hC,0,Nat.zero_le _,fun i p hp=>?_,by simpa using hA⟩
 ·have hi:i < ops.size:=(Array.getElem?_eq_some_iff.1 ho).1;rw[ll _ _ _ hi] at hl;simp at hl
 ·have h:=aE p (List.mem_of_getElem? hp);exact⟨h,by rw[ll _ _ _ h];simp⟩
theorem chain_end {w:World} {ρ:Nat->Value} (h:eN md ops ps C A (du ops.size ops.size) ρ w):C w/\A (ps.map ρ) w:=by
 obtain⟨_,_,hC,j,hj,hl,hA⟩:=h;refine⟨hC,?_⟩
 rcases Nat.lt_or_ge j ps.length with aE | kg
 ·exfalso
  have h1:=hl j ps[j] (by simp[aE]);rw[ll _ _ _ h1.1] at h1;simp at h1;omega
 ·rwa [List.take_of_length_le kg] at hA
theorem kh {l:Array Bool} {ρ:Nat->Value} {k:Nat} {v:Value} {w w':World} (hk:k ∉ ps) (hr:k∈Region.ready md ops l) (h:eN md ops ps C A l ρ w) (hC:C w') (hA:∀ vs,A vs w->A vs w'):eN md ops ps C A (l.setIfInBounds k true) (up ρ k v) w':=by
 obtain⟨hc,hs,_,j,hj,hl,iz⟩:=h;refine⟨hc.set hr,by simpa using hs,hC,j,hj,fun i p hp=>?_,by rw[kj (fun e=>hk (List.mem_of_mem_take e))];exact hA _ iz⟩;have bu:k≠p:=fun e=>hk (e ▸ List.mem_of_getElem? hp);rw[Array.getD_eq_getD_getElem?,Array.getElem?_setIfInBounds,if_neg bu,<- Array.getD_eq_getD_getElem?];exact hl i p hp
def In (P:Program) (md:Region.Mode) (ops:Array Oper) (Q:Exit->Act->World->Prop) (vs:List (Value->Prop)) (ps:List Nat) (C:World->Prop) (A:List Value->World->Prop) (k:Nat) (rest:List Oper) (κs:List Value) (a:Act):Prop :=
 ∀ κ:Nat->Value,(ps.take κs.length).map κ=κs->InText P md ops Q (VS vs) (eN md ops ps C A) k rest κ a
theorem wp_chain (vs:List (Value->Prop)) (ps:List Nat) (C:World->Prop) (A:List Value->World->Prop) {id:Nat} {a:Act} {w:World} (hm:P.follows .mixedOrders=true) (hf:dK .any ops=true) (aE:(ps.all fun p=>decide (p < ops.size))=true) (hC:C w.drew) (hA:A [] w.drew)
  (h:dK .any ops=true->In P .any ops Q vs ps C A 0 ops.toList [] a):(Code.region id ops true).wp P Q a w :=
 uJ (fun _=>undef) hm hf (sV (fun p hp=>by simpa using List.all_eq_true.1 aE p hp) hC hA) fun hT=>h hT _ rfl
theorem in_value {k:Nat} {o:Oper} {rest:List Oper} {a:Act} {v:Value} {κs:List Value} (hf:dK md ops=true) (hk:k ∉ ps) (dL:vs[k]?=some fun u=>u=v) (hw:Region.wanted o (yielded ops a.tmps)=true) (hv:∀ w,C w->(execOp a.eval o).run P w=.ok (.value v) w)
  (h:In P md ops Q vs ps C A (k+1) rest κs (a.put o.dst v)):In P md ops Q vs ps C A k (o::rest) κs a:=fun κ hκ =>
 InText.cons hf v ⟨_,dL,rfl⟩ (Or.inl ⟨hw,fun l ρ w hr _ _ hS=>by rw[hv w hS.2.2.1];exact⟨⟨_,dL,rfl⟩,kh hk hr hS hS.2.2.1 fun _ h=>h⟩⟩)
  fun u ⟨p,hp,hu⟩=>by
   rw[dL] at hp;cases hp;rw[hu];exact h _ (by rw[kj (fun e=>hk (List.mem_of_mem_take e))];exact hκ)
theorem in_off {k:Nat} {o:Oper} {rest:List Oper} {a:Act} {κs:List Value} (hf:dK md ops=true) (hk:k ∉ ps) (dL:vs[k]?=some fun u=>u=undef) (hw:Region.wanted o (yielded ops a.tmps)=false)
  (h:In P md ops Q vs ps C A (k+1) rest κs (a.put o.dst undef)):In P md ops Q vs ps C A k (o::rest) κs a:=fun κ hκ =>
 InText.cons hf undef ⟨_,dL,rfl⟩ (Or.inr ⟨hw,⟨_,dL,rfl⟩,fun l ρ w hr hS=>kh hk hr hS hS.2.2.1 fun _ h=>h⟩)
  fun u ⟨p,hp,hu⟩=>by
   rw[dL] at hp;cases hp;rw[hu];exact h _ (by rw[kj (fun e=>hk (List.mem_of_mem_take e))];exact hκ)
theorem in_turn {k:Nat} {o:Oper} {rest:List Oper} {a:Act} {κs:List Value} (p:Value->Prop) (v0:Value) (iL:p v0) (hf:dK md ops=true) (hk:ps[κs.length]?=some k) (ef:ps.Nodup) (oG:(ps.take κs.length).all (fun q=>decide (q < k))=true) (dL:vs[k]?=some p)
  (hh:κs.length=0\/∃ q b path,ps[κs.length - 1]?=some q/\jB md ops k b=true/\oF md ops (b::path)=true/\(b::path).getLast?=some q) (hw:Region.wanted o (yielded ops a.tmps)=true)
  (hv:∀ w,C w->A κs w->Lands P (fun v w'=>p v/\C w'/\A (κs++[v]) w') ((execOp a.eval o).run P w))
  (h:∀ v,p v->In P md ops Q vs ps C A (k+1) rest (κs++[v]) (a.put o.dst v)):In P md ops Q vs ps C A k (o::rest) κs a:=fun κ hκ=>by
 have kH:κs.length < ps.length:=(List.getElem?_eq_some_iff.1 hk).1;have jz:ps[κs.length]=k:=(List.getElem?_eq_some_iff.1 hk).2;have lq:k ∉ ps.take κs.length:=fun e=>by
  have:=List.all_eq_true.1 oG k e;simp at this
 refine InText.cons hf v0 ⟨p,dL,iL⟩ (Or.inl ⟨hw,fun l ρ w hr jP nD hS=>?_⟩) fun v ⟨p',gY,uL⟩=>?_
 ·obtain⟨hc,hs,hC,j',jk,hl,hA⟩:=hS;have h1:=hl κs.length k hk;have e2:l.getD k false=false:=sW hr;have h3:¬ κs.length < j':=by rw[h1.2] at e2;simpa using e2
  have h4:κs.length=j':=by
   rcases hh with h0 | ⟨q,b,path,hq,hg,rm,rn⟩
   ·omega
   ·have:=late hc hr hg rm rn hq hl;omega
  subst h4;have hm:(ps.take κs.length).map ρ=κs:=by
   rw[<- hκ];have hlen:((ps.take κs.length).map κ).length=κs.length:=by rw[hκ]
   rw[hlen];refine List.map_congr_left fun q hq=>?_;obtain⟨i,hi,he⟩:=List.getElem_of_mem hq;have fE:i < κs.length:=by simp at hi;omega
   have yG:ps[i]?=some q:=by rw[<- he,List.getElem_take];simp
   have p5:q < k:=by simpa using List.all_eq_true.1 oG q hq
   refine nD q ?_ ?_
   ·rw[ll _ _ _ (by have:=h1.1;omega)];simpa using p5
   ·rw[(hl i q yG).2];simpa using fE
  rw[hm] at hA;refine (hv w hC hA).mono fun v w' ⟨hp,uM,mD⟩=>⟨⟨p,dL,hp⟩,hc.set hr,by simpa using hs,uM,κs.length+1,by omega,fun i q hq=>?_,?_⟩
  ·refine⟨(hl i q hq).1,?_⟩
   by_cases gX:q=k
   ·subst gX;have:i=κs.length:=(List.getElem?_inj (List.getElem?_eq_some_iff.1 hq).1 ef).1 (hq.trans hk.symm);subst this;have gY:q < l.size:=by rw[hs];exact h1.1
    rw[Array.getD_eq_getD_getElem?,Array.getElem?_setIfInBounds,if_pos rfl];simp[gY]
   ·rw[Array.getD_eq_getD_getElem?,Array.getElem?_setIfInBounds,if_neg (fun e=>gX e.symm),<- Array.getD_eq_getD_getElem?,(hl i q hq).2];have bu:i≠κs.length:=fun e=>gX (by subst e;exact Option.some.inj (hq.symm.trans hk))
    congr 1
    apply propext;omega
  ·rw[List.take_succ_eq_append_getElem kH,jz,List.map_append,kj lq,hm]
   simpa [up] using mD
 ·rw[dL] at gY;cases gY;refine h v uL _ ?_;rw[List.length_append,List.length_singleton,List.take_succ_eq_append_getElem kH,jz,List.map_append,kj lq,hκ];simp[up]
def Stage (L:List Value->List (World->Prop)) (κs:List Value) (w:World):Prop:=∃ T,(L κs)[κs.length]?=some T/\T w
theorem in_nil {a:Act} {k:Nat} {κs:List Value} (hlen:κs.length=ps.length) (h:∀ w,C w->A κs w->Q .normal a w):In P md ops Q vs ps C A k [] κs a:=fun κ hκ =>
 InText.nil fun w hS=>by
  obtain⟨hC,hA⟩:=chain_end hS;rw[hlen,List.take_length] at hκ;rw[hκ] at hA;exact h w hC hA
end
end
end Go.Proofs.YtleklonmmlfijaaGreatDoor.Ord3
namespace Go.Proofs.YtleklonmmlfijaaGreatDoor
section
open Go.RowKit
def ao (m:Nat) (w:World) (n:Nat) (vs:List Value):Prop :=
 n < w.heap.size/\(∀ i,w.cell? ⟨n,i,none⟩=vs[i]?)/\(m<=n->∀ i,i < vs.length->w.frozen? ⟨n,i,none⟩=false)
def Fr (w0:World) (bl:List (Nat × List Value)) (w:World):Prop:=Below w0.heap.size w0 w/\∀ x∈bl,ao w0.heap.size w x.1 x.2
theorem Fr.below {w0 w:World} {bl:List (Nat × List Value)} (h:Fr w0 bl w):Below w0.heap.size w0 w:=h.1
theorem Fr.start (w:World):Fr w [] w:=⟨Below.refl _ _,fun x hx=>by cases hx⟩
theorem Fr.drew {w0 w:World} {bl:List (Nat × List Value)} (h:Fr w0 bl w):Fr w0 bl w.drew:=⟨h.1.drew,fun x hx=>h.2 x hx⟩
theorem Fr.over {w0 w w':World} {bl:List (Nat × List Value)} (h:Fr w0 bl w) (hb:Below w.heap.size w w'):Fr w0 bl w':=by
 refine⟨h.1.trans (hb.mono h.1.size),fun x hx=>?_⟩;obtain⟨h1,h2,h3⟩:=h.2 x hx;have hs:=hb.size;refine⟨by omega,fun i=>?_,fun hm i hi=>?_⟩
 ·rw[hb.cell (p:=⟨x.1,i,none⟩) h1];exact h2 i
 ·rw[hb.frozen (p:=⟨x.1,i,none⟩) h1];exact h3 hm i hi
theorem Fr.more {w0 w:World} {bl:List (Nat × List Value)} (h:Fr w0 bl w) (o:Obj):Fr w0 bl (w.alloc o):=h.over ((Below.refl _ _).alloc (Nat.le_refl _) o)
theorem Fr.push {w0 w:World} {bl:List (Nat × List Value)} (h:Fr w0 bl w) (n:Nat) (hn:w.heap.size=n) (vs:List Value) (t:TypeId):Fr w0 ((n,vs)::bl) (w.alloc (.cells vs.toArray t)):=by
 subst hn;refine⟨(h.more _).1,fun x hx=>?_⟩
 rcases List.mem_cons.1 hx with rfl | hx
 ·exact⟨by simp,fun i=>by simp,fun _ i _=>by simp⟩
 ·exact (h.more _).2 x hx
theorem Fr.rule {w0 w:World} {bl:List (Nat × List Value)} (h:Fr w0 bl w) (k:Nat) {n:Nat} {vs:List Value} (e:bl[k]?=some (n,vs)):∀ i,w.cell? ⟨n,i,none⟩=vs[i]? :=
 (h.2 (n,vs) (List.mem_of_getElem? e)).2.1
theorem Fr.lt {w0 w:World} {bl:List (Nat × List Value)} (h:Fr w0 bl w) (k:Nat) {n:Nat} {vs:List Value} (e:bl[k]?=some (n,vs)):n < w.heap.size :=
 (h.2 (n,vs) (List.mem_of_getElem? e)).1
theorem Fr.thaw {w0 w:World} {bl:List (Nat × List Value)} (h:Fr w0 bl w) (k:Nat) {n:Nat} {vs:List Value} (e:bl[k]?=some (n,vs)) (hn:w0.heap.size<=n):∀ i,i < vs.length->w.frozen? ⟨n,i,none⟩=false :=
 (h.2 (n,vs) (List.mem_of_getElem? e)).2.2 hn
theorem Fr.put {w0 w:World} {n:Nat} {vs:List Value} {bl:List (Nat × List Value)} (h:Fr w0 ((n,vs)::bl) w) (hn:w0.heap.size<=n) (hd:∀ x∈bl,x.1≠n) (i:Nat) (hi:i < vs.length) (u:Value):Fr w0 ((n,vs.set i u)::bl) (w.setCell ⟨n,i,none⟩ u):=by
 obtain⟨hb,jl⟩:=h;have h0:=jl (n,vs) (List.mem_cons_self ..);refine⟨hb.setCell hn u,fun x hx=>?_⟩
 rcases List.mem_cons.1 hx with rfl | hx
 ·obtain⟨k1,k2,k3⟩:=h0;refine⟨by simpa [World.setCell] using k1,fun j=>?_,fun hm j hj=>?_⟩
  ·by_cases gG:j=i
   ·subst gG;rw[World.cell?_setCell_same' _ _ _ (by rw[k2];simp[hi])];simp[hi]
   ·have e:(⟨n,i,none⟩:Addr)≠⟨n,j,none⟩:=fun e=>gG (by cases e;rfl);have e2:(w.setCell ⟨n,i,none⟩ u).cell? ⟨n,j,none⟩=w.cell? ⟨n,j,none⟩:=World.cell?_setCell_other w _ _ u e;rw[e2,k2,List.getElem?_set,if_neg (fun e=>gG e.symm)]
  ·rw[World.frozen?_setCell];exact k3 hm j (by simpa using hj)
 ·obtain⟨k1,k2,k3⟩:=jl x (List.mem_cons_of_mem _ hx);have bu:x.1≠n:=hd x hx;have hk:(w.setCell ⟨n,i,none⟩ u).heap[x.1]?=w.heap[x.1]?:=Below.heap_setCell _ _ _ _ bu;exact⟨by simpa [World.setCell] using k1,fun j=>by rw[World.cell?_of_block (w:=w) hk];exact k2 j,fun hm j hj=>by rw[World.frozen?_of_block (w:=w) hk];exact k3 hm j hj⟩
theorem Fr.blk {w0 w:World} {bl:List (Nat × List Value)} (h:Fr w0 bl w) (k:Nat) {n:Nat} {vs:List Value} (e:bl[k]?=some (n,vs)) (hn:w0.heap.size<=n):ao 0 w n vs:=⟨h.lt k e,h.rule k e,fun _=>h.thaw k e hn⟩
theorem Fr.put3 {w0 w:World} {n:Nat} {a b c:Value} {bl:List (Nat × List Value)} (h:Fr w0 ((n,[a,b,c])::bl) w) (hn:w0.heap.size<=n) (hd:∀ x∈bl,x.1≠n) (u v t:Value):Fr w0 ((n,[u,v,t])::bl) (((w.setCell ⟨n,0,none⟩ u).setCell ⟨n,1,none⟩ v).setCell ⟨n,2,none⟩ t) :=
 ((h.put hn hd 0 (by simp) u).put hn hd 1 (by simp) v).put hn hd 2 (by simp) t
structure cj (T:Nat->Prop) (w w':World):Prop where
 os:w'.os=w.os
 tape:w'.tape=w.tape
 output:w'.output=w.output
 size:w.heap.size<=w'.heap.size
 block:∀ k,k < w.heap.size->¬ T k->w'.heap[k]?=w.heap[k]?
section
variable {T T':Nat->Prop} {a b c w w':World}
theorem cj.refl (T:Nat->Prop) (w:World):cj T w w:=⟨rfl,rfl,rfl,Nat.le_refl _,fun _ _ _=>rfl⟩
theorem cj.then (h:cj T a b) (k:cj T' b c) (hT:∀ k,k < a.heap.size->T' k->T k):cj T a c :=
 ⟨k.os.trans h.os,k.tape.trans h.tape,k.output.trans h.output,Nat.le_trans h.size k.size,fun i hi hn=>(k.block i (Nat.lt_of_lt_of_le hi h.size) (fun e=>hn (hT i hi e))).trans (h.block i hi hn)⟩
theorem cj.mono (h:cj T a b) (hT:∀ k,k < a.heap.size->T k->T' k):cj T' a b:=⟨h.os,h.tape,h.output,h.size,fun k hk hn=>h.block k hk fun e=>hn (hT k hk e)⟩
theorem cj.of_below (h:Below a.heap.size a b):cj T a b:=⟨h.os,h.tape,h.output,h.size,fun k hk _=>h.block k hk⟩
theorem cj.drew (h:cj T a b):cj T a b.drew:=⟨h.os,h.tape,h.output,h.size,h.block⟩
theorem cj.alloc (h:cj T a b) (o:Obj):cj T a (b.alloc o):=h.then (T':=fun _=>False) (cj.of_below ((Below.refl _ b).alloc (Nat.le_refl _) o)) fun _ _ e=>e.elim
theorem cj.setCell (h:cj T a b) {p:Addr} (hp:p.block < a.heap.size->T p.block) (u:Value):cj T a (b.setCell p u) :=
 h.then (T':=fun k=>k=p.block) ⟨rfl,rfl,rfl,by simp[World.setCell],fun k _ hn=>Below.heap_setCell _ _ _ _ hn⟩ fun k hk e=>by subst e;exact hp hk
theorem cj.grown (h:cj T a b) {row:Option Nat} (hg:b.grownBy c row) (hr:∀ k,k < a.heap.size->row=some k->T k):cj T a c :=
 h.then (T':=fun k=>row=some k) ⟨hg.os,hg.tape,hg.output,hg.size,fun k hk hn=>hg.block k hk (fun e=>hn e.symm)⟩ hr
theorem cj.turned (h:cj T a b) {m:Nat} (hg:b.mapTurned c m) (hm:m < a.heap.size->T m):cj T a c:=h.grown hg.grown fun k hk e=>by cases e;exact hm hk
theorem cj.below {n:Nat} (h:Below n a b) (k:cj T b c) (hn:n<=b.heap.size) (hT:∀ k,T k->n<=k):Below n a c :=
 h.trans ⟨k.os,k.tape,k.output,k.size,fun i hi=>k.block i (by omega) fun e=>by have:=hT i e;omega⟩
end
def nE (F G:Nat->Prop):Prop:=∀ k,F k->¬ G k
theorem nE.symm {F G:Nat->Prop} (h:nE F G):nE G F:=fun k hg hf=>h k hf hg
structure Step (F F':Nat->Prop) (w w':World):Prop where
 turn:cj F w w'
 from':∀ k,F' k->F k\/w.heap.size<=k
theorem Step.off {F F' G:Nat->Prop} {w w':World} (h:Step F F' w w') (hG:∀ k,G k->k < w.heap.size) (hd:nE F G):nE F' G:=fun k hf hg=>by
 rcases h.from' k hf with h1 | h1
 ·exact hd k h1 hg
 ·have:=hG k hg;omega
theorem Step.refl (F:Nat->Prop) (w:World):Step F F w w:=⟨cj.refl _ _,fun _ h=>Or.inl h⟩
theorem Step.trans {F F' CB:Nat->Prop} {a b c:World} (h:Step F F' a b) (k:Step F' CB b c):Step F CB a c :=
 ⟨h.turn.then k.turn fun i hi e=>(h.from' i e).resolve_right (by omega),fun i e=>by
   rcases k.from' i e with h1 | h1
   ·exact h.from' i h1
   ·exact Or.inr (Nat.le_trans h.turn.size h1)⟩
theorem Step.base {F F':Nat->Prop} {w w':World} {n:Nat} (h:Step F F' w w') (hn:n<=w.heap.size) (hF:∀ k,F k->n<=k):∀ k,F' k->n<=k:=fun k hk=>by
 rcases h.from' k hk with h1 | h1
 ·exact hF k h1
 ·omega
theorem ao.kept {m n:Nat} {vs:List Value} {w w':World} (h:ao m w n vs) (hs:w.heap.size<=w'.heap.size) (hb:w'.heap[n]?=w.heap[n]?):ao m w' n vs :=
 ⟨Nat.lt_of_lt_of_le h.1 hs,fun i=>by rw[World.cell?_of_block (w:=w) hb];exact h.2.1 i,fun hm i hi=>by rw[World.frozen?_of_block (w:=w) hb];exact h.2.2 hm i hi⟩
theorem ao.set {m n i:Nat} {vs:List Value} {w:World} (h:ao m w n vs) (hi:i < vs.length) (u:Value):ao m (w.setCell ⟨n,i,none⟩ u) n (vs.set i u):=by
 refine⟨by simpa [World.setCell] using h.1,fun j=>?_,fun hm j hj=>?_⟩
 ·by_cases gG:j=i
  ·subst gG;rw[World.cell?_setCell_same' _ _ _ (by rw[h.2.1];simp[hi])];simp[hi]
  ·have e:(⟨n,i,none⟩:Addr)≠⟨n,j,none⟩:=fun e=>gG (by cases e;rfl);have e2:(w.setCell ⟨n,i,none⟩ u).cell? ⟨n,j,none⟩=w.cell? ⟨n,j,none⟩:=World.cell?_setCell_other w _ _ u e;rw[e2,h.2.1,List.getElem?_set,if_neg (fun e=>gG e.symm)]
 ·rw[World.frozen?_setCell];exact h.2.2 hm j (by simpa using hj)
theorem ao.new (m:Nat) (w:World) (vs:List Value) (t:TypeId):ao m (w.alloc (.cells vs.toArray t)) w.heap.size vs:=⟨by simp,fun i=>by simp,fun _ i _=>by simp⟩
theorem ao.more {m n:Nat} {vs:List Value} {w:World} (h:ao m w n vs) (o:Obj):ao m (w.alloc o) n vs:=h.kept (by simp) (Below.heap_alloc _ _ _ h.1)
theorem ao.drew {m n:Nat} {vs:List Value} {w:World} (h:ao m w n vs):ao m w.drew n vs:=h
theorem ao.at {m n n':Nat} {vs:List Value} {w:World} (h:ao m w n vs) (e:n=n'):ao m w n' vs:=e ▸ h
theorem ao.rule {m n:Nat} {vs:List Value} {w:World} (h:ao m w n vs):∀ i,w.cell? ⟨n,i,none⟩=vs[i]?:=h.2.1
theorem ao.thaw {n:Nat} {vs:List Value} {w:World} (h:ao 0 w n vs):∀ i,i < vs.length->w.frozen? ⟨n,i,none⟩=false:=h.2.2 (Nat.zero_le _)
structure Item where
 F:Nat->Prop
 says:World->Prop
 loc:∀ w1 w2,says w1->(∀ k,F k->w2.heap[k]?=w1.heap[k]?)->w1.heap.size<=w2.heap.size->says w2
def Env (w0:World) (L:List Item) (w:World):Prop :=
 Below w0.heap.size w0 w/\L.Pairwise (fun a b=>nE a.F b.F)/\∀ a∈L,a.says w/\∀ k,a.F k->w0.heap.size<=k/\k < w.heap.size
section
variable {w0 w w':World} {L:List Item}
theorem Env.start (w:World):Env w [] w:=⟨Below.refl _ _,List.Pairwise.nil,by simp⟩
theorem Env.below (h:Env w0 L w):Below w0.heap.size w0 w:=h.1
theorem Env.over (h:Env w0 L w) (hb:Below w.heap.size w w'):Env w0 L w':=by
 refine⟨h.1.trans (hb.mono h.1.size),h.2.1,fun a ha=>?_⟩;obtain⟨h1,h2⟩:=h.2.2 a ha;exact⟨a.loc w w' h1 (fun k hk=>hb.block k (h2 k hk).2) hb.size,fun k hk=>⟨(h2 k hk).1,Nat.lt_of_lt_of_le (h2 k hk).2 hb.size⟩⟩
theorem Env.more (h:Env w0 L w) (o:Obj):Env w0 L (w.alloc o):=h.over ((Below.refl _ _).alloc (Nat.le_refl _) o)
theorem Env.drew (h:Env w0 L w):Env w0 L w.drew:=h.over (Below.refl _ w).drew
theorem Env.add (h:Env w0 L w) (a:Item) (hb:Below w.heap.size w w') (ha:a.says w') (hF:∀ k,a.F k->w.heap.size<=k/\k < w'.heap.size):Env w0 (a::L) w':=by
 have h':=h.over hb;refine⟨h'.1,List.pairwise_cons.2 ⟨fun b lT k hk oE=>?_,h'.2.1⟩,fun b lT=>?_⟩
 ·have:=((h.2.2 b lT).2 k oE).2;have:=(hF k hk).1;omega
 ·rcases List.mem_cons.1 lT with rfl | lT
  ·exact⟨ha,fun k hk=>⟨Nat.le_trans h.1.size (hF k hk).1,(hF k hk).2⟩⟩
  ·exact h'.2.2 b lT
theorem Env.get (h:Env w0 L w) (i:Nat) {a:Item} (hi:L[i]?=some a):a.says w:=(h.2.2 a (List.mem_of_getElem? hi)).1
theorem Env.lt (h:Env w0 L w) (i:Nat) {a:Item} (hi:L[i]?=some a):∀ k,a.F k->k < w.heap.size:=fun k hk=>((h.2.2 a (List.mem_of_getElem? hi)).2 k hk).2
theorem Env.off (h:Env w0 L w) {i j:Nat} {a b:Item} (hi:L[i]?=some a) (hj:L[j]?=some b) (gG:i≠j):nE a.F b.F:=by
 obtain⟨p6,rp⟩:=List.getElem?_eq_some_iff.1 hi;obtain⟨wB,CD⟩:=List.getElem?_eq_some_iff.1 hj;have hp:=List.pairwise_iff_getElem.1 h.2.1
 rcases Nat.lt_or_gt_of_ne gG with aE | aE
 ·have:=hp i j p6 wB aE;rw[rp,CD] at this;exact this
 ·have:=hp j i wB p6 aE;rw[rp,CD] at this;exact this.symm
theorem Env.step (h:Env w0 L w) (i:Nat) {a:Item} (b:Item) (hi:L[i]?=some a) (hs:Step a.F b.F w w') (hb:b.says w') (aE:∀ k,b.F k->k < w'.heap.size):Env w0 (L.set i b) w':=by
 have nG:i < L.length:=(List.getElem?_eq_some_iff.1 hi).1;have SF:L[i]=a:=(List.getElem?_eq_some_iff.1 hi).2;have ha:=h.2.2 a (List.mem_of_getElem? hi);have hB:Below w0.heap.size w0 w':=cj.below h.1 hs.turn h.1.size fun k hk=>(ha.2 k hk).1;refine⟨hB,List.pairwise_iff_getElem.2 fun m n hm hn Hd=>?_,fun x hx=>?_⟩
 ·rw[List.length_set] at hm hn;rw[List.getElem_set,List.getElem_set];have CF:∀ j (hj:j < L.length),j≠i->nE b.F L[j].F:=fun j hj bu=>hs.off (h.lt j (by simp)) (h.off hi (j:=j) (b:=L[j]) (by simp) (fun e=>bu e.symm))
  split
  ·rename_i e
   split
   ·omega
   ·rename_i e';exact CF n hn (fun e2=>e' e2.symm)
  ·split
   ·rename_i e e';exact (CF m hm (fun e2=>e e2.symm)).symm
   ·exact List.pairwise_iff_getElem.1 h.2.1 m n hm hn Hd
 ·obtain⟨j,hj,rfl⟩:=List.getElem_of_mem hx;rw[List.length_set] at hj;rw[List.getElem_set]
  split
  ·refine⟨hb,fun k hk=>⟨?_,aE k hk⟩⟩;exact hs.base h.1.size (fun k hk=>(ha.2 k hk).1) k hk
  ·rename_i e;obtain⟨h1,h2⟩:=h.2.2 L[j] (List.getElem_mem hj);refine⟨(L[j]).loc w w' h1 (fun k hk=>hs.turn.block k (h2 k hk).2 fun oE=>?_) hs.turn.size,fun k hk=>⟨(h2 k hk).1,Nat.lt_of_lt_of_le (h2 k hk).2 hs.turn.size⟩⟩;exact h.off hi (j:=j) (b:=L[j]) (by simp[hj]) e k oE hk
theorem Env.sub {L':List Item} (h:Env w0 L w) (hs:L'.Sublist L):Env w0 L' w:=⟨h.1,h.2.1.sublist hs,fun a ha=>h.2.2 a (hs.subset ha)⟩
theorem Env.perm {L':List Item} (h:Env w0 L w) (hp:L.Perm L'):Env w0 L' w:=⟨h.1,(hp.pairwise_iff (fun h=>nE.symm h)).1 h.2.1,fun a ha=>h.2.2 a (hp.mem_iff.2 ha)⟩
def ae (B:Nat) (vs:List Value):Item where
 F:=fun k=>k=B
 says:=fun w=>ao 0 w B vs
 loc:=fun w1 w2 h hk hs=>h.kept hs (hk B rfl)
theorem Env.box (h:Env w0 L w) (n:Nat) (hn:w.heap.size=n) (vs:List Value) (t:TypeId):Env w0 (ae n vs::L) (w.alloc (.cells vs.toArray t)):=by
 subst hn;exact h.add (ae w.heap.size vs) ((Below.refl _ _).alloc (Nat.le_refl _) _) (ao.new 0 w vs t) fun k hk=>by subst hk;simp
theorem Env.rule (h:Env w0 L w) (i:Nat) {B:Nat} {vs:List Value} (hi:L[i]?=some (ae B vs)):∀ j,w.cell? ⟨B,j,none⟩=vs[j]?:=ao.rule (h.get i hi)
theorem Env.thaw (h:Env w0 L w) (i:Nat) {B:Nat} {vs:List Value} (hi:L[i]?=some (ae B vs)):∀ j,j < vs.length->w.frozen? ⟨B,j,none⟩=false:=ao.thaw (h.get i hi)
theorem Env.boxLt (h:Env w0 L w) (i:Nat) {B:Nat} {vs:List Value} (hi:L[i]?=some (ae B vs)):B < w.heap.size:=h.lt i hi B rfl
theorem Env.put (h:Env w0 L w) (i:Nat) {B:Nat} {vs:List Value} (hi:L[i]?=some (ae B vs)) {j:Nat} (hj:j < vs.length) (v:Value):Env w0 (L.set i (ae B (vs.set j v))) (w.setCell ⟨B,j,none⟩ v) :=
 h.step i (ae B (vs.set j v)) hi ⟨(cj.refl (fun k=>k=B) w).setCell (p:=⟨B,j,none⟩) (fun _=>rfl) v,fun k hk=>.inl hk⟩ ((show ao 0 w B vs from h.get i hi).set hj v) fun k hk=>by
  have:=h.lt i hi k hk
  simpa using this
end
def Stage (Ps:List (World->Prop)) (j:Nat) (w:World):Prop:=∃ P,Ps[j]?=some P/\P w
end
end Go.Proofs.YtleklonmmlfijaaGreatDoor
namespace Go.Proofs.YtleklonmmlfijaaGreatDoor.OrdF
section
open Go Go.Proofs.YtleklonmmlfijaaGreatDoor.Ord Go.Proofs.YtleklonmmlfijaaGreatDoor.Ord3
section
variable {P:Program} {ops:Array Oper} {Q:Exit->Act->World->Prop} {md:Region.Mode} {C:World->Prop} {A:List Value->Option Value->World->Prop} {ps:List Nat} {q:Nat} {vs:List (Value->Prop)}
def seen (q:Nat) (l:Array Bool) (ρ:Nat->Value):Option Value:=if l.getD q false=true then some (ρ q) else none
def eN (md:Region.Mode) (ops:Array Oper) (ps:List Nat) (q:Nat) (C:World->Prop) (A:List Value->Option Value->World->Prop) (l:Array Bool) (ρ:Nat->Value) (w:World):Prop :=
 kI md ops l/\l.size=ops.size/\C w/\∃ j,j<=ps.length/\(∀ i p,ps[i]?=some p->p < ops.size/\l.getD p false=decide (i < j))/\A ((ps.take j).map ρ) (seen q l ρ) w
theorem wC {l:Array Bool} {k p:Nat} (h:k≠p):(l.setIfInBounds k true).getD p false=l.getD p false:=by
 rw[Array.getD_eq_getD_getElem?,Array.getElem?_setIfInBounds,if_neg h,<- Array.getD_eq_getD_getElem?]
theorem CG {l:Array Bool} {k:Nat} (h:k < l.size):(l.setIfInBounds k true).getD k false=true:=by
 rw[Array.getD_eq_getD_getElem?,Array.getElem?_setIfInBounds,if_pos rfl];simp[h]
theorem CH {l:Array Bool} {ρ:Nat->Value} {k:Nat} {v:Value} (h:k≠q):seen q (l.setIfInBounds k true) (up ρ k v)=seen q l ρ:=by
 have bu:¬ q=k:=fun e=>h e.symm;unfold seen up;simp only[wC h,if_neg bu]
theorem He {l:Array Bool} {ρ:Nat->Value} {v:Value} (h:q < l.size):seen q (l.setIfInBounds q true) (up ρ q v)=some v:=by
 unfold seen up;rw[CG h,if_pos rfl,if_pos rfl]
theorem Hf {l:Array Bool} {ρ:Nat->Value} (h:q∈Region.ready md ops l):seen q l ρ=none:=by
 unfold seen;rw[sW h];rfl
theorem sV {w:World} {ρ:Nat->Value} (aE:∀ p∈ps,p < ops.size) (hC:C w) (hA:A [] none w):eN md ops ps q C A (du ops.size 0) ρ w:=by
 refine⟨fun i o ho hl=>?_,by simp[du],hC,0,Nat.zero_le _,fun i p hp=>?_,?_⟩
 ·have hi:i < ops.size:=(Array.getElem?_eq_some_iff.1 ho).1;rw[ll _ _ _ hi] at hl;simp at hl
 ·have h:=aE p (List.mem_of_getElem? hp);exact⟨h,by rw[ll _ _ _ h];simp⟩
 ·have e:seen q (du ops.size 0) ρ=none:=by
   unfold seen;rw[if_neg];rw[Array.getD_eq_getD_getElem?]
   rcases Nat.lt_or_ge q ops.size with h | h
   ·simp[du,h]
   ·simp[du,Array.getElem?_eq_none (xs:=Array.ofFn _) (by simpa using h)]
  rw[e]
  simpa using hA
theorem kh {l:Array Bool} {ρ:Nat->Value} {k:Nat} {v:Value} {w w':World} (hk:k ∉ ps) (gH:k≠q) (hr:k∈Region.ready md ops l) (h:eN md ops ps q C A l ρ w) (hC:C w') (hA:∀ vs fo,A vs fo w->A vs fo w'):eN md ops ps q C A (l.setIfInBounds k true) (up ρ k v) w':=by
 obtain⟨hc,hs,_,j,hj,hl,iz⟩:=h;refine⟨hc.set hr,by simpa using hs,hC,j,hj,fun i p hp=>?_,by rw[kj (fun e=>hk (List.mem_of_mem_take e)),CH gH];exact hA _ _ iz⟩;have bu:k≠p:=fun e=>hk (by rw[e];exact List.mem_of_getElem? hp);rw[wC bu];exact hl i p hp
def In (P:Program) (md:Region.Mode) (ops:Array Oper) (Q:Exit->Act->World->Prop) (vs:List (Value->Prop)) (ps:List Nat) (q:Nat) (C:World->Prop) (A:List Value->Option Value->World->Prop) (k:Nat) (rest:List Oper) (κs:List Value) (fo:Option Value) (a:Act):Prop :=
 ∀ κ:Nat->Value,(ps.take κs.length).map κ=κs->fo=(if q < k then some (κ q) else none)->InText P md ops Q (VS vs) (eN md ops ps q C A) k rest κ a
theorem wp_float (vs:List (Value->Prop)) (ps:List Nat) (q:Nat) (C:World->Prop) (A:List Value->Option Value->World->Prop) {id:Nat} {a:Act} {w:World} (hm:P.follows .mixedOrders=true) (hf:dK .any ops=true) (aE:(ps.all fun p=>decide (p < ops.size))=true) (hC:C w.drew) (hA:A [] none w.drew)
  (h:dK .any ops=true->In P .any ops Q vs ps q C A 0 ops.toList [] none a):(Code.region id ops true).wp P Q a w :=
 uJ (fun _=>undef) hm hf (sV (fun p hp=>by simpa using List.all_eq_true.1 aE p hp) hC hA) fun hT=>h hT _ rfl (by simp)
theorem uN {κ:Nat->Value} {fo:Option Value} {k:Nat} {u:Value} (gH:k≠q) (h:fo=(if q < k then some (κ q) else none)):fo=(if q < k+1 then some (up κ k u q) else none):=by
 have e1:up κ k u q=κ q:=by unfold up;rw[if_neg (fun e=>gH e.symm)]
 rw[h,e1]
 by_cases hq:q < k
 ·rw[if_pos hq,if_pos (by omega)]
 ·rw[if_neg hq,if_neg (by omega)]
theorem in_value {k:Nat} {o:Oper} {rest:List Oper} {a:Act} {v:Value} {κs:List Value} {fo:Option Value} (hf:dK md ops=true) (hk:k ∉ ps) (gH:k≠q) (dL:vs[k]?=some fun u=>u=v) (hw:Region.wanted o (yielded ops a.tmps)=true) (hv:∀ w,C w->(execOp a.eval o).run P w=.ok (.value v) w)
  (h:In P md ops Q vs ps q C A (k+1) rest κs fo (a.put o.dst v)):In P md ops Q vs ps q C A k (o::rest) κs fo a:=fun κ hκ dN =>
 InText.cons hf v ⟨_,dL,rfl⟩ (Or.inl ⟨hw,fun l ρ w hr _ _ hS=>by rw[hv w hS.2.2.1];exact⟨⟨_,dL,rfl⟩,kh hk gH hr hS hS.2.2.1 fun _ _ h=>h⟩⟩)
  fun u ⟨p,hp,hu⟩=>by
   rw[dL] at hp;cases hp;rw[hu];exact h _ (by rw[kj (fun e=>hk (List.mem_of_mem_take e))];exact hκ) (uN gH dN)
theorem in_off {k:Nat} {o:Oper} {rest:List Oper} {a:Act} {κs:List Value} {fo:Option Value} (hf:dK md ops=true) (hk:k ∉ ps) (gH:k≠q) (dL:vs[k]?=some fun u=>u=undef) (hw:Region.wanted o (yielded ops a.tmps)=false)
  (h:In P md ops Q vs ps q C A (k+1) rest κs fo (a.put o.dst undef)):In P md ops Q vs ps q C A k (o::rest) κs fo a:=fun κ hκ dN =>
 InText.cons hf undef ⟨_,dL,rfl⟩ (Or.inr ⟨hw,⟨_,dL,rfl⟩,fun l ρ w hr hS=>kh hk gH hr hS hS.2.2.1 fun _ _ h=>h⟩)
  fun u ⟨p,hp,hu⟩=>by
   rw[dL] at hp;cases hp;rw[hu];exact h _ (by rw[kj (fun e=>hk (List.mem_of_mem_take e))];exact hκ) (uN gH dN)
theorem in_call {k:Nat} {o:Oper} {rest:List Oper} {a:Act} {v:Value} {f:FuncId} {args:Array Value} {κs:List Value} {fo:Option Value} (hf:dK md ops=true) (hk:k ∉ ps) (gH:k≠q) (dL:vs[k]?=some fun u=>u=v) (hw:Region.wanted o (yielded ops a.tmps)=true)
  (hr:∀ w,C w->(execOp a.eval o).run P w=.ok (.enter f args) w) (hc:∀ w,C w->Calls P f args w fun e w'=>e=.returned v/\C w'/\∀ κs fo,A κs fo w->A κs fo w')
  (h:In P md ops Q vs ps q C A (k+1) rest κs fo (a.put o.dst v)):In P md ops Q vs ps q C A k (o::rest) κs fo a:=fun κ hκ dN =>
 InText.cons hf v ⟨_,dL,rfl⟩ (Or.inl ⟨hw,fun l ρ w yH _ _ hS=>by
   rw[hr w hS.2.2.1];exact (hc w hS.2.2.1).mono fun e w' he=>⟨v,he.1,⟨_,dL,rfl⟩,kh hk gH yH hS he.2.1 he.2.2⟩⟩)
  fun u ⟨p,hp,hu⟩=>by
   rw[dL] at hp;cases hp;rw[hu];exact h _ (by rw[kj (fun e=>hk (List.mem_of_mem_take e))];exact hκ) (uN gH dN)
theorem in_float {k:Nat} {o:Oper} {rest:List Oper} {a:Act} {κs:List Value} {fo:Option Value} (p:Value->Prop) (v0:Value) (iL:p v0) (hf:dK md ops=true) (hk:k=q) (oH:q ∉ ps) (dL:vs[k]?=some p) (hw:Region.wanted o (yielded ops a.tmps)=true)
  (hv:∀ w κs',C w->A κs' none w->Lands P (fun v w'=>p v/\C w'/\A κs' (some v) w') ((execOp a.eval o).run P w))
  (h:∀ v,p v->In P md ops Q vs ps q C A (k+1) rest κs (some v) (a.put o.dst v)):In P md ops Q vs ps q C A k (o::rest) κs fo a:=fun κ hκ _=>by
 subst hk;refine InText.cons hf v0 ⟨p,dL,iL⟩ (Or.inl ⟨hw,fun l ρ w hr _ _ hS=>?_⟩) fun v ⟨p',gY,uL⟩=>?_
 ·obtain⟨hc,hs,hC,j,hj,hl,hA⟩:=hS;rw[Hf hr] at hA;have gy:k < l.size:=by
   have h2:l.getD k true=false:=(mem_ready.1 hr).1;rw[Array.getD_eq_getD_getElem?] at h2
   rcases Nat.lt_or_ge k l.size with ki | ki
   ·exact ki
   ·simp[Array.getElem?_eq_none ki] at h2
  refine (hv w _ hC hA).mono fun v w' ⟨hp,uM,mD⟩=>⟨⟨p,dL,hp⟩,hc.set hr,by simpa using hs,uM,j,hj,fun i p' gY=>?_,?_⟩
  ·have bu:k≠p':=fun e=>oH (by rw[e];exact List.mem_of_getElem? gY);rw[wC bu];exact hl i p' gY
  ·rw[kj (fun e=>oH (List.mem_of_mem_take e)),He gy];exact mD
 ·rw[dL] at gY;cases gY;refine h v uL _ (by rw[kj (fun e=>oH (List.mem_of_mem_take e))];exact hκ) ?_;rw[if_pos (by omega)];unfold up;rw[if_pos rfl]
theorem CI {k:Nat} {o:Oper} {rest:List Oper} {a:Act} {κs:List Value} {fo:Option Value} (F:Option Value->Prop) (hF:∀ (κ:Nat->Value) (l:Array Bool) (ρ:Nat->Value),fo=(if q < k then some (κ q) else none)->k∈Region.ready md ops l->(∀ j,l.getD j false=true->VS vs j (ρ j))->(∀ j,(du ops.size k).getD j false=true->l.getD j false=true->ρ j=κ j)->F (seen q l ρ))
  (p:Value->Prop) (v0:Value) (iL:p v0) (hf:dK md ops=true) (hk:ps[κs.length]?=some k) (gH:k≠q) (ef:ps.Nodup) (oG:(ps.take κs.length).all (fun q=>decide (q < k))=true) (dL:vs[k]?=some p)
  (hh:κs.length=0\/∃ q b path,ps[κs.length - 1]?=some q/\jB md ops k b=true/\oF md ops (b::path)=true/\(b::path).getLast?=some q) (hw:Region.wanted o (yielded ops a.tmps)=true)
  (hv:∀ kJ w,F kJ->C w->A κs kJ w->Lands P (fun v w'=>p v/\C w'/\A (κs++[v]) kJ w') ((execOp a.eval o).run P w))
  (h:∀ v,p v->In P md ops Q vs ps q C A (k+1) rest (κs++[v]) fo (a.put o.dst v)):In P md ops Q vs ps q C A k (o::rest) κs fo a:=fun κ hκ dN=>by
 have kH:κs.length < ps.length:=(List.getElem?_eq_some_iff.1 hk).1;have jz:ps[κs.length]=k:=(List.getElem?_eq_some_iff.1 hk).2;have lq:k ∉ ps.take κs.length:=fun e=>by
  have:=List.all_eq_true.1 oG k e;simp at this
 refine InText.cons hf v0 ⟨p,dL,iL⟩ (Or.inl ⟨hw,fun l ρ w hr jP nD hS=>?_⟩) fun v ⟨p',gY,uL⟩=>?_
 ·obtain⟨hc,hs,hC,j',jk,hl,hA⟩:=hS;have h1:=hl κs.length k hk;have e2:l.getD k false=false:=sW hr;have h3:¬ κs.length < j':=by rw[h1.2] at e2;simpa using e2
  have h4:κs.length=j':=by
   rcases hh with h0 | ⟨q,b,path,hq,hg,rm,rn⟩
   ·omega
   ·have:=late hc hr hg rm rn hq hl;omega
  subst h4;have hm:(ps.take κs.length).map ρ=κs:=by
   rw[<- hκ];have hlen:((ps.take κs.length).map κ).length=κs.length:=by rw[hκ]
   rw[hlen];refine List.map_congr_left fun q hq=>?_;obtain⟨i,hi,he⟩:=List.getElem_of_mem hq;have fE:i < κs.length:=by simp at hi;omega
   have yG:ps[i]?=some q:=by rw[<- he,List.getElem_take];simp
   have p5:q < k:=by simpa using List.all_eq_true.1 oG q hq
   refine nD q ?_ ?_
   ·rw[ll _ _ _ (by have:=h1.1;omega)];simpa using p5
   ·rw[(hl i q yG).2];simpa using fE
  rw[hm] at hA;refine (hv _ w (hF κ l ρ dN hr jP nD) hC hA).mono fun v w' ⟨hp,uM,mD⟩=>⟨⟨p,dL,hp⟩,hc.set hr,by simpa using hs,uM,κs.length+1,by omega,fun i q hq=>?_,?_⟩
  ·refine⟨(hl i q hq).1,?_⟩
   by_cases gX:q=k
   ·subst gX;have:i=κs.length:=(List.getElem?_inj (List.getElem?_eq_some_iff.1 hq).1 ef).1 (hq.trans hk.symm);subst this;have gY:q < l.size:=by rw[hs];exact h1.1
    rw[CG gY];simp
   ·rw[wC (fun e=>gX e.symm),(hl i q hq).2];have bu:i≠κs.length:=fun e=>gX (by subst e;exact Option.some.inj (hq.symm.trans hk))
    congr 1
    apply propext;omega
  ·rw[List.take_succ_eq_append_getElem kH,jz,List.map_append,kj lq,hm,CH gH]
   simpa [up] using mD
 ·rw[dL] at gY;cases gY;refine h v uL _ ?_ (uN gH dN);rw[List.length_append,List.length_singleton,List.take_succ_eq_append_getElem kH,jz,List.map_append,kj lq,hκ];simp[up]
theorem in_turn {k:Nat} {o:Oper} {rest:List Oper} {a:Act} {κs:List Value} {fo:Option Value} (pq:Value->Prop) (Hg:vs[q]?=some pq)
  (p:Value->Prop) (v0:Value) (iL:p v0) (hf:dK md ops=true) (hk:ps[κs.length]?=some k) (gH:k≠q) (ef:ps.Nodup) (oG:(ps.take κs.length).all (fun q=>decide (q < k))=true) (dL:vs[k]?=some p)
  (hh:κs.length=0\/∃ q b path,ps[κs.length - 1]?=some q/\jB md ops k b=true/\oF md ops (b::path)=true/\(b::path).getLast?=some q) (hw:Region.wanted o (yielded ops a.tmps)=true)
  (hv:∀ kJ w,(kJ=none\/∃ v,kJ=some v/\pq v)->C w->A κs kJ w->Lands P (fun v w'=>p v/\C w'/\A (κs++[v]) kJ w') ((execOp a.eval o).run P w))
  (h:∀ v,p v->In P md ops Q vs ps q C A (k+1) rest (κs++[v]) fo (a.put o.dst v)):In P md ops Q vs ps q C A k (o::rest) κs fo a :=
 CI (fun kJ=>kJ=none\/∃ v,kJ=some v/\pq v) (fun κ l ρ _ _ jP _=>by
  unfold seen;cases wD:l.getD q false
  ·exact .inl rfl
  ·obtain⟨p',gY,h'⟩:=jP q wD;rw[Hg] at gY;cases gY;exact .inr ⟨_,rfl,h'⟩) p v0 iL hf hk gH ef oG dL hh hw hv h
theorem in_turn_late {k:Nat} {o:Oper} {rest:List Oper} {a:Act} {κs:List Value} {u:Value} (hg:jB md ops k q=true) (p5:q < k) (bU:q < ops.size)
  (p:Value->Prop) (v0:Value) (iL:p v0) (hf:dK md ops=true) (hk:ps[κs.length]?=some k) (ef:ps.Nodup) (oG:(ps.take κs.length).all (fun q=>decide (q < k))=true) (dL:vs[k]?=some p)
  (hh:κs.length=0\/∃ q b path,ps[κs.length - 1]?=some q/\jB md ops k b=true/\oF md ops (b::path)=true/\(b::path).getLast?=some q) (hw:Region.wanted o (yielded ops a.tmps)=true)
  (hv:∀ w,C w->A κs (some u) w->Lands P (fun v w'=>p v/\C w'/\A (κs++[v]) (some u) w') ((execOp a.eval o).run P w))
  (h:∀ v,p v->In P md ops Q vs ps q C A (k+1) rest (κs++[v]) (some u) (a.put o.dst v)):In P md ops Q vs ps q C A k (o::rest) κs (some u) a :=
 CI (fun kJ=>kJ=some u) (fun κ l ρ dN hr _ nD=>by
  have wD:=wz hg hr;rw[if_pos p5] at dN;have:=nD q (by rw[ll _ _ _ bU];simpa using p5) wD;unfold seen;rw[if_pos wD,this,dN]) p v0 iL hf hk (by omega) ef oG dL hh hw (fun kJ w e hC hA=>by subst e;exact hv w hC hA) h
theorem in_nil {a:Act} {k:Nat} {κs:List Value} {fo:Option Value} (hlen:κs.length=ps.length) (bU:q < ops.size) (p5:q < k) (h:∀ w,C w->A κs fo w->Q .normal a w):In P md ops Q vs ps q C A k [] κs fo a:=fun κ hκ dN =>
 InText.nil fun w hS=>by
  obtain⟨_,_,hC,j,hj,hl,hA⟩:=hS;have kH:j=ps.length:=by
   rcases Nat.lt_or_ge j ps.length with aE | kg
   ·exfalso
    have h1:=hl j ps[j] (by simp[aE]);rw[ll _ _ _ h1.1] at h1;simp at h1;omega
   ·omega
  subst kH;rw[hlen] at hκ;rw[hκ] at hA;rw[if_pos p5] at dN;have e:seen q (du ops.size ops.size) κ=fo:=by
   unfold seen;rw[ll _ _ _ bU,dN];simp[bU]
  rw[e] at hA;exact h w hC hA
end
def AF (w0:World) (z0:List Value) (St:List Value->List Item->List Value->Prop) (κs:List Value) (fo:Option Value) (w:World):Prop :=
 ∃ L zs,St κs L zs/\((fo=none/\zs=z0/\Env w0 L w)\/∃ n,fo=some (.pointer (some ⟨n,0,none⟩))/\Env w0 (ae n zs::L) w)
def Sta (Ps:List (List Item->List Value->Prop)) (κs:List Value) (L:List Item) (zs:List Value):Prop:=∃ P,Ps[κs.length]?=some P/\P L zs
def Ptr (v:Value):Prop:=∃ n,v=.pointer (some ⟨n,0,none⟩)
theorem AF.up {w0 w:World} {z0:List Value} {St:List Value->List Item->List Value->Prop} {κs:List Value} (h:AF w0 z0 St κs none w) (t:TypeId):AF w0 z0 St κs (some (.pointer (some ⟨w.heap.size,0,none⟩))) (w.alloc (.cells z0.toArray t)):=by
 obtain⟨L,zs,bY,⟨_,rfl,hE⟩ | ⟨n,hn,_⟩⟩:=h
 ·exact⟨L,_,bY,.inr ⟨_,rfl,hE.box _ rfl _ _⟩⟩
 ·cases hn
end
end Go.Proofs.YtleklonmmlfijaaGreatDoor.OrdF
namespace Go.Proofs.YtleklonmmlfijaaGreatDoor
section
open Go.RowKit
theorem yI {w:World} {b:Nat} {v:Value} {e:TypeId} {n s:Nat} {xs:List Value} (h:w.ownsRow b e s v n xs):∀ k,v.ownBlock=some k->k < w.heap.size:=fun k hk=>(h.lt k hk).2
theorem sX {w w':World} {b:Nat} {v:Value} {e:TypeId} {n s:Nat} {xs:List Value} (h:w.ownsRow b e s v n xs) (hk:∀ k,v.ownBlock=some k->w'.heap[k]?=w.heap[k]?):w'.ownsRow b e s v n xs:=by
 refine⟨h.1,?_⟩
 rcases h.2 with hn | ⟨g,cap,cur,rfl,hb,hg,rest⟩
 ·exact .inl hn
 ·exact .inr ⟨g,cap,cur,rfl,hb,(hk g rfl).trans hg,rest⟩
theorem sY {P:Program} {o:Oper} {f:Operand->Value} (s x:Operand) (t:TypeId) (ho:o.op=.call { callee:=.builtin .append,args:=#[s,x],argTypes:=#[t,t] }) {vs vx r:Value} {w w':World} (hs:f s=vs) (hx:f x=vx)
  (hr:(Builtin.append_ #[t,t] o.type #[vs,vx]).run P w=.ok r w'):(execOp f o).run P w=.ok (.value r) w':=by
 unfold execOp;simp only[ho,resolve,invoke,builtin,Sem.run_bind,Sem.run_pure,Result.andThen_ok,List.map_toArray,List.map_cons,List.map_nil,hs,hx,hr]
theorem Hh {P:Program} {o:Oper} {f:Operand->Value} {T:World->Prop} {s x:Operand} {t:TypeId} {vs vx r:Value} {w w':World} (ho:o.op=.call { callee:=.builtin .append,args:=#[s,x],argTypes:=#[t,t] }) (hr:(Builtin.append_ #[t,t] o.type #[vs,vx]).run P w=.ok r w') (hs:f s=vs) (hx:f x=vx) (hT:T w'):Ord.LandsIn P T r ((execOp f o).run P w):=by
 rw[sY s x t ho hs hx hr];exact⟨rfl,hT⟩
theorem Step.of_below {w w':World} (F:Nat->Prop) (hb:Below w.heap.size w w'):Step F F w w':=⟨cj.of_below hb,fun _ h=>.inl h⟩
theorem yJ {P:Program} (t ty:TypeId) (base:Nat) (e:TypeId) (i:TypeInfo) (z:Value) (size bytes:Nat) (ht:P.underlying t=some (.slice e)) (hi:P.info? e=some i) (hz:i.zero=some z)
  (Hj:i.size=size) (p8:i.bytes=bytes) (yK:z.cells.size=size) (iZ:0 < size) (w:World)
  (v:Value) (n:Nat) (xs:List Value) (cF:w.ownsRow base e size v n xs) (A:Option Addr) (m c:Nat) (news:List Value) (hl:news.length=m * size)
  (yL:(A=none/\m=0)\/∃ ad,A=some ad/\∀ j u,news[j]?=some u->w.cell? (ad.add j)=some u) (h1:∀ u∈news,u.oneCell'=true)
  (yM:n+m<=maxLen) (yN:(n+m) * bytes<=140737488355328) (Hk:base<=w.heap.size) :
  ∃ v' w',(Builtin.append_ #[t,t] ty #[v,.slice A m c]).run P w=.ok v' w'/\w'.ownsRow base e size v' (n+m) (xs++news)/\w.grownBy w' v.ownBlock/\(v'.ownBlock=v.ownBlock\/v'.ownBlock=some w.heap.size):=by
 rcases yL with ⟨rfl,rfl⟩ | ⟨ad,rfl,hn⟩
 ·have h0:news=[]:=List.eq_nil_of_length_eq_zero (by simpa using hl);subst h0;refine⟨v,w,?_,by simpa using cF,⟨rfl,rfl,rfl,Nat.le_refl _,fun _ _ _=>rfl⟩,.inl rfl⟩
  rcases cF.2 with ⟨rfl,rfl⟩ | ⟨g,cap,cur,rfl,hb,hg,wE,CJ,eO,jm⟩
  ·simp[Builtin.append_,run_underlying ht,sizeOf,typeInfo,hi,Builtin.lenOf,Builtin.firstCells]
  ·simp[Builtin.append_,run_underlying ht,sizeOf,typeInfo,hi,Builtin.lenOf,Builtin.firstCells,wE,storeCells]
 ·obtain⟨v',w',hr,h2,h3,_,h5⟩:=run_append_own_at (P:=P) w base t ty e i z size bytes ht hi hz Hj p8 yK iZ v n xs cF ad m c news hl hn h1 yM yN Hk;exact⟨v',w',hr,h2,h3,h5⟩
theorem oI {P:Program} {ops:Array Oper} {rest:List Oper} {o:Oper} {a:Act} {w:World} {Q:Exit->Act->World->Prop} (jn:o.guard=none) (s x:Operand) (t:TypeId) (ho:o.op=.call { callee:=.builtin .append,args:=#[s,x],argTypes:=#[t,t] })
  {vs vx r:Value} {w':World} (hr:(Builtin.append_ #[t,t] o.type #[vs,vx]).run P w=.ok r w') (hs:a.eval s=vs) (hx:a.eval x=vx) (h:wpList P ops Q rest (a.put o.dst r) w'):wpList P ops Q (o::rest) a w :=
 wpList_plain jn fun K hK=>by
  unfold Oper.wp;rw[sY s x t ho hs hx hr];exact hK _ _ h
theorem CK {w:World} {b b':Nat} {e:TypeId} {s n:Nat} {v:Value} {xs:List Value} (h:w.ownsRow b e s v n xs) (hb:b'<=b):w.ownsRow b' e s v n xs :=
 ⟨h.1,h.2.imp id fun ⟨g,cap,cur,h1,h2,h3⟩=>⟨g,cap,cur,h1,Nat.le_trans hb h2,h3⟩⟩
theorem yO {w:World} {b:Nat} {e:TypeId} {s n:Nat} {v:Value} {xs:List Value} (h:w.ownsRow b e s v n xs):∃ A c,v=.slice A n c:=by
 rcases h.2 with ⟨rfl,rfl⟩ | ⟨g,cap,cur,rfl,_⟩
 ·exact⟨_,_,rfl⟩
 ·exact⟨_,_,rfl⟩
theorem oJ (w:World) (vs:List Value) (t:TypeId):∀ j u,vs[j]?=some u->(w.alloc (.cells vs.toArray t)).cell? ((⟨w.heap.size,0,none⟩:Addr).add j)=some u:=fun j u h=>by
 have e:(⟨w.heap.size,0,none⟩:Addr).add j=⟨w.heap.size,j,none⟩:=by unfold Addr.add;split<;>simp_all
 rw[e,(ao.new 0 w vs t).rule j];exact h
def gZ (v:Value) (e:TypeId) (s n:Nat) (xs:List Value):Item where
 F:=fun k=>v.ownBlock=some k
 says:=fun w=>w.ownsRow 0 e s v n xs
 loc:=fun w1 w2 h hk _=>sX h hk
end
section
open Go.RowKit Go.WideShapes Go.ChangeShapes Go.ChangeAt Go.Deep
inductive oK | num (k:IntKind) | boo
def oK.fits (P:Program) (t:TypeId):oK->Prop
 | .num k=>P.underlying t=some (.int k)
 | .boo=>P.underlying t=some .bool
def oK.ok (v:Value):oK->Prop
 | .num k=>∃ n,v=.int k n/\(Lit.int k n).wf=true
 | .boo=>∃ b,v=.bool b
def sZ (P:Program):List Field->List oK->Prop
 | [],[]=>True
 | f::fs,s::ss=>s.fits P f.type/\sZ P fs ss
 | _,_=>False
theorem sZ.get {P:Program}:∀ {fs:List Field} {ss:List oK},sZ P fs ss->∀ {i:Nat} {s:oK},ss[i]?=some s->∃ f,fs[i]?=some f/\s.fits P f.type:=by
 intro fs
 induction fs with
 | nil =>
  intro ss h i s e;cases ss with
  | nil=>simp at e
  | cons x ss=>exact absurd h (by simp[sZ])
 | cons f fs ih =>
  intro ss h i s e;cases ss with
  | nil=>exact absurd h (by simp[sZ])
  | cons x ss =>
   cases i with
   | zero =>
    simp at e;subst e;exact⟨f,rfl,h.1⟩
   | succ i =>
    obtain⟨f',hf,hs⟩:=ih h.2 (i:=i) (by simpa using e);exact⟨f',by simpa using hf,hs⟩
section
variable {H:Type} {enc:TypeId × Value->H} {P:Program} {w:World} {base:Nat} {spare:Nat->Bool} {held:Bool}
theorem Hl {r:Reach} {b0:Nat} {t:TypeId} {fs:Array Field} {ss:List oK} {v:Value} {d:DataW H} {p:List MemPlace} (hs:P.underlying t=some (.struct fs)) (Hm:oneCellFields P fs=true) (hC:P.cellsOf t=ss.length) (Hn:sZ P fs.toList ss)
  (hv:Value.okWide P w r b0 t v) (h:DataW.Trod enc P w base spare held t v d p) :
  ∃ cs:Array Value,v=.agg cs/\cs.size=ss.length/\∀ (i:Nat) (s:oK),ss[i]?=some s->∃ x,cs[i]?=some x/\s.ok x:=by
 obtain⟨cs,rfl,iZ⟩:=okWide_struct hs hv;obtain⟨fuel,hf⟩:=h;obtain⟨xs,n,-,-,hl,hlen,eE⟩:=DataW.trod_struct hs hf;refine⟨cs,rfl,iZ.trans hC,fun i s e=>?_⟩;obtain⟨f,Ho,CO⟩:=Hn.get e;have yP:fs[i]?=some f:=by simpa using Ho
 obtain⟨o,k⟩:=hone_of Hm i f yP;have hi:i < cs.size:=by
  have:i < ss.length:=by
   rcases Nat.lt_or_ge i ss.length with hh | hh
   ·exact hh
   ·rw[List.getElem?_eq_none hh] at e;cases e
  omega
 have hx:xs[i]?≠none:=by
  have:=(Array.getElem?_eq_some_iff.1 yP).1;rw[List.getElem?_eq_getElem (by omega)];simp
 have ht:=eE i f yP;have ie:((Value.agg cs).cells.toList.drop f.offset).take (P.cellsOf f.type)=[cs[i]]:=by
  rw[o,k];show (cs.toList.drop i).take 1=_;have fE:i < cs.toList.length:=by simpa using hi
  rw[List.drop_eq_getElem_cons fE];simp
 rw[ie] at ht;obtain⟨y,hy⟩:=Option.ne_none_iff_exists'.1 hx;rw[hy] at ht;refine⟨cs[i],by simp[hi],?_⟩;cases s with
 | num k =>
  obtain⟨n,e1,-,wf⟩:=DataW.trod_int CO ht;exact⟨n,by simpa using e1,wf⟩
 | boo =>
  obtain⟨b,e1,-⟩:=DataW.trod_bool CO ht;exact⟨b,by simpa using e1⟩
end
theorem Hp {α:Type} {cs:Array α} {n:Nat} (h:cs.size=n):∃ l:List α,cs=l.toArray/\l.length=n:=⟨cs.toList,rfl,by simpa using h⟩
theorem Hq {α:Type} {l:List α} (h:l.length=5):∃ a b c d e,l=[a,b,c,d,e]:=by
 match l,h with
 | [a,b,c,d,e],_=>exact⟨a,b,c,d,e,rfl⟩
end
section
open Go.RowKit
theorem ig {x y:Bool} (h:x=y):Ending.returned (.bool x)=.returned (.bool y):=congrArg (fun z=>Ending.returned (.bool z)) h
theorem iA {k:IntKind} {x y:Int} (h:x=y):Ending.returned (.int k x)=.returned (.int k y):=congrArg (fun z=>Ending.returned (.int k z)) h
theorem df (n:Int) (h:-9223372036854775808<=n/\n<=9223372036854775807):wrap64 n=n:=by unfold wrap64;omega
theorem lU (n:Int):IntKind.i64.wrap n=wrap64 n:=by rw[IntKind.wrap_i64];unfold wrap64;omega
def In64 (n:Int):Prop:=-9223372036854775808<=n/\n<=9223372036854775807
def aD (n:Int):Prop:=0<=n/\n<=18446744073709551615
theorem CP {n:Int}:(Lit.int .i64 n).wf=true ↔ In64 n:=by simp[Lit.wf,IntKind.min,IntKind.max,IntKind.signed,IntKind.bits,In64]
theorem Hr {n:Int}:(Lit.int .u64 n).wf=true ↔ aD n:=by simp[Lit.wf,IntKind.min,IntKind.max,IntKind.signed,IntKind.bits,aD]
end
section
open Go.RowKit Go.Maps Go.Deep
def km (w:World) (b o:Nat) (vs:List Value):Prop:=∀ (j:Nat) (v:Value),vs[j]?=some v->w.cell? ⟨b,o+j,none⟩=some v
theorem km.below {w w':World} {b o:Nat} {vs:List Value} (h:km w b o vs) (hb:Below w.heap.size w w') (hl:b < w.heap.size):km w' b o vs:=fun j v e=>by
 rw[hb.cell (p:=⟨b,o+j,none⟩) hl];exact h j v e
def jQ {α:Type} [Inhabited α] (enc:α->List Value) (m:Nat) (w:World) (A:Option Addr) (xs:List α):Prop :=
 xs=[]\/∃ b off,A=some ⟨b,off,none⟩/\b < w.heap.size/\∀ i,i < xs.length->km w b (off+i * m) (enc (xs.getD i default))
theorem jQ.below {α:Type} [Inhabited α] {enc:α->List Value} {m:Nat} {w w':World} {A:Option Addr} {xs:List α} (h:jQ enc m w A xs) (hb:Below w.heap.size w w'):jQ enc m w' A xs:=by
 rcases h with h | ⟨b,off,rfl,hl,hc⟩
 ·exact .inl h
 ·exact .inr ⟨b,off,rfl,Nat.lt_of_lt_of_le hl hb.size,fun i hi=>(hc i hi).below hb hl⟩
abbrev bF:=Int × Int × Int
def fF (x:bF):List Value:=[.int .i64 x.1,.int .i64 x.2.1,.int .i64 x.2.2]
def tv (x:bF):Value:=.agg #[.int .i64 x.1,.int .i64 x.2.1,.int .i64 x.2.2]
def t0:bF:=(0,0,0)
theorem wF:(default:bF)=t0:=rfl
def flat3 (l:List bF):List Value:=l.flatMap fF
theorem s4 (l:List bF):(flat3 l).length=l.length * 3:=by
 induction l with
 | nil=>rfl
 | cons x l ih=>simp[flat3,fF] at *;omega
theorem Hs (l m:List bF):flat3 (l++m)=flat3 l++flat3 m:=by simp[flat3]
theorem mE (l:List bF):∀ (j c:Nat),j < l.length->c < 3->(flat3 l)[j * 3+c]?=(fF (l.getD j t0))[c]?:=by
 induction l with
 | nil=>intro j c h;simp at h
 | cons x l ih =>
  intro j c hj hc;have e:flat3 (x::l)=fF x++flat3 l:=by simp[flat3]
  cases j with
  | zero=>rw[e,List.getElem?_append_left (by simp[fF];omega)];simp
  | succ j =>
   rw[e,List.getElem?_append_right (by simp[fF];omega)];have:=ih j c (by simpa using hj) hc;have e2:(j+1) * 3+c - (fF x).length=j * 3+c:=by simp[fF];omega
   rw[e2,this];simp
theorem CQ (x:bF):∀ (l:List bF) (k:Nat),k < l.length->flat3 (l.set k x)=(((flat3 l).set (k * 3) (.int .i64 x.1)).set (k * 3+1) (.int .i64 x.2.1)).set (k * 3+2) (.int .i64 x.2.2)
 | [],k,h=>by simp at h
 | y::l,k,h=>by
  have e:∀ (z:bF) (m:List bF),flat3 (z::m)=.int .i64 z.1::.int .i64 z.2.1::.int .i64 z.2.2::flat3 m:=fun z m=>by simp[flat3,fF]
  cases k with
  | zero=>simp[e]
  | succ k =>
   have ih:=CQ x l k (by simpa using h);rw[zS,e,e,ih];rw[show (k+1) * 3=k * 3+3 by omega];simp
theorem Ht (n:Nat):flat3 (List.replicate n t0)=List.replicate (n * 3) (.int .i64 0):=by
 induction n with
 | zero=>rfl
 | succ n ih =>
  have e:flat3 (List.replicate (n+1) t0)=fF t0++flat3 (List.replicate n t0):=by simp[flat3,List.replicate_succ]
  rw[e,ih,show (n+1) * 3=n * 3+3 by omega];simp[fF,t0,List.replicate_succ]
theorem qa {w:World} {b o:Nat} {x y z:Int} (h:km w b o (fF (x,y,z))):w.cell? ⟨b,o,none⟩=some (.int .i64 x)/\w.cell? ⟨b,o+1,none⟩=some (.int .i64 y)/\w.cell? ⟨b,o+2,none⟩=some (.int .i64 z) :=
 ⟨h 0 _ rfl,h 1 _ rfl,h 2 _ rfl⟩
abbrev gI (w:World) (A:Option Addr) (xs:List bF):Prop:=jQ fF 3 w A xs
def yQ (A:Option Addr) (k:Nat):Prop:=∃ off,A=some ⟨k,off,none⟩
theorem km.kept {w w':World} {b o:Nat} {vs:List Value} (h:km w b o vs) (hb:w'.heap[b]?=w.heap[b]?):km w' b o vs:=fun j v e=>by
 rw[World.cell?_of_block (w:=w) hb];exact h j v e
theorem gI.kept {w w':World} {A:Option Addr} {xs:List bF} (h:gI w A xs) (hk:∀ k,yQ A k->w'.heap[k]?=w.heap[k]?) (hs:w.heap.size<=w'.heap.size):gI w' A xs:=by
 rcases h with h | ⟨b,off,rfl,hl,hc⟩
 ·exact .inl h
 ·exact .inr ⟨b,off,rfl,Nat.lt_of_lt_of_le hl hs,fun i hi=>(hc i hi).kept (hk b ⟨off,rfl⟩)⟩
theorem ao.row3 {w:World} {g:Nat} {l:List bF} (h:ao 0 w g (flat3 l)):gI w (some ⟨g,0,none⟩) l:=by
 refine .inr ⟨g,0,rfl,h.1,fun i hi j v e=>?_⟩;have hj:j < 3:=by have:=(List.getElem?_eq_some_iff.1 e).1;simpa [fF] using this
 rw[Nat.zero_add,h.rule,mE l i j hi hj,<- wF];exact e
theorem Hu {w:World} {b:Nat} {e:TypeId} {A:Option Addr} {cap:Nat} {l:List bF} (h:w.ownsRow b e 3 (.slice A l.length cap) l.length (flat3 l)):gI w A l:=by
 rcases h.2 with ⟨_,h0⟩ | ⟨g,ga,cur,hv,_,hg,hn,hc,eO,jm⟩
 ·exact .inl (List.eq_nil_of_length_eq_zero h0)
 ·simp only[Value.slice.injEq] at hv;obtain⟨rfl,-,rfl⟩:=hv;refine .inr ⟨g,0,rfl,(Array.getElem?_eq_some_iff.1 hg).1,fun i hi j v e=>?_⟩;have hj:j < 3:=by have:=(List.getElem?_eq_some_iff.1 e).1;simpa [fF] using this
  have h1:=mE l i j hi hj;rw[<- wF,e,<- jm,List.getElem?_take_of_lt (by omega)] at h1;rw[Nat.zero_add];simp only[World.cell?,hg]
  simpa using h1
theorem gI.nil {w:World}:gI w none []:=.inl rfl
theorem gI.news {w:World} {ad:Addr} {xs:List bF} (h:gI w (some ad) xs):∀ j u,(flat3 xs)[j]?=some u->w.cell? (ad.add j)=some u:=by
 intro j u hu
 rcases h with rfl | ⟨b,off,he,hl,hc⟩
 ·simp[flat3] at hu
 ·cases he;have hj:j < xs.length * 3:=by rw[<- s4];exact (List.getElem?_eq_some_iff.1 hu).1
  have e:(⟨b,off,none⟩:Addr).add j=⟨b,off+j,none⟩:=by unfold Addr.add;split<;>simp_all
  have e2:j / 3 * 3+j % 3=j:=by omega
  have h1:=hc (j / 3) (by omega) (j % 3) u (by rw[wF,<- mE xs (j / 3) (j % 3) (by omega) (Nat.mod_lt _ (by omega)),e2,hu]);rw[e]
  rwa [Nat.add_assoc,e2] at h1
theorem Hv (l:List bF):∀ u∈flat3 l,u.oneCell'=true:=fun x hx=>by
 obtain⟨o,_,ho⟩:=List.mem_flatMap.1 hx;simp[fF] at ho
 rcases ho with rfl | rfl | rfl<;>rfl
theorem ao.set3 {m n k:Nat} {l:List bF} {w:World} (h:ao m w n (flat3 l)) (hk:k < l.length) (x:bF) :
  ao m (((w.setCell ⟨n,k * 3,none⟩ (.int .i64 x.1)).setCell ⟨n,k * 3+1,none⟩ (.int .i64 x.2.1)).setCell ⟨n,k * 3+2,none⟩ (.int .i64 x.2.2)) n (flat3 (l.set k x)):=by
 rw[CQ x l k hk];have hl:=s4 l;exact ((h.set (by omega) _).set (by simp;omega) _).set (by simp;omega) _
theorem Hw (n:Nat):madeCells (tv t0).cells (n * 3)=(flat3 (List.replicate n t0)).toArray:=by
 rw[Ht];apply Array.ext
 ·simp[size_madeCells]
 ·intro i h1 h2;have:i % 3=0\/i % 3=1\/i % 3=2:=by omega
  simp only[madeCells,Array.getElem_map,Array.getElem_range,tv,t0,Value.cells,List.getElem_toArray,List.getElem_replicate]
  rcases this with h | h | h<;>simp[h]
theorem Hx {P:Program} (t e:TypeId) (ht:P.underlying t=some (.slice e)) (ly:(P.info? e).map (fun i=>(i.zero,i.size,i.bytes))=some (some (tv t0),3,24))
  (kl kc:IntKind) (n:Nat) (hn:n<=1099511627776) (w:World) :
  (Instr.makeSlice t (.int kl (n:Int)) (.int kc (n:Int))).run P w=.ok (.slice (some ⟨w.heap.size,0,none⟩) n n) (w.alloc (.cells (flat3 (List.replicate n t0)).toArray e)):=by
 obtain⟨i,hi,jC⟩:=Option.map_eq_some_iff.1 ly;simp only[Prod.mk.injEq] at jC;obtain⟨hz,hs,hb⟩:=jC;have hr:=run_make (P:=P) w t e i (tv t0) ht hi hz kl kc n n (by omega) (Int.le_refl _) (by rw[hb];omega) (by omega);simp only[Int.toNat_natCast,hs,Hw] at hr;exact hr
theorem yR {P:Program} (w:World) {ops:Array Oper} {rest:List Oper} {o:Oper} {a:Act} {Q:Exit->Act->World->Prop}
  (hg:o.guard=none) (l c:Operand) (t:TypeId) (s5:o.op=Op.makeSlice t l c)
  (e:TypeId) (ht:P.underlying t=some (.slice e)) (ly:(P.info? e).map (fun i=>(i.zero,i.size,i.bytes))=some (some (tv t0),3,24))
  (kl kc:IntKind) (N M:Int) (n:Nat) (hl:a.eval l=.int kl N) (hc:a.eval c=.int kc M) (hN:N=(n:Int)) (hM:M=(n:Int)) (hn:n<=1099511627776)
  (hK:wpList P ops Q rest (a.put o.dst (.slice (some ⟨w.heap.size,0,none⟩) n n)) (w.alloc (.cells (flat3 (List.replicate n t0)).toArray e))) :
  wpList P ops Q (o::rest) a w:=by
 refine wpList_plain hg fun K rv=>?_;subst hN;subst hM;have cZ:=Hx (P:=P) t e ht ly kl kc n hn w;unfold Oper.wp;simp[execOp,s5,hl,hc,cZ,Result.andThen];exact rv _ _ hK
section
variable {w0 w w':World} {L:List Item}
def fK (v:Value) (e:TypeId) (l:List bF):Item:=gZ v e 3 l.length (flat3 l)
theorem Env.row3 (h:Env w0 L w) (i:Nat) {v:Value} {e:TypeId} {l:List bF} (hi:L[i]?=some (fK v e l)):w.ownsRow 0 e 3 v l.length (flat3 l):=h.get i hi
theorem Env.cells3 (h:Env w0 L w) (i:Nat) {A:Option Addr} {n cap:Nat} {e:TypeId} {l:List bF} (hn:n=l.length) (hi:L[i]?=some (fK (.slice A n cap) e l)):gI w A l:=by subst hn;exact Hu (h.row3 i hi)
theorem Env.addRow3 (h:Env w0 L w) {v:Value} {e:TypeId} {l:List bF} (ho:w'.ownsRow w.heap.size e 3 v l.length (flat3 l)) (hb:Below w.heap.size w w'):Env w0 (fK v e l::L) w' :=
 h.add (fK v e l) hb (CK ho (Nat.zero_le _)) fun k hk=>ho.lt k hk
theorem Env.addEmpty3 (h:Env w0 L w) (n:Nat) (hn:w.heap.size=n) (e:TypeId):Env w0 (fK (.slice (some ⟨n,0,none⟩) 0 0) e []::L) (w.alloc (.cells #[] e)):=by
 subst hn;exact h.addRow3 (v:=.slice (some ⟨w.heap.size,0,none⟩) 0 0) (l:=[]) ⟨rfl,.inr ⟨w.heap.size,0,#[],rfl,Nat.le_refl _,heap_alloc_new w _,Nat.le_refl _,Nat.zero_le _,rfl,rfl⟩⟩ ((Below.refl _ _).alloc (Nat.le_refl _) _)
theorem Env.addNone3 (h:Env w0 L w) (e:TypeId):Env w0 (fK (.slice none 0 0) e []::L) w :=
 h.add (fK (.slice none 0 0) e []) (Below.refl _ _) (World.ownsRow_nil _ _ _ _) fun k hk=>by cases hk
theorem Env.append3 {P:Program} (h:Env w0 L w) (i:Nat) {v:Value} {e:TypeId} {l xs:List bF} (hi:L[i]?=some (fK v e l)) (t ty:TypeId) (ht:P.underlying t=some (.slice e)) (ly:(P.info? e).map (fun i=>(i.zero,i.size,i.bytes))=some (some (tv t0),3,24))
  {A:Option Addr} (c:Nat) (hx:gI w A xs) (hz:l.length+xs.length<=1048576) :
  ∃ A' c' w',(Builtin.append_ #[t,t] ty #[v,.slice A xs.length c]).run P w=.ok (.slice A' (l.length+xs.length) c') w'/\Env w0 (L.set i (fK (.slice A' (l.length+xs.length) c') e (l++xs))) w'/\Step (fun k=>v.ownBlock=some k) (fun k=>(Value.slice A' (l.length+xs.length) c').ownBlock=some k) w w':=by
 obtain⟨i0,nH,jC⟩:=Option.map_eq_some_iff.1 ly;simp only[Prod.mk.injEq] at jC;obtain⟨jR,hs,hb⟩:=jC;have cF:=h.row3 i hi;obtain⟨v',w',cZ,ho,hg,hv⟩:=yJ (P:=P) t ty 0 e i0 (tv t0) 3 24 ht nH jR hs hb rfl (by decide) w v l.length (flat3 l) cF A xs.length c (flat3 xs) (s4 xs)
  (by
    cases A with
    | none =>
     left
     rcases hx with rfl | ⟨b,off,he,_⟩
     ·exact⟨rfl,rfl⟩
     ·cases he
    | some ad=>exact .inr ⟨ad,rfl,gI.news hx⟩) (Hv xs) (by simp[maxLen];omega) (by omega) (Nat.zero_le _)
 obtain⟨A',c',rfl⟩:=yO ho;have bY:Step (fun k=>v.ownBlock=some k) (fun k=>(Value.slice A' (l.length+xs.length) c').ownBlock=some k) w w':=⟨(cj.refl _ w).grown hg fun k _ e=>e,fun k hk=>by
  rcases hv with e | e
  ·exact .inl (by rw[<- e];exact hk)
  ·right
   rw[e] at hk;cases hk;exact Nat.le_refl _⟩
 refine⟨A',c',w',cZ,h.step i (fK _ e (l++xs)) hi bY ?_ ?_,bY⟩
 ·show w'.ownsRow 0 e 3 _ (l++xs).length (flat3 (l++xs));rw[List.length_append,Hs];exact ho
 ·exact yI ho
theorem Env.append3' {P:Program} (h:Env w0 L w) (i:Nat) {v:Value} {e:TypeId} {l xs:List bF} (hi:L[i]?=some (fK v e l)) (t ty:TypeId) (ht:P.underlying t=some (.slice e)) (ly:(P.info? e).map (fun i=>(i.zero,i.size,i.bytes))=some (some (tv t0),3,24))
  {A:Option Addr} {n:Nat} (c:Nat) (hn:n=xs.length) (hx:gI w A xs) (hz:l.length+xs.length<=1048576) :
  ∃ A' c' w',(Builtin.append_ #[t,t] ty #[v,.slice A n c]).run P w=.ok (.slice A' (l++xs).length c') w'/\Env w0 (L.set i (fK (.slice A' (l++xs).length c') e (l++xs))) w':=by
 subst hn;obtain⟨A',c',w',h1,h2,-⟩:=h.append3 i hi t ty ht ly c hx hz;rw[<- List.length_append] at h1 h2;exact⟨A',c',w',h1,h2⟩
theorem Env.into (j:Nat) {a:Item} (h:Env w0 (a::L) w):Env w0 (L.set j a) w:=by
 rcases Nat.lt_or_ge j L.length with hj | hj
 ·have hp:(L.set j a).Perm (a::L.eraseIdx j):=by
   rw[List.set_eq_take_append_cons_drop,if_pos hj,List.eraseIdx_eq_take_drop_succ];exact List.perm_middle
  have h1:Env w0 (a::L.eraseIdx j) w:=h.sub (.cons_cons _ (List.eraseIdx_sublist L j));exact⟨h1.1,(hp.symm.pairwise_iff (fun h=>nE.symm h)).1 h1.2.1,fun b hb=>h1.2.2 b (hp.mem_iff.1 hb)⟩
 ·rw[List.set_eq_of_length_le hj];exact h.sub (.cons _ (List.Sublist.refl _))
end
end
end Go.Proofs.YtleklonmmlfijaaGreatDoor
namespace Go.Proofs.YtleklonmmlfijaaGreatDoor.OrdF
section
open Go Go.RowKit Go.Proofs.YtleklonmmlfijaaGreatDoor.Ord Go.Proofs.YtleklonmmlfijaaGreatDoor.Ord3
section
variable {P:Program} {ops:Array Oper} {Q:Exit->Act->World->Prop} {md:Region.Mode} {C:World->Prop} {A:List Value->Option Value->World->Prop} {ps:List Nat} {q:Nat} {vs:List (Value->Prop)}
theorem in_early (m:Nat) {p k:Nat} {o:Oper} {rest:List Oper} {a:Act} {v:Value} {κs:List Value} {fo:Option Value} (hf:dK md ops=true) (hk:k ∉ ps) (gH:k≠q) (hp:ps[m]?=some p) (hh:jB md ops p k=true) (lq:k < ops.size)
  (dL:vs[k]?=some fun u=>u=v) (hw:Region.wanted o (yielded ops a.tmps)=true) (hv:∀ w κs fo,κs.length<=m->C w->A κs fo w->(execOp a.eval o).run P w=.ok (.value v) w)
  (h:In P md ops Q vs ps q C A (k+1) rest κs fo (a.put o.dst v)):In P md ops Q vs ps q C A k (o::rest) κs fo a:=fun κ hκ dN =>
 InText.cons hf v ⟨_,dL,rfl⟩ (Or.inl ⟨hw,fun l ρ w hr _ _ hS=>by
   have gF:=hS;obtain⟨hc,hs,hC,j,hj,hl,hA⟩:=hS;have lu:j<=m:=by
    rcases Nat.lt_or_ge m j with aE | kg
    ·exfalso
     have h1:=hl m p hp;have h2:l.getD p false=true:=by rw[h1.2];simpa using aE
     have h0:l.getD k false=false:=sW hr;have h4:=kI.step hc hh h2;rw[h0] at h4;cases h4
    ·exact kg
   rw[hv w _ _ (by simp;omega) hC hA];exact⟨⟨_,dL,rfl⟩,kh hk gH hr gF hC fun _ _ h=>h⟩⟩)
  fun u ⟨p,hp,hu⟩=>by
   rw[dL] at hp;cases hp;rw[hu];exact h _ (by rw[kj (fun e=>hk (List.mem_of_mem_take e))];exact hκ) (uN gH dN)
end
def AFS (w0:World) (z0:List Value) (Ps:List (List Value->List Item->Prop)) (κs:List Value) (fo:Option Value) (w:World):Prop :=
 ∃ L P,Ps[κs.length]?=some P/\P κs L/\((fo=none/\Env w0 L w)\/∃ n,fo=some (.slice (some ⟨n,0,none⟩) 1 1)/\Env w0 (ae n z0::L) w)
def Slc (v:Value):Prop:=∃ n,v=.slice (some ⟨n,0,none⟩) 1 1
theorem AFS.up {w0 w:World} {z0:List Value} {Ps:List (List Value->List Item->Prop)} {κs:List Value} (h:AFS w0 z0 Ps κs none w) (t:TypeId):AFS w0 z0 Ps κs (some (.slice (some ⟨w.heap.size,0,none⟩) 1 1)) (w.alloc (.cells z0.toArray t)):=by
 obtain⟨L,P,h1,h2,⟨_,hE⟩ | ⟨n,hn,_⟩⟩:=h
 ·exact⟨L,P,h1,h2,.inr ⟨_,rfl,hE.box _ rfl _ _⟩⟩
 ·cases hn
end
end Go.Proofs.YtleklonmmlfijaaGreatDoor.OrdF
