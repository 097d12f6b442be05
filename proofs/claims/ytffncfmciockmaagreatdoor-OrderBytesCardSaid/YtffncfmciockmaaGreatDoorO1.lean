/- What is proved on the way to the statement, part 1: contracts of the functions, among other things in memory. -/
import Derived.WalkKit
import Derived.Orders
import Derived.Lib.Hide
import Derived.Maps.OwnSet
import Derived.Test.YtffncfmciockmaaGreatDoorChecked
import Derived.Deep.AppendLies
import Derived.Maps.AppendAt
import Derived.OneCell
import Derived.Laws.OwnMore
import Derived.Deep.Light
import Derived.Lib.SmallJoins
import Derived.Deep.Slices
import Derived.DeepKeys4
import Derived.Maps.Range
import Derived.Shelf.SlMaps.Clone

open _root_.Go.Proofs.Tryz
set_option maxRecDepth 100000
set_option maxHeartbeats 25600000
namespace Go
theorem zH {p : Prop} (h : p) : RowKit.Hid p := h
theorem _root_.Go.RowKit.Hid.o {p : Prop} (h : RowKit.Hid p) : p := h
theorem zA {α : Type _} (l : List α) (i : Nat) (a : α) : l.toArray.setIfInBounds i a = (l.set i a).toArray := List.setIfInBounds_toArray ..
theorem zZ {α : Type _} (a b : α) (l : List α) : (a :: l).set 0 b = b :: l := rfl
theorem zS {α : Type _} (a b : α) (l : List α) (n : Nat) : (a :: l).set (n + 1) b = a :: l.set n b := rfl
end Go
namespace Go.Proofs.YtffncfmciockmaaGreatDoor.Ord
section
open Go
section
variable {P:Program} {ops:Array Oper} {Q:Exit->Act->World->Prop} {md:Region.Mode} {S:Array Bool->World->Prop}
def LandsIn (P:Program) (T:World->Prop) (v:Value):Result Next->Prop
 | .ok (.value u) w'=>u=v/\T w'
 | .ok .skip w'=>v=undef/\T w'
 | .ok (.enter f args) w'=>Calls P f args w' fun e w''=>e=.returned v/\T w''
 | _=>False
theorem LandsIn.mono {T T':World->Prop} {v:Value} {r:Result Next} (h:LandsIn P T v r) (hT:∀ w,T w->T' w):LandsIn P T' v r:=by
 cases r with
 | ok n w' =>
  cases n<;>simp only [LandsIn] at *
  case value u=>exact ⟨h.1,hT _ h.2⟩
  case skip=>exact ⟨h.1,hT _ h.2⟩
  case enter f args=>exact h.mono fun e w'' he=>⟨he.1,hT _ he.2⟩
 | halt x w'=>simp only [LandsIn] at h
def Settles (P:Program) (md:Region.Mode) (ops:Array Oper) (S:Array Bool->World->Prop) (i:Nat) (o:Oper) (v:Value) (a:Act):Prop :=
 (Region.wanted o (yielded ops a.tmps)=true/\∀ l w,i∈Region.ready md ops l->S l w->LandsIn P (S (l.setIfInBounds i true)) v ((execOp a.eval o).run P w)) \/
 (Region.wanted o (yielded ops a.tmps)=false/\v=undef/\∀ l w,i∈Region.ready md ops l->S l w->S (l.setIfInBounds i true) w)
theorem Settles.of_same {i:Nat} {o:Oper} {v:Value} {a a':Act} (h:Settles P md ops S i o v a) (he:execOp a'.eval o=execOp a.eval o)
  (hw:Region.wanted o (yielded ops a'.tmps)=Region.wanted o (yielded ops a.tmps)):Settles P md ops S i o v a':=by
 unfold Settles at *;rw [he,hw];exact h
theorem Settles.wpOp {i:Nat} {o:Oper} {v:Value} {a:Act} {l:Array Bool} (hi:ops[i]?=some o) (h:Settles P md ops S i o v a) (hr:i∈Region.ready md ops l) {K:Act->World->Prop} {w:World} (hS:S l w)
  (hK:∀ w',S (l.setIfInBounds i true) w'->K (a.put o.dst v) w'):wpOp P ops Q i K a w:=by
 unfold Go.wpOp;simp only [hi]
 rcases h with ⟨hw,hv⟩ | ⟨hw,rfl,hv⟩
 ·simp only [hw,if_true];have:=hv l w hr hS;refine .inl ?_;unfold Oper.wp;generalize (execOp a.eval o).run P w=r at *;cases r with
  | ok n w' =>
   cases n<;>simp only [LandsIn] at this<;>simp only [Oper.upon]
   case value u=>obtain ⟨rfl,h2⟩:=this; exact hK _ h2
   case skip=>obtain ⟨rfl,h2⟩:=this; exact hK _ h2
   case enter f args =>
    refine Calls.mono this fun e w'' he=>?_;obtain ⟨rfl,h2⟩:=he;exact hK _ h2
  | halt x w'=>simp only [LandsIn] at this
 ·simp only [hw,Bool.false_eq_true,if_false];exact hK _ (hv l w hr hS)
def Every (P:Program) (md:Region.Mode) (ops:Array Oper) (Q:Exit->Act->World->Prop) (S:Array Bool->World->Prop):Nat->Array Bool->Act->Prop
 | 0,listed,a=>Region.ready md ops listed=[]/\∀ w,S listed w->Q .normal a w
 | fuel+1,listed,a=>(Region.ready md ops listed=[]->∀ w,S listed w->Q .normal a w) /\
  ∀ i∈Region.ready md ops listed,∃ o v,ops[i]?=some o/\Settles P md ops S i o v a/\Every P md ops Q S fuel (listed.setIfInBounds i true) (a.put o.dst v)
theorem Every.sound:∀ (fuel:Nat) (listed:Array Bool) (a:Act),Every P md ops Q S fuel listed a->∀ w,S listed w->wpAny P md ops Q fuel listed a w
 | 0,_,_,h,w,hS=>⟨h.1,h.2 w hS⟩
 | fuel+1,listed,a,h,w,hS=>⟨fun h0=>h.1 h0 w hS,fun i hi=>by
   obtain ⟨o,v,ho,hs,hE⟩:=h.2 i hi;exact hs.wpOp ho hi hS fun w' hS'=>Every.sound fuel _ _ hE w' hS'⟩
theorem Every.first {i:Nat} {oi:Oper} {v:Value} (hi:ops[i]?=some oi) (hsel:∀ (j:Nat) (o:Oper) cs b,ops[j]?=some o->o.op≠.select cs b) :
  ∀ (fuel:Nat) (listed:Array Bool) (a:Act),
   (∀ j oj,ops[j]?=some oj->j≠i->listed.getD j true=false->(∀ e∈oj.after,Region.binds md e=true->e.on≠i)->oi.apart ops oj=true) ->
   i∈Region.ready md ops listed->Settles P md ops S i oi v a ->
   Every P md ops Q S fuel (listed.setIfInBounds i true) (a.put oi.dst v)->Every P md ops Q S (fuel+1) listed a:=by
 intro fuel
 induction fuel with
 | zero =>
  intro listed a _ hr hy H;refine ⟨fun h=>(by rw [h] at hr; cases hr),fun j hj=>?_⟩
  by_cases hji:j=i
  ·subst hji; exact ⟨oi,v,hi,hy,H⟩
  ·have:=ready_mono hj hji;rw [H.1] at this;cases this
 | succ fuel ih =>
  intro listed a hfree hr hy H;refine ⟨fun h=>(by rw [h] at hr; cases hr),fun j hj=>?_⟩
  by_cases hji:j=i
  ·subst hji; exact ⟨oi,v,hi,hy,H⟩
  ·obtain ⟨oj,u,hoj,hsj,hE⟩:=H.2 j (ready_mono hj hji);obtain ⟨hjun,oj',hoj',hall⟩:=mem_ready.1 hj;obtain rfl:oj=oj':=Option.some.inj (hoj.symm.trans hoj');have hnot:∀ e∈oj.after,Region.binds md e=true->e.on≠i:=fun e he hb heq=>by
    have h1:=hall e he hb;have h0:=(mem_ready.1 hr).1;rw [heq] at h1
    rcases Nat.lt_or_ge i listed.size with h' | h'
    ·simp [h'] at h0 h1; rw [h0] at h1; cases h1
    ·simp [Array.getElem?_eq_none h'] at h1
   have hap:=hfree j oj hoj hji hjun hnot;obtain ⟨p1,p2,p3⟩:=Oper.apart_spec hap;have hfree':∀ k ok,ops[k]?=some ok->k≠i->(listed.setIfInBounds j true).getD k true=false ->
     (∀ e∈ok.after,Region.binds md e=true->e.on≠i)->oi.apart ops ok=true:=fun k ok hk hki hun hno=>by
    refine hfree k ok hk hki ?_ hno
    by_cases hjk:j=k
    ·subst hjk; exact hjun
    ·rw [getD_set_ne true hjk] at hun; exact hun
   refine ⟨oj,u,hoj,hsj.of_same (execOp_put oj (fun cs b=>hsel j oj cs b hoj) a oi.dst v p1).symm (wanted_put oj a oi.dst v p1).symm,?_⟩;refine ih (listed.setIfInBounds j true) (a.put oj.dst u) hfree' (ready_mono hr (Ne.symm hji)) (hy.of_same (execOp_put oi (fun cs b=>hsel i oi cs b hi) a oj.dst u p3) (wanted_put oi a oj.dst u p3)) ?_;rw [Array.setIfInBounds_comm _ _ hji,<- Act.put_comm a v u p2];exact hE
def firstK (n k:Nat):Array Bool:=Array.ofFn (n:=n) fun i=>decide (i.1 < k)
def textFits (md:Region.Mode) (ops:Array Oper):Bool :=
 Region.noSelect ops && (List.range ops.size).all fun k=>Region.free md ops (firstK ops.size k) k && (Region.ready md ops (firstK ops.size k)).contains k
def InText (P:Program) (md:Region.Mode) (ops:Array Oper) (Q:Exit->Act->World->Prop) (S:Array Bool->World->Prop) (k:Nat) (rest:List Oper) (a:Act):Prop :=
 k+rest.length=ops.size->ops.toList.drop k=rest->Every P md ops Q S rest.length (firstK ops.size k) a
theorem firstK_succ (n k:Nat):(firstK n k).setIfInBounds k true=firstK n (k+1):=by
 apply Array.ext
 ·simp [firstK]
 ·intro i h1 h2
  by_cases hik:i=k
  ·subst hik;simp [firstK]
  ·have e:=Array.getElem_setIfInBounds_ne (xs:=firstK n k) (i:=k) (j:=i) (a:=true) (by simpa using h1) (by omega);rw [e];simp only [firstK,Array.getElem_ofFn]
   congr 1
   apply propext;omega
theorem firstK_get (n k i:Nat) (h:i < n):(firstK n k).getD i false=decide (i < k):=by simp [firstK,h]
theorem InText.nil {a:Act} {k:Nat} (h:∀ w,S (firstK ops.size ops.size) w->Q .normal a w):InText P md ops Q S k [] a:=fun hk _=>by
 have hk':k=ops.size:=by simpa using hk
 subst hk';refine ⟨?_,h⟩;unfold Region.ready;rw [List.filter_eq_nil_iff];intro i hi;have:i < ops.size:=by simpa using hi
 simp [firstK,this]
theorem InText.cons {o:Oper} {rest:List Oper} {a:Act} {v:Value} {k:Nat} (hf:textFits md ops=true) (hs:Settles P md ops S k o v a) (h:InText P md ops Q S (k+1) rest (a.put o.dst v)):InText P md ops Q S k (o::rest) a:=fun hk hd=>by
 unfold textFits at hf;rw [Bool.and_eq_true,List.all_eq_true] at hf;have hlt:k < ops.size:=by simp at hk; omega
 have hf2:=hf.2 k (by simpa using hlt);rw [Bool.and_eq_true] at hf2;have ho:ops[k]?=some o:=by
  have h0:(ops.toList.drop k)[0]?=some o:=by rw [hd]; rfl
  simpa using h0
 have hsel:∀ (j:Nat) (o:Oper) cs b,ops[j]?=some o->o.op≠.select cs b:=Region.noSelect_spec hf.1;refine Every.first ho hsel rest.length (firstK ops.size k) a (Region.free_spec ho hf2.1) (by simpa using hf2.2) hs ?_;rw [firstK_succ];refine h (by simp at hk; omega) ?_;rw [<- List.drop_drop,hd];rfl
theorem wp_ord {id:Nat} {a:Act} {w:World} (hm:P.follows .mixedOrders=true) (hf:textFits .any ops=true) (hS:S (firstK ops.size 0) w.drew) (h:textFits .any ops=true->InText P .any ops Q S 0 ops.toList a):(Code.region id ops true).wp P Q a w :=
 wp_region_any hm (by
  have h0:=h hf (by simp) rfl;have e:firstK ops.size 0=Array.replicate ops.size false:=by
   apply Array.ext
   ·simp [firstK]
   ·intro i h1 h2; simp [firstK]
  rw [e] at h0 hS
  simpa using Every.sound _ _ _ h0 _ hS)
def hangs (md:Region.Mode) (ops:Array Oper) (k p:Nat):Bool :=
 match ops[k]? with
 | some o=>o.after.any fun e=>Region.binds md e && e.on==p
 | none=>false
theorem hangs_listed {l:Array Bool} {k p:Nat} (h:hangs md ops k p=true) (hr:k∈Region.ready md ops l):l.getD p false=true:=by
 obtain ⟨_,o,ho,hall⟩:=mem_ready.1 hr;unfold hangs at h;rw [ho] at h;obtain ⟨e,he,h2⟩:=Array.any_eq_true'.1 h;rw [Bool.and_eq_true] at h2;have:=hall e he h2.1
 rwa [show e.on=p by simpa using h2.2] at this
end
section
variable {P:Program} {ops:Array Oper} {Q:Exit->Act->World->Prop} {md:Region.Mode} {C:World->Prop} {A:Nat->World->Prop} {ps:List Nat}
def Chain (n:Nat) (ps:List Nat) (C:World->Prop) (A:Nat->World->Prop) (l:Array Bool) (w:World):Prop :=
 l.size=n/\C w/\∃ j,j<=ps.length/\(∀ i p,ps[i]?=some p->p < n/\l.getD p false=decide (i < j))/\A j w
theorem chain_start {n:Nat} {w:World} (hlt:∀ p∈ps,p < n) (hC:C w) (hA:A 0 w):Chain n ps C A (firstK n 0) w:=by
 refine ⟨by simp [firstK],hC,0,Nat.zero_le _,fun i p hp=>?_,hA⟩;have h:=hlt p (List.mem_of_getElem? hp);exact ⟨h,by rw [firstK_get _ _ _ h]; simp⟩
theorem chain_end {n:Nat} {w:World} (h:Chain n ps C A (firstK n n) w):C w/\A ps.length w:=by
 obtain ⟨_,hC,j,hj,hl,hA⟩:=h;refine ⟨hC,?_⟩
 rcases Nat.lt_or_ge j ps.length with hlt | hge
 ·exfalso
  have h1:=hl j ps[j] (by simp [hlt]);rw [firstK_get _ _ _ h1.1] at h1;simp at h1;omega
 ·rwa [show j=ps.length by omega] at hA
theorem chain_set {n:Nat} {l:Array Bool} {k:Nat} {w w':World} (hk:k ∉ ps) (h:Chain n ps C A l w) (hC:C w') (hA:∀ j,A j w->A j w'):Chain n ps C A (l.setIfInBounds k true) w':=by
 obtain ⟨hs,_,j,hj,hl,hA0⟩:=h;refine ⟨by simpa using hs,hC,j,hj,fun i p hp=>?_,hA j hA0⟩;have hne:k≠p:=fun e=>hk (e ▸ List.mem_of_getElem? hp);rw [Array.getD_eq_getD_getElem?,Array.getElem?_setIfInBounds,if_neg hne,<- Array.getD_eq_getD_getElem?];exact hl i p hp
theorem wp_chain (ps:List Nat) (C:World->Prop) (A:Nat->World->Prop) {id:Nat} {a:Act} {w:World} (hm:P.follows .mixedOrders=true) (hf:textFits .any ops=true) (hlt:(ps.all fun p=>decide (p < ops.size))=true) (hC:C w.drew) (hA:A 0 w.drew)
  (h:textFits .any ops=true->InText P .any ops Q (Chain ops.size ps C A) 0 ops.toList a):(Code.region id ops true).wp P Q a w :=
 wp_ord hm hf (chain_start (fun p hp=>by simpa using List.all_eq_true.1 hlt p hp) hC hA) h
theorem ch_value {k:Nat} {o:Oper} {rest:List Oper} {a:Act} {v:Value} (hf:textFits md ops=true) (hk:k ∉ ps) (hw:Region.wanted o (yielded ops a.tmps)=true) (hv:∀ w,C w->(execOp a.eval o).run P w=.ok (.value v) w)
  (h:InText P md ops Q (Chain ops.size ps C A) (k+1) rest (a.put o.dst v)):InText P md ops Q (Chain ops.size ps C A) k (o::rest) a :=
 InText.cons hf (Or.inl ⟨hw,fun l w _ hS=>by rw [hv w hS.2.1]; exact ⟨rfl,chain_set hk hS hS.2.1 fun _ h=>h⟩⟩) h
theorem ch_off {k:Nat} {o:Oper} {rest:List Oper} {a:Act} (hf:textFits md ops=true) (hk:k ∉ ps) (hw:Region.wanted o (yielded ops a.tmps)=false)
  (h:InText P md ops Q (Chain ops.size ps C A) (k+1) rest (a.put o.dst undef)):InText P md ops Q (Chain ops.size ps C A) k (o::rest) a :=
 InText.cons hf (Or.inr ⟨hw,rfl,fun l w _ hS=>chain_set hk hS hS.2.1 fun _ h=>h⟩) h
theorem ch_call {k:Nat} {o:Oper} {rest:List Oper} {a:Act} {v:Value} {f:FuncId} {args:Array Value} (hf:textFits md ops=true) (hk:k ∉ ps) (hw:Region.wanted o (yielded ops a.tmps)=true)
  (hr:∀ w,C w->(execOp a.eval o).run P w=.ok (.enter f args) w) (hc:∀ w,C w->Calls P f args w fun e w'=>e=.returned v/\C w'/\∀ j,A j w->A j w')
  (h:InText P md ops Q (Chain ops.size ps C A) (k+1) rest (a.put o.dst v)):InText P md ops Q (Chain ops.size ps C A) k (o::rest) a :=
 InText.cons hf (Or.inl ⟨hw,fun l w _ hS=>by rw [hr w hS.2.1]; exact (hc w hS.2.1).mono fun e w' he=>⟨he.1,chain_set hk hS he.2.1 he.2.2⟩⟩) h
theorem cv {k:Nat} {o:Oper} {rest:List Oper} {a:Act} (v:Value) (hf:textFits md ops=true) (hv:∀ w,C w->(execOp a.eval o).run P w=.ok (.value v) w) (h:InText P md ops Q (Chain ops.size ps C A) (k+1) rest (a.put o.dst v)) (hk:k ∉ ps:=by decide) (hw:Region.wanted o (yielded ops a.tmps)=true:=by rfl):InText P md ops Q (Chain ops.size ps C A) k (o::rest) a:=ch_value hf hk hw hv h
theorem co {k:Nat} {o:Oper} {rest:List Oper} {a:Act} (hf:textFits md ops=true) (h:InText P md ops Q (Chain ops.size ps C A) (k+1) rest (a.put o.dst undef)) (hk:k ∉ ps:=by decide) (hw:Region.wanted o (yielded ops a.tmps)=false:=by rfl):InText P md ops Q (Chain ops.size ps C A) k (o::rest) a:=ch_off hf hk hw h
theorem cc {k:Nat} {o:Oper} {rest:List Oper} {a:Act} (v:Value) (f:FuncId) (args:Array Value) (hf:textFits md ops=true) (hr:∀ w,C w->(execOp a.eval o).run P w=.ok (.enter f args) w) (hc:∀ w,C w->Calls P f args w fun e w'=>e=.returned v/\C w'/\∀ j,A j w->A j w') (h:InText P md ops Q (Chain ops.size ps C A) (k+1) rest (a.put o.dst v)) (hk:k ∉ ps:=by decide) (hw:Region.wanted o (yielded ops a.tmps)=true:=by rfl):InText P md ops Q (Chain ops.size ps C A) k (o::rest) a:=ch_call hf hk hw hr hc h
theorem wc (ps:List Nat) (C:World->Prop) (A:Nat->World->Prop) {id:Nat} {a:Act} {w:World} (hC:C w.drew) (hA:A 0 w.drew) (h:Go.RowKit.Hid (textFits .any ops=true)->InText P .any ops Q (Chain ops.size ps C A) 0 ops.toList a) (hm:P.follows .mixedOrders=true:=by kernel_rfl) (hf:textFits .any ops=true:=by kernel_rfl) (hlt:(ps.all fun p=>decide (p < ops.size))=true:=by kernel_rfl):(Code.region id ops true).wp P Q a w:=wp_chain ps C A hm hf hlt hC hA fun h9=>h h9
theorem _root_.Go.kp {P:Program} {f:FuncId} {args:Array Value} {w:World} {u v:Value} {B Q:World->Prop} (h:Calls P f args w fun e w'=>e=.returned u/\B w') (e:Ending.returned u=.returned v) (g:∀ w',B w'->Q w'):Calls P f args w fun e w'=>e=.returned v/\Q w':=h.mono fun _ _ h=>⟨h.1.trans e,g _ h.2⟩
theorem ch_turn (j:Nat) {k:Nat} {o:Oper} {rest:List Oper} {a:Act} {v:Value} (hf:textFits md ops=true) (hk:ps[j]?=some k) (hnd:ps.Nodup) (hh:j=0\/∃ p,ps[j - 1]?=some p/\hangs md ops k p=true) (hw:Region.wanted o (yielded ops a.tmps)=true)
  (hv:∀ w,C w->A j w->LandsIn P (fun w'=>C w'/\A (j+1) w') v ((execOp a.eval o).run P w))
  (h:InText P md ops Q (Chain ops.size ps C A) (k+1) rest (a.put o.dst v)):InText P md ops Q (Chain ops.size ps C A) k (o::rest) a :=
 InText.cons hf (Or.inl ⟨hw,fun l w hr hS=>by
  obtain ⟨hs,hC,j',hj',hl,hA⟩:=hS;have hjl:j < ps.length:=(List.getElem?_eq_some_iff.1 hk).1;have h1:=hl j k hk;have h2:l.getD k true=false:=(mem_ready.1 hr).1;have e2:l.getD k false=false:=by
   rw [Array.getD_eq_getD_getElem?] at h2 ⊢
   rcases Nat.lt_or_ge k l.size with hh' | hh'
   ·simp [hh'] at h2 ⊢; exact h2
   ·simp [Array.getElem?_eq_none hh'] at h2
  have h3:¬ j < j':=by rw [h1.2] at e2; simpa using e2
  have h4:j=j':=by
   rcases hh with rfl | ⟨p,hp,hg⟩
   ·omega
   ·rcases Nat.eq_zero_or_pos j with rfl | hj
    ·omega
    ·have h5:=hl (j - 1) p hp;have h6:=hangs_listed hg hr;rw [h5.2] at h6;have:j - 1 < j':=by simpa using h6
     omega
  subst h4;refine (hv w hC hA).mono fun w' hw'=>⟨by simpa using hs,hw'.1,j+1,by omega,fun i p hp=>?_,hw'.2⟩;refine ⟨(hl i p hp).1,?_⟩
  by_cases hik:p=k
  ·subst hik;have:i=j:=(List.getElem?_inj (List.getElem?_eq_some_iff.1 hp).1 hnd).1 (hp.trans hk.symm);subst this;have hp':p < l.size:=by rw [hs]; exact h1.1
   rw [Array.getD_eq_getD_getElem?,Array.getElem?_setIfInBounds,if_pos rfl];simp [hp']
  ·rw [Array.getD_eq_getD_getElem?,Array.getElem?_setIfInBounds,if_neg (fun e=>hik e.symm),<- Array.getD_eq_getD_getElem?,(hl i p hp).2];have hne:i≠j:=fun e=>hik (by subst e; exact Option.some.inj (hp.symm.trans hk))
   congr 1
   apply propext;omega⟩) h
end
section
variable {P:Program} {ops:Array Oper} {Q:Exit->Act->World->Prop} {md:Region.Mode} {C:World->Prop} {A:Nat->World->Prop} {ps:List Nat}
def Closed (md:Region.Mode) (ops:Array Oper) (l:Array Bool):Prop :=
 ∀ i o,ops[i]?=some o->l.getD i false=true->∀ e∈o.after,Region.binds md e=true->l.getD e.on false=true
theorem Closed.set {l:Array Bool} {k:Nat} (h:Closed md ops l) (hr:k∈Region.ready md ops l):Closed md ops (l.setIfInBounds k true):=by
 intro i o ho hl e he hb;have grow:∀ j,l.getD j false=true->(l.setIfInBounds k true).getD j false=true:=fun j hj=>by
  rw [Array.getD_eq_getD_getElem?] at hj ⊢;rw [Array.getElem?_setIfInBounds]
  split
  ·rename_i e; subst e
   split
   ·rfl
   ·rename_i hn; rw [Array.getElem?_eq_none (by omega)] at hj; simp at hj
  ·exact hj
 by_cases hik:i=k
 ·subst hik;obtain ⟨_,o',ho',hall⟩:=mem_ready.1 hr;obtain rfl:o=o':=Option.some.inj (ho.symm.trans ho');exact grow _ (hall e he hb)
 ·refine grow _ (h i o ho ?_ e he hb);rw [Array.getD_eq_getD_getElem?] at hl ⊢
  rwa [Array.getElem?_setIfInBounds,if_neg (fun e=>hik e.symm)] at hl
def hangsPath (md:Region.Mode) (ops:Array Oper):List Nat->Bool
 | a::b::rest=>hangs md ops a b && hangsPath md ops (b::rest)
 | _=>true
theorem Closed.step {l:Array Bool} (hc:Closed md ops l) {a b:Nat} (h:hangs md ops a b=true) (ha:l.getD a false=true):l.getD b false=true:=by
 unfold hangs at h
 rcases ho:ops[a]? with _ | o
 ·rw [ho] at h; cases h
 ·rw [ho] at h;obtain ⟨e,he,h3⟩:=Array.any_eq_true'.1 h;rw [Bool.and_eq_true] at h3;have h4:=hc a o ho ha e he h3.1
  rwa [show e.on=b by simpa using h3.2] at h4
theorem Closed.path {l:Array Bool} (hc:Closed md ops l):∀ (path:List Nat) (a:Nat),hangsPath md ops (a::path)=true->l.getD a false=true->∀ p,(a::path).getLast?=some p->l.getD p false=true
 | [],a,_,ha,p,hp=>by simp at hp; rwa [<- hp]
 | b::rest,a,h,ha,p,hp=>by
  simp only [hangsPath,Bool.and_eq_true] at h;refine Closed.path hc rest b h.2 (hc.step h.1 ha) p ?_
  rwa [List.getLast?_cons_cons] at hp
theorem late {n:Nat} {l:Array Bool} {k b p m:Nat} {path:List Nat} {j:Nat} (hc:Closed md ops l) (hr:k∈Region.ready md ops l) (hb:hangs md ops k b=true) (hpath:hangsPath md ops (b::path)=true) (hlast:(b::path).getLast?=some p) (hp:ps[m]?=some p)
  (hl:∀ i p,ps[i]?=some p->p < n/\l.getD p false=decide (i < j)):m < j:=by
 have h1:=hc.path path b hpath (hangs_listed hb hr) p hlast;rw [(hl m p hp).2] at h1
 simpa using h1
end
end
end Go.Proofs.YtffncfmciockmaaGreatDoor.Ord
namespace Go.Proofs.YtffncfmciockmaaGreatDoor.Ord3
section
open Go Go.Proofs.YtffncfmciockmaaGreatDoor.Ord
section
variable {P:Program} {ops:Array Oper} {Q:Exit->Act->World->Prop} {md:Region.Mode} {V:Nat->Value->Prop} {S:Array Bool->(Nat->Value)->World->Prop}
def Lands (P:Program) (T:Value->World->Prop):Result Next->Prop
 | .ok (.value u) w'=>T u w'
 | .ok .skip w'=>T undef w'
 | .ok (.enter f args) w'=>Calls P f args w' fun e w''=>∃ v,e=.returned v/\T v w''
 | _=>False
theorem Lands.mono {T T':Value->World->Prop} {r:Result Next} (h:Lands P T r) (hT:∀ v w,T v w->T' v w):Lands P T' r:=by
 cases r with
 | ok n w' =>
  cases n<;>simp only [Lands] at *
  case value u=>exact hT _ _ h
  case skip=>exact hT _ _ h
  case enter f args=>exact h.mono fun e w'' ⟨v,he,ht⟩=>⟨v,he,hT _ _ ht⟩
 | halt x w'=>simp only [Lands] at h
def up (f:Nat->Value) (i:Nat) (v:Value):Nat->Value:=fun j=>if j=i then v else f j
theorem up_comm (f:Nat->Value) {i j:Nat} (u v:Value) (h:i≠j):up (up f i u) j v=up (up f j v) i u:=by
 funext k; unfold up; by_cases h1:k=j<;>by_cases h2:k=i<;>simp [h1,h2]<;>omega
def Settles (P:Program) (md:Region.Mode) (ops:Array Oper) (V:Nat->Value->Prop) (S:Array Bool->(Nat->Value)->World->Prop) (i:Nat) (o:Oper) (listed:Array Bool) (κ:Nat->Value) (a:Act):Prop :=
 (Region.wanted o (yielded ops a.tmps)=true/\∀ l ρ w,i∈Region.ready md ops l->(∀ j,l.getD j false=true->V j (ρ j))->(∀ j,listed.getD j false=true->l.getD j false=true->ρ j=κ j)->S l ρ w ->
   Lands P (fun v w'=>V i v/\S (l.setIfInBounds i true) (up ρ i v) w') ((execOp a.eval o).run P w)) \/
 (Region.wanted o (yielded ops a.tmps)=false/\V i undef/\∀ l ρ w,i∈Region.ready md ops l->S l ρ w->S (l.setIfInBounds i true) (up ρ i undef) w)
theorem Settles.wpOp {i:Nat} {o:Oper} {a:Act} {l:Array Bool} {κ:Nat->Value} (hi:ops[i]?=some o) (h:Settles P md ops V S i o l κ a) (hr:i∈Region.ready md ops l) {K:Act->World->Prop} {w:World} (hV:∀ j,l.getD j false=true->V j (κ j)) (hS:S l κ w)
  (hK:∀ v w',V i v->S (l.setIfInBounds i true) (up κ i v) w'->K (a.put o.dst v) w'):wpOp P ops Q i K a w:=by
 unfold Go.wpOp;simp only [hi]
 rcases h with ⟨hw,hv⟩ | ⟨hw,hu,hv⟩
 ·simp only [hw,if_true];have:=hv l κ w hr hV (fun _ _ _=>rfl) hS;refine .inl ?_;unfold Oper.wp;generalize (execOp a.eval o).run P w=r at *;cases r with
  | ok n w' =>
   cases n<;>simp only [Lands] at this<;>simp only [Oper.upon]
   case value u=>exact hK _ _ this.1 this.2
   case skip=>exact hK _ _ this.1 this.2
   case enter f args =>
    refine Calls.mono this fun e w'' he=>?_;obtain ⟨v,rfl,h1,h2⟩:=he;exact hK _ _ h1 h2
  | halt x w'=>simp only [Lands] at this
 ·simp only [hw,Bool.false_eq_true,if_false];exact hK _ _ hu (hv l κ w hr hS)
def Every (P:Program) (md:Region.Mode) (ops:Array Oper) (Q:Exit->Act->World->Prop) (V:Nat->Value->Prop) (S:Array Bool->(Nat->Value)->World->Prop):Nat->Array Bool->(Nat->Value)->Act->Prop
 | 0,listed,κ,a=>Region.ready md ops listed=[]/\∀ w,S listed κ w->Q .normal a w
 | fuel+1,listed,κ,a=>(Region.ready md ops listed=[]->∀ w,S listed κ w->Q .normal a w) /\
  ∀ i∈Region.ready md ops listed,∃ o,ops[i]?=some o/\Settles P md ops V S i o listed κ a/\∀ v,V i v->Every P md ops Q V S fuel (listed.setIfInBounds i true) (up κ i v) (a.put o.dst v)
theorem listed_set {l:Array Bool} {i j:Nat} (h:(l.setIfInBounds i true).getD j false=true):j=i\/l.getD j false=true:=by
 by_cases e:i=j
 ·exact .inl e.symm
 ·right
  rw [Array.getD_eq_getD_getElem?,Array.getElem?_setIfInBounds,if_neg e,<- Array.getD_eq_getD_getElem?] at h;exact h
theorem ready_not {l:Array Bool} {i:Nat} (h:i∈Region.ready md ops l):l.getD i false=false:=by
 have h2:l.getD i true=false:=(mem_ready.1 h).1;rw [Array.getD_eq_getD_getElem?] at h2 ⊢
 rcases Nat.lt_or_ge i l.size with hh' | hh'
 ·simp [hh'] at h2 ⊢; exact h2
 ·simp [Array.getElem?_eq_none hh'] at h2
theorem Every.sound:∀ (fuel:Nat) (listed:Array Bool) (κ:Nat->Value) (a:Act),Every P md ops Q V S fuel listed κ a->(∀ j,listed.getD j false=true->V j (κ j))->∀ w,S listed κ w->wpAny P md ops Q fuel listed a w
 | 0,_,_,_,h,_,w,hS=>⟨h.1,h.2 w hS⟩
 | fuel+1,listed,κ,a,h,hV,w,hS=>⟨fun h0=>h.1 h0 w hS,fun i hi=>by
   obtain ⟨o,ho,hs,hE⟩:=h.2 i hi;refine hs.wpOp ho hi hV hS fun v w' hv hS'=>Every.sound fuel _ _ _ (hE v hv) (fun j hj=>?_) w' hS';unfold up
   split
   ·rename_i e; subst e; exact hv
   ·rename_i e; exact hV j ((listed_set hj).resolve_left e)⟩
theorem Settles.of_same {i:Nat} {o:Oper} {a a':Act} {l:Array Bool} {κ:Nat->Value} (h:Settles P md ops V S i o l κ a) (he:execOp a'.eval o=execOp a.eval o)
  (hw:Region.wanted o (yielded ops a'.tmps)=Region.wanted o (yielded ops a.tmps)):Settles P md ops V S i o l κ a':=by
 unfold Settles at *;rw [he,hw];exact h
theorem Every.first {i:Nat} {oi:Oper} (hi:ops[i]?=some oi) (hsel:∀ (j:Nat) (o:Oper) cs b,ops[j]?=some o->o.op≠.select cs b) (v0:Value) (hv0:V i v0) :
  ∀ (fuel:Nat) (listed:Array Bool) (κ:Nat->Value) (a:Act),
   (∀ j oj,ops[j]?=some oj->j≠i->listed.getD j true=false->(∀ e∈oj.after,Region.binds md e=true->e.on≠i)->oi.apart ops oj=true) ->
   i∈Region.ready md ops listed->Settles P md ops V S i oi listed κ a ->
   (∀ v,V i v->Every P md ops Q V S fuel (listed.setIfInBounds i true) (up κ i v) (a.put oi.dst v))->Every P md ops Q V S (fuel+1) listed κ a:=by
 intro fuel
 induction fuel with
 | zero =>
  intro listed κ a _ hr hy H;refine ⟨fun h=>(by rw [h] at hr; cases hr),fun j hj=>?_⟩
  by_cases hji:j=i
  ·subst hji; exact ⟨oi,hi,hy,H⟩
  ·have:=ready_mono hj hji;rw [(H v0 hv0).1] at this;cases this
 | succ fuel ih =>
  intro listed κ a hfree hr hy H;refine ⟨fun h=>(by rw [h] at hr; cases hr),fun j hj=>?_⟩
  by_cases hji:j=i
  ·subst hji; exact ⟨oi,hi,hy,H⟩
  ·obtain ⟨oj,hoj,hsj0,hE0⟩:=(H v0 hv0).2 j (ready_mono hj hji);have HJ:∀ v,V i v->Settles P md ops V S j oj (listed.setIfInBounds i true) (up κ i v) (a.put oi.dst v)/\∀ u,V j u->Every P md ops Q V S fuel ((listed.setIfInBounds i true).setIfInBounds j true) (up (up κ i v) j u) ((a.put oi.dst v).put oj.dst u):=fun v hv=>by
    obtain ⟨oj',hoj',hsj,hE⟩:=(H v hv).2 j (ready_mono hj hji);obtain rfl:oj=oj':=Option.some.inj (hoj.symm.trans hoj');exact ⟨hsj,hE⟩
   obtain ⟨hjun,oj',hoj',hall⟩:=mem_ready.1 hj;obtain rfl:oj=oj':=Option.some.inj (hoj.symm.trans hoj');have hnot:∀ e∈oj.after,Region.binds md e=true->e.on≠i:=fun e he hb heq=>by
    have h1:=hall e he hb;rw [heq,Array.getD_eq_getD_getElem?] at h1;have h0:=ready_not hr;rw [Array.getD_eq_getD_getElem?] at h0;rw [h0] at h1;cases h1
   have hap:=hfree j oj hoj hji hjun hnot;obtain ⟨p1,p2,p3⟩:=Oper.apart_spec hap;have hfree':∀ k ok,ops[k]?=some ok->k≠i->(listed.setIfInBounds j true).getD k true=false ->
     (∀ e∈ok.after,Region.binds md e=true->e.on≠i)->oi.apart ops ok=true:=fun k ok hk hki hun hno=>by
    refine hfree k ok hk hki ?_ hno
    by_cases hjk:j=k
    ·subst hjk; exact hjun
    ·rw [getD_set_ne true hjk] at hun; exact hun
   have hex:∀ v,execOp a.eval oj=execOp (a.put oi.dst v).eval oj:=fun v=>(execOp_put oj (fun cs b=>hsel j oj cs b hoj) a oi.dst v p1).symm;have hwt:∀ v,Region.wanted oj (yielded ops a.tmps)=Region.wanted oj (yielded ops (a.put oi.dst v).tmps):=fun v=>(wanted_put oj a oi.dst v p1).symm;refine ⟨oj,hoj,?_,fun u hu=>?_⟩
   ·rcases hsj0 with ⟨hw,_⟩ | ⟨hw,hu,hv⟩
    ·refine .inl ⟨(hwt v0).trans hw,fun l ρ w hrl hVl hagree hSl=>?_⟩;have pick:∃ v,V i v/\(l.getD i false=true->ρ i=v):=by
      cases hli:l.getD i false
      ·exact ⟨v0,hv0,fun h=>by cases h⟩
      ·exact ⟨ρ i,hVl i hli,fun _=>rfl⟩
     obtain ⟨v,hv,hρ⟩:=pick
     rcases (HJ v hv).1 with ⟨_,hrun⟩ | ⟨hw',_⟩
     ·rw [hex v];refine hrun l ρ w hrl hVl (fun j' h1 h2=>?_) hSl;unfold up
      split
      ·rename_i e; subst e; exact hρ h2
      ·rename_i e; exact hagree j' ((listed_set h1).resolve_left e) h2
     ·rw [<- hwt v,hwt v0,hw] at hw';cases hw'
    ·exact .inr ⟨(hwt v0).trans hw,hu,hv⟩
   ·refine ih (listed.setIfInBounds j true) (up κ j u) (a.put oj.dst u) hfree' (ready_mono hr (Ne.symm hji)) ?_ fun v hv=>?_
    ·refine (show Settles P md ops V S i oi (listed.setIfInBounds j true) (up κ j u) a from ?_).of_same (execOp_put oi (fun cs b=>hsel i oi cs b hi) a oj.dst u p3) (wanted_put oi a oj.dst u p3)
     rcases hy with ⟨hw,hrun⟩ | hy
     ·refine .inl ⟨hw,fun l ρ w hrl hVl hagree hSl=>hrun l ρ w hrl hVl (fun j' h1 h2=>?_) hSl⟩;have hne:j'≠j:=fun e=>by
       rw [e,ready_not hj] at h1; cases h1
      have h3:(listed.setIfInBounds j true).getD j' false=true:=by
       rw [Array.getD_eq_getD_getElem?,Array.getElem?_setIfInBounds,if_neg (fun e=>hne e.symm),<- Array.getD_eq_getD_getElem?]; exact h1
      have:=hagree j' h3 h2;rw [this]; unfold up; rw [if_neg hne]
     ·exact .inr hy
    ·have:=(HJ v hv).2 u hu;rw [Array.setIfInBounds_comm _ _ hji,<- Act.put_comm a v u p2,up_comm κ u v hji];exact this
def InText (P:Program) (md:Region.Mode) (ops:Array Oper) (Q:Exit->Act->World->Prop) (V:Nat->Value->Prop) (S:Array Bool->(Nat->Value)->World->Prop) (k:Nat) (rest:List Oper) (κ:Nat->Value) (a:Act):Prop :=
 k+rest.length=ops.size->ops.toList.drop k=rest->Every P md ops Q V S rest.length (firstK ops.size k) κ a
theorem InText.nil {a:Act} {k:Nat} {κ:Nat->Value} (h:∀ w,S (firstK ops.size ops.size) κ w->Q .normal a w):InText P md ops Q V S k [] κ a:=fun hk _=>by
 have hk':k=ops.size:=by simpa using hk
 subst hk';refine ⟨?_,h⟩;unfold Region.ready;rw [List.filter_eq_nil_iff];intro i hi;have:i < ops.size:=by simpa using hi
 simp [firstK,this]
theorem InText.cons {o:Oper} {rest:List Oper} {a:Act} {k:Nat} {κ:Nat->Value} (hf:textFits md ops=true) (v0:Value) (hv0:V k v0) (hs:Settles P md ops V S k o (firstK ops.size k) κ a) (h:∀ v,V k v->InText P md ops Q V S (k+1) rest (up κ k v) (a.put o.dst v)):InText P md ops Q V S k (o::rest) κ a:=fun hk hd=>by
 unfold textFits at hf;rw [Bool.and_eq_true,List.all_eq_true] at hf;have hlt:k < ops.size:=by simp at hk; omega
 have hf2:=hf.2 k (by simpa using hlt);rw [Bool.and_eq_true] at hf2;have ho:ops[k]?=some o:=by
  have h0:(ops.toList.drop k)[0]?=some o:=by rw [hd]; rfl
  simpa using h0
 have hsel:∀ (j:Nat) (o:Oper) cs b,ops[j]?=some o->o.op≠.select cs b:=Region.noSelect_spec hf.1;refine Every.first ho hsel v0 hv0 rest.length (firstK ops.size k) κ a (Region.free_spec ho hf2.1) (by simpa using hf2.2) hs fun v hv=>?_;rw [firstK_succ];refine h v hv (by simp at hk; omega) ?_;rw [<- List.drop_drop,hd];rfl
theorem wp_ord {id:Nat} {a:Act} {w:World} (κ:Nat->Value) (hm:P.follows .mixedOrders=true) (hf:textFits .any ops=true) (hS:S (firstK ops.size 0) κ w.drew) (h:textFits .any ops=true->InText P .any ops Q V S 0 ops.toList κ a):(Code.region id ops true).wp P Q a w :=
 wp_region_any hm (by
  have h0:=h hf (by simp) rfl;have e:firstK ops.size 0=Array.replicate ops.size false:=by
   apply Array.ext
   ·simp [firstK]
   ·intro i h1 h2; simp [firstK]
  rw [e] at h0 hS
  simpa using Every.sound _ _ _ _ h0 (fun j hj=>by
   rw [Array.getD_eq_getD_getElem?,Array.getElem?_replicate] at hj
   split at hj<;>simp at hj) _ hS)
end
section
variable {P:Program} {ops:Array Oper} {Q:Exit->Act->World->Prop} {md:Region.Mode} {C:World->Prop} {A:List Value->World->Prop} {ps:List Nat} {vs:List (Value->Prop)}
def VS (vs:List (Value->Prop)) (k:Nat) (v:Value):Prop:=∃ p,vs[k]?=some p/\p v
def Chain (md:Region.Mode) (ops:Array Oper) (ps:List Nat) (C:World->Prop) (A:List Value->World->Prop) (l:Array Bool) (ρ:Nat->Value) (w:World):Prop :=
 Closed md ops l/\l.size=ops.size/\C w/\∃ j,j<=ps.length/\(∀ i p,ps[i]?=some p->p < ops.size/\l.getD p false=decide (i < j))/\A ((ps.take j).map ρ) w
theorem map_up {ps:List Nat} {ρ:Nat->Value} {k:Nat} {v:Value} (h:k ∉ ps):ps.map (up ρ k v)=ps.map ρ :=
 List.map_congr_left fun x hx=>by
  have hne:x≠k:=fun e=>h (by rw [<- e]; exact hx);unfold up; rw [if_neg hne]
theorem chain_start {w:World} {ρ:Nat->Value} (hlt:∀ p∈ps,p < ops.size) (hC:C w) (hA:A [] w):Chain md ops ps C A (firstK ops.size 0) ρ w:=by
 refine ⟨fun i o ho hl=>?_,by simp [firstK],hC,0,Nat.zero_le _,fun i p hp=>?_,by simpa using hA⟩
 ·have hi:i < ops.size:=(Array.getElem?_eq_some_iff.1 ho).1;rw [firstK_get _ _ _ hi] at hl;simp at hl
 ·have h:=hlt p (List.mem_of_getElem? hp);exact ⟨h,by rw [firstK_get _ _ _ h]; simp⟩
theorem chain_end {w:World} {ρ:Nat->Value} (h:Chain md ops ps C A (firstK ops.size ops.size) ρ w):C w/\A (ps.map ρ) w:=by
 obtain ⟨_,_,hC,j,hj,hl,hA⟩:=h;refine ⟨hC,?_⟩
 rcases Nat.lt_or_ge j ps.length with hlt | hge
 ·exfalso
  have h1:=hl j ps[j] (by simp [hlt]);rw [firstK_get _ _ _ h1.1] at h1;simp at h1;omega
 ·rwa [List.take_of_length_le hge] at hA
theorem chain_set {l:Array Bool} {ρ:Nat->Value} {k:Nat} {v:Value} {w w':World} (hk:k ∉ ps) (hr:k∈Region.ready md ops l) (h:Chain md ops ps C A l ρ w) (hC:C w') (hA:∀ vs,A vs w->A vs w'):Chain md ops ps C A (l.setIfInBounds k true) (up ρ k v) w':=by
 obtain ⟨hc,hs,_,j,hj,hl,hA0⟩:=h;refine ⟨hc.set hr,by simpa using hs,hC,j,hj,fun i p hp=>?_,by rw [map_up (fun e=>hk (List.mem_of_mem_take e))]; exact hA _ hA0⟩;have hne:k≠p:=fun e=>hk (e ▸ List.mem_of_getElem? hp);rw [Array.getD_eq_getD_getElem?,Array.getElem?_setIfInBounds,if_neg hne,<- Array.getD_eq_getD_getElem?];exact hl i p hp
def In (P:Program) (md:Region.Mode) (ops:Array Oper) (Q:Exit->Act->World->Prop) (vs:List (Value->Prop)) (ps:List Nat) (C:World->Prop) (A:List Value->World->Prop) (k:Nat) (rest:List Oper) (κs:List Value) (a:Act):Prop :=
 ∀ κ:Nat->Value,(ps.take κs.length).map κ=κs->InText P md ops Q (VS vs) (Chain md ops ps C A) k rest κ a
theorem wp_chain (vs:List (Value->Prop)) (ps:List Nat) (C:World->Prop) (A:List Value->World->Prop) {id:Nat} {a:Act} {w:World} (hm:P.follows .mixedOrders=true) (hf:textFits .any ops=true) (hlt:(ps.all fun p=>decide (p < ops.size))=true) (hC:C w.drew) (hA:A [] w.drew)
  (h:textFits .any ops=true->In P .any ops Q vs ps C A 0 ops.toList [] a):(Code.region id ops true).wp P Q a w :=
 wp_ord (fun _=>undef) hm hf (chain_start (fun p hp=>by simpa using List.all_eq_true.1 hlt p hp) hC hA) fun hT=>h hT _ rfl
theorem in_value {k:Nat} {o:Oper} {rest:List Oper} {a:Act} {v:Value} {κs:List Value} (hf:textFits md ops=true) (hk:k ∉ ps) (hvs:vs[k]?=some fun u=>u=v) (hw:Region.wanted o (yielded ops a.tmps)=true) (hv:∀ w,C w->(execOp a.eval o).run P w=.ok (.value v) w)
  (h:In P md ops Q vs ps C A (k+1) rest κs (a.put o.dst v)):In P md ops Q vs ps C A k (o::rest) κs a:=fun κ hκ =>
 InText.cons hf v ⟨_,hvs,rfl⟩ (Or.inl ⟨hw,fun l ρ w hr _ _ hS=>by rw [hv w hS.2.2.1]; exact ⟨⟨_,hvs,rfl⟩,chain_set hk hr hS hS.2.2.1 fun _ h=>h⟩⟩)
  fun u ⟨p,hp,hu⟩=>by
   rw [hvs] at hp;cases hp;rw [hu];exact h _ (by rw [map_up (fun e=>hk (List.mem_of_mem_take e))]; exact hκ)
theorem in_off {k:Nat} {o:Oper} {rest:List Oper} {a:Act} {κs:List Value} (hf:textFits md ops=true) (hk:k ∉ ps) (hvs:vs[k]?=some fun u=>u=undef) (hw:Region.wanted o (yielded ops a.tmps)=false)
  (h:In P md ops Q vs ps C A (k+1) rest κs (a.put o.dst undef)):In P md ops Q vs ps C A k (o::rest) κs a:=fun κ hκ =>
 InText.cons hf undef ⟨_,hvs,rfl⟩ (Or.inr ⟨hw,⟨_,hvs,rfl⟩,fun l ρ w hr hS=>chain_set hk hr hS hS.2.2.1 fun _ h=>h⟩)
  fun u ⟨p,hp,hu⟩=>by
   rw [hvs] at hp;cases hp;rw [hu];exact h _ (by rw [map_up (fun e=>hk (List.mem_of_mem_take e))]; exact hκ)
theorem in_turn {k:Nat} {o:Oper} {rest:List Oper} {a:Act} {κs:List Value} (p:Value->Prop) (v0:Value) (hv0:p v0) (hf:textFits md ops=true) (hk:ps[κs.length]?=some k) (hnd:ps.Nodup) (hris:(ps.take κs.length).all (fun q=>decide (q < k))=true) (hvs:vs[k]?=some p)
  (hh:κs.length=0\/∃ q b path,ps[κs.length - 1]?=some q/\hangs md ops k b=true/\hangsPath md ops (b::path)=true/\(b::path).getLast?=some q) (hw:Region.wanted o (yielded ops a.tmps)=true)
  (hv:∀ w,C w->A κs w->Lands P (fun v w'=>p v/\C w'/\A (κs++[v]) w') ((execOp a.eval o).run P w))
  (h:∀ v,p v->In P md ops Q vs ps C A (k+1) rest (κs++[v]) (a.put o.dst v)):In P md ops Q vs ps C A k (o::rest) κs a:=fun κ hκ=>by
 have hjl:κs.length < ps.length:=(List.getElem?_eq_some_iff.1 hk).1;have hjk:ps[κs.length]=k:=(List.getElem?_eq_some_iff.1 hk).2;have hkn:k ∉ ps.take κs.length:=fun e=>by
  have:=List.all_eq_true.1 hris k e;simp at this
 refine InText.cons hf v0 ⟨p,hvs,hv0⟩ (Or.inl ⟨hw,fun l ρ w hr hVl hagree hS=>?_⟩) fun v ⟨p',hp',hpv⟩=>?_
 ·obtain ⟨hc,hs,hC,j',hj',hl,hA⟩:=hS;have h1:=hl κs.length k hk;have e2:l.getD k false=false:=ready_not hr;have h3:¬ κs.length < j':=by rw [h1.2] at e2; simpa using e2
  have h4:κs.length=j':=by
   rcases hh with h0 | ⟨q,b,path,hq,hg,hpath,hlast⟩
   ·omega
   ·have:=late hc hr hg hpath hlast hq hl;omega
  subst h4;have hm:(ps.take κs.length).map ρ=κs:=by
   rw [<- hκ];have hlen:((ps.take κs.length).map κ).length=κs.length:=by rw [hκ]
   rw [hlen];refine List.map_congr_left fun q hq=>?_;obtain ⟨i,hi,he⟩:=List.getElem_of_mem hq;have hi':i < κs.length:=by simp at hi; omega
   have hiq:ps[i]?=some q:=by rw [<- he,List.getElem_take]; simp
   have hqk:q < k:=by simpa using List.all_eq_true.1 hris q hq
   refine hagree q ?_ ?_
   ·rw [firstK_get _ _ _ (by have:=h1.1; omega)]; simpa using hqk
   ·rw [(hl i q hiq).2]; simpa using hi'
  rw [hm] at hA;refine (hv w hC hA).mono fun v w' ⟨hp,hC',hA'⟩=>⟨⟨p,hvs,hp⟩,hc.set hr,by simpa using hs,hC',κs.length+1,by omega,fun i q hq=>?_,?_⟩
  ·refine ⟨(hl i q hq).1,?_⟩
   by_cases hik:q=k
   ·subst hik;have:i=κs.length:=(List.getElem?_inj (List.getElem?_eq_some_iff.1 hq).1 hnd).1 (hq.trans hk.symm);subst this;have hp':q < l.size:=by rw [hs]; exact h1.1
    rw [Array.getD_eq_getD_getElem?,Array.getElem?_setIfInBounds,if_pos rfl];simp [hp']
   ·rw [Array.getD_eq_getD_getElem?,Array.getElem?_setIfInBounds,if_neg (fun e=>hik e.symm),<- Array.getD_eq_getD_getElem?,(hl i q hq).2];have hne:i≠κs.length:=fun e=>hik (by subst e; exact Option.some.inj (hq.symm.trans hk))
    congr 1
    apply propext;omega
  ·rw [List.take_succ_eq_append_getElem hjl,hjk,List.map_append,map_up hkn,hm]
   simpa [up] using hA'
 ·rw [hvs] at hp';cases hp';refine h v hpv _ ?_;rw [List.length_append,List.length_singleton,List.take_succ_eq_append_getElem hjl,hjk,List.map_append,map_up hkn,hκ];simp [up]
def Stage (L:List Value->List (World->Prop)) (κs:List Value) (w:World):Prop:=∃ T,(L κs)[κs.length]?=some T/\T w
theorem in_nil {a:Act} {k:Nat} {κs:List Value} (hlen:κs.length=ps.length) (h:∀ w,C w->A κs w->Q .normal a w):In P md ops Q vs ps C A k [] κs a:=fun κ hκ =>
 InText.nil fun w hS=>by
  obtain ⟨hC,hA⟩:=chain_end hS;rw [hlen,List.take_length] at hκ;rw [hκ] at hA;exact h w hC hA
end
end
end Go.Proofs.YtffncfmciockmaaGreatDoor.Ord3
namespace Go.Proofs.YtffncfmciockmaaGreatDoor
section
open Go.RowKit
def Blk (m:Nat) (w:World) (n:Nat) (vs:List Value):Prop :=
 n < w.heap.size/\(∀ i,w.cell? ⟨n,i,none⟩=vs[i]?)/\(m<=n->∀ i,i < vs.length->w.frozen? ⟨n,i,none⟩=false)
def Fr (w0:World) (bl:List (Nat × List Value)) (w:World):Prop:=Below w0.heap.size w0 w/\∀ x∈bl,Blk w0.heap.size w x.1 x.2
theorem Fr.below {w0 w:World} {bl:List (Nat × List Value)} (h:Fr w0 bl w):Below w0.heap.size w0 w:=h.1
theorem Fr.start (w:World):Fr w [] w:=⟨Below.refl _ _,fun x hx=>by cases hx⟩
theorem Fr.over {w0 w w':World} {bl:List (Nat × List Value)} (h:Fr w0 bl w) (hb:Below w.heap.size w w'):Fr w0 bl w':=by
 refine ⟨h.1.trans (hb.mono h.1.size),fun x hx=>?_⟩;obtain ⟨h1,h2,h3⟩:=h.2 x hx;have hs:=hb.size;refine ⟨by omega,fun i=>?_,fun hm i hi=>?_⟩
 ·rw [hb.cell (p:=⟨x.1,i,none⟩) h1]; exact h2 i
 ·rw [hb.frozen (p:=⟨x.1,i,none⟩) h1]; exact h3 hm i hi
theorem Fr.more {w0 w:World} {bl:List (Nat × List Value)} (h:Fr w0 bl w) (o:Obj):Fr w0 bl (w.alloc o):=h.over ((Below.refl _ _).alloc (Nat.le_refl _) o)
theorem Fr.push {w0 w:World} {bl:List (Nat × List Value)} (h:Fr w0 bl w) (n:Nat) (hn:w.heap.size=n) (vs:List Value) (t:TypeId):Fr w0 ((n,vs)::bl) (w.alloc (.cells vs.toArray t)):=by
 subst hn;refine ⟨(h.more _).1,fun x hx=>?_⟩
 rcases List.mem_cons.1 hx with rfl | hx
 ·exact ⟨by simp,fun i=>by simp,fun _ i _=>by simp⟩
 ·exact (h.more _).2 x hx
theorem Fr.rule {w0 w:World} {bl:List (Nat × List Value)} (h:Fr w0 bl w) (k:Nat) {n:Nat} {vs:List Value} (e:bl[k]?=some (n,vs)):∀ i,w.cell? ⟨n,i,none⟩=vs[i]? :=
 (h.2 (n,vs) (List.mem_of_getElem? e)).2.1
theorem Fr.lt {w0 w:World} {bl:List (Nat × List Value)} (h:Fr w0 bl w) (k:Nat) {n:Nat} {vs:List Value} (e:bl[k]?=some (n,vs)):n < w.heap.size :=
 (h.2 (n,vs) (List.mem_of_getElem? e)).1
theorem Fr.thaw {w0 w:World} {bl:List (Nat × List Value)} (h:Fr w0 bl w) (k:Nat) {n:Nat} {vs:List Value} (e:bl[k]?=some (n,vs)) (hn:w0.heap.size<=n):∀ i,i < vs.length->w.frozen? ⟨n,i,none⟩=false :=
 (h.2 (n,vs) (List.mem_of_getElem? e)).2.2 hn
theorem Fr.put {w0 w:World} {n:Nat} {vs:List Value} {bl:List (Nat × List Value)} (h:Fr w0 ((n,vs)::bl) w) (hn:w0.heap.size<=n) (hd:∀ x∈bl,x.1≠n) (i:Nat) (hi:i < vs.length) (u:Value):Fr w0 ((n,vs.set i u)::bl) (w.setCell ⟨n,i,none⟩ u):=by
 obtain ⟨hb,hbl⟩:=h;have h0:=hbl (n,vs) (List.mem_cons_self ..);refine ⟨hb.setCell hn u,fun x hx=>?_⟩
 rcases List.mem_cons.1 hx with rfl | hx
 ·obtain ⟨k1,k2,k3⟩:=h0;refine ⟨by simpa [World.setCell] using k1,fun j=>?_,fun hm j hj=>?_⟩
  ·by_cases hij:j=i
   ·subst hij;rw [World.cell?_setCell_same' _ _ _ (by rw [k2]; simp [hi])];simp [hi]
   ·have e:(⟨n,i,none⟩:Addr)≠⟨n,j,none⟩:=fun e=>hij (by cases e; rfl);have e2:(w.setCell ⟨n,i,none⟩ u).cell? ⟨n,j,none⟩=w.cell? ⟨n,j,none⟩:=World.cell?_setCell_other w _ _ u e;rw [e2,k2,List.getElem?_set,if_neg (fun e=>hij e.symm)]
  ·rw [World.frozen?_setCell];exact k3 hm j (by simpa using hj)
 ·obtain ⟨k1,k2,k3⟩:=hbl x (List.mem_cons_of_mem _ hx);have hne:x.1≠n:=hd x hx;have hk:(w.setCell ⟨n,i,none⟩ u).heap[x.1]?=w.heap[x.1]?:=Below.heap_setCell _ _ _ _ hne;exact ⟨by simpa [World.setCell] using k1,fun j=>by rw [World.cell?_of_block (w:=w) hk]; exact k2 j,fun hm j hj=>by rw [World.frozen?_of_block (w:=w) hk]; exact k3 hm j hj⟩
theorem Fr.blk {w0 w:World} {bl:List (Nat × List Value)} (h:Fr w0 bl w) (k:Nat) {n:Nat} {vs:List Value} (e:bl[k]?=some (n,vs)) (hn:w0.heap.size<=n):Blk 0 w n vs:=⟨h.lt k e,h.rule k e,fun _=>h.thaw k e hn⟩
theorem Fr.put3 {w0 w:World} {n:Nat} {a b c:Value} {bl:List (Nat × List Value)} (h:Fr w0 ((n,[a,b,c])::bl) w) (hn:w0.heap.size<=n) (hd:∀ x∈bl,x.1≠n) (u v t:Value):Fr w0 ((n,[u,v,t])::bl) (((w.setCell ⟨n,0,none⟩ u).setCell ⟨n,1,none⟩ v).setCell ⟨n,2,none⟩ t) :=
 ((h.put hn hd 0 (by simp) u).put hn hd 1 (by simp) v).put hn hd 2 (by simp) t
structure Turn (T:Nat->Prop) (w w':World):Prop where
 os:w'.os=w.os
 tape:w'.tape=w.tape
 output:w'.output=w.output
 size:w.heap.size<=w'.heap.size
 block:∀ k,k < w.heap.size->¬ T k->w'.heap[k]?=w.heap[k]?
section
variable {T T':Nat->Prop} {a b c w w':World}
theorem Turn.refl (T:Nat->Prop) (w:World):Turn T w w:=⟨rfl,rfl,rfl,Nat.le_refl _,fun _ _ _=>rfl⟩
theorem Turn.then (h:Turn T a b) (k:Turn T' b c) (hT:∀ k,k < a.heap.size->T' k->T k):Turn T a c :=
 ⟨k.os.trans h.os,k.tape.trans h.tape,k.output.trans h.output,Nat.le_trans h.size k.size,fun i hi hn=>(k.block i (Nat.lt_of_lt_of_le hi h.size) (fun e=>hn (hT i hi e))).trans (h.block i hi hn)⟩
theorem Turn.of_below (h:Below a.heap.size a b):Turn T a b:=⟨h.os,h.tape,h.output,h.size,fun k hk _=>h.block k hk⟩
theorem Turn.drew (h:Turn T a b):Turn T a b.drew:=⟨h.os,h.tape,h.output,h.size,h.block⟩
theorem Turn.alloc (h:Turn T a b) (o:Obj):Turn T a (b.alloc o):=h.then (T':=fun _=>False) (Turn.of_below ((Below.refl _ b).alloc (Nat.le_refl _) o)) fun _ _ e=>e.elim
theorem Turn.setCell (h:Turn T a b) {p:Addr} (hp:p.block < a.heap.size->T p.block) (u:Value):Turn T a (b.setCell p u) :=
 h.then (T':=fun k=>k=p.block) ⟨rfl,rfl,rfl,by simp [World.setCell],fun k _ hn=>Below.heap_setCell _ _ _ _ hn⟩ fun k hk e=>by subst e; exact hp hk
theorem Turn.grown (h:Turn T a b) {row:Option Nat} (hg:b.grownBy c row) (hr:∀ k,k < a.heap.size->row=some k->T k):Turn T a c :=
 h.then (T':=fun k=>row=some k) ⟨hg.os,hg.tape,hg.output,hg.size,fun k hk hn=>hg.block k hk (fun e=>hn e.symm)⟩ hr
theorem Turn.turned (h:Turn T a b) {m:Nat} (hg:b.mapTurned c m) (hm:m < a.heap.size->T m):Turn T a c:=h.grown hg.grown fun k hk e=>by cases e; exact hm hk
theorem Turn.below {n:Nat} (h:Below n a b) (k:Turn T b c) (hn:n<=b.heap.size) (hT:∀ k,T k->n<=k):Below n a c :=
 h.trans ⟨k.os,k.tape,k.output,k.size,fun i hi=>k.block i (by omega) fun e=>by have:=hT i e; omega⟩
end
def Off (F G:Nat->Prop):Prop:=∀ k,F k->¬ G k
theorem Off.symm {F G:Nat->Prop} (h:Off F G):Off G F:=fun k hg hf=>h k hf hg
structure Step (F F':Nat->Prop) (w w':World):Prop where
 turn:Turn F w w'
 from':∀ k,F' k->F k\/w.heap.size<=k
theorem Step.off {F F' G:Nat->Prop} {w w':World} (h:Step F F' w w') (hG:∀ k,G k->k < w.heap.size) (hd:Off F G):Off F' G:=fun k hf hg=>by
 rcases h.from' k hf with h1 | h1
 ·exact hd k h1 hg
 ·have:=hG k hg; omega
theorem Step.refl (F:Nat->Prop) (w:World):Step F F w w:=⟨Turn.refl _ _,fun _ h=>Or.inl h⟩
theorem Step.trans {F F' F'':Nat->Prop} {a b c:World} (h:Step F F' a b) (k:Step F' F'' b c):Step F F'' a c :=
 ⟨h.turn.then k.turn fun i hi e=>(h.from' i e).resolve_right (by omega),fun i e=>by
   rcases k.from' i e with h1 | h1
   ·exact h.from' i h1
   ·exact Or.inr (Nat.le_trans h.turn.size h1)⟩
theorem Step.base {F F':Nat->Prop} {w w':World} {n:Nat} (h:Step F F' w w') (hn:n<=w.heap.size) (hF:∀ k,F k->n<=k):∀ k,F' k->n<=k:=fun k hk=>by
 rcases h.from' k hk with h1 | h1
 ·exact hF k h1
 ·omega
theorem Blk.kept {m n:Nat} {vs:List Value} {w w':World} (h:Blk m w n vs) (hs:w.heap.size<=w'.heap.size) (hb:w'.heap[n]?=w.heap[n]?):Blk m w' n vs :=
 ⟨Nat.lt_of_lt_of_le h.1 hs,fun i=>by rw [World.cell?_of_block (w:=w) hb]; exact h.2.1 i,fun hm i hi=>by rw [World.frozen?_of_block (w:=w) hb]; exact h.2.2 hm i hi⟩
theorem Blk.set {m n i:Nat} {vs:List Value} {w:World} (h:Blk m w n vs) (hi:i < vs.length) (u:Value):Blk m (w.setCell ⟨n,i,none⟩ u) n (vs.set i u):=by
 refine ⟨by simpa [World.setCell] using h.1,fun j=>?_,fun hm j hj=>?_⟩
 ·by_cases hij:j=i
  ·subst hij;rw [World.cell?_setCell_same' _ _ _ (by rw [h.2.1]; simp [hi])];simp [hi]
  ·have e:(⟨n,i,none⟩:Addr)≠⟨n,j,none⟩:=fun e=>hij (by cases e; rfl);have e2:(w.setCell ⟨n,i,none⟩ u).cell? ⟨n,j,none⟩=w.cell? ⟨n,j,none⟩:=World.cell?_setCell_other w _ _ u e;rw [e2,h.2.1,List.getElem?_set,if_neg (fun e=>hij e.symm)]
 ·rw [World.frozen?_setCell];exact h.2.2 hm j (by simpa using hj)
theorem Blk.new (m:Nat) (w:World) (vs:List Value) (t:TypeId):Blk m (w.alloc (.cells vs.toArray t)) w.heap.size vs:=⟨by simp,fun i=>by simp,fun _ i _=>by simp⟩
theorem Blk.more {m n:Nat} {vs:List Value} {w:World} (h:Blk m w n vs) (o:Obj):Blk m (w.alloc o) n vs:=h.kept (by simp) (Below.heap_alloc _ _ _ h.1)
theorem Blk.drew {m n:Nat} {vs:List Value} {w:World} (h:Blk m w n vs):Blk m w.drew n vs:=h
theorem Blk.at {m n n':Nat} {vs:List Value} {w:World} (h:Blk m w n vs) (e:n=n'):Blk m w n' vs:=e ▸ h
theorem Blk.rule {m n:Nat} {vs:List Value} {w:World} (h:Blk m w n vs):∀ i,w.cell? ⟨n,i,none⟩=vs[i]?:=h.2.1
theorem Blk.thaw {n:Nat} {vs:List Value} {w:World} (h:Blk 0 w n vs):∀ i,i < vs.length->w.frozen? ⟨n,i,none⟩=false:=h.2.2 (Nat.zero_le _)
structure Item where
 F:Nat->Prop
 says:World->Prop
 loc:∀ w1 w2,says w1->(∀ k,F k->w2.heap[k]?=w1.heap[k]?)->w1.heap.size<=w2.heap.size->says w2
def Env (w0:World) (L:List Item) (w:World):Prop :=
 Below w0.heap.size w0 w/\L.Pairwise (fun a b=>Off a.F b.F)/\∀ a∈L,a.says w/\∀ k,a.F k->w0.heap.size<=k/\k < w.heap.size
section
variable {w0 w w':World} {L:List Item}
theorem Env.start (w:World):Env w [] w:=⟨Below.refl _ _,List.Pairwise.nil,by simp⟩
theorem Env.below (h:Env w0 L w):Below w0.heap.size w0 w:=h.1
theorem Env.over (h:Env w0 L w) (hb:Below w.heap.size w w'):Env w0 L w':=by
 refine ⟨h.1.trans (hb.mono h.1.size),h.2.1,fun a ha=>?_⟩;obtain ⟨h1,h2⟩:=h.2.2 a ha;exact ⟨a.loc w w' h1 (fun k hk=>hb.block k (h2 k hk).2) hb.size,fun k hk=>⟨(h2 k hk).1,Nat.lt_of_lt_of_le (h2 k hk).2 hb.size⟩⟩
theorem Env.more (h:Env w0 L w) (o:Obj):Env w0 L (w.alloc o):=h.over ((Below.refl _ _).alloc (Nat.le_refl _) o)
theorem Env.drew (h:Env w0 L w):Env w0 L w.drew:=h.over (Below.refl _ w).drew
theorem Env.add (h:Env w0 L w) (a:Item) (hb:Below w.heap.size w w') (ha:a.says w') (hF:∀ k,a.F k->w.heap.size<=k/\k < w'.heap.size):Env w0 (a::L) w':=by
 have h':=h.over hb;refine ⟨h'.1,List.pairwise_cons.2 ⟨fun b hb' k hk hk'=>?_,h'.2.1⟩,fun b hb'=>?_⟩
 ·have:=((h.2.2 b hb').2 k hk').2;have:=(hF k hk).1;omega
 ·rcases List.mem_cons.1 hb' with rfl | hb'
  ·exact ⟨ha,fun k hk=>⟨Nat.le_trans h.1.size (hF k hk).1,(hF k hk).2⟩⟩
  ·exact h'.2.2 b hb'
theorem Env.get (h:Env w0 L w) (i:Nat) {a:Item} (hi:L[i]?=some a):a.says w:=(h.2.2 a (List.mem_of_getElem? hi)).1
theorem Env.lt (h:Env w0 L w) (i:Nat) {a:Item} (hi:L[i]?=some a):∀ k,a.F k->k < w.heap.size:=fun k hk=>((h.2.2 a (List.mem_of_getElem? hi)).2 k hk).2
theorem Env.off (h:Env w0 L w) {i j:Nat} {a b:Item} (hi:L[i]?=some a) (hj:L[j]?=some b) (hij:i≠j):Off a.F b.F:=by
 obtain ⟨hi1,hi2⟩:=List.getElem?_eq_some_iff.1 hi;obtain ⟨hj1,hj2⟩:=List.getElem?_eq_some_iff.1 hj;have hp:=List.pairwise_iff_getElem.1 h.2.1
 rcases Nat.lt_or_gt_of_ne hij with hlt | hlt
 ·have:=hp i j hi1 hj1 hlt; rw [hi2,hj2] at this; exact this
 ·have:=hp j i hj1 hi1 hlt; rw [hi2,hj2] at this; exact this.symm
theorem Env.step (h:Env w0 L w) (i:Nat) {a:Item} (b:Item) (hi:L[i]?=some a) (hs:Step a.F b.F w w') (hb:b.says w') (hlt:∀ k,b.F k->k < w'.heap.size):Env w0 (L.set i b) w':=by
 have hil:i < L.length:=(List.getElem?_eq_some_iff.1 hi).1;have hai:L[i]=a:=(List.getElem?_eq_some_iff.1 hi).2;have ha:=h.2.2 a (List.mem_of_getElem? hi);have hB:Below w0.heap.size w0 w':=Turn.below h.1 hs.turn h.1.size fun k hk=>(ha.2 k hk).1;refine ⟨hB,List.pairwise_iff_getElem.2 fun m n hm hn hmn=>?_,fun x hx=>?_⟩
 ·rw [List.length_set] at hm hn;rw [List.getElem_set,List.getElem_set];have hof:∀ j (hj:j < L.length),j≠i->Off b.F L[j].F:=fun j hj hne=>hs.off (h.lt j (by simp)) (h.off hi (j:=j) (b:=L[j]) (by simp) (fun e=>hne e.symm))
  split
  ·rename_i e
   split
   ·omega
   ·rename_i e'; exact hof n hn (fun e2=>e' e2.symm)
  ·split
   ·rename_i e e'; exact (hof m hm (fun e2=>e e2.symm)).symm
   ·exact List.pairwise_iff_getElem.1 h.2.1 m n hm hn hmn
 ·obtain ⟨j,hj,rfl⟩:=List.getElem_of_mem hx;rw [List.length_set] at hj;rw [List.getElem_set]
  split
  ·refine ⟨hb,fun k hk=>⟨?_,hlt k hk⟩⟩;exact hs.base h.1.size (fun k hk=>(ha.2 k hk).1) k hk
  ·rename_i e;obtain ⟨h1,h2⟩:=h.2.2 L[j] (List.getElem_mem hj);refine ⟨(L[j]).loc w w' h1 (fun k hk=>hs.turn.block k (h2 k hk).2 fun hk'=>?_) hs.turn.size,fun k hk=>⟨(h2 k hk).1,Nat.lt_of_lt_of_le (h2 k hk).2 hs.turn.size⟩⟩;exact h.off hi (j:=j) (b:=L[j]) (by simp [hj]) e k hk' hk
theorem Env.sub {L':List Item} (h:Env w0 L w) (hs:L'.Sublist L):Env w0 L' w:=⟨h.1,h.2.1.sublist hs,fun a ha=>h.2.2 a (hs.subset ha)⟩
theorem Env.perm {L':List Item} (h:Env w0 L w) (hp:L.Perm L'):Env w0 L' w:=⟨h.1,(hp.pairwise_iff (fun h=>Off.symm h)).1 h.2.1,fun a ha=>h.2.2 a (hp.mem_iff.2 ha)⟩
def boxI (B:Nat) (vs:List Value):Item where
 F:=fun k=>k=B
 says:=fun w=>Blk 0 w B vs
 loc:=fun w1 w2 h hk hs=>h.kept hs (hk B rfl)
theorem Env.box (h:Env w0 L w) (n:Nat) (hn:w.heap.size=n) (vs:List Value) (t:TypeId):Env w0 (boxI n vs::L) (w.alloc (.cells vs.toArray t)):=by
 subst hn;exact h.add (boxI w.heap.size vs) ((Below.refl _ _).alloc (Nat.le_refl _) _) (Blk.new 0 w vs t) fun k hk=>by subst hk; simp
theorem Env.rule (h:Env w0 L w) (i:Nat) {B:Nat} {vs:List Value} (hi:L[i]?=some (boxI B vs)):∀ j,w.cell? ⟨B,j,none⟩=vs[j]?:=Blk.rule (h.get i hi)
theorem Env.thaw (h:Env w0 L w) (i:Nat) {B:Nat} {vs:List Value} (hi:L[i]?=some (boxI B vs)):∀ j,j < vs.length->w.frozen? ⟨B,j,none⟩=false:=Blk.thaw (h.get i hi)
theorem Env.put (h:Env w0 L w) (i:Nat) {B:Nat} {vs:List Value} (hi:L[i]?=some (boxI B vs)) {j:Nat} (hj:j < vs.length) (v:Value):Env w0 (L.set i (boxI B (vs.set j v))) (w.setCell ⟨B,j,none⟩ v) :=
 h.step i (boxI B (vs.set j v)) hi ⟨(Turn.refl (fun k=>k=B) w).setCell (p:=⟨B,j,none⟩) (fun _=>rfl) v,fun k hk=>.inl hk⟩ ((show Blk 0 w B vs from h.get i hi).set hj v) fun k hk=>by
  have:=h.lt i hi k hk
  simpa using this
end
def Stage (Ps:List (World->Prop)) (j:Nat) (w:World):Prop:=∃ P,Ps[j]?=some P/\P w
end
end Go.Proofs.YtffncfmciockmaaGreatDoor
namespace Go.Proofs.YtffncfmciockmaaGreatDoor.OrdF
section
open Go Go.Proofs.YtffncfmciockmaaGreatDoor.Ord Go.Proofs.YtffncfmciockmaaGreatDoor.Ord3
section
variable {P:Program} {ops:Array Oper} {Q:Exit->Act->World->Prop} {md:Region.Mode} {C:World->Prop} {A:List Value->Option Value->World->Prop} {ps:List Nat} {q:Nat} {vs:List (Value->Prop)}
def seen (q:Nat) (l:Array Bool) (ρ:Nat->Value):Option Value:=if l.getD q false=true then some (ρ q) else none
def Chain (md:Region.Mode) (ops:Array Oper) (ps:List Nat) (q:Nat) (C:World->Prop) (A:List Value->Option Value->World->Prop) (l:Array Bool) (ρ:Nat->Value) (w:World):Prop :=
 Closed md ops l/\l.size=ops.size/\C w/\∃ j,j<=ps.length/\(∀ i p,ps[i]?=some p->p < ops.size/\l.getD p false=decide (i < j))/\A ((ps.take j).map ρ) (seen q l ρ) w
theorem getD_other {l:Array Bool} {k p:Nat} (h:k≠p):(l.setIfInBounds k true).getD p false=l.getD p false:=by
 rw [Array.getD_eq_getD_getElem?,Array.getElem?_setIfInBounds,if_neg h,<- Array.getD_eq_getD_getElem?]
theorem getD_self {l:Array Bool} {k:Nat} (h:k < l.size):(l.setIfInBounds k true).getD k false=true:=by
 rw [Array.getD_eq_getD_getElem?,Array.getElem?_setIfInBounds,if_pos rfl];simp [h]
theorem seen_other {l:Array Bool} {ρ:Nat->Value} {k:Nat} {v:Value} (h:k≠q):seen q (l.setIfInBounds k true) (up ρ k v)=seen q l ρ:=by
 have hne:¬ q=k:=fun e=>h e.symm;unfold seen up;simp only [getD_other h,if_neg hne]
theorem seen_self {l:Array Bool} {ρ:Nat->Value} {v:Value} (h:q < l.size):seen q (l.setIfInBounds q true) (up ρ q v)=some v:=by
 unfold seen up;rw [getD_self h,if_pos rfl,if_pos rfl]
theorem seen_not {l:Array Bool} {ρ:Nat->Value} (h:q∈Region.ready md ops l):seen q l ρ=none:=by
 unfold seen;rw [ready_not h];rfl
theorem chain_start {w:World} {ρ:Nat->Value} (hlt:∀ p∈ps,p < ops.size) (hC:C w) (hA:A [] none w):Chain md ops ps q C A (firstK ops.size 0) ρ w:=by
 refine ⟨fun i o ho hl=>?_,by simp [firstK],hC,0,Nat.zero_le _,fun i p hp=>?_,?_⟩
 ·have hi:i < ops.size:=(Array.getElem?_eq_some_iff.1 ho).1;rw [firstK_get _ _ _ hi] at hl;simp at hl
 ·have h:=hlt p (List.mem_of_getElem? hp);exact ⟨h,by rw [firstK_get _ _ _ h]; simp⟩
 ·have e:seen q (firstK ops.size 0) ρ=none:=by
   unfold seen;rw [if_neg];rw [Array.getD_eq_getD_getElem?]
   rcases Nat.lt_or_ge q ops.size with h | h
   ·simp [firstK,h]
   ·simp [firstK,Array.getElem?_eq_none (xs:=Array.ofFn _) (by simpa using h)]
  rw [e]
  simpa using hA
theorem chain_set {l:Array Bool} {ρ:Nat->Value} {k:Nat} {v:Value} {w w':World} (hk:k ∉ ps) (hkq:k≠q) (hr:k∈Region.ready md ops l) (h:Chain md ops ps q C A l ρ w) (hC:C w') (hA:∀ vs fo,A vs fo w->A vs fo w'):Chain md ops ps q C A (l.setIfInBounds k true) (up ρ k v) w':=by
 obtain ⟨hc,hs,_,j,hj,hl,hA0⟩:=h;refine ⟨hc.set hr,by simpa using hs,hC,j,hj,fun i p hp=>?_,by rw [map_up (fun e=>hk (List.mem_of_mem_take e)),seen_other hkq]; exact hA _ _ hA0⟩;have hne:k≠p:=fun e=>hk (by rw [e]; exact List.mem_of_getElem? hp);rw [getD_other hne];exact hl i p hp
def In (P:Program) (md:Region.Mode) (ops:Array Oper) (Q:Exit->Act->World->Prop) (vs:List (Value->Prop)) (ps:List Nat) (q:Nat) (C:World->Prop) (A:List Value->Option Value->World->Prop) (k:Nat) (rest:List Oper) (κs:List Value) (fo:Option Value) (a:Act):Prop :=
 ∀ κ:Nat->Value,(ps.take κs.length).map κ=κs->fo=(if q < k then some (κ q) else none)->InText P md ops Q (VS vs) (Chain md ops ps q C A) k rest κ a
theorem wp_float (vs:List (Value->Prop)) (ps:List Nat) (q:Nat) (C:World->Prop) (A:List Value->Option Value->World->Prop) {id:Nat} {a:Act} {w:World} (hm:P.follows .mixedOrders=true) (hf:textFits .any ops=true) (hlt:(ps.all fun p=>decide (p < ops.size))=true) (hC:C w.drew) (hA:A [] none w.drew)
  (h:textFits .any ops=true->In P .any ops Q vs ps q C A 0 ops.toList [] none a):(Code.region id ops true).wp P Q a w :=
 wp_ord (fun _=>undef) hm hf (chain_start (fun p hp=>by simpa using List.all_eq_true.1 hlt p hp) hC hA) fun hT=>h hT _ rfl (by simp)
theorem fo_next {κ:Nat->Value} {fo:Option Value} {k:Nat} {u:Value} (hkq:k≠q) (h:fo=(if q < k then some (κ q) else none)):fo=(if q < k+1 then some (up κ k u q) else none):=by
 have e1:up κ k u q=κ q:=by unfold up; rw [if_neg (fun e=>hkq e.symm)]
 rw [h,e1]
 by_cases hq:q < k
 ·rw [if_pos hq,if_pos (by omega)]
 ·rw [if_neg hq,if_neg (by omega)]
theorem in_value {k:Nat} {o:Oper} {rest:List Oper} {a:Act} {v:Value} {κs:List Value} {fo:Option Value} (hf:textFits md ops=true) (hk:k ∉ ps) (hkq:k≠q) (hvs:vs[k]?=some fun u=>u=v) (hw:Region.wanted o (yielded ops a.tmps)=true) (hv:∀ w,C w->(execOp a.eval o).run P w=.ok (.value v) w)
  (h:In P md ops Q vs ps q C A (k+1) rest κs fo (a.put o.dst v)):In P md ops Q vs ps q C A k (o::rest) κs fo a:=fun κ hκ hfo =>
 InText.cons hf v ⟨_,hvs,rfl⟩ (Or.inl ⟨hw,fun l ρ w hr _ _ hS=>by rw [hv w hS.2.2.1]; exact ⟨⟨_,hvs,rfl⟩,chain_set hk hkq hr hS hS.2.2.1 fun _ _ h=>h⟩⟩)
  fun u ⟨p,hp,hu⟩=>by
   rw [hvs] at hp;cases hp;rw [hu];exact h _ (by rw [map_up (fun e=>hk (List.mem_of_mem_take e))]; exact hκ) (fo_next hkq hfo)
theorem in_off {k:Nat} {o:Oper} {rest:List Oper} {a:Act} {κs:List Value} {fo:Option Value} (hf:textFits md ops=true) (hk:k ∉ ps) (hkq:k≠q) (hvs:vs[k]?=some fun u=>u=undef) (hw:Region.wanted o (yielded ops a.tmps)=false)
  (h:In P md ops Q vs ps q C A (k+1) rest κs fo (a.put o.dst undef)):In P md ops Q vs ps q C A k (o::rest) κs fo a:=fun κ hκ hfo =>
 InText.cons hf undef ⟨_,hvs,rfl⟩ (Or.inr ⟨hw,⟨_,hvs,rfl⟩,fun l ρ w hr hS=>chain_set hk hkq hr hS hS.2.2.1 fun _ _ h=>h⟩)
  fun u ⟨p,hp,hu⟩=>by
   rw [hvs] at hp;cases hp;rw [hu];exact h _ (by rw [map_up (fun e=>hk (List.mem_of_mem_take e))]; exact hκ) (fo_next hkq hfo)
theorem in_call {k:Nat} {o:Oper} {rest:List Oper} {a:Act} {v:Value} {f:FuncId} {args:Array Value} {κs:List Value} {fo:Option Value} (hf:textFits md ops=true) (hk:k ∉ ps) (hkq:k≠q) (hvs:vs[k]?=some fun u=>u=v) (hw:Region.wanted o (yielded ops a.tmps)=true)
  (hr:∀ w,C w->(execOp a.eval o).run P w=.ok (.enter f args) w) (hc:∀ w,C w->Calls P f args w fun e w'=>e=.returned v/\C w'/\∀ κs fo,A κs fo w->A κs fo w')
  (h:In P md ops Q vs ps q C A (k+1) rest κs fo (a.put o.dst v)):In P md ops Q vs ps q C A k (o::rest) κs fo a:=fun κ hκ hfo =>
 InText.cons hf v ⟨_,hvs,rfl⟩ (Or.inl ⟨hw,fun l ρ w hr' _ _ hS=>by
   rw [hr w hS.2.2.1];exact (hc w hS.2.2.1).mono fun e w' he=>⟨v,he.1,⟨_,hvs,rfl⟩,chain_set hk hkq hr' hS he.2.1 he.2.2⟩⟩)
  fun u ⟨p,hp,hu⟩=>by
   rw [hvs] at hp;cases hp;rw [hu];exact h _ (by rw [map_up (fun e=>hk (List.mem_of_mem_take e))]; exact hκ) (fo_next hkq hfo)
theorem in_float {k:Nat} {o:Oper} {rest:List Oper} {a:Act} {κs:List Value} {fo:Option Value} (p:Value->Prop) (v0:Value) (hv0:p v0) (hf:textFits md ops=true) (hk:k=q) (hqs:q ∉ ps) (hvs:vs[k]?=some p) (hw:Region.wanted o (yielded ops a.tmps)=true)
  (hv:∀ w κs',C w->A κs' none w->Lands P (fun v w'=>p v/\C w'/\A κs' (some v) w') ((execOp a.eval o).run P w))
  (h:∀ v,p v->In P md ops Q vs ps q C A (k+1) rest κs (some v) (a.put o.dst v)):In P md ops Q vs ps q C A k (o::rest) κs fo a:=fun κ hκ _=>by
 subst hk;refine InText.cons hf v0 ⟨p,hvs,hv0⟩ (Or.inl ⟨hw,fun l ρ w hr _ _ hS=>?_⟩) fun v ⟨p',hp',hpv⟩=>?_
 ·obtain ⟨hc,hs,hC,j,hj,hl,hA⟩:=hS;rw [seen_not hr] at hA;have hkl:k < l.size:=by
   have h2:l.getD k true=false:=(mem_ready.1 hr).1;rw [Array.getD_eq_getD_getElem?] at h2
   rcases Nat.lt_or_ge k l.size with hh' | hh'
   ·exact hh'
   ·simp [Array.getElem?_eq_none hh'] at h2
  refine (hv w _ hC hA).mono fun v w' ⟨hp,hC',hA'⟩=>⟨⟨p,hvs,hp⟩,hc.set hr,by simpa using hs,hC',j,hj,fun i p' hp'=>?_,?_⟩
  ·have hne:k≠p':=fun e=>hqs (by rw [e]; exact List.mem_of_getElem? hp');rw [getD_other hne];exact hl i p' hp'
  ·rw [map_up (fun e=>hqs (List.mem_of_mem_take e)),seen_self hkl];exact hA'
 ·rw [hvs] at hp';cases hp';refine h v hpv _ (by rw [map_up (fun e=>hqs (List.mem_of_mem_take e))]; exact hκ) ?_;rw [if_pos (by omega)];unfold up;rw [if_pos rfl]
theorem in_turn0 {k:Nat} {o:Oper} {rest:List Oper} {a:Act} {κs:List Value} {fo:Option Value} (F:Option Value->Prop) (hF:∀ (κ:Nat->Value) (l:Array Bool) (ρ:Nat->Value),fo=(if q < k then some (κ q) else none)->k∈Region.ready md ops l->(∀ j,l.getD j false=true->VS vs j (ρ j))->(∀ j,(firstK ops.size k).getD j false=true->l.getD j false=true->ρ j=κ j)->F (seen q l ρ))
  (p:Value->Prop) (v0:Value) (hv0:p v0) (hf:textFits md ops=true) (hk:ps[κs.length]?=some k) (hkq:k≠q) (hnd:ps.Nodup) (hris:(ps.take κs.length).all (fun q=>decide (q < k))=true) (hvs:vs[k]?=some p)
  (hh:κs.length=0\/∃ q b path,ps[κs.length - 1]?=some q/\hangs md ops k b=true/\hangsPath md ops (b::path)=true/\(b::path).getLast?=some q) (hw:Region.wanted o (yielded ops a.tmps)=true)
  (hv:∀ fo' w,F fo'->C w->A κs fo' w->Lands P (fun v w'=>p v/\C w'/\A (κs++[v]) fo' w') ((execOp a.eval o).run P w))
  (h:∀ v,p v->In P md ops Q vs ps q C A (k+1) rest (κs++[v]) fo (a.put o.dst v)):In P md ops Q vs ps q C A k (o::rest) κs fo a:=fun κ hκ hfo=>by
 have hjl:κs.length < ps.length:=(List.getElem?_eq_some_iff.1 hk).1;have hjk:ps[κs.length]=k:=(List.getElem?_eq_some_iff.1 hk).2;have hkn:k ∉ ps.take κs.length:=fun e=>by
  have:=List.all_eq_true.1 hris k e;simp at this
 refine InText.cons hf v0 ⟨p,hvs,hv0⟩ (Or.inl ⟨hw,fun l ρ w hr hVl hagree hS=>?_⟩) fun v ⟨p',hp',hpv⟩=>?_
 ·obtain ⟨hc,hs,hC,j',hj',hl,hA⟩:=hS;have h1:=hl κs.length k hk;have e2:l.getD k false=false:=ready_not hr;have h3:¬ κs.length < j':=by rw [h1.2] at e2; simpa using e2
  have h4:κs.length=j':=by
   rcases hh with h0 | ⟨q,b,path,hq,hg,hpath,hlast⟩
   ·omega
   ·have:=late hc hr hg hpath hlast hq hl;omega
  subst h4;have hm:(ps.take κs.length).map ρ=κs:=by
   rw [<- hκ];have hlen:((ps.take κs.length).map κ).length=κs.length:=by rw [hκ]
   rw [hlen];refine List.map_congr_left fun q hq=>?_;obtain ⟨i,hi,he⟩:=List.getElem_of_mem hq;have hi':i < κs.length:=by simp at hi; omega
   have hiq:ps[i]?=some q:=by rw [<- he,List.getElem_take]; simp
   have hqk:q < k:=by simpa using List.all_eq_true.1 hris q hq
   refine hagree q ?_ ?_
   ·rw [firstK_get _ _ _ (by have:=h1.1; omega)]; simpa using hqk
   ·rw [(hl i q hiq).2]; simpa using hi'
  rw [hm] at hA;refine (hv _ w (hF κ l ρ hfo hr hVl hagree) hC hA).mono fun v w' ⟨hp,hC',hA'⟩=>⟨⟨p,hvs,hp⟩,hc.set hr,by simpa using hs,hC',κs.length+1,by omega,fun i q hq=>?_,?_⟩
  ·refine ⟨(hl i q hq).1,?_⟩
   by_cases hik:q=k
   ·subst hik;have:i=κs.length:=(List.getElem?_inj (List.getElem?_eq_some_iff.1 hq).1 hnd).1 (hq.trans hk.symm);subst this;have hp':q < l.size:=by rw [hs]; exact h1.1
    rw [getD_self hp'];simp
   ·rw [getD_other (fun e=>hik e.symm),(hl i q hq).2];have hne:i≠κs.length:=fun e=>hik (by subst e; exact Option.some.inj (hq.symm.trans hk))
    congr 1
    apply propext;omega
  ·rw [List.take_succ_eq_append_getElem hjl,hjk,List.map_append,map_up hkn,hm,seen_other hkq]
   simpa [up] using hA'
 ·rw [hvs] at hp';cases hp';refine h v hpv _ ?_ (fo_next hkq hfo);rw [List.length_append,List.length_singleton,List.take_succ_eq_append_getElem hjl,hjk,List.map_append,map_up hkn,hκ];simp [up]
theorem in_turn {k:Nat} {o:Oper} {rest:List Oper} {a:Act} {κs:List Value} {fo:Option Value} (pq:Value->Prop) (hpq:vs[q]?=some pq)
  (p:Value->Prop) (v0:Value) (hv0:p v0) (hf:textFits md ops=true) (hk:ps[κs.length]?=some k) (hkq:k≠q) (hnd:ps.Nodup) (hris:(ps.take κs.length).all (fun q=>decide (q < k))=true) (hvs:vs[k]?=some p)
  (hh:κs.length=0\/∃ q b path,ps[κs.length - 1]?=some q/\hangs md ops k b=true/\hangsPath md ops (b::path)=true/\(b::path).getLast?=some q) (hw:Region.wanted o (yielded ops a.tmps)=true)
  (hv:∀ fo' w,(fo'=none\/∃ v,fo'=some v/\pq v)->C w->A κs fo' w->Lands P (fun v w'=>p v/\C w'/\A (κs++[v]) fo' w') ((execOp a.eval o).run P w))
  (h:∀ v,p v->In P md ops Q vs ps q C A (k+1) rest (κs++[v]) fo (a.put o.dst v)):In P md ops Q vs ps q C A k (o::rest) κs fo a :=
 in_turn0 (fun fo'=>fo'=none\/∃ v,fo'=some v/\pq v) (fun κ l ρ _ _ hVl _=>by
  unfold seen;cases hlq:l.getD q false
  ·exact .inl rfl
  ·obtain ⟨p',hp',h'⟩:=hVl q hlq;rw [hpq] at hp';cases hp';exact .inr ⟨_,rfl,h'⟩) p v0 hv0 hf hk hkq hnd hris hvs hh hw hv h
theorem in_turn_late {k:Nat} {o:Oper} {rest:List Oper} {a:Act} {κs:List Value} {u:Value} (hg:hangs md ops k q=true) (hqk:q < k) (hql:q < ops.size)
  (p:Value->Prop) (v0:Value) (hv0:p v0) (hf:textFits md ops=true) (hk:ps[κs.length]?=some k) (hnd:ps.Nodup) (hris:(ps.take κs.length).all (fun q=>decide (q < k))=true) (hvs:vs[k]?=some p)
  (hh:κs.length=0\/∃ q b path,ps[κs.length - 1]?=some q/\hangs md ops k b=true/\hangsPath md ops (b::path)=true/\(b::path).getLast?=some q) (hw:Region.wanted o (yielded ops a.tmps)=true)
  (hv:∀ w,C w->A κs (some u) w->Lands P (fun v w'=>p v/\C w'/\A (κs++[v]) (some u) w') ((execOp a.eval o).run P w))
  (h:∀ v,p v->In P md ops Q vs ps q C A (k+1) rest (κs++[v]) (some u) (a.put o.dst v)):In P md ops Q vs ps q C A k (o::rest) κs (some u) a :=
 in_turn0 (fun fo'=>fo'=some u) (fun κ l ρ hfo hr _ hagree=>by
  have hlq:=hangs_listed hg hr;rw [if_pos hqk] at hfo;have:=hagree q (by rw [firstK_get _ _ _ hql]; simpa using hqk) hlq;unfold seen;rw [if_pos hlq,this,hfo]) p v0 hv0 hf hk (by omega) hnd hris hvs hh hw (fun fo' w e hC hA=>by subst e; exact hv w hC hA) h
theorem in_nil {a:Act} {k:Nat} {κs:List Value} {fo:Option Value} (hlen:κs.length=ps.length) (hql:q < ops.size) (hqk:q < k) (h:∀ w,C w->A κs fo w->Q .normal a w):In P md ops Q vs ps q C A k [] κs fo a:=fun κ hκ hfo =>
 InText.nil fun w hS=>by
  obtain ⟨_,_,hC,j,hj,hl,hA⟩:=hS;have hjl:j=ps.length:=by
   rcases Nat.lt_or_ge j ps.length with hlt | hge
   ·exfalso
    have h1:=hl j ps[j] (by simp [hlt]);rw [firstK_get _ _ _ h1.1] at h1;simp at h1;omega
   ·omega
  subst hjl;rw [hlen] at hκ;rw [hκ] at hA;rw [if_pos hqk] at hfo;have e:seen q (firstK ops.size ops.size) κ=fo:=by
   unfold seen;rw [firstK_get _ _ _ hql,hfo];simp [hql]
  rw [e] at hA;exact h w hC hA
end
def AF (w0:World) (z0:List Value) (St:List Value->List Item->List Value->Prop) (κs:List Value) (fo:Option Value) (w:World):Prop :=
 ∃ L zs,St κs L zs/\((fo=none/\zs=z0/\Env w0 L w)\/∃ n,fo=some (.pointer (some ⟨n,0,none⟩))/\Env w0 (boxI n zs::L) w)
def Sta (Ps:List (List Item->List Value->Prop)) (κs:List Value) (L:List Item) (zs:List Value):Prop:=∃ P,Ps[κs.length]?=some P/\P L zs
def Ptr (v:Value):Prop:=∃ n,v=.pointer (some ⟨n,0,none⟩)
theorem AF.up {w0 w:World} {z0:List Value} {St:List Value->List Item->List Value->Prop} {κs:List Value} (h:AF w0 z0 St κs none w) (t:TypeId):AF w0 z0 St κs (some (.pointer (some ⟨w.heap.size,0,none⟩))) (w.alloc (.cells z0.toArray t)):=by
 obtain ⟨L,zs,hst,⟨_,rfl,hE⟩ | ⟨n,hn,_⟩⟩:=h
 ·exact ⟨L,_,hst,.inr ⟨_,rfl,hE.box _ rfl _ _⟩⟩
 ·cases hn
end
end Go.Proofs.YtffncfmciockmaaGreatDoor.OrdF
namespace Go.Proofs.YtffncfmciockmaaGreatDoor
section
open Go.RowKit
theorem ownsRow_lt {w:World} {b:Nat} {v:Value} {e:TypeId} {n s:Nat} {xs:List Value} (h:w.ownsRow b e s v n xs):∀ k,v.ownBlock=some k->k < w.heap.size:=fun k hk=>(h.lt k hk).2
theorem ownsRow_kept {w w':World} {b:Nat} {v:Value} {e:TypeId} {n s:Nat} {xs:List Value} (h:w.ownsRow b e s v n xs) (hk:∀ k,v.ownBlock=some k->w'.heap[k]?=w.heap[k]?):w'.ownsRow b e s v n xs:=by
 refine ⟨h.1,?_⟩
 rcases h.2 with hn | ⟨g,cap,cur,rfl,hb,hg,rest⟩
 ·exact .inl hn
 ·exact .inr ⟨g,cap,cur,rfl,hb,(hk g rfl).trans hg,rest⟩
theorem run_call_append {P:Program} {o:Oper} {f:Operand->Value} (s x:Operand) (t:TypeId) (ho:o.op=.call { callee:=.builtin .append,args:=#[s,x],argTypes:=#[t,t] }) {vs vx r:Value} {w w':World} (hs:f s=vs) (hx:f x=vx)
  (hr:(Builtin.append_ #[t,t] o.type #[vs,vx]).run P w=.ok r w'):(execOp f o).run P w=.ok (.value r) w':=by
 unfold execOp;simp only [ho,resolve,invoke,builtin,Sem.run_bind,Sem.run_pure,Result.andThen_ok,List.map_toArray,List.map_cons,List.map_nil,hs,hx,hr]
theorem Step.of_below {w w':World} (F:Nat->Prop) (hb:Below w.heap.size w w'):Step F F w w':=⟨Turn.of_below hb,fun _ h=>.inl h⟩
theorem run_append_rows {P:Program} (t ty:TypeId) (base:Nat) (e:TypeId) (i:TypeInfo) (z:Value) (size bytes:Nat) (ht:P.underlying t=some (.slice e)) (hi:P.info? e=some i) (hz:i.zero=some z)
  (hsize:i.size=size) (hby:i.bytes=bytes) (hzs:z.cells.size=size) (hsz:0 < size) (w:World)
  (v:Value) (n:Nat) (xs:List Value) (hown:w.ownsRow base e size v n xs) (A:Option Addr) (m c:Nat) (news:List Value) (hl:news.length=m * size)
  (hnews:(A=none/\m=0)\/∃ ad,A=some ad/\∀ j u,news[j]?=some u->w.cell? (ad.add j)=some u) (h1:∀ u∈news,u.oneCell'=true)
  (h63:n+m<=maxLen) (hbytes:(n+m) * bytes<=140737488355328) (hbase:base<=w.heap.size) :
  ∃ v' w',(Builtin.append_ #[t,t] ty #[v,.slice A m c]).run P w=.ok v' w'/\w'.ownsRow base e size v' (n+m) (xs++news)/\w.grownBy w' v.ownBlock/\(v'.ownBlock=v.ownBlock\/v'.ownBlock=some w.heap.size):=by
 rcases hnews with ⟨rfl,rfl⟩ | ⟨ad,rfl,hn⟩
 ·have h0:news=[]:=List.eq_nil_of_length_eq_zero (by simpa using hl);subst h0;refine ⟨v,w,?_,by simpa using hown,⟨rfl,rfl,rfl,Nat.le_refl _,fun _ _ _=>rfl⟩,.inl rfl⟩
  rcases hown.2 with ⟨rfl,rfl⟩ | ⟨g,cap,cur,rfl,hb,hg,hnc,hcm,hcs,htk⟩
  ·simp [Builtin.append_,run_underlying ht,sizeOf,typeInfo,hi,Builtin.lenOf,Builtin.firstCells]
  ·simp [Builtin.append_,run_underlying ht,sizeOf,typeInfo,hi,Builtin.lenOf,Builtin.firstCells,hnc,storeCells]
 ·obtain ⟨v',w',hr,h2,h3,_,h5⟩:=run_append_own_at (P:=P) w base t ty e i z size bytes ht hi hz hsize hby hzs hsz v n xs hown ad m c news hl hn h1 h63 hbytes hbase;exact ⟨v',w',hr,h2,h3,h5⟩
theorem wpList_append_run {P:Program} {ops:Array Oper} {rest:List Oper} {o:Oper} {a:Act} {w:World} {Q:Exit->Act->World->Prop} (hgd:o.guard=none) (s x:Operand) (t:TypeId) (ho:o.op=.call { callee:=.builtin .append,args:=#[s,x],argTypes:=#[t,t] })
  {vs vx r:Value} {w':World} (hr:(Builtin.append_ #[t,t] o.type #[vs,vx]).run P w=.ok r w') (hs:a.eval s=vs) (hx:a.eval x=vx) (h:wpList P ops Q rest (a.put o.dst r) w'):wpList P ops Q (o::rest) a w :=
 wpList_plain hgd fun K hK=>by
  unfold Oper.wp;rw [run_call_append s x t ho hs hx hr];exact hK _ _ h
theorem ownsRow_base {w:World} {b b':Nat} {e:TypeId} {s n:Nat} {v:Value} {xs:List Value} (h:w.ownsRow b e s v n xs) (hb:b'<=b):w.ownsRow b' e s v n xs :=
 ⟨h.1,h.2.imp id fun ⟨g,cap,cur,h1,h2,h3⟩=>⟨g,cap,cur,h1,Nat.le_trans hb h2,h3⟩⟩
theorem ownsRow_slice {w:World} {b:Nat} {e:TypeId} {s n:Nat} {v:Value} {xs:List Value} (h:w.ownsRow b e s v n xs):∃ A c,v=.slice A n c:=by
 rcases h.2 with ⟨rfl,rfl⟩ | ⟨g,cap,cur,rfl,_⟩
 ·exact ⟨_,_,rfl⟩
 ·exact ⟨_,_,rfl⟩
theorem cells_new (w:World) (vs:List Value) (t:TypeId):∀ j u,vs[j]?=some u->(w.alloc (.cells vs.toArray t)).cell? ((⟨w.heap.size,0,none⟩:Addr).add j)=some u:=fun j u h=>by
 have e:(⟨w.heap.size,0,none⟩:Addr).add j=⟨w.heap.size,j,none⟩:=by unfold Addr.add; split<;>simp_all
 rw [e,(Blk.new 0 w vs t).rule j];exact h
def rowI (v:Value) (e:TypeId) (s n:Nat) (xs:List Value):Item where
 F:=fun k=>v.ownBlock=some k
 says:=fun w=>w.ownsRow 0 e s v n xs
 loc:=fun w1 w2 h hk _=>ownsRow_kept h hk
end
section
open Go.RowKit Go.WideShapes Go.ChangeShapes Go.ChangeAt Go.Deep
inductive Sca | num (k:IntKind) | boo
def Sca.fits (P:Program) (t:TypeId):Sca->Prop
 | .num k=>P.underlying t=some (.int k)
 | .boo=>P.underlying t=some .bool
def Sca.ok (v:Value):Sca->Prop
 | .num k=>∃ n,v=.int k n/\(Lit.int k n).wf=true
 | .boo=>∃ b,v=.bool b
def FitAll (P:Program):List Field->List Sca->Prop
 | [],[]=>True
 | f::fs,s::ss=>s.fits P f.type/\FitAll P fs ss
 | _,_=>False
theorem FitAll.get {P:Program}:∀ {fs:List Field} {ss:List Sca},FitAll P fs ss->∀ {i:Nat} {s:Sca},ss[i]?=some s->∃ f,fs[i]?=some f/\s.fits P f.type:=by
 intro fs
 induction fs with
 | nil =>
  intro ss h i s e;cases ss with
  | nil=>simp at e
  | cons x ss=>exact absurd h (by simp [FitAll])
 | cons f fs ih =>
  intro ss h i s e;cases ss with
  | nil=>exact absurd h (by simp [FitAll])
  | cons x ss =>
   cases i with
   | zero =>
    simp at e;subst e;exact ⟨f,rfl,h.1⟩
   | succ i =>
    obtain ⟨f',hf,hs⟩:=ih h.2 (i:=i) (by simpa using e);exact ⟨f',by simpa using hf,hs⟩
section
variable {H:Type} {enc:TypeId × Value->H} {P:Program} {w:World} {base:Nat} {spare:Nat->Bool} {held:Bool}
theorem open_flat {r:Reach} {b0:Nat} {t:TypeId} {fs:Array Field} {ss:List Sca} {v:Value} {d:DataW H} {p:List MemPlace} (hs:P.underlying t=some (.struct fs)) (hone:oneCellFields P fs=true) (hC:P.cellsOf t=ss.length) (hfit:FitAll P fs.toList ss)
  (hv:Value.okWide P w r b0 t v) (h:DataW.Trod enc P w base spare held t v d p) :
  ∃ cs:Array Value,v=.agg cs/\cs.size=ss.length/\∀ (i:Nat) (s:Sca),ss[i]?=some s->∃ x,cs[i]?=some x/\s.ok x:=by
 obtain ⟨cs,rfl,hsz⟩:=okWide_struct hs hv;obtain ⟨fuel,hf⟩:=h;obtain ⟨xs,n,-,-,hl,hlen,hall⟩:=DataW.trod_struct hs hf;refine ⟨cs,rfl,hsz.trans hC,fun i s e=>?_⟩;obtain ⟨f,hfi,hfs⟩:=hfit.get e;have hfi':fs[i]?=some f:=by simpa using hfi
 obtain ⟨o,k⟩:=hone_of hone i f hfi';have hi:i < cs.size:=by
  have:i < ss.length:=by
   rcases Nat.lt_or_ge i ss.length with hh | hh
   ·exact hh
   ·rw [List.getElem?_eq_none hh] at e; cases e
  omega
 have hx:xs[i]?≠none:=by
  have:=(Array.getElem?_eq_some_iff.1 hfi').1;rw [List.getElem?_eq_getElem (by omega)];simp
 have ht:=hall i f hfi';have hcell:((Value.agg cs).cells.toList.drop f.offset).take (P.cellsOf f.type)=[cs[i]]:=by
  rw [o,k];show (cs.toList.drop i).take 1=_;have hi':i < cs.toList.length:=by simpa using hi
  rw [List.drop_eq_getElem_cons hi'];simp
 rw [hcell] at ht;obtain ⟨y,hy⟩:=Option.ne_none_iff_exists'.1 hx;rw [hy] at ht;refine ⟨cs[i],by simp [hi],?_⟩;cases s with
 | num k =>
  obtain ⟨n,e1,-,wf⟩:=DataW.trod_int hfs ht;exact ⟨n,by simpa using e1,wf⟩
 | boo =>
  obtain ⟨b,e1,-⟩:=DataW.trod_bool hfs ht;exact ⟨b,by simpa using e1⟩
end
theorem list_of {α:Type} {cs:Array α} {n:Nat} (h:cs.size=n):∃ l:List α,cs=l.toArray/\l.length=n:=⟨cs.toList,rfl,by simpa using h⟩
theorem list3 {α:Type} {l:List α} (h:l.length=3):∃ a b c,l=[a,b,c]:=by
 match l,h with
 | [a,b,c],_=>exact ⟨a,b,c,rfl⟩
theorem list4 {α:Type} {l:List α} (h:l.length=4):∃ a b c d,l=[a,b,c,d]:=by
 match l,h with
 | [a,b,c,d],_=>exact ⟨a,b,c,d,rfl⟩
end
section
open Go.RowKit
theorem ret_bool {x y:Bool} (h:x=y):Ending.returned (.bool x)=.returned (.bool y):=congrArg (fun z=>Ending.returned (.bool z)) h
theorem ret_int {k:IntKind} {x y:Int} (h:x=y):Ending.returned (.int k x)=.returned (.int k y):=congrArg (fun z=>Ending.returned (.int k z)) h
theorem w64 (n:Int) (h:-9223372036854775808<=n/\n<=9223372036854775807):wrap64 n=n:=by unfold wrap64; omega
theorem wrap_i (n:Int):IntKind.i64.wrap n=wrap64 n:=by rw [IntKind.wrap_i64]; unfold wrap64; omega
def In64 (n:Int):Prop:=-9223372036854775808<=n/\n<=9223372036854775807
def InU (n:Int):Prop:=0<=n/\n<=18446744073709551615
theorem wf_i {n:Int}:(Lit.int .i64 n).wf=true ↔ In64 n:=by simp [Lit.wf,IntKind.min,IntKind.max,IntKind.signed,IntKind.bits,In64]
theorem wf_u {n:Int}:(Lit.int .u64 n).wf=true ↔ InU n:=by simp [Lit.wf,IntKind.min,IntKind.max,IntKind.signed,IntKind.bits,InU]
end
section
open Go.RowKit Go.Maps Go.Deep
def CellsAt (w:World) (b o:Nat) (vs:List Value):Prop:=∀ (j:Nat) (v:Value),vs[j]?=some v->w.cell? ⟨b,o+j,none⟩=some v
theorem CellsAt.below {w w':World} {b o:Nat} {vs:List Value} (h:CellsAt w b o vs) (hb:Below w.heap.size w w') (hl:b < w.heap.size):CellsAt w' b o vs:=fun j v e=>by
 rw [hb.cell (p:=⟨b,o+j,none⟩) hl]; exact h j v e
def RowX {α:Type} [Inhabited α] (enc:α->List Value) (m:Nat) (w:World) (A:Option Addr) (xs:List α):Prop :=
 xs=[]\/∃ b off,A=some ⟨b,off,none⟩/\b < w.heap.size/\∀ i,i < xs.length->CellsAt w b (off+i * m) (enc (xs.getD i default))
theorem RowX.below {α:Type} [Inhabited α] {enc:α->List Value} {m:Nat} {w w':World} {A:Option Addr} {xs:List α} (h:RowX enc m w A xs) (hb:Below w.heap.size w w'):RowX enc m w' A xs:=by
 rcases h with h | ⟨b,off,rfl,hl,hc⟩
 ·exact .inl h
 ·exact .inr ⟨b,off,rfl,Nat.lt_of_lt_of_le hl hb.size,fun i hi=>(hc i hi).below hb hl⟩
abbrev Trip:=Int × Int × Int
def enc3 (x:Trip):List Value:=[.int .i64 x.1,.int .i64 x.2.1,.int .i64 x.2.2]
def tv (x:Trip):Value:=.agg #[.int .i64 x.1,.int .i64 x.2.1,.int .i64 x.2.2]
def t0:Trip:=(0,0,0)
theorem t0_default:(default:Trip)=t0:=rfl
def flat3 (l:List Trip):List Value:=l.flatMap enc3
theorem flat3_length (l:List Trip):(flat3 l).length=l.length * 3:=by
 induction l with
 | nil=>rfl
 | cons x l ih=>simp [flat3,enc3] at *; omega
theorem flat3_get (l:List Trip):∀ (j c:Nat),j < l.length->c < 3->(flat3 l)[j * 3+c]?=(enc3 (l.getD j t0))[c]?:=by
 induction l with
 | nil=>intro j c h; simp at h
 | cons x l ih =>
  intro j c hj hc;have e:flat3 (x::l)=enc3 x++flat3 l:=by simp [flat3]
  cases j with
  | zero=>rw [e,List.getElem?_append_left (by simp [enc3]; omega)]; simp
  | succ j =>
   rw [e,List.getElem?_append_right (by simp [enc3]; omega)];have:=ih j c (by simpa using hj) hc;have e2:(j+1) * 3+c - (enc3 x).length=j * 3+c:=by simp [enc3]; omega
   rw [e2,this];simp
theorem flat3_set (x:Trip):∀ (l:List Trip) (k:Nat),k < l.length->flat3 (l.set k x)=(((flat3 l).set (k * 3) (.int .i64 x.1)).set (k * 3+1) (.int .i64 x.2.1)).set (k * 3+2) (.int .i64 x.2.2)
 | [],k,h=>by simp at h
 | y::l,k,h=>by
  have e:∀ (z:Trip) (m:List Trip),flat3 (z::m)=.int .i64 z.1::.int .i64 z.2.1::.int .i64 z.2.2::flat3 m:=fun z m=>by simp [flat3,enc3]
  cases k with
  | zero=>simp [e]
  | succ k =>
   have ih:=flat3_set x l k (by simpa using h);rw [zS,e,e,ih];rw [show (k+1) * 3=k * 3+3 by omega];simp
theorem flat3_zero (n:Nat):flat3 (List.replicate n t0)=List.replicate (n * 3) (.int .i64 0):=by
 induction n with
 | zero=>rfl
 | succ n ih =>
  have e:flat3 (List.replicate (n+1) t0)=enc3 t0++flat3 (List.replicate n t0):=by simp [flat3,List.replicate_succ]
  rw [e,ih,show (n+1) * 3=n * 3+3 by omega];simp [enc3,t0,List.replicate_succ]
theorem at3 {w:World} {b o:Nat} {x y z:Int} (h:CellsAt w b o (enc3 (x,y,z))):w.cell? ⟨b,o,none⟩=some (.int .i64 x)/\w.cell? ⟨b,o+1,none⟩=some (.int .i64 y)/\w.cell? ⟨b,o+2,none⟩=some (.int .i64 z) :=
 ⟨h 0 _ rfl,h 1 _ rfl,h 2 _ rfl⟩
abbrev Row3 (w:World) (A:Option Addr) (xs:List Trip):Prop:=RowX enc3 3 w A xs
def In3 (A:Option Addr) (k:Nat):Prop:=∃ off,A=some ⟨k,off,none⟩
theorem CellsAt.kept {w w':World} {b o:Nat} {vs:List Value} (h:CellsAt w b o vs) (hb:w'.heap[b]?=w.heap[b]?):CellsAt w' b o vs:=fun j v e=>by
 rw [World.cell?_of_block (w:=w) hb]; exact h j v e
theorem Row3.kept {w w':World} {A:Option Addr} {xs:List Trip} (h:Row3 w A xs) (hk:∀ k,In3 A k->w'.heap[k]?=w.heap[k]?) (hs:w.heap.size<=w'.heap.size):Row3 w' A xs:=by
 rcases h with h | ⟨b,off,rfl,hl,hc⟩
 ·exact .inl h
 ·exact .inr ⟨b,off,rfl,Nat.lt_of_lt_of_le hl hs,fun i hi=>(hc i hi).kept (hk b ⟨off,rfl⟩)⟩
theorem Blk.row3 {w:World} {g:Nat} {l:List Trip} (h:Blk 0 w g (flat3 l)):Row3 w (some ⟨g,0,none⟩) l:=by
 refine .inr ⟨g,0,rfl,h.1,fun i hi j v e=>?_⟩;have hj:j < 3:=by have:=(List.getElem?_eq_some_iff.1 e).1; simpa [enc3] using this
 rw [Nat.zero_add,h.rule,flat3_get l i j hi hj,<- t0_default];exact e
theorem Row3.nil {w:World}:Row3 w none []:=.inl rfl
theorem Blk.set3 {m n k:Nat} {l:List Trip} {w:World} (h:Blk m w n (flat3 l)) (hk:k < l.length) (x:Trip) :
  Blk m (((w.setCell ⟨n,k * 3,none⟩ (.int .i64 x.1)).setCell ⟨n,k * 3+1,none⟩ (.int .i64 x.2.1)).setCell ⟨n,k * 3+2,none⟩ (.int .i64 x.2.2)) n (flat3 (l.set k x)):=by
 rw [flat3_set x l k hk];have hl:=flat3_length l;exact ((h.set (by omega) _).set (by simp; omega) _).set (by simp; omega) _
theorem made3 (n:Nat):madeCells (tv t0).cells (n * 3)=(flat3 (List.replicate n t0)).toArray:=by
 rw [flat3_zero];apply Array.ext
 ·simp [size_madeCells]
 ·intro i h1 h2;have:i % 3=0\/i % 3=1\/i % 3=2:=by omega
  simp only [madeCells,Array.getElem_map,Array.getElem_range,tv,t0,Value.cells,List.getElem_toArray,List.getElem_replicate]
  rcases this with h | h | h<;>simp [h]
theorem run_make3 {P:Program} (t e:TypeId) (ht:P.underlying t=some (.slice e)) (hinfo:(P.info? e).map (fun i=>(i.zero,i.size,i.bytes))=some (some (tv t0),3,24))
  (kl kc:IntKind) (n:Nat) (hn:n<=1099511627776) (w:World) :
  (Instr.makeSlice t (.int kl (n:Int)) (.int kc (n:Int))).run P w=.ok (.slice (some ⟨w.heap.size,0,none⟩) n n) (w.alloc (.cells (flat3 (List.replicate n t0)).toArray e)):=by
 obtain ⟨i,hi,hzz⟩:=Option.map_eq_some_iff.1 hinfo;simp only [Prod.mk.injEq] at hzz;obtain ⟨hz,hs,hb⟩:=hzz;have hr:=run_make (P:=P) w t e i (tv t0) ht hi hz kl kc n n (by omega) (Int.le_refl _) (by rw [hb]; omega) (by omega);simp only [Int.toNat_natCast,hs,made3] at hr;exact hr
theorem wpList_make3 {P:Program} (w:World) {ops:Array Oper} {rest:List Oper} {o:Oper} {a:Act} {Q:Exit->Act->World->Prop}
  (hg:o.guard=none) (l c:Operand) (t:TypeId) (hop:o.op=Op.makeSlice t l c)
  (e:TypeId) (ht:P.underlying t=some (.slice e)) (hinfo:(P.info? e).map (fun i=>(i.zero,i.size,i.bytes))=some (some (tv t0),3,24))
  (kl kc:IntKind) (N M:Int) (n:Nat) (hl:a.eval l=.int kl N) (hc:a.eval c=.int kc M) (hN:N=(n:Int)) (hM:M=(n:Int)) (hn:n<=1099511627776)
  (hK:wpList P ops Q rest (a.put o.dst (.slice (some ⟨w.heap.size,0,none⟩) n n)) (w.alloc (.cells (flat3 (List.replicate n t0)).toArray e))) :
  wpList P ops Q (o::rest) a w:=by
 refine wpList_plain hg fun K hK'=>?_;subst hN;subst hM;have hrun:=run_make3 (P:=P) t e ht hinfo kl kc n hn w;unfold Oper.wp;simp [execOp,hop,hl,hc,hrun,Result.andThen];exact hK' _ _ hK
end
section
open Go.RowKit Go.Maps
abbrev Plc:=Int × Int × Int
def Wf (x:Plc):Prop:=In64 x.1/\In64 x.2.1/\In64 x.2.2
def pv (x:Plc):Value:=.agg #[.int .i64 x.1,.int .i64 x.2.1,.int .i64 x.2.2]
def kl (x:Plc):Lit:=.string (keyBytes [.int .i64 x.1,.int .i64 x.2.1,.int .i64 x.2.2])
theorem laidOutP:laidOutB prog=true:=by kernel_rfl
theorem rowPlace:(90:TypeId) < prog.types.size:=of_decide_eq_true (by kernel_rfl)
theorem widePlace:(match prog.underlying 90 with | some (.array _ _) | some (.struct _)=>true | _=>false)=true:=by rw [Tryz.underlying90]
theorem keyPlace:Keyed prog 90:=Keyed.of_law (deep_law_laid laidOutP (m:=2) (by omega) rowPlace (by kernel_rfl) widePlace)
theorem typePlace:prog.keyType 90=true:=by kernel_rfl
theorem cellsPlace:prog.cellsOf 90=3:=by kernel_rfl
theorem cellsIntP:prog.cellsOf 3=1:=by kernel_rfl
theorem typesPos:0 < prog.types.size:=Nat.lt_of_le_of_lt (Nat.zero_le _) rowPlace
section
variable {P:Program} {k e:TypeId} {f0 f1 f2:Field}
theorem lits_three (hk:P.underlying k=some (.struct #[f0,f1,f2])) (t0:f0.type=e) (t1:f1.type=e) (t2:f2.type=e) (he:P.underlying e=some (.int .i64)) (ck:P.cellsOf k=3) (ce:P.cellsOf e=1)
  (o0:f0.offset=0) (o1:f1.offset=1) (o2:f2.offset=2) (hn:(#[f0,f1,f2]:Array Field).all (·.name != "_")=true) (d:Nat) (u v w:Value) :
  P.keyLits (d+2) k [u,v,w]=(P.keyLits (d+1) e [u]).bind fun a=>(P.keyLits (d+1) e [v]).bind fun b=>(P.keyLits (d+1) e [w]).map fun c=>a++(b++c):=by
 generalize hR:(P.keyLits (d+1) e [u]).bind _=R;unfold Program.keyLits;rw [hk];dsimp only;rw [if_pos ⟨by rw [ck]; rfl,hn⟩,<- hR];simp only [List.mapM_cons,List.mapM_nil,t0,t1,t2,o0,o1,o2,ce,List.drop_zero,List.drop_succ_cons,List.take_succ_cons,List.take_zero];cases P.keyLits (d+1) e [u] with
 | none=>rfl
 | some a =>
  cases P.keyLits (d+1) e [v] with
  | none=>rfl
  | some b =>
   cases P.keyLits (d+1) e [w] with
   | none=>rfl
   | some c=>simp [pure]
theorem lits_one (he:P.underlying e=some (.int .i64)) (d:Nat) (u:Value) {l:List Lit}:P.keyLits (d+1) e [u]=some l ↔ ∃ n,u=.int .i64 n/\In64 n/\l=[.int .i64 n]:=by
 constructor
 ·intro h;unfold Program.keyLits at h;rw [he] at h;cases u<;>simp at h;obtain ⟨⟨rfl,hw⟩,rfl⟩:=h;exact ⟨_,rfl,wf_i.1 hw,rfl⟩
 ·rintro ⟨n,rfl,hn,rfl⟩;unfold Program.keyLits;rw [he];simp [wf_i.2 hn]
end
theorem litsPlace (d:Nat) (u v w:Value):prog.keyLits (d+2) 90 [u,v,w]=(prog.keyLits (d+1) 3 [u]).bind fun a=>(prog.keyLits (d+1) 3 [v]).bind fun b=>(prog.keyLits (d+1) 3 [w]).map fun c=>a++(b++c) :=
 lits_three Tryz.underlying90 rfl rfl rfl Tryz.underlying3 cellsPlace cellsIntP rfl rfl rfl (by kernel_rfl) d u v w
theorem depthP:∃ d,prog.types.size+1=d+2:=⟨prog.types.size - 1,by have:=typesPos; omega⟩
theorem key_mk (x:Plc) (h:Wf x):keyOf prog 90 (pv x)=some (kl x):=by
 obtain ⟨a,b,c⟩:=x;obtain ⟨h1,h2,h3⟩:=h;unfold keyOf;rw [Tryz.underlying90,typePlace];have hf:(pv (a,b,c)).formed prog 90=true:=by simp [pv,Value.formed,Tryz.underlying90,cellsPlace]
 rw [hf];obtain ⟨d,hd⟩:=depthP;rw [hd];show (if (true && true)=true then (prog.keyLits (d+2) 90 [.int .i64 a,.int .i64 b,.int .i64 c]).map fun ls=>Lit.string (keyBytes ls) else none)=_;rw [litsPlace,(lits_one Tryz.underlying3 d _).2 ⟨a,rfl,h1,rfl⟩,(lits_one Tryz.underlying3 d _).2 ⟨b,rfl,h2,rfl⟩,(lits_one Tryz.underlying3 d _).2 ⟨c,rfl,h3,rfl⟩];rfl
theorem kl_inj {x y:Plc} (hx:Wf x) (hy:Wf y) (h:kl x=kl y):x=y:=by
 have:=keyPlace.inj (key_mk x hx) (h ▸ key_mk y hy);obtain ⟨a,b,c⟩:=x;obtain ⟨a',b',c'⟩:=y;simp [pv] at this;simp [this]
theorem kl_key (x:Plc):WideAt.IsKeyLit (kl x):=trivial
def wd (v:Int):DataW Unit:=.lit (.int .u64 v)
def upd (f:Plc->Int) (x:Plc) (v:Int):Plc->Int:=fun y=>if y=x then v else f y
theorem upd_same (f:Plc->Int) (x:Plc) (v:Int):upd f x v x=v:=by simp [upd]
theorem upd_other (f:Plc->Int) {x y:Plc} (v:Int) (h:y≠x):upd f x v y=f y:=by simp [upd,h]
structure Words (f:Plc->Int):Prop where
 u:∀ x,InU (f x)
 out:∀ x,¬ Wf x->f x=0
theorem Words.zero:Words fun _=>0:=⟨fun _=>⟨by omega,by omega⟩,fun _ _=>rfl⟩
theorem Words.set {f:Plc->Int} (h:Words f) {x:Plc} (hx:Wf x) {v:Int} (hv:InU v):Words (upd f x v):=by
 refine ⟨fun y=>?_,fun y hy=>?_⟩
 ·unfold upd; split
  ·exact hv
  ·exact h.u y
 ·rw [upd_other _ _ (fun e=>hy (by rw [e]; exact hx))];exact h.out y hy
structure ReadsF (D:DataW Unit) (f:Plc->Int):Prop where
 words:Words f
 at':∀ x,Wf x->D.atKey (kl x) (wd 0)=wd (f x)
 has':∀ x,Wf x->Maps.has D (kl x)=decide (f x≠0)
theorem ReadsF.empty:ReadsF (.map []) fun _=>0:=⟨Words.zero,fun _ _=>rfl,fun _ _=>by simp [Maps.has]⟩
theorem ReadsF.put {D:DataW Unit} {f:Plc->Int} (h:ReadsF D f) (hD:IsMap D) {x:Plc} (hx:Wf x) {v:Int} (hv:InU v) (h0:v≠0):ReadsF (D.put (kl x) (wd v)) (upd f x v):=by
 refine ⟨h.words.set hx hv,fun y hy=>?_,fun y hy=>?_⟩
 ·by_cases e:y=x
  ·subst e; rw [upd_same]; exact atKey_put_same hD (kl_key _) _ _
  ·rw [upd_other _ _ e,atKey_put_other (fun e'=>e (kl_inj hy hx e')),h.at' y hy]
 ·by_cases e:y=x
  ·subst e; rw [upd_same,has_put_same hD (kl_key _)]; simp [h0]
  ·rw [upd_other _ _ e,has_put_other (fun e'=>e (kl_inj hy hx e')),h.has' y hy]
theorem ReadsF.del {D:DataW Unit} {f:Plc->Int} (h:ReadsF D f) {x:Plc} (hx:Wf x):ReadsF (D.del (kl x)) (upd f x 0):=by
 refine ⟨h.words.set hx ⟨by omega,by omega⟩,fun y hy=>?_,fun y hy=>?_⟩
 ·by_cases e:y=x
  ·subst e; rw [upd_same]; exact atKey_del_same _
  ·rw [upd_other _ _ e,atKey_del_other (fun e'=>e (kl_inj hy hx e')),h.at' y hy]
 ·by_cases e:y=x
  ·subst e; rw [upd_same,has_del_same]; simp
  ·rw [upd_other _ _ e,has_del_other (fun e'=>e (kl_inj hy hx e')),h.has' y hy]
theorem zeroWord (w:World):(zeroValue 49).run prog w=.ok (.int .u64 0) w:=by kernel_rfl
def MapIs (w:World) (mp:Option Nat) (f:Plc->Int) (n:Nat):Prop :=
 (mp=none/\f=fun _=>0)\/∃ b D,mp=some b/\w.ownsMap prog 90 (plainElem (H:=Unit) prog 49) b n D/\ReadsF D f
theorem MapIs.words {w:World} {mp:Option Nat} {f:Plc->Int} {n:Nat} (h:MapIs w mp f n):Words f:=by
 rcases h with ⟨_,rfl⟩ | ⟨b,D,_,_,h⟩
 ·exact Words.zero
 ·exact h.words
theorem MapIs.mono {w:World} {mp:Option Nat} {f:Plc->Int} {n m:Nat} (h:MapIs w mp f n) (hm:n<=m):MapIs w mp f m:=by
 rcases h with h | ⟨b,D,e,ho,hr⟩
 ·exact .inl h
 ·exact .inr ⟨b,D,e,ho.mono hm,hr⟩
theorem MapIs.lt {w:World} {mp:Option Nat} {f:Plc->Int} {n:Nat} (h:MapIs w mp f n):∀ b,mp=some b->b < w.heap.size:=by
 rcases h with ⟨rfl,_⟩ | ⟨b,D,rfl,ho,hr⟩
 ·intro b e; cases e
 ·intro b' e; cases e; exact ho.lt
theorem MapIs.kept {w w':World} {mp:Option Nat} {f:Plc->Int} {n:Nat} (h:MapIs w mp f n) (hk:∀ b,mp=some b->w'.heap[b]?=w.heap[b]?):MapIs w' mp f n:=by
 rcases h with h | ⟨b,D,e,⟨es,clock,hb,r⟩,hr⟩
 ·exact .inl h
 ·exact .inr ⟨b,D,e,⟨es,clock,(hk b e).trans hb,r⟩,hr⟩
theorem MapIs.more {w:World} {mp:Option Nat} {f:Plc->Int} {n:Nat} (h:MapIs w mp f n) (o:Obj):MapIs (w.alloc o) mp f n:=h.kept fun b e=>Below.heap_alloc _ _ _ (h.lt b e)
theorem MapIs.drew {w:World} {mp:Option Nat} {f:Plc->Int} {n:Nat} (h:MapIs w mp f n):MapIs w.drew mp f n:=h.kept fun _ _=>rfl
theorem MapIs.look {w:World} {mp:Option Nat} {f:Plc->Int} {n:Nat} (h:MapIs w mp f n) {x:Plc} (hx:Wf x):(Instr.lookup 155 (.map mp) (pv x) false).run prog w=.ok (.int .u64 (f x)) w:=by
 rcases h with ⟨rfl,rfl⟩ | ⟨b,D,rfl,ho,hr⟩
 ·have:=Maps.look_nil (w:=w) false keyPlace Tryz.underlying155 (zeroWord w) (key_mk x hx)
  simpa using this
 ·obtain ⟨c,hrun,hat,_⟩:=ho.lookup_int keyPlace Tryz.underlying155 Tryz.underlying49 (zeroWord w) (key_mk x hx);have h1:=hr.at' x hx;unfold wd at h1;rw [h1] at hat;simp at hat;rw [hrun,hat]
theorem MapIs.drop {w:World} {mp:Option Nat} {f:Plc->Int} {n:Nat} (h:MapIs w mp f n) {x:Plc} (hx:Wf x) (ty:TypeId) :
  ∃ w',(Builtin.delete_ #[155,90] ty #[.map mp,pv x]).run prog w=.ok (.tuple #[]) w'/\MapIs w' mp (upd f x 0) n/\Turn (fun k=>mp=some k) w w':=by
 rcases h with ⟨rfl,rfl⟩ | ⟨b,D,rfl,ho,hr⟩
 ·refine ⟨w,Maps.drop_nil keyPlace Tryz.underlying155 (key_mk x hx) ty,.inl ⟨rfl,?_⟩,Turn.refl _ _⟩
  funext y; simp [upd]
 ·obtain ⟨w',hrun,ho',ht⟩:=ho.drop keyPlace Tryz.underlying155 (key_mk x hx) ty;exact ⟨w',hrun,.inr ⟨b,_,rfl,ho',hr.del hx⟩,(Turn.refl _ _).turned ht fun _=>rfl⟩
theorem MapIs.store {w:World} {b:Nat} {f:Plc->Int} {n:Nat} (h:MapIs w (some b) f n) (hn:n < maxLen) {x:Plc} (hx:Wf x) {v:Int} (hv:InU v) (h0:v≠0) :
  ∃ w',(Instr.mapUpdate 155 (.map (some b)) (pv x) (.int .u64 v)).run prog w=.ok () w'/\MapIs w' (some b) (upd f x v) (n+1)/\Turn (fun k=>k=b) w w':=by
 rcases h with ⟨e,_⟩ | ⟨b',D,e,ho,hr⟩
 ·cases e
 ·cases e;obtain ⟨w',hrun,ho',ht⟩:=ho.store keyPlace Tryz.underlying155 hn (key_mk x hx) (plainElem_int Tryz.underlying49 (wf_u.2 hv));exact ⟨w',hrun,.inr ⟨b,_,rfl,ho',hr.put ho.isMap hx hv h0⟩,(Turn.refl _ _).turned ht fun _=>rfl⟩
theorem MapIs.made (w:World):MapIs (w.alloc (.map #[] 0)) (some w.heap.size) (fun _=>0) 0:=.inr ⟨_,_,rfl,World.ownsMap_made w _ _ _,ReadsF.empty⟩
structure Cnt where
 l:Int
 s:Int
 w:Int
 f:Int
 a:Int
def cv (mp:Option Nat) (q:Cnt):List Value:=[.map mp,.int .i64 q.l,.int .i64 q.s,.int .i64 q.w,.int .i64 q.f,.int .i64 q.a]
def IsC (w:World) (c:Nat) (F:Nat->Prop) (f:Plc->Int) (q:Cnt) (n:Nat):Prop :=
 ∃ mp,Blk 0 w c (cv mp q)/\MapIs w mp f n/\∀ k,F k ↔ (k=c\/mp=some k)
theorem not_map_cells {w:World} {mp:Option Nat} {f:Plc->Int} {n c:Nat} {v:Value} {vs:List Value} (h:MapIs w mp f n) (hb:Blk 0 w c (v::vs)):mp≠some c:=by
 rintro rfl
 rcases h with ⟨e,_⟩ | ⟨b,D,e,⟨es,clock,hm,_⟩,_⟩
 ·cases e
 ·cases e;have:=hb.rule 0;simp [World.cell?,hm] at this
theorem IsC.lt {w:World} {c:Nat} {F:Nat->Prop} {f:Plc->Int} {q:Cnt} {n:Nat} (h:IsC w c F f q n):∀ k,F k->k < w.heap.size:=by
 obtain ⟨mp,hb,hm,hF⟩:=h;intro k hk
 rcases (hF k).1 hk with rfl | e
 ·exact hb.1
 ·exact hm.lt k e
theorem IsC.mono {w:World} {c:Nat} {F:Nat->Prop} {f:Plc->Int} {q:Cnt} {n m:Nat} (h:IsC w c F f q n) (hm:n<=m):IsC w c F f q m:=by
 obtain ⟨mp,hb,hp,hF⟩:=h;exact ⟨mp,hb,hp.mono hm,hF⟩
theorem IsC.words {w:World} {c:Nat} {F:Nat->Prop} {f:Plc->Int} {q:Cnt} {n:Nat} (h:IsC w c F f q n):Words f:=by
 obtain ⟨mp,hb,hp,hF⟩:=h;exact hp.words
def At (F:Nat->Prop) (c:Nat) (w0:World) (B:Nat) (bv:List Value) (mp:Option Nat) (q:Cnt) (w:World):Prop:=Turn F w0 w/\Blk 0 w c (cv mp q)/\Blk 0 w B bv
theorem At.drew {F:Nat->Prop} {c B:Nat} {w0 w:World} {bv:List Value} {mp:Option Nat} {q:Cnt} (h:At F c w0 B bv mp q w):At F c w0 B bv mp q w.drew:=⟨h.1.drew,h.2.1,h.2.2⟩
theorem At.map {F T:Nat->Prop} {c B:Nat} {w0 w w':World} {bv:List Value} {mp:Option Nat} {q:Cnt} (h:At F c w0 B bv mp q w) (ht:Turn T w w') (hF:∀ k,k < w0.heap.size->T k->F k) (hc:¬ T c) (hB:¬ T B):At F c w0 B bv mp q w' :=
 ⟨h.1.then ht hF,h.2.1.kept ht.size (ht.block _ h.2.1.1 hc),h.2.2.kept ht.size (ht.block _ h.2.2.1 hB)⟩
theorem put_zero {c n:Nat} {F:Nat->Prop} {f:Plc->Int} {q:Cnt} {w:World} (a b d:Int) (hx:Wf (a,b,d)) (hC:IsC w c F f q n) :
  Calls prog 343 #[.pointer (some ⟨c,0,none⟩),.agg #[.int .i64 a,.int .i64 b,.int .i64 d],.int .u64 0] w fun e w'=>e=.returned (.tuple #[])/\∃ F',IsC w' c F' (upd f (a,b,d) 0) q n/\Step F F' w w':=by
 obtain ⟨mp,hb,hm,hF⟩:=hC;have hcl:=hb.1;have hA:At F c w w.heap.size [.int .i64 a,.int .i64 b,.int .i64 d] mp q (w.alloc (.cells #[.int .i64 a,.int .i64 b,.int .i64 d] 90)):=⟨(Turn.refl _ _).alloc _,hb.kept (by simp) (Below.heap_alloc _ _ _ hcl),Blk.new _ _ _ _⟩;have hM:MapIs (w.alloc (.cells #[.int .i64 a,.int .i64 b,.int .i64 d] 90)) mp f n:=hm.kept fun k e=>Below.heap_alloc _ _ _ (hm.lt k e);go_enter func343,ntmps343;go_wp2_with fail;refine Ord.wc [5] (At F c w w.heap.size [.int .i64 a,.int .i64 b,.int .i64 d] mp q) (fun j w'=>MapIs w' mp (if j=0 then f else upd f (a,b,d) 0) n) hA.drew hM.drew fun hT9=>?_
 repeat ((first
  | (refine Ord.cv ?_ hT9.o ?_ ?_; rotate_left; (intro w5 hS; have r:=hS.2.1.rule; unfold cv at r; have r2:=hS.2.2.rule; go_simp<;>rfl))
  | (refine Ord.co hT9.o ?_));try simp only [Act.put,zA,zZ,zS])
 refine Ord.ch_turn (v:=.tuple #[]) 0 hT9.o rfl (by decide) (Or.inl rfl) (by rfl) ?_ ?_
 ·intro w5 hA5 hM5;obtain ⟨w6,hrun,hM6,ht⟩:=MapIs.drop hM5 hx 0;simp only [pv] at hrun;simp [execOp,resolve,invoke,builtin,Act.eval,hrun,Result.andThen];refine ⟨rfl,hA5.map ht (fun k hk e=>(hF k).2 (.inr e)) (fun e=>not_map_cells hM5 hA5.2.1 e) (fun e=>not_map_cells hM5 hA5.2.2 e),hM6⟩
 refine Ord.InText.nil fun w5 hS=>?_;clear hT9;obtain ⟨hA9,hM9⟩:=Ord.chain_end hS;clear hS
 go_wp2
 refine bodyPost_ret (results_none rfl _ _ _) rfl ?_;exact ⟨rfl,F,⟨mp,hA9.2.1,hM9,hF⟩,⟨hA9.1,fun k h=>.inl h⟩⟩
def MapOf (F:Nat->Prop) (w:World) (c m:Nat):Prop:=(∀ k,k < w.heap.size->k=m->F k)/\∀ k,(k=c\/some m=some k)->F k\/w.heap.size<=k
theorem MapOf.mk {F:Nat->Prop} {w:World} {c m:Nat} (hc:F c) (hm:F m\/w.heap.size<=m):MapOf F w c m:=by
 refine ⟨fun k hk e=>?_,fun k e=>?_⟩
 ·subst e
  rcases hm with h | h
  ·exact h
  ·omega
 ·rcases e with rfl | e
  ·exact .inl hc
  ·cases e; exact hm
theorem put_word {c n:Nat} {F:Nat->Prop} {f:Plc->Int} {q:Cnt} {w:World} (a b d v:Int) (hx:Wf (a,b,d)) (hv:InU v) (h0:v≠0) (hn:n < maxLen) (hC:IsC w c F f q n) :
  Calls prog 343 #[.pointer (some ⟨c,0,none⟩),.agg #[.int .i64 a,.int .i64 b,.int .i64 d],.int .u64 v] w fun e w'=>e=.returned (.tuple #[])/\∃ F',IsC w' c F' (upd f (a,b,d) v) q (n+1)/\Step F F' w w':=by
 obtain ⟨mp,hb,hm,hF⟩:=hC;have hcl:=hb.1;have hv0:(v==0)=false:=by simpa using h0
 have hq:=fun w=>run_eql_map_nil_sl (P:=prog) w 155 _ _ mp Tryz.underlying155;have hmm:=@run_makeMap prog;have r0:∀ (o1:Obj) i,(w.alloc o1).cell? ⟨c,i,none⟩=(cv mp q)[i]?:=fun o1 i=>(hb.more o1).rule i;have z0:w.frozen? ⟨c,0,none⟩=false:=hb.thaw 0 (by simp [cv]);simp only [cv] at r0;have hE:Hid (∃ m n' W1,At F c w w.heap.size [.int .i64 a,.int .i64 b,.int .i64 d] (some m) q W1/\MapIs W1 (some m) f n'/\n'<=n/\MapOf F w c m /\
   (W1=w.alloc (.cells #[.int .i64 a,.int .i64 b,.int .i64 d] 90)/\mp=some m\/mp=none/\W1=((w.setCell ⟨c,0,none⟩ (.map (some (w.heap.size+1)))).alloc (.cells #[.int .i64 a,.int .i64 b,.int .i64 d] 90)).alloc (.map #[] 0))):=by
  cases mp with
  | none =>
   rcases hm with ⟨_,rfl⟩ | ⟨b',D,e,_⟩
   ·refine ⟨w.heap.size+1,0,_,⟨(((Turn.refl _ _).setCell (fun _=>(hF c).2 (.inl rfl)) _).alloc _).alloc _,(((hb.set (i:=0) (by simp [cv]) (.map (some (w.heap.size+1)))).more _).more _),(Blk.new 0 (w.setCell ⟨c,0,none⟩ (.map (some (w.heap.size+1)))) [.int .i64 a,.int .i64 b,.int .i64 d] 90).at (by simp) |>.more _⟩,?_,Nat.zero_le _,MapOf.mk ((hF c).2 (.inl rfl)) (.inr (by omega)),.inr ⟨rfl,rfl⟩⟩;have:=MapIs.made ((w.setCell ⟨c,0,none⟩ (.map (some (w.heap.size+1)))).alloc (.cells #[.int .i64 a,.int .i64 b,.int .i64 d] 90))
    simpa using this
   ·cases e
  | some m=>exact ⟨m,n,_,⟨(Turn.refl _ _).alloc _,hb.more _,Blk.new _ _ _ _⟩,hm.more _,Nat.le_refl _,MapOf.mk ((hF c).2 (.inl rfl)) (.inl ((hF m).2 (.inr rfl))),.inl ⟨rfl,rfl⟩⟩
 clear hF hm;obtain ⟨m,n',W1,hA,hM,hn',hmm',hW⟩:=hE.out;clear hE
 rcases hW with ⟨rfl,rfl⟩ | ⟨rfl,rfl⟩
 all_goals
  simp only [Option.isNone_none,Option.isNone_some] at hq;go_enter func343,ntmps343;go_wp2_with fail;clear r0 z0 hq hb;refine Ord.wc [6] (At F c w w.heap.size [.int .i64 a,.int .i64 b,.int .i64 d] (some m) q) (fun j w'=>MapIs w' (some m) (if j=0 then f else upd f (a,b,d) v) (n'+j)) hA.drew hM.drew fun hT9=>?_
  repeat ((first
   | (refine Ord.cv ?_ hT9.o ?_ ?_; rotate_left; (intro w5 hS; have r:=hS.2.1.rule; unfold cv at r; have r2:=hS.2.2.rule; go_simp<;>rfl))
   | (refine Ord.co hT9.o ?_));try simp only [Act.put,zA,zZ,zS])
  refine Ord.ch_turn (v:=undef) 0 hT9.o rfl (by decide) (Or.inl rfl) (by rfl) ?_ ?_
  ·intro w5 hA5 hM5;obtain ⟨w6,hrun,hM6,ht⟩:=MapIs.store hM5 (by omega) hx hv h0;simp only [pv] at hrun;simp [execOp,Act.eval,hrun,Result.andThen];refine ⟨rfl,hA5.map ht hmm'.1 (fun e=>not_map_cells hM5 hA5.2.1 (by rw [e])) (fun e=>not_map_cells hM5 hA5.2.2 (by rw [e])),hM6⟩
  refine Ord.InText.nil fun w5 hS=>?_;clear hT9;obtain ⟨hA9,hM9⟩:=Ord.chain_end hS;clear hS
  go_wp2
  go_end0
  refine ⟨rfl,fun k=>k=c\/some m=some k,⟨some m,hA9.2.1,hM9.mono (by simp; omega),fun k=>Iff.rfl⟩,⟨hA9.1,hmm'.2⟩⟩
end
end Go.Proofs.YtffncfmciockmaaGreatDoor
