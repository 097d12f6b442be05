/- What is proved on the way to the statement, part 2: contracts of the functions, among other things in memory. -/
import Derived.Test.YtffncfmciockmaaGreatDoorO1
import Derived.Deep.Light
import Derived.LoopIn
import Derived.OwnWalk
import Derived.WalkKit
import Derived.ProofKit
import Derived.OpenShut
import Derived.Test.YtffncfmciockmaaGreatDoorChecked
import Derived.Defers
import Derived.Recover
import Derived.Test.YtffncfmciockmaaGreatDoorRows
import Derived.WalkSpells
import Derived.Lib.Hide
import Derived.Deep.RegionHeld3

open _root_.Go.Proofs.Tryz
set_option maxRecDepth 100000
set_option maxHeartbeats 25600000
namespace Go.Proofs.YtffncfmciockmaaGreatDoor
section
open Go.RowKit Go.Maps
section
variable {w w':World} {c n:Nat} {F:Nat->Prop} {f:Plc->Int} {q:Cnt}
theorem IsC.at (h:IsC w c F f q n):F c:=by
 obtain ⟨mp,hb,hm,hF⟩:=h;exact (hF c).2 (.inl rfl)
theorem IsC.tick (h:IsC w c F f q n) {i:Nat} {v:Value} {q':Cnt} (hi:0 < i/\i < 6) (hq:∀ mp,(cv mp q).set i v=cv mp q'):IsC (w.setCell ⟨c,i,none⟩ v) c F f q' n:=by
 obtain ⟨mp,hb,hm,hF⟩:=h;refine ⟨mp,hq mp ▸ hb.set (by simp [cv]; omega) v,hm.kept fun b e=>Below.heap_setCell _ _ _ _ fun e'=>not_map_cells hm hb (by rw [e]; exact congrArg some e'),hF⟩
theorem cell_more {vs:List Value} (hc:c < w.heap.size) (h:∀ i,w.cell? ⟨c,i,none⟩=vs[i]?) (o:Obj):∀ i,(w.alloc o).cell? ⟨c,i,none⟩=vs[i]?:=fun i=>by rw [World.cell?_of_block (w:=w) (Below.heap_alloc w o c hc)]; exact h i
end
theorem put_any {c n:Nat} {F:Nat->Prop} {f:Plc->Int} {q:Cnt} {w:World} (a b d v:Int) (hx:Wf (a,b,d)) (hv:InU v) (hn:n < maxLen) (hC:IsC w c F f q n) :
  Calls prog 343 #[.pointer (some ⟨c,0,none⟩),.agg #[.int .i64 a,.int .i64 b,.int .i64 d],.int .u64 v] w fun e w'=>e=.returned (.tuple #[])/\∃ F',IsC w' c F' (upd f (a,b,d) v) q (n+1)/\Step F F' w w':=by
 by_cases h0:v=0
 ·subst h0;exact (put_zero a b d hx hC).mono fun e w' ⟨h1,F',h2,h3⟩=>⟨h1,F',h2.mono (Nat.le_succ _),h3⟩
 ·exact put_word a b d v hx hv h0 hn hC
theorem new_any (w:World):Calls prog 52 #[] w fun e w'=>e=.returned (.pointer (some ⟨w.heap.size,0,none⟩))/\IsC w' w.heap.size (fun k=>k=w.heap.size) (fun _=>0) ⟨0,0,0,0,0⟩ 0/\Below w.heap.size w w':=by
 go_enter func52,ntmps52
 go_wp2
 go_ret;exact ⟨rfl,⟨none,Blk.new 0 w (cv none ⟨0,0,0,0,0⟩) 157,.inl ⟨rfl,rfl⟩,fun k=>by simp⟩,(Below.refl _ _).alloc (Nat.le_refl _) _⟩
theorem ticked {w:World} {c n:Nat} {F:Nat->Prop} {f:Plc->Int} {q q1:Cnt} {mp:Option Nat} (hb:Blk 0 w c (cv mp q)) (hm:MapIs w mp f n) (hF:F c) {i:Nat} {v:Value} (hi:i < 6) (hq:(cv mp q).set i v=cv mp q1) (vs:List Value) (t:TypeId) :
  At F c w w.heap.size vs mp q1 ((w.setCell ⟨c,i,none⟩ v).alloc (.cells vs.toArray t))/\MapIs ((w.setCell ⟨c,i,none⟩ v).alloc (.cells vs.toArray t)) mp f n :=
 ⟨⟨((Turn.refl _ _).setCell (fun _=>hF) _).alloc _,hq ▸ (hb.set hi v).more _,(Blk.new 0 (w.setCell ⟨c,i,none⟩ v) vs t).at (by simp)⟩,
   (hm.kept fun b e=>Below.heap_setCell _ _ _ _ fun e'=>not_map_cells hm hb (by rw [e]; exact congrArg some e')).more _⟩
theorem IsC.of {w w0:World} {c n B:Nat} {F:Nat->Prop} {f:Plc->Int} {q:Cnt} {mp:Option Nat} {bv:List Value} (h:At F c w0 B bv mp q w) (hm:MapIs w mp f n) (hF:∀ k,F k ↔ (k=c\/mp=some k)):IsC w c F f q n:=⟨mp,h.2.1,hm,hF⟩
theorem load_any {c n:Nat} {F:Nat->Prop} {f:Plc->Int} {q:Cnt} {w:World} (a b d:Int) (hx:Wf (a,b,d)) (hC:IsC w c F f q n) :
  Calls prog 340 #[.pointer (some ⟨c,0,none⟩),.agg #[.int .i64 a,.int .i64 b,.int .i64 d]] w fun e w'=>e=.returned (.int .u64 (f (a,b,d)))/\IsC w' c F f { q with l:=wrap64 (q.l+1) } n/\Step F F w w':=by
 have hFc:=hC.at
 obtain ⟨mp,hb,hm,hF⟩:=hC;have r0:=hb.rule;have hcl:=hb.1;have r1:=cell_more hcl r0;have z1:=hb.thaw 1 (by simp [cv]);have hS0:=ticked hb hm hFc (i:=1) (v:=.int .i64 (wrap64 (q.l+1))) (q1:={ q with l:=wrap64 (q.l+1) }) (by omega) rfl [.int .i64 a,.int .i64 b,.int .i64 d] 90;unfold cv at r0 r1;go_enter func340,ntmps340;go_wp2_with fail;generalize (w.setCell ⟨c,1,none⟩ (.int .i64 (wrap64 (q.l+1)))).alloc _=w1 at *;clear r0 r1 z1;refine Ord.wc [] (fun w'=>At F c w w.heap.size [.int .i64 a,.int .i64 b,.int .i64 d] mp { q with l:=wrap64 (q.l+1) } w'/\MapIs w' mp f n) (fun _ _=>True) ⟨hS0.1.drew,hS0.2.drew⟩ trivial fun hT9=>?_
 repeat ((first
  | (refine Ord.cv ?_ hT9.o ?_ ?_; rotate_left; (intro w5 hS; have r:=hS.1.2.1.rule; unfold cv at r; have r2:=hS.1.2.2.rule; have hl:=hS.2.look hx; simp only [pv] at hl; go_simp<;>rfl))
  | (refine Ord.co hT9.o ?_));try simp only [Act.put,zA,zZ,zS])
 refine Ord.InText.nil fun w5 hS=>?_;clear hT9;obtain ⟨hA9,hM9⟩:=Ord.chain_end hS;clear hS
 go_wp2
 go_ret;exact ⟨rfl,.of hA9.1 hA9.2 hF,⟨hA9.1.1,fun k h=>.inl h⟩⟩
theorem store_any {c n:Nat} {F:Nat->Prop} {f:Plc->Int} {q:Cnt} {w:World} (a b d v:Int) (hx:Wf (a,b,d)) (hv:InU v) (hn:n < maxLen) (hC:IsC w c F f q n) :
  Calls prog 341 #[.pointer (some ⟨c,0,none⟩),.agg #[.int .i64 a,.int .i64 b,.int .i64 d],.int .u64 v] w fun e w'=>e=.returned (.tuple #[])/\∃ F',IsC w' c F' (upd f (a,b,d) v) { q with s:=wrap64 (q.s+1) } (n+1)/\Step F F' w w':=by
 have hFc:=hC.at
 obtain ⟨mp,hb,hm,hF⟩:=hC;have r0:=hb.rule;have hcl:=hb.1;have r1:=cell_more hcl r0;have z1:=hb.thaw 2 (by simp [cv]);have hS0:=ticked hb hm hFc (i:=2) (v:=.int .i64 (wrap64 (q.s+1))) (q1:={ q with s:=wrap64 (q.s+1) }) (by omega) rfl [.int .i64 a,.int .i64 b,.int .i64 d] 90;unfold cv at r0 r1;go_enter func341,ntmps341;go_wp2_with fail;generalize (w.setCell ⟨c,2,none⟩ (.int .i64 (wrap64 (q.s+1)))).alloc _=w1 at *;clear r0 r1 z1;refine (put_any a b d v hx hv hn (.of hS0.1 hS0.2 hF)).mono ?_;rintro e w2 ⟨rfl,F',hC2,hs2⟩
 go_wp2
 go_end0
 exact ⟨rfl,F',hC2,(Step.mk hS0.1.1 fun k h=>.inl h).trans hs2⟩
theorem add_any {c n:Nat} {F:Nat->Prop} {f:Plc->Int} {q:Cnt} {w:World} (a b d v:Int) (hx:Wf (a,b,d)) (hn:n < maxLen) (hC:IsC w c F f q n) :
  Calls prog 339 #[.pointer (some ⟨c,0,none⟩),.agg #[.int .i64 a,.int .i64 b,.int .i64 d],.int .u64 v] w fun e w'=>e=.returned (.int .u64 (f (a,b,d)))/\∃ F',IsC w' c F' (upd f (a,b,d) (IntKind.u64.wrap (f (a,b,d)+v))) { q with a:=wrap64 (q.a+1) } (n+1)/\Step F F' w w':=by
 have hFc:=hC.at
 obtain ⟨mp,hb,hm,hF⟩:=hC;have r0:=hb.rule;have hcl:=hb.1;have r1:=cell_more hcl r0;have z1:=hb.thaw 5 (by simp [cv]);have hS0:=ticked hb hm hFc (i:=5) (v:=.int .i64 (wrap64 (q.a+1))) (q1:={ q with a:=wrap64 (q.a+1) }) (by omega) rfl [.int .i64 a,.int .i64 b,.int .i64 d] 90;unfold cv at r0 r1;go_enter func339,ntmps339;go_wp2_with fail;generalize (w.setCell ⟨c,5,none⟩ (.int .i64 (wrap64 (q.a+1)))).alloc _=w1 at *;clear r0 r1 z1;refine Ord.wc [] (fun w'=>At F c w w.heap.size [.int .i64 a,.int .i64 b,.int .i64 d] mp { q with a:=wrap64 (q.a+1) } w'/\MapIs w' mp f n) (fun _ _=>True) ⟨hS0.1.drew,hS0.2.drew⟩ trivial fun hT9=>?_
 repeat ((first
  | (refine Ord.cv ?_ hT9.o ?_ ?_; rotate_left; (intro w5 hS; have r:=hS.1.2.1.rule; unfold cv at r; have r2:=hS.1.2.2.rule; have hl:=hS.2.look hx; simp only [pv] at hl; go_simp<;>rfl))
  | (refine Ord.co hT9.o ?_));try simp only [Act.put,zA,zZ,zS])
 refine Ord.InText.nil fun w5 hS=>?_;clear hT9;obtain ⟨hA9,hM9⟩:=Ord.chain_end hS;clear hS;have r2:=hA9.1.2.2.rule;have HX:=zH hx;have hu:InU (IntKind.u64.wrap (f (a,b,d)+v)):=by rw [IntKind.wrap_u64]; unfold InU; omega
 clear hx;go_wp2_with fail;refine (put_any a b d (IntKind.u64.wrap (f (a,b,d)+v)) HX.out hu hn (.of hA9.1 hA9.2 hF)).mono ?_;rintro e w2 ⟨rfl,F',hC2,hs2⟩;clear r2
 go_wp2
 go_ret;exact ⟨rfl,F',hC2,(Step.mk hA9.1.1 fun k h=>.inl h).trans hs2⟩
end
section
def Ring (r:List Trip) (N g:Nat) (l:List Trip):Prop:=r.length=N/\l.length<=N/\∀ i,i < l.length->r.getD ((g+i) % N) t0=l.getD i t0
theorem mod_apart {N a i j:Nat} (h:i < j) (hj:j < N):(a+i) % N≠(a+j) % N:=fun e=>by
 have h1:((a+i)+(j - i)) % N=(a+i) % N:=by rw [show a+i+(j - i)=a+j by omega,e]
 have h2:((a+i) % N+(j - i)) % N=(a+i) % N:=by rw [Nat.mod_add_mod]; exact h1
 have h3:=Nat.mod_lt (a+i) (show 0 < N by omega)
 by_cases h4:(a+i) % N+(j - i) < N
 ·rw [Nat.mod_eq_of_lt h4] at h2; omega
 ·rw [Nat.mod_eq_sub_mod (by omega),Nat.mod_eq_of_lt (by omega)] at h2; omega
theorem Ring.start (N g:Nat):Ring (List.replicate N t0) N g []:=⟨by simp,by simp,fun i h=>by simp at h⟩
theorem Ring.push {r l:List Trip} {N g:Nat} (h:Ring r N g l) (hl:l.length < N) (x:Trip):Ring (r.set ((g+l.length) % N) x) N g (l++[x]):=by
 obtain ⟨h1,h2,h3⟩:=h;have hp:(g+l.length) % N < N:=Nat.mod_lt _ (by omega);refine ⟨by simpa using h1,by simp; omega,fun i hi=>?_⟩;simp at hi;have hpi:(g+i) % N < N:=Nat.mod_lt _ (by omega)
 by_cases e:i=l.length
 ·subst e;simp [h1,hp]
 ·have hne:(g+l.length) % N≠(g+i) % N:=fun e'=>mod_apart (N:=N) (a:=g) (show i < l.length by omega) hl e'.symm;have:=h3 i (by omega);simp only [List.getD_eq_getElem?_getD,List.getElem?_set,if_neg hne] at this ⊢;rw [this,List.getElem?_append_left (by omega)]
theorem Ring.pop {r l:List Trip} {N g:Nat} {x:Trip} (h:Ring r N g (x::l)):r.getD (g % N) t0=x/\Ring r N (g+1) l:=by
 obtain ⟨h1,h2,h3⟩:=h;refine ⟨by simpa using h3 0 (by simp),h1,by simp at h2; omega,fun i hi=>?_⟩;have:=h3 (i+1) (by simp; omega);rw [show g+1+i=g+(i+1) by omega,this];simp
theorem Ring.at {r l:List Trip} {N g:Nat} (h:Ring r N g l) (i:Nat) (hi:i < l.length):r.getD ((g+i) % N) t0=l.getD i t0:=h.2.2 i hi
def Rm (k n k':Nat):Prop:=k<=k'/\n<=2 ^ k'/\(k'=k\/2 ^ k' < 2 * n)
theorem pow_up {a b:Nat} (h:a < b):2 * 2 ^ a<=2 ^ b:=by
 have:=Nat.pow_le_pow_right (n:=2) (by omega) (show a+1<=b by omega);rw [Nat.pow_succ] at this; omega
theorem Rm.unique {k n a b:Nat} (h:Rm k n a) (h':Rm k n b):a=b:=by
 obtain ⟨h1,h2,h3⟩:=h;obtain ⟨g1,g2,g3⟩:=h'
 rcases Nat.lt_trichotomy a b with h | h | h
 ·have:=pow_up h; omega
 ·exact h
 ·have:=pow_up h; omega
theorem Rm.same {k n:Nat} (h:n<=2 ^ k):Rm k n k:=⟨Nat.le_refl _,h,.inl rfl⟩
theorem Rm.le {k n k':Nat} (h:Rm k n k') (hk:k<=20) (hn:n<=1048576):k'<=20:=by
 obtain ⟨h1,h2,h3⟩:=h
 rcases h3 with rfl | h3
 ·exact hk
 ·apply Classical.byContradiction;intro hc;have:=Nat.pow_le_pow_right (n:=2) (by omega) (show 21<=k' by omega);simp at this;omega
theorem pow_small {k:Nat} (h:k<=20):2 ^ k<=1048576:=Nat.pow_le_pow_right (n:=2) (by omega) h
theorem pow_four {k:Nat} (h:2<=k):4<=2 ^ k:=Nat.pow_le_pow_right (n:=2) (by omega) h
theorem mod_round {k:Nat} (hk:k<=64) (a:Nat):a % 18446744073709551616 % 2 ^ k=a % 2 ^ k :=
 Nat.mod_mod_of_dvd a (by have:=Nat.pow_dvd_pow 2 hk; simpa using this)
theorem and_mask {k:Nat} (hk:k<=20) (c:Nat) (hc:c < 18446744073709551616):bits .and .u64 (c:Int) (((2 ^ k:Nat):Int) - 1)=((c % 2 ^ k:Nat):Int):=by
 have h1:=Nat.one_le_two_pow (n:=k);have h2:=pow_small hk;rw [show ((2 ^ k:Nat):Int) - 1=((2 ^ k - 1:Nat):Int) by omega,u64_and_nat _ _ hc (by omega),Nat.and_two_pow_sub_one_eq_mod]
end
section
open Go.RowKit Go.Maps
def cnt (c:Nat):Int:=((c % 18446744073709551616:Nat):Int)
def qv (R N g n:Nat):List Value:=[.slice (some ⟨R,0,none⟩) N N,.int .u64 (cnt g),.int .u64 (cnt (g+n))]
def IsQ (w:World) (q:Nat) (F:Nat->Prop) (l:List Trip) (k:Nat):Prop :=
 ∃ R g r,Blk 0 w q (qv R (2 ^ k) g l.length)/\Blk 0 w R (flat3 r)/\Ring r (2 ^ k) g l/\2<=k/\k<=20/\q≠R/\∀ j,F j ↔ (j=q\/j=R)
theorem IsQ.lt {w:World} {q k:Nat} {F:Nat->Prop} {l:List Trip} (h:IsQ w q F l k):∀ j,F j->j < w.heap.size:=by
 obtain ⟨R,g,r,h1,h2,_,_,_,_,hF⟩:=h;intro j hj
 rcases (hF j).1 hj with rfl | rfl
 ·exact h1.1
 ·exact h2.1
theorem IsQ.kept {w w':World} {q k:Nat} {F:Nat->Prop} {l:List Trip} (h:IsQ w q F l k) (hk:∀ j,F j->w'.heap[j]?=w.heap[j]?) (hs:w.heap.size<=w'.heap.size):IsQ w' q F l k:=by
 obtain ⟨R,g,r,h1,h2,h3,h4,h5,h6,hF⟩:=h;exact ⟨R,g,r,h1.kept hs (hk q ((hF q).2 (.inl rfl))),h2.kept hs (hk R ((hF R).2 (.inr rfl))),h3,h4,h5,h6,hF⟩
theorem IsQ.below {w w':World} {q k:Nat} {F:Nat->Prop} {l:List Trip} (h:IsQ w q F l k) (hb:Below w.heap.size w w'):IsQ w' q F l k :=
 h.kept (fun j hj=>hb.block j (h.lt j hj)) hb.size
theorem IsQ.len {w:World} {q k:Nat} {F:Nat->Prop} {l:List Trip} (h:IsQ w q F l k):l.length<=2 ^ k/\l.length<=1048576/\2<=k/\k<=20:=by
 obtain ⟨R,g,r,h1,h2,h3,h4,h5,h6,hF⟩:=h;have:=pow_small h5;exact ⟨h3.2.1,by have:=h3.2.1; omega,h4,h5⟩
theorem at_any (R k c:Nat) (w:World) (hk:k<=20) :
  Calls prog 92 #[.slice (some ⟨R,0,none⟩) (2 ^ k) (2 ^ k),.int .u64 (cnt c)] w fun e w'=>e=.returned (.pointer (some ⟨R,(c % 2 ^ k) * 3,none⟩))/\w=w':=by
 have hm:=and_mask hk (c % 18446744073709551616) (Nat.mod_lt _ (by omega));rw [mod_round (by omega)] at hm;unfold cnt;have h1:=Nat.one_le_two_pow (n:=k);have h2:=pow_small hk;have hlt:c % 2 ^ k < 2 ^ k:=Nat.mod_lt _ (by omega);generalize 2 ^ k=N at *;have hw1:wrap64 ((N:Int) - 1)=(N:Int) - 1:=w64 _ (by omega);have hw2:IntKind.u64.wrap ((N:Int) - 1)=(N:Int) - 1:=by rw [IntKind.wrap_u64]; omega
 generalize c % N=p at *;generalize ((c % 18446744073709551616:Nat):Int)=c' at *;go_enter func92,ntmps92;go_wp2_with fail;go_ret;exact ⟨rfl,rfl⟩
theorem round_len (g n:Nat) (hn:n<=1048576):wrap64 (IntKind.u64.wrap ((cnt (g+n)) - (cnt g)))=n:=by
 unfold cnt; rw [IntKind.wrap_u64]; unfold wrap64; omega
theorem len_any {w:World} {q k:Nat} {F:Nat->Prop} {l:List Trip} (hQ:IsQ w q F l k) :
  Calls prog 91 #[.pointer (some ⟨q,0,none⟩)] w fun e w'=>e=.returned (.int .i64 l.length)/\Below w.heap.size w w':=by
 obtain ⟨hl1,hl2,hk2,hk⟩:=hQ.len;obtain ⟨R,g,r,hq,hr,hring,_,_,hne,hF⟩:=hQ;have hn:=round_len g l.length hl2;clear hr hring hF;unfold qv at hq;generalize (cnt g)=G at *;generalize (cnt (g+l.length))=C at *;generalize 2 ^ k=N at *;have hE:Below w.heap.size w w:=Below.refl _ _;go_enter func91,ntmps91;go_wp2_with fail;refine Ord.wc [] (fun w'=>Blk 0 w' q [.slice (some ⟨R,0,none⟩) N N,.int .u64 G,.int .u64 C]) (fun _ w'=>Below w.heap.size w w') hq.drew hE.drew fun hT9=>?_
 repeat ((first
  | (refine Ord.cv ?_ hT9.o ?_ ?_; rotate_left; (intro w5 hS; have r:=Blk.rule hS; go_simp<;>rfl))
  | (refine Ord.co hT9.o ?_));try simp only [Act.put,zA,zZ,zS])
 refine Ord.InText.nil fun w5 hS=>?_;clear hT9;obtain ⟨hq5,hE5⟩:=Ord.chain_end hS;clear hS
 go_wp2
 go_ret;exact ⟨ret_int ((wrap_i _).trans hn),hE5⟩
theorem below_set {n B i:Nat} {a b:World} (h:Below n a b) (hs:n<=b.heap.size) (hB:n<=B) (u:Value):Below n a (b.setCell ⟨B,i,none⟩ u) :=
 Turn.below h ((Turn.refl (fun k=>k=B) b).setCell (p:=⟨B,i,none⟩) (fun _=>rfl) u) hs (fun k e=>by subst e; exact hB)
theorem Blk.off {m n B i:Nat} {vs:List Value} {w:World} (h:Blk m w n vs) (hne:n≠B) (u:Value):Blk m (w.setCell ⟨B,i,none⟩ u) n vs:=h.kept (by simp) (Below.heap_setCell _ _ _ _ (by simpa using hne))
theorem Blk.put3 {m B:Nat} {a b c:Value} {w:World} (h:Blk m w B [a,b,c]) (u v t:Value):Blk m (((w.setCell ⟨B,0,none⟩ u).setCell ⟨B,1,none⟩ v).setCell ⟨B,2,none⟩ t) B [u,v,t]:=((h.set (i:=0) (by simp) u).set (i:=1) (by simp) v).set (i:=2) (by simp) t
theorem round_up (g j:Nat):IntKind.u64.wrap ((cnt g)+(j:Int))=(cnt (g+j)):=by
 unfold cnt; rw [IntKind.wrap_u64]; omega
theorem step_set {n B i:Nat} {a b:World} {F:Nat->Prop} (h:Turn F a b) (hB:n=a.heap.size) (hk:n<=B) (u:Value):Turn F a (b.setCell ⟨B,i,none⟩ u) :=
 h.setCell (p:=⟨B,i,none⟩) (fun e=>by subst hB; exact absurd e (Nat.not_lt.2 hk)) u
theorem infoEnt:(prog.info? 114).map (fun i=>(i.zero,i.size,i.bytes))=some (some (tv t0),3,24):=by kernel_rfl
theorem round_apart (g a b:Nat) (h:a<=1048576) (h':b<=1048576):((cnt (g+a)) != (cnt (g+b)))=decide (a≠b):=by
 unfold cnt
 by_cases e:a=b
 ·subst e; simp
 ·have:(g+a) % 18446744073709551616≠(g+b) % 18446744073709551616:=by omega
  have h2:(((g+a) % 18446744073709551616:Nat):Int)≠(((g+b) % 18446744073709551616:Nat):Int):=by omega
  simp only [bne_iff_ne,ne_eq,h2,not_false_iff,e,decide_true]
theorem round_left (g a b:Nat) (h:a<=b) (h':b<=1048576):((cnt (g+b) - cnt (g+a)) % 18446744073709551616).toNat=b - a:=by unfold cnt; omega
theorem grow_any {w:World} {q k n:Nat} {F:Nat->Prop} {l:List Trip} (hn:n<=1048576) (hln:l.length<=n) (hQ:IsQ w q F l k) :
  Calls prog 136 #[.pointer (some ⟨q,0,none⟩),.int .i64 n] w fun e w'=>e=.returned (.tuple #[])/\∃ k' F',Rm k n k'/\IsQ w' q F' l k'/\Step F F' w w':=by
 obtain ⟨hl1,hl2,hk2,hk⟩:=hQ.len;have hQ0:=zH hQ;obtain ⟨R,g,r,hq,hr,hring,_,_,hne,hF⟩:=hQ;have hrl:=hring.1;have h4:=pow_four hk2;have hs:=pow_small hk;have r0:=hq.rule;unfold qv at r0;have HQB:=zH (And.intro hq (And.intro hr (And.intro hring hF)));have hqw:=hq.1;have hRw:=hr.1;clear hq hr hring hF;generalize hN:2 ^ k=N at *;have HN:Hid (N=2 ^ k):=zH hN.symm;clear hN;have HR0:=zH r0;go_enter func136,ntmps136;go_wp2_with fail
 all_goals (try omega)
 go_loopw [4] (fun i wr=>∃ j M:Nat,Hid (M=2 ^ j)/\k<=j/\j<=20/\(j=k\/M < 2 * n)/\i=.int .i64 M/\w=wr) (fun i _=>4194304 - (intOf i).toNat)
 case atStart=>exact ⟨k,N,HN,Nat.le_refl _,hk,.inl rfl,rfl,rfl⟩
 case round =>
  obtain ⟨j,M,HM,hkj,hj20,hjn,rfl,rfl⟩:=hrel;have hM4:4<=M:=by rw [HM.out]; exact pow_four (by omega)
  have hMs:M<=1048576:=by rw [HM.out]; exact pow_small hj20
  by_cases hlt:M < n
  ·go_wp2_with fail;have hM2:M * 2=2 ^ (j+1):=by rw [HM.out,Nat.pow_succ]
   have hj:j+1<=20:=by
    apply Classical.byContradiction;intro hc;have:=Nat.pow_le_pow_right (n:=2) (by omega) (show 21<=j+1 by omega);simp only [<- hM2] at this;simp at this;omega
   exact ⟨⟨j+1,M * 2,zH hM2,by omega,hj,.inr (by omega),by simp⟩,by simp [intOf]; omega⟩
  ·by_cases hjk:j=k
   ·have hMN:M=N:=by rw [HM.out,HN.out,hjk]
    subst hMN;go_wp2_with fail;refine bodyPost_ret (results_none rfl _ _ _) rfl ?_;exact ⟨rfl,k,F,⟨Nat.le_refl _,by rw [<- HN.out]; omega,.inl rfl⟩,hQ0.out,Step.refl _ _⟩
   ·have hNM:2 * N<=M:=by rw [HM.out,HN.out]; exact pow_up (by omega)
    have hMN:M≠N:=by omega
    have hMb:((M:Int)==(N:Int))=false:=by rw [beq_eq_false_iff_ne]; omega
    clear hQ0;go_wp2_with (refine wpList_make3 _ rfl _ _ 105 rfl 114 Tryz.underlying105 infoEnt .i64 .i64 _ _ M rfl rfl rfl rfl (by omega) ?_);have hB0:=Blk.new 0 w (flat3 (List.replicate M t0)) 114;have hE0:=(Below.refl w.heap.size w).alloc (Nat.le_refl _) (.cells (flat3 (List.replicate M t0)).toArray 114);have HJ:=zH hjn;clear HR0 hjn;generalize hb1:w.heap.size=b at *;have HB1:=zH hb1;clear hb1;generalize w.alloc (.cells (flat3 (List.replicate M t0)).toArray 114)=w2 at *
    go_loopw [6] (fun c v=>∃ m:Nat,m<=l.length/\c=.int .u64 (cnt (g+m))/\Below b w v/\∃ r',Ring r' M g (l.take m)/\Blk 0 v b (flat3 r')) (fun c _=>((cnt (g+l.length) - intOf c) % 18446744073709551616).toNat)
    case atStart=>exact ⟨0,Nat.zero_le _,rfl,hE0,_,Ring.start M g,hB0⟩
    case round =>
     obtain ⟨m,hml,rfl,hB,r',hring,hb5⟩:=hrel;clear hB0 hE0;have hqb:q < b/\R < b:=by rw [<- HB1.out]; exact ⟨HQB.out.1.1,HQB.out.2.1.1⟩
     have hbs:b<=wr.heap.size:=by rw [<- HB1.out]; exact hB.size
     have hq5:Blk 0 wr q _:=HQB.out.1.kept (by rw [HB1.out]; exact hbs) (hB.block _ hqb.1);have hr5:Blk 0 wr R _:=HQB.out.2.1.kept (by rw [HB1.out]; exact hbs) (hB.block _ hqb.2);have rq:=hq5.rule;unfold qv at rq;have hap:=round_apart g m l.length (by omega) (by omega)
     by_cases hlt2:m < l.length
     ·rw [decide_eq_true (by omega)] at hap;have hlen:(l.take m).length=m:=by simp; omega
      have hpush:=hring.push (by rw [hlen]; omega) (l.getD m t0);rw [hlen] at hpush;have htk:l.take m++[l.getD m t0]=l.take (m+1):=by
       rw [List.take_succ_eq_append_getElem hlt2,show l.getD m t0=l[m] by simp [hlt2]]
      rw [htk] at hpush;have hrl5:=hring.1;have hp1:(g+m) % M < M:=Nat.mod_lt _ (by omega);have hp2:(g+m) % N < N:=Nat.mod_lt _ (by omega);have HA1:=zH fun w'=>at_any b j (g+m) w' hj20;have HA2:=zH fun w'=>at_any R k (g+m) w' hk;rw [<- HM.out] at HA1;rw [<- HN.out] at HA2;have hat:=HQB.out.2.2.1.at m hlt2;have hcell:∀ w',Blk 0 w' R (flat3 r)->w'.cell? ⟨R,(g+m) % N * 3,none⟩=some (.int .i64 (l.getD m t0).1)/\w'.cell? ⟨R,(g+m) % N * 3+1,none⟩=some (.int .i64 (l.getD m t0).2.1)/\w'.cell? ⟨R,(g+m) % N * 3+2,none⟩=some (.int .i64 (l.getD m t0).2.2):=fun w' h=>by
       have e:=fun c hc=>(h.rule ((g+m) % N * 3+c)).trans (flat3_get r ((g+m) % N) c (by omega) hc);rw [hat] at e;exact ⟨e 0 (by omega),e 1 (by omega),e 2 (by omega)⟩
      clear hat hlen htk hring;generalize l.getD m t0=xx at *;obtain ⟨x,y,z⟩:=xx;simp only at hcell;have HC:=zH hcell;have HP:=zH hpush;have HL:=zH (round_left g m l.length (by omega) hl2);have HL1:=zH (round_left g (m+1) l.length (by omega) hl2);have hup:=round_up g m;have hup1:=round_up (g+m) 1;simp only [Int.natCast_one] at hup1;clear hcell hpush;generalize (g+m) % M=p1 at *;generalize (g+m) % N=p2 at *;unfold qv at hq5;generalize cnt g=G at *;generalize hcm:cnt (g+m)=CM at *;generalize hcl:cnt (g+l.length)=CL at *;generalize hcm1:cnt (g+m+1)=CM1 at *;have HCM1:=zH hcm1;clear hcm hcl hcm1 hup;go_wp2_with fail;refine Ord.wc [12] (fun w'=>Blk 0 w' q [.slice (some ⟨R,0,none⟩) N N,.int .u64 G,.int .u64 CL]/\Blk 0 w' R (flat3 r)) (fun i w'=>b<=w'.heap.size/\Below b w w'/\Blk 0 w' b (flat3 (if i=0 then r' else r'.set p1 (x,y,z)))) ⟨hq5.drew,hr5.drew⟩ ⟨hbs,hB.drew,hb5.drew⟩ fun hT9=>?_
      repeat ((first
       | (refine Ord.cv ?_ hT9.o ?_ ?_; rotate_left; (intro w5 hS; have r:=Blk.rule hS.1; obtain ⟨c0,c1,c2⟩:=HC.out _ hS.2; go_simp<;>rfl))
       | (refine Ord.co hT9.o ?_)
       | (refine Ord.cc ?_ ?_ ?_ hT9.o ?_ ?_ ?_; rotate_left 3; (intro w5 hS; have r:=Blk.rule hS.1; obtain ⟨c0,c1,c2⟩:=HC.out _ hS.2; go_simp; constructor<;>rfl); (intro w5 hS; (first | (with_reducible refine (HA1.out w5).mono ?_; rintro e w6 ⟨rfl,rfl⟩; constructor; rfl; exact ⟨hS,fun _ h=>h⟩) | (with_reducible refine (HA2.out w5).mono ?_; rintro e w6 ⟨rfl,rfl⟩; constructor; rfl; exact ⟨hS,fun _ h=>h⟩)))));try simp only [Act.put,zA,zZ,zS])
      refine Ord.ch_turn (v:=undef) 0 hT9.o rfl (by decide) (Or.inl rfl) (by rfl) ?_ ?_
      ·rintro w5 hS ⟨hA0,hA1,hA2⟩;simp only [if_true] at hA2;have hcells:=fun c hc=>(hA2.rule (p1 * 3+c)).trans (flat3_get _ p1 c (by omega) hc);have r0:=hcells 0 (by omega);have r1:=hcells 1 (by omega);have r2:=hcells 2 (by omega);simp only [Nat.add_zero,enc3,List.getElem?_cons_zero,List.getElem?_cons_succ] at r0 r1 r2;have hfl:=flat3_length r';have f0:=hA2.thaw (p1 * 3) (by omega);have f1:=hA2.thaw (p1 * 3+1) (by omega);have f2:=hA2.thaw (p1 * 3+2) (by omega);clear hcells;go_simp;refine ⟨rfl,⟨((hS.1.off (by omega) _).off (by omega) _).off (by omega) _,((hS.2.off (by omega) _).off (by omega) _).off (by omega) _⟩,by simpa using hA0,?_,?_⟩
       ·exact below_set (below_set (below_set hA1 hA0 (Nat.le_refl _) _) (by simp; omega) (Nat.le_refl _) _) (by simp; omega) (Nat.le_refl _) _
       ·exact Blk.set3 hA2 (by omega) (x,y,z)
      try simp only [Act.put,zA,zZ,zS]
      repeat ((first
       | (refine Ord.cv ?_ hT9.o ?_ ?_; rotate_left; (intro w5 hS; skip; go_simp<;>rfl))
       | (refine Ord.co hT9.o ?_));try simp only [Act.put,zA,zZ,zS])
      refine Ord.InText.nil fun w5 hS=>?_;clear hT9;obtain ⟨hC9,hA9⟩:=Ord.chain_end hS;clear hS;obtain ⟨hA0,hA1,hA2⟩:=hA9;rw [if_neg (by decide)] at hA2;go_wp2_with fail;refine ⟨⟨m+1,by omega,by rw [<- HCM1.out]; rfl,hA1,_,HP.out,hA2⟩,?_⟩;show ((CL - CM1) % 18446744073709551616).toNat < ((CL - CM) % 18446744073709551616).toNat;rw [HL.out,HL1.out];omega
     ·have hml':m=l.length:=by omega
      subst hml';rw [decide_eq_false (by omega)] at hap;rw [List.take_length] at hring;have f0:=hq5.thaw 0 (by simp [qv]);go_wp2_with fail
      go_end0
      have hset:(qv R N g l.length).set 0 (.slice (some ⟨b,0,none⟩) M M)=qv b M g l.length:=rfl;have hq9:=hq5.set (i:=0) (by simp [qv]) (.slice (some ⟨b,0,none⟩) M M);rw [hset] at hq9;have hb9:=hb5.off (B:=q) (i:=0) (by omega) (.slice (some ⟨b,0,none⟩) M M);refine ⟨rfl,j,fun x=>x=q\/x=b,⟨hkj,by rw [<- HM.out]; omega,.inr (by rw [<- HM.out]; rcases HJ.out with h | h; exact absurd h hjk; exact h)⟩,⟨b,g,r',by rw [<- HM.out]; exact hq9,hb9,by rw [<- HM.out]; exact hring,by omega,hj20,by omega,fun x=>Iff.rfl⟩,?_,?_⟩
      ·have hB':Below w.heap.size w wr:=by rw [HB1.out]; exact hB
       exact (Turn.of_below hB':Turn F w wr).setCell (p:=⟨q,0,none⟩) (fun _=>(HQB.out.2.2.2 q).2 (.inl rfl)) _
      ·rintro x (rfl | rfl)
       ·exact .inl ((HQB.out.2.2.2 x).2 (.inl rfl))
       ·exact .inr (by rw [HB1.out]; exact Nat.le_refl _)
theorem push_any {w:World} {q k cap:Nat} {F:Nat->Prop} {l xs:List Trip} {A:Option Addr} (hn:l.length+xs.length<=1048576) (hA:Row3 w A xs) (hoff:xs≠[]->∀ b,In3 A b->¬ F b) (hQ:IsQ w q F l k) :
  Calls prog 102 #[.pointer (some ⟨q,0,none⟩),.slice A xs.length cap] w fun e w'=>e=.returned (.int .i64 0)/\∃ k' F',Rm k (l.length+xs.length) k'/\IsQ w' q F' (l++xs) k'/\Step F F' w w':=by
 have hsum:wrap64 ((l.length:Int)+(xs.length:Int))=((l.length+xs.length:Nat):Int):=by rw [w64 _ (by omega)]; omega
 go_enter func102,ntmps102;go_wp2_with fail;refine (len_any hQ).mono ?_;rintro e w1 ⟨rfl,hb⟩;have hlt1:=hQ.lt;have hQ1:=hQ.below hb;have hkle:=hQ.len.2.2.2;have HA:=zH (And.intro hA (And.intro hoff (And.intro hb hlt1)));have HSUM:=zH hsum;clear hQ hA hoff hb hlt1 hsum;go_wp2_with fail;have HS1:Hid (IntKind.i64.wrap ((l.length:Int)+(xs.length:Int))=((l.length+xs.length:Nat):Int)):=zH (by rw [wrap_i]; exact HSUM.out)
 try rw [HS1.out]
 try rw [HSUM.out]
 refine (grow_any hn (by omega) hQ1).mono ?_;rintro e w2 ⟨rfl,k',F1,hRm,hQ2,hs2⟩;clear hQ1;have hk20:=hRm.le hkle hn;have hN:=hRm.2.1;have HRM:=zH hRm;clear hRm;have hst:Step F F1 w w2:=(Step.of_below F HA.out.2.2.1).trans hs2;clear hs2;go_wp2_with fail
 go_loopw [6,18] (fun _ i v=>∃ j:Nat,j<=xs.length/\i=.int .i64 j/\IsQ v q F1 (l++xs.take j) k'/\Step F F1 w v) (fun _ i _=>xs.length - (intOf i).toNat)
 case atStart=>exact ⟨0,Nat.zero_le _,rfl,by simpa using hQ2,hst⟩
 case round =>
  clear hQ2 hst;obtain ⟨j,hj,rfl,hQ5,hst5⟩:=hrel
  by_cases hlt:j < xs.length
  ·have hrow:Row3 wr A xs:=HA.out.1.kept (fun b hb=>hst5.turn.block b (by
    rcases HA.out.1 with h0 | ⟨b',off,he,hl',hc⟩
    ·rw [h0] at hlt; simp at hlt
    ·obtain ⟨o,ho⟩:=hb;rw [he] at ho;cases ho;exact hl') (HA.out.2.1 (by rintro rfl; simp at hlt) b hb)) hst5.turn.size
   rcases hrow with h0 | ⟨b,off,rfl,hbl,hc⟩
   ·rw [h0] at hlt; simp at hlt
   have hc:=hc j hlt;have hlen:(l++xs.take j).length=l.length+j:=by simp; omega
   obtain ⟨R,g,r,hq,hr,hring,hk2,_,hne,hF⟩:=hQ5;have hpush:=hring.push (by rw [hlen]; omega) (xs.getD j t0);rw [hlen] at hq hpush;have htk:l++xs.take j++[xs.getD j t0]=l++xs.take (j+1):=by
    rw [List.take_succ_eq_append_getElem hlt,show xs.getD j t0=xs[j] by simp [hlt],List.append_assoc]
   rw [htk] at hpush;have hrl:=hring.1;have hp1:(g+(l.length+j)) % 2 ^ k' < 2 ^ k':=Nat.mod_lt _ (by have:=pow_four hk2; omega);have HA1:=zH fun w'=>at_any R k' (g+(l.length+j)) w' hk20;have hup1:=round_up (g+(l.length+j)) 1;simp only [Int.natCast_one] at hup1;have HF:=zH (And.intro hF (And.intro hk2 hne));have hqF:F1 q:=(hF q).2 (.inl rfl);have hRF:F1 R:=(hF R).2 (.inr rfl);clear hring htk hlen hF hk2;rw [t0_default] at hc;generalize xs.getD j t0=xx at *;obtain ⟨x,y,z⟩:=xx;obtain ⟨c0,c1,c2⟩:=at3 hc;clear hc;have hset:(qv R (2 ^ k') g (l.length+j)).set 2 (.int .u64 (cnt (g+(l.length+j)+1)))=qv R (2 ^ k') g (l.length+(j+1)):=rfl;have HSET:=zH hset;have HP:=zH hpush;clear hset hpush;have hql:=hq.1;have hRl:=hr.1;generalize (g+(l.length+j)) % 2 ^ k'=p at *;have HQ:=zH hq;have rq:=hq.rule;unfold qv at hq rq;have hq1:=hq.more (.cells [.int .i64 x,.int .i64 y,.int .i64 z].toArray 114);have hr1:=hr.more (.cells [.int .i64 x,.int .i64 y,.int .i64 z].toArray 114);have hB1:=Blk.new 0 wr [.int .i64 x,.int .i64 y,.int .i64 z] 114;have ht1:Turn F1 wr (wr.alloc (.cells [.int .i64 x,.int .i64 y,.int .i64 z].toArray 114)):=(Turn.refl F1 wr).alloc _;clear hq hr;generalize hg:cnt g=G at *;have HG:=zH hg;clear hg;generalize cnt (g+(l.length+j))=CN at *;generalize hcn1:cnt (g+(l.length+j)+1)=CN1 at *;have HCN1:=zH hcn1;clear hcn1;generalize hNN:2 ^ k'=N at *;have HNN:=zH hNN;clear hNN;go_wp2_with fail;refine Ord.wc [11] (fun w'=>Blk 0 w' q [.slice (some ⟨R,0,none⟩) N N,.int .u64 G,.int .u64 CN]/\Blk 0 w' wr.heap.size [.int .i64 x,.int .i64 y,.int .i64 z]) (fun i w'=>Turn F1 wr w'/\Blk 0 w' R (flat3 (if i=0 then r else r.set p (x,y,z)))) ⟨hq1.drew,hB1.drew⟩ ⟨ht1.drew,hr1.drew⟩ fun hT9=>?_
   repeat ((first
    | (refine Ord.cv ?_ hT9.o ?_ ?_; rotate_left; (intro w5 hS; have rr:=Blk.rule hS.1; have r3:=Blk.rule hS.2; go_simp<;>rfl))
    | (refine Ord.co hT9.o ?_)
    | (refine Ord.cc ?_ ?_ ?_ hT9.o ?_ ?_ ?_; rotate_left 3; (intro w5 hS; have rr:=Blk.rule hS.1; have r3:=Blk.rule hS.2; go_simp; constructor<;>rfl); (intro w5 hS; (first | (with_reducible refine (HA1.out w5).mono ?_; rintro e w6 ⟨rfl,rfl⟩; constructor; rfl; exact ⟨hS,fun _ h=>h⟩)))));try simp only [Act.put,zA,zZ,zS])
   refine Ord.ch_turn (v:=undef) 0 hT9.o rfl (by decide) (Or.inl rfl) (by rfl) ?_ ?_
   ·rintro w5 hS ⟨hA1,hA2⟩;simp only [if_true] at hA2;have hcells:=fun c hc=>(hA2.rule (p * 3+c)).trans (flat3_get _ p c (by omega) hc);have r0:=hcells 0 (by omega);have r1:=hcells 1 (by omega);have r2:=hcells 2 (by omega);simp only [Nat.add_zero,enc3,List.getElem?_cons_zero,List.getElem?_cons_succ] at r0 r1 r2;have hfl:=flat3_length r;have f0:=hA2.thaw (p * 3) (by omega);have f1:=hA2.thaw (p * 3+1) (by omega);have f2:=hA2.thaw (p * 3+2) (by omega);clear hcells rq;go_simp;refine ⟨rfl,⟨((hS.1.off hne _).off hne _).off hne _,((hS.2.off (by omega) _).off (by omega) _).off (by omega) _⟩,?_,?_⟩
    ·exact ((hA1.setCell (p:=⟨R,p * 3,none⟩) (fun _=>hRF) _).setCell (p:=⟨R,p * 3+1,none⟩) (fun _=>hRF) _).setCell (p:=⟨R,p * 3+2,none⟩) (fun _=>hRF) _
    ·exact Blk.set3 hA2 (by omega) (x,y,z)
   try simp only [Act.put,zA,zZ,zS]
   repeat ((first
    | (refine Ord.cv ?_ hT9.o ?_ ?_; rotate_left; (intro w5 hS; skip; go_simp<;>rfl))
    | (refine Ord.co hT9.o ?_));try simp only [Act.put,zA,zZ,zS])
   refine Ord.InText.nil fun w5 hS=>?_;clear hT9;obtain ⟨hC9,hA9⟩:=Ord.chain_end hS;clear hS;obtain ⟨hA1,hA2⟩:=hA9;rw [if_neg (by decide)] at hA2;have hq9:=hC9.1;have r9:=hq9.rule;have f9:=hq9.thaw 2 (by simp);clear hC9 rq;go_wp2_with fail;have hqq:=hq9.set (i:=2) (by simp) (.int .u64 CN1);have hrr:=hA2.off (B:=q) (i:=2) (fun e=>hne e.symm) (.int .u64 CN1);refine ⟨⟨j+1,by omega,by simp,⟨R,g,r.set p (x,y,z),?_,hrr,by rw [HNN.out]; exact HP.out,HF.out.2.1,hk20,hne,HF.out.1⟩,hst5.trans ⟨hA1.setCell (p:=⟨q,2,none⟩) (fun _=>hqF) _,fun x hx=>.inl hx⟩⟩,by simp [intOf]; omega⟩;have hl9:(l++xs.take (j+1)).length=l.length+(j+1):=by simp; omega
   rw [hl9,HNN.out];show Blk 0 _ q [.slice (some ⟨R,0,none⟩) N N,.int .u64 (cnt g),.int .u64 (cnt (g+(l.length+j)+1))];rw [HG.out,HCN1.out];exact hqq
  ·go_wp2_with fail;have:j=xs.length:=by omega
   subst this;rw [List.take_length] at hQ5;go_ret;exact ⟨rfl,k',F1,HRM.out,hQ5,hst5⟩
theorem newQ_any {w:World} {cap:Nat} {xs:List Trip} {A:Option Addr} (hn:xs.length<=1048576) (hA:Row3 w A xs) :
  Calls prog 59 #[.slice A xs.length cap] w fun e w'=>∃ q F k,e=.returned (.pointer (some ⟨q,0,none⟩))/\Rm 2 xs.length k/\IsQ w' q F xs k/\Below w.heap.size w w'/\(∀ j,F j->w.heap.size<=j):=by
 have hr:=Blk.new 0 w (flat3 [t0,t0,t0,t0]) 114;have hb1:=(Below.refl w.heap.size w).alloc (Nat.le_refl _) (.cells (flat3 [t0,t0,t0,t0]).toArray 114);have hs1:(w.alloc (.cells (flat3 [t0,t0,t0,t0]).toArray 114)).heap.size=w.heap.size+1:=by simp
 have hq:=Blk.new 0 (w.alloc (.cells (flat3 [t0,t0,t0,t0]).toArray 114)) (qv w.heap.size 4 0 0) 181;have hr2:=hr.more (.cells (qv w.heap.size 4 0 0).toArray 181);have hb2:=hb1.alloc (by rw [hs1]; omega) (.cells (qv w.heap.size 4 0 0).toArray 181);rw [hs1] at hq;have hQ:IsQ _ (w.heap.size+1) (fun j=>j=w.heap.size+1\/j=w.heap.size) [] 2:=⟨w.heap.size,0,[t0,t0,t0,t0],hq,hr2,⟨rfl,by simp,fun i h=>by simp at h⟩,by omega,by omega,by omega,fun j=>Iff.rfl⟩;have hA2:=RowX.below hA hb2;have hoff:xs≠[]->∀ b,In3 A b->¬ (b=w.heap.size+1\/b=w.heap.size):=fun hne b hb=>by
  rcases hA with h0 | ⟨b',off,he,hl',hc⟩
  ·exact absurd h0 hne
  ·obtain ⟨o,ho⟩:=hb;rw [he] at ho;cases ho;omega
 have hsz:=hb2.size;have HALL:=zH (And.intro hQ (And.intro hA2 (And.intro hoff hb2)));clear hr hb1 hs1 hq hr2 hb2 hQ hA2 hoff hA hsz;go_enter func59,ntmps59;go_wp2_with (refine wpList_make3 _ rfl _ _ 105 rfl 114 Tryz.underlying105 infoEnt .i64 .i64 _ _ 4 rfl rfl rfl rfl (by omega) ?_);obtain ⟨hQ,hA2,hoff,hb2⟩:=HALL.out;refine (push_any (by simpa using hn) hA2 hoff hQ).mono ?_;rintro e w1 ⟨rfl,k',F',hRm,hQ9,hst⟩;go_wp2_with fail;go_ret;have hsz:=hb2.size;refine ⟨_,F',k',rfl,by simpa using hRm,by simpa using hQ9,?_,hst.base hsz ?_⟩
 ·exact Turn.below hb2 hst.turn hsz (fun j hj=>by omega)
 ·intro j hj; omega
def queueI (q:Nat) (F:Nat->Prop) (l:List Trip) (k:Nat):Item where
 F:=F
 says:=fun w=>IsQ w q F l k
 loc:=fun _ _ h hk hs=>h.kept hk hs
section
variable {w0 w w':World} {L:List Item} {q k k':Nat} {F F':Nat->Prop} {l l':List Trip}
theorem Env.queue (h:Env w0 L w) (i:Nat) (hi:L[i]?=some (queueI q F l k)):IsQ w q F l k:=h.get i hi
theorem Env.turnQ (h:Env w0 L w) (i:Nat) (hi:L[i]?=some (queueI q F l k)) (hQ:IsQ w' q F' l' k') (hs:Step F F' w w'):Env w0 (L.set i (queueI q F' l' k')) w' :=
 h.step i (queueI q F' l' k') hi hs hQ hQ.lt
theorem Env.madeQ (h:Env w0 L w) (hQ:IsQ w' q F l k) (hF:∀ j,F j->w.heap.size<=j) (hb:Below w.heap.size w w'):Env w0 (queueI q F l k::L) w' :=
 h.add (queueI q F l k) hb hQ fun j hj=>⟨hF j hj,hQ.lt j hj⟩
end
end
section
open Go.RowKit
def inB (n lo hi:Int):Bool:=decide (lo<=n/\n<=hi)
def kindB (k:Int):Bool:=decide (k=1\/k=2\/k=3)
def buckB (k b:Int):Bool:=if k=2 then inB b 1 64 else decide (b=0)
def highB (k h:Int):Bool:=if k=3 then inB h 1 16 else decide (h=1)
def chkI (k s b h l:Int):Int:=if kindB k then (if inB s 1 8388607 && inB l 2 1099511627775 && buckB k b && highB k h then 0 else 3) else 8
theorem inB_iff (n lo hi:Int):inB n lo hi=true ↔ lo<=n/\n<=hi:=by simp [inB]
theorem buckB_iff (k b:Int):buckB k b=true ↔ (k=2/\1<=b/\b<=64)\/(k≠2/\b=0):=by
 unfold buckB
 split
 ·next e=>rw [inB_iff]; omega
 ·next e=>rw [decide_eq_true_iff]; omega
theorem highB_iff (k h:Int):highB k h=true ↔ (k=3/\1<=h/\h<=16)\/(k≠3/\h=1):=by
 unfold highB
 split
 ·next e=>rw [inB_iff]; omega
 ·next e=>rw [decide_eq_true_iff]; omega
def askB (k o:Int):Bool:=if o=1\/o=2\/o=3 then decide (k=1\/k=3) else if o=4\/o=5\/o=6\/o=7 then decide (k=2) else decide (o=8)
def lvlB (k h o y:Int):Bool:=if k=3/\o=1 then inB y 1 h else decide (y=0)
def putB (o:Int):Bool:=decide (o=4\/o=5)
def argB (o x v:Int):Bool:=decide ((v≠0/\o≠4/\o≠5)\/(x≠0/\o=8))
def opI (k s b h l o x v y:Int):Int:=if chkI k s b h l=0 then (if askB k o then (if lvlB k h o y then (if argB o x v then 1 else 0) else 3) else 8) else chkI k s b h l
end
section
open Go.RowKit Go.WideShapes Go.ChangeShapes Go.ChangeAt
section
variable {H:Type} {enc:TypeId × Value->H} {P:Program}
theorem args_stay (hl:laidOutB P=true) {W W':World} (hb:Below W.heap.size W W'):∀ (ts:List TypeId) (_:(ts.all fun t=>P.readableRec t && decide (t < P.types.size))=true) (vs:List Value) (ds:List (DataW H)) (ps:List MemPlace),
  DataW.TrodAll enc P W 0 (fun _=>true) true ts vs ds ps->(∀ x∈ps,x.block < W.heap.size)->DataW.TrodAll enc P W' 0 (fun b=>decide (b < W.heap.size)) true ts vs ds ps:=by
 intro ts
 induction ts with
 | nil =>
  intro _ vs ds ps h _;obtain ⟨rfl,rfl,rfl⟩:=trodAll_nil h;exact trodAll_mk0
 | cons t ts ih =>
  intro hts vs ds ps h hlt;rw [List.all_cons,Bool.and_eq_true,Bool.and_eq_true] at hts;obtain ⟨v,vs',d,ds',p,q,rfl,rfl,rfl,h0,r0⟩:=trodAll_cons h;exact trodAll_cons_mk (Below.trod hl hts.1.1 (of_decide_eq_true hts.1.2) h0 hb fun x hx=>hlt x (List.mem_append_left _ hx))
   (ih hts.2 _ _ _ r0 fun x hx=>hlt x (List.mem_append_right _ hx))
theorem law_post {f:Func} {s:ChangeSpec} {W W':World} {args:Array Value} {ds:List (DataW H)} {before:List MemPlace} {tb:TypeId}
  (hl:laidOutB P=true) (hts:(f.params.toList.all fun t=>P.readableRec t && decide (t < P.types.size))=true) (hres:f.resultTypes=#[tb]) (htb:P.underlying tb=some .bool)
  (hv:s.vars=[]) (hfn:s.fn H (ds++[])={ results:=[.lit (.bool true)],args:=ds })
  (hW:DataW.Whole enc P f.params.toList s.vars false W args.toList ds [] before) (hb:Below W.heap.size W W') :
  s.post enc P f false true false false W args (.bool true) W':=by
 have hlt:∀ p∈before,p.block < W.heap.size:=fun p hp=>hW.lt p hp;have hW2:=hW;obtain ⟨p,q,hA,hV,rfl,hz,hn⟩:=hW2;have hq:q=[]:=by rw [hv] at hV; exact (trodVars_none hV).2
 subst hq;refine ⟨ds,[],_,[],p,[],hW,?_,?_,?_,World.keptBut_mono (fun x hx=>⟨hx,Or.inr (Or.inl (by simpa using hx))⟩) (hb.frame (·∈p++[])),fun h=>by cases h⟩
 ·rw [hfn,hres];exact trodAll_mk1 (shut_bool htb _)
 ·rw [hfn];exact args_stay hl hb _ hts _ _ _ hA fun x hx=>hlt x (by simpa using hx)
 ·rw [hfn,hv];exact rfl
end
theorem u64_in {n:Int} (h:(Lit.int .u64 n).wf=true):0<=n/\n<=18446744073709551615:=by
 simpa [Lit.wf,IntKind.min,IntKind.max,IntKind.signed,IntKind.bits] using h
theorem i64_in {n:Int} (h:(Lit.int .i64 n).wf=true):-9223372036854775808<=n/\n<=9223372036854775807:=by
 simpa [Lit.wf,IntKind.min,IntKind.max,IntKind.signed,IntKind.bits] using h
end
section
open Go.RowKit Go.Maps
theorem Blk.under {m n:Nat} {vs:List Value} {w w':World} (h:Blk m w n vs) (hb:Below w.heap.size w w'):Blk m w' n vs:=h.kept hb.size (hb.block _ h.1)
def crv (k s b h l e r hs hi:Int) (q:Nat):List Value:=[.int .i64 k,.int .i64 s,.int .i64 b,.int .i64 h,.int .i64 l,.int .i64 e,.int .i64 r,.int .i64 hs,.int .i64 hi,.pointer (some ⟨q,0,none⟩)]
def coreI (c:Nat) (k s b h l e r hs hi:Int) (q:Nat):Item:=boxI c (crv k s b h l e r hs hi q)
def epI (x:Int):Int:=if x<=9223372036854775807 then x else 0
def epB (x:Int):Bool:=decide (x<=9223372036854775807)
theorem fint_any (x:Int) (hx:InU x) (w:World):Calls prog 195 #[.int .u64 x] w fun o w'=>o=.returned (.tuple #[.int .i64 (epI x),.bool (epB x)])/\w'=w:=by
 unfold InU at hx
 by_cases h:x<=9223372036854775807
 ·have h1:epI x=x:=by simp [epI,h]
  have h2:epB x=true:=by simp [epB,h]
  have h3:decide (9223372036854775807 < x)=false:=by simp; omega
  have hw:wrap64 x=x:=w64 _ (by omega);rw [h1,h2];go_enter func195,ntmps195
  go_wp2
  go_ret2
  exact ⟨rfl,rfl⟩
 ·have h1:epI x=0:=by simp [epI,h]
  have h2:epB x=false:=by simp [epB,h]
  have h3:decide (9223372036854775807 < x)=true:=by simp; omega
  rw [h1,h2];go_enter func195,ntmps195
  go_wp2
  go_ret2
  exact ⟨rfl,rfl⟩
section
variable {w:World} {c q:Nat} {k s b h l e r hs hi:Int}
theorem epoch_c (hb:Blk 0 w c (crv k s b h l e r hs hi q)):Calls prog 45 #[.pointer (some ⟨c,0,none⟩)] w fun o w'=>o=.returned (.int .i64 e)/\w'=w:=by
 have r1:=hb.rule;unfold crv at r1;go_enter func45,ntmps45
 go_wp2
 go_ret;exact ⟨rfl,rfl⟩
end
section
variable {w:World} {c q:Nat} {k s b h l e r hs hi:Int}
theorem conf_c (hb:Blk 0 w c (crv k s b h l e r hs hi q)):Calls prog 53 #[.pointer (some ⟨c,0,none⟩)] w fun o w'=>o=.returned (.agg #[.int .i64 k,.int .i64 s,.int .i64 b,.int .i64 h,.int .i64 l])/\Below w.heap.size w w':=by
 have r1:=cell_more hb.1 hb.rule;unfold crv at r1;go_enter func53,ntmps53
 go_wp2
 refine bodyPost_ret (v:=.agg #[.int .i64 k,.int .i64 s,.int .i64 b,.int .i64 h,.int .i64 l]) (by simp [results,results53,go_sem]) rfl ⟨rfl,?_⟩;exact (Below.refl _ _).alloc (Nat.le_refl _) _
end
section
variable {w:World} {c q:Nat} {k s b h l e r hs hi:Int}
theorem queue_c (hb:Blk 0 w c (crv k s b h l e r hs hi q)):Calls prog 42 #[.pointer (some ⟨c,0,none⟩)] w fun o w'=>o=.returned (.pointer (some ⟨q,0,none⟩))/\w'=w:=by
 have r1:=hb.rule;unfold crv at r1;go_enter func42,ntmps42
 go_wp2
 go_ret;exact ⟨rfl,rfl⟩
end
def cellI (c:Nat) (F:Nat->Prop) (f:Plc->Int) (q:Cnt) (n:Nat):Item where
 F:=F
 says:=fun w=>IsC w c F f q n
 loc:=fun w1 w2 h hk hs=>by
  obtain ⟨mp,hb,hm,hF⟩:=h
  exact ⟨mp,hb.kept hs (hk c ((hF c).2 (.inl rfl))),hm.kept fun b e=>hk b ((hF b).2 (.inr e)),hF⟩
section
variable {w0 w w':World} {L:List Item} {c n:Nat} {F F':Nat->Prop} {f f':Plc->Int} {q q':Cnt} {m:Nat}
theorem Env.made (h:Env w0 L w) (hC:IsC w' c (fun k=>k=c) f q n) (hc:w.heap.size<=c) (hb:Below w.heap.size w w'):Env w0 (cellI c (fun k=>k=c) f q n::L) w' :=
 h.add (cellI c (fun k=>k=c) f q n) hb hC fun k hk=>⟨by have hk:k=c:=hk; omega,hC.lt k hk⟩
theorem Env.cell (h:Env w0 L w) (i:Nat) (hi:L[i]?=some (cellI c F f q n)):IsC w c F f q n:=h.get i hi
theorem Env.turn (h:Env w0 L w) (i:Nat) (hi:L[i]?=some (cellI c F f q n)) (hC:IsC w' c F' f' q' m) (hs:Step F F' w w'):Env w0 (L.set i (cellI c F' f' q' m)) w' :=
 h.step i (cellI c F' f' q' m) hi hs hC hC.lt
end
theorem wset {L:List Item} {i j:Nat} {a b:Item} (hij:j≠i) (h:L[i]?=some a):(L.set j b)[i]?=some a:=by rw [List.getElem?_set_ne hij,h]
theorem Env.put3 {w0 w:World} {L:List Item} (h:Env w0 L w) (i:Nat) {B:Nat} {a b c:Value} (hi:L[i]?=some (boxI B [a,b,c])) (u v t:Value) :
  Env w0 (L.set i (boxI B [u,v,t])) (((w.setCell ⟨B,0,none⟩ u).setCell ⟨B,1,none⟩ v).setCell ⟨B,2,none⟩ t):=by
 have hl:i < L.length:=(List.getElem?_eq_some_iff.1 hi).1;have h1:=h.put i hi (j:=0) (by simp) u;have h2:=h1.put i (by rw [List.getElem?_set_self hl]) (j:=1) (by simp) v;have h3:=h2.put i (by rw [List.getElem?_set_self (by simpa using hl)]) (j:=2) (by simp) t
 simpa using h3
theorem Env.put5 {w0 w:World} {L:List Item} (h:Env w0 L w) (i:Nat) {B:Nat} {a b c d e:Value} (hi:L[i]?=some (boxI B [a,b,c,d,e])) (u v t x y:Value) :
  Env w0 (L.set i (boxI B [u,v,t,x,y])) (((((w.setCell ⟨B,0,none⟩ u).setCell ⟨B,1,none⟩ v).setCell ⟨B,2,none⟩ t).setCell ⟨B,3,none⟩ x).setCell ⟨B,4,none⟩ y):=by
 have hl:i < L.length:=(List.getElem?_eq_some_iff.1 hi).1;have h1:=h.put i hi (j:=0) (by simp) u;have h2:=h1.put i (by rw [List.getElem?_set_self hl]) (j:=1) (by simp) v;have h3:=h2.put i (by rw [List.getElem?_set_self (by simpa using hl)]) (j:=2) (by simp) t;have h4:=h3.put i (by rw [List.getElem?_set_self (by simpa using hl)]) (j:=3) (by simp) x;have h5:=h4.put i (by rw [List.getElem?_set_self (by simpa using hl)]) (j:=4) (by simp) y
 simpa using h5
def wbox (p c:Nat):Item:=boxI p [.pointer (some ⟨c,0,none⟩)]
theorem Env.wblk {w0 w:World} {L:List Item} {p c:Nat} (h:Env w0 L w) (i:Nat) (hi:L[i]?=some (wbox p c)):Blk 0 w p [.pointer (some ⟨c,0,none⟩)]:=h.get i hi
theorem kept_any {w:World} {p c:Nat} (hb:Blk 0 w p [.pointer (some ⟨c,0,none⟩)]) :
  Calls prog 36 #[.pointer (some ⟨p,0,none⟩)] w fun e w'=>e=.returned (.pointer (some ⟨c,0,none⟩))/\w'=w:=by
 have r:=hb.rule;go_enter func36,ntmps36
 go_wp2
 go_ret;exact ⟨rfl,rfl⟩
section
variable {w0 w:World} {L:List Item} {p c n:Nat} {F:Nat->Prop} {f:Plc->Int} {q:Cnt}
theorem load_w (x y z d:Int) (hx:Wf (x,y,z)) (i j:Nat) (hij:j≠i) (hE:Env w0 L w) (hi:L[i]?=some (wbox p c)) (hj:L[j]?=some (cellI c F f q n)) :
  Calls prog 336 #[.pointer (some ⟨p,0,none⟩),.agg #[.int .i64 x,.int .i64 y,.int .i64 z,.int .i64 d]] w fun e w'=>e=.returned (.agg #[.int .u64 (f (x,y,z)),.int .i64 0,.bool false])/\Env w0 (L.set j (cellI c F f { q with l:=wrap64 (q.l+1) } n)) w':=by
 replace hE:=(hE.box w.heap.size rfl [.int .i64 x,.int .i64 y,.int .i64 z,.int .i64 d] 150).box (w.heap.size+1) (by simp) [.int .u64 0,.int .i64 0,.bool false] 127;have hi':(boxI (w.heap.size+1) [.int .u64 0,.int .i64 0,.bool false]::boxI w.heap.size [.int .i64 x,.int .i64 y,.int .i64 z,.int .i64 d]::L)[i+2]?=some (wbox p c):=hi;have hj':(boxI (w.heap.size+1) [.int .u64 0,.int .i64 0,.bool false]::boxI w.heap.size [.int .i64 x,.int .i64 y,.int .i64 z,.int .i64 d]::L)[j+2]?=some (cellI c F f q n):=hj;have HX:=zH hx;clear hx;go_enter func336,ntmps336;go_wp2_with fail;generalize w.heap.size+1=Y at *;generalize w.heap.size=X at *;refine Ord.wc [4,6] (fun w'=>Blk 0 w' X [.int .i64 x,.int .i64 y,.int .i64 z,.int .i64 d]/\Blk 0 w' p [.pointer (some ⟨c,0,none⟩)]) (Stage [Env w0 (boxI Y [.int .u64 0,.int .i64 0,.bool false]::boxI X [.int .i64 x,.int .i64 y,.int .i64 z,.int .i64 d]::L),Env w0 (boxI Y [.int .u64 0,.int .i64 0,.bool false]::boxI X [.int .i64 x,.int .i64 y,.int .i64 z,.int .i64 d]::L.set j (cellI c F f { q with l:=wrap64 (q.l+1) } n)),Env w0 (boxI Y [.int .u64 (f (x,y,z)),.int .i64 0,.bool false]::boxI X [.int .i64 x,.int .i64 y,.int .i64 z,.int .i64 d]::L.set j (cellI c F f { q with l:=wrap64 (q.l+1) } n))]) ⟨hE.drew.get 1 rfl,hE.drew.get (i+2) hi'⟩ ⟨_,rfl,hE.drew⟩ fun hT9=>?_
 repeat ((first
  | (refine Ord.cv ?_ hT9.o ?_ ?_; rotate_left; (intro w5 hS; have r:=hS.1.rule; go_simp<;>rfl))
  | (refine Ord.co hT9.o ?_)
  | (refine Ord.cc ?_ ?_ ?_ hT9.o ?_ ?_ ?_; rotate_left 3; (intro w5 hS; have r:=hS.1.rule; go_simp; constructor<;>rfl); (intro w5 hS; (first | (with_reducible refine (kept_any hS.2).mono ?_; rintro e w6 ⟨rfl,rfl⟩; constructor; rfl; exact ⟨hS,fun _ h=>h⟩)))));try simp only [Act.put,zA,zZ,zS])
 refine Ord.ch_turn (v:=.int .u64 (f (x,y,z))) 0 hT9.o rfl (by decide) (Or.inl rfl) (by rfl) ?_ ?_
 ·rintro w5 hC5 ⟨P5,hP5,hA5⟩;cases hP5;go_simp;simp only [Ord.LandsIn];refine (load_any x y z HX.out (hA5.cell (j+2) hj')).mono ?_;rintro e w6 ⟨rfl,hC,hs⟩;have hE6:=hA5.turn (j+2) hj' hC hs;exact ⟨rfl,⟨hE6.get 1 rfl,hE6.get (i+2) (wset (j:=j+2) (by omega) hi')⟩,_,rfl,hE6⟩
 try simp only [Act.put,zA,zZ,zS]
 repeat ((first
  | (refine Ord.cv ?_ hT9.o ?_ ?_; rotate_left; (intro w5 hS; skip; go_simp<;>rfl))
  | (refine Ord.co hT9.o ?_));try simp only [Act.put,zA,zZ,zS])
 refine Ord.ch_turn (v:=undef) 1 hT9.o rfl (by decide) (Or.inr ⟨_,rfl,by kernel_rfl⟩) (by rfl) ?_ ?_
 ·rintro w5 hC5 ⟨P5,hP5,hA5⟩;cases hP5;have r:=hA5.rule 0 rfl;have f:=hA5.thaw 0 rfl;have f0:=f 0 (by simp);have f1:=f 1 (by simp);have f2:=f 2 (by simp);clear f;go_simp;have hE6:=hA5.put3 0 rfl (.int .u64 (f (x,y,z))) (.int .i64 0) (.bool false);exact ⟨rfl,⟨hE6.get 1 rfl,hE6.get (i+2) (wset (j:=j+2) (by omega) hi')⟩,_,rfl,hE6⟩
 try simp only [Act.put,zA,zZ,zS]
 repeat ((first
  | (refine Ord.cv ?_ hT9.o ?_ ?_; rotate_left; (intro w5 hS; skip; go_simp<;>rfl))
  | (refine Ord.co hT9.o ?_));try simp only [Act.put,zA,zZ,zS])
 refine Ord.InText.nil fun w5 hS=>?_;clear hT9;obtain ⟨hC9,hA9⟩:=Ord.chain_end hS;clear hS;obtain ⟨P9,hP9,hA9⟩:=hA9;cases hP9;have q9:=hA9.rule 0 rfl
 go_wp2
 exact bodyPost_ret (v:=.agg #[.int .u64 (f (x,y,z)),.int .i64 0,.bool false]) (by simp [results,results336,go_sem,q9]) rfl ⟨rfl,hA9.sub (.cons _ (.cons _ (List.Sublist.refl _)))⟩
theorem store_w (x y z d v e:Int) (b:Bool) (hx:Wf (x,y,z)) (hv:InU v) (hn:n < maxLen) (i j:Nat) (hij:j≠i) (hE:Env w0 L w) (hi:L[i]?=some (wbox p c)) (hj:L[j]?=some (cellI c F f q n)) :
  Calls prog 337 #[.pointer (some ⟨p,0,none⟩),.agg #[.int .i64 x,.int .i64 y,.int .i64 z,.int .i64 d],.agg #[.int .u64 v,.int .i64 e,.bool b]] w fun e w'=>e=.returned (.tuple #[])/\∃ F',Env w0 (L.set j (cellI c F' (upd f (x,y,z) v) { q with s:=wrap64 (q.s+1) } (n+1))) w':=by
 replace hE:=((hE.box w.heap.size rfl [.int .i64 x,.int .i64 y,.int .i64 z,.int .i64 d] 150).box (w.heap.size+1) (by simp) [.int .u64 v,.int .i64 e,.bool b] 127);have hi':(boxI (w.heap.size+1) [.int .u64 v,.int .i64 e,.bool b]::boxI (w.heap.size) [.int .i64 x,.int .i64 y,.int .i64 z,.int .i64 d]::L)[i+2]?=some (wbox p c):=hi;have hj':(boxI (w.heap.size+1) [.int .u64 v,.int .i64 e,.bool b]::boxI (w.heap.size) [.int .i64 x,.int .i64 y,.int .i64 z,.int .i64 d]::L)[j+2]?=some (cellI c F f q n):=hj;have HX:=zH hx;clear hx;go_enter func337,ntmps337;go_wp2_with fail;generalize w.heap.size+1=Y at *;generalize w.heap.size=X at *;refine Ord.wc [6] (fun w'=>Blk 0 w' X [.int .i64 x,.int .i64 y,.int .i64 z,.int .i64 d]/\Blk 0 w' Y [.int .u64 v,.int .i64 e,.bool b]/\Blk 0 w' p [.pointer (some ⟨c,0,none⟩)]) (Stage [Env w0 (boxI Y [.int .u64 v,.int .i64 e,.bool b]::boxI X [.int .i64 x,.int .i64 y,.int .i64 z,.int .i64 d]::L),fun w'=>∃ F',Env w0 (boxI Y [.int .u64 v,.int .i64 e,.bool b]::boxI X [.int .i64 x,.int .i64 y,.int .i64 z,.int .i64 d]::L.set j (cellI c F' (upd f (x,y,z) v) { q with s:=wrap64 (q.s+1) } (n+1))) w']) ⟨hE.drew.get 1 rfl,hE.drew.get 0 rfl,hE.drew.get (i+2) hi'⟩ ⟨_,rfl,hE.drew⟩ fun hT9=>?_
 repeat ((first
  | (refine Ord.cv ?_ hT9.o ?_ ?_; rotate_left; (intro w5 hS; have r0:=hS.1.rule; have r1:=hS.2.1.rule; go_simp<;>rfl))
  | (refine Ord.co hT9.o ?_)
  | (refine Ord.cc ?_ ?_ ?_ hT9.o ?_ ?_ ?_; rotate_left 3; (intro w5 hS; have r0:=hS.1.rule; have r1:=hS.2.1.rule; go_simp; constructor<;>rfl); (intro w5 hS; (first | (with_reducible refine (kept_any hS.2.2).mono ?_; rintro e w6 ⟨rfl,rfl⟩; constructor; rfl; exact ⟨hS,fun _ h=>h⟩)))));try simp only [Act.put,zA,zZ,zS])
 refine Ord.ch_turn (v:=.tuple #[]) 0 hT9.o rfl (by decide) (Or.inl rfl) (by rfl) ?_ ?_
 ·rintro w5 hC5 ⟨P5,hP5,hA5⟩;cases hP5;go_simp;simp only [Ord.LandsIn];refine (store_any x y z v HX.out hv hn (hA5.cell (j+2) hj')).mono ?_;rintro e w6 ⟨rfl,F6,hC,hs⟩;have hE6:=hA5.turn (j+2) hj' hC hs;exact ⟨rfl,⟨hE6.get 1 rfl,hE6.get 0 rfl,hE6.get (i+2) (wset (j:=j+2) (by omega) hi')⟩,_,rfl,F6,hE6⟩
 try simp only [Act.put,zA,zZ,zS]
 repeat ((first
  | (refine Ord.cv ?_ hT9.o ?_ ?_; rotate_left; (intro w5 hS; skip; go_simp<;>rfl))
  | (refine Ord.co hT9.o ?_));try simp only [Act.put,zA,zZ,zS])
 refine Ord.InText.nil fun w5 hS=>?_;clear hT9;obtain ⟨hC9,hA9⟩:=Ord.chain_end hS;clear hS;obtain ⟨P9,hP9,hA9⟩:=hA9;cases hP9;obtain ⟨F9,hA9⟩:=hA9;clear hC9
 go_wp2
 go_end0
 exact ⟨rfl,F9,hA9.sub (.cons _ (.cons _ (List.Sublist.refl _)))⟩
theorem new_w (hE:Env w0 L w):Calls prog 14 #[] w fun e w'=>∃ p c,e=.returned (.pointer (some ⟨p,0,none⟩))/\Env w0 (wbox p c::cellI c (fun k=>k=c) (fun _=>0) ⟨0,0,0,0,0⟩ 0::L) w'/\Below w.heap.size w w':=by
 go_enter func14,ntmps14;go_wp2_with fail;refine (new_any w).mono ?_;rintro e w1 ⟨rfl,hC,hb⟩;replace hE:=(hE.made hC (Nat.le_refl _) hb).box w1.heap.size rfl [.pointer (some ⟨w.heap.size,0,none⟩)] 120
 go_wp2
 go_ret;exact ⟨_,_,rfl,hE,hb.alloc hb.size _⟩
end
end
section
open Go.RowKit
theorem epoch_any (w:World):Calls prog 67 #[] w fun e w'=>e=.returned (.agg #[.int .i64 1,.int .i64 0,.int .i64 0])/\Below w.heap.size w w':=by
 go_enter func67,ntmps67
 go_wp2
 exact bodyPost_ret (v:=.agg #[.int .i64 1,.int .i64 0,.int .i64 0]) (by simp [results,results67,go_sem]) rfl ⟨rfl,(Below.refl _ _).alloc (Nat.le_refl _) _⟩
end
section
open Go.RowKit Go.Maps
theorem caught_none (w:World):CallsD prog 66 #[] .returning w fun e u' w'=>u'=.returning/\e=.returned (.tuple #[])/\w'=w:=by
 refine callsD_of_wpS func66 rfl fun c₀ cs hu=>?_;apply wpS_region;cases c₀;simp_all [wpOpsS,go_sem,recoverD,ntmps66,Exit.thenS,bodyPostS,results,results66]
theorem method_store (k p:Nat) (w:World):(method (k+1) 28 (.pointer (some ⟨p,0,none⟩)) "Store").run prog w=.ok (337,.pointer (some ⟨p,0,none⟩)) w:=by kernel_rfl
section
variable {w0 w:World} {L:List Item} {p c n:Nat} {F:Nat->Prop} {f:Plc->Int} {q:Cnt}
theorem start_w (i j:Nat) (hij:j≠i) (hn:n < maxLen) (hE:Env w0 L w) (hi:L[i]?=some (wbox p c)) (hj:L[j]?=some (cellI c F f q n)) :
  Calls prog 31 #[.iface 28 (.pointer (some ⟨p,0,none⟩))] w fun e w'=>e=.returned (.tuple #[])/\∃ F',Env w0 (L.set j (cellI c F' (upd f (1,0,0) 1) { q with s:=wrap64 (q.s+1) } (n+1))) w':=by
 have hmf:∀ (fn:Fn) (first cap:Array Value) (w:World),(Instr.makeFunc fn first cap).run prog w=.ok (.func fn first cap) w:=fun _ _ _ _=>rfl
 go_enter_defers func31,ntmps31
 go_wp2_with fail;refine Ord.wc [6] (fun _=>True) (fun k w'=>∃ F',Env w0 (if k=0 then L else L.set j (cellI c F' (upd f (1,0,0) 1) { q with s:=wrap64 (q.s+1) } (n+1))) w') trivial ⟨F,hE.drew⟩ fun hT9=>?_
 repeat ((first
  | (refine Ord.cv ?_ hT9.o ?_ ?_; rotate_left; (intro w5 hS; skip; go_simp<;>rfl))
  | (refine Ord.co hT9.o ?_)
  | (refine Ord.cc ?_ ?_ ?_ hT9.o ?_ ?_ ?_; rotate_left 3; (intro w5 hS; skip; go_simp; constructor<;>rfl); (intro w5 hS; (first | (with_reducible refine kp (epoch_any _) ?_ ?_; rfl; exact fun w6 hb6=>⟨trivial,fun k h=>h.elim fun F' h=>⟨F',h.over hb6⟩⟩)))));try simp only [Act.put,zA,zZ,zS])
 refine Ord.ch_turn (v:=.tuple #[]) 0 hT9.o rfl (by decide) (Or.inl rfl) (by rfl) ?_ ?_
 ·rintro w5 hC5 ⟨F5,hA5⟩;simp only [if_true] at hA5;go_simp;rw [method_store];simp only [Result.andThen_ok];go_simp;simp only [Ord.LandsIn];refine (store_w 1 0 0 0 1 0 false (by unfold Wf In64; simp) (by unfold InU; simp) hn i j hij hA5 hi hj).mono ?_;rintro e w6 ⟨rfl,F6,hE6⟩;exact ⟨rfl,F6,hE6⟩
 try simp only [Act.put,zA,zZ,zS]
 repeat ((first
  | (refine Ord.cv ?_ hT9.o ?_ ?_; rotate_left; (intro w5 hS; skip; go_simp<;>rfl))
  | (refine Ord.co hT9.o ?_));try simp only [Act.put,zA,zZ,zS])
 refine Ord.InText.nil fun w5 hS=>?_;clear hT9;obtain ⟨hC9,hA9⟩:=Ord.chain_end hS;clear hS;obtain ⟨F9,hA9⟩:=hA9;simp only [List.length_cons,List.length_nil,Nat.zero_add,Nat.one_ne_zero,if_false] at hA9
 go_wp2
 refine leaves_cons (f:=66) (args:=#[]) (by simp) (by simp [go_sem]) ?_;refine (caught_none _).mono ?_;rintro e u' w'' ⟨rfl,rfl,rfl⟩;exact ⟨_,results_none rfl _ _ _,rfl,F9,hA9⟩
end
theorem set_same {α:Type _} {L:List α} {m:Nat} {a:α} (h:L[m]?=some a):L.set m a=L:=by
 obtain ⟨hl,rfl⟩:=List.getElem?_eq_some_iff.1 h;exact List.set_getElem_self hl
theorem read_caught (w:World):CallsD prog 194 #[] .returning w fun e u' w'=>u'=.returning/\e=.returned (.tuple #[])/\w'=w:=by
 refine callsD_of_wpS func194 rfl fun c₀ cs hu=>?_;apply wpS_region;cases c₀;simp_all [wpOpsS,go_sem,recoverD,ntmps194,Exit.thenS,bodyPostS,results,results194]
theorem method_load (k p:Nat) (w:World):(method (k+1) 28 (.pointer (some ⟨p,0,none⟩)) "Load").run prog w=.ok (336,.pointer (some ⟨p,0,none⟩)) w:=by kernel_rfl
theorem val_word (v:World) (a b:Int) (d:Bool):(Instr.field 127 (.agg #[.int .u64 a,.int .i64 b,.bool d]) 0).run prog v=.ok (.int .u64 a) v:=by kernel_rfl
section
variable {w0 w:World} {L:List Item} {p c n:Nat} {F:Nat->Prop} {f:Plc->Int} {q:Cnt}
theorem read_w (x:Int) (hfx:f (1,0,0)=x) (i j:Nat) (hij:j≠i) (hE:Env w0 L w) (hi:L[i]?=some (wbox p c)) (hj:L[j]?=some (cellI c F f q n)) :
  Calls prog 162 #[.iface 28 (.pointer (some ⟨p,0,none⟩))] w fun o w'=>o=.returned (.tuple #[.int .i64 (epI x),.bool (epB x)])/\Env w0 (L.set j (cellI c F f { q with l:=wrap64 (q.l+1) } n)) w':=by
 have hxu:InU x:=by rw [<- hfx]; exact (hE.cell j hj).words.1 _
 have hmf:∀ (fn:Fn) (first cap:Array Value) (w:World),(Instr.makeFunc fn first cap).run prog w=.ok (.func fn first cap) w:=fun _ _ _ _=>rfl
 go_enter_defers func162,ntmps162
 go_wp2_with fail;refine Ord.wc [5] (fun _=>True) (fun k w'=>Env w0 (if k=0 then L else L.set j (cellI c F f { q with l:=wrap64 (q.l+1) } n)) w') trivial hE.drew fun hT9=>?_
 repeat ((first
  | (refine Ord.cv ?_ hT9.o ?_ ?_; rotate_left; (intro w5 hS; skip; go_simp<;>rfl))
  | (refine Ord.co hT9.o ?_)
  | (refine Ord.cc ?_ ?_ ?_ hT9.o ?_ ?_ ?_; rotate_left 3; (intro w5 hS; skip; go_simp; constructor<;>rfl); (intro w5 hS; (first | (with_reducible refine kp (epoch_any _) ?_ ?_; rfl; exact fun w6 hb6=>⟨trivial,fun k h=>h.over hb6⟩)))));try simp only [Act.put,zA,zZ,zS])
 refine Ord.ch_turn (v:=.agg #[.int .u64 x,.int .i64 0,.bool false]) 0 hT9.o rfl (by decide) (Or.inl rfl) (by rfl) ?_ ?_
 ·rintro w5 hC5 hA5;simp only [if_true] at hA5;go_simp;rw [method_load];simp only [Result.andThen_ok];go_simp;simp only [Ord.LandsIn];have hl:=load_w 1 0 0 0 (by unfold Wf In64; simp) i j hij hA5 hi hj;rw [hfx] at hl;refine hl.mono ?_;rintro e w6 ⟨rfl,hE6⟩;exact ⟨rfl,hE6⟩
 try simp only [Act.put,zA,zZ,zS]
 have hvw:=val_word
 repeat ((first
  | (refine Ord.cv ?_ hT9.o ?_ ?_; rotate_left; (intro w5 hS; skip; go_simp<;>rfl))
  | (refine Ord.co hT9.o ?_)
  | (refine Ord.cc ?_ ?_ ?_ hT9.o ?_ ?_ ?_; rotate_left 3; (intro w5 hS; skip; go_simp; constructor<;>rfl); (intro w5 hS; (first | (with_reducible refine (fint_any x hxu _).mono ?_; rintro e w6 ⟨rfl,rfl⟩; constructor; rfl; exact ⟨hS,fun _ h=>h⟩)))));try simp only [Act.put,zA,zZ,zS])
 refine Ord.InText.nil fun w5 hS=>?_;clear hT9;obtain ⟨hC9,hA9⟩:=Ord.chain_end hS;clear hS;simp only [List.length_cons,List.length_nil,Nat.zero_add,Nat.one_ne_zero,if_false] at hA9
 go_wp2
 refine leaves_cons (f:=194) (args:=#[]) (by simp) (by simp [go_sem]) ?_;refine (read_caught _).mono ?_;rintro e u' w'' ⟨rfl,rfl,rfl⟩;exact ⟨.tuple #[.int .i64 (epI x),.bool (epB x)],by simp [results,results162,go_sem],rfl,hA9⟩
variable {cc qq:Nat} {k s b h l e r hs hh:Int}
theorem check_w (x:Int) (hfx:f (1,0,0)=x) (m i j:Nat) (hij:j≠i) (hjm:j≠m) (hE:Env w0 L w) (hm:L[m]?=some (coreI cc k s b h l e r hs hh qq)) (hi:L[i]?=some (wbox p c)) (hj:L[j]?=some (cellI c F f q n)) :
  Calls prog 141 #[.pointer (some ⟨cc,0,none⟩),.iface 28 (.pointer (some ⟨p,0,none⟩))] w fun o w'=>o=.returned (.tuple #[])/\Env w0 ((L.set j (cellI c F f { q with l:=wrap64 (q.l+1) } n)).set m (coreI cc k s b h l (epI x) r hs hh qq)) w':=by
 go_enter func141,ntmps141;go_wp2_with fail;refine (read_w x hfx i j hij hE hi hj).mono ?_;rintro o w1 ⟨rfl,hE1⟩;have hm1:=wset (b:=cellI c F f { q with l:=wrap64 (q.l+1) } n) hjm hm;have r1:=hE1.rule m hm1;unfold crv at r1;have f1:=hE1.thaw m hm1 5 (by simp [crv]);go_wp2_with fail
 go_end0
 exact ⟨rfl,hE1.put m hm1 (j:=5) (by simp [crv]) (.int .i64 (epI x))⟩
end
section
variable {w:World} {c q:Nat} {k s b h l e r hs hi:Int}
theorem held_c (hb:Blk 0 w c (crv k s b h l e r hs hi q)):Calls prog 44 #[.pointer (some ⟨c,0,none⟩)] w fun o w'=>o=.returned (.tuple #[.agg #[.int .i64 hs,.int .i64 hi],.bool (hs != 0)])/\Below w.heap.size w w':=by
 have hcl:=hb.1;have hb1:=hb.more (.cells #[.int .i64 0,.int .i64 0] 110);have hB:=Blk.new 0 w [.int .i64 0,.int .i64 0] 110;have hE:=(Below.refl w.heap.size w).alloc (Nat.le_refl _) (.cells [.int .i64 0,.int .i64 0].toArray 110);have hs1:w.heap.size+1<=(w.alloc (.cells [.int .i64 0,.int .i64 0].toArray 110)).heap.size:=by simp
 unfold crv at hb1;clear hb;go_enter func44,ntmps44;go_wp2_with fail;refine Ord.wc [10] (fun w'=>Blk 0 w' c [.int .i64 k,.int .i64 s,.int .i64 b,.int .i64 h,.int .i64 l,.int .i64 e,.int .i64 r,.int .i64 hs,.int .i64 hi,.pointer (some ⟨q,0,none⟩)]) (fun j w'=>w.heap.size+1<=w'.heap.size/\Below w.heap.size w w'/\Blk 0 w' w.heap.size (if j=0 then [.int .i64 0,.int .i64 0] else [.int .i64 hs,.int .i64 hi])) hb1.drew ⟨hs1,hE.drew,hB.drew⟩ fun hT9=>?_
 repeat ((first
  | (refine Ord.cv ?_ hT9.o ?_ ?_; rotate_left; (intro w5 hS; have r:=Blk.rule hS; go_simp<;>rfl))
  | (refine Ord.co hT9.o ?_));try simp only [Act.put,zA,zZ,zS])
 refine Ord.ch_turn (v:=undef) 0 hT9.o rfl (by decide) (Or.inl rfl) (by rfl) ?_ ?_
 ·rintro w5 hS ⟨hA0,hA1,hA2⟩;simp only [if_true] at hA2;have r:=hA2.rule;have f0:=hA2.thaw 0 (by simp);have f1:=hA2.thaw 1 (by simp);go_simp;refine ⟨rfl,(Blk.off hS (by omega) _).off (by omega) _,by simpa using hA0,?_,?_⟩
  ·exact below_set (below_set hA1 (by omega) (Nat.le_refl _) _) (by simp; omega) (Nat.le_refl _) _
  ·exact (hA2.set (i:=0) (by simp) _).set (i:=1) (by simp) _
 try simp only [Act.put,zA,zZ,zS]
 repeat ((first
  | (refine Ord.cv ?_ hT9.o ?_ ?_; rotate_left; (intro w5 hS; skip; go_simp<;>rfl))
  | (refine Ord.co hT9.o ?_));try simp only [Act.put,zA,zZ,zS])
 refine Ord.InText.nil fun w5 hS=>?_;clear hT9;obtain ⟨hC9,hA9⟩:=Ord.chain_end hS;clear hS;obtain ⟨hA0,hA1,hA2⟩:=hA9;have q:=hA2.rule;simp only [show ¬ [10].length=0 by decide,if_false] at q
 go_wp2
 exact bodyPost_ret (v:=.tuple #[.agg #[.int .i64 hs,.int .i64 hi],.bool (hs != 0)]) (by simp [results,results44,go_sem,q]) rfl ⟨rfl,hA1⟩
end
end
section
open Go.RowKit
theorem within_any (n lo hi:Int) (w:World):Calls prog 69 #[.int .i64 n,.int .i64 lo,.int .i64 hi] w fun e w'=>e=.returned (.bool (inB n lo hi))/\w=w':=by
 go_enter func69,ntmps69
 go_wp2
 all_goals
  go_ret;exact ⟨ret_bool (by simp [inB]; try omega),rfl⟩
theorem isKind_any (k:Int) (w:World):Calls prog 68 #[.int .i64 k] w fun e w'=>e=.returned (.bool (kindB k))/\w=w':=by
 go_enter func68,ntmps68
 go_wp2
 all_goals
  go_ret;exact ⟨ret_bool (by rw [Bool.eq_iff_iff]; simp [kindB]; try omega),rfl⟩
theorem hasBuckets_any (k s b h l:Int) (w:World):Calls prog 70 #[.agg #[.int .i64 k,.int .i64 s,.int .i64 b,.int .i64 h,.int .i64 l]] w fun e w'=>e=.returned (.bool (buckB k b))/\Below w.heap.size w w':=by
 have hF:=(Fr.start w).push w.heap.size rfl [.int .i64 k,.int .i64 s,.int .i64 b,.int .i64 h,.int .i64 l] 23;go_enter func70,ntmps70;go_wp2_with
  (with_reducible refine (within_any _ _ _ _).mono ?_; rintro e w1 ⟨rfl,rfl⟩)
 all_goals
  go_ret
  (try go_light)
  (try simp only [bne_iff_ne,ne_eq,bne_eq_false_iff_eq,beq_iff_eq,beq_eq_false_iff_ne,Bool.or_eq_true,Bool.and_eq_true,decide_eq_true_eq,decide_eq_false_iff_not,Bool.or_eq_false_iff,Bool.not_eq_true',Bool.not_eq_false'] at *)
  refine ⟨ret_bool ?_,hF.below⟩;rw [Bool.eq_iff_iff,buckB_iff]
  (try simp [inB])
  (try omega)
theorem hasHeight_any (k s b h l:Int) (w:World):Calls prog 71 #[.agg #[.int .i64 k,.int .i64 s,.int .i64 b,.int .i64 h,.int .i64 l]] w fun e w'=>e=.returned (.bool (highB k h))/\Below w.heap.size w w':=by
 have hF:=(Fr.start w).push w.heap.size rfl [.int .i64 k,.int .i64 s,.int .i64 b,.int .i64 h,.int .i64 l] 23;go_enter func71,ntmps71;go_wp2_with
  (with_reducible refine (within_any _ _ _ _).mono ?_; rintro e w1 ⟨rfl,rfl⟩)
 all_goals
  go_ret
  (try go_light)
  (try simp only [bne_iff_ne,ne_eq,bne_eq_false_iff_eq,beq_iff_eq,beq_eq_false_iff_ne,Bool.or_eq_true,Bool.and_eq_true,decide_eq_true_eq,decide_eq_false_iff_not,Bool.or_eq_false_iff,Bool.not_eq_true',Bool.not_eq_false'] at *)
  refine ⟨ret_bool ?_,hF.below⟩;rw [Bool.eq_iff_iff,highB_iff]
  (try simp [inB])
  (try omega)
theorem check_any (k s b h l:Int) (w:World):Calls prog 33 #[.agg #[.int .i64 k,.int .i64 s,.int .i64 b,.int .i64 h,.int .i64 l]] w fun e w'=>e=.returned (.int .i64 (chkI k s b h l))/\Below w.heap.size w w':=by
 have hF:=(Fr.start w).push w.heap.size rfl [.int .i64 k,.int .i64 s,.int .i64 b,.int .i64 h,.int .i64 l] 23;have r:=hF.rule 0 rfl;go_enter func33,ntmps33;go_wp2_with (first
  |
   (with_reducible refine (within_any _ _ _ _).mono ?_; rintro e w1 ⟨rfl,rfl⟩)
  |
   (with_reducible refine (isKind_any _ _).mono ?_; rintro e w1 ⟨rfl,rfl⟩)
  |
   (with_reducible refine (hasBuckets_any _ _ _ _ _ _).mono ?_; rintro e w1 ⟨rfl,hb⟩; replace hF:=hF.over hb; clear hb r; have r:=hF.rule 0 rfl)
  |
   (with_reducible refine (hasHeight_any _ _ _ _ _ _).mono ?_; rintro e w1 ⟨rfl,hb⟩; replace hF:=hF.over hb; clear hb r; have r:=hF.rule 0 rfl)
  )
 all_goals
  go_ret
  (try go_light)
  (try simp only [bne_iff_ne,ne_eq,bne_eq_false_iff_eq,beq_iff_eq,beq_eq_false_iff_ne,Bool.or_eq_true,Bool.and_eq_true,decide_eq_true_eq,decide_eq_false_iff_not,Bool.or_eq_false_iff,Bool.not_eq_true',Bool.not_eq_false'] at *)
  refine ⟨ret_int ?_,hF.below⟩;simp [chkI, *]
def isB (a b:Int):Bool:=decide (0<=a/\1<=b/\b<=64 - a)
theorem isB_parts {a b:Int} (h:isB a b=true):0<=a/\1<=b/\b<=64 - a:=by simpa [isB] using h
def maxI (a b:Int):Int:=if isB a b then 2 ^ b.toNat - 1 else 0
theorem maxI_yes {a b:Int} (h:isB a b=true):maxI a b=2 ^ b.toNat - 1:=by simp [maxI,h]
theorem maxI_no {a b:Int} (h:isB a b=false):maxI a b=0:=by simp [maxI,h]
theorem ones_shift (k:Nat) (h1:k<=64):(18446744073709551615:Int) / 2 ^ (64 - k)=2 ^ k - 1:=by
 have h:∀ k ≤ 64,(18446744073709551615:Int) / 2 ^ (64 - k)=2 ^ k - 1:=by decide
 exact h k h1
theorem isB_nat {a b:Int} (h:isB a b=true):∃ A B:Nat,a=A/\b=B/\1<=B/\A+B<=64:=by
 obtain ⟨h1,h2,h3⟩:=isB_parts h;exact ⟨a.toNat,b.toNat,by omega,by omega,by omega,by omega⟩
theorem pow_le64 {k:Nat} (h:k<=64):2 ^ k<=18446744073709551616:=by
 have:=Nat.pow_le_pow_right (n:=2) (by omega) h
 simpa using this
theorem maxI_nat {A B:Nat} (h1:1<=B) (h2:A+B<=64):maxI A B=((2 ^ B - 1:Nat):Int):=by
 rw [maxI_yes (by simp [isB]; omega),Int.toNat_natCast,Int.natCast_sub (Nat.one_le_two_pow)];simp
theorem wrap_u8_small {a:Int} (h0:0<=a) (h1:a < 256):IntKind.u8.wrap a=a:=by rw [IntKind.wrap_u8]; omega
def getN (A B X:Nat):Nat:=X / 2 ^ A % 2 ^ B
def getI (a b x:Int):Int:=if isB a b then (getN a.toNat b.toNat x.toNat:Nat) else 0
theorem get_eq (a b x:Int) (h0:0<=x) (h1:x<=18446744073709551615) :
  bits .and .u64 (x / 2 ^ min (IntKind.u8.wrap a).toNat 64) (maxI a b)=getI a b x:=by
 obtain ⟨X,rfl⟩:=Int.eq_ofNat_of_zero_le h0;have e:∀ k:Nat,(X:Int) / 2 ^ k=((X / 2 ^ k:Nat):Int):=fun k=>by simp
 have hlt:∀ k:Nat,X / 2 ^ k < 18446744073709551616:=fun k=>Nat.lt_of_le_of_lt (Nat.div_le_self _ _) (by omega);cases h:isB a b
 ·rw [maxI_no h,e,show (0:Int)=((0:Nat):Int) from rfl,u64_and_nat _ _ (hlt _) (by decide)];simp [getI,h]
 ·obtain ⟨A,B,rfl,rfl,hB,hAB⟩:=isB_nat h;rw [wrap_u8_small (by omega) (by omega),maxI_nat hB hAB,e,u64_and_nat _ _ (hlt _) (by have:=pow_le64 (k:=B) (by omega); omega)];simp only [getI,h,if_true,Int.toNat_natCast,getN];rw [Nat.and_two_pow_sub_one_eq_mod,show min A 64=A by omega]
def maskN (A B:Nat):Nat:=(2 ^ B - 1) * 2 ^ A
def maskI (a b:Int):Int:=if isB a b then (maskN a.toNat b.toNat:Nat) else 0
theorem maskN_lt {A B:Nat} (h:A+B<=64):maskN A B < 18446744073709551616:=by
 unfold maskN;have h1:(2 ^ B - 1) * 2 ^ A < 2 ^ B * 2 ^ A:=Nat.mul_lt_mul_of_pos_right (by have:=Nat.one_le_two_pow (n:=B); omega) (Nat.two_pow_pos A);rw [<- Nat.pow_add] at h1;have:=pow_le64 (k:=B+A) (by omega);omega
theorem mask_eq (a b:Int):IntKind.u64.wrap (maxI a b * 2 ^ min (IntKind.u8.wrap a).toNat 64)=maskI a b:=by
 cases h:isB a b
 ·simp [maxI_no h,maskI,h,IntKind.wrap_u64]
 ·obtain ⟨A,B,rfl,rfl,hB,hAB⟩:=isB_nat h;rw [wrap_u8_small (by omega) (by omega),maxI_nat hB hAB];simp only [maskI,h,if_true,Int.toNat_natCast];rw [show min A 64=A by omega,show (((2 ^ B - 1:Nat):Int) * 2 ^ A)=((maskN A B:Nat):Int) by simp [maskN],IntKind.wrap_u64];have:=maskN_lt hAB;omega
theorem maskN_testBit (A B k:Nat):(maskN A B).testBit k=(decide (A<=k) && decide (k < A+B)):=by
 unfold maskN;rw [Nat.testBit_mul_two_pow,Nat.testBit_two_pow_sub_one]
 by_cases h:A<=k
 ·simp [h]; omega
 ·simp [h]
def putN (A B W X:Nat):Nat:=(W &&& (18446744073709551615 - maskN A B)) ||| X * 2 ^ A
def putI (a b w x:Int):Int:=(putN a.toNat b.toNat w.toNat x.toNat:Nat)
theorem putN_lt {A B W X:Nat} (hAB:A+B<=64) (hW:W < 18446744073709551616) (hX:X < 2 ^ B):putN A B W X < 18446744073709551616:=by
 have h1:X * 2 ^ A < 2 ^ 64:=by
  have h1:X * 2 ^ A < 2 ^ B * 2 ^ A:=Nat.mul_lt_mul_of_pos_right hX (Nat.two_pow_pos A);rw [<- Nat.pow_add] at h1;have:=pow_le64 (k:=B+A) (by omega);simp only [Nat.reducePow];omega
 exact Nat.or_lt_two_pow (n:=64) (Nat.lt_of_le_of_lt Nat.and_le_left (by simpa using hW)) h1
theorem put_eq (a b w x:Int) (h:isB a b=true) (hw0:0<=w) (hw1:w<=18446744073709551615) (hx0:0<=x) (hx:x<=maxI a b) :
  bits .or .u64 (bits .andNot .u64 w (maskI a b)) (IntKind.u64.wrap (x * 2 ^ min (IntKind.u8.wrap a).toNat 64))=putI a b w x:=by
 obtain ⟨A,B,rfl,rfl,hB,hAB⟩:=isB_nat h;obtain ⟨W,rfl⟩:=Int.eq_ofNat_of_zero_le hw0;obtain ⟨X,rfl⟩:=Int.eq_ofNat_of_zero_le hx0;rw [maxI_nat hB hAB] at hx;have hX:X < 2 ^ B:=by have:=Nat.one_le_two_pow (n:=B); omega
 have h1:X * 2 ^ A < 18446744073709551616:=by
  have h1:X * 2 ^ A < 2 ^ B * 2 ^ A:=Nat.mul_lt_mul_of_pos_right hX (Nat.two_pow_pos A);rw [<- Nat.pow_add] at h1;have:=pow_le64 (k:=B+A) (by omega);omega
 have e1:IntKind.u64.wrap ((X:Int) * 2 ^ min A 64)=((X * 2 ^ A:Nat):Int):=by
  rw [show min A 64=A by omega,show ((X:Int) * 2 ^ A)=((X * 2 ^ A:Nat):Int) by simp,IntKind.wrap_u64];omega
 rw [wrap_u8_small (by omega) (by omega)];simp only [maskI,h,if_true,Int.toNat_natCast,putI];rw [e1,u64_andNot_nat _ _ (by omega) (maskN_lt hAB),u64_or_nat _ _ (Nat.lt_of_le_of_lt Nat.and_le_left (by omega)) h1];rfl
theorem ones_sub_testBit {m k:Nat} (h:m < 18446744073709551616):(18446744073709551615 - m).testBit k=(decide (k < 64) && !m.testBit k):=by
 have:=Nat.testBit_two_pow_sub_succ (n:=64) (x:=m) (by simpa using h) k;rw [<- this]
 congr 1
 omega
theorem is_any (a b:Int) (w:World) (ha:a<=9223372036854775807) (_hb:-9223372036854775808<=b) :
  Calls prog 298 #[.agg #[.int .i64 a,.int .i64 b]] w fun e w'=>e=.returned (.bool (isB a b))/\Below w.heap.size w w':=by
 by_cases h1:0<=a
 ·by_cases h2:1<=b
  ·go_enter func298,ntmps298
   go_wp2
   go_ret;exact ⟨ret_bool (by simp [isB,h1,h2]),(Below.refl _ _).alloc (Nat.le_refl _) _⟩
  ·go_enter func298,ntmps298
   go_wp2
   go_ret;exact ⟨ret_bool (by simp [isB]; omega),(Below.refl _ _).alloc (Nat.le_refl _) _⟩
 ·go_enter func298,ntmps298
  go_wp2
  go_ret;exact ⟨ret_bool (by simp [isB]; omega),(Below.refl _ _).alloc (Nat.le_refl _) _⟩
theorem ret_int_bool {k:IntKind} {x y:Int} {c:Bool} (h:x=y):Ending.returned (.tuple #[.int k x,.bool c])=.returned (.tuple #[.int k y,.bool c]):=by rw [h]
theorem old_cell {B:Nat} {v v':World} (h:Below B v v') (n k:Nat) (hn:n < B):v'.cell? ⟨n,k,none⟩=v.cell? ⟨n,k,none⟩:=Below.cell h (p:=⟨n,k,none⟩) hn
theorem old_frozen {B:Nat} {v v':World} (h:Below B v v') (n k:Nat) (hn:n < B):v'.frozen? ⟨n,k,none⟩=v.frozen? ⟨n,k,none⟩:=Below.frozen h (p:=⟨n,k,none⟩) hn
theorem hold_step {n:Nat} {w w1 w2:World} {x y:Value} (c0:w1.cell? ⟨n,0,none⟩=some x) (c1:w1.cell? ⟨n,1,none⟩=some y) (hB:Below n w w1) (hs:n < w1.heap.size) (hb:Below w1.heap.size w1 w2) :
  w2.cell? ⟨n,0,none⟩=some x/\w2.cell? ⟨n,1,none⟩=some y/\Below n w w2/\n < w2.heap.size :=
 ⟨by rw [hb.cell (p:=⟨n,0,none⟩) hs]; exact c0,by rw [hb.cell (p:=⟨n,1,none⟩) hs]; exact c1,hB.trans (hb.mono (by omega)),by have:=hb.size; omega⟩
theorem max_any (a b:Int) (w:World) (ha:a<=9223372036854775807) (hb:-9223372036854775808<=b) :
  Calls prog 284 #[.agg #[.int .i64 a,.int .i64 b]] w fun e w'=>e=.returned (.int .u64 (maxI a b))/\Below w.heap.size w w':=by
 cases h:isB a b
 ·have H:=zH h;clear h;go_enter func284,ntmps284;go_wp2_with fail;refine (is_any a b _ ha hb).mono ?_;rintro e w1 ⟨rfl,hb⟩;rw [H.out]
  go_wp2
  go_ret;exact ⟨ret_int (maxI_no H.out).symm,((Below.refl _ _).alloc (Nat.le_refl _) _).trans (hb.mono (by simp))⟩
 ·have hp:=isB_parts h;have H:=zH h;clear h;go_enter func284,ntmps284;go_wp2_with fail;refine (is_any a b _ ha hb).mono ?_;rintro e w1 ⟨rfl,hb⟩;rw [H.out];have hc:=old_cell hb;have hf:=old_frozen hb
  go_wp2
  go_ret;refine ⟨ret_int ?_,((Below.refl _ _).alloc (Nat.le_refl _) _).trans (hb.mono (by simp))⟩;rw [maxI_yes H.out,show (64 - b).toNat=64 - b.toNat by omega];exact ones_shift _ (by omega)
theorem get_any (a b x:Int) (w:World) (ha:a<=9223372036854775807) (hb:-9223372036854775808<=b) (h0:0<=x) (h1:x<=18446744073709551615) :
  Calls prog 260 #[.agg #[.int .i64 a,.int .i64 b],.int .u64 x] w fun e w'=>e=.returned (.int .u64 (getI a b x))/\Below w.heap.size w w':=by
 go_enter func260,ntmps260;go_wp2_with fail
 go_region_held3 (fun w'=>w'.cell? ⟨w.heap.size,0,none⟩=some (.int .i64 a)/\w'.cell? ⟨w.heap.size,1,none⟩=some (.int .i64 b)/\Below w.heap.size w w'/\w.heap.size < w'.heap.size)
  (first | (go_split_ands; exact hold_step (by assumption) (by assumption) (by assumption) (by assumption) (by assumption)) | (refine ⟨?_,?_,?_,?_⟩<;>first | exact ((Below.refl _ _).alloc (Nat.le_refl _) _).drew | go_keep | simp))
  (first | (go_at_call 284; refine (max_any a b _ ha hb).mono ?_; rintro e w1 ⟨rfl,hb1⟩))
 all_goals
  go_wp2
  go_ret
  go_split_ands
  exact ⟨ret_int (get_eq a b x h0 h1),by assumption⟩
theorem mask_any (a b:Int) (w:World) (ha:a<=9223372036854775807) (hb:-9223372036854775808<=b) :
  Calls prog 300 #[.agg #[.int .i64 a,.int .i64 b]] w fun e w'=>e=.returned (.int .u64 (maskI a b))/\Below w.heap.size w w':=by
 go_enter func300,ntmps300;go_wp2_with fail
 go_region_held3 (fun w'=>w'.cell? ⟨w.heap.size,0,none⟩=some (.int .i64 a)/\w'.cell? ⟨w.heap.size,1,none⟩=some (.int .i64 b)/\Below w.heap.size w w'/\w.heap.size < w'.heap.size)
  (first | (go_split_ands; exact hold_step (by assumption) (by assumption) (by assumption) (by assumption) (by assumption)) | (refine ⟨?_,?_,?_,?_⟩<;>first | exact ((Below.refl _ _).alloc (Nat.le_refl _) _).drew | go_keep | simp))
  (first | (go_at_call 284; refine (max_any a b _ ha hb).mono ?_; rintro e w1 ⟨rfl,hb1⟩))
 all_goals
  go_wp2
  go_ret
  go_split_ands
  exact ⟨ret_int (mask_eq a b),by assumption⟩
theorem put_yes (a b x y:Int) (w:World) (ha:a<=9223372036854775807) (hb:-9223372036854775808<=b) (h:isB a b=true) (hx0:0<=x) (hx1:x<=18446744073709551615) (hy0:0<=y) (hy:y<=maxI a b) :
  Calls prog 286 #[.agg #[.int .i64 a,.int .i64 b],.int .u64 x,.int .u64 y] w fun e w'=>e=.returned (.tuple #[.int .u64 (putI a b x y),.bool true])/\Below w.heap.size w w':=by
 have hp:=isB_parts h;have H:=zH h;clear h;go_enter func286,ntmps286;go_wp2_with fail;refine (is_any a b _ ha hb).mono ?_;rintro e w1 ⟨rfl,hb1⟩;rw [H.out];have hc:=old_cell hb1;have hf:=old_frozen hb1;go_wp2_with fail;refine (max_any a b _ ha hb).mono ?_;rintro e w2 ⟨rfl,hb2⟩;have hs1:=hb1.size;have hs2:=hb2.size;simp at hs1;have c0:w2.cell? ⟨w.heap.size,0,none⟩=some (.int .i64 a):=by rw [hb2.cell (p:=⟨w.heap.size,0,none⟩) (by simp; omega),hc _ _ (by simp)]; simp
 have c1:w2.cell? ⟨w.heap.size,1,none⟩=some (.int .i64 b):=by rw [hb2.cell (p:=⟨w.heap.size,1,none⟩) (by simp; omega),hc _ _ (by simp)]; simp
 have hB:Below w.heap.size w w2:=(((Below.refl _ _).alloc (Nat.le_refl _) _).trans (hb1.mono (by simp))).trans (hb2.mono (by omega));have hlt:w.heap.size < w2.heap.size:=by omega
 clear hc hf hb1 hb2 hs1 hs2;go_wp2_with fail
 go_region_held3 (fun w'=>w'.cell? ⟨w.heap.size,0,none⟩=some (.int .i64 a)/\w'.cell? ⟨w.heap.size,1,none⟩=some (.int .i64 b)/\Below w.heap.size w w'/\w.heap.size < w'.heap.size)
  (first | (go_split_ands; exact hold_step (by assumption) (by assumption) (by assumption) (by assumption) (by assumption)) | exact ⟨c0,c1,hB.drew,hlt⟩)
  (first | (go_at_call 300; refine (mask_any a b _ ha hb).mono ?_; rintro e w1 ⟨rfl,hb1⟩))
 all_goals
  go_wp2
  go_ret2
  go_split_ands
  exact ⟨ret_int_bool (put_eq a b x y H.out hx0 hx1 hy0 hy),by assumption⟩
def slotI (x:Int):Int:=x / 1099511627776 % 8388608
def verI (x:Int):Int:=x % 1099511627776
def markB (x:Int):Bool:=decide (9223372036854775808<=x)
def isS (s:Int):Bool:=decide (0<=s/\s<=8388607)
def isL (s v:Int):Bool:=decide (0<=s/\s<=8388607/\0<=v/\v<=1099511627775)
def bitI (m:Bool):Int:=if m then 9223372036854775808 else 0
def wordI (m:Bool) (s v:Int):Int:=if isL s v then v+s * 1099511627776+bitI m else 0
theorem isL_parts {s v:Int} (h:isL s v=true):0<=s/\s<=8388607/\0<=v/\v<=1099511627775:=by simpa [isL] using h
theorem isL_mk {s v:Int} (h1:0<=s) (h2:s<=8388607) (h3:0<=v) (h4:v<=1099511627775):isL s v=true:=by simp [isL,h1,h2,h3,h4]
theorem isS_parts {s:Int} (h:isS s=true):0<=s/\s<=8388607:=by simpa [isS] using h
theorem slotI_in (x:Int):0<=slotI x/\slotI x<=8388607:=by unfold slotI; omega
theorem verI_in (x:Int):0<=verI x/\verI x<=1099511627775:=by unfold verI; omega
theorem wordI_in (m:Bool) (s v:Int):0<=wordI m s v/\wordI m s v<=18446744073709551615:=by
 unfold wordI
 split
 ·have:=isL_parts ‹_›;cases m<;>simp [bitI]<;>omega
 ·omega
theorem wordI_yes {m:Bool} {s v:Int} (h:isL s v=true):wordI m s v=v+s * 1099511627776+bitI m:=by simp [wordI,h]
theorem wordI_no {m:Bool} {s v:Int} (h:isL s v=false):wordI m s v=0:=by simp [wordI,h]
theorem slot_word {m:Bool} {s v:Int} (h:isL s v=true):slotI (wordI m s v)=s:=by
 have:=isL_parts h;rw [wordI_yes h];cases m<;>simp only [bitI,slotI,if_true,if_false,Bool.false_eq_true]<;>omega
theorem mark_word {m:Bool} {s v:Int} (h:isL s v=true):markB (wordI m s v)=m:=by
 have:=isL_parts h;rw [wordI_yes h];cases m<;>simp only [bitI,markB,if_true,if_false,Bool.false_eq_true,decide_eq_true_eq,decide_eq_false_iff_not]<;>omega
theorem get_version (x:Int) (h0:0<=x):getI 0 40 x=verI x:=by
 obtain ⟨X,rfl⟩:=Int.eq_ofNat_of_zero_le h0;simp only [getI,show isB 0 40=true from rfl,if_true,getN,verI,Int.toNat_natCast];simp
theorem get_slot (x:Int) (h0:0<=x):getI 40 23 x=slotI x:=by
 obtain ⟨X,rfl⟩:=Int.eq_ofNat_of_zero_le h0;simp only [getI,show isB 40 23=true from rfl,if_true,getN,slotI,Int.toNat_natCast];simp
theorem get_mark (x:Int) (h0:0<=x):getI 63 1 x=x / 9223372036854775808 % 2:=by
 obtain ⟨X,rfl⟩:=Int.eq_ofNat_of_zero_le h0;simp only [getI,show isB 63 1=true from rfl,if_true,getN,Int.toNat_natCast];simp
theorem mark_one (x:Int) (h0:0<=x) (h1:x<=18446744073709551615):decide (getI 63 1 x=1)=markB x:=by
 rw [get_mark x h0];unfold markB
 by_cases h:9223372036854775808<=x
 ·simp only [h,decide_true,decide_eq_true_eq]; omega
 ·simp only [h,decide_false,decide_eq_false_iff_not]; omega
theorem putN_above {A B W X:Nat} (hAB:A+B<=64) (hW:W < 2 ^ A):putN A B W X=W+X * 2 ^ A:=by
 have e1:W &&& (18446744073709551615 - maskN A B)=W:=by
  apply Nat.eq_of_testBit_eq;intro i;rw [Nat.testBit_and,ones_sub_testBit (maskN_lt hAB),maskN_testBit]
  by_cases hi:i < A
  ·have h1:¬ A<=i:=by omega
   have h2:i < 64:=by omega
   simp [h1,h2]
  ·have:=Nat.testBit_lt_two_pow (Nat.lt_of_lt_of_le hW (Nat.pow_le_pow_right (n:=2) (by omega) (show A<=i by omega)));simp [this]
 unfold putN;rw [e1,Nat.or_comm,Nat.mul_comm,<- Nat.two_pow_add_eq_or_of_lt hW];omega
theorem put_version (v:Int) (h0:0<=v):putI 0 40 0 v=v:=by
 obtain ⟨V,rfl⟩:=Int.eq_ofNat_of_zero_le h0;have:=putN_above (A:=0) (B:=40) (W:=0) (X:=V) (by omega) (by simp);simp only [putI,Int.toNat_natCast,Int.toNat_zero,show (40:Int).toNat=40 from rfl];rw [this];simp
theorem put_slot (v s:Int) (h0:0<=v) (h1:v<=1099511627775) (h2:0<=s):putI 40 23 v s=v+s * 1099511627776:=by
 obtain ⟨V,rfl⟩:=Int.eq_ofNat_of_zero_le h0;obtain ⟨S,rfl⟩:=Int.eq_ofNat_of_zero_le h2;have:=putN_above (A:=40) (B:=23) (W:=V) (X:=S) (by omega) (by simp; omega);simp only [putI,Int.toNat_natCast,show (40:Int).toNat=40 from rfl,show (23:Int).toNat=23 from rfl];rw [this];simp
theorem put_mark (x:Int) (h0:0<=x) (h1:x < 9223372036854775808):putI 63 1 x 1=x+9223372036854775808:=by
 obtain ⟨X,rfl⟩:=Int.eq_ofNat_of_zero_le h0;have:=putN_above (A:=63) (B:=1) (W:=X) (X:=1) (by omega) (by simp; omega);simp only [putI,Int.toNat_natCast,show (63:Int).toNat=63 from rfl,show (1:Int).toNat=1 from rfl];rw [this];simp
theorem max_parts:maxI 0 40=1099511627775/\maxI 40 23=8388607/\maxI 63 1=1/\isB 0 40=true/\isB 40 23=true/\isB 63 1=true:=by decide +kernel
def nextE (x s:Int):Int:=if isS s then (if verI x=1099511627775 then 7 else 0) else 3
def nextW (x s:Int):Int:=if isS s then (if verI x=1099511627775 then 0 else wordI false s (verI x+1)) else 0
def markedW (x s v:Int):Int:=if markB x then x else wordI true s v
def Glo (w:World):Prop :=
 (w.cell? ⟨0,0,none⟩=some (.int .i64 0)/\w.cell? ⟨0,1,none⟩=some (.int .i64 40)) /\
 (w.cell? ⟨1,0,none⟩=some (.int .i64 40)/\w.cell? ⟨1,1,none⟩=some (.int .i64 23)) /\
 (w.cell? ⟨2,0,none⟩=some (.int .i64 63)/\w.cell? ⟨2,1,none⟩=some (.int .i64 1)) /\
 0 < w.heap.size/\1 < w.heap.size/\2 < w.heap.size
theorem Glo.keep {n:Nat} {w w':World} (h:Glo w) (hb:Below n w w') (hn:w.heap.size<=n):Glo w':=by
 obtain ⟨⟨a0,a1⟩,⟨b0,b1⟩,⟨c0,c1⟩,h1,h2,h3⟩:=h;have:=hb.size;refine ⟨⟨?_,?_⟩,⟨?_,?_⟩,⟨?_,?_⟩,by omega,by omega,by omega⟩
 ·rw [hb.cell (p:=⟨_,0,none⟩) (by simp; omega)]; exact a0
 ·rw [hb.cell (p:=⟨_,1,none⟩) (by simp; omega)]; exact a1
 ·rw [hb.cell (p:=⟨_,0,none⟩) (by simp; omega)]; exact b0
 ·rw [hb.cell (p:=⟨_,1,none⟩) (by simp; omega)]; exact b1
 ·rw [hb.cell (p:=⟨_,0,none⟩) (by simp; omega)]; exact c0
 ·rw [hb.cell (p:=⟨_,1,none⟩) (by simp; omega)]; exact c1
theorem Glo.keep' {w1 w2:World} (h:Glo w1) (hb:Below w1.heap.size w1 w2):Glo w2:=h.keep hb (Nat.le_refl _)
theorem Glo.alloc {w:World} (h:Glo w) (o:Obj):Glo (w.alloc o):=h.keep ((Below.refl _ _).alloc (Nat.le_refl _) _) (Nat.le_refl _)
theorem isSlot_any (s:Int) (w:World):Calls prog 299 #[.int .i64 s] w fun e w'=>e=.returned (.bool (isS s))/\w=w':=by
 by_cases h1:0<=s
 ·go_enter func299,ntmps299
  go_wp2
  go_ret;exact ⟨ret_bool (by simp [isS,h1]),rfl⟩
 ·have hd:decide (0<=s)=false:=by simpa using h1
  go_enter func299,ntmps299
  go_wp2
  go_ret;exact ⟨ret_bool (by simp [isS]; omega),rfl⟩
theorem slot_any (x:Int) (w:World) (hg:Glo w) (h0:0<=x) (h1:x<=18446744073709551615) :
  Calls prog 240 #[.int .u64 x] w fun e w'=>e=.returned (.int .i64 (slotI x))/\Below w.heap.size w w':=by
 obtain ⟨-,⟨c0,c1⟩,-,-,hs,-⟩:=hg;obtain ⟨k0,k1⟩:=slotI_in x;have HG:=zH (get_slot x h0);go_enter func240,ntmps240;go_wp2_with fail;refine (get_any 40 23 x _ (by decide) (by decide) h0 h1).mono ?_;rintro e w1 ⟨rfl,hb⟩;rw [HG.out]
 go_wp2
 go_ret;exact ⟨rfl,hb⟩
theorem hold3 {n:Nat} {w w1 w2:World} {x y z:Value} (c0:w1.cell? ⟨n,0,none⟩=some x) (c1:w1.cell? ⟨n,1,none⟩=some y) (c2:w1.cell? ⟨n,2,none⟩=some z) (hB:Below n w w1) (hs:n < w1.heap.size) (hb:Below w1.heap.size w1 w2) :
  w2.cell? ⟨n,0,none⟩=some x/\w2.cell? ⟨n,1,none⟩=some y/\w2.cell? ⟨n,2,none⟩=some z/\Below n w w2/\n < w2.heap.size :=
 ⟨by rw [hb.cell (p:=⟨n,0,none⟩) hs]; exact c0,by rw [hb.cell (p:=⟨n,1,none⟩) hs]; exact c1,by rw [hb.cell (p:=⟨n,2,none⟩) hs]; exact c2,hB.trans (hb.mono (by omega)),by have:=hb.size; omega⟩
theorem linkIs_any (m:Bool) (s v:Int) (w:World) :
  Calls prog 285 #[.agg #[.bool m,.int .i64 s,.int .i64 v]] w fun e w'=>e=.returned (.bool (isL s v))/\Below w.heap.size w w':=by
 cases hS:isS s
 ·have H:=zH hS;go_enter func285,ntmps285;go_wp2_with fail;refine (isSlot_any s _).mono ?_;rintro e w1 ⟨rfl,rfl⟩;rw [H.out]
  go_wp2
  go_ret;exact ⟨ret_bool (by have:=H.out; simp [isS] at this; simp [isL]; omega),(Below.refl _ _).alloc (Nat.le_refl _) _⟩
 ·obtain ⟨k0,k1⟩:=isS_parts hS;have H:=zH hS;clear hS
  by_cases h2:0<=v
  ·go_enter func285,ntmps285;go_wp2_with fail;refine (isSlot_any s _).mono ?_;rintro e w1 ⟨rfl,rfl⟩;rw [H.out]
   go_wp2
   go_ret;exact ⟨ret_bool (by simp [isL,h2,k0,k1]),(Below.refl _ _).alloc (Nat.le_refl _) _⟩
  ·have hd:decide (0<=v)=false:=by simpa using h2
   go_enter func285,ntmps285;go_wp2_with fail;refine (isSlot_any s _).mono ?_;rintro e w1 ⟨rfl,rfl⟩;rw [H.out]
   go_wp2
   go_ret;exact ⟨ret_bool (by simp [isL]; omega),(Below.refl _ _).alloc (Nat.le_refl _) _⟩
theorem put1 (v:Int) (w:World) (h0:0<=v) (h1:v<=1099511627775) :
  Calls prog 286 #[.agg #[.int .i64 0,.int .i64 40],.int .u64 0,.int .u64 v] w fun e w'=>e=.returned (.tuple #[.int .u64 v,.bool true])/\Below w.heap.size w w':=by
 have:=put_yes 0 40 0 v w (by decide) (by decide) max_parts.2.2.2.1 (by decide) (by decide) h0 (by rw [max_parts.1]; exact h1);rw [put_version v h0] at this;exact this
theorem put2 (v s:Int) (w:World) (h0:0<=v) (h1:v<=1099511627775) (h2:0<=s) (h3:s<=8388607) :
  Calls prog 286 #[.agg #[.int .i64 40,.int .i64 23],.int .u64 v,.int .u64 s] w fun e w'=>e=.returned (.tuple #[.int .u64 (v+s * 1099511627776),.bool true])/\Below w.heap.size w w':=by
 have:=put_yes 40 23 v s w (by decide) (by decide) max_parts.2.2.2.2.1 h0 (by omega) h2 (by rw [max_parts.2.1]; exact h3);rw [put_slot v s h0 h1 h2] at this;exact this
theorem put3 (x:Int) (w:World) (h0:0<=x) (h1:x < 9223372036854775808) :
  Calls prog 286 #[.agg #[.int .i64 63,.int .i64 1],.int .u64 x,.int .u64 1] w fun e w'=>e=.returned (.tuple #[.int .u64 (x+9223372036854775808),.bool true])/\Below w.heap.size w w':=by
 have:=put_yes 63 1 x 1 w (by decide) (by decide) max_parts.2.2.2.2.2 h0 (by omega) (by decide) (by rw [max_parts.2.2.1]; decide);rw [put_mark x h0 h1] at this;exact this
theorem word_any (m:Bool) (s v:Int) (w:World) (hg:Glo w) :
  Calls prog 261 #[.agg #[.bool m,.int .i64 s,.int .i64 v]] w fun e w'=>e=.returned (.int .u64 (wordI m s v))/\Below w.heap.size w w':=by
 cases h:isL s v
 ·have H:=zH h;clear h;go_enter func261,ntmps261;go_wp2_with fail;refine (linkIs_any m s v _).mono ?_;rintro e w1 ⟨rfl,hb⟩;rw [H.out]
  go_wp2
  go_ret;exact ⟨ret_int (wordI_no H.out).symm,((Below.refl _ _).alloc (Nat.le_refl _) _).trans (hb.mono (by simp))⟩
 ·have hp:=isL_parts h;have H:=zH h;clear h;obtain ⟨k0,k1,k2,k3⟩:=hp;have hA:=hg.alloc (.cells #[.bool m,.int .i64 s,.int .i64 v] 310);clear hg;go_enter func261,ntmps261;go_wp2_with fail;refine (linkIs_any m s v _).mono ?_;rintro e w1 ⟨rfl,hb⟩;have hA1:=hA.keep' hb;obtain ⟨d0,d1,d2,hB,hs⟩:=hold3 (n:=w.heap.size) (w:=w) (x:=.bool m) (y:=.int .i64 s) (z:=.int .i64 v) (by simp) (by simp) (by simp) ((Below.refl _ _).alloc (Nat.le_refl _) _) (by simp) hb;clear hb hA;rw [H.out];obtain ⟨⟨a0,a1⟩,⟨b0,b1⟩,⟨c0,c1⟩,g1,g2,g3⟩:=id hA1;go_wp2_with fail;refine (put1 v _ k2 k3).mono ?_;rintro e w2 ⟨rfl,hb⟩;have hA2:=hA1.keep' hb;obtain ⟨e0,e1,e2,hB2,hs2⟩:=hold3 d0 d1 d2 hB hs hb;clear hb hA1 d0 d1 d2 hB hs a0 a1 b0 b1 c0 c1 g1 g2 g3;obtain ⟨⟨a0,a1⟩,⟨b0,b1⟩,⟨c0,c1⟩,g1,g2,g3⟩:=id hA2;go_wp2_with fail;refine (put2 v s _ k2 k3 k0 k1).mono ?_;rintro e w3 ⟨rfl,hb⟩;have hA3:=hA2.keep' hb;obtain ⟨d0,d1,d2,hB,hs⟩:=hold3 e0 e1 e2 hB2 hs2 hb;clear hb hA2 e0 e1 e2 hB2 hs2 a0 a1 b0 b1 c0 c1 g1 g2 g3;obtain ⟨⟨a0,a1⟩,⟨b0,b1⟩,⟨c0,c1⟩,g1,g2,g3⟩:=id hA3;have q0:0<=v+s * 1099511627776:=by omega
  have q1:v+s * 1099511627776 < 9223372036854775808:=by omega
  cases m
  ·have HW:=zH (wordI_yes (m:=false) H.out);clear hA3;go_wp2_with fail;go_ret;exact ⟨ret_int (by rw [HW.out]; simp [bitI]),hB⟩
  ·have HW:=zH (wordI_yes (m:=true) H.out);clear hA3;go_wp2_with fail;refine (put3 _ _ q0 q1).mono ?_;rintro e w4 ⟨rfl,hb⟩;go_wp2_with fail;go_ret;exact ⟨ret_int (by rw [HW.out]; simp [bitI]),hB.trans (hb.mono (by omega))⟩
end
section
open Go.RowKit Go.Maps
section
variable {w0 w:World} {L:List Item}
theorem newYes_c (k s b h l:Int) (hc:chkI k s b h l=0) (hE:Env w0 L w) :
  Calls prog 19 #[.agg #[.int .i64 k,.int .i64 s,.int .i64 b,.int .i64 h,.int .i64 l]] w fun o w'=>∃ c q F,o=.returned (.pointer (some ⟨c,0,none⟩))/\Env w0 (coreI c k s b h l 0 0 0 0 q::queueI q F [] 2::L) w':=by
 have HC:=zH hc;clear hc;have hE1:=hE.box w.heap.size rfl [.int .i64 k,.int .i64 s,.int .i64 b,.int .i64 h,.int .i64 l] 23;clear hE;have r:=hE1.rule 0 rfl;go_enter func19,ntmps19;go_wp2_with fail;refine (check_any k s b h l _).mono ?_;rintro o w1 ⟨rfl,hb⟩;rw [HC.out];replace hE1:=hE1.over hb;clear hb r;generalize w.heap.size=X at *;go_wp2_with fail;refine Ord3.wp_chain [?_,?_,?_,?_,?_] [1,2,3,4] (fun w'=>Blk 0 w' X [.int .i64 k,.int .i64 s,.int .i64 b,.int .i64 h,.int .i64 l]) (Ord3.Stage fun κs=>[Env w0 (boxI X [.int .i64 k,.int .i64 s,.int .i64 b,.int .i64 h,.int .i64 l]::L),fun w'=>∃ q,κs.getD 0 undef=.pointer (some ⟨q,0,none⟩)/\∃ F,Env w0 (queueI q F [] 2::boxI X [.int .i64 k,.int .i64 s,.int .i64 b,.int .i64 h,.int .i64 l]::L) w',fun w'=>∃ q,κs.getD 1 undef=(.agg #[.int .i64 k,.int .i64 s,.int .i64 b,.int .i64 h,.int .i64 l,.int .i64 0,.int .i64 0,.int .i64 0,.int .i64 0,.pointer (some ⟨q,0,none⟩)])/\∃ F,Env w0 (queueI q F [] 2::boxI X [.int .i64 k,.int .i64 s,.int .i64 b,.int .i64 h,.int .i64 l]::L) w',fun w'=>∃ c,κs.getD 2 undef=.pointer (some ⟨c,0,none⟩)/\∃ q F,Env w0 (coreI c k s b h l 0 0 0 0 q::queueI q F [] 2::boxI X [.int .i64 k,.int .i64 s,.int .i64 b,.int .i64 h,.int .i64 l]::L) w',fun w'=>∃ c,κs.getD 3 undef=.pointer (some ⟨c,0,none⟩)/\∃ q F,Env w0 (coreI c k s b h l 0 0 0 0 q::queueI q F [] 2::boxI X [.int .i64 k,.int .i64 s,.int .i64 b,.int .i64 h,.int .i64 l]::L) w']) (by kernel_rfl) (by kernel_rfl) (by kernel_rfl) (hE1.drew.get 0 rfl) ⟨_,rfl,hE1.drew⟩ (fun hT=>?_);rotate_left 5;have hT9:=zH hT;clear hT
 repeat ((first
  | (focus (refine Ord3.in_value (v:=?_) hT9.o (by decide) ?_ (by rfl) ?_ ?_; rotate_left 2; (intro w5 hS; have r:=Blk.rule hS; go_simp<;>rfl); rotate_right; (focus rfl)))
  | (focus (refine Ord3.in_off hT9.o (by decide) ?_ (by rfl) ?_; (focus rfl))));try simp only [Act.put,zA,zZ,zS])
 refine Ord3.in_turn (fun u=>∃ q,u=.pointer (some ⟨q,0,none⟩)) _ ⟨0,rfl⟩ hT9.o rfl (by decide) (by rfl) ?_ (Or.inl rfl) (by rfl) ?_ ?_
 ·rfl
 ·rintro w7 hC7 ⟨P7,hP7,hA7⟩;cases hP7;go_simp;simp only [Ord3.Lands];refine (newQ_any (xs:=[]) (A:=none) (cap:=0) (by simp) Row3.nil).mono ?_;rintro o w8 ⟨q8,F8,k8,rfl,hrm,hQ,hb8,hF8⟩;have hk8:=hrm.unique (Rm.same (by simp));subst hk8;have hE8:=hA7.madeQ hQ hF8 hb8;exact ⟨_,rfl,⟨q8,rfl⟩,hE8.get 1 rfl,_,rfl,q8,rfl,F8,hE8⟩
 rintro _ ⟨q9,rfl⟩
 try simp only [Act.put,zA,zZ,zS]
 refine Ord3.in_turn (fun u=>∃ q,u=(.agg #[.int .i64 k,.int .i64 s,.int .i64 b,.int .i64 h,.int .i64 l,.int .i64 0,.int .i64 0,.int .i64 0,.int .i64 0,.pointer (some ⟨q,0,none⟩)])) _ ⟨0,rfl⟩ hT9.o rfl (by decide) (by rfl) ?_ (Or.inr ⟨_,1,[],rfl,by kernel_rfl,by kernel_rfl,rfl⟩) (by rfl) ?_ ?_
 ·rfl
 ·rintro w7 hC7 ⟨P7,hP7,hA7⟩;cases hP7;obtain ⟨q8,he,F8,hA7⟩:=hA7;cases he;go_simp;simp only [Ord3.Lands];exact ⟨⟨_,rfl⟩,hC7,_,rfl,q9,rfl,F8,hA7⟩
 rintro _ ⟨q10,rfl⟩
 try simp only [Act.put,zA,zZ,zS]
 refine Ord3.in_turn (fun u=>∃ c,u=.pointer (some ⟨c,0,none⟩)) _ ⟨0,rfl⟩ hT9.o rfl (by decide) (by rfl) ?_ (Or.inr ⟨_,2,[],rfl,by kernel_rfl,by kernel_rfl,rfl⟩) (by rfl) ?_ ?_
 ·rfl
 ·rintro w7 hC7 ⟨P7,hP7,hA7⟩;cases hP7;obtain ⟨q8,he,F8,hA7⟩:=hA7;cases he;go_simp;simp only [Ord3.Lands];have hE8:=hA7.box w7.heap.size rfl (crv k s b h l 0 0 0 0 q10) 137;exact ⟨⟨_,rfl⟩,hE8.get 2 rfl,_,rfl,w7.heap.size,rfl,q10,F8,hE8⟩
 rintro _ ⟨c8,rfl⟩
 try simp only [Act.put,zA,zZ,zS]
 refine Ord3.in_turn (fun u=>∃ c,u=.pointer (some ⟨c,0,none⟩)) _ ⟨0,rfl⟩ hT9.o rfl (by decide) (by rfl) ?_ (Or.inr ⟨_,3,[],rfl,by kernel_rfl,by kernel_rfl,rfl⟩) (by rfl) ?_ ?_
 ·rfl
 ·rintro w7 hC7 ⟨P7,hP7,hA7⟩;cases hP7;obtain ⟨c7,he,q8,F8,hA7⟩:=hA7;cases he;go_simp;simp only [Ord3.Lands];exact ⟨⟨_,rfl⟩,hC7,_,rfl,c8,rfl,q8,F8,hA7⟩
 rintro _ ⟨c9,rfl⟩
 try simp only [Act.put,zA,zZ,zS]
 refine Ord3.in_nil rfl ?_;rintro w9 hC9 ⟨P9,hP9,hA9⟩;cases hP9;obtain ⟨c8,he,q8,F8,hA9⟩:=hA9;cases he;clear hT9 hC9;go_wp2_with fail;go_ret;exact ⟨c9,q8,F8,rfl,hA9.sub (.cons_cons _ (.cons_cons _ (.cons _ (List.Sublist.refl _))))⟩
end
theorem lead_c (v d:Int) (t:Bool) (w:World) (hv:InU v) (hg:Glo w) :
  Calls prog 211 #[.agg #[.int .u64 v,.int .i64 d,.bool t]] w fun o w'=>o=.returned (.agg #[.int .i64 (slotI v),.int .i64 d])/\Below w.heap.size w w':=by
 unfold InU at hv;have HGB:=zH fun (x:World) (hx:Below w.heap.size w x)=>slot_any v x (hg.keep' hx) hv.1 hv.2;clear hg;have hF:=((Fr.start w).push w.heap.size rfl [.int .u64 v,.int .i64 d,.bool t] 127).push (w.heap.size+1) (by simp) [.int .i64 0,.int .i64 0] 110;have hX:=hF.blk 1 rfl (by omega);have hZ:=hF.blk 0 rfl (by omega);have hE:=hF.below;clear hF;go_enter func211,ntmps211;go_wp2_with fail;refine Ord.wc [6] (fun w'=>Below w.heap.size w w'/\Blk 0 w' w.heap.size [.int .u64 v,.int .i64 d,.bool t]) (fun j w'=>Blk 0 w' (w.heap.size+1) (if j=0 then [.int .i64 0,.int .i64 0] else [.int .i64 (slotI v),.int .i64 d])) ⟨hE.drew,hX.drew⟩ hZ.drew fun hT9=>?_
 repeat ((first
  | (refine Ord.cv ?_ hT9.o ?_ ?_; rotate_left; (intro w5 hS; have r:=Blk.rule hS.2; go_simp<;>rfl))
  | (refine Ord.co hT9.o ?_)
  | (refine Ord.cc ?_ ?_ ?_ hT9.o ?_ ?_ ?_; rotate_left 3; (intro w5 hS; have r:=Blk.rule hS.2; go_simp; constructor<;>rfl); (intro w5 hS; (first | (with_reducible refine kp (HGB.out _ hS.1) ?_ ?_; rfl; exact fun w6 hb6=>⟨⟨hS.1.trans (hb6.mono hS.1.size),hS.2.under hb6⟩,fun _ h=>h.under hb6⟩)))));try simp only [Act.put,zA,zZ,zS])
 refine Ord.ch_turn (v:=undef) 0 hT9.o rfl (by decide) (Or.inl rfl) (by rfl) ?_ ?_
 ·rintro w5 hS hA2;simp only [if_true] at hA2;have r:=hA2.rule;have f0:=hA2.thaw 0 (by simp);have f1:=hA2.thaw 1 (by simp);have hz:=hS.1.size;go_simp;refine ⟨rfl,⟨?_,?_⟩,?_⟩
  ·exact below_set (below_set hS.1 hz (by omega) _) (by simp; omega) (by omega) _
  ·exact (hS.2.off (by omega) _).off (by omega) _
  ·exact (hA2.set (i:=0) (by simp) _).set (i:=1) (by simp) _
 try simp only [Act.put,zA,zZ,zS]
 repeat ((first
  | (refine Ord.cv ?_ hT9.o ?_ ?_; rotate_left; (intro w5 hS; skip; go_simp<;>rfl))
  | (refine Ord.co hT9.o ?_));try simp only [Act.put,zA,zZ,zS])
 refine Ord.InText.nil fun w5 hS=>?_;clear hT9;obtain ⟨hC9,hA9⟩:=Ord.chain_end hS;clear hS;have q:=hA9.rule;simp only [show ¬ [6].length=0 by decide,if_false] at q
 go_wp2
 exact bodyPost_ret (v:=.agg #[.int .i64 (slotI v),.int .i64 d]) (by simp [results,results211,go_sem,q]) rfl ⟨rfl,hC9.1⟩
end
end Go.Proofs.YtffncfmciockmaaGreatDoor
