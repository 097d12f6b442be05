/- What is proved on the way to the statement, part 17: contracts of the functions, among other things in memory. -/
import Derived.Test.YtdknbegcflldjaaGreatDoorM16
import Derived.LoopIn
import Derived.Test.YtdknbegcflldjaaGreatDoorTie
import Derived.LaidMore
import Derived.Stop.Joined
import Derived.WalkKit
import Derived.ProofKit
import Derived.OpenShut
import Derived.Deep.SlicePairs
import Derived.SevenTiedAt

open _root_.Go.Proofs.Tryz
set_option maxRecDepth 100000
set_option maxHeartbeats 25600000
namespace Go.Proofs.YtdknbegcflldjaaGreatDoor
section
open Go.RowKit Go.Maps Go.Shelf Go.Sort
theorem holds_of_row {w:World} {g cap:Nat} {cur:Array Value} {l:List Plc} {t:TypeId} (hg:w.heap[g]?=some (.cells cur t (0,0))) (hc:cur.size=cap * 3) (hl:l.length<=cap) (ht:cur.toList.take (l.length * 3)=flatP l):HoldsK encP 3 w g 0 l.toArray:=by
 intro j hj;have hj':j < l.length * 3:=by simpa using hj
 refine ⟨?_,by simp [World.frozen?,hg]⟩;have h1:(cur.toList.take (l.length * 3))[j]?=(flatP l)[j]?:=by rw [ht]
 rw [List.getElem?_take_of_lt hj'] at h1;have h2:=flatP_get l (j / 3) (j % 3) (by omega) (by omega);rw [show j / 3 * 3+j % 3=j by omega] at h2;have h3:(encP (l.getD (j / 3) z3))[j % 3]?=some ((encP (l.getD (j / 3) z3))[j % 3]!):=by
  have:j % 3 < (encP (l.getD (j / 3) z3)).length:=by simp [encP]; omega
  rw [List.getElem?_eq_getElem this,getElem!_pos (encP (l.getD (j / 3) z3)) (j % 3) this]
 simp only [World.cell?,hg,Nat.zero_add];rw [get_flatK _ _ _ _ (by simpa using hj')];have h4:l.toArray[j / 3]! = l.getD (j / 3) z3:=by
  have hlt:j / 3 < l.length:=by omega
  simp [hlt]
 have h5:cur[j]?=some ((encP (l.getD (j / 3) z3))[j % 3]!):=by
  rw [<- h3,<- h2,<- h1]; simp
 rw [h4]
 simpa using h5
theorem grown_sorted {w:World} {g n:Nat} {os:Array Obj} (d:Array Plc):w.grownBy (sortWorldK encP 3 w g 0 n d os) (some g):=by
 refine ⟨rfl,rfl,rfl,by simp [sortWorldK,putRowK,grow,putRow,mapBlock,Sort.ahead],fun k hk hne=>?_⟩;have h1:g≠k:=fun e=>hne (by rw [e]);unfold sortWorldK putRowK;rw [heap_grow_old _ _ (by simpa [putRow,mapBlock,Sort.ahead] using hk)];simp [putRow,mapBlock,Sort.ahead,Array.getElem?_modify,h1]
theorem row_of_holds {w:World} {g cap:Nat} {l:List Plc} (hg:g < w.heap.size) (h:HoldsK encP 3 w g 0 l.toArray):RowP w (.slice (some ⟨g,0,none⟩) l.length cap) l:=by
 refine .inr ⟨g,cap,rfl,hg,fun j hj=>?_⟩;have e:l.toArray[j]! = l.getD j z3:=by simp [hj]
 have h0:=(h.cell (i:=j) (c:=0) (by simpa using hj) (by omega)).1;have h1:=(h.cell (i:=j) (c:=1) (by simpa using hj) (by omega)).1;have h2:=(h.cell (i:=j) (c:=2) (by simpa using hj) (by omega)).1;rw [e] at h0 h1 h2;simp only [Nat.zero_add,Nat.add_zero] at h0 h1 h2;exact ⟨h0,h1,h2⟩
theorem sortL_perm (l:List Plc):(sortL l).Perm l:=List.mergeSort_perm _ _
theorem sortL_rising {l:List Plc} (h:l.Nodup):Rising (sortL l):=by
 have hs:(sortL l).Pairwise fun x y=>(!(ltOf cmpP) y x)=true:=by
  unfold sortL;refine List.pairwise_mergeSort (fun a b c h1 h2=>?_) (fun a b=>?_) l
  ·simp only [Bool.not_eq_true'] at *;exact swoP.ntrans _ _ _ h2 h1
  ·simp only [Bool.or_eq_true,Bool.not_eq_true'];cases h1:ltOf cmpP b a
   ·exact .inl rfl
   ·refine .inr ?_;cases h2:ltOf cmpP a b
    ·rfl
    ·have:=swoP.trans _ _ _ h1 h2;rw [swoP.irrefl] at this;cases this
 have hn:(sortL l).Nodup:=(sortL_perm l).nodup_iff.2 h;refine (hs.and hn).imp fun {x y} hxy=>?_;obtain ⟨h1,h2⟩:=hxy;cases h3:ltOf cmpP x y
 ·exact absurd (totP x y h3 (by simpa using h1)) h2
 ·rfl
theorem PlacesOf.sort {f:Plc->Int} {ss:List Plc} (h:OpsF f ss):PlacesOf f (sortL ss):=⟨sortL_rising h.1,fun x=>((sortL_perm ss).mem_iff).trans (h.2 x)⟩
theorem collect_any {Bm nn:Nat} {mp:Option Nat} {f:Plc->Int} {w:World} (hBm:Bm < w.heap.size)
  (hm:w.cell? ⟨Bm,0,none⟩=some (.map mp)) (hM:MapIs w mp f nn) (hN:nn<=maxLen) (hNb:nn * 24<=140737488355328) :
  Calls prog 160 #[.func (.func 162) #[] #[.pointer (some ⟨Bm,0,none⟩)]] w fun e w'=>∃ v ss,e=.returned v/\OpsN f nn ss/\w'.ownsRow w.heap.size 105 3 v ss.length (flatP ss)/\(v=.slice none 0 0 ↔ ss=[])/\Below w.heap.size w w':=by
 have h1:Calls prog 198 #[.slice none 0 0,.func (.func 162) #[] #[.pointer (some ⟨Bm,0,none⟩)]] w _:=(callsIn_wide (n:=6)).1 (append_in Fence.wide 6 trivial trivial rfl (by omega) hBm hm hM hN hNb);clear hm hM;go_enter func160,ntmps160;go_wp2_with (refine h1.mono ?_; rintro e w1 ⟨v,ss,rfl,h2,h3,h4,h5⟩);go_ret;exact ⟨v,ss,rfl,h2,h3,h4,h5⟩
theorem sorted_any {Bm nn:Nat} {mp:Option Nat} {f:Plc->Int} {w:World} (hBm:Bm < w.heap.size)
  (hm:w.cell? ⟨Bm,0,none⟩=some (.map mp)) (hM:MapIs w mp f nn) (hN:nn<=maxLen) (hNb:nn * 24<=140737488355328) :
  Calls prog 125 #[.func (.func 162) #[] #[.pointer (some ⟨Bm,0,none⟩)],.func (.func 127) #[] #[]] w fun e w'=>∃ v l,e=.returned v/\PlacesOf f l/\RowP w' v l/\Below w.heap.size w w':=by
 have h1:=collect_any hBm hm hM hN hNb;clear hm hM;go_enter func125,ntmps125;go_wp2_with fail;refine h1.mono ?_;rintro e w1 ⟨v,ss,rfl,⟨h2,h2n⟩,h3,h4,h5⟩
 rcases h3.2 with ⟨rfl,hz⟩ | ⟨g,cap,cur,rfl,hg0,hg,hl,hcap,hcs,htk⟩
 ·have hs:ss=[]:=h4.1 rfl;subst hs;go_wp2_with (refine (sort_none _ _ _ _).mono ?_; rintro e w2 ⟨rfl,rfl⟩);go_ret;exact ⟨_,[],rfl,⟨List.Pairwise.nil,fun x=>by simpa using h2.2 x⟩,.inl ⟨rfl,rfl⟩,h5⟩
 ·have hH:=holds_of_row hg hcs hl htk;have hgl:g < w1.heap.size:=(Array.getElem?_eq_some_iff.1 hg).1;have hc:=sort_any g 0 cap ss.toArray w1 hH hgl (by simp; omega);have h6:=PlacesOf.sort h2;have hlen:(sortL ss).length=ss.length:=(sortL_perm ss).length_eq;simp only [List.size_toArray] at hc;have HH:=zH hH;clear h1 h3 h4 hg htk hcs hH;go_wp2_with (refine hc.mono ?_; rintro e w2 ⟨rfl,n,os,rfl⟩);go_ret;have hgr:=grown_sorted (w:=w1) (g:=g) (n:=n) (os:=os) (sortL ss).toArray;refine ⟨_,sortL ss,rfl,h6,?_,h5.grown hgr h5.size fun k e=>by cases e; exact hg0⟩;rw [<- hlen];refine row_of_holds (Nat.lt_of_lt_of_le hgl hgr.size) (holdsK_grow _ _ _ _ _ _ _ (by simpa [putRowK,putRow,mapBlock,Sort.ahead] using hgl) (holdsK_putRowK _ _ _ _ _ ss.toArray _ ?_ (by simp [hlen])));exact holdsK_ahead _ _ _ _ _ _ _ HH.out
theorem places_any {c n:Nat} {F:Nat->Prop} {f:Plc->Int} {q:Cnt} {w:World} (hn:n<=1000000) (hC:IsC w c F f q n) :
  Calls prog 78 #[.pointer (some ⟨c,0,none⟩)] w fun e w'=>∃ v l,e=.returned v/\PlacesOf f l/\RowP w' v l/\Below w.heap.size w w':=by
 obtain ⟨mp,hb,hm,hF⟩:=hC;have r:=hb.rule;unfold cv at r;have hk:=fun w'=>(callsIn_wide (n:=6)).1 (keys_in Fence.wide 6 trivial rfl mp w');have hs:=sorted_any (w:=w.alloc (.cells #[.map mp] 214)) (Bm:=w.heap.size) (by simp) ((Blk.new 0 w [.map mp] _).rule 0) (hm.more _) (by unfold maxLen; omega) (by omega);go_enter func78,ntmps78;go_wp2_with fail;refine (hk _).mono ?_;rintro e w1 ⟨rfl,rfl⟩;clear hk;go_wp2_with fail;refine hs.mono ?_;rintro e w2 ⟨v,l,rfl,h1,h2,h3⟩;clear hs
 go_wp2
 go_ret;exact ⟨v,l,rfl,h1,h2,((Below.refl _ _).alloc (Nat.le_refl _) _).trans (h3.mono (by simp))⟩
end
section
open Go.RowKit Go.Maps
section
variable {w0 w:World} {R:List Item} {p c m n:Nat} {G FU:Nat->Prop} {qc:Cnt} {ml:List OneR}
theorem memory_t (hl:ml.length<=900000) (hn:n<=900000) (hE:Env w0 (wbox p c::cellI c G (getL ml) qc n::refI m FU ml::R) w) :
  Calls prog 30 #[.pointer (some ⟨p,0,none⟩),.pointer (some ⟨m,0,none⟩)] w fun o w'=>o=.returned (.bool true)/\Env w0 (wbox p c::cellI c G (getL ml) qc n::refI m FU ml::R) w':=by
 go_enter func30,ntmps30;go_wp2_with fail;refine (cells_w 0 1 hE rfl rfl).mono ?_;rintro o w1 ⟨c2,F2,rfl,hE1⟩;clear hE;go_wp2_with fail;refine (places_any (by omega) (hE1.cell 0 rfl)).mono ?_;rintro e w5 ⟨v5,m5,rfl,hp5,hr5,hb⟩;have hE5:=hE1.over hb;clear hb hE1;go_wp2_with fail;refine (refPlaces_any (by omega) (hE5.ref 3 rfl).nodup (hE5.ref 3 rfl)).mono ?_;rintro e w6 ⟨m6,v6,rfl,hp6,hm6,ho6,hb⟩;have hE6:=hE5.over hb;obtain rfl:=hp5.eq hp6;have hr5':=hr5.below hb;have hr6:=ownsRow_rowP ho6;have hwf:∀ x∈m5,Wf x:=fun x hx=>Classical.byContradiction fun h=>((hp5.2 x).1 hx) ((hE6.cell 2 rfl).words.out x h);have hm5:m5.length<=900000:=by omega
 obtain ⟨A1,cp1,rfl⟩:=hr5'.len;obtain ⟨A2,cp2,rfl⟩:=hr6.len;have H1:=zH hr5';have H2:=zH hr6;have HWF:=zH hwf;clear hb hE5 hp5 hp6 hr5 ho6 hm6 hr5' hr6 hwf;go_wp2_with fail
 go_loopw [7] (fun i wr=>∃ k:Nat,k<=m5.length/\i=.int .i64 k/\Env w0 (cellI c2 F2 (getL ml) ⟨0,0,0,0,0⟩ n::wbox p c::cellI c G (getL ml) qc n::refI m FU ml::R) wr/\Below w6.heap.size w6 wr) (fun i _=>m5.length - (intOf i).toNat)
 case atStart=>exact ⟨0,Nat.zero_le _,rfl,hE6,Below.refl _ _⟩
 case round =>
  clear hE6;obtain ⟨k,hk,rfl,hEr,hB⟩:=hrel
  by_cases hlt:k < m5.length
  ·have hb1:decide ((k:Int) < (m5.length:Int))=true:=by simp; omega
   have hlti:(k:Int) < (m5.length:Int):=by omega
   rcases H1.out with ⟨h0,_⟩ | ⟨g1,cap1,e1,hg1,hc1⟩
   ·rw [h0] at hlt; simp at hlt
   rcases H2.out with ⟨h0,_⟩ | ⟨g2,cap2,e2,hg2,hc2⟩
   ·rw [h0] at hlt; simp at hlt
   simp only [Value.slice.injEq] at e1 e2;obtain ⟨rfl,-,rfl⟩:=e1;obtain ⟨rfl,-,rfl⟩:=e2;obtain ⟨a0,a1,a2⟩:=hc1 k hlt;obtain ⟨b0,b1,b2⟩:=hc2 k hlt;have hx:=HWF.out (m5.getD k z3) (by rw [List.getD_eq_getElem?_getD,List.getElem?_eq_getElem hlt]; exact List.getElem_mem hlt);clear hc1 hc2;generalize m5.getD k z3=o at a0 a1 a2 b0 b1 b2 hx;obtain ⟨x,y,z⟩:=o;simp only at a0 a1 a2 b0 b1 b2;obtain ⟨v,hv⟩:∃ v,getL ml (x,y,z)=v:=⟨_,rfl⟩;have HC:Hid (∀ w',(Env w0 (cellI c2 F2 (getL ml) ⟨0,0,0,0,0⟩ n::wbox p c::cellI c G (getL ml) qc n::refI m FU ml::R) w'/\Below w6.heap.size w6 w')->(w'.cell? ⟨g1,k * 3,none⟩=some (.int .i64 x)/\w'.cell? ⟨g1,k * 3+1,none⟩=some (.int .i64 y)/\w'.cell? ⟨g1,k * 3+2,none⟩=some (.int .i64 z) /\
     w'.cell? ⟨g2,k * 3,none⟩=some (.int .i64 x)/\w'.cell? ⟨g2,k * 3+1,none⟩=some (.int .i64 y)/\w'.cell? ⟨g2,k * 3+2,none⟩=some (.int .i64 z))):=zH fun w' hb=>by
    refine ⟨?_,?_,?_,?_,?_,?_⟩
    ·rw [hb.2.cell (p:=⟨g1,k * 3,none⟩) hg1]; exact a0
    ·rw [hb.2.cell (p:=⟨g1,k * 3+1,none⟩) hg1]; exact a1
    ·rw [hb.2.cell (p:=⟨g1,k * 3+2,none⟩) hg1]; exact a2
    ·rw [hb.2.cell (p:=⟨g2,k * 3,none⟩) hg2]; exact b0
    ·rw [hb.2.cell (p:=⟨g2,k * 3+1,none⟩) hg2]; exact b1
    ·rw [hb.2.cell (p:=⟨g2,k * 3+2,none⟩) hg2]; exact b2
   have HPK:Hid (∀ w',(Env w0 (cellI c2 F2 (getL ml) ⟨0,0,0,0,0⟩ n::wbox p c::cellI c G (getL ml) qc n::refI m FU ml::R) w'/\Below w6.heap.size w6 w')->Calls prog 52 #[.pointer (some ⟨p,0,none⟩),.agg #[.int .i64 x,.int .i64 y,.int .i64 z]] w' fun e v'=>e=.returned (.int .u64 v)/\Below w'.heap.size w' v'):=zH fun w' hb=>by
    rw [<- hv];exact peek_w x y z hx 1 2 hb.1 rfl rfl
   have HGT:Hid (∀ w',(Env w0 (cellI c2 F2 (getL ml) ⟨0,0,0,0,0⟩ n::wbox p c::cellI c G (getL ml) qc n::refI m FU ml::R) w'/\Below w6.heap.size w6 w')->Calls prog 80 #[.pointer (some ⟨m,0,none⟩),.agg #[.int .i64 x,.int .i64 y,.int .i64 z]] w' fun e v'=>e=.returned (.int .u64 v)/\Below w'.heap.size w' v'):=zH fun w' hb=>by
    rw [<- hv];exact refGet_any x y z (by omega) (hb.1.ref 3 rfl)
   clear a0 a1 a2 b0 b1 b2 hv hx;go_wp2_with fail;refine wp_text (S:=(fun w'=>Env w0 (cellI c2 F2 (getL ml) ⟨0,0,0,0,0⟩ n::wbox p c::cellI c G (getL ml) qc n::refI m FU ml::R) w'/\Below w6.heap.size w6 w')) (by kernel_rfl) (by kernel_rfl) ⟨hEr.drew,hB.drew⟩ (fun hT=>?_);have hT9:=zH hT;clear hT
   repeat ((first
    | (refine text_value (v:=?_) hT9.o (by rfl) ?_ ?_; rotate_left; (intro w5 hS; obtain ⟨a0,a1,a2,b0,b1,b2⟩:=HC.out _ hS; go_simp<;>rfl))
    | (refine text_off hT9.o (by rfl) ?_)
    | (refine text_call (v:=?_) (f:=?_) (args:=?_) hT9.o (by rfl) ?_ ?_ ?_; rotate_left 3; (intro w5 hS; obtain ⟨a0,a1,a2,b0,b1,b2⟩:=HC.out _ hS; go_simp; constructor<;>rfl); (intro w5 hS; (first | (with_reducible refine kp (HPK.out _ hS) ?_ ?_; rfl; exact fun w8 hb5=>⟨hS.1.over hb5,hS.2.trans (hb5.mono hS.2.size)⟩) | (with_reducible refine kp (HGT.out _ hS) ?_ ?_; rfl; exact fun w8 hb5=>⟨hS.1.over hb5,hS.2.trans (hb5.mono hS.2.size)⟩)))));try simp only [Act.put,zA,zZ,zS])
   refine InText.nil fun w5 hS5=>?_;clear hT9;clear hEr hB HC HPK HGT;go_wp2_with fail;exact ⟨⟨k+1,by omega,by simp,hS5⟩,by simp [intOf]; omega⟩
  ·have hb1:decide ((k:Int) < (m5.length:Int))=false:=by simp; omega
   go_wp2_with fail;go_ret;exact ⟨rfl,hEr.sub (.cons _ (List.Sublist.refl _))⟩
end
end
section
open Go.ChangeShapes Go.WideShapes Go.ChangeAt Go.RowKit
section
variable {P:Program} {w:World}
theorem cell_lt {b o:Nat} {v:Value} (h:w.cell? ⟨b,o,none⟩=some v):b < w.heap.size:=by
 rcases Nat.lt_or_ge b w.heap.size with h' | h'
 ·exact h'
 ·simp [World.cell?,Array.getElem?_eq_none h'] at h
theorem laid_pair {n:String} {g:Nat} {t k:TypeId} {f0 f1:Field} {a b:Int} {r:List (String × DataW Unit)} {ps:List MemPlace}
  (h:DataW.LaidVars P w ((n,.agg [.lit (.int .i64 a),.lit (.int .i64 b)])::r) ps) (hg:P.globalNamed n=some g) (ht:(P.globals[g]?).map (·.type)=some t)
  (hs:P.underlying t=some (.struct #[f0,f1])) (hc:P.cellsOf t=2) (h0:f0.offset=0) (h1:f1.offset=1) (hk0:f0.type=k) (hk1:f1.type=k) (hk:P.cellsOf k=1) (hi:P.underlying k=some (.int .i64)) :
  w.cell? ⟨g,0,none⟩=some (.int .i64 a)/\w.cell? ⟨g,1,none⟩=some (.int .i64 b)/\∃ q,DataW.LaidVars P w r q:=by
 obtain ⟨g',t',cs,fuel,p,q,hg',ht',hv,hd,hr,-⟩:=h;obtain rfl:=Option.some.inj (hg.symm.trans hg');obtain rfl:=Option.some.inj (ht.symm.trans ht');obtain ⟨xs,m,-,hx,hl,hn,hel⟩:=DataW.trod_struct hs hd;have e0:=hel 0 f0 rfl;have e1:=hel 1 f1 rfl;rw [h0,hk0,hk] at e0;rw [h1,hk1,hk] at e1;obtain ⟨l⟩:=cs;rw [hc] at hl
 match l,hl,xs,hn,hx,e0,e1,hv with
 | [c0,c1],_,[x0,x1],_,hx,e0,e1,hv =>
  simp only [Prod.mk.injEq,List.map_cons,List.map_nil,DataW.agg.injEq,List.cons.injEq] at hx;obtain ⟨n0,s0,y0,-⟩:=DataW.trod_int hi (show DataW.trod _ P w 0 _ false m k [c0]=some x0 from e0);obtain ⟨n1,s1,y1,-⟩:=DataW.trod_int hi (show DataW.trod _ P w 0 _ false m k [c1]=some x1 from e1);simp at s0 s1;subst s0 s1;have k0:=hx.1.1;have k1:=hx.1.2.1;rw [y0] at k0;rw [y1] at k1;simp at k0 k1;subst k0 k1;exact ⟨by rw [World.var?_cell hg hv 0]; rfl,by rw [World.var?_cell hg hv 1]; rfl,q,hr⟩
end
def laid3:List (String × DataW Unit):=[("revenant/link.versionPart",Rows.laid_revenant_link_versionPart),("revenant/link.slotPart",Rows.laid_revenant_link_slotPart),("revenant/link.markPart",Rows.laid_revenant_link_markPart)]
theorem glo_of_laid {W:World} (h:laidMetH prog laid3 W):Glo W:=by
 rw [MakeChecks.laidMetH_plain _ _ _ (by kernel_rfl)] at h;obtain ⟨ps,h,-,-⟩:=h;obtain ⟨a0,a1,q1,h⟩:=laid_pair (g:=2) (t:=189) (k:=3) h (by kernel_rfl) (by kernel_rfl) Tryz.underlying189 (by kernel_rfl) rfl rfl rfl rfl (by kernel_rfl) Tryz.underlying3;obtain ⟨b0,b1,q2,h⟩:=laid_pair (g:=0) (t:=189) (k:=3) h (by kernel_rfl) (by kernel_rfl) Tryz.underlying189 (by kernel_rfl) rfl rfl rfl rfl (by kernel_rfl) Tryz.underlying3;obtain ⟨c0,c1,q3,h⟩:=laid_pair (g:=1) (t:=189) (k:=3) h (by kernel_rfl) (by kernel_rfl) Tryz.underlying189 (by kernel_rfl) rfl rfl rfl rfl (by kernel_rfl) Tryz.underlying3;exact ⟨⟨a0,a1⟩,⟨b0,b1⟩,⟨c0,c1⟩,cell_lt a0,cell_lt b0,cell_lt c0⟩
theorem door_met (os:Os) (args:Array Value):laidMetH prog laid3 ((World.doorLaid prog 24 os).forCall (fun _ _=>0) ⟨#[],args,[]⟩).memory :=
 laidMetH_of_parts3 (fuel:=8) (laidMet_of_run' 8 (by kernel_rfl) (by kernel_rfl)) (by kernel_rfl) (by kernel_rfl)
end
section
open Go.RowKit Go.WideShapes Go.ChangeShapes Go.ChangeAt Go.Deep
section
variable {H:Type} {enc:TypeId × Value->H} {P:Program} {W:World}
theorem open_num_row {t e:TypeId} {k:IntKind} {A:Option Addr} {len cap:Nat} {d:DataW H} {p:List MemPlace} (ht:P.underlying t=some (.slice e)) (he:P.underlying e=some (.int k)) (hc:P.cellsOf e=1)
  (h:DataW.Trod enc P W 0 (fun _=>true) true t (.slice A len cap) d p) (hlt:∀ x∈p,x.block < W.heap.size) :
  ∃ zs:List Int,zs.length=len/\len<=maxLen/\(∀ n∈zs,(Lit.int k n).wf=true)/\(zs=[]\/∃ b off,A=some ⟨b,off,none⟩/\b < W.heap.size/\∀ i,i < zs.length->W.cell? ⟨b,off+i,none⟩=some (.int k (zs.getD i 0))):=by
 obtain ⟨fuel,hf⟩:=h
 rcases open_ints ht he hc hf with ⟨hcs,hx⟩ | ⟨a,len',cap',zs,hcs,_,hl,hm,hz,hx,hcell,hwz⟩
 ·simp [Value.cells] at hcs;obtain ⟨rfl,rfl,rfl⟩:=hcs;exact ⟨[],rfl,Nat.zero_le _,by simp,Or.inl rfl⟩
 ·simp [Value.cells] at hcs;obtain ⟨rfl,rfl,rfl⟩:=hcs;simp only [Prod.mk.injEq] at hx;obtain ⟨rfl,rfl⟩:=hx;simp only [if_true] at hz;refine ⟨zs.take len,by simp; omega,by omega,fun n hn=>hwz n (List.mem_of_mem_take hn),?_⟩
  by_cases h0:len=0
  ·left; subst h0; simp
  ·right
   obtain ⟨b,off,spot⟩:=a;have hspot:spot=none:=by simpa [Addr.add] using World.cell?_spot (hcell 0 (by omega))
   subst hspot;refine ⟨b,off,rfl,hlt (.cell b off) (MemPlace.mem_row.2 ⟨0,by omega,by simp⟩),fun i hi=>?_⟩;have hi':i < len:=by simp at hi; omega
   have:=hcell i (by omega);rw [add_plain] at this;rw [this];simp [hi']
end
end
section
open Go.RowKit Go.Maps
theorem count_any {c n:Nat} {F:Nat->Prop} {f:Plc->Int} {q:Cnt} {w:World} (hC:IsC w c F f q n) :
  Calls prog 70 #[.pointer (some ⟨c,0,none⟩)] w fun e w'=>e=.returned (.agg #[.int .i64 q.l,.int .i64 q.s,.int .i64 q.w,.int .i64 q.f,.int .i64 q.a])/\Below w.heap.size w w':=by
 obtain ⟨mp,hb,hm,hF⟩:=hC;have r1:=cell_more hb.1 hb.rule;unfold cv at r1;go_enter func70,ntmps70
 go_wp2
 refine bodyPost_ret (v:=.agg #[.int .i64 q.l,.int .i64 q.s,.int .i64 q.w,.int .i64 q.f,.int .i64 q.a]) (by simp [results,results70,go_sem]) rfl ⟨rfl,?_⟩;exact (Below.refl _ _).alloc (Nat.le_refl _) _
section
variable {w0 w:World} {L:List Item} {p c n:Nat} {F:Nat->Prop} {f:Plc->Int} {q:Cnt}
theorem count_w (i j:Nat) (hE:Env w0 L w) (hi:L[i]?=some (wbox p c)) (hj:L[j]?=some (cellI c F f q n)) :
  Calls prog 27 #[.pointer (some ⟨p,0,none⟩)] w fun e w'=>e=.returned (.agg #[.int .i64 q.l,.int .i64 q.s,.int .i64 q.w,.int .i64 q.f,.int .i64 q.a])/\Below w.heap.size w w':=by
 have hb:=(Below.refl w.heap.size w).alloc (Nat.le_refl _) (.cells #[.int .i64 0,.int .i64 0,.int .i64 0,.int .i64 0,.int .i64 0] 70);replace hE:=hE.box w.heap.size rfl [.int .i64 0,.int .i64 0,.int .i64 0,.int .i64 0,.int .i64 0] 70;go_enter func27,ntmps27;go_wp2_with fail;refine (kept_any (hE.wblk (i+1) hi)).mono ?_;rintro e w1 ⟨rfl,rfl⟩;go_wp2_with fail;refine (count_any (hE.cell (j+1) hj)).mono ?_;rintro e w2 ⟨rfl,hb2⟩;have hE2:=hE.over hb2;have f5:=hE2.thaw 0 rfl;have f0:=f5 0 (by simp);have f1:=f5 1 (by simp);have f2:=f5 2 (by simp);have f3:=f5 3 (by simp);have f4:=f5 4 (by simp);have r:=hE2.rule 0 rfl;have hB:=hb.trans (hb2.mono hb.size);clear f5
 go_wp2
 have hP:=hE2.put5 0 rfl (.int .i64 q.l) (.int .i64 q.s) (.int .i64 q.w) (.int .i64 q.f) (.int .i64 q.a);have q9:=hP.rule 0 rfl;refine bodyPost_ret (v:=.agg #[.int .i64 q.l,.int .i64 q.s,.int .i64 q.w,.int .i64 q.f,.int .i64 q.a]) (by simp [results,results27,go_sem,q9]) rfl ⟨rfl,?_⟩;exact ((((hB.setCell (Nat.le_refl _) _).setCell (Nat.le_refl _) _).setCell (Nat.le_refl _) _).setCell (Nat.le_refl _) _).setCell (Nat.le_refl _) _
end
end
end Go.Proofs.YtdknbegcflldjaaGreatDoor
namespace Go.Proofs.YtdknbegcflldjaaGreatDoor.tableExact
section
open Go.ChangeShapes Go.WideShapes Go.ChangeAt Go.RowKit Go.Joins Go.Maps
theorem walk (k1 k2 k3 k4 k5:Int) (rs:List Rw) (A:Option Addr) (cap:Nat) (hl0:rs.length<=2 ^ 63 - 1) (zs:List Int) (A2:Option Addr) (cap2:Nat) (hz0:zs.length<=2 ^ 63 - 1) (W:World) (hok:∀ r∈rs,OkRw W r) (hrow:RowX encRw 1 W A rs)
  (hrow2:zs=[]\/∃ b off,A2=some ⟨b,off,none⟩/\b < W.heap.size/\∀ i,i < zs.length->W.cell? ⟨b,off+i,none⟩=some (.int .i64 (zs.getD i 0))) (hg:Glo W) :
  Calls prog 5 #[.agg #[.int .i64 k1,.int .i64 k2,.int .i64 k3,.int .i64 k4,.int .i64 k5],.slice A rs.length cap,.slice A2 zs.length cap2] W fun e w'=>e=.returned (.bool true)/\Below W.heap.size W w':=by
 have hE:=(Env.start W).box W.heap.size rfl [.int .i64 k1,.int .i64 k2,.int .i64 k3,.int .i64 k4,.int .i64 k5] 58;have HG:=zH hg;have HROW:=zH hrow;have HROW2:=zH hrow2;have HOK:=zH hok;have hl:rs.length<=9223372036854775807:=by omega
 have hz:zs.length<=9223372036854775807:=by omega
 have hlen9:∀ r∈rs,r.ds.length<=9223372036854775807:=fun r hr=>by have:=(hok r hr).1; unfold maxLen at this; omega
 have HLEN:=zH hlen9;clear hg hrow hrow2 hok hl0 hz0 hlen9;go_enter func5,ntmps5;go_wp2_with fail;refine (awake_t _ (HG.out.keep' hE.below)).mono ?_;rintro o w1 ⟨rfl,hb⟩;replace hE:=hE.over hb;clear hb;generalize hX:W.heap.size=X at *;have HX:=zH hX;clear hX;have r0:=hE.rule 0 rfl;go_wp2_with fail;refine (great_k k1 k2 k3 k4 k5 A A2 cap cap2 zs.length rs hl hz HROW.out HLEN.out (fun r hr=>(HOK.out r hr).2.2) _ hE.below).mono ?_;rintro o w2 ⟨hb,rfl | ⟨rfl,hgd,hops⟩⟩
 ·replace hE:=hE.over hb;go_wp2_with fail;go_ret;exact ⟨rfl,hE.below⟩
 replace hE:=hE.over hb;clear hb r0;obtain ⟨hck,hk1,hk2,hgd⟩:=hgd;subst hk1;have r0:=hE.rule 0 rfl;have HC:=zH hck;have hcy:=chk_yes hck;have hR9:∀ d,In64 (rtM ⟨2,k2,k3,k4,k5⟩ d):=fun d=>by
  have:=buI_in d.key (n:=k3) (by omega);unfold In64 rtM;dsimp only;omega
 have HR9:=zH hR9;clear hR9;have hr1:1<=rs.length:=by omega
 have hr4:rs.length<=4:=by omega
 have hz4:zs.length<=1000:=by omega
 have hCk:COk ⟨2,k2,k3,k4,k5⟩:=by
  refine ⟨?_,?_⟩<;>(dsimp only; omega)
 have HGD:=zH hgd;have HR1:=zH hr1;have HR4:=zH hr4;have HCK:=zH hCk;have hR:∀ (L:List Item) i,i < rs.length->OkD W L ⟨2,k2,k3,k4,k5⟩ (rs.getD i default):=fun L i hi=>by
  have hm:rs.getD i default∈rs:=by rw [List.getD_eq_getElem?_getD,List.getElem?_eq_getElem hi]; exact List.getElem_mem hi
  obtain ⟨h1,h2,h3⟩:=HOK.out _ hm;exact ⟨OsAt.of_row h3,by have:=(hops i hi).1; omega,fun k hk=>h2 _ (mem_getD hk),fun k hk=>.inr ((hops i hi).2 k hk)⟩
 have HR:=zH hR;have HOPS:=zH hops;clear hgd hr1 hr4 hops hCk hR hck hcy;go_wp2_with fail;refine (begun_k 2 k2 k3 k4 k5 A cap rs HR4.out HROW.out HC.out hE).mono ?_;rintro o w7 ⟨p,cc,m,g,cp,S0,rfl,hpl,hps,hml,hn,hqb,hE8⟩;replace hE8:=hE8.dropE;clear hE r0;have hgo:=start_ok HCK.out (fun i hi=>(HOPS.out i hi).1) hpl hps hml hn;clear hps hpl hml hn;have HGO:=zH hgo;have HQB:=zH hqb;clear hgo hqb;go_wp2_with fail
 go_loopw [10] (fun iv wr=>∃ (j:Nat) (S:GS),j<=zs.length/\iv=.int .i64 j/\Hid (GOk ⟨2,k2,k3,k4,k5⟩ rs (40+j) S)/\Hid (QB (2+j) S.qc)/\Env W (EL ⟨2,k2,k3,k4,k5⟩ (.slice (some ⟨g,0,none⟩) rs.length cp) p cc m S []) wr) (fun iv _=>zs.length - (intOf iv).toNat)
 case atStart=>exact ⟨0,S0,Nat.zero_le _,rfl,HGO,HQB,hE8⟩
 case round =>
  clear hE8 HGO HQB;obtain ⟨j,S,hj,rfl,hgo,hqb,hE⟩:=hrel
  by_cases hlt:j < zs.length
  ·have hb1:decide ((j:Int) < (zs.length:Int))=true:=by simp; omega
   have hlti:(j:Int) < (zs.length:Int):=by omega
   rcases HROW2.out with h0 | ⟨bb,off,rfl,hbl,hc⟩
   ·rw [h0] at hlt; simp at hlt
   obtain ⟨z,hz9⟩:∃ z,zs.getD j 0=z:=⟨_,rfl⟩;have hd0:wr.cell? ⟨bb,off+j,none⟩=some (.int .i64 z):=by rw [hE.below.cell (p:=⟨bb,off+j,none⟩) (by rw [HX.out]; exact hbl),hc j hlt,hz9]
   have hr1:=HR1.out;have hr4:=HR4.out;have hwl:IntKind.u64.wrap (rs.length:Int)=(rs.length:Int):=by rw [IntKind.wrap_u64]; omega
   obtain ⟨t,ht,htl⟩:∃ t:Nat,(IntKind.u64.wrap z).tmod (rs.length:Int)=(t:Int)/\t < rs.length:=by
    have h0:0<=IntKind.u64.wrap z:=by rw [IntKind.wrap_u64]; omega
    refine ⟨((IntKind.u64.wrap z) % (rs.length:Int)).toNat,?_,?_⟩
    ·rw [Int.tmod_eq_emod_of_nonneg h0,Int.toNat_of_nonneg (Int.emod_nonneg _ (by omega))]
    ·have:=Int.emod_lt_of_pos (IntKind.u64.wrap z) (show 0 < (rs.length:Int) by omega);have:=Int.emod_nonneg (IntKind.u64.wrap z) (show (rs.length:Int)≠0 by omega);omega
   obtain ⟨q,hq,hQ⟩:=hgo.out.ps t htl;have htq:wr.cell? ⟨g,t,none⟩=some (.pointer (some ⟨q.X.thr,0,none⟩)):=by
    have:=hE.tpAt 0 rfl t (by rw [List.length_map,hgo.out.len]; exact htl);rw [this];simp [List.getD_eq_getElem?_getD,hq]
   have htl':(t:Int) < (rs.length:Int):=by omega
   have hnz:(rs.length:Int)≠0:=by omega
   have hj9:j<=1000:=by omega
   go_upto_region 10 with fail
   clear hd0 hc hz9 htq ht hwl;go_wp2_with fail;refine (count_w 1 2 hE rfl rfl).mono ?_;rintro o w8 ⟨rfl,hb⟩;replace hE:=hE.over hb;clear hb;go_wp2_with fail;have hE2:=(hE.box w8.heap.size rfl [.int .i64 S.qc.l,.int .i64 S.qc.s,.int .i64 S.qc.w,.int .i64 S.qc.f,.int .i64 S.qc.a] 70).inE;clear hE;generalize w8.alloc _=w9 at *;generalize w8.heap.size=Y at *
   rcases (show (q.K.pc≠0)\/(q.K.pc=0/\q.K.T.nd < (rs.getD t default).ds.length)\/(q.K.pc=0/\¬ q.K.T.nd < (rs.getD t default).ds.length) by omega) with hpc | ⟨hpc,hnd⟩ | ⟨hpc,hnd⟩
   ·have hb3:decide (q.K.pc≠0)=true:=by simp [hpc]
    have hid:idleK (rs.getD t default).ds q.K=false:=by unfold idleK; rw [decide_eq_false hpc]; rfl
    have HTH:Hid (∀ v,Env W (EL ⟨2,k2,k3,k4,k5⟩ (.slice (some ⟨g,0,none⟩) rs.length cp) p cc m S [boxI Y [.int .i64 S.qc.l,.int .i64 S.qc.s,.int .i64 S.qc.w,.int .i64 S.qc.f,.int .i64 S.qc.a]]) v->v.cell? ⟨q.X.thr,4,none⟩=some (.bool true)/\v.cell? ⟨q.X.thr,3,none⟩=some (.int .i64 (q.K.T.nd:Int))/\v.cell? ⟨q.X.thr,2,none⟩=some (.slice q.X.dA q.X.dn q.X.dc)):=zH fun v hv=>by
     have h9:=hv.thrE hq;exact ⟨by rw [h9 4,<- hb3]; rfl,h9 3,h9 2⟩
    have HID:=zH hid;clear hb3 hpc hQ hid;refine wp_text (S:=(Env W (EL ⟨2,k2,k3,k4,k5⟩ (.slice (some ⟨g,0,none⟩) rs.length cp) p cc m S [boxI Y [.int .i64 S.qc.l,.int .i64 S.qc.s,.int .i64 S.qc.w,.int .i64 S.qc.f,.int .i64 S.qc.a]]))) (by kernel_rfl) (by kernel_rfl) hE2.drew (fun hT=>?_);have hT9:=zH hT;clear hT
    repeat ((first
     | (refine text_value (v:=?_) hT9.o (by rfl) ?_ ?_; rotate_left; (intro w5 hS; obtain ⟨r4,r3,r2⟩:=HTH.out _ hS; go_simp<;>rfl))
     | (refine text_off hT9.o (by rfl) ?_)
     | (refine text_call (v:=?_) (f:=?_) (args:=?_) hT9.o (by rfl) ?_ ?_ ?_; rotate_left 3; (intro w5 hS; obtain ⟨r4,r3,r2⟩:=HTH.out _ hS; go_simp; constructor<;>rfl); (intro w5 hS; (first | fail))));try simp only [Act.put,zA,zZ,zS])
    refine InText.nil fun w5 hS5=>?_;clear hT9;clear hE2 HTH;go_wp2_with fail;refine (step_pk HG.out HCK.out rfl HC.out HR9.out (HR.out _ t htl) hgo.out (by omega) htl hq hS5).mono ?_;rintro o w9 ⟨rfl,S',q',hst,hgo',hE'⟩;have hsl:S.ps.length=rs.length:=hgo.out.len;have hq':S'.ps[t]?=some q':=by rw [hst.ps]; simp [hsl,htl]
    have hid:=HID.out;have hqb':=hqb.out.one (hst.qc.1 hid) (by omega);have HQB':Hid (QB (2+(j+1)) S'.qc):=zH hqb'.1;have hsum:=hqb'.2;clear hqb';have HGO':Hid (GOk ⟨2,k2,k3,k4,k5⟩ rs (40+(j+1)) S'):=zH hgo';have hthr:=hst.thr;clear hS5 hst hid;go_wp2_with fail;rw [<- hthr];refine (same_pk hgo' (by omega) htl hq' hE').mono ?_;rintro o w10 ⟨rfl,hE6⟩;clear hE';have hmem:∀ v,Env W (EL ⟨2,k2,k3,k4,k5⟩ (.slice (some ⟨g,0,none⟩) rs.length cp) p cc m S' [boxI Y [.int .i64 S.qc.l,.int .i64 S.qc.s,.int .i64 S.qc.w,.int .i64 S.qc.f,.int .i64 S.qc.a]]) v->Calls prog 30 #[.pointer (some ⟨p,0,none⟩),.pointer (some ⟨m,0,none⟩)] v fun o w'=>o=.returned (.bool true)/\Env W (EL ⟨2,k2,k3,k4,k5⟩ (.slice (some ⟨g,0,none⟩) rs.length cp) p cc m S' [boxI Y [.int .i64 S.qc.l,.int .i64 S.qc.s,.int .i64 S.qc.w,.int .i64 S.qc.f,.int .i64 S.qc.a]]) w':=fun v hv=>by
     refine (memory_t (R:=tpsI (.slice (some ⟨g,0,none⟩) rs.length cp) (S'.ps.map fun q=>q.X.thr)::(S'.ps.flatMap (Pk.its ⟨2,k2,k3,k4,k5⟩)++[boxI Y [.int .i64 S.qc.l,.int .i64 S.qc.s,.int .i64 S.qc.w,.int .i64 S.qc.f,.int .i64 S.qc.a]])) (by have:=HGO'.out.ml; omega) (by have:=HGO'.out.n; omega) (hv.perm (List.perm_append_comm_assoc [_] [_,_,_] _))).mono ?_;rintro o w11 ⟨rfl,hE7⟩;exact ⟨rfl,hE7.perm (List.perm_append_comm_assoc [_,_,_] [_] _)⟩
    have HMEM:=zH hmem;have hqs:=hqb.out;unfold QB at hqs;have hqs':=HQB'.out;unfold QB at hqs';clear hmem hq' hgo';go_wp2_with fail
    all_goals first
     | (refine (count_w 1 2 hE6 rfl rfl).mono ?_; rintro o w14 ⟨rfl,hb⟩; have hEF:=hE6; clear hE6)
     | (refine (HMEM.out _ hE6).mono ?_; rintro o w11 ⟨rfl,hE7⟩; clear hE6; go_wp2_with fail; refine (count_w 1 2 hE7 rfl rfl).mono ?_; rintro o w14 ⟨rfl,hb⟩; have hEF:=hE7; clear hE7)
    all_goals
     replace hEF:=hEF.over hb;clear hb
     go_upto_region 15 with fail
     have hEG:=(hEF.box w14.heap.size rfl [.int .i64 S'.qc.l,.int .i64 S'.qc.s,.int .i64 S'.qc.w,.int .i64 S'.qc.f,.int .i64 S'.qc.a] 70);clear hEF;generalize w14.alloc _=w15 at *;generalize w14.heap.size=Y2 at *;have r0:=hEG.rule 0 rfl;have rY:∀ j,w15.cell? ⟨Y,j,none⟩=[Value.int .i64 S.qc.l,.int .i64 S.qc.s,.int .i64 S.qc.w,.int .i64 S.qc.f,.int .i64 S.qc.a][j]?:=Blk.rule ((hEG.2.2 (boxI Y [.int .i64 S.qc.l,.int .i64 S.qc.s,.int .i64 S.qc.w,.int .i64 S.qc.f,.int .i64 S.qc.a]) (by simp [EL])).1);have hEH:=(hEG.sub (.cons _ (List.Sublist.refl _))).dropE;have HEH:=zH hEH;clear hEG hEH;generalize S'.qc.l=a1 at *;generalize S'.qc.s=a2 at *;generalize S'.qc.w=a3 at *;generalize S'.qc.a=a4 at *;generalize S.qc.l=n1 at *;generalize S.qc.s=n2 at *;generalize S.qc.w=n3 at *;generalize S.qc.a=n4 at *;have hw1:wrap64 (a1+a2)=a1+a2:=w64 _ (by omega);have hw2:wrap64 (a1+a2+a3)=a1+a2+a3:=w64 _ (by omega);have hw3:wrap64 (a1+a2+a3+a4)=a1+a2+a3+a4:=w64 _ (by omega);have hw4:wrap64 (a1+a2+a3+a4 - n1)=a1+a2+a3+a4 - n1:=w64 _ (by omega);have hw5:wrap64 (a1+a2+a3+a4 - n1 - n2)=a1+a2+a3+a4 - n1 - n2:=w64 _ (by omega);have hw6:wrap64 (a1+a2+a3+a4 - n1 - n2 - n3)=a1+a2+a3+a4 - n1 - n2 - n3:=w64 _ (by omega);have hw7:wrap64 (a1+a2+a3+a4 - n1 - n2 - n3 - n4)=1:=by rw [w64 _ (by omega)]; omega
     have hw8:a1+a2+a3+a4 - n1 - n2 - n3 - n4=1:=by omega
     clear hsum;go_wp2_with fail;exact ⟨⟨j+1,S',by omega,by first | (simp; done) | (simp; omega),HGO'.out,HQB'.out,HEH.out⟩,by first | (simp [intOf]; done) | (simp [intOf]; omega)⟩
   ·have hb3:decide (q.K.pc≠0)=false:=by simp [hpc]
    have hb4:decide (((q.X.dn:Nat):Int)<=(q.K.T.nd:Int))=false:=by rw [hQ.dn]; exact decide_eq_false (by omega)
    have hb5:¬ ((q.X.dn:Nat):Int)<=(q.K.T.nd:Int):=by rw [hQ.dn]; omega
    have hid:idleK (rs.getD t default).ds q.K=false:=by unfold idleK; rw [decide_eq_true hpc,decide_eq_true hnd]; rfl
    have HTH:Hid (∀ v,Env W (EL ⟨2,k2,k3,k4,k5⟩ (.slice (some ⟨g,0,none⟩) rs.length cp) p cc m S [boxI Y [.int .i64 S.qc.l,.int .i64 S.qc.s,.int .i64 S.qc.w,.int .i64 S.qc.f,.int .i64 S.qc.a]]) v->v.cell? ⟨q.X.thr,4,none⟩=some (.bool false)/\v.cell? ⟨q.X.thr,3,none⟩=some (.int .i64 (q.K.T.nd:Int))/\v.cell? ⟨q.X.thr,2,none⟩=some (.slice q.X.dA q.X.dn q.X.dc)):=zH fun v hv=>by
     have h9:=hv.thrE hq;exact ⟨by rw [h9 4,<- hb3]; rfl,h9 3,h9 2⟩
    have HID:=zH hid;clear hb3 hpc hQ hid;refine wp_text (S:=(Env W (EL ⟨2,k2,k3,k4,k5⟩ (.slice (some ⟨g,0,none⟩) rs.length cp) p cc m S [boxI Y [.int .i64 S.qc.l,.int .i64 S.qc.s,.int .i64 S.qc.w,.int .i64 S.qc.f,.int .i64 S.qc.a]]))) (by kernel_rfl) (by kernel_rfl) hE2.drew (fun hT=>?_);have hT9:=zH hT;clear hT
    repeat ((first
     | (refine text_value (v:=?_) hT9.o (by rfl) ?_ ?_; rotate_left; (intro w5 hS; obtain ⟨r4,r3,r2⟩:=HTH.out _ hS; go_simp<;>rfl))
     | (refine text_off hT9.o (by rfl) ?_)
     | (refine text_call (v:=?_) (f:=?_) (args:=?_) hT9.o (by rfl) ?_ ?_ ?_; rotate_left 3; (intro w5 hS; obtain ⟨r4,r3,r2⟩:=HTH.out _ hS; go_simp; constructor<;>rfl); (intro w5 hS; (first | fail))));try simp only [Act.put,zA,zZ,zS])
    refine InText.nil fun w5 hS5=>?_;clear hT9;clear hE2 HTH;go_wp2_with fail;refine (step_pk HG.out HCK.out rfl HC.out HR9.out (HR.out _ t htl) hgo.out (by omega) htl hq hS5).mono ?_;rintro o w9 ⟨rfl,S',q',hst,hgo',hE'⟩;have hsl:S.ps.length=rs.length:=hgo.out.len;have hq':S'.ps[t]?=some q':=by rw [hst.ps]; simp [hsl,htl]
    have hid:=HID.out;have hqb':=hqb.out.one (hst.qc.1 hid) (by omega);have HQB':Hid (QB (2+(j+1)) S'.qc):=zH hqb'.1;have hsum:=hqb'.2;clear hqb';have HGO':Hid (GOk ⟨2,k2,k3,k4,k5⟩ rs (40+(j+1)) S'):=zH hgo';have hthr:=hst.thr;clear hS5 hst hid;go_wp2_with fail;rw [<- hthr];refine (same_pk hgo' (by omega) htl hq' hE').mono ?_;rintro o w10 ⟨rfl,hE6⟩;clear hE';have hmem:∀ v,Env W (EL ⟨2,k2,k3,k4,k5⟩ (.slice (some ⟨g,0,none⟩) rs.length cp) p cc m S' [boxI Y [.int .i64 S.qc.l,.int .i64 S.qc.s,.int .i64 S.qc.w,.int .i64 S.qc.f,.int .i64 S.qc.a]]) v->Calls prog 30 #[.pointer (some ⟨p,0,none⟩),.pointer (some ⟨m,0,none⟩)] v fun o w'=>o=.returned (.bool true)/\Env W (EL ⟨2,k2,k3,k4,k5⟩ (.slice (some ⟨g,0,none⟩) rs.length cp) p cc m S' [boxI Y [.int .i64 S.qc.l,.int .i64 S.qc.s,.int .i64 S.qc.w,.int .i64 S.qc.f,.int .i64 S.qc.a]]) w':=fun v hv=>by
     refine (memory_t (R:=tpsI (.slice (some ⟨g,0,none⟩) rs.length cp) (S'.ps.map fun q=>q.X.thr)::(S'.ps.flatMap (Pk.its ⟨2,k2,k3,k4,k5⟩)++[boxI Y [.int .i64 S.qc.l,.int .i64 S.qc.s,.int .i64 S.qc.w,.int .i64 S.qc.f,.int .i64 S.qc.a]])) (by have:=HGO'.out.ml; omega) (by have:=HGO'.out.n; omega) (hv.perm (List.perm_append_comm_assoc [_] [_,_,_] _))).mono ?_;rintro o w11 ⟨rfl,hE7⟩;exact ⟨rfl,hE7.perm (List.perm_append_comm_assoc [_,_,_] [_] _)⟩
    have HMEM:=zH hmem;have hqs:=hqb.out;unfold QB at hqs;have hqs':=HQB'.out;unfold QB at hqs';clear hmem hq' hgo';go_wp2_with fail
    all_goals first
     | (refine (count_w 1 2 hE6 rfl rfl).mono ?_; rintro o w14 ⟨rfl,hb⟩; have hEF:=hE6; clear hE6)
     | (refine (HMEM.out _ hE6).mono ?_; rintro o w11 ⟨rfl,hE7⟩; clear hE6; go_wp2_with fail; refine (count_w 1 2 hE7 rfl rfl).mono ?_; rintro o w14 ⟨rfl,hb⟩; have hEF:=hE7; clear hE7)
    all_goals
     replace hEF:=hEF.over hb;clear hb
     go_upto_region 15 with fail
     have hEG:=(hEF.box w14.heap.size rfl [.int .i64 S'.qc.l,.int .i64 S'.qc.s,.int .i64 S'.qc.w,.int .i64 S'.qc.f,.int .i64 S'.qc.a] 70);clear hEF;generalize w14.alloc _=w15 at *;generalize w14.heap.size=Y2 at *;have r0:=hEG.rule 0 rfl;have rY:∀ j,w15.cell? ⟨Y,j,none⟩=[Value.int .i64 S.qc.l,.int .i64 S.qc.s,.int .i64 S.qc.w,.int .i64 S.qc.f,.int .i64 S.qc.a][j]?:=Blk.rule ((hEG.2.2 (boxI Y [.int .i64 S.qc.l,.int .i64 S.qc.s,.int .i64 S.qc.w,.int .i64 S.qc.f,.int .i64 S.qc.a]) (by simp [EL])).1);have hEH:=(hEG.sub (.cons _ (List.Sublist.refl _))).dropE;have HEH:=zH hEH;clear hEG hEH;generalize S'.qc.l=a1 at *;generalize S'.qc.s=a2 at *;generalize S'.qc.w=a3 at *;generalize S'.qc.a=a4 at *;generalize S.qc.l=n1 at *;generalize S.qc.s=n2 at *;generalize S.qc.w=n3 at *;generalize S.qc.a=n4 at *;have hw1:wrap64 (a1+a2)=a1+a2:=w64 _ (by omega);have hw2:wrap64 (a1+a2+a3)=a1+a2+a3:=w64 _ (by omega);have hw3:wrap64 (a1+a2+a3+a4)=a1+a2+a3+a4:=w64 _ (by omega);have hw4:wrap64 (a1+a2+a3+a4 - n1)=a1+a2+a3+a4 - n1:=w64 _ (by omega);have hw5:wrap64 (a1+a2+a3+a4 - n1 - n2)=a1+a2+a3+a4 - n1 - n2:=w64 _ (by omega);have hw6:wrap64 (a1+a2+a3+a4 - n1 - n2 - n3)=a1+a2+a3+a4 - n1 - n2 - n3:=w64 _ (by omega);have hw7:wrap64 (a1+a2+a3+a4 - n1 - n2 - n3 - n4)=1:=by rw [w64 _ (by omega)]; omega
     have hw8:a1+a2+a3+a4 - n1 - n2 - n3 - n4=1:=by omega
     clear hsum;go_wp2_with fail;exact ⟨⟨j+1,S',by omega,by first | (simp; done) | (simp; omega),HGO'.out,HQB'.out,HEH.out⟩,by first | (simp [intOf]; done) | (simp [intOf]; omega)⟩
   ·have hb3:decide (q.K.pc≠0)=false:=by simp [hpc]
    have hb4:decide (((q.X.dn:Nat):Int)<=(q.K.T.nd:Int))=true:=by rw [hQ.dn]; exact decide_eq_true (by omega)
    have hb5:((q.X.dn:Nat):Int)<=(q.K.T.nd:Int):=by rw [hQ.dn]; omega
    have hid:idleK (rs.getD t default).ds q.K=true:=by unfold idleK; rw [decide_eq_true hpc,decide_eq_false hnd]; rfl
    have HTH:Hid (∀ v,Env W (EL ⟨2,k2,k3,k4,k5⟩ (.slice (some ⟨g,0,none⟩) rs.length cp) p cc m S [boxI Y [.int .i64 S.qc.l,.int .i64 S.qc.s,.int .i64 S.qc.w,.int .i64 S.qc.f,.int .i64 S.qc.a]]) v->v.cell? ⟨q.X.thr,4,none⟩=some (.bool false)/\v.cell? ⟨q.X.thr,3,none⟩=some (.int .i64 (q.K.T.nd:Int))/\v.cell? ⟨q.X.thr,2,none⟩=some (.slice q.X.dA q.X.dn q.X.dc)):=zH fun v hv=>by
     have h9:=hv.thrE hq;exact ⟨by rw [h9 4,<- hb3]; rfl,h9 3,h9 2⟩
    have HID:=zH hid;clear hb3 hpc hQ hid;refine wp_text (S:=(Env W (EL ⟨2,k2,k3,k4,k5⟩ (.slice (some ⟨g,0,none⟩) rs.length cp) p cc m S [boxI Y [.int .i64 S.qc.l,.int .i64 S.qc.s,.int .i64 S.qc.w,.int .i64 S.qc.f,.int .i64 S.qc.a]]))) (by kernel_rfl) (by kernel_rfl) hE2.drew (fun hT=>?_);have hT9:=zH hT;clear hT
    repeat ((first
     | (refine text_value (v:=?_) hT9.o (by rfl) ?_ ?_; rotate_left; (intro w5 hS; obtain ⟨r4,r3,r2⟩:=HTH.out _ hS; go_simp<;>rfl))
     | (refine text_off hT9.o (by rfl) ?_)
     | (refine text_call (v:=?_) (f:=?_) (args:=?_) hT9.o (by rfl) ?_ ?_ ?_; rotate_left 3; (intro w5 hS; obtain ⟨r4,r3,r2⟩:=HTH.out _ hS; go_simp; constructor<;>rfl); (intro w5 hS; (first | fail))));try simp only [Act.put,zA,zZ,zS])
    refine InText.nil fun w5 hS5=>?_;clear hT9;clear hE2 HTH;go_wp2_with fail;refine (step_pk HG.out HCK.out rfl HC.out HR9.out (HR.out _ t htl) hgo.out (by omega) htl hq hS5).mono ?_;rintro o w9 ⟨rfl,S',q',hst,hgo',hE'⟩;have hsl:S.ps.length=rs.length:=hgo.out.len;have hq':S'.ps[t]?=some q':=by rw [hst.ps]; simp [hsl,htl]
    have hid:=HID.out;have hqe:=hst.qc.2 hid;have HQB':Hid (QB (2+(j+1)) S'.qc):=zH (by rw [hqe]; have:=hqb.out; unfold QB at this ⊢; omega);have hsum:S'.qc.l+S'.qc.s+S'.qc.w+S'.qc.a=S.qc.l+S.qc.s+S.qc.w+S.qc.a:=by rw [hqe]
    clear hqe;have HGO':Hid (GOk ⟨2,k2,k3,k4,k5⟩ rs (40+(j+1)) S'):=zH hgo';have hthr:=hst.thr;clear hS5 hst hid;go_wp2_with fail;rw [<- hthr];refine (same_pk hgo' (by omega) htl hq' hE').mono ?_;rintro o w10 ⟨rfl,hE6⟩;clear hE';have hmem:∀ v,Env W (EL ⟨2,k2,k3,k4,k5⟩ (.slice (some ⟨g,0,none⟩) rs.length cp) p cc m S' [boxI Y [.int .i64 S.qc.l,.int .i64 S.qc.s,.int .i64 S.qc.w,.int .i64 S.qc.f,.int .i64 S.qc.a]]) v->Calls prog 30 #[.pointer (some ⟨p,0,none⟩),.pointer (some ⟨m,0,none⟩)] v fun o w'=>o=.returned (.bool true)/\Env W (EL ⟨2,k2,k3,k4,k5⟩ (.slice (some ⟨g,0,none⟩) rs.length cp) p cc m S' [boxI Y [.int .i64 S.qc.l,.int .i64 S.qc.s,.int .i64 S.qc.w,.int .i64 S.qc.f,.int .i64 S.qc.a]]) w':=fun v hv=>by
     refine (memory_t (R:=tpsI (.slice (some ⟨g,0,none⟩) rs.length cp) (S'.ps.map fun q=>q.X.thr)::(S'.ps.flatMap (Pk.its ⟨2,k2,k3,k4,k5⟩)++[boxI Y [.int .i64 S.qc.l,.int .i64 S.qc.s,.int .i64 S.qc.w,.int .i64 S.qc.f,.int .i64 S.qc.a]])) (by have:=HGO'.out.ml; omega) (by have:=HGO'.out.n; omega) (hv.perm (List.perm_append_comm_assoc [_] [_,_,_] _))).mono ?_;rintro o w11 ⟨rfl,hE7⟩;exact ⟨rfl,hE7.perm (List.perm_append_comm_assoc [_,_,_] [_] _)⟩
    have HMEM:=zH hmem;have hqs:=hqb.out;unfold QB at hqs;have hqs':=HQB'.out;unfold QB at hqs';clear hmem hq' hgo';go_wp2_with fail
    all_goals first
     | (refine (count_w 1 2 hE6 rfl rfl).mono ?_; rintro o w14 ⟨rfl,hb⟩; have hEF:=hE6; clear hE6)
     | (refine (HMEM.out _ hE6).mono ?_; rintro o w11 ⟨rfl,hE7⟩; clear hE6; go_wp2_with fail; refine (count_w 1 2 hE7 rfl rfl).mono ?_; rintro o w14 ⟨rfl,hb⟩; have hEF:=hE7; clear hE7)
    all_goals
     replace hEF:=hEF.over hb;clear hb
     go_upto_region 15 with fail
     have hEG:=(hEF.box w14.heap.size rfl [.int .i64 S'.qc.l,.int .i64 S'.qc.s,.int .i64 S'.qc.w,.int .i64 S'.qc.f,.int .i64 S'.qc.a] 70);clear hEF;generalize w14.alloc _=w15 at *;generalize w14.heap.size=Y2 at *;have r0:=hEG.rule 0 rfl;have rY:∀ j,w15.cell? ⟨Y,j,none⟩=[Value.int .i64 S.qc.l,.int .i64 S.qc.s,.int .i64 S.qc.w,.int .i64 S.qc.f,.int .i64 S.qc.a][j]?:=Blk.rule ((hEG.2.2 (boxI Y [.int .i64 S.qc.l,.int .i64 S.qc.s,.int .i64 S.qc.w,.int .i64 S.qc.f,.int .i64 S.qc.a]) (by simp [EL])).1);have hEH:=(hEG.sub (.cons _ (List.Sublist.refl _))).dropE;have HEH:=zH hEH;clear hEG hEH;generalize S'.qc.l=a1 at *;generalize S'.qc.s=a2 at *;generalize S'.qc.w=a3 at *;generalize S'.qc.a=a4 at *;generalize S.qc.l=n1 at *;generalize S.qc.s=n2 at *;generalize S.qc.w=n3 at *;generalize S.qc.a=n4 at *;have hw1:wrap64 (a1+a2)=a1+a2:=w64 _ (by omega);have hw2:wrap64 (a1+a2+a3)=a1+a2+a3:=w64 _ (by omega);have hw3:wrap64 (a1+a2+a3+a4)=a1+a2+a3+a4:=w64 _ (by omega);have hw4:wrap64 (a1+a2+a3+a4 - n1)=a1+a2+a3+a4 - n1:=w64 _ (by omega);have hw5:wrap64 (a1+a2+a3+a4 - n1 - n2)=a1+a2+a3+a4 - n1 - n2:=w64 _ (by omega);have hw6:wrap64 (a1+a2+a3+a4 - n1 - n2 - n3)=a1+a2+a3+a4 - n1 - n2 - n3:=w64 _ (by omega);have hw7:wrap64 (a1+a2+a3+a4 - n1 - n2 - n3 - n4)=0:=by rw [w64 _ (by omega)]; omega
     have hw8:a1+a2+a3+a4 - n1 - n2 - n3 - n4=0:=by omega
     clear hsum;go_wp2_with fail;exact ⟨⟨j+1,S',by omega,by first | (simp; done) | (simp; omega),HGO'.out,HQB'.out,HEH.out⟩,by first | (simp [intOf]; done) | (simp [intOf]; omega)⟩
  ·have hb1:decide ((j:Int) < (zs.length:Int))=false:=by simp; omega
   go_wp2_with fail;go_ret;exact ⟨rfl,hE.below⟩
end
end Go.Proofs.YtdknbegcflldjaaGreatDoor.tableExact
