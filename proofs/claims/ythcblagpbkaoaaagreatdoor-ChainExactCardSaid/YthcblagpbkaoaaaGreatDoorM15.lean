/- What is proved on the way to the statement, part 15: contracts of the functions, among other things in memory. -/
import Derived.Test.YthcblagpbkaoaaaGreatDoorM14
import Derived.LoopIn
import Derived.Shelf.SlMaps.Clone
import Derived.Ground.SlmcProg
import Derived.Test.YthcblagpbkaoaaaGreatDoorProg
import Derived.Maps.RangeWalk
import Derived.LoopTactic
import Derived.OwnWalkIn
import Derived.TacticsInMore
import Derived.LoopNIn
import Derived.Maps.AppendAt
import Derived.Shelf.SlSortCmp.NoneTotal
import Derived.Shelf.SlMaps.Equal
import Derived.Shelf.SlicesG.Cmp
import Derived.Shelf.SlGeneric
import Derived.Ground.SlsfProg
import Derived.Ground.SlmeProg
import Derived.Ground.SlgcProg
import Derived.Shelf.Lay
import Derived.Shelf.LaySoft
import Derived.LoopN
import Derived.RangeFuncNested
import Derived.RangeFuncBound
import Derived.RangeFuncCalls
import Derived.RangeFuncLeaves
import Derived.Sort.MapsRangeIn
import Derived.Laws.IdiomRangeMap
import Derived.Test.YthcblagpbkaoaaaGreatDoorTie
import Derived.LaidMore
import Derived.Stop.Joined
import Derived.WalkKit
import Derived.ProofKit
import Derived.OpenShut
import Derived.Deep.SlicePairs

namespace Go.Proofs.YthcblagpbkaoaaaGreatDoor
open Go.RowKit Go.WideShapes Go.ChangeShapes Go.ChangeAt Go.Deep
set_option maxRecDepth 100000
set_option maxHeartbeats 25600000
def plainT (P:Program):Nat->TypeId->Bool
 | 0,_=>false
 | d+1,t =>
  match P.underlying t with
  | some .bool=>true
  | some (.int _)=>true
  | some (.struct fs)=>fs.toList.all fun f=>plainT P d f.type
  | some (.slice e)=>plainT P d e && decide (0 < P.cellsOf e)
  | _=>false
def Good (P:Program) (w:World):Nat->TypeId->List Value->Prop
 | 0,_,_=>False
 | d+1,t,cs =>
  match P.underlying t with
  | some .bool=>∃ b,cs=[.bool b]
  | some (.int k)=>∃ n,cs=[.int k n]/\(Lit.int k n).wf=true
  | some (.struct fs)=>cs.length=P.cellsOf t/\∀ f∈fs.toList,Good P w d f.type ((cs.drop f.offset).take (P.cellsOf f.type))
  | some (.slice e)=>∃ A len cap,cs=[.slice A len cap]/\len<=maxLen/\len<=cap/\(len=0\/∃ b off,A=some ⟨b,off,none⟩/\b < w.heap.size/\∀ i,i < len->∃ us:List Value,us.length=P.cellsOf e/\CellsAt w b (off+i * P.cellsOf e) us/\Good P w d e us)
  | _=>False
section
variable {H:Type} {enc:TypeId × Value->H} {P:Program} {w:World} {held:Bool}
theorem good_of_trod:∀ (d:Nat) {t:TypeId} {fuel:Nat} {cs:List Value} {x:DataW H × List MemPlace},plainT P d t=true->DataW.trod enc P w 0 (fun _=>true) held fuel t cs=some x->(∀ p∈x.2,p.block < w.heap.size)->Good P w d t cs
 | 0,_,_,_,_,h,_,_=>by simp [plainT] at h
 | d+1,t,fuel,cs,x,h,hx,hlt=>by
  unfold plainT at h
  unfold Good
  split at h
  ·rename_i hu
   obtain ⟨b,rfl,_⟩:=DataW.trod_bool hu hx
   try rw [hu]
   exact ⟨b,rfl⟩
  ·rename_i k hu
   obtain ⟨n,rfl,_,hw⟩:=DataW.trod_int hu hx
   try rw [hu]
   exact ⟨n,rfl,hw⟩
  ·rename_i fs hu
   obtain ⟨xs,n,_,rfl,hl,hlen,hall⟩:=DataW.trod_struct hu hx
   try rw [hu]
   refine ⟨hl,fun f hf=>?_⟩
   obtain ⟨i,hi,he⟩:=List.getElem_of_mem hf
   have hi':i < fs.size:=by simpa using hi
   have h1:=hall i f (by simp [hi']; simpa using he)
   have hix:i < xs.length:=by omega
   rw [List.getElem?_eq_getElem hix] at h1
   exact good_of_trod d (List.all_eq_true.1 h f hf) h1 fun p hp=>hlt p (List.mem_flatMap.2 ⟨xs[i],List.getElem_mem hix,hp⟩)
  ·rename_i e hu
   rw [Bool.and_eq_true,decide_eq_true_iff] at h
   obtain ⟨h1,h0⟩:=h
   try rw [hu]
   rcases open_slice hu hx with ⟨rfl,_⟩ | ⟨a,len,cap,m,n,D,Pl,rfl,_,hl,hm,hmm,rfl,hall⟩
   ·exact ⟨none,0,0,rfl,Nat.zero_le _,Nat.le_refl _,.inl rfl⟩
   ·simp only [if_true] at hmm
    subst hmm
    refine ⟨some a,len,m,rfl,by omega,by omega,?_⟩
    by_cases hz:len=0
    ·exact .inl hz
    ·right
     have each:∀ i,i < m->∃ us:List Value,us.length=P.cellsOf e/\(∀ j v,us[j]?=some v->w.cell? (a.add (i * P.cellsOf e+j))=some v)/\Good P w d e us:=fun i hi=>by
      obtain ⟨cs',h2,h3⟩:=hall i hi
      obtain ⟨_,hlen,hcell⟩:=World.cells?_some h2
      refine ⟨cs',hlen,fun j v hj=>?_,good_of_trod d h1 h3 fun p hp=>hlt p (List.mem_append_right _ (List.mem_flatMap.2 ⟨i,by simpa using hi,hp⟩))⟩
      have hjl:j < P.cellsOf e:=by have:=(List.getElem?_eq_some_iff.1 hj).1; omega
      have:=hcell j hjl
      rw [add_add,hj] at this
      exact this
     obtain ⟨b,off,spot⟩:=a
     have hspot:spot=none:=by
      obtain ⟨us,hl',hc,_⟩:=each 0 (by omega)
      have:=hc 0 (us[0]'(by omega)) (by simp)
      simpa [Addr.add] using World.cell?_spot this
     subst hspot
     refine ⟨b,off,rfl,hlt (.cell b off) (List.mem_append_left _ (MemPlace.mem_row.2 ⟨0,Nat.mul_pos (by omega) h0,by simp⟩)),fun i hi=>?_⟩
     obtain ⟨us,h4,h5,h6⟩:=each i (by omega)
     refine ⟨us,h4,fun j v hj=>?_,h6⟩
     have:=h5 j v hj
     rw [add_plain] at this
     rw [Nat.add_assoc]; exact this
  ·cases h
end
theorem Good.rowC {α:Type} [Inhabited α] {enc:α->List Value} {Ok:α->Prop} {P:Program} {w:World} {t e:TypeId} {d:Nat} {cs:List Value} (ht:P.underlying t=some (.slice e)) (h:Good P w (d+1) t cs)
  (hdec:∀ us,us.length=P.cellsOf e->Good P w d e us->∃ r:α,enc r=us/\Ok r) :
  ∃ A cap,∃ xs:List α,cs=[.slice A xs.length cap]/\xs.length<=maxLen/\xs.length<=cap/\(∀ r∈xs,Ok r)/\RowX enc (P.cellsOf e) w A xs:=by
 unfold Good at h
 rw [ht] at h
 obtain ⟨A,len,cap,rfl,hm,hcap,hz | ⟨b,off,rfl,hb,hall⟩⟩:=h
 ·subst hz
  exact ⟨A,cap,[],rfl,hm,Nat.zero_le _,by simp,.inl rfl⟩
 ·have each:∀ i,i < len->∃ r:α,CellsAt w b (off+i * P.cellsOf e) (enc r)/\Ok r:=fun i hi=>by
   obtain ⟨us,h1,h2,h3⟩:=hall i hi
   obtain ⟨r,rfl,hr⟩:=hdec us h1 h3
   exact ⟨r,h2,hr⟩
  obtain ⟨f,hf⟩:=choose_lt each
  refine ⟨some ⟨b,off,none⟩,cap,(List.range len).map f,by simp,by simpa using hm,by simpa using hcap,fun r hr=>?_,?_⟩
  ·obtain ⟨i,hi,rfl⟩:=List.mem_map.1 hr
   exact (hf i (by simpa using hi)).2
  ·refine .inr ⟨b,off,rfl,hb,fun i hi=>?_⟩
   have hi':i < len:=by simpa using hi
   have e:((List.range len).map f).getD i default=f i:=by simp [hi']
   rw [e]
   exact (hf i hi').1
theorem Good.row {α:Type} [Inhabited α] {enc:α->List Value} {Ok:α->Prop} {P:Program} {w:World} {t e:TypeId} {d:Nat} {cs:List Value} (ht:P.underlying t=some (.slice e)) (h:Good P w (d+1) t cs)
  (hdec:∀ us,us.length=P.cellsOf e->Good P w d e us->∃ r:α,enc r=us/\Ok r) :
  ∃ A cap,∃ xs:List α,cs=[.slice A xs.length cap]/\xs.length<=maxLen/\(∀ r∈xs,Ok r)/\RowX enc (P.cellsOf e) w A xs:=by
 obtain ⟨A,cap,xs,h1,h2,-,h3,h4⟩:=h.rowC ht hdec
 exact ⟨A,cap,xs,h1,h2,h3,h4⟩
theorem open_rowG {α:Type} [Inhabited α] {enc:α->List Value} {Ok:α->Prop} {P:Program} {H:Type} {en:TypeId × Value->H} {W:World} {t e:TypeId} {d:Nat} {A:Option Addr} {len cap:Nat} {dt:DataW H} {p:List MemPlace}
  (ht:P.underlying t=some (.slice e)) (hpl:plainT P (d+1) t=true)
  (hdec:∀ us,us.length=P.cellsOf e->Good P W d e us->∃ r:α,enc r=us/\Ok r)
  (h:DataW.Trod en P W 0 (fun _=>true) true t (.slice A len cap) dt p) (hlt:∀ x∈p,x.block < W.heap.size) :
  ∃ xs:List α,xs.length=len/\len<=maxLen/\(∀ r∈xs,Ok r)/\RowX enc (P.cellsOf e) W A xs:=by
 obtain ⟨fuel,hf⟩:=h
 have hg:=good_of_trod (d+1) hpl hf hlt
 obtain ⟨A',cap',xs,he,h1,h2,h3⟩:=hg.row ht hdec
 simp only [Value.cells,List.cons.injEq,Value.slice.injEq,and_true] at he
 obtain ⟨rfl,rfl,rfl⟩:=he
 exact ⟨xs,rfl,h1,h2,h3⟩
theorem Good.int {P:Program} {w:World} {t:TypeId} {k:IntKind} {d:Nat} {cs:List Value} (ht:P.underlying t=some (.int k)) (h:Good P w (d+1) t cs):∃ n,cs=[.int k n]/\(Lit.int k n).wf=true:=by
 unfold Good at h; rw [ht] at h; exact h
theorem Good.struct {P:Program} {w:World} {t:TypeId} {fs:Array Field} {d:Nat} {cs:List Value} (ht:P.underlying t=some (.struct fs)) (h:Good P w (d+1) t cs):cs.length=P.cellsOf t/\∀ f∈fs.toList,Good P w d f.type ((cs.drop f.offset).take (P.cellsOf f.type)):=by
 unfold Good at h; rw [ht] at h; exact h
end Go.Proofs.YthcblagpbkaoaaaGreatDoor
namespace Go.Proofs.YthcblagpbkaoaaaGreatDoor
open Go.RowKit Go.Maps Go.Deep
set_option maxRecDepth 100000
set_option maxHeartbeats 25600000
def OkRw (W:World) (r:Rw):Prop:=r.ds.length<=maxLen/\(∀ d∈r.ds,InU d.key/\InU d.val)/\RowX encOp 4 W r.A r.ds
theorem cellsIntA:Tryz.prog.cellsOf 3=1:=by kernel_rfl
theorem cellsU64A:Tryz.prog.cellsOf 49=1:=by kernel_rfl
theorem cellsOpA:Tryz.prog.cellsOf 51=4:=by kernel_rfl
theorem cellsRwA:Tryz.prog.cellsOf 38=1:=by kernel_rfl
theorem dec_Dd (W:World) (us:List Value) (hl:us.length=Tryz.prog.cellsOf 51) (h:Good Tryz.prog W 5 51 us):∃ r:Dd,encOp r=us/\(InU r.key/\InU r.val):=by
 rw [cellsOpA] at hl
 match us,hl with
 | [u1,u2,u3,u4],_ =>
  obtain ⟨_,hg⟩:=Good.struct Tryz.underlying51 h
  have g0:=hg _ (List.Mem.head _)
  have g1:=hg _ (List.Mem.tail _ (List.Mem.head _))
  have g2:=hg _ (List.Mem.tail _ (List.Mem.tail _ (List.Mem.head _)))
  have g3:=hg _ (List.Mem.tail _ (List.Mem.tail _ (List.Mem.tail _ (List.Mem.head _))))
  simp only [cellsIntA,cellsU64A,List.drop_zero,List.drop_succ_cons,List.take_succ_cons,List.take_zero] at g0 g1 g2 g3
  obtain ⟨n1,e1,_⟩:=Good.int Tryz.underlying3 g0
  obtain ⟨n2,e2,w2⟩:=Good.int Tryz.underlying49 g1
  obtain ⟨n3,e3,w3⟩:=Good.int Tryz.underlying49 g2
  obtain ⟨n4,e4,_⟩:=Good.int Tryz.underlying3 g3
  simp only [List.cons.injEq,and_true] at e1 e2 e3 e4
  exact ⟨⟨0,n1,n2,n3,n4⟩,by rw [e1,e2,e3,e4]; rfl,u64_in w2,u64_in w3⟩
theorem dec_Rw (W:World) (us:List Value) (_:us.length=Tryz.prog.cellsOf 38) (h:Good Tryz.prog W 6 38 us):∃ r:Rw,encRw r=us/\OkRw W r:=by
 obtain ⟨A,cap,xs,e,h1,h2,h3⟩:=Good.row Tryz.underlying38 h (dec_Dd W)
 rw [cellsOpA] at h3
 exact ⟨⟨A,cap,xs⟩,e.symm,h1,h2,h3⟩
theorem plainRws:plainT Tryz.prog 7 22=true:=by kernel_rfl
theorem open_Rws {H:Type} {en:TypeId × Value->H} {W:World} {A:Option Addr} {len cap:Nat} {d:DataW H} {p:List MemPlace}
  (h:DataW.Trod en Tryz.prog W 0 (fun _=>true) true 22 (.slice A len cap) d p) (hlt:∀ x∈p,x.block < W.heap.size) :
  ∃ xs:List Rw,xs.length=len/\len<=maxLen/\(∀ r∈xs,OkRw W r)/\RowX encRw 1 W A xs:=by
 obtain ⟨xs,h1,h2,h3,h4⟩:=open_rowG (d:=6) Tryz.underlying22 plainRws (dec_Rw W) h hlt
 rw [cellsRwA] at h4
 exact ⟨xs,h1,h2,h3,h4⟩
end Go.Proofs.YthcblagpbkaoaaaGreatDoor
namespace Go.Proofs.YthcblagpbkaoaaaGreatDoor
open Go.RowKit Go.Maps
set_option maxRecDepth 100000
set_option maxHeartbeats 25600000
section
variable {w0:World}
def OpsOk (s l:Int) (r:Rw):Prop:=r.ds.length<=30/\∀ i,i < r.ds.length->opI 1 s 0 1 l (r.ds.getD i default).ok (r.ds.getD i default).key (r.ds.getD i default).val (r.ds.getD i default).lv=0
theorem great_k (s l:Int) (A Ap:Option Addr) (cap capp np:Nat) (rs:List Rw) (hrs:rs.length<=9223372036854775807) (hnp:np<=9223372036854775807) (hrow:RowX encRw 1 w0 A rs) (hlen:∀ r∈rs,r.ds.length<=9223372036854775807) (hok:∀ r∈rs,RowX encOp 4 w0 r.A r.ds) (w:World) (hw:Below w0.heap.size w0 w) :
  Calls Tryz.prog 12 #[.int .i64 s,.int .i64 l,.slice A rs.length cap,.slice Ap np capp] w fun o w'=>Below w.heap.size w w'/\(o=.returned (.bool true)\/(o=.returned (.bool false)/\(1<=s/\s<=40/\2<=l/\l<=1099511627775/\1<=rs.length/\rs.length<=4/\np<=1000)/\∀ i,i < rs.length->OpsOk s l (rs.getD i default))):=by
 have HROW:=Lib.hid hrow
 have HLEN:=Lib.hid hlen
 have HOK:=Lib.hid hok
 have HW:=Lib.hid hw
 clear hrow hlen hw hok
 by_cases h0:s < 1
 ·have b0:decide (s < 1)=true:=by simp; omega
  have H0:=Lib.hid h0
  clear h0
  go_enter Tryz.func12,Tryz.ntmps12
  go_wp2_with fail
  go_ret
  exact ⟨Below.refl _ _,.inl rfl⟩
 by_cases h1:40 < s
 ·have b0:decide (s < 1)=false:=by simp; omega
  have b1:decide (40 < s)=true:=by simp; omega
  have H0:=Lib.hid h0
  have H1:=Lib.hid h1
  clear h0 h1
  go_enter Tryz.func12,Tryz.ntmps12
  go_wp2_with fail
  go_ret
  exact ⟨Below.refl _ _,.inl rfl⟩
 by_cases h2:l < 2
 ·have b0:decide (s < 1)=false:=by simp; omega
  have b1:decide (40 < s)=false:=by simp; omega
  have b2:decide (l < 2)=true:=by simp; omega
  have H0:=Lib.hid h0
  have H1:=Lib.hid h1
  have H2:=Lib.hid h2
  clear h0 h1 h2
  go_enter Tryz.func12,Tryz.ntmps12
  go_wp2_with fail
  go_ret
  exact ⟨Below.refl _ _,.inl rfl⟩
 by_cases h3:1099511627775 < l
 ·have b0:decide (s < 1)=false:=by simp; omega
  have b1:decide (40 < s)=false:=by simp; omega
  have b2:decide (l < 2)=false:=by simp; omega
  have b3:decide (1099511627775 < l)=true:=by simp; omega
  have H0:=Lib.hid h0
  have H1:=Lib.hid h1
  have H2:=Lib.hid h2
  have H3:=Lib.hid h3
  clear h0 h1 h2 h3
  go_enter Tryz.func12,Tryz.ntmps12
  go_wp2_with fail
  go_ret
  exact ⟨Below.refl _ _,.inl rfl⟩
 by_cases h4:rs.length < 1
 ·have b0:decide (s < 1)=false:=by simp; omega
  have b1:decide (40 < s)=false:=by simp; omega
  have b2:decide (l < 2)=false:=by simp; omega
  have b3:decide (1099511627775 < l)=false:=by simp; omega
  have b4:decide ((rs.length:Int) < 1)=true:=by simp; omega
  have H0:=Lib.hid h0
  have H1:=Lib.hid h1
  have H2:=Lib.hid h2
  have H3:=Lib.hid h3
  have H4:=Lib.hid h4
  clear h0 h1 h2 h3 h4
  go_enter Tryz.func12,Tryz.ntmps12
  go_wp2_with fail
  go_ret
  exact ⟨Below.refl _ _,.inl rfl⟩
 by_cases h5:4 < rs.length
 ·have b0:decide (s < 1)=false:=by simp; omega
  have b1:decide (40 < s)=false:=by simp; omega
  have b2:decide (l < 2)=false:=by simp; omega
  have b3:decide (1099511627775 < l)=false:=by simp; omega
  have b4:decide ((rs.length:Int) < 1)=false:=by simp; omega
  have b5:decide (4 < (rs.length:Int))=true:=by simp; omega
  have H0:=Lib.hid h0
  have H1:=Lib.hid h1
  have H2:=Lib.hid h2
  have H3:=Lib.hid h3
  have H4:=Lib.hid h4
  have H5:=Lib.hid h5
  clear h0 h1 h2 h3 h4 h5
  go_enter Tryz.func12,Tryz.ntmps12
  go_wp2_with fail
  go_ret
  exact ⟨Below.refl _ _,.inl rfl⟩
 by_cases h6:1000 < np
 ·have b0:decide (s < 1)=false:=by simp; omega
  have b1:decide (40 < s)=false:=by simp; omega
  have b2:decide (l < 2)=false:=by simp; omega
  have b3:decide (1099511627775 < l)=false:=by simp; omega
  have b4:decide ((rs.length:Int) < 1)=false:=by simp; omega
  have b5:decide (4 < (rs.length:Int))=false:=by simp; omega
  have b6:decide (1000 < (np:Int))=true:=by simp; omega
  have H0:=Lib.hid h0
  have H1:=Lib.hid h1
  have H2:=Lib.hid h2
  have H3:=Lib.hid h3
  have H4:=Lib.hid h4
  have H5:=Lib.hid h5
  have H6:=Lib.hid h6
  clear h0 h1 h2 h3 h4 h5 h6
  go_enter Tryz.func12,Tryz.ntmps12
  go_wp2_with fail
  go_ret
  exact ⟨Below.refl _ _,.inl rfl⟩
 have b0:decide (s < 1)=false:=by simp; omega
 have b1:decide (40 < s)=false:=by simp; omega
 have b2:decide (l < 2)=false:=by simp; omega
 have b3:decide (1099511627775 < l)=false:=by simp; omega
 have b4:decide ((rs.length:Int) < 1)=false:=by simp; omega
 have b5:decide (4 < (rs.length:Int))=false:=by simp; omega
 have b6:decide (1000 < (np:Int))=false:=by simp; omega
 have HG:Hid (1<=s/\s<=40/\2<=l/\l<=1099511627775/\1<=rs.length/\rs.length<=4/\np<=1000):=Lib.hid (by refine ⟨?_,?_,?_,?_,?_,?_,?_⟩<;>omega)
 clear h0 h1 h2 h3 h4 h5 h6
 go_enter Tryz.func12,Tryz.ntmps12
 go_wp2_with fail
 clear b0 b1 b2 b3 b4 b5 b6
 go_loopw [9] (fun iv wr=>∃ (j:Nat),j<=rs.length/\iv=.int .i64 j/\Hid (∀ i,i < j->OpsOk s l (rs.getD i default))/\Below w.heap.size w wr) (fun iv _=>rs.length - (intOf iv).toNat)
 case atStart=>exact ⟨0,Nat.zero_le _,rfl,Lib.hid (fun i hi=>absurd hi (Nat.not_lt_zero _)),Below.refl _ _⟩
 case round =>
  obtain ⟨j,hj,rfl,hall,hbe⟩:=hrel
  by_cases hlt:j < rs.length
  ·have hb1:decide ((j:Int) < (rs.length:Int))=true:=by simp; omega
   have hb9:(j:Int) < (rs.length:Int):=by omega
   obtain ⟨g,off,hA,hc⟩:=rowRw HROW.out HW.out j hlt
   have hA9:=Lib.hid hA
   subst hA
   have hbw:Below w0.heap.size w0 wr:=HW.out.trans (hbe.mono HW.out.size)
   have c0:=hc wr hbw
   have hmem:rs.getD j default∈rs:=by rw [show rs.getD j default=rs[j] by simp [hlt]]; exact List.getElem_mem _
   have hl9:=HLEN.out _ hmem
   have hro:=HOK.out _ hmem
   obtain ⟨r,hr⟩:∃ r,rs.getD j default=r:=⟨_,rfl⟩
   rw [hr] at c0 hl9 hro hc
   have HR:=Lib.hid hr
   have HHL:=Lib.hid hlt
   have HC:=Lib.hid hc
   have HRO:=Lib.hid hro
   clear hA9 hr hmem hlt hc hro hbw
   by_cases h40:30 < r.ds.length
   ·have b5:decide (30 < (r.ds.length:Int))=true:=by simp; omega
    clear h40
    go_wp2_with fail
    go_ret
    exact ⟨hbe,.inl rfl⟩
   ·have b5:decide (30 < (r.ds.length:Int))=false:=by simp; omega
    have H40:=Lib.hid h40
    clear h40
    go_wp2_with fail
    clear b5 c0
    go_loopw [10] (fun kv wr=>∃ (k:Nat),k<=r.ds.length/\kv=.int .i64 k/\Hid (∀ i,i < k->opI 1 s 0 1 l (r.ds.getD i default).ok (r.ds.getD i default).key (r.ds.getD i default).val (r.ds.getD i default).lv=0)/\Below w.heap.size w wr) (fun kv _=>r.ds.length - (intOf kv).toNat)
    case atStart=>exact ⟨0,Nat.zero_le _,rfl,Lib.hid (fun i hi=>absurd hi (Nat.not_lt_zero _)),hbe⟩
    case round =>
     clear hbe
     obtain ⟨k,hk,rfl,hall2,hbe⟩:=hrel
     have hbw:Below w0.heap.size w0 wr:=HW.out.trans (hbe.mono HW.out.size)
     have c0:=HC.out wr hbw
     by_cases hlt:k < r.ds.length
     ·have hb2:decide ((k:Int) < (r.ds.length:Int))=true:=by simp; omega
      have hb3:(k:Int) < (r.ds.length:Int):=by omega
      rcases HRO.out with h0 | ⟨gb,off2,hA2,hl2,hc2⟩
      ·rw [h0] at hlt; simp at hlt
      have hcc:Hid (∀ v,Below w0.heap.size w0 v->CellsAt v gb (off2+k * 4) (encOp (r.ds.getD k default))):=Lib.hid fun v hv=>(hc2 k hlt).below hv hl2
      rw [hA2] at c0
      have HC2:Hid (∀ v,Below w0.heap.size w0 v->v.cell? ⟨g,off+j,none⟩=some (.slice (some ⟨gb,off2,none⟩) r.ds.length r.cap)):=Lib.hid fun v hv=>by rw [<- hA2]; exact HC.out v hv
      obtain ⟨⟨kk,kd,key,val,lv⟩,hd⟩:∃ d,r.ds.getD k default=d:=⟨_,rfl⟩
      rw [hd] at hcc
      have HD:=Lib.hid hd
      have HHL2:=Lib.hid hlt
      have HLK:=Lib.hid fun v=>list_k s l v
      have HIO:=Lib.hid fun v=>isOp_any 1 s 0 1 l kd key val lv v
      clear hd hlt hc2 hl2 hA2
      obtain ⟨io,hio⟩:∃ io,opI 1 s 0 1 l kd key val lv=io:=⟨_,rfl⟩
      rw [hio] at HIO
      have HI:=Lib.hid hio
      clear hio
      go_wp2_with fail
      refine wp_text (S:=(fun v=>Below w0.heap.size w0 v/\Below w.heap.size w v)) (by kernel_rfl) (by kernel_rfl) ⟨hbw.drew,hbe.drew⟩ (fun hT=>?_)
      have hT9:=Lib.hid hT
      clear hT
      repeat (first
       | (refine text_value (v:=?_) hT9.out (by rfl) ?_ ?_; rotate_left; (focus (intro w5 hS; (have c0:=HC2.out _ hS.1; have rc9:=hcc.out _ hS.1; have d0:=rc9 0 _ rfl; have d1:=rc9 1 _ rfl; have d2:=rc9 2 _ rfl; have d3:=rc9 3 _ rfl; clear rc9; simp only [Nat.add_zero] at d0); go_simp<;>with_reducible rfl)); (try simp only [Act.put,zA,zZ,zS]))
       | (refine text_off hT9.out (by rfl) ?_; (try simp only [Act.put,zA,zZ,zS]))
       | (refine text_call (v:=?_) (f:=?_) (args:=?_) hT9.out (by rfl) ?_ ?_ ?_; rotate_left 3; (focus (intro w5 hS; (have c0:=HC2.out _ hS.1; have rc9:=hcc.out _ hS.1; have d0:=rc9 0 _ rfl; have d1:=rc9 1 _ rfl; have d2:=rc9 2 _ rfl; have d3:=rc9 3 _ rfl; clear rc9; simp only [Nat.add_zero] at d0); go_simp; constructor<;>with_reducible rfl)); (focus (intro w5 hS; (first | (with_reducible refine (HLK.out _).mono ?_; rintro e9 w6 ⟨rfl,hb5⟩; constructor; with_reducible rfl; exact ⟨hS.1.trans (hb5.mono hS.1.size),hS.2.trans (hb5.mono hS.2.size)⟩) | (with_reducible refine (HIO.out _).mono ?_; rintro e9 w6 ⟨rfl,hb5⟩; constructor; with_reducible rfl; exact ⟨hS.1.trans (hb5.mono hS.1.size),hS.2.trans (hb5.mono hS.2.size)⟩)))); (try simp only [Act.put,zA,zZ,zS])))
      refine InText.nil fun w5 hS5=>?_
      clear hT9
      clear hbw hbe c0
      by_cases hio0:io=0
      ·have b6:(io != 0)=false:=by simp [hio0]
       have H6:=Lib.hid hio0
       clear hio0
       go_wp2_with fail
       refine ⟨⟨k+1,by have:=HHL2.out; omega,by simp,Lib.hid fun i hi=>?_,hS5.2⟩,by have:=HHL2.out; simp only [intOf]; omega⟩
       by_cases he:i=k
       ·subst he
        rw [HD.out]
        show opI 1 s 0 1 l kd key val lv=0
        rw [HI.out,H6.out]
       ·exact hall2.out i (by omega)
      ·have b6:(io != 0)=true:=by simp [hio0]
       clear hio0
       go_wp2_with fail
       go_ret
       exact ⟨hS5.2,.inl rfl⟩
     ·have hb2:decide ((k:Int) < (r.ds.length:Int))=false:=by simp; omega
      have HHL2:=Lib.hid hlt
      clear hlt
      go_wp2_with fail
      have hlt:=HHL.out
      refine ⟨⟨j+1,by omega,by simp,Lib.hid fun i hi=>?_,hbe⟩,by simp only [intOf]; omega⟩
      by_cases he:i=j
      ·subst he
       rw [HR.out]
       exact ⟨by have:=H40.out; omega,fun i hi=>hall2.out i (by have:=HHL2.out; omega)⟩
      ·exact hall.out i (by omega)
  ·have hb1:decide ((j:Int) < (rs.length:Int))=false:=by simp; omega
   have HHL:=Lib.hid hlt
   clear hlt
   go_wp2_with fail
   go_ret
   exact ⟨hbe,.inr ⟨rfl,HG.out,fun i hi=>hall.out i (by have:=HHL.out; omega)⟩⟩
end
def C9:Cf:=⟨1,4,0,1,9⟩
def d16 (i:Nat):Dd:=⟨0,if i<=1 then 1 else i,5,0,0⟩
def ds16:List Dd:=[⟨0,1,5,0,0⟩,⟨0,1,5,0,0⟩,⟨0,2,5,0,0⟩,⟨0,3,5,0,0⟩]
def s16 (i:Nat):Nat:=if i=0 then 12 else if i=1 then 7 else if i=2 then 11 else 3
def r16 (i:Nat):Bool:=i==0 || i==2
def runJ (d:Dd) (K:Kt) (f:Mem):Nat->Int × Kt × Mem
 | 0=>(0,K,f)
 | n+1=>opM C9 d (runJ d K f n).2.1 (runJ d K f n).2.2
def endK (r:Int × Kt × Mem):Kt:={ r.2.1 with pc:=0 }
def at16:Nat->Kt × Mem
 | 0=>(K0,getL ml0)
 | i+1=>(endK (runJ (d16 i) (beginK (d16 i) (at16 i).1) (at16 i).2 (s16 i)),(runJ (d16 i) (beginK (d16 i) (at16 i).1) (at16 i).2 (s16 i)).2.2)
def run16 (i j:Nat):Int × Kt × Mem:=runJ (d16 i) (beginK (d16 i) (at16 i).1) (at16 i).2 j
set_option maxRecDepth 100000 in
theorem busy16:∀ i,i < 4->∀ j,j < s16 i->(run16 i j).1=0/\1<=(run16 i j).2.1.pc/\(run16 i j).2.1.pc<=7:=by decide +kernel
set_option maxRecDepth 100000 in
theorem done16:∀ i,i < 4->(run16 i (s16 i)).1=1/\(run16 i (s16 i)).2.1.err=0/\(run16 i (s16 i)).2.1.dn=r16 i:=by decide +kernel
set_option maxRecDepth 100000 in
theorem at16_nd:∀ i,i < 5->(at16 i).1.T.nd=i/\(at16 i).1.pc=0:=by decide +kernel
theorem ok9:COk C9:=⟨by decide,by decide,by decide⟩
def rowO16:List Value:=[.int .i64 1,.int .u64 5,.int .u64 0,.int .i64 0,.int .i64 1,.int .u64 5,.int .u64 0,.int .i64 0,.int .i64 2,.int .u64 5,.int .u64 0,.int .i64 0,.int .i64 3,.int .u64 5,.int .u64 0,.int .i64 0]
def tm0 (c q:Nat):Tm:={ thr:=0,c:=c,q:=q,u:=0,F:=fun _=>False,kq:=2,A:=none,rc:=0,N:=0,cr:=0,ro:=0,dA:=none,dn:=0,dc:=0,pa:=.pointer none,pb:=.pointer none,pr:=.pointer none,pq:=.pointer none,pg:=.pointer none,ph:=.pointer none }
def rowS16:List Value:=[.int .i64 12,.int .i64 7,.int .i64 11,.int .i64 3]
def rowD16:List Value:=[.bool true,.bool false,.bool true,.bool false]
theorem awake_k (w:World) (hg:Glo w):Calls Tryz.prog 11 #[] w fun o w'=>o=.returned (.bool true)/\Below w.heap.size w w':=by
 have hE:=Env.start w
 have HG:=Lib.hid hg
 have HC:=Lib.hid (show chkI 1 4 0 1 9=0 by decide)
 clear hg
 go_enter Tryz.func11,Tryz.ntmps11
 go_wp2_with fail
 refine (new_w hE).mono ?_
 rintro o w3 ⟨p,cc,rfl,hE3,hb⟩
 clear hb hE
 go_wp2_with fail
 refine (start_w 0 1 (by decide) (by unfold maxLen; omega) hE3 rfl rfl).mono ?_
 rintro o w4 ⟨rfl,F4,hE4⟩
 simp only [zS,zZ] at hE4
 clear hE3
 generalize ({ l:=_,s:=_,w:=_,f:=_,a:=_ }:Cnt)=q4 at hE4
 go_wp2_with fail
 refine (list_k 4 9 _).mono ?_
 rintro o w5 ⟨rfl,hb⟩
 replace hE4:=hE4.over hb
 clear hb
 go_wp2_with fail
 refine (newYes_c 1 4 0 1 9 HC.out hE4).mono ?_
 rintro o w6 ⟨c,q,F,rfl,hE6⟩
 clear hE4
 go_wp2_with fail
 have hE7:=((hE6.box w6.heap.size rfl [.int .i64 1,.int .u64 5,.int .u64 0,.int .i64 0,.int .i64 1,.int .u64 5,.int .u64 0,.int .i64 0,.int .i64 2,.int .u64 5,.int .u64 0,.int .i64 0,.int .i64 3,.int .u64 5,.int .u64 0,.int .i64 0] 102).box (w6.heap.size+1) (by simp) [.int .i64 12,.int .i64 7,.int .i64 11,.int .i64 3] 75).box (w6.heap.size+1+1) (by simp) [.bool true,.bool false,.bool true,.bool false] 93
 generalize World.alloc (World.alloc (World.alloc w6 _) _) _=w7 at *
 clear hE6
 generalize w6.heap.size+1+1=Z5 at *
 generalize w6.heap.size+1=Z4 at *
 generalize w6.heap.size=Z3 at *
 have HRO:Hid (∀ (S:ST) (ps:List Item) (v:World),Env w (ps++LT S [boxI Z5 rowD16,boxI Z4 rowS16,boxI Z3 rowO16]) v->(∀ j,v.cell? ⟨Z5,j,none⟩=rowD16[j]?)/\(∀ j,v.cell? ⟨Z4,j,none⟩=rowS16[j]?)/\∀ j,v.cell? ⟨Z3,j,none⟩=rowO16[j]?):=Lib.hid fun S ps v hv=>⟨Blk.rule ((hv.2.2 (boxI Z5 rowD16) (by simp [LT])).1),Blk.rule ((hv.2.2 (boxI Z4 rowS16) (by simp [LT])).1),Blk.rule ((hv.2.2 (boxI Z3 rowO16) (by simp [LT])).1)⟩
 have hf0:upd (fun _=>0) (1,0,0) 1=(at16 0).2:=by
  funext x
  show _=getL ml0 x
  rw [ml0_at]
  unfold upd
  by_cases hx:x=(1,0,0)
  ·simp [hx]
  ·simp [hx]
 have hE8:Env w (LT (SPK C9 { tm0 c q with F:=F,kq:=2 } (vm p cc 0) (at16 0).1 (at16 0).2 F4 q4 (0+1)) [boxI Z5 rowD16,boxI Z4 rowS16,boxI Z3 rowO16]) w7:=by
  rw [<- hf0]
  exact hE7.perm (List.perm_append_comm (l₁:=[_,_,_]))
 clear hE7 hf0
 have HK0:Hid (KOk C9 ds16 4 (d16 0) (at16 0).1/\OkF C9 (at16 0).2/\LnkF C9 (at16 0).2):=Lib.hid ⟨K0_ok ok9 (by decide),ml0_ok ok9⟩
 go_loopw [6] (fun iv wr=>∃ (i B n k:Nat) (F G:Nat->Prop) (qc:Cnt),i<=4/\iv=.int .i64 i/\B<=4+12 * i/\n<=2+12 * i/\Hid (∀ d,KOk C9 ds16 B d (at16 i).1)/\Hid (OkF C9 (at16 i).2/\LnkF C9 (at16 i).2)/\Env w (LT (SPK C9 { tm0 c q with F:=F,kq:=k } (vm p cc 0) (at16 i).1 (at16 i).2 G qc n) [boxI Z5 rowD16,boxI Z4 rowS16,boxI Z3 rowO16]) wr) (fun iv _=>4 - (intOf iv).toNat)
 case atStart=>exact ⟨0,4,0+1,2,F,F4,q4,by omega,rfl,by omega,by omega,Lib.hid fun d=>HK0.out.1.any rfl,Lib.hid HK0.out.2,hE8⟩
 case round =>
  clear hE8 HK0
  obtain ⟨i,B,n,k,F,G,qc,hi,rfl,hB,hn,hK,hF,hE⟩:=hrel
  by_cases hlt:i < 4
  ·have hb1:decide ((i:Int) < 4)=true:=by simp; omega
   have hb2:(i:Int) < 4:=by omega
   have HNW:=Lib.hid fun (v:World) (hv:Env w (LT (SPK C9 { tm0 c q with F:=F,kq:=k } (vm p cc 0) (at16 i).1 (at16 i).2 G qc n) [boxI Z5 rowD16,boxI Z4 rowS16,boxI Z3 rowO16]) v)=>newYes_o (c:=c) (e:=(at16 i).1.T.e) (r:=(at16 i).1.r) (hs:=(at16 i).1.T.hs) (hi:=0) (q:=q) (s:=4) (b:=0) (h:=1) (l:=9) 0 (d16 i).ok (d16 i).key (d16 i).val (d16 i).lv (by unfold d16; dsimp only; split<;>omega) (by rcases (show i=0\/i=1\/i=2\/i=3 by omega) with rfl | rfl | rfl | rfl<;>decide) rfl hv
   have hc9:∀ j,wr.cell? ⟨Z3,j,none⟩=rowO16[j]?:=(HRO.out _ [] _ hE).2.2
   have c0:wr.cell? ⟨Z3,i * 4,none⟩=some (.int .i64 (d16 i).ok):=by rw [hc9]; rcases (show i=0\/i=1\/i=2\/i=3 by omega) with rfl | rfl | rfl | rfl<;>rfl
   have c1:wr.cell? ⟨Z3,i * 4+1,none⟩=some (.int .u64 (d16 i).key):=by rw [hc9]; rcases (show i=0\/i=1\/i=2\/i=3 by omega) with rfl | rfl | rfl | rfl<;>rfl
   have c2:wr.cell? ⟨Z3,i * 4+2,none⟩=some (.int .u64 (d16 i).val):=by rw [hc9]; rcases (show i=0\/i=1\/i=2\/i=3 by omega) with rfl | rfl | rfl | rfl<;>rfl
   have c3:wr.cell? ⟨Z3,i * 4+3,none⟩=some (.int .i64 (d16 i).lv):=by rw [hc9]; rcases (show i=0\/i=1\/i=2\/i=3 by omega) with rfl | rfl | rfl | rfl<;>rfl
   have HLT:=Lib.hid hlt
   clear hc9 hlt hi
   go_wp2_with fail
   refine (HNW.out _ hE).mono ?_
   rintro e w8 ⟨o,b1,b2,sb,rfl,hE8⟩
   clear hE HNW c0 c1 c2 c3
   have hnd:=at16_nd i (by have:=HLT.out; omega)
   have hbg:=begin_keep (ds:=ds16) (B:=B) ok9 (hK.out (d16 i)) hnd.2 (by rw [hnd.1]; exact HLT.out) (d16 i)
   have hbk:beginK (d16 i) (at16 i).1={ findM (at16 i).1 with T:={ (at16 i).1.T with nd:=(at16 i).1.T.nd+1 },err:=0,dn:=false }:=by unfold beginK; rw [if_neg (by have:=HLT.out; unfold d16; dsimp only; split<;>omega)]
   have hE9:Env w ([boxI o (opC c (d16 i).ok (d16 i).key (d16 i).val (d16 i).lv (cvP b1 b2) 0 (.pointer (some ⟨sb,0,none⟩)) 0 false),boxI b1 [mvL 118 sb],boxI b2 [mvL 119 o],boxI sb (srC c 0 (d16 i).key false (.pointer none))]++LT (SPK C9 { tm0 c q with F:=F,kq:=k } (vm p cc 0) (run16 i 0).2.1 (run16 i 0).2.2 G qc n) [boxI Z5 rowD16,boxI Z4 rowS16,boxI Z3 rowO16]) w8:=by
    show Env w ([_,_,_,_]++LT (SPK C9 { tm0 c q with F:=F,kq:=k } (vm p cc 0) (beginK (d16 i) (at16 i).1) (at16 i).2 G qc n) [boxI Z5 rowD16,boxI Z4 rowS16,boxI Z3 rowO16]) w8
    rw [hbk]
    exact hE8
   have HPM:Hid (PM C9 c (d16 i) (run16 i 0).2.1 o [boxI o (opC c (d16 i).ok (d16 i).key (d16 i).val (d16 i).lv (cvP b1 b2) 0 (.pointer (some ⟨sb,0,none⟩)) 0 false),boxI b1 [mvL 118 sb],boxI b2 [mvL 119 o],boxI sb (srC c 0 (d16 i).key false (.pointer none))]):=Lib.hid (by
    show PM C9 c (d16 i) (beginK (d16 i) (at16 i).1) o _
    rw [hbk]
    exact ⟨b1,b2,_,_,_,[_],rfl,.inl ⟨rfl,sb,rfl,rfl,rfl,.inl ⟨rfl,rfl,.inl rfl⟩⟩⟩)
   have HBG:Hid (KOk C9 ds16 B (d16 i) (run16 i 0).2.1):=Lib.hid hbg.1
   have HF:Hid (OkF C9 (run16 i 0).2.2/\LnkF C9 (run16 i 0).2.2):=Lib.hid hF.out
   clear hE8 hbk hbg hnd hK hF
   have hs12:s16 i<=12:=by unfold s16; split<;>(try split)<;>(try split)<;>omega
   have hs1:1<=s16 i:=by unfold s16; split<;>(try split)<;>(try split)<;>omega
   go_wp2_with fail
   go_loopw [8,9] (fun nv sv wr=>∃ (j B n k:Nat) (st:Int) (F G:Nat->Prop) (qc:Cnt) (ps:List Item),j<=s16 i/\nv=.int .i64 j/\sv=.int .i64 st/\B<=4+12 * i+j/\n<=2+12 * i+j/\Hid (st=(run16 i j).1)/\Hid (st=0->PM C9 c (d16 i) (run16 i j).2.1 o ps/\KOk C9 ds16 B (d16 i) (run16 i j).2.1)/\Hid (st≠0->(∃ nx sp,ps=[boxI o (opC c (d16 i).ok (d16 i).key (d16 i).val (d16 i).lv nx st sp (run16 i j).2.1.err (run16 i j).2.1.dn)])/\KOk C9 ds16 B (d16 i) (endK (run16 i j)))/\Hid (OkF C9 (run16 i j).2.2/\LnkF C9 (run16 i j).2.2)/\Env w (ps++LT (SPK C9 { tm0 c q with F:=F,kq:=k } (vm p cc 0) (run16 i j).2.1 (run16 i j).2.2 G qc n) [boxI Z5 rowD16,boxI Z4 rowS16,boxI Z3 rowO16]) wr) (fun nv _ _=>50 - (intOf nv).toNat)
   case atStart=>exact ⟨0,B,n,k,0,F,G,qc,_,Nat.zero_le _,rfl,rfl,by omega,by omega,Lib.hid rfl,Lib.hid (fun _=>⟨HPM.out,HBG.out⟩),Lib.hid (fun h=>absurd rfl h),HF,hE9⟩
   case round =>
    clear hE9 HPM HBG HF
    obtain ⟨j,B9,n9,k9,st,F9,G9,qc9,ps,hj,rfl,rfl,hB9,hn9,hst,hP,hQ,hF,hE⟩:=hrel
    by_cases hjl:j < s16 i
    ·have hby:=busy16 i HLT.out j hjl
     have h0:st=0:=by rw [hst.out]; exact hby.1
     subst h0
     have hb3:decide ((j:Int) < 50)=true:=by simp; omega
     have hP:=(hP.out rfl)
     have hi4:=HLT.out
     have hkc:=hP.2.kc (n:=n9) ok9 hF.out.1 hF.out.2 hby.2.1 hby.2.2 (by show InU 5/\InU 0; unfold InU; omega) (by omega) (by unfold maxLen; omega)
     have HST:=Lib.hid (op_p (R:=[boxI Z5 rowD16,boxI Z4 rowS16,boxI Z3 rowO16]) (X:={ tm0 c q with F:=F9,kq:=k9 }) (V:=vm p cc 0) hkc HG.out hP.1 hE)
     have HKE:=Lib.hid fun hu=>op_keep ok9 hF.out.1 hF.out.2 hP.2 hby.2.1 hby.2.2 hu
     have HNX:Hid (opM C9 (d16 i) (run16 i j).2.1 (run16 i j).2.2=run16 i (j+1)):=Lib.hid rfl
     rw [HNX.out] at HST HKE
     clear hkc hby hst hP hQ hE hF hi4 HNX
     go_wp2_with fail
     refine HST.out.mono ?_
     rintro e w9 ⟨s9,rfl,hs9,F',k',G',qc',n',ps',⟨hn',-⟩,h0,h1,hE'⟩
     have hu:∀ x,InU ((run16 i (j+1)).2.2 x):=fun x=>by
      have h9:Blk 0 w9 0 []\/True:=.inr trivial
      exact (hE'.perm (List.perm_append_comm)).cell 3 rfl |>.words.1 x
     have hke:=HKE.out hu
     clear HST HKE
     subst hs9
     go_wp2_with fail
     refine ⟨⟨j+1,B9+1,n',k',_,F',G',qc',ps',hjl,by simp,rfl,by omega,by omega,Lib.hid rfl,Lib.hid fun h=>⟨h0 h,?_⟩,Lib.hid fun h=>⟨h1 h,?_⟩,Lib.hid ⟨hke.f,hke.l⟩,hE'⟩,by simp [intOf]; omega⟩
     ·have:=hke.k
      rw [if_pos h] at this
      exact this
     ·have:=hke.k
      rw [if_neg h] at this
      exact this
    ·have hjs:j=s16 i:=by omega
     subst hjs
     have hdn:=done16 i HLT.out
     have h1:st=1:=by rw [hst.out]; exact hdn.1
     subst h1
     obtain ⟨⟨nx,sp,rfl⟩,hK⟩:=hQ.out (by decide)
     rw [hdn.2.1,hdn.2.2] at hE
     have HK:=Lib.hid hK
     clear hP hQ hdn hst hK
     have hb3:decide (((s16 i:Nat):Int) < 50)=true:=by simp; omega
     go_wp2_with fail
     have HAN:Hid (∀ v,Env w ([boxI o (opC c (d16 i).ok (d16 i).key (d16 i).val (d16 i).lv nx 1 sp 0 (r16 i))]++LT (SPK C9 { tm0 c q with F:=F9,kq:=k9 } (vm p cc 0) (run16 i (s16 i)).2.1 (run16 i (s16 i)).2.2 G9 qc9 n9) [boxI Z5 rowD16,boxI Z4 rowS16,boxI Z3 rowO16]) v->Calls Tryz.prog 28 #[.pointer (some ⟨o,0,none⟩)] v fun p w'=>p=.returned (.agg #[.int .i64 0,.bool (r16 i),.int .u64 0])/\Below v.heap.size v w'):=Lib.hid fun v hv=>answer_o (hv.get 0 rfl)
     have HCE:Hid (∀ v,Env w ([boxI o (opC c (d16 i).ok (d16 i).key (d16 i).val (d16 i).lv nx 1 sp 0 (r16 i))]++LT (SPK C9 { tm0 c q with F:=F9,kq:=k9 } (vm p cc 0) (run16 i (s16 i)).2.1 (run16 i (s16 i)).2.2 G9 qc9 n9) [boxI Z5 rowD16,boxI Z4 rowS16,boxI Z3 rowO16]) v->v.cell? ⟨Z4,i,none⟩=some (.int .i64 (s16 i))/\v.cell? ⟨Z5,i,none⟩=some (.bool (r16 i))):=Lib.hid fun v hv=>by
      have h9:=HRO.out _ _ _ hv
      have hi4:=HLT.out
      rw [h9.1,h9.2.1]
      rcases (show i=0\/i=1\/i=2\/i=3 by omega) with rfl | rfl | rfl | rfl<;>exact ⟨rfl,rfl⟩
     have hss:((((s16 i:Nat):Int)) != ((s16 i:Nat):Int))=false:=by simp
     have hi4:(i:Int) < 4:=by have:=HLT.out; omega
     refine wp_text (S:=(Env w ([boxI o (opC c (d16 i).ok (d16 i).key (d16 i).val (d16 i).lv nx 1 sp 0 (r16 i))]++LT (SPK C9 { tm0 c q with F:=F9,kq:=k9 } (vm p cc 0) (run16 i (s16 i)).2.1 (run16 i (s16 i)).2.2 G9 qc9 n9) [boxI Z5 rowD16,boxI Z4 rowS16,boxI Z3 rowO16]))) (by kernel_rfl) (by kernel_rfl) hE.drew (fun hT=>?_)
     have hT9:=Lib.hid hT
     clear hT
     repeat (first
      | (refine text_value (v:=?_) hT9.out (by rfl) ?_ ?_; rotate_left; (focus (intro w5 hS; obtain ⟨e1,e2⟩:=HCE.out _ hS; go_simp<;>with_reducible rfl)); (try simp only [Act.put,zA,zZ,zS]))
      | (refine text_off hT9.out (by rfl) ?_; (try simp only [Act.put,zA,zZ,zS]))
      | (refine text_call (v:=?_) (f:=?_) (args:=?_) hT9.out (by rfl) ?_ ?_ ?_; rotate_left 3; (focus (intro w5 hS; obtain ⟨e1,e2⟩:=HCE.out _ hS; go_simp; constructor<;>with_reducible rfl)); (focus (intro w5 hS; (first | (with_reducible refine (HAN.out _ hS).mono ?_; rintro e9 w6 ⟨rfl,hb5⟩; constructor; with_reducible rfl; exact hS.over hb5)))); (try simp only [Act.put,zA,zZ,zS])))
     refine InText.nil fun w5 hS5=>?_
     clear hT9
     clear hE HAN HCE
     go_wp2_with fail
     have hi4:=HLT.out
     exact ⟨⟨i+1,B9,n9,k9,F9,G9,qc9,by omega,by simp,by omega,by omega,Lib.hid fun d=>HK.out.any rfl,hF,hS5.sub (.cons _ (List.Sublist.refl _))⟩,by simp [intOf]; omega⟩
  ·have hb1:decide ((i:Int) < 4)=false:=by simp; omega
   have hn:=HC.out
   go_wp2_with fail
   have hE9:=hE
   refine (newNo_o (c:=c) (k:=1) (s:=4) (b:=0) (h:=1) (l:=9) (q:=q) 0 8 0 0 0 (.inr (.inl rfl)) rfl hE).mono ?_
   rintro e w9 ⟨rfl,hE10⟩
   go_wp2_with fail
   go_ret
   exact ⟨rfl,hE10.below⟩
end Go.Proofs.YthcblagpbkaoaaaGreatDoor
namespace Go.Proofs.YthcblagpbkaoaaaGreatDoor
set_option maxRecDepth 100000
set_option maxHeartbeats 25600000
theorem pv_inj {x y:Plc} (h:pv x=pv y):x=y:=by
 obtain ⟨a,b,c⟩:=x
 obtain ⟨a',b',c'⟩:=y
 simp [pv] at h
 simp [h]
def OpsF (f:Plc->Int) (ss:List Plc):Prop:=ss.Nodup/\∀ x,x∈ss ↔ f x≠0
end Go.Proofs.YthcblagpbkaoaaaGreatDoor
namespace Go.Proofs
open Go.Shelf
set_option maxRecDepth 100000
set_option maxHeartbeats 25600000
def Tryz.cloneWords_ren:Go.Shelf.Ren:=⟨fun | 5=>158 | 7=>193 | n=>n,fun | 23=>185 | 25=>65 | 3=>49 | 4=>4 | 20=>20 | n=>n,fun | n=>n⟩
theorem Tryz.cloneWords:Go.Proofs.SlLaysW.n5 Tryz.prog Tryz.cloneWords_ren:={
 mixed:=by kernel_rfl
 f5:=⟨Tryz.f158.name,by decide,Tryz.func158.trans (congrArg some (by kernel_rfl))⟩
 f7:=Tryz.func193.trans (congrArg some (by kernel_rfl))
 t4:=Tryz.underlying4
 a4:=Tryz.isAgg4
 z4:=Tryz.sizeOf4
 v4:=Tryz.zeroValue4
 t20:=Tryz.underlying20
 a20:=Tryz.isAgg20
 z20:=Tryz.sizeOf20
 v20:=Tryz.zeroValue20
 t23:=Tryz.underlying185
 a23:=Tryz.isAgg185
 z23:=Tryz.sizeOf185
 v23:=Tryz.zeroValue185 }
end Go.Proofs
namespace Go.Proofs.YthcblagpbkaoaaaGreatDoor
open Go.RowKit Go.Maps Go.Shelf
set_option maxRecDepth 100000
set_option maxHeartbeats 25600000
theorem clone_any {mp:Option Nat} {f:Plc->Int} {n:Nat} {w:World} (hM:MapIs w mp f n) :
  Calls Tryz.prog 158 #[.map mp] w fun e w'=>∃ mp',e=.returned (.map mp')/\MapIs w' mp' f n/\(∀ b,mp'=some b->w.heap.size<=b)/\Below w.heap.size w w':=by
 rcases hM with ⟨rfl,rfl⟩ | ⟨b,D,rfl,ho,hr⟩
 ·refine Calls.mono (show Calls Tryz.prog 158 #[.map none] w _ from AnyW.maps_Clone_nil Tryz.cloneWords w) ?_
  rintro e w' ⟨rfl,rfl⟩
  exact ⟨none,rfl,.inl ⟨rfl,rfl⟩,fun b e=>by (cases e),Below.refl _ _⟩
 ·refine Calls.mono (show Calls Tryz.prog 158 #[.map (some b)] w _ from AnyW.maps_Clone_owns Tryz.cloneWords _ _ b n D w ho) ?_
  rintro e w' ⟨rfl,h1,_,h3⟩
  exact ⟨_,rfl,.inr ⟨_,D,rfl,h1,hr⟩,fun b e=>by (cases e; exact Nat.le_refl _),h3⟩
theorem copy_any {c n:Nat} {F:Nat->Prop} {f:Plc->Int} {q:Cnt} {w:World} (hC:IsC w c F f q n) :
  Calls Tryz.prog 110 #[.pointer (some ⟨c,0,none⟩)] w fun e w'=>∃ c' F',e=.returned (.pointer (some ⟨c',0,none⟩))/\IsC w' c' F' f ⟨0,0,0,0,0⟩ n/\(∀ k,F' k->w.heap.size<=k)/\Below w.heap.size w w':=by
 obtain ⟨mp,hb,hm,hF⟩:=hC
 have r:=hb.rule
 unfold cv at r
 have hc:=clone_any hm
 clear hm
 go_enter Tryz.func110,Tryz.ntmps110
 go_wp2_with fail
 refine hc.mono ?_
 rintro e w1 ⟨mp',rfl,hM,hnew,hB⟩
 clear hc r
 go_wp2
 go_ret
 have hs:=hB.size
 refine ⟨w1.heap.size,fun k=>k=w1.heap.size\/mp'=some k,rfl,⟨mp',Blk.new 0 w1 (cv mp' ⟨0,0,0,0,0⟩) 187,hM.more _,fun k=>Iff.rfl⟩,fun k hk=>?_,hB.alloc hs _⟩
 rcases hk with rfl | e
 ·exact hs
 ·exact hnew k e
end Go.Proofs.YthcblagpbkaoaaaGreatDoor
namespace Go.Proofs.YthcblagpbkaoaaaGreatDoor
open Go.RowKit Go.Maps
set_option maxRecDepth 100000
set_option maxHeartbeats 25600000
theorem cells_w {w0 w:World} {L:List Item} {p c n:Nat} {F:Nat->Prop} {f:Plc->Int} {q:Cnt} (i j:Nat) (hE:Env w0 L w) (hi:L[i]?=some (wbox p c)) (hj:L[j]?=some (cellI c F f q n)) :
  Calls Tryz.prog 60 #[.pointer (some ⟨p,0,none⟩)] w fun e w'=>∃ c' F',e=.returned (.pointer (some ⟨c',0,none⟩))/\Env w0 (cellI c' F' f ⟨0,0,0,0,0⟩ n::L) w':=by
 go_enter Tryz.func60,Tryz.ntmps60
 go_wp2_with fail
 refine (kept_any (hE.wblk i hi)).mono ?_
 rintro e w1 ⟨rfl,rfl⟩
 go_wp2_with fail
 refine (copy_any (hE.cell j hj)).mono ?_
 rintro e w2 ⟨c',F',rfl,hC,hF,hb⟩
 go_wp2
 go_ret
 exact ⟨c',F',rfl,hE.made2 hC hF hb⟩
end Go.Proofs.YthcblagpbkaoaaaGreatDoor
namespace Go.Proofs.YthcblagpbkaoaaaGreatDoor
open Go.RowKit Go.Maps Go.Sort
set_option maxRecDepth 100000
set_option maxHeartbeats 25600000
theorem exch {α:Type} (y0 y1 y2 x0 x1 x2:α) (D:List α):∀ P:List α,((((((P++y0::y1::y2::x0::x1::x2::D).set (P.length+3) y0).set (P.length+4) y1).set (P.length+5) y2).set P.length x0).set (P.length+1) x1).set (P.length+2) x2=P++x0::x1::x2::y0::y1::y2::D
 | []=>rfl
 | p::P=>by
  have ih:=exch y0 y1 y2 x0 x1 x2 D P
  simp only [List.cons_append,List.length_cons,show P.length+1+3=P.length+3+1 by omega,show P.length+1+4=P.length+4+1 by omega,show P.length+1+5=P.length+5+1 by omega,show P.length+1+2=P.length+2+1 by omega,zS]
  rw [ih]
def insAt (m:List Plc) (j:Nat) (x:Plc):List Plc:=m.take j++x::m.drop j
theorem flatP_append (l m:List Plc):flatP (l++m)=flatP l++flatP m:=by simp [flatP]
theorem insAt_exch (m:List Plc) (j:Nat) (hj:j < m.length) (x:Plc):((((((flatP (insAt m (j+1) x)).set (j * 3+3) (.int .i64 (m.getD j z3).1)).set (j * 3+4) (.int .i64 (m.getD j z3).2.1)).set (j * 3+5) (.int .i64 (m.getD j z3).2.2)).set (j * 3) (.int .i64 x.1)).set (j * 3+1) (.int .i64 x.2.1)).set (j * 3+2) (.int .i64 x.2.2)=flatP (insAt m j x):=by
 have hlen:(flatP (m.take j)).length=j * 3:=by rw [flatP_length]; simp; omega
 have e1:flatP (insAt m (j+1) x)=flatP (m.take j)++.int .i64 (m.getD j z3).1::.int .i64 (m.getD j z3).2.1::.int .i64 (m.getD j z3).2.2::.int .i64 x.1::.int .i64 x.2.1::.int .i64 x.2.2::flatP (m.drop (j+1)):=by
  unfold insAt
  rw [flatP_append,List.take_succ_eq_append_getElem hj,flatP_append]
  simp [flatP,encP,hj]
 have e2:flatP (insAt m j x)=flatP (m.take j)++.int .i64 x.1::.int .i64 x.2.1::.int .i64 x.2.2::.int .i64 (m.getD j z3).1::.int .i64 (m.getD j z3).2.1::.int .i64 (m.getD j z3).2.2::flatP (m.drop (j+1)):=by
  unfold insAt
  have h0:m.drop j=m[j]::m.drop (j+1):=List.drop_eq_getElem_cons hj
  have h1:m.getD j z3=m[j]:=by simp [hj]
  rw [flatP_append,h0,h1]
  simp [flatP,encP,-List.getElem_cons_drop]
 rw [e1,e2,<- hlen]
 exact exch _ _ _ _ _ _ _ _
theorem insAt_get_self (m:List Plc) (j:Nat) (hj:j<=m.length) (x:Plc):(insAt m j x).getD j z3=x:=by
 unfold insAt
 rw [List.getD_eq_getElem?_getD,List.getElem?_append_right (by simp; omega)]
 simp [Nat.min_eq_left hj]
theorem insAt_get_prev (m:List Plc) (j:Nat) (hj:j < m.length) (x:Plc):(insAt m (j+1) x).getD j z3=m.getD j z3:=by
 unfold insAt
 rw [List.getD_eq_getElem?_getD,List.getElem?_append_left (by simp; omega)]
 simp [List.getElem?_take]
theorem insAt_length (m:List Plc) (j:Nat) (hj:j<=m.length) (x:Plc):(insAt m j x).length=m.length+1:=by unfold insAt; simp; omega
theorem rising_insAt {m:List Plc} {j:Nat} {x:Plc} (hm:Rising m) (hj:j<=m.length) (hx:x ∉ m) (hd:∀ y∈m.drop j,ltOf cmpP x y=true) (hs:j=0\/ltOf cmpP x (m.getD (j - 1) z3)=false):Rising (insAt m j x):=by
 have h1:Rising (m.take j):=List.Pairwise.sublist (List.take_sublist _ _) hm
 have h2:Rising (m.drop j):=List.Pairwise.sublist (List.drop_sublist _ _) hm
 have h3:∀ y∈m.take j,ltOf cmpP y x=true:=by
  intro y hy
  obtain ⟨i,hi,rfl⟩:=List.getElem_of_mem hy
  have hi':i < j:=by simp at hi; omega
  rcases hs with rfl | hs
  ·omega
  ·have hjm:j - 1 < m.length:=by omega
   have e:m.getD (j - 1) z3=m[j - 1]:=by simp [hjm]
   rw [e] at hs
   have hlt:ltOf cmpP m[j - 1] x=true:=by
    rcases h:ltOf cmpP m[j - 1] x with _ | _
    ·exact absurd (totP _ _ hs h) (fun e=>hx (e ▸ List.getElem_mem hjm))
    ·rfl
   rw [List.getElem_take]
   rcases Nat.lt_or_ge i (j - 1) with hlt2 | hge
   ·exact swoP.trans _ _ _ (List.pairwise_iff_getElem.1 hm i (j - 1) (by omega) hjm hlt2) hlt
   ·have:i=j - 1:=by omega
    subst this
    exact hlt
 unfold insAt Rising
 refine List.pairwise_append.2 ⟨h1,List.pairwise_cons.2 ⟨hd,h2⟩,fun a ha b hb=>?_⟩
 rcases List.mem_cons.1 hb with rfl | hb
 ·exact h3 a ha
 ·exact swoP.trans _ _ _ (h3 a ha) (hd b hb)
theorem mem_insAt {m:List Plc} {j:Nat} {x y:Plc}:y∈insAt m j x ↔ y=x\/y∈m:=by
 unfold insAt
 conv=>rhs; rw [<- List.take_append_drop j m]
 simp only [List.mem_append,List.mem_cons]
 constructor
 ·rintro (h | h | h)
  ·exact .inr (.inl h)
  ·exact .inl h
  ·exact .inr (.inr h)
 ·rintro (h | h | h)
  ·exact .inr (.inl h)
  ·exact .inl h
  ·exact .inr (.inr h)
theorem getL_ne {l:List OneR} (h:(l.map (·.1)).Nodup) (x:Plc):getL l x≠0 ↔ ∃ v,(x,v)∈l/\v≠0:=by
 induction l with
 | nil=>simp [getL]
 | cons e l ih =>
  rw [List.map_cons,List.nodup_cons] at h
  have ih:=ih h.2
  by_cases he:e.1=x
  ·subst he
   simp only [getL,if_true]
   constructor
   ·intro hv; exact ⟨e.2,by simp,hv⟩
   ·rintro ⟨v,hv,hne⟩
    rcases List.mem_cons.1 hv with e' | e'
    ·rw [<- e']; exact hne
    ·exact absurd (List.mem_map.2 ⟨_,e',rfl⟩) h.1
  ·simp only [getL,if_neg he]
   rw [ih]
   constructor
   ·rintro ⟨v,hv,hne⟩; exact ⟨v,List.mem_cons_of_mem _ hv,hne⟩
   ·rintro ⟨v,hv,hne⟩
    rcases List.mem_cons.1 hv with e' | e'
    ·exact absurd (by rw [<- e']) he
    ·exact ⟨v,e',hne⟩
theorem ownsRow_rowP {w:World} {b:Nat} {v:Value} {m:List Plc} (h:w.ownsRow b 65 3 v m.length (flatP m)):RowP w v m:=by
 rcases h.2 with ⟨hv,h0⟩ | ⟨g,cap,cur,hv,_,hg,hn,hc,hcs,htk⟩
 ·exact .inl ⟨List.eq_nil_of_length_eq_zero h0,hv⟩
 ·refine .inr ⟨g,cap,hv,(Array.getElem?_eq_some_iff.1 hg).1,fun j hj=>?_⟩
  have each:∀ c,c < 3->w.cell? ⟨g,j * 3+c,none⟩=(encP (m.getD j z3))[c]?:=fun c hc4=>by
   rw [<- flatP_get m j c hj hc4,<- htk,List.getElem?_take_of_lt (by omega)]
   simp [World.cell?,hg]
  exact ⟨each 0 (by omega),each 1 (by omega),each 2 (by omega)⟩
def okM (l:List OneR) (k:Nat) (m:List Plc):Prop:=Rising m/\m.length<=k/\∀ x,x∈m ↔ ∃ v,(x,v)∈l.take k/\v≠0
theorem okM.skip {l:List OneR} {k:Nat} {m:List Plc} (h:okM l k m) (hk:k < l.length) (h0:(l.getD k dO).2=0):okM l (k+1) m:=by
 refine ⟨h.1,by have:=h.2.1; omega,fun x=>?_⟩
 rw [h.2.2 x,List.take_succ_eq_append_getElem hk]
 have e:l[k].2=0:=by simpa [hk] using h0
 constructor
 ·rintro ⟨v,hv,hne⟩; exact ⟨v,List.mem_append.2 (.inl hv),hne⟩
 ·rintro ⟨v,hv,hne⟩
  rcases List.mem_append.1 hv with hv | hv
  ·exact ⟨v,hv,hne⟩
  ·rw [<- List.mem_singleton.1 hv] at e; exact absurd e hne
theorem okM.new {l:List OneR} {k:Nat} {m:List Plc} (h:okM l k m) (hnd:(l.map (·.1)).Nodup) (hk:k < l.length):(l.getD k dO).1 ∉ m:=by
 intro hx
 obtain ⟨v,hv,_⟩:=(h.2.2 _).1 hx
 obtain ⟨i,hi,he⟩:=List.getElem_of_mem hv
 have hi':i < k:=by simp at hi; omega
 have e1:l[i].1=l[k].1:=by
  have:(l.take k)[i]=l[i]:=List.getElem_take
  rw [this] at he
  have e2:l.getD k dO=l[k]:=by simp [hk]
  rw [he,<- e2]
 have:=(List.pairwise_iff_getElem.1 hnd) i k (by simp; omega) (by simpa using hk) hi'
 simp at this
 exact this e1
theorem okM.put {l:List OneR} {k j:Nat} {m:List Plc} (h:okM l k m) (hk:k < l.length) (h0:(l.getD k dO).2≠0) (hj:j<=m.length) (hr:Rising (insAt m j (l.getD k dO).1)):okM l (k+1) (insAt m j (l.getD k dO).1):=by
 refine ⟨hr,by have:=h.2.1; rw [insAt_length m j hj]; omega,fun x=>?_⟩
 have e2:l.getD k dO=l[k]:=by simp [hk]
 rw [mem_insAt,h.2.2 x,List.take_succ_eq_append_getElem hk,e2]
 rw [e2] at h0
 constructor
 ·rintro (rfl | ⟨v,hv,hne⟩)
  ·exact ⟨l[k].2,List.mem_append.2 (.inr (List.mem_singleton.2 rfl)),h0⟩
  ·exact ⟨v,List.mem_append.2 (.inl hv),hne⟩
 ·rintro ⟨v,hv,hne⟩
  rcases List.mem_append.1 hv with hv | hv
  ·exact .inr ⟨v,hv,hne⟩
  ·exact .inl (by rw [<- List.mem_singleton.1 hv])
set_option maxRecDepth 100000 in
theorem refPlaces_any {u:Nat} {F:Nat->Prop} {l:List OneR} {w:World} (hl:l.length<=1000000) (hnd:(l.map (·.1)).Nodup) (hU:IsU w u F l) :
  Calls Tryz.prog 62 #[.pointer (some ⟨u,0,none⟩)] w fun e w'=>∃ m v,e=.returned v/\PlacesOf (getL l) m/\m.length<=l.length/\w'.ownsRow w.heap.size 65 3 v m.length (flatP m)/\Below w.heap.size w w':=by
 obtain ⟨A,cap,hblk,hown,hsep,hF⟩:=hU.full
 have hrow:=ownsRow_words hown
 have hul:=hblk.1
 obtain ⟨i0,hi,hz0,hz1,hz2⟩:=info_parts infoPlace
 have HROW:=Lib.hid hrow
 have HB:Hid (∀ w',Below w.heap.size w w'->∀ i,w'.cell? ⟨u,i,none⟩=[Value.slice A l.length cap][i]?):=Lib.hid fun w' hb i=>by rw [hb.cell (p:=⟨u,i,none⟩) hul]; exact hblk.rule i
 clear hrow hblk hown hsep hF
 have hown0:(w.alloc (.cells #[] 65)).ownsRow w.heap.size 65 3 (.slice (some ⟨w.heap.size,0,none⟩) 0 0) 0 []:=⟨rfl,.inr ⟨w.heap.size,0,#[],rfl,Nat.le_refl _,heap_alloc_new w _,Nat.le_refl _,Nat.zero_le _,rfl,rfl⟩⟩
 have hB0:Below w.heap.size w (w.alloc (.cells #[] 65)):=(Below.refl _ w).alloc (Nat.le_refl _) _
 go_enter Tryz.func62,Tryz.ntmps62
 go_wp2_with fail
 go_loopw [3,4] (fun v i wr=>∃ (k:Nat) (m:List Plc),k<=l.length/\i=.int .i64 k/\okM l k m/\wr.ownsRow w.heap.size 65 3 v m.length (flatP m)/\Below w.heap.size w wr) (fun _ i _=>l.length - (intOf i).toNat)
 case atStart=>exact ⟨0,[],by omega,rfl,⟨List.Pairwise.nil,by simp,by simp⟩,hown0,hB0⟩
 case round =>
  obtain ⟨k,m,hk,rfl,hm,hrw,hBr⟩:=hrel
  have ru:=HB.out _ hBr
  clear hown0 hB0
  by_cases hlt:k < l.length
  ·rcases HROW.out with h0 | ⟨g,rfl,hgl,hc⟩
   ·rw [h0] at hlt; simp at hlt
   obtain ⟨c0,c1,c2,c3⟩:=hc k hlt
   clear hc
   generalize ho:l.getD k dO=o at c0 c1 c2 c3
   obtain ⟨⟨x,y,z⟩,v0⟩:=o
   simp only at c0 c1 c2 c3
   have HC:Hid (∀ w',Below w.heap.size w w'->(w'.cell? ⟨g,k * 4,none⟩=some (.int .i64 x)/\w'.cell? ⟨g,k * 4+1,none⟩=some (.int .i64 y)/\w'.cell? ⟨g,k * 4+2,none⟩=some (.int .i64 z)/\w'.cell? ⟨g,k * 4+3,none⟩=some (.int .u64 v0))):=Lib.hid fun w' hb=>by
    refine ⟨?_,?_,?_,?_⟩
    ·rw [hb.cell (p:=⟨g,k * 4,none⟩) hgl]; exact c0
    ·rw [hb.cell (p:=⟨g,k * 4+1,none⟩) hgl]; exact c1
    ·rw [hb.cell (p:=⟨g,k * 4+2,none⟩) hgl]; exact c2
    ·rw [hb.cell (p:=⟨g,k * 4+3,none⟩) hgl]; exact c3
   have HO:=Lib.hid ho
   clear c0 c1 c2 c3 ho
   obtain ⟨c0,c1,c2,c3⟩:=HC.out _ hBr
   by_cases hv0:v0=0
   ·subst hv0
    go_wp2_with fail
    exact ⟨⟨k+1,m,by omega,rfl,hm.skip hlt (by rw [HO.out]),hrw,hBr⟩,by simp [intOf]; omega⟩
   ·have hml:m.length<=k:=hm.2.1
    obtain ⟨A3,cap3,rfl⟩:=ownsRow_slice hrw
    obtain ⟨v',w2,hrun,hown2,hgrow,hv'⟩:=run_append_rows (P:=Tryz.prog) 132 132 w.heap.size 65 i0 (.agg #[.int .i64 0,.int .i64 0,.int .i64 0]) 3 24 Tryz.underlying132 hi hz0 hz1 hz2 rfl (by decide) _ _ _ _ (hrw.alloc (.cells #[.int .i64 x,.int .i64 y,.int .i64 z] 65)) (some ⟨wr.heap.size,0,none⟩) 1 1 [.int .i64 x,.int .i64 y,.int .i64 z] rfl
     (.inr ⟨_,rfl,cells_new _ _ _⟩) (by simp [Value.oneCell']) (by simp [maxLen]; omega) (by omega) (by have:=hBr.size; simp; omega)
    obtain ⟨b,cap',rfl,hwb,hbl⟩:=hown2.form (by omega)
    have hB2:Below w.heap.size w w2:=by
     have h1:=hBr.alloc hBr.size (.cells #[.int .i64 x,.int .i64 y,.int .i64 z] 65)
     exact Turn.below h1 (T:=fun k=>(Value.slice A3 m.length cap3).ownBlock=some k) ⟨hgrow.os,hgrow.tape,hgrow.output,hgrow.size,fun k hk hn=>hgrow.block k hk (fun e=>hn e.symm)⟩ h1.size fun k hk=>(hrw.lt k hk).1
    go_wp2_with (first | (at_builtin; refine wpList_append_run rfl _ _ 132 rfl hrun rfl rfl ?_))
    have hown3:w2.ownsRow w.heap.size 65 3 (.slice (some ⟨b,0,none⟩) (m.length+1) cap') (m.length+1) (flatP (insAt m m.length (x,y,z))):=by
     have e:flatP (insAt m m.length (x,y,z))=flatP m++[.int .i64 x,.int .i64 y,.int .i64 z]:=by unfold insAt; simp [flatP,encP]
     rw [e]; exact hown2
    clear hrun hown2 hgrow hv' hrw c0 c1 c2 c3 ru
    have HM:=Lib.hid hm
    clear hm
    go_loopw [5] (fun kk wq=>∃ j:Nat,j<=m.length/\kk=.int .i64 j/\(∀ t∈m.drop j,ltOf cmpP (x,y,z) t=true)/\wq.ownsRow w.heap.size 65 3 (.slice (some ⟨b,0,none⟩) (m.length+1) cap') (m.length+1) (flatP (insAt m j (x,y,z)))/\Below w.heap.size w wq) (fun kk _=>(intOf kk).toNat)
    case atStart=>exact ⟨m.length,Nat.le_refl _,by simp,by simp,hown3,hB2⟩
    case round =>
     obtain ⟨j,hj,rfl,hd,ho3,hBq⟩:=hrel
     clear hown3 hB2
     have HC8:Hid (∀ w6 w7:World,(w6.ownsRow w.heap.size 65 3 (.slice (some ⟨b,0,none⟩) (m.length+1) cap') (m.length+1) (flatP (insAt m j (x,y,z)))/\Below w.heap.size w w6)->Below w6.heap.size w6 w7->(w7.ownsRow w.heap.size 65 3 (.slice (some ⟨b,0,none⟩) (m.length+1) cap') (m.length+1) (flatP (insAt m j (x,y,z)))/\Below w.heap.size w w7)):=Lib.hid fun w6 w7 h hb=>⟨ownsRow_kept h.1 fun k e=>hb.block k (h.1.lt k e).2,h.2.trans (hb.mono h.2.size)⟩
     rcases j with _ | j
     ·go_wp2_with fail
      refine Ord.wp_chain [] (fun w'=>w'.ownsRow w.heap.size 65 3 (.slice (some ⟨b,0,none⟩) (m.length+1) cap') (m.length+1) (flatP (insAt m 0 (x,y,z)))/\Below w.heap.size w w') (fun _ _=>True) (by kernel_rfl) (by kernel_rfl) (by kernel_rfl) (And.intro ho3.drew hBq.drew) trivial (fun hT=>?_)
      have hT9:=Lib.hid hT
      clear hT
      repeat (first
       | (refine Ord.ch_value (v:=?_) hT9.out (by decide) (by rfl) ?_ ?_; rotate_left; (focus (intro w5 hS; skip; go_simp<;>with_reducible rfl)); (try simp only [Act.put,zA,zZ,zS]))
       | (refine Ord.ch_off hT9.out (by decide) (by rfl) ?_; (try simp only [Act.put,zA,zZ,zS]))
       | (refine Ord.ch_call (v:=?_) (f:=?_) (args:=?_) hT9.out (by decide) (by rfl) ?_ ?_ ?_; rotate_left 3; (focus (intro w5 hS; skip; go_simp; constructor<;>with_reducible rfl)); (focus (intro w5 hS; (first | fail))); (try simp only [Act.put,zA,zZ,zS])))
      refine Ord.InText.nil fun w5 hS=>?_
      clear hT9
      obtain ⟨hC,hA⟩:=Ord.chain_end hS
      clear hS
      clear hA
      go_wp2_with fail
      have hins:=HM.out.put hlt (by rw [HO.out]; exact hv0) hj (by rw [HO.out]; exact rising_insAt HM.out.1 hj (by have:=HM.out.new hnd hlt; rwa [HO.out] at this) hd (.inl rfl))
      rw [HO.out] at hins
      exact ⟨⟨k+1,_,by omega,by simp,hins,by rw [insAt_length m _ hj]; exact hC.1,hC.2⟩,by simp [intOf]; omega⟩
     ·have HCELL:Hid (∀ w':World,w'.ownsRow w.heap.size 65 3 (.slice (some ⟨b,0,none⟩) (m.length+1) cap') (m.length+1) (flatP (insAt m (j+1) (x,y,z))) ->
        (w'.cell? ⟨b,(j+1) * 3,none⟩=some (.int .i64 x)/\w'.cell? ⟨b,(j+1) * 3+1,none⟩=some (.int .i64 y)/\w'.cell? ⟨b,(j+1) * 3+2,none⟩=some (.int .i64 z) /\
         w'.cell? ⟨b,j * 3,none⟩=some (.int .i64 (m.getD j z3).1)/\w'.cell? ⟨b,j * 3+1,none⟩=some (.int .i64 (m.getD j z3).2.1)/\w'.cell? ⟨b,j * 3+2,none⟩=some (.int .i64 (m.getD j z3).2.2))):=Lib.hid fun w' h=>by
       have hlen:=insAt_length m (j+1) hj (x,y,z)
       have e1:∀ c,c < 3->w'.cell? ⟨b,(j+1) * 3+c,none⟩=(encP (x,y,z))[c]?:=fun c hc=>by
        rw [h.cellAt ((j+1) * 3+c) (by omega),flatP_get _ _ _ (by omega) hc,insAt_get_self m (j+1) hj]
       have e2:∀ c,c < 3->w'.cell? ⟨b,j * 3+c,none⟩=(encP (m.getD j z3))[c]?:=fun c hc=>by
        rw [h.cellAt (j * 3+c) (by omega),flatP_get _ _ _ (by omega) hc,insAt_get_prev m j (by omega)]
       exact ⟨e1 0 (by omega),e1 1 (by omega),e1 2 (by omega),e2 0 (by omega),e2 1 (by omega),e2 2 (by omega)⟩
      obtain ⟨t,ht⟩:∃ t,m.getD j z3=t:=⟨_,rfl⟩
      rw [ht] at HCELL
      obtain ⟨p,q,s⟩:=t
      simp only at HCELL
      have HT:=Lib.hid ht
      clear ht
      have q1:j < m.length:=by omega
      have q2:(0:Int)<=(j:Int)+1:=by omega
      have q3:j < m.length+1:=by omega
      have q4:j<=m.length:=by omega
      have q7:IntKind.i64.wrap (j:Int)=(j:Int):=by rw [IntKind.wrap_i64]; omega
      have q5:(j:Int)<=(m.length:Int):=by omega
      have q6:(j:Int) < (m.length:Int)+1:=by omega
      go_wp2_with fail
      refine Ord.wp_chain [] (fun w'=>w'.ownsRow w.heap.size 65 3 (.slice (some ⟨b,0,none⟩) (m.length+1) cap') (m.length+1) (flatP (insAt m (j+1) (x,y,z)))/\Below w.heap.size w w') (fun _ _=>True) (by kernel_rfl) (by kernel_rfl) (by kernel_rfl) (And.intro ho3.drew hBq.drew) trivial (fun hT=>?_)
      have hT9:=Lib.hid hT
      clear hT
      repeat (first
       | (refine Ord.ch_value (v:=?_) hT9.out (by decide) (by rfl) ?_ ?_; rotate_left; (focus (intro w5 hS; obtain ⟨c0,c1,c2,c3,c4,c5⟩:=HCELL.out _ hS.1; go_simp<;>with_reducible rfl)); (try simp only [Act.put,zA,zZ,zS]))
       | (refine Ord.ch_off hT9.out (by decide) (by rfl) ?_; (try simp only [Act.put,zA,zZ,zS]))
       | (refine Ord.ch_call (v:=?_) (f:=?_) (args:=?_) hT9.out (by decide) (by rfl) ?_ ?_ ?_; rotate_left 3; (focus (intro w5 hS; obtain ⟨c0,c1,c2,c3,c4,c5⟩:=HCELL.out _ hS.1; go_simp; constructor<;>with_reducible rfl)); (focus (intro w5 hS; (first | (with_reducible refine (less_any _ _ _ _ _ _ _).mono ?_; rintro e w6 ⟨rfl,hb5⟩; constructor; with_reducible rfl; exact ⟨HC8.out _ _ hS hb5,fun _ h=>h⟩)))); (try simp only [Act.put,zA,zZ,zS])))
      refine Ord.InText.nil fun w5 hS=>?_
      clear hT9
      obtain ⟨hC,hA⟩:=Ord.chain_end hS
      clear hS
      clear hA
      obtain ⟨c0,c1,c2,c3,c4,c5⟩:=HCELL.out _ hC.1
      by_cases hL:ltOf cmpP (x,y,z) (p,q,s)=true
      ·rw [hL]
       have hb5:b < w5.heap.size:=(hC.1.lt b rfl).2
       have hnb:¬ w5.heap.size=b:=by omega
       have hnb':¬ b=w5.heap.size:=by omega
       have rA:∀ ob i,(w5.alloc ob).cell? ⟨b,i,none⟩=w5.cell? ⟨b,i,none⟩:=fun ob i=>World.cell?_of_block (Below.heap_alloc _ _ _ hb5)
       have zA:∀ ob i,(w5.alloc ob).frozen? ⟨b,i,none⟩=false:=fun ob i=>(World.frozen?_of_block (Below.heap_alloc _ _ _ hb5)).trans (hC.1.frozenAt i)
       have zW:∀ i,w5.frozen? ⟨b,i,none⟩=false:=fun i=>hC.1.frozenAt i
       go_wp2_with fail
       have hx:=insAt_exch m j q1 (x,y,z)
       rw [HT.out] at hx
       simp only at hx
       have hp3:(j+1) * 3=j * 3+3:=by omega
       refine ⟨⟨j,by omega,rfl,fun t ht=>?_,?_,?_⟩,by simp [intOf]⟩
       ·rw [List.drop_eq_getElem_cons q1] at ht
        rcases List.mem_cons.1 ht with rfl | ht
        ·have:m[j]=(p,q,s):=by rw [<- HT.out]; simp [q1]
         rw [this]; exact hL
        ·exact hd t ht
       ·rw [<- hx,hp3]
        exact ((((((((hC.1.stored _ _).1).stored _ _).1).stored _ _).1.stored _ _).1.stored _ _).1.stored _ _).1.alloc _
       ·exact Turn.below hC.2 (((((((Turn.refl (fun k=>k=b) w5).setCell (p:=⟨b,_,none⟩) (fun _=>rfl) _).setCell (p:=⟨b,_,none⟩) (fun _=>rfl) _).setCell (p:=⟨b,_,none⟩) (fun _=>rfl) _).setCell (p:=⟨b,_,none⟩) (fun _=>rfl) _).setCell (p:=⟨b,_,none⟩) (fun _=>rfl) _).setCell (p:=⟨b,_,none⟩) (fun _=>rfl) _ |>.alloc _) hC.2.size fun k hk=>by subst hk; exact hwb
      ·have hL':ltOf cmpP (x,y,z) (p,q,s)=false:=by simpa using hL
       rw [hL']
       go_wp2_with fail
       have hins:=HM.out.put hlt (by rw [HO.out]; exact hv0) hj (by rw [HO.out]; exact rising_insAt HM.out.1 hj (by have:=HM.out.new hnd hlt; rwa [HO.out] at this) hd (.inr (by rw [Nat.add_sub_cancel,HT.out]; exact hL')))
       rw [HO.out] at hins
       exact ⟨⟨k+1,_,by omega,by simp,hins,by rw [insAt_length m _ hj]; exact hC.1,hC.2⟩,by simp [intOf]; omega⟩
  ·go_wp2_with fail
   have:k=l.length:=by omega
   subst this
   go_ret
   exact ⟨m,_,rfl,⟨hm.1,fun x=>by rw [hm.2.2 x,getL_ne hnd x]; simp⟩,hm.2.1,hrw,hBr⟩
end Go.Proofs.YthcblagpbkaoaaaGreatDoor
namespace Go.Proofs
open Go.Shelf
set_option maxRecDepth 100000
set_option maxHeartbeats 25600000
shelf_try shelf_lay_g SlLaysF0.n6 Slsf 6 at Tryz 160 as Tryz.sortPlaces
shelf_try shelf_lay_g SlLaysC2.n5 Slgc 5 at Tryz 163 as Tryz.compareInt
shelf_tried
end Go.Proofs
namespace Go.Proofs.YthcblagpbkaoaaaGreatDoor
open Go.RowKit Go.Maps Go.Shelf Go.Sort
set_option maxRecDepth 100000
set_option maxHeartbeats 25600000
theorem compareInt_any (x y:Int) (w:World):Calls Tryz.prog 163 #[.int .i64 x,.int .i64 y] w fun e w'=>e=.returned (.int .i64 (Lib.compareInt x y))/\w'=w:=AnyG.cmp_Compare_int Tryz.compareInt x y w
theorem or_any (a b c:Int) (N:Nat) (w:World) (h:∀ i,w.cell? ⟨N,i,none⟩=[Value.int .i64 a,.int .i64 b,.int .i64 c][i]?) :
  Calls Tryz.prog 162 #[.slice (some ⟨N,0,none⟩) 3 3] w fun e w'=>e=.returned (.int .i64 (orI a b c))/\w'=w:=by
 have e1:(a != 0)=true\/((a != 0)=false/\(b != 0)=true)\/((a != 0)=false/\(b != 0)=false/\(c != 0)=true)\/((a != 0)=false/\(b != 0)=false/\(c != 0)=false):=by
  cases (a != 0)<;>cases (b != 0)<;>cases (c != 0)<;>simp
 rcases e1 with h1 | ⟨h1,h2⟩ | ⟨h1,h2,h3⟩ | ⟨h1,h2,h3⟩
 ·go_enter Tryz.func162,Tryz.ntmps162
  go_wp2
  refine wp_loop_rounds 1 ?_
  rw [rounds_succ]
  go_wp2
  go_ret
  exact ⟨ret_int (by simp at h1; simp [orI,h1]),rfl⟩
 ·go_enter Tryz.func162,Tryz.ntmps162
  go_wp2
  refine wp_loop_rounds 2 ?_
  rw [rounds_succ]
  go_wp2
  rw [rounds_succ]
  go_wp2
  go_ret
  exact ⟨ret_int (by simp at h1 h2; simp [orI,h1,h2]),rfl⟩
 ·go_enter Tryz.func162,Tryz.ntmps162
  go_wp2
  refine wp_loop_rounds 3 ?_
  rw [rounds_succ]
  go_wp2
  rw [rounds_succ]
  go_wp2
  rw [rounds_succ]
  go_wp2
  go_ret
  exact ⟨ret_int (by simp at h1 h2 h3; simp [orI,h1,h2]),rfl⟩
 ·go_enter Tryz.func162,Tryz.ntmps162
  go_wp2
  refine wp_loop_rounds 4 ?_
  rw [rounds_succ]
  go_wp2
  rw [rounds_succ]
  go_wp2
  rw [rounds_succ]
  go_wp2
  rw [rounds_succ]
  go_wp2
  go_ret
  exact ⟨ret_int (by simp at h1 h2 h3; simp [orI,h1,h2,h3]),rfl⟩
theorem compare_any (a b c a' b' c':Int) (w:World) :
  Calls Tryz.prog 113 #[.agg #[.int .i64 a,.int .i64 b,.int .i64 c],.agg #[.int .i64 a',.int .i64 b',.int .i64 c']] w fun e w'=>e=.returned (.int .i64 (cmpP (a,b,c) (a',b',c')))/\∃ q os',w'=grow (w.drewN q) os':=by
 have k1:Hid (∀ w',Calls Tryz.prog 163 #[.int .i64 a,.int .i64 a'] w' fun e w''=>e=.returned (.int .i64 (Lib.compareInt a a'))/\w''=w'):=Lib.hid fun w'=>compareInt_any a a' w'
 have k2:Hid (∀ w',Calls Tryz.prog 163 #[.int .i64 b,.int .i64 b'] w' fun e w''=>e=.returned (.int .i64 (Lib.compareInt b b'))/\w''=w'):=Lib.hid fun w'=>compareInt_any b b' w'
 have k3:Hid (∀ w',Calls Tryz.prog 163 #[.int .i64 c,.int .i64 c'] w' fun e w''=>e=.returned (.int .i64 (Lib.compareInt c c'))/\w''=w'):=Lib.hid fun w'=>compareInt_any c c' w'
 unfold cmpP
 simp only
 generalize Lib.compareInt a a'=x at *
 generalize Lib.compareInt b b'=y at *
 generalize Lib.compareInt c c'=z at *
 go_enter Tryz.func113,Tryz.ntmps113
 go_wp2_with fail
 have hw2:∃ w2,w2=(w.alloc (.cells #[.int .i64 a,.int .i64 b,.int .i64 c] 65)).alloc (.cells #[.int .i64 a',.int .i64 b',.int .i64 c'] 65):=⟨_,rfl⟩
 obtain ⟨w2,hw2⟩:=hw2
 have h1:Blk 0 w2 w.heap.size [.int .i64 a,.int .i64 b,.int .i64 c]:=by rw [hw2]; exact (Blk.new 0 w _ _).more _
 have h2:Blk 0 w2 (w.heap.size+1) [.int .i64 a',.int .i64 b',.int .i64 c']:=by rw [hw2]; exact (Blk.new 0 (w.alloc _) _ _).at (by simp)
 rw [<- hw2]
 have HW:=Lib.hid hw2
 clear hw2
 generalize w.heap.size=B at *
 refine Ord.wp_chain [15,16] (fun w'=>Blk 0 w' B [.int .i64 a,.int .i64 b,.int .i64 c]/\Blk 0 w' (B+1) [.int .i64 a',.int .i64 b',.int .i64 c']) (fun j w'=>∃ q,w'=(if j=0 then w2 else w2.alloc (.cells #[.int .i64 x,.int .i64 y,.int .i64 z] 3)).drewN q) (by kernel_rfl) (by kernel_rfl) (by kernel_rfl) ⟨h1.drew,h2.drew⟩ ⟨1,rfl⟩ (fun hT=>?_)
 have hT9:=Lib.hid hT
 clear hT
 repeat (first
  | (refine Ord.ch_value (v:=?_) hT9.out (by decide) (by rfl) ?_ ?_; rotate_left; (focus (intro w5 hS; have r:=hS.1.rule; have r2:=hS.2.rule; go_simp<;>with_reducible rfl)); (try simp only [Act.put,zA,zZ,zS]))
  | (refine Ord.ch_call (v:=?_) (f:=?_) (args:=?_) hT9.out (by decide) (by rfl) ?_ ?_ ?_; rotate_left 3; (focus (intro w5 hS; have r:=hS.1.rule; have r2:=hS.2.rule; go_simp; constructor<;>with_reducible rfl)); (focus (intro w5 hS; (first
      | (with_reducible refine (k1.out _).mono ?_; rintro e w6 ⟨rfl,rfl⟩; constructor; with_reducible rfl; exact ⟨hS,fun _ h=>h⟩)
      | (with_reducible refine (k2.out _).mono ?_; rintro e w6 ⟨rfl,rfl⟩; constructor; with_reducible rfl; exact ⟨hS,fun _ h=>h⟩)
      | (with_reducible refine (k3.out _).mono ?_; rintro e w6 ⟨rfl,rfl⟩; constructor; with_reducible rfl; exact ⟨hS,fun _ h=>h⟩)))); (try simp only [Act.put,zA,zZ,zS])))
 refine Ord.ch_turn (v:=.slice (some ⟨w2.heap.size,0,none⟩) 3 3) 0 hT9.out rfl (by decide) (Or.inl rfl) (by rfl) ?_ ?_
 ·rintro w5 hC5 ⟨q,hq⟩
  rw [if_pos rfl] at hq
  subst hq
  go_simp
  exact ⟨by first | rfl | simp,⟨hC5.1.more _,hC5.2.more _⟩,q,rfl⟩
 (try simp only [Act.put,zA,zZ,zS])
 refine Ord.ch_turn (v:=.int .i64 (orI x y z)) 1 hT9.out rfl (by decide) (Or.inr ⟨15,rfl,by kernel_rfl⟩) (by rfl) ?_ ?_
 ·rintro w5 hC5 ⟨q,hq⟩
  rw [if_neg (by omega)] at hq
  have hcell:∀ i,w5.cell? ⟨w2.heap.size,i,none⟩=[Value.int .i64 x,.int .i64 y,.int .i64 z][i]?:=fun i=>by rw [hq]; exact (Blk.new 0 w2 [Value.int .i64 x,.int .i64 y,.int .i64 z] _).rule i
  have HQ:=Lib.hid hq
  clear hq
  go_simp
  simp only [Ord.LandsIn]
  refine (or_any x y z _ w5 hcell).mono ?_
  rintro e w6 ⟨rfl,rfl⟩
  exact ⟨rfl,hC5,q,HQ.out⟩
 (try simp only [Act.put,zA,zZ,zS])
 repeat (first
  | (refine Ord.ch_value (v:=?_) hT9.out (by decide) (by rfl) ?_ ?_; rotate_left; (focus (intro w5 hS; skip; go_simp<;>with_reducible rfl)); (try simp only [Act.put,zA,zZ,zS]))
  | (refine Ord.ch_off hT9.out (by decide) (by rfl) ?_; (try simp only [Act.put,zA,zZ,zS])))
 refine Ord.InText.nil fun w5 hS=>?_
 clear hT9
 obtain ⟨hC9,hA9⟩:=Ord.chain_end hS
 clear hS
 obtain ⟨q,hq⟩:=hA9
 go_wp2
 go_ret
 refine ⟨rfl,q,#[.cells #[.int .i64 a,.int .i64 b,.int .i64 c] 65,.cells #[.int .i64 a',.int .i64 b',.int .i64 c'] 65,.cells #[.int .i64 x,.int .i64 y,.int .i64 z] 3],?_⟩
 rw [hq,HW.out]
 simp only [List.length_cons,List.length_nil,alloc_eq_grow,grow_grow]
 rfl
theorem cmpLays (blk off size:Nat) (w:World):CmpLays Tryz.prog 113 #[] encP 3 cmpP blk off size w:=fun _ _ _ _ x y=>compare_any x.1 x.2.1 x.2.2 y.1 y.2.1 y.2.2 _
theorem aggPlace (w:World):(isAgg 65).run Tryz.prog w=.ok true w:=by kernel_rfl
theorem sizePlace (w:World):(Go.sizeOf 65).run Tryz.prog w=.ok 3 w:=by kernel_rfl
def sortL (l:List Plc):List Plc:=l.mergeSort fun x y=>!(ltOf cmpP) y x
theorem sort_any (blk off cap:Nat) (d:Array Plc) (w:World) (hH:HoldsK encP 3 w blk off d) (hblk:blk < w.heap.size) (hsz:d.size < 4611686018427387904) :
  Calls Tryz.prog 160 #[.slice (some ⟨blk,off,none⟩) d.size cap,.func (.func 113) #[] #[]] w fun e w'=>e=.returned (.tuple #[])/\∃ n os,w'=sortWorldK encP 3 w blk off n (sortL d.toList).toArray os :=
 AnyQ.slices_SortFunc_total Tryz.sortPlaces 3 aggPlace sizePlace encP (fun _=>rfl) (fun x v hv=>by simp [encP] at hv; rcases hv with rfl | rfl | rfl<;>rfl) cmpP swoP 113 #[] blk off cap d w
  (enters_of Tryz.func113 (by kernel_rfl) rfl) (cmpLays blk off d.size w) hH hblk hsz totP
theorem sort_none (p:Option Addr) (cap:Nat) (fv:Value) (w:World):Calls Tryz.prog 160 #[.slice p 0 cap,fv] w fun e w'=>e=.returned (.tuple #[])/\w'=w :=
 AnyF.slices_SortFunc_none { Tryz.sortPlaces with } p cap fv w
attribute [local go_sem] Oper.semAt_some
structure CollP (D:DataW Unit) (left:Lit->Bool) (ss:List Plc):Prop where
 once:ss.Nodup
 wf:∀ x∈ss,Wf x
 mem:∀ x,Wf x->(x∈ss ↔ Maps.has D (kl x)=true/\left (kl x)=false)
theorem CollP.start (D:DataW Unit):CollP D (Maps.has D) []:=⟨List.nodup_nil,by simp,fun x _=>by simp⟩
theorem CollP.step {D:DataW Unit} {left:Lit->Bool} {ss:List Plc} (h:CollP D left ss) {x:Plc} (hx:Wf x) (hl:left (kl x)=true) {yd:DataW Unit} (hat:∀ zd,D.atKey (kl x) zd=yd):CollP D (fun z=>left z && !z.sameKey (kl x)) (ss++[x]):=by
 have hnot:x ∉ ss:=fun e=>by have:=((h.mem x hx).1 e).2; rw [hl] at this; cases this
 refine ⟨List.nodup_append.2 ⟨h.once,by simp,fun a ha b hb e=>?_⟩,fun y hy=>?_,fun y hy=>?_⟩
 ·simp at hb; subst hb; subst e; exact hnot ha
 ·rcases List.mem_append.1 hy with h1 | h1
  ·exact h.wf y h1
  ·simp at h1; subst h1; exact hx
 ·by_cases e:y=x
  ·subst e
   simp [has_true_of_atKey hat,WideAt.sameKey_self (kl_key y)]
  ·have hne:kl y≠kl x:=fun e'=>e (kl_inj hy hx e')
   simp [e,h.mem y hy,sameKey_ne hne]
set_option maxRecDepth 100000 in
theorem keys1_any (F:Fence) (n:Nat) (hf:F.fn 161) (hro:F.round=none) (hn:1<=n) (l Bm b nn:Nat) (D0:DataW Unit) (J Jx:List Plc->World->Prop)
  (hY:∀ pre x W,J pre W->pre.length < Maps.size D0->YieldAt F (n - 1) Tryz.prog l #[pv x] W fun e W'=>(e=.returned (.bool true)/\J (pre++[x]) W'/\KeepsWalks W W')\/(e=.returned (.bool false)/\Jx (pre++[x]) W'))
  (W:World) (hJ:AbidesFrom W.heap.size J) (hm:W.cell? ⟨Bm,0,none⟩=some (.map (some b))) (hown:W.ownsMap Tryz.prog 65 (plainElem (H:=Unit) Tryz.prog 49) b nn D0) (h0:J [] W) :
  CallsIn F n Tryz.prog 161 #[.func (.yield l) #[] #[],.pointer (some ⟨Bm,0,none⟩)] W fun e W'=>(∃ v,e=.returned v) /\
   ((∃ ss,(CollP D0 (fun _=>false) ss/\ss.length<=Maps.size D0)/\J ss W')\/(∃ pre,True/\Jx pre W')):=by
 refine callsIn_of_wp Tryz.func161 rfl hf ?_ hro
 simp only [Tryz.ntmps161,List.size_toArray,List.length_cons,List.length_nil,Nat.reduceAdd,Nat.reduceSub,Array.replicate_succ,Array.replicate_zero,List.push_toArray,List.append_toArray,List.nil_append,List.cons_append]
 gi_wp2_with (first
  | (gi_at_range; refine wpListIn_range_own _ rfl _ 185 rfl 65 49 keyPlace Tryz.underlying185 _ b nn _ rfl hown ?_; intro w0 hrg0 hg0 hs0)
  | gi_in)
 go_frame
 gi_loopw [3] (fun _ wr=>∃ (left:Lit->Bool) (cnt:Nat) (ss:List Plc),wr.ranges Tryz.prog 65 (plainElem (H:=Unit) Tryz.prog 49) b W.heap.size nn D0 left cnt/\ss.length+cnt<=Maps.size D0/\CollP D0 left ss/\J ss wr)
  (fun _ wr=>wr.rangeLeft b W.heap.size)
 case atStart =>
  exact ⟨_,_,[],hrg0,by simp,CollP.start D0,hJ [] W w0 none h0 hg0 (fun r e=>by cases e)⟩
 case round =>
  obtain ⟨left,cnt,ss,hrg,hcs,hC,hJs⟩:=hrel
  gi_wp2_with (first
   | (gi_at_next; refine wpListIn_next_ranges _ rfl _ rfl 65 keyPlace (plainElem (H:=Unit) Tryz.prog 49) (fun x:Plc=>Value.agg #[.int .i64 x.1,.int .i64 x.2.1,.int .i64 x.2.2]) id (fun key kl hk=>by obtain ⟨x,_,hx,_⟩:=key_inv hk; exact ⟨x,hx⟩) (fun v _ _=>⟨v,rfl⟩) b W.heap.size nn _ _ _ rfl hrg ?_ ?_)
   | gi_in)
  ·intro hc0 hl0
   gi_wp2
   go_end0
   exact ⟨⟨_,rfl⟩,.inl ⟨ss,⟨⟨hC.once,hC.wf,fun x hx=>by rw [hC.mem x hx,hl0]⟩,by omega⟩,hJs⟩⟩
  ·intro xa xb xc c kx yd yp w2 cnt2 hkey hlk hv hat hrg2 hlt hg2 hs2 hen
   obtain ⟨x,hx',ex,rfl⟩:=key_inv hkey
   obtain ⟨ya,yb,yc⟩:=x
   have ex':=pv_inj (x:=(xa,xb,xc)) ex
   obtain ⟨rfl,rfl,rfl⟩:xa=ya/\xb=yb/\xc=yc:=by simpa using ex'
   clear ex ex'
   have hJ2:J ss w2:=hJ ss wr w2 (some W.heap.size) hJs hg2 (fun r e=>by cases e; exact ⟨Nat.le_refl _,hrg.iter_walk⟩)
   have hJ3:J ss (w2.alloc (.cells #[.int .i64 xa,.int .i64 xb,.int .i64 xc] 65)):=hJ ss w2 _ none hJ2 (World.grownBy_alloc w2 _ none) (fun r e=>by cases e)
   obtain ⟨fn,tmps,assign,body,hy,hR⟩:=hY ss (xa,xb,xc) _ hJ3 (by omega)
   have hrg2':=hrg2.alloc (.cells #[.int .i64 xa,.int .i64 xb,.int .i64 xc] 65)
   have hC2:=hC.step hx' hlk hat
   simp only [pv] at hy
   clear hs2
   gi_wp2
   refine hR.mono ?_
   rintro e W3 (⟨rfl,hJ4,hk3⟩ | ⟨rfl,hJx4⟩)
   ·gi_wp2
    have hrg3:=hrg2'.of_walks hk3
    go_roundw
    case rel=>exact ⟨_,cnt2,ss++[(xa,xb,xc)],hrg3,by simp; omega,hC2,hJ4⟩
    case measure=>rw [hrg3.left_eq,hrg.left_eq]; exact hlt
   ·gi_wp2
    refine bodyPost_ret (results_none rfl _ _ _) rfl ?_
    exact ⟨⟨_,rfl⟩,  .inr ⟨ss++[(xa,xb,xc)],trivial,hJx4⟩⟩
def OpsN (f:Plc->Int) (n:Nat) (ss:List Plc):Prop:=OpsF f ss/\ss.length<=n
set_option maxRecDepth 100000 in
theorem keys1_none (F:Fence) (n:Nat) (hf:F.fn 161) (hro:F.round=none) (l Bm:Nat) (J:List Plc->World->Prop) (W:World) (hJ:AbidesFrom W.heap.size J)
  (hm:W.cell? ⟨Bm,0,none⟩=some (.map none)) (h0:J [] W) :
  CallsIn F n Tryz.prog 161 #[.func (.yield l) #[] #[],.pointer (some ⟨Bm,0,none⟩)] W fun e W'=>(∃ v,e=.returned v)/\J [] W':=by
 have hrg:=run_range_nilMap (P:=Tryz.prog) W 185 _ _ Tryz.underlying185
 have hnx:∀ ty,(Instr.next (.pointer (some ⟨W.heap.size,0,none⟩)) false ty).run Tryz.prog (W.alloc (.mapIter none 0 #[] 0))=_:=fun ty=>run_next_nilMap _ ty 0 0 #[]
 refine callsIn_of_wp Tryz.func161 rfl hf ?_ hro
 simp only [Tryz.ntmps161,List.size_toArray,List.length_cons,List.length_nil,Nat.reduceAdd,Nat.reduceSub,Array.replicate_succ,Array.replicate_zero,List.push_toArray,List.append_toArray,List.nil_append,List.cons_append]
 gi_wp2
 refine wpIn_loop_rounds 1 ?_
 rw [roundsIn_succ]
 gi_wp2
 go_end0
 exact ⟨⟨_,rfl⟩,hJ [] W _ none h0 (World.grownBy_alloc W _ none) (fun r e=>by cases e)⟩
theorem keys_stops (F:Fence) (n:Nat) (hf:F.fn 161) (hro:F.round=none) (hn:1<=n) {Bm nn:Nat} {mp:Option Nat} {f:Plc->Int} {w:World} (hBm:Bm < w.heap.size)
  (hm:w.cell? ⟨Bm,0,none⟩=some (.map mp)) (hM:MapIs w mp f nn) :
  SeqStopsK F n Tryz.prog 161 #[.pointer (some ⟨Bm,0,none⟩)] (fun x:Plc=>#[Value.agg #[.int .i64 x.1,.int .i64 x.2.1,.int .i64 x.2.2]]) KeepsWalks (OpsN f nn) (fun _=>True) nn w:=fun l J Jx W hW hJ _ hY h0=>by
 rcases hM with ⟨rfl,rfl⟩ | ⟨b,D,rfl,ho,hr⟩
 ·exact (keys1_none F n hf hro l Bm J W hJ ((hW.cell (p:=⟨Bm,0,none⟩) hBm).trans hm) h0).mono fun _ _ ⟨he,hj⟩=>⟨he,.inl ⟨[],⟨⟨List.nodup_nil,by simp⟩,Nat.zero_le _⟩,hj⟩⟩
 ·have hlt:=ho.lt
  have hsz:=ho.size_le
  have ho':W.ownsMap Tryz.prog 65 (plainElem (H:=Unit) Tryz.prog 49) b nn D:=by
   obtain ⟨es,clock,hb,r⟩:=ho
   exact ⟨es,clock,(hW.block b hlt).trans hb,r⟩
  refine (keys1_any F n hf hro hn l Bm b nn D J Jx (fun pre x W1 h1 h2=>hY pre x W1 h1 (by omega)) W hJ ((hW.cell (p:=⟨Bm,0,none⟩) hBm).trans hm) ho' h0).mono ?_
  rintro e W' ⟨he,⟨ss,⟨hC,hlen⟩,hj⟩ | hx⟩
  ·refine ⟨he,.inl ⟨ss,⟨⟨hC.once,fun x=>?_⟩,Nat.le_trans hlen hsz⟩,hj⟩⟩
   by_cases hw:Wf x
   ·rw [hC.mem x hw,hr.has' x hw]; simp
   ·constructor
    ·intro e; exact absurd (hC.wf x e) hw
    ·intro e; exact absurd (hr.words.out x hw) e
  ·exact ⟨he,.inr hx⟩
theorem keys_in (F:Fence) (n:Nat) (hf:F.fn 112) (hro:F.round=none) (mp:Option Nat) (w:World) :
  CallsIn F n Tryz.prog 112 #[.map mp] w fun e w'=>e=.returned (.func (.func 161) #[] #[.pointer (some ⟨w.heap.size,0,none⟩)])/\w'=w.alloc (.cells #[.map mp] 185):=by
 refine callsIn_of_wp Tryz.func112 rfl hf ?_ hro
 simp only [Tryz.ntmps112,List.size_toArray,List.length_cons,List.length_nil,Nat.reduceAdd,Nat.reduceSub,Array.replicate_succ,Array.replicate_zero,List.push_toArray,List.append_toArray,List.nil_append,List.cons_append]
 gi_wp2
 go_ret
 exact ⟨rfl,rfl⟩
def Box3 (W:World) (B:Nat) (x:Plc):Prop:=W.heap[B]?=some (.cells #[.int .i64 x.1,.int .i64 x.2.1,.int .i64 x.2.2] 65 (0,0))
theorem Box3.rule {W:World} {B:Nat} {x:Plc} (h:Box3 W B x):∀ i,W.cell? ⟨B,i,none⟩=[Value.int .i64 x.1,.int .i64 x.2.1,.int .i64 x.2.2][i]?:=fun i=>by
 unfold Box3 at h
 simp [World.cell?,h]
set_option maxRecDepth 100000 in
theorem append_in (F:Fence) (n:Nat) (hf:F.fn 194) (hk:F.fn 161) (hro:F.round=none) (hn:3<=n) {Bm nn:Nat} {mp:Option Nat} {f:Plc->Int} {w:World} (hBm:Bm < w.heap.size)
  (hm:w.cell? ⟨Bm,0,none⟩=some (.map mp)) (hM:MapIs w mp f nn) (hN:nn<=maxLen) (hNb:nn * 24<=140737488355328) :
  CallsIn F n Tryz.prog 194 #[.slice none 0 0,.func (.func 161) #[] #[.pointer (some ⟨Bm,0,none⟩)]] w fun e w'=>∃ v ss,e=.returned v/\OpsN f nn ss/\w'.ownsRow w.heap.size 65 3 v ss.length (flatP ss)/\(v=.slice none 0 0 ↔ ss=[])/\Below w.heap.size w w':=by
 have h1:1<=n:=by omega
 obtain ⟨i0,hi,hz0,hz1,hz2⟩:=info_parts infoPlace
 refine callsIn_of_wp_marks Tryz.func194 rfl hf ?_ hro
 simp only [Tryz.ntmps194,List.size_toArray,List.length_cons,List.length_nil,Nat.reduceAdd,Nat.reduceSub,Array.replicate_succ,Array.replicate_zero,List.push_toArray,List.append_toArray,List.nil_append,List.cons_append]
 gi_wp2
 have bO:=Boxed.new w 132 (.slice none 0 0)
 have hB0:Below w.heap.size w (w.alloc (.cells #[.slice none 0 0] 132)):=(Below.refl _ w).alloc (Nat.le_refl _) _
 refine wpIn_rangeFunc_ownH hro h1 (gf:=161) (lb:=#[.pointer (some ⟨Bm,0,none⟩)]) rfl hk (enters_of Tryz.func161 (by kernel_rfl) rfl)
  (keys_stops F (n - 1) hk hro (by omega) (w:=w.alloc (.cells #[.slice none 0 0] 132)) (by simp; omega) ((hB0.cell (p:=⟨Bm,0,none⟩) hBm).trans hm) (hM.more _)) walksK_t walksK_b (Below.refl _ _) (fun _=>rfl)
  (fun pre W=>(∃ v,Boxed W w.heap.size 132 v/\W.ownsRow w.heap.size 65 3 v pre.length (flatP pre)/\(v=.slice none 0 0 ↔ pre=[]))/\Below w.heap.size w W)
  (fun _ _ _=>False)
  (OwnFrom.and (Own.from (holdsRow_own w.heap.size w.heap.size 132 65 3 (fun pre:List Plc=>pre.length) flatP (fun pre v=>v=.slice none 0 0 ↔ pre=[])) _) (ownFrom_below (Nat.le_refl _) (by simp)))
  (fun _ _ _ _ _ hs _ _=>hs)
  ⟨⟨_,bO,World.ownsRow_nil _ _ _ _,by simp⟩,hB0⟩
  (fun x a' W=>∃ Bx,Box3 W Bx x/\a'={ tmps:=#[.slice none 0 0,.func (.func 161) #[] #[.pointer (some ⟨Bm,0,none⟩)],.pointer (some ⟨w.heap.size,0,none⟩),undef,.slice none 0 0,.pointer (some ⟨Bx,0,none⟩),.func (.func 161) #[] #[.pointer (some ⟨Bm,0,none⟩)],.agg #[.int .i64 x.1,.int .i64 x.2.1,.int .i64 x.2.2],undef,undef,undef,undef,undef],defers:=[] })
  (fun x a' _ X Y row hs hg hr=>by
    obtain ⟨Bx,h2,h3⟩:=hs
    refine ⟨Bx,(hg.block Bx (Array.getElem?_eq_some_iff.1 h2).1 (fun e=>?_)).trans h2,h3⟩
    obtain ⟨_,o,ho,hc⟩:=hr Bx e.symm
    rw [show X.heap[Bx]?=_ from h2] at ho
    cases ho
    cases hc) ?assign ?body ?done ?stop
 case assign =>
  rintro l pre x W K ⟨⟨v,bV,hrow,hnil⟩,hB1⟩ hK
  gi_wp2
  exact hK _ _ ((KeepsOthers.alloc _ _).from _) (KeepsWalks.alloc _ _) ⟨⟨v,bV.alloc _,hrow.alloc _,hnil⟩,hB1.alloc hB1.size _⟩ ⟨W.heap.size,World.alloc_heap_new W _,rfl⟩
 case body =>
  rintro l pre x a' W hl ⟨r,hr⟩ ⟨⟨v,hv,hrow,hnil⟩,hB⟩ ⟨Bx,hBx,rfl⟩ hlt
  have hc:=hv.cell
  have hx:=hBx.rule
  gi_wp2_with (gi_at_builtin; refine wpListIn_append_own _ rfl _ _ 132 rfl w.heap.size 65 i0 (.agg #[.int .i64 0,.int .i64 0,.int .i64 0]) 3 24 Tryz.underlying132 hi hz0 hz1 hz2 rfl (by decide) _ _ _ rfl (hrow.alloc _) ⟨W.heap.size,0,none⟩ 1 1 [.int .i64 x.1,.int .i64 x.2.1,.int .i64 x.2.2] rfl rfl (cells_new _ _ _) (by simp [Value.oneCell']) (by omega) (by omega) (by have:=hB.size; simp; omega) ?_; intro v' w1 hown' hgrow _; obtain ⟨g',cap',rfl⟩:=ownsRow_succ hown'; obtain ⟨hv1,hv2,hr2,hk2,hb2⟩:=hv.appended (by decide) hrow hB.size (Nat.le_refl _) hown' hgrow; have hc1:=hv1.cell; have hf1:=hv1.frozen)
  exact ⟨hk2.from _,hk2.walks,⟨_,hv2,by rw [flatP_snoc]; simpa [encP] using hr2,by simp⟩,hB.trans hb2⟩
 case done =>
  rintro D ys W hD hS ⟨⟨v,hv,hrow,hnil⟩,hB⟩ hK
  have hc:=hv.cell
  gi_wp2
  refine ⟨by simp,.inl ⟨_,_,rfl,run_takeDeferred hK,?_⟩⟩
  exact ⟨_,results_tmp rfl _ _ _,v,ys,rfl,hS,ownsRow_putObj hrow _ hK rfl,hnil,hB.trans (belowK_b (w:=w) (Nat.le_refl _) W D _ _ (by simp at hD; omega) hK rfl rfl)⟩
 case stop =>
  rintro D c pre W _ _ h _
  exact h.elim
theorem holds_of_row {w:World} {g cap:Nat} {cur:Array Value} {l:List Plc} {t:TypeId} (hg:w.heap[g]?=some (.cells cur t (0,0))) (hc:cur.size=cap * 3) (hl:l.length<=cap) (ht:cur.toList.take (l.length * 3)=flatP l):HoldsK encP 3 w g 0 l.toArray:=by
 intro j hj
 have hj':j < l.length * 3:=by simpa using hj
 refine ⟨?_,by simp [World.frozen?,hg]⟩
 have h1:(cur.toList.take (l.length * 3))[j]?=(flatP l)[j]?:=by rw [ht]
 rw [List.getElem?_take_of_lt hj'] at h1
 have h2:=flatP_get l (j / 3) (j % 3) (by omega) (by omega)
 rw [show j / 3 * 3+j % 3=j by omega] at h2
 have h3:(encP (l.getD (j / 3) z3))[j % 3]?=some ((encP (l.getD (j / 3) z3))[j % 3]!):=by
  have:j % 3 < (encP (l.getD (j / 3) z3)).length:=by simp [encP]; omega
  rw [List.getElem?_eq_getElem this,getElem!_pos (encP (l.getD (j / 3) z3)) (j % 3) this]
 simp only [World.cell?,hg,Nat.zero_add]
 rw [get_flatK _ _ _ _ (by simpa using hj')]
 have h4:l.toArray[j / 3]! = l.getD (j / 3) z3:=by
  have hlt:j / 3 < l.length:=by omega
  simp [hlt]
 have h5:cur[j]?=some ((encP (l.getD (j / 3) z3))[j % 3]!):=by
  rw [<- h3,<- h2,<- h1]; simp
 rw [h4]
 simpa using h5
theorem grown_sorted {w:World} {g n:Nat} {os:Array Obj} (d:Array Plc):w.grownBy (sortWorldK encP 3 w g 0 n d os) (some g):=by
 refine ⟨rfl,rfl,rfl,by simp [sortWorldK,putRowK,grow,putRow,mapBlock,Sort.ahead],fun k hk hne=>?_⟩
 have h1:g≠k:=fun e=>hne (by rw [e])
 unfold sortWorldK putRowK
 rw [heap_grow_old _ _ (by simpa [putRow,mapBlock,Sort.ahead] using hk)]
 simp [putRow,mapBlock,Sort.ahead,Array.getElem?_modify,h1]
theorem row_of_holds {w:World} {g cap:Nat} {l:List Plc} (hg:g < w.heap.size) (h:HoldsK encP 3 w g 0 l.toArray):RowP w (.slice (some ⟨g,0,none⟩) l.length cap) l:=by
 refine .inr ⟨g,cap,rfl,hg,fun j hj=>?_⟩
 have e:l.toArray[j]! = l.getD j z3:=by simp [hj]
 have h0:=(h.cell (i:=j) (c:=0) (by simpa using hj) (by omega)).1
 have h1:=(h.cell (i:=j) (c:=1) (by simpa using hj) (by omega)).1
 have h2:=(h.cell (i:=j) (c:=2) (by simpa using hj) (by omega)).1
 rw [e] at h0 h1 h2
 simp only [Nat.zero_add,Nat.add_zero] at h0 h1 h2
 exact ⟨h0,h1,h2⟩
theorem sortL_perm (l:List Plc):(sortL l).Perm l:=List.mergeSort_perm _ _
theorem sortL_rising {l:List Plc} (h:l.Nodup):Rising (sortL l):=by
 have hs:(sortL l).Pairwise fun x y=>(!(ltOf cmpP) y x)=true:=by
  unfold sortL
  refine List.pairwise_mergeSort (fun a b c h1 h2=>?_) (fun a b=>?_) l
  ·simp only [Bool.not_eq_true'] at *
   exact swoP.ntrans _ _ _ h2 h1
  ·simp only [Bool.or_eq_true,Bool.not_eq_true']
   cases h1:ltOf cmpP b a
   ·exact .inl rfl
   ·refine .inr ?_
    cases h2:ltOf cmpP a b
    ·rfl
    ·have:=swoP.trans _ _ _ h1 h2
     rw [swoP.irrefl] at this
     cases this
 have hn:(sortL l).Nodup:=(sortL_perm l).nodup_iff.2 h
 refine (hs.and hn).imp fun {x y} hxy=>?_
 obtain ⟨h1,h2⟩:=hxy
 cases h3:ltOf cmpP x y
 ·exact absurd (totP x y h3 (by simpa using h1)) h2
 ·rfl
theorem PlacesOf.sort {f:Plc->Int} {ss:List Plc} (h:OpsF f ss):PlacesOf f (sortL ss):=⟨sortL_rising h.1,fun x=>((sortL_perm ss).mem_iff).trans (h.2 x)⟩
theorem collect_any {Bm nn:Nat} {mp:Option Nat} {f:Plc->Int} {w:World} (hBm:Bm < w.heap.size)
  (hm:w.cell? ⟨Bm,0,none⟩=some (.map mp)) (hM:MapIs w mp f nn) (hN:nn<=maxLen) (hNb:nn * 24<=140737488355328) :
  Calls Tryz.prog 159 #[.func (.func 161) #[] #[.pointer (some ⟨Bm,0,none⟩)]] w fun e w'=>∃ v ss,e=.returned v/\OpsN f nn ss/\w'.ownsRow w.heap.size 65 3 v ss.length (flatP ss)/\(v=.slice none 0 0 ↔ ss=[])/\Below w.heap.size w w':=by
 have h1:Calls Tryz.prog 194 #[.slice none 0 0,.func (.func 161) #[] #[.pointer (some ⟨Bm,0,none⟩)]] w _:=(callsIn_wide (n:=6)).1 (append_in Fence.wide 6 trivial trivial rfl (by omega) hBm hm hM hN hNb)
 clear hm hM
 go_enter Tryz.func159,Tryz.ntmps159
 go_wp2_with (refine h1.mono ?_; rintro e w1 ⟨v,ss,rfl,h2,h3,h4,h5⟩)
 go_ret
 exact ⟨v,ss,rfl,h2,h3,h4,h5⟩
theorem sorted_any {Bm nn:Nat} {mp:Option Nat} {f:Plc->Int} {w:World} (hBm:Bm < w.heap.size)
  (hm:w.cell? ⟨Bm,0,none⟩=some (.map mp)) (hM:MapIs w mp f nn) (hN:nn<=maxLen) (hNb:nn * 24<=140737488355328) :
  Calls Tryz.prog 111 #[.func (.func 161) #[] #[.pointer (some ⟨Bm,0,none⟩)],.func (.func 113) #[] #[]] w fun e w'=>∃ v l,e=.returned v/\PlacesOf f l/\RowP w' v l/\Below w.heap.size w w':=by
 have h1:=collect_any hBm hm hM hN hNb
 clear hm hM
 go_enter Tryz.func111,Tryz.ntmps111
 go_wp2_with fail
 refine h1.mono ?_
 rintro e w1 ⟨v,ss,rfl,⟨h2,h2n⟩,h3,h4,h5⟩
 rcases h3.2 with ⟨rfl,hz⟩ | ⟨g,cap,cur,rfl,hg0,hg,hl,hcap,hcs,htk⟩
 ·have hs:ss=[]:=h4.1 rfl
  subst hs
  go_wp2_with (refine (sort_none _ _ _ _).mono ?_; rintro e w2 ⟨rfl,rfl⟩)
  go_ret
  exact ⟨_,[],rfl,⟨List.Pairwise.nil,fun x=>by simpa using h2.2 x⟩,.inl ⟨rfl,rfl⟩,h5⟩
 ·have hH:=holds_of_row hg hcs hl htk
  have hgl:g < w1.heap.size:=(Array.getElem?_eq_some_iff.1 hg).1
  have hc:=sort_any g 0 cap ss.toArray w1 hH hgl (by simp; omega)
  have h6:=PlacesOf.sort h2
  have hlen:(sortL ss).length=ss.length:=(sortL_perm ss).length_eq
  simp only [List.size_toArray] at hc
  have HH:=Lib.hid hH
  clear h1 h3 h4 hg htk hcs hH
  go_wp2_with (refine hc.mono ?_; rintro e w2 ⟨rfl,n,os,rfl⟩)
  go_ret
  have hgr:=grown_sorted (w:=w1) (g:=g) (n:=n) (os:=os) (sortL ss).toArray
  refine ⟨_,sortL ss,rfl,h6,?_,h5.grown hgr h5.size fun k e=>by cases e; exact hg0⟩
  rw [<- hlen]
  refine row_of_holds (Nat.lt_of_lt_of_le hgl hgr.size) (holdsK_grow _ _ _ _ _ _ _ (by simpa [putRowK,putRow,mapBlock,Sort.ahead] using hgl) (holdsK_putRowK _ _ _ _ _ ss.toArray _ ?_ (by simp [hlen])))
  exact holdsK_ahead _ _ _ _ _ _ _ HH.out
theorem places_any {c n:Nat} {F:Nat->Prop} {f:Plc->Int} {q:Cnt} {w:World} (hn:n<=1000000) (hC:IsC w c F f q n) :
  Calls Tryz.prog 61 #[.pointer (some ⟨c,0,none⟩)] w fun e w'=>∃ v l,e=.returned v/\PlacesOf f l/\RowP w' v l/\Below w.heap.size w w':=by
 obtain ⟨mp,hb,hm,hF⟩:=hC
 have r:=hb.rule
 unfold cv at r
 have hk:=fun w'=>(callsIn_wide (n:=6)).1 (keys_in Fence.wide 6 trivial rfl mp w')
 have hs:=sorted_any (w:=w.alloc (.cells #[.map mp] 185)) (Bm:=w.heap.size) (by simp) ((Blk.new 0 w [.map mp] _).rule 0) (hm.more _) (by unfold maxLen; omega) (by omega)
 go_enter Tryz.func61,Tryz.ntmps61
 go_wp2_with fail
 refine (hk _).mono ?_
 rintro e w1 ⟨rfl,rfl⟩
 clear hk
 go_wp2_with fail
 refine hs.mono ?_
 rintro e w2 ⟨v,l,rfl,h1,h2,h3⟩
 clear hs
 go_wp2
 go_ret
 exact ⟨v,l,rfl,h1,h2,((Below.refl _ _).alloc (Nat.le_refl _) _).trans (h3.mono (by simp))⟩
end Go.Proofs.YthcblagpbkaoaaaGreatDoor
namespace Go.Proofs.YthcblagpbkaoaaaGreatDoor
open Go.RowKit Go.Maps
set_option maxRecDepth 100000
set_option maxHeartbeats 25600000
section
variable {w0 w:World} {R:List Item} {p c m n:Nat} {G FU:Nat->Prop} {qc:Cnt} {ml:List OneR}
theorem memory_t (hl:ml.length<=900000) (hn:n<=900000) (hE:Env w0 (wbox p c::cellI c G (getL ml) qc n::refI m FU ml::R) w) :
  Calls Tryz.prog 17 #[.pointer (some ⟨p,0,none⟩),.pointer (some ⟨m,0,none⟩)] w fun o w'=>o=.returned (.bool true)/\Env w0 (wbox p c::cellI c G (getL ml) qc n::refI m FU ml::R) w':=by
 go_enter Tryz.func17,Tryz.ntmps17
 go_wp2_with fail
 refine (cells_w 0 1 hE rfl rfl).mono ?_
 rintro o w1 ⟨c2,F2,rfl,hE1⟩
 clear hE
 go_wp2_with fail
 refine (places_any (by omega) (hE1.cell 0 rfl)).mono ?_
 rintro e w5 ⟨v5,m5,rfl,hp5,hr5,hb⟩
 have hE5:=hE1.over hb
 clear hb hE1
 go_wp2_with fail
 refine (refPlaces_any (by omega) (hE5.ref 3 rfl).nodup (hE5.ref 3 rfl)).mono ?_
 rintro e w6 ⟨m6,v6,rfl,hp6,hm6,ho6,hb⟩
 have hE6:=hE5.over hb
 obtain rfl:=hp5.eq hp6
 have hr5':=hr5.below hb
 have hr6:=ownsRow_rowP ho6
 have hwf:∀ x∈m5,Wf x:=fun x hx=>Classical.byContradiction fun h=>((hp5.2 x).1 hx) ((hE6.cell 2 rfl).words.out x h)
 have hm5:m5.length<=900000:=by omega
 obtain ⟨A1,cp1,rfl⟩:=hr5'.len
 obtain ⟨A2,cp2,rfl⟩:=hr6.len
 have H1:=Lib.hid hr5'
 have H2:=Lib.hid hr6
 have HWF:=Lib.hid hwf
 clear hb hE5 hp5 hp6 hr5 ho6 hm6 hr5' hr6 hwf
 go_wp2_with fail
 go_loopw [7] (fun i wr=>∃ k:Nat,k<=m5.length/\i=.int .i64 k/\Env w0 (cellI c2 F2 (getL ml) ⟨0,0,0,0,0⟩ n::wbox p c::cellI c G (getL ml) qc n::refI m FU ml::R) wr/\Below w6.heap.size w6 wr) (fun i _=>m5.length - (intOf i).toNat)
 case atStart=>exact ⟨0,Nat.zero_le _,rfl,hE6,Below.refl _ _⟩
 case round =>
  clear hE6
  obtain ⟨k,hk,rfl,hEr,hB⟩:=hrel
  by_cases hlt:k < m5.length
  ·have hb1:decide ((k:Int) < (m5.length:Int))=true:=by simp; omega
   have hlti:(k:Int) < (m5.length:Int):=by omega
   rcases H1.out with ⟨h0,_⟩ | ⟨g1,cap1,e1,hg1,hc1⟩
   ·rw [h0] at hlt; simp at hlt
   rcases H2.out with ⟨h0,_⟩ | ⟨g2,cap2,e2,hg2,hc2⟩
   ·rw [h0] at hlt; simp at hlt
   simp only [Value.slice.injEq] at e1 e2
   obtain ⟨rfl,-,rfl⟩:=e1
   obtain ⟨rfl,-,rfl⟩:=e2
   obtain ⟨a0,a1,a2⟩:=hc1 k hlt
   obtain ⟨b0,b1,b2⟩:=hc2 k hlt
   have hx:=HWF.out (m5.getD k z3) (by rw [List.getD_eq_getElem?_getD,List.getElem?_eq_getElem hlt]; exact List.getElem_mem hlt)
   clear hc1 hc2
   generalize m5.getD k z3=o at a0 a1 a2 b0 b1 b2 hx
   obtain ⟨x,y,z⟩:=o
   simp only at a0 a1 a2 b0 b1 b2
   obtain ⟨v,hv⟩:∃ v,getL ml (x,y,z)=v:=⟨_,rfl⟩
   have HC:Hid (∀ w',(Env w0 (cellI c2 F2 (getL ml) ⟨0,0,0,0,0⟩ n::wbox p c::cellI c G (getL ml) qc n::refI m FU ml::R) w'/\Below w6.heap.size w6 w')->(w'.cell? ⟨g1,k * 3,none⟩=some (.int .i64 x)/\w'.cell? ⟨g1,k * 3+1,none⟩=some (.int .i64 y)/\w'.cell? ⟨g1,k * 3+2,none⟩=some (.int .i64 z) /\
     w'.cell? ⟨g2,k * 3,none⟩=some (.int .i64 x)/\w'.cell? ⟨g2,k * 3+1,none⟩=some (.int .i64 y)/\w'.cell? ⟨g2,k * 3+2,none⟩=some (.int .i64 z))):=Lib.hid fun w' hb=>by
    refine ⟨?_,?_,?_,?_,?_,?_⟩
    ·rw [hb.2.cell (p:=⟨g1,k * 3,none⟩) hg1]; exact a0
    ·rw [hb.2.cell (p:=⟨g1,k * 3+1,none⟩) hg1]; exact a1
    ·rw [hb.2.cell (p:=⟨g1,k * 3+2,none⟩) hg1]; exact a2
    ·rw [hb.2.cell (p:=⟨g2,k * 3,none⟩) hg2]; exact b0
    ·rw [hb.2.cell (p:=⟨g2,k * 3+1,none⟩) hg2]; exact b1
    ·rw [hb.2.cell (p:=⟨g2,k * 3+2,none⟩) hg2]; exact b2
   have HPK:Hid (∀ w',(Env w0 (cellI c2 F2 (getL ml) ⟨0,0,0,0,0⟩ n::wbox p c::cellI c G (getL ml) qc n::refI m FU ml::R) w'/\Below w6.heap.size w6 w')->Calls Tryz.prog 63 #[.pointer (some ⟨p,0,none⟩),.agg #[.int .i64 x,.int .i64 y,.int .i64 z]] w' fun e v'=>e=.returned (.int .u64 v)/\Below w'.heap.size w' v'):=Lib.hid fun w' hb=>by
    rw [<- hv]
    exact peek_w x y z hx 1 2 hb.1 rfl rfl
   have HGT:Hid (∀ w',(Env w0 (cellI c2 F2 (getL ml) ⟨0,0,0,0,0⟩ n::wbox p c::cellI c G (getL ml) qc n::refI m FU ml::R) w'/\Below w6.heap.size w6 w')->Calls Tryz.prog 64 #[.pointer (some ⟨m,0,none⟩),.agg #[.int .i64 x,.int .i64 y,.int .i64 z]] w' fun e v'=>e=.returned (.int .u64 v)/\Below w'.heap.size w' v'):=Lib.hid fun w' hb=>by
    rw [<- hv]
    exact refGet_any x y z (by omega) (hb.1.ref 3 rfl)
   clear a0 a1 a2 b0 b1 b2 hv hx
   go_wp2_with fail
   refine wp_text (S:=(fun w'=>Env w0 (cellI c2 F2 (getL ml) ⟨0,0,0,0,0⟩ n::wbox p c::cellI c G (getL ml) qc n::refI m FU ml::R) w'/\Below w6.heap.size w6 w')) (by kernel_rfl) (by kernel_rfl) ⟨hEr.drew,hB.drew⟩ (fun hT=>?_)
   have hT9:=Lib.hid hT
   clear hT
   repeat (first
    | (refine text_value (v:=?_) hT9.out (by rfl) ?_ ?_; rotate_left; (focus (intro w5 hS; obtain ⟨a0,a1,a2,b0,b1,b2⟩:=HC.out _ hS; go_simp<;>with_reducible rfl)); (try simp only [Act.put,zA,zZ,zS]))
    | (refine text_off hT9.out (by rfl) ?_; (try simp only [Act.put,zA,zZ,zS]))
    | (refine text_call (v:=?_) (f:=?_) (args:=?_) hT9.out (by rfl) ?_ ?_ ?_; rotate_left 3; (focus (intro w5 hS; obtain ⟨a0,a1,a2,b0,b1,b2⟩:=HC.out _ hS; go_simp; constructor<;>with_reducible rfl)); (focus (intro w5 hS; (first | (with_reducible refine (HPK.out _ hS).mono ?_; rintro o w8 ⟨rfl,hb5⟩; constructor; with_reducible rfl; exact ⟨hS.1.over hb5,hS.2.trans (hb5.mono hS.2.size)⟩) | (with_reducible refine (HGT.out _ hS).mono ?_; rintro o w8 ⟨rfl,hb5⟩; constructor; with_reducible rfl; exact ⟨hS.1.over hb5,hS.2.trans (hb5.mono hS.2.size)⟩)))); (try simp only [Act.put,zA,zZ,zS])))
   refine InText.nil fun w5 hS5=>?_
   clear hT9
   clear hEr hB HC HPK HGT
   go_wp2_with fail
   exact ⟨⟨k+1,by omega,by simp,hS5⟩,by simp [intOf]; omega⟩
  ·have hb1:decide ((k:Int) < (m5.length:Int))=false:=by simp; omega
   go_wp2_with fail
   go_ret
   exact ⟨rfl,hEr.sub (.cons _ (List.Sublist.refl _))⟩
end
end Go.Proofs.YthcblagpbkaoaaaGreatDoor
namespace Go.Proofs.YthcblagpbkaoaaaGreatDoor
open Go.ChangeShapes Go.WideShapes Go.ChangeAt Go.RowKit
set_option maxRecDepth 100000
set_option maxHeartbeats 25600000
section
variable {P:Program} {w:World}
theorem cell_lt {b o:Nat} {v:Value} (h:w.cell? ⟨b,o,none⟩=some v):b < w.heap.size:=by
 rcases Nat.lt_or_ge b w.heap.size with h' | h'
 ·exact h'
 ·simp [World.cell?,Array.getElem?_eq_none h'] at h
theorem laid_pair {n:String} {g:Nat} {t k:TypeId} {f0 f1:Field} {a b:Int} {r:List (String × DataW Unit)} {ps:List MemPlace}
  (h:DataW.LaidVars P w ((n,.agg [.lit (.int .i64 a),.lit (.int .i64 b)])::r) ps) (hg:P.globalNamed n=some g) (ht:(P.globals[g]?).map (·.type)=some t)
  (hs:P.underlying t=some (.struct #[f0,f1])) (hc:P.cellsOf t=2) (h0:f0.offset=0) (h1:f1.offset=1) (hk0:f0.type=k) (hk1:f1.type=k) (hk:P.cellsOf k=1) (hi:P.underlying k=some (.int .i64)) :
  w.cell? ⟨g,0,none⟩=some (.int .i64 a)/\w.cell? ⟨g,1,none⟩=some (.int .i64 b)/\∃ q,DataW.LaidVars P w r q:=by
 obtain ⟨g',t',cs,fuel,p,q,hg',ht',hv,hd,hr,-⟩:=h
 obtain rfl:=Option.some.inj (hg.symm.trans hg')
 obtain rfl:=Option.some.inj (ht.symm.trans ht')
 obtain ⟨xs,m,-,hx,hl,hn,hel⟩:=DataW.trod_struct hs hd
 have e0:=hel 0 f0 rfl
 have e1:=hel 1 f1 rfl
 rw [h0,hk0,hk] at e0
 rw [h1,hk1,hk] at e1
 obtain ⟨l⟩:=cs
 rw [hc] at hl
 match l,hl,xs,hn,hx,e0,e1,hv with
 | [c0,c1],_,[x0,x1],_,hx,e0,e1,hv =>
  simp only [Prod.mk.injEq,List.map_cons,List.map_nil,DataW.agg.injEq,List.cons.injEq] at hx
  obtain ⟨n0,s0,y0,-⟩:=DataW.trod_int hi (show DataW.trod _ P w 0 _ false m k [c0]=some x0 from e0)
  obtain ⟨n1,s1,y1,-⟩:=DataW.trod_int hi (show DataW.trod _ P w 0 _ false m k [c1]=some x1 from e1)
  simp at s0 s1
  subst s0 s1
  have k0:=hx.1.1
  have k1:=hx.1.2.1
  rw [y0] at k0
  rw [y1] at k1
  simp at k0 k1
  subst k0 k1
  exact ⟨by rw [World.var?_cell hg hv 0]; rfl,by rw [World.var?_cell hg hv 1]; rfl,q,hr⟩
end
def laid3:List (String × DataW Unit):=[("revenant/link.versionPart",Rows.laid_revenant_link_versionPart),("revenant/link.slotPart",Rows.laid_revenant_link_slotPart),("revenant/link.markPart",Rows.laid_revenant_link_markPart)]
theorem glo_of_laid {W:World} (h:laidMetH Tryz.prog laid3 W):Glo W:=by
 rw [MakeChecks.laidMetH_plain _ _ _ (by kernel_rfl)] at h
 obtain ⟨ps,h,-,-⟩:=h
 obtain ⟨a0,a1,q1,h⟩:=laid_pair (g:=2) (t:=232) (k:=3) h (by kernel_rfl) (by kernel_rfl) Tryz.underlying232 (by kernel_rfl) rfl rfl rfl rfl (by kernel_rfl) Tryz.underlying3
 obtain ⟨b0,b1,q2,h⟩:=laid_pair (g:=0) (t:=232) (k:=3) h (by kernel_rfl) (by kernel_rfl) Tryz.underlying232 (by kernel_rfl) rfl rfl rfl rfl (by kernel_rfl) Tryz.underlying3
 obtain ⟨c0,c1,q3,h⟩:=laid_pair (g:=1) (t:=232) (k:=3) h (by kernel_rfl) (by kernel_rfl) Tryz.underlying232 (by kernel_rfl) rfl rfl rfl rfl (by kernel_rfl) Tryz.underlying3
 exact ⟨⟨a0,a1⟩,⟨b0,b1⟩,⟨c0,c1⟩,cell_lt a0,cell_lt b0,cell_lt c0⟩
theorem door_met (os:Os) (args:Array Value):laidMetH Tryz.prog laid3 ((World.doorLaid Tryz.prog 24 os).forCall (fun _ _=>0) ⟨#[],args,[]⟩).memory :=
 laidMetH_of_parts3 (fuel:=8) (laidMet_of_run' 8 (by kernel_rfl) (by kernel_rfl)) (by kernel_rfl) (by kernel_rfl)
end Go.Proofs.YthcblagpbkaoaaaGreatDoor
namespace Go.Proofs.YthcblagpbkaoaaaGreatDoor
open Go.RowKit Go.WideShapes Go.ChangeShapes Go.ChangeAt Go.Deep
set_option maxRecDepth 100000
set_option maxHeartbeats 25600000
section
variable {H:Type} {enc:TypeId × Value->H} {P:Program} {W:World}
theorem open_num_row {t e:TypeId} {k:IntKind} {A:Option Addr} {len cap:Nat} {d:DataW H} {p:List MemPlace} (ht:P.underlying t=some (.slice e)) (he:P.underlying e=some (.int k)) (hc:P.cellsOf e=1)
  (h:DataW.Trod enc P W 0 (fun _=>true) true t (.slice A len cap) d p) (hlt:∀ x∈p,x.block < W.heap.size) :
  ∃ zs:List Int,zs.length=len/\len<=maxLen/\(∀ n∈zs,(Lit.int k n).wf=true)/\(zs=[]\/∃ b off,A=some ⟨b,off,none⟩/\b < W.heap.size/\∀ i,i < zs.length->W.cell? ⟨b,off+i,none⟩=some (.int k (zs.getD i 0))):=by
 obtain ⟨fuel,hf⟩:=h
 rcases open_ints ht he hc hf with ⟨hcs,hx⟩ | ⟨a,len',cap',zs,hcs,_,hl,hm,hz,hx,hcell,hwz⟩
 ·simp [Value.cells] at hcs
  obtain ⟨rfl,rfl,rfl⟩:=hcs
  exact ⟨[],rfl,Nat.zero_le _,by simp,Or.inl rfl⟩
 ·simp [Value.cells] at hcs
  obtain ⟨rfl,rfl,rfl⟩:=hcs
  simp only [Prod.mk.injEq] at hx
  obtain ⟨rfl,rfl⟩:=hx
  simp only [if_true] at hz
  refine ⟨zs.take len,by simp; omega,by omega,fun n hn=>hwz n (List.mem_of_mem_take hn),?_⟩
  by_cases h0:len=0
  ·left; subst h0; simp
  ·right
   obtain ⟨b,off,spot⟩:=a
   have hspot:spot=none:=by simpa [Addr.add] using World.cell?_spot (hcell 0 (by omega))
   subst hspot
   refine ⟨b,off,rfl,hlt (.cell b off) (MemPlace.mem_row.2 ⟨0,by omega,by simp⟩),fun i hi=>?_⟩
   have hi':i < len:=by simp at hi; omega
   have:=hcell i (by omega)
   rw [add_plain] at this
   rw [this]
   simp [hi']
end
end Go.Proofs.YthcblagpbkaoaaaGreatDoor
namespace Go.Proofs.YthcblagpbkaoaaaGreatDoor
open Go.RowKit Go.Maps
set_option maxRecDepth 100000
set_option maxHeartbeats 25600000
theorem count_any {c n:Nat} {F:Nat->Prop} {f:Plc->Int} {q:Cnt} {w:World} (hC:IsC w c F f q n) :
  Calls Tryz.prog 51 #[.pointer (some ⟨c,0,none⟩)] w fun e w'=>e=.returned (.agg #[.int .i64 q.l,.int .i64 q.s,.int .i64 q.w,.int .i64 q.f,.int .i64 q.a])/\Below w.heap.size w w':=by
 obtain ⟨mp,hb,hm,hF⟩:=hC
 have r1:=cell_more hb.1 hb.rule
 unfold cv at r1
 go_enter Tryz.func51,Tryz.ntmps51
 go_wp2
 refine bodyPost_ret (v:=.agg #[.int .i64 q.l,.int .i64 q.s,.int .i64 q.w,.int .i64 q.f,.int .i64 q.a]) (by simp [results,Tryz.results51,go_sem]) rfl ⟨rfl,?_⟩
 exact (Below.refl _ _).alloc (Nat.le_refl _) _
section
variable {w0 w:World} {L:List Item} {p c n:Nat} {F:Nat->Prop} {f:Plc->Int} {q:Cnt}
theorem count_w (i j:Nat) (hE:Env w0 L w) (hi:L[i]?=some (wbox p c)) (hj:L[j]?=some (cellI c F f q n)) :
  Calls Tryz.prog 14 #[.pointer (some ⟨p,0,none⟩)] w fun e w'=>e=.returned (.agg #[.int .i64 q.l,.int .i64 q.s,.int .i64 q.w,.int .i64 q.f,.int .i64 q.a])/\Below w.heap.size w w':=by
 have hb:=(Below.refl w.heap.size w).alloc (Nat.le_refl _) (.cells #[.int .i64 0,.int .i64 0,.int .i64 0,.int .i64 0,.int .i64 0] 34)
 replace hE:=hE.box w.heap.size rfl [.int .i64 0,.int .i64 0,.int .i64 0,.int .i64 0,.int .i64 0] 34
 go_enter Tryz.func14,Tryz.ntmps14
 go_wp2_with fail
 refine (kept_any (hE.wblk (i+1) hi)).mono ?_
 rintro e w1 ⟨rfl,rfl⟩
 go_wp2_with fail
 refine (count_any (hE.cell (j+1) hj)).mono ?_
 rintro e w2 ⟨rfl,hb2⟩
 have hE2:=hE.over hb2
 have f5:=hE2.thaw 0 rfl
 have f0:=f5 0 (by simp)
 have f1:=f5 1 (by simp)
 have f2:=f5 2 (by simp)
 have f3:=f5 3 (by simp)
 have f4:=f5 4 (by simp)
 have r:=hE2.rule 0 rfl
 have hB:=hb.trans (hb2.mono hb.size)
 clear f5
 go_wp2
 have hP:=hE2.put5 0 rfl (.int .i64 q.l) (.int .i64 q.s) (.int .i64 q.w) (.int .i64 q.f) (.int .i64 q.a)
 have q9:=hP.rule 0 rfl
 refine bodyPost_ret (v:=.agg #[.int .i64 q.l,.int .i64 q.s,.int .i64 q.w,.int .i64 q.f,.int .i64 q.a]) (by simp [results,Tryz.results14,go_sem,q9]) rfl ⟨rfl,?_⟩
 exact ((((hB.setCell (Nat.le_refl _) _).setCell (Nat.le_refl _) _).setCell (Nat.le_refl _) _).setCell (Nat.le_refl _) _).setCell (Nat.le_refl _) _
end
end Go.Proofs.YthcblagpbkaoaaaGreatDoor
