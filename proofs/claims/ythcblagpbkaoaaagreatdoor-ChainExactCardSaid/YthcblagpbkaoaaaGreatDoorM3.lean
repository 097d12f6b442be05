/- What is proved on the way to the statement, part 3: contracts of the functions, among other things in memory. -/
import Derived.Test.YthcblagpbkaoaaaGreatDoorM2
import Derived.Test.YthcblagpbkaoaaaGreatDoorRows
import Derived.WalkSpells
import Derived.Lib.Hide
import Derived.Deep.RegionHeld3
import Derived.Test.YthcblagpbkaoaaaGreatDoorChecked
import Derived.Deep.Light
import Derived.WalkKit
import Derived.Orders

namespace Go.Proofs.YthcblagpbkaoaaaGreatDoor
open Go.RowKit
set_option maxRecDepth 100000
set_option maxHeartbeats 25600000
def slotI (x:Int):Int:=x / 1099511627776 % 8388608
def verI (x:Int):Int:=x % 1099511627776
def markB (x:Int):Bool:=decide (9223372036854775808<=x)
def isS (s:Int):Bool:=decide (0<=s/\s<=8388607)
def isL (s v:Int):Bool:=decide (0<=s/\s<=8388607/\0<=v/\v<=1099511627775)
def bitI (m:Bool):Int:=if m then 9223372036854775808 else 0
def wordI (m:Bool) (s v:Int):Int:=if isL s v then v+s * 1099511627776+bitI m else 0
theorem isL_parts {s v:Int} (h:isL s v=true):0<=s/\s<=8388607/\0<=v/\v<=1099511627775:=by simpa [isL] using h
theorem isL_mk {s v:Int} (h1:0<=s) (h2:s<=8388607) (h3:0<=v) (h4:v<=1099511627775):isL s v=true:=by simp [isL,h1,h2,h3,h4]
theorem isS_parts {s:Int} (h:isS s=true):0<=s/\s<=8388607:=by simpa [isS] using h
theorem slotI_in (x:Int):0<=slotI x/\slotI x<=8388607:=by unfold slotI; omega
theorem verI_in (x:Int):0<=verI x/\verI x<=1099511627775:=by unfold verI; omega
theorem wordI_in (m:Bool) (s v:Int):0<=wordI m s v/\wordI m s v<=18446744073709551615:=by
 unfold wordI
 split
 ·have:=isL_parts ‹_›
  cases m<;>simp [bitI]<;>omega
 ·omega
theorem wordI_yes {m:Bool} {s v:Int} (h:isL s v=true):wordI m s v=v+s * 1099511627776+bitI m:=by simp [wordI,h]
theorem wordI_no {m:Bool} {s v:Int} (h:isL s v=false):wordI m s v=0:=by simp [wordI,h]
theorem slot_word {m:Bool} {s v:Int} (h:isL s v=true):slotI (wordI m s v)=s:=by
 have:=isL_parts h
 rw [wordI_yes h]
 cases m<;>simp only [bitI,slotI,if_true,if_false,Bool.false_eq_true]<;>omega
theorem mark_word {m:Bool} {s v:Int} (h:isL s v=true):markB (wordI m s v)=m:=by
 have:=isL_parts h
 rw [wordI_yes h]
 cases m<;>simp only [bitI,markB,if_true,if_false,Bool.false_eq_true,decide_eq_true_eq,decide_eq_false_iff_not]<;>omega
theorem get_version (x:Int) (h0:0<=x):getI 0 40 x=verI x:=by
 obtain ⟨X,rfl⟩:=Int.eq_ofNat_of_zero_le h0
 simp only [getI,show isB 0 40=true from rfl,if_true,getN,verI,Int.toNat_natCast]
 simp
theorem get_slot (x:Int) (h0:0<=x):getI 40 23 x=slotI x:=by
 obtain ⟨X,rfl⟩:=Int.eq_ofNat_of_zero_le h0
 simp only [getI,show isB 40 23=true from rfl,if_true,getN,slotI,Int.toNat_natCast]
 simp
theorem get_mark (x:Int) (h0:0<=x):getI 63 1 x=x / 9223372036854775808 % 2:=by
 obtain ⟨X,rfl⟩:=Int.eq_ofNat_of_zero_le h0
 simp only [getI,show isB 63 1=true from rfl,if_true,getN,Int.toNat_natCast]
 simp
theorem mark_one (x:Int) (h0:0<=x) (h1:x<=18446744073709551615):decide (getI 63 1 x=1)=markB x:=by
 rw [get_mark x h0]
 unfold markB
 by_cases h:9223372036854775808<=x
 ·simp only [h,decide_true,decide_eq_true_eq]; omega
 ·simp only [h,decide_false,decide_eq_false_iff_not]; omega
theorem putN_above {A B W X:Nat} (hAB:A+B<=64) (hW:W < 2 ^ A):putN A B W X=W+X * 2 ^ A:=by
 have e1:W &&& (18446744073709551615 - maskN A B)=W:=by
  apply Nat.eq_of_testBit_eq
  intro i
  rw [Nat.testBit_and,ones_sub_testBit (maskN_lt hAB),maskN_testBit]
  by_cases hi:i < A
  ·have h1:¬ A<=i:=by omega
   have h2:i < 64:=by omega
   simp [h1,h2]
  ·have:=Nat.testBit_lt_two_pow (Nat.lt_of_lt_of_le hW (Nat.pow_le_pow_right (n:=2) (by omega) (show A<=i by omega)))
   simp [this]
 unfold putN
 rw [e1,Nat.or_comm,Nat.mul_comm,<- Nat.two_pow_add_eq_or_of_lt hW]
 omega
theorem put_version (v:Int) (h0:0<=v):putI 0 40 0 v=v:=by
 obtain ⟨V,rfl⟩:=Int.eq_ofNat_of_zero_le h0
 have:=putN_above (A:=0) (B:=40) (W:=0) (X:=V) (by omega) (by simp)
 simp only [putI,Int.toNat_natCast,Int.toNat_zero,show (40:Int).toNat=40 from rfl]
 rw [this]
 simp
theorem put_slot (v s:Int) (h0:0<=v) (h1:v<=1099511627775) (h2:0<=s):putI 40 23 v s=v+s * 1099511627776:=by
 obtain ⟨V,rfl⟩:=Int.eq_ofNat_of_zero_le h0
 obtain ⟨S,rfl⟩:=Int.eq_ofNat_of_zero_le h2
 have:=putN_above (A:=40) (B:=23) (W:=V) (X:=S) (by omega) (by simp; omega)
 simp only [putI,Int.toNat_natCast,show (40:Int).toNat=40 from rfl,show (23:Int).toNat=23 from rfl]
 rw [this]
 simp
theorem put_mark (x:Int) (h0:0<=x) (h1:x < 9223372036854775808):putI 63 1 x 1=x+9223372036854775808:=by
 obtain ⟨X,rfl⟩:=Int.eq_ofNat_of_zero_le h0
 have:=putN_above (A:=63) (B:=1) (W:=X) (X:=1) (by omega) (by simp; omega)
 simp only [putI,Int.toNat_natCast,show (63:Int).toNat=63 from rfl,show (1:Int).toNat=1 from rfl]
 rw [this]
 simp
theorem max_parts:maxI 0 40=1099511627775/\maxI 40 23=8388607/\maxI 63 1=1/\isB 0 40=true/\isB 40 23=true/\isB 63 1=true:=by decide +kernel
def nextE (x s:Int):Int:=if isS s then (if verI x=1099511627775 then 7 else 0) else 3
def nextW (x s:Int):Int:=if isS s then (if verI x=1099511627775 then 0 else wordI false s (verI x+1)) else 0
def markedW (x s v:Int):Int:=if markB x then x else wordI true s v
end Go.Proofs.YthcblagpbkaoaaaGreatDoor
namespace Go.Proofs.YthcblagpbkaoaaaGreatDoor
open Go.RowKit Go.Maps
set_option maxRecDepth 100000
set_option maxHeartbeats 25600000
structure Lm where
 p:Plc
 pc:Nat
 W:Int
 X:Int
 K:Int
 V:Int
 C:Int
 fd:Bool
def L0 (p:Plc):Lm:=⟨p,0,0,0,0,0,0,false⟩
def comeM (L:Lm) (w:Int):Int × Lm:=(if slotI w=0 then 1 else 0,{ L with W:=w,X:=0,C:=slotI w,pc:=3 })
def holdsM (lv key:Int) (vs:Bool) (L:Lm):Int × Lm :=
 if L.pc=2 then (if markB L.W then (2,L) else comeM L L.W)
 else if L.pc=4 then (0,{ L with pc:=if markB L.X then 5 else 6 })
 else if L.pc=7 then
  if L.K < key then comeM { L with p:=(5,L.C,7+lv) } L.X
  else if L.K=key then (if vs then (0,{ L with fd:=true,pc:=8 }) else (1,{ L with fd:=true }))
  else (1,L)
 else (1,L)
def laneM (lv key:Int) (vs:Bool) (e:Int) (L:Lm) (f:Plc->Int):Int × Lm × (Plc->Int) :=
 if L.pc=0 then (0,{ L with W:=f L.p,pc:=2 },f)
 else if L.pc=3 then (0,{ L with X:=f (5,L.C,7+lv),pc:=4 },f)
 else if L.pc=5 then
  if f L.p=L.W then ((comeM L (wordI false (slotI L.X) e)).1,(comeM L (wordI false (slotI L.X) e)).2,swf f L.p L.W (wordI false (slotI L.X) e))
  else (2,L,swf f L.p L.W (wordI false (slotI L.X) e))
 else if L.pc=6 then (0,{ L with K:=f (5,L.C,3),pc:=7 },f)
 else if L.pc=8 then (0,{ L with V:=f (5,L.C,4),pc:=9 },f)
 else if okB (f (1,0,0)) e then ((holdsM lv key vs L).1,(holdsM lv key vs L).2,f)
 else (2,L,f)
def isVal (pc:Nat):Bool:=pc==2 || pc==4 || pc==7 || pc==9
def rollM (e:Int) (L:Lm) (f:Plc->Int) (r:Int):Int:=if isVal L.pc && !okB (f (1,0,0)) e then wrap64 (r+1) else r
structure LmOk (L:Lm):Prop where
 pc:L.pc=0\/L.pc=2\/L.pc=3\/L.pc=4\/L.pc=5\/L.pc=6\/L.pc=7\/L.pc=8\/L.pc=9
 v:L.pc<=8->L.V=0
 fd:L.pc<=7->L.fd=false
 ft:8<=L.pc->L.fd=true
 x:L.pc<=3->L.X=0
 c0:L.pc<=2->L.C=0
 W:InU L.W
 X:InU L.X
 C:0<=L.C/\L.C<=8388607
theorem LmOk.start (p:Plc):LmOk (L0 p):=⟨.inl rfl,fun _=>rfl,fun _=>rfl,fun h=>absurd h (by simp [L0]),fun _=>rfl,fun _=>rfl,by simp [L0,InU],by simp [L0,InU],by simp [L0]⟩
structure Sm where
 on:Bool
 L:Lm
 e:Int
 r:Int
def searchM (k key:Int) (vs:Bool) (S:Sm) (f:Plc->Int):Int × Sm × (Plc->Int) :=
 if S.on then (if (laneM 0 key vs S.e S.L f).1=1 then 1 else 0,{ on:=decide ((laneM 0 key vs S.e S.L f).1≠2),L:=(laneM 0 key vs S.e S.L f).2.1,e:=S.e,r:=rollM S.e S.L f S.r },(laneM 0 key vs S.e S.L f).2.2)
 else (0,{ on:=true,L:=L0 (4,0,k),e:=epI (f (1,0,0)),r:=S.r },f)
end Go.Proofs.YthcblagpbkaoaaaGreatDoor
namespace Go.Proofs.YthcblagpbkaoaaaGreatDoor
open Go.RowKit
set_option maxRecDepth 100000
set_option maxHeartbeats 25600000
theorem is_any (a b:Int) (w:World) (ha:a<=9223372036854775807) (_hb:-9223372036854775808<=b) :
  Calls Tryz.prog 206 #[.agg #[.int .i64 a,.int .i64 b]] w fun e w'=>e=.returned (.bool (isB a b))/\Below w.heap.size w w':=by
 by_cases h1:0<=a
 ·by_cases h2:1<=b
  ·go_enter Tryz.func206,Tryz.ntmps206
   go_wp2
   go_ret
   exact ⟨ret_bool (by simp [isB,h1,h2]),(Below.refl _ _).alloc (Nat.le_refl _) _⟩
  ·go_enter Tryz.func206,Tryz.ntmps206
   go_wp2
   go_ret
   exact ⟨ret_bool (by simp [isB]; omega),(Below.refl _ _).alloc (Nat.le_refl _) _⟩
 ·go_enter Tryz.func206,Tryz.ntmps206
  go_wp2
  go_ret
  exact ⟨ret_bool (by simp [isB]; omega),(Below.refl _ _).alloc (Nat.le_refl _) _⟩
theorem ret_int_bool {k:IntKind} {x y:Int} {c:Bool} (h:x=y):Ending.returned (.tuple #[.int k x,.bool c])=.returned (.tuple #[.int k y,.bool c]):=by rw [h]
theorem old_cell {B:Nat} {v v':World} (h:Below B v v') (n k:Nat) (hn:n < B):v'.cell? ⟨n,k,none⟩=v.cell? ⟨n,k,none⟩:=Below.cell h (p:=⟨n,k,none⟩) hn
theorem old_frozen {B:Nat} {v v':World} (h:Below B v v') (n k:Nat) (hn:n < B):v'.frozen? ⟨n,k,none⟩=v.frozen? ⟨n,k,none⟩:=Below.frozen h (p:=⟨n,k,none⟩) hn
theorem hold_step {n:Nat} {w w1 w2:World} {x y:Value} (c0:w1.cell? ⟨n,0,none⟩=some x) (c1:w1.cell? ⟨n,1,none⟩=some y) (hB:Below n w w1) (hs:n < w1.heap.size) (hb:Below w1.heap.size w1 w2) :
  w2.cell? ⟨n,0,none⟩=some x/\w2.cell? ⟨n,1,none⟩=some y/\Below n w w2/\n < w2.heap.size :=
 ⟨by rw [hb.cell (p:=⟨n,0,none⟩) hs]; exact c0,by rw [hb.cell (p:=⟨n,1,none⟩) hs]; exact c1,hB.trans (hb.mono (by omega)),by have:=hb.size; omega⟩
theorem max_any (a b:Int) (w:World) (ha:a<=9223372036854775807) (hb:-9223372036854775808<=b) :
  Calls Tryz.prog 180 #[.agg #[.int .i64 a,.int .i64 b]] w fun e w'=>e=.returned (.int .u64 (maxI a b))/\Below w.heap.size w w':=by
 cases h:isB a b
 ·have H:=Lib.hid h
  clear h
  go_enter Tryz.func180,Tryz.ntmps180
  go_wp2_with fail
  refine (is_any a b _ ha hb).mono ?_
  rintro e w1 ⟨rfl,hb⟩
  rw [H.out]
  go_wp2
  go_ret
  exact ⟨ret_int (maxI_no H.out).symm,((Below.refl _ _).alloc (Nat.le_refl _) _).trans (hb.mono (by simp))⟩
 ·have hp:=isB_parts h
  have H:=Lib.hid h
  clear h
  go_enter Tryz.func180,Tryz.ntmps180
  go_wp2_with fail
  refine (is_any a b _ ha hb).mono ?_
  rintro e w1 ⟨rfl,hb⟩
  rw [H.out]
  have hc:=old_cell hb
  have hf:=old_frozen hb
  go_wp2
  go_ret
  refine ⟨ret_int ?_,((Below.refl _ _).alloc (Nat.le_refl _) _).trans (hb.mono (by simp))⟩
  rw [maxI_yes H.out,show (64 - b).toNat=64 - b.toNat by omega]
  exact ones_shift _ (by omega)
theorem get_any (a b x:Int) (w:World) (ha:a<=9223372036854775807) (hb:-9223372036854775808<=b) (h0:0<=x) (h1:x<=18446744073709551615) :
  Calls Tryz.prog 140 #[.agg #[.int .i64 a,.int .i64 b],.int .u64 x] w fun e w'=>e=.returned (.int .u64 (getI a b x))/\Below w.heap.size w w':=by
 go_enter Tryz.func140,Tryz.ntmps140
 go_wp2_with fail
 go_region_held3 (fun w'=>w'.cell? ⟨w.heap.size,0,none⟩=some (.int .i64 a)/\w'.cell? ⟨w.heap.size,1,none⟩=some (.int .i64 b)/\Below w.heap.size w w'/\w.heap.size < w'.heap.size)
  (first | (go_split_ands; exact hold_step (by assumption) (by assumption) (by assumption) (by assumption) (by assumption)) | (refine ⟨?_,?_,?_,?_⟩<;>first | exact ((Below.refl _ _).alloc (Nat.le_refl _) _).drew | go_keep | simp))
  (first | (go_at_call 180; refine (max_any a b _ ha hb).mono ?_; rintro e w1 ⟨rfl,hb1⟩))
 all_goals
  go_wp2
  go_ret
  go_split_ands
  exact ⟨ret_int (get_eq a b x h0 h1),by assumption⟩
theorem mask_any (a b:Int) (w:World) (ha:a<=9223372036854775807) (hb:-9223372036854775808<=b) :
  Calls Tryz.prog 250 #[.agg #[.int .i64 a,.int .i64 b]] w fun e w'=>e=.returned (.int .u64 (maskI a b))/\Below w.heap.size w w':=by
 go_enter Tryz.func250,Tryz.ntmps250
 go_wp2_with fail
 go_region_held3 (fun w'=>w'.cell? ⟨w.heap.size,0,none⟩=some (.int .i64 a)/\w'.cell? ⟨w.heap.size,1,none⟩=some (.int .i64 b)/\Below w.heap.size w w'/\w.heap.size < w'.heap.size)
  (first | (go_split_ands; exact hold_step (by assumption) (by assumption) (by assumption) (by assumption) (by assumption)) | (refine ⟨?_,?_,?_,?_⟩<;>first | exact ((Below.refl _ _).alloc (Nat.le_refl _) _).drew | go_keep | simp))
  (first | (go_at_call 180; refine (max_any a b _ ha hb).mono ?_; rintro e w1 ⟨rfl,hb1⟩))
 all_goals
  go_wp2
  go_ret
  go_split_ands
  exact ⟨ret_int (mask_eq a b),by assumption⟩
theorem put_yes (a b x y:Int) (w:World) (ha:a<=9223372036854775807) (hb:-9223372036854775808<=b) (h:isB a b=true) (hx0:0<=x) (hx1:x<=18446744073709551615) (hy0:0<=y) (hy:y<=maxI a b) :
  Calls Tryz.prog 230 #[.agg #[.int .i64 a,.int .i64 b],.int .u64 x,.int .u64 y] w fun e w'=>e=.returned (.tuple #[.int .u64 (putI a b x y),.bool true])/\Below w.heap.size w w':=by
 have hp:=isB_parts h
 have H:=Lib.hid h
 clear h
 go_enter Tryz.func230,Tryz.ntmps230
 go_wp2_with fail
 refine (is_any a b _ ha hb).mono ?_
 rintro e w1 ⟨rfl,hb1⟩
 rw [H.out]
 have hc:=old_cell hb1
 have hf:=old_frozen hb1
 go_wp2_with fail
 refine (max_any a b _ ha hb).mono ?_
 rintro e w2 ⟨rfl,hb2⟩
 have hs1:=hb1.size
 have hs2:=hb2.size
 simp at hs1
 have c0:w2.cell? ⟨w.heap.size,0,none⟩=some (.int .i64 a):=by rw [hb2.cell (p:=⟨w.heap.size,0,none⟩) (by simp; omega),hc _ _ (by simp)]; simp
 have c1:w2.cell? ⟨w.heap.size,1,none⟩=some (.int .i64 b):=by rw [hb2.cell (p:=⟨w.heap.size,1,none⟩) (by simp; omega),hc _ _ (by simp)]; simp
 have hB:Below w.heap.size w w2:=(((Below.refl _ _).alloc (Nat.le_refl _) _).trans (hb1.mono (by simp))).trans (hb2.mono (by omega))
 have hlt:w.heap.size < w2.heap.size:=by omega
 clear hc hf hb1 hb2 hs1 hs2
 go_wp2_with fail
 go_region_held3 (fun w'=>w'.cell? ⟨w.heap.size,0,none⟩=some (.int .i64 a)/\w'.cell? ⟨w.heap.size,1,none⟩=some (.int .i64 b)/\Below w.heap.size w w'/\w.heap.size < w'.heap.size)
  (first | (go_split_ands; exact hold_step (by assumption) (by assumption) (by assumption) (by assumption) (by assumption)) | exact ⟨c0,c1,hB.drew,hlt⟩)
  (first | (go_at_call 250; refine (mask_any a b _ ha hb).mono ?_; rintro e w1 ⟨rfl,hb1⟩))
 all_goals
  go_wp2
  go_ret2
  go_split_ands
  exact ⟨ret_int_bool (put_eq a b x y H.out hx0 hx1 hy0 hy),by assumption⟩
def Glo (w:World):Prop :=
 (w.cell? ⟨2,0,none⟩=some (.int .i64 0)/\w.cell? ⟨2,1,none⟩=some (.int .i64 40)) /\
 (w.cell? ⟨0,0,none⟩=some (.int .i64 40)/\w.cell? ⟨0,1,none⟩=some (.int .i64 23)) /\
 (w.cell? ⟨1,0,none⟩=some (.int .i64 63)/\w.cell? ⟨1,1,none⟩=some (.int .i64 1)) /\
 2 < w.heap.size/\0 < w.heap.size/\1 < w.heap.size
theorem Glo.keep {n:Nat} {w w':World} (h:Glo w) (hb:Below n w w') (hn:w.heap.size<=n):Glo w':=by
 obtain ⟨⟨a0,a1⟩,⟨b0,b1⟩,⟨c0,c1⟩,h1,h2,h3⟩:=h
 have:=hb.size
 refine ⟨⟨?_,?_⟩,⟨?_,?_⟩,⟨?_,?_⟩,by omega,by omega,by omega⟩
 ·rw [hb.cell (p:=⟨_,0,none⟩) (by simp; omega)]; exact a0
 ·rw [hb.cell (p:=⟨_,1,none⟩) (by simp; omega)]; exact a1
 ·rw [hb.cell (p:=⟨_,0,none⟩) (by simp; omega)]; exact b0
 ·rw [hb.cell (p:=⟨_,1,none⟩) (by simp; omega)]; exact b1
 ·rw [hb.cell (p:=⟨_,0,none⟩) (by simp; omega)]; exact c0
 ·rw [hb.cell (p:=⟨_,1,none⟩) (by simp; omega)]; exact c1
theorem Glo.keep' {w1 w2:World} (h:Glo w1) (hb:Below w1.heap.size w1 w2):Glo w2:=h.keep hb (Nat.le_refl _)
theorem Glo.alloc {w:World} (h:Glo w) (o:Obj):Glo (w.alloc o):=h.keep ((Below.refl _ _).alloc (Nat.le_refl _) _) (Nat.le_refl _)
theorem isSlot_any (s:Int) (w:World):Calls Tryz.prog 249 #[.int .i64 s] w fun e w'=>e=.returned (.bool (isS s))/\w=w':=by
 by_cases h1:0<=s
 ·go_enter Tryz.func249,Tryz.ntmps249
  go_wp2
  go_ret
  exact ⟨ret_bool (by simp [isS,h1]),rfl⟩
 ·have hd:decide (0<=s)=false:=by simpa using h1
  go_enter Tryz.func249,Tryz.ntmps249
  go_wp2
  go_ret
  exact ⟨ret_bool (by simp [isS]; omega),rfl⟩
theorem slot_any (x:Int) (w:World) (hg:Glo w) (h0:0<=x) (h1:x<=18446744073709551615) :
  Calls Tryz.prog 80 #[.int .u64 x] w fun e w'=>e=.returned (.int .i64 (slotI x))/\Below w.heap.size w w':=by
 obtain ⟨-,⟨c0,c1⟩,-,-,hs,-⟩:=hg
 obtain ⟨k0,k1⟩:=slotI_in x
 have HG:=Lib.hid (get_slot x h0)
 go_enter Tryz.func80,Tryz.ntmps80
 go_wp2_with fail
 refine (get_any 40 23 x _ (by decide) (by decide) h0 h1).mono ?_
 rintro e w1 ⟨rfl,hb⟩
 rw [HG.out]
 go_wp2
 go_ret
 exact ⟨rfl,hb⟩
theorem hold3 {n:Nat} {w w1 w2:World} {x y z:Value} (c0:w1.cell? ⟨n,0,none⟩=some x) (c1:w1.cell? ⟨n,1,none⟩=some y) (c2:w1.cell? ⟨n,2,none⟩=some z) (hB:Below n w w1) (hs:n < w1.heap.size) (hb:Below w1.heap.size w1 w2) :
  w2.cell? ⟨n,0,none⟩=some x/\w2.cell? ⟨n,1,none⟩=some y/\w2.cell? ⟨n,2,none⟩=some z/\Below n w w2/\n < w2.heap.size :=
 ⟨by rw [hb.cell (p:=⟨n,0,none⟩) hs]; exact c0,by rw [hb.cell (p:=⟨n,1,none⟩) hs]; exact c1,by rw [hb.cell (p:=⟨n,2,none⟩) hs]; exact c2,hB.trans (hb.mono (by omega)),by have:=hb.size; omega⟩
theorem linkIs_any (m:Bool) (s v:Int) (w:World) :
  Calls Tryz.prog 229 #[.agg #[.bool m,.int .i64 s,.int .i64 v]] w fun e w'=>e=.returned (.bool (isL s v))/\Below w.heap.size w w':=by
 cases hS:isS s
 ·have H:=Lib.hid hS
  go_enter Tryz.func229,Tryz.ntmps229
  go_wp2_with fail
  refine (isSlot_any s _).mono ?_
  rintro e w1 ⟨rfl,rfl⟩
  rw [H.out]
  go_wp2
  go_ret
  exact ⟨ret_bool (by have:=H.out; simp [isS] at this; simp [isL]; omega),(Below.refl _ _).alloc (Nat.le_refl _) _⟩
 ·obtain ⟨k0,k1⟩:=isS_parts hS
  have H:=Lib.hid hS
  clear hS
  by_cases h2:0<=v
  ·go_enter Tryz.func229,Tryz.ntmps229
   go_wp2_with fail
   refine (isSlot_any s _).mono ?_
   rintro e w1 ⟨rfl,rfl⟩
   rw [H.out]
   go_wp2
   go_ret
   exact ⟨ret_bool (by simp [isL,h2,k0,k1]),(Below.refl _ _).alloc (Nat.le_refl _) _⟩
  ·have hd:decide (0<=v)=false:=by simpa using h2
   go_enter Tryz.func229,Tryz.ntmps229
   go_wp2_with fail
   refine (isSlot_any s _).mono ?_
   rintro e w1 ⟨rfl,rfl⟩
   rw [H.out]
   go_wp2
   go_ret
   exact ⟨ret_bool (by simp [isL]; omega),(Below.refl _ _).alloc (Nat.le_refl _) _⟩
theorem put1 (v:Int) (w:World) (h0:0<=v) (h1:v<=1099511627775) :
  Calls Tryz.prog 230 #[.agg #[.int .i64 0,.int .i64 40],.int .u64 0,.int .u64 v] w fun e w'=>e=.returned (.tuple #[.int .u64 v,.bool true])/\Below w.heap.size w w':=by
 have:=put_yes 0 40 0 v w (by decide) (by decide) max_parts.2.2.2.1 (by decide) (by decide) h0 (by rw [max_parts.1]; exact h1)
 rw [put_version v h0] at this
 exact this
theorem put2 (v s:Int) (w:World) (h0:0<=v) (h1:v<=1099511627775) (h2:0<=s) (h3:s<=8388607) :
  Calls Tryz.prog 230 #[.agg #[.int .i64 40,.int .i64 23],.int .u64 v,.int .u64 s] w fun e w'=>e=.returned (.tuple #[.int .u64 (v+s * 1099511627776),.bool true])/\Below w.heap.size w w':=by
 have:=put_yes 40 23 v s w (by decide) (by decide) max_parts.2.2.2.2.1 h0 (by omega) h2 (by rw [max_parts.2.1]; exact h3)
 rw [put_slot v s h0 h1 h2] at this
 exact this
theorem put3 (x:Int) (w:World) (h0:0<=x) (h1:x < 9223372036854775808) :
  Calls Tryz.prog 230 #[.agg #[.int .i64 63,.int .i64 1],.int .u64 x,.int .u64 1] w fun e w'=>e=.returned (.tuple #[.int .u64 (x+9223372036854775808),.bool true])/\Below w.heap.size w w':=by
 have:=put_yes 63 1 x 1 w (by decide) (by decide) max_parts.2.2.2.2.2 h0 (by omega) (by decide) (by rw [max_parts.2.2.1]; decide)
 rw [put_mark x h0 h1] at this
 exact this
theorem word_any (m:Bool) (s v:Int) (w:World) (hg:Glo w) :
  Calls Tryz.prog 201 #[.agg #[.bool m,.int .i64 s,.int .i64 v]] w fun e w'=>e=.returned (.int .u64 (wordI m s v))/\Below w.heap.size w w':=by
 cases h:isL s v
 ·have H:=Lib.hid h
  clear h
  go_enter Tryz.func201,Tryz.ntmps201
  go_wp2_with fail
  refine (linkIs_any m s v _).mono ?_
  rintro e w1 ⟨rfl,hb⟩
  rw [H.out]
  go_wp2
  go_ret
  exact ⟨ret_int (wordI_no H.out).symm,((Below.refl _ _).alloc (Nat.le_refl _) _).trans (hb.mono (by simp))⟩
 ·have hp:=isL_parts h
  have H:=Lib.hid h
  clear h
  obtain ⟨k0,k1,k2,k3⟩:=hp
  have hA:=hg.alloc (.cells #[.bool m,.int .i64 s,.int .i64 v] 280)
  clear hg
  go_enter Tryz.func201,Tryz.ntmps201
  go_wp2_with fail
  refine (linkIs_any m s v _).mono ?_
  rintro e w1 ⟨rfl,hb⟩
  have hA1:=hA.keep' hb
  obtain ⟨d0,d1,d2,hB,hs⟩:=hold3 (n:=w.heap.size) (w:=w) (x:=.bool m) (y:=.int .i64 s) (z:=.int .i64 v) (by simp) (by simp) (by simp) ((Below.refl _ _).alloc (Nat.le_refl _) _) (by simp) hb
  clear hb hA
  rw [H.out]
  obtain ⟨⟨a0,a1⟩,⟨b0,b1⟩,⟨c0,c1⟩,g1,g2,g3⟩:=id hA1
  go_wp2_with fail
  refine (put1 v _ k2 k3).mono ?_
  rintro e w2 ⟨rfl,hb⟩
  have hA2:=hA1.keep' hb
  obtain ⟨e0,e1,e2,hB2,hs2⟩:=hold3 d0 d1 d2 hB hs hb
  clear hb hA1 d0 d1 d2 hB hs a0 a1 b0 b1 c0 c1 g1 g2 g3
  obtain ⟨⟨a0,a1⟩,⟨b0,b1⟩,⟨c0,c1⟩,g1,g2,g3⟩:=id hA2
  go_wp2_with fail
  refine (put2 v s _ k2 k3 k0 k1).mono ?_
  rintro e w3 ⟨rfl,hb⟩
  have hA3:=hA2.keep' hb
  obtain ⟨d0,d1,d2,hB,hs⟩:=hold3 e0 e1 e2 hB2 hs2 hb
  clear hb hA2 e0 e1 e2 hB2 hs2 a0 a1 b0 b1 c0 c1 g1 g2 g3
  obtain ⟨⟨a0,a1⟩,⟨b0,b1⟩,⟨c0,c1⟩,g1,g2,g3⟩:=id hA3
  have q0:0<=v+s * 1099511627776:=by omega
  have q1:v+s * 1099511627776 < 9223372036854775808:=by omega
  cases m
  ·have HW:=Lib.hid (wordI_yes (m:=false) H.out)
   clear hA3
   go_wp2_with fail
   go_ret
   exact ⟨ret_int (by rw [HW.out]; simp [bitI]),hB⟩
  ·have HW:=Lib.hid (wordI_yes (m:=true) H.out)
   clear hA3
   go_wp2_with fail
   refine (put3 _ _ q0 q1).mono ?_
   rintro e w4 ⟨rfl,hb⟩
   go_wp2_with fail
   go_ret
   exact ⟨ret_int (by rw [HW.out]; simp [bitI]),hB.trans (hb.mono (by omega))⟩
theorem to_any (s v:Int) (w:World) (hg:Glo w) :
  Calls Tryz.prog 174 #[.int .i64 s,.int .i64 v] w fun e w'=>e=.returned (.int .u64 (wordI false s v))/\Below w.heap.size w w':=by
 go_enter Tryz.func174,Tryz.ntmps174
 go_wp2_with fail
 refine (word_any false s v _ hg).mono ?_
 rintro e w1 ⟨rfl,hb⟩
 go_wp2_with fail
 go_ret
 exact ⟨rfl,hb⟩
end Go.Proofs.YthcblagpbkaoaaaGreatDoor
namespace Go.Proofs.YthcblagpbkaoaaaGreatDoor
open Go.RowKit Go.Maps
set_option maxRecDepth 100000
set_option maxHeartbeats 25600000
section
variable {w:World} {c q:Nat} {k s b h l e r hs hi:Int}
theorem to_c (a d:Int) (hg:Glo w) (hb:Blk 0 w c (crv k s b h l e r hs hi q)) :
  Calls Tryz.prog 131 #[.pointer (some ⟨c,0,none⟩),.agg #[.int .i64 a,.int .i64 d]] w fun o w'=>o=.returned (.agg #[.int .u64 (wordI false a e),.int .i64 d,.bool false])/\Below w.heap.size w w':=by
 have hcl:=hb.1
 have HGB:=Lib.hid fun (v:World) (hv:Below w.heap.size w v)=>to_any a e v (hg.keep' hv)
 clear hg
 have hb1:=(hb.more (.cells [.int .i64 a,.int .i64 d].toArray 61)).more (.cells [.int .u64 0,.int .i64 0,.bool false].toArray 150)
 have hX:=(Blk.new 0 w [.int .i64 a,.int .i64 d] 61).more (.cells [.int .u64 0,.int .i64 0,.bool false].toArray 150)
 have hB:=(Blk.new 0 (w.alloc (.cells [.int .i64 a,.int .i64 d].toArray 61)) [.int .u64 0,.int .i64 0,.bool false] 150).at (n':=w.heap.size+1) (by simp)
 have hE:=((Below.refl w.heap.size w).alloc (Nat.le_refl _) (.cells [.int .i64 a,.int .i64 d].toArray 61)).alloc (by simp) (.cells [.int .u64 0,.int .i64 0,.bool false].toArray 150)
 unfold crv at hb1
 clear hb
 go_enter Tryz.func131,Tryz.ntmps131
 go_wp2_with fail
 refine Ord.wp_chain [10] (fun w'=>Below w.heap.size w w'/\Blk 0 w' c [.int .i64 k,.int .i64 s,.int .i64 b,.int .i64 h,.int .i64 l,.int .i64 e,.int .i64 r,.int .i64 hs,.int .i64 hi,.pointer (some ⟨q,0,none⟩)]/\Blk 0 w' w.heap.size [.int .i64 a,.int .i64 d]) (fun j w'=>Blk 0 w' (w.heap.size+1) (if j=0 then [.int .u64 0,.int .i64 0,.bool false] else [.int .u64 (wordI false a e),.int .i64 d,.bool false])) (by kernel_rfl) (by kernel_rfl) (by kernel_rfl) ⟨hE.drew,hb1.drew,hX.drew⟩ hB.drew (fun hT=>?_)
 have hT9:=Lib.hid hT
 clear hT
 repeat (first
  | (refine Ord.ch_value (v:=?_) hT9.out (by decide) (by rfl) ?_ ?_; rotate_left; (focus (intro w5 hS; have r:=Blk.rule hS.2.1; have r2:=Blk.rule hS.2.2; go_simp<;>with_reducible rfl)); (try simp only [Act.put,zA,zZ,zS]))
  | (refine Ord.ch_off hT9.out (by decide) (by rfl) ?_; (try simp only [Act.put,zA,zZ,zS]))
  | (refine Ord.ch_call (v:=?_) (f:=?_) (args:=?_) hT9.out (by decide) (by rfl) ?_ ?_ ?_; rotate_left 3; (focus (intro w5 hS; have r:=Blk.rule hS.2.1; have r2:=Blk.rule hS.2.2; go_simp; constructor<;>with_reducible rfl)); (focus (intro w5 hS; (first | (with_reducible refine (HGB.out _ hS.1).mono ?_; rintro o w6 ⟨rfl,hb6⟩; constructor; with_reducible rfl; exact ⟨⟨hS.1.trans (hb6.mono hS.1.size),hS.2.1.under hb6,hS.2.2.under hb6⟩,fun _ h=>h.under hb6⟩)))); (try simp only [Act.put,zA,zZ,zS])))
 refine Ord.ch_turn (v:=undef) 0 hT9.out rfl (by decide) (Or.inl rfl) (by rfl) ?_ ?_
 ·rintro w5 hS hA2
  simp only [if_true] at hA2
  have r:=hA2.rule
  have f0:=hA2.thaw 0 (by simp)
  have f1:=hA2.thaw 1 (by simp)
  have f2:=hA2.thaw 2 (by simp)
  have hz:=hS.1.size
  go_simp
  refine ⟨rfl,⟨?_,?_,?_⟩,?_⟩
  ·exact below_set (below_set (below_set hS.1 hz (by omega) _) (by simp; omega) (by omega) _) (by simp; omega) (by omega) _
  ·exact ((hS.2.1.off (by omega) _).off (by omega) _).off (by omega) _
  ·exact ((hS.2.2.off (by omega) _).off (by omega) _).off (by omega) _
  ·exact Blk.put3 hA2 _ _ _
 (try simp only [Act.put,zA,zZ,zS])
 repeat (first
  | (refine Ord.ch_value (v:=?_) hT9.out (by decide) (by rfl) ?_ ?_; rotate_left; (focus (intro w5 hS; skip; go_simp<;>with_reducible rfl)); (try simp only [Act.put,zA,zZ,zS]))
  | (refine Ord.ch_off hT9.out (by decide) (by rfl) ?_; (try simp only [Act.put,zA,zZ,zS])))
 refine Ord.InText.nil fun w5 hS=>?_
 clear hT9
 obtain ⟨hC9,hA9⟩:=Ord.chain_end hS
 clear hS
 have q:=hA9.rule
 simp only [show ¬ [10].length=0 by decide,if_false] at q
 go_wp2
 exact bodyPost_ret (v:=.agg #[.int .u64 (wordI false a e),.int .i64 d,.bool false]) (by simp [results,Tryz.results131,go_sem,q]) rfl ⟨rfl,hC9.1⟩
end
end Go.Proofs.YthcblagpbkaoaaaGreatDoor
namespace Go.Proofs.YthcblagpbkaoaaaGreatDoor
open Go.RowKit
set_option maxRecDepth 100000
set_option maxHeartbeats 25600000
theorem within_any (n lo hi:Int) (w:World):Calls Tryz.prog 121 #[.int .i64 n,.int .i64 lo,.int .i64 hi] w fun e w'=>e=.returned (.bool (inB n lo hi))/\w=w':=by
 go_enter Tryz.func121,Tryz.ntmps121
 go_wp2
 all_goals
  go_ret
  exact ⟨ret_bool (by simp [inB]; try omega),rfl⟩
theorem isKind_any (k:Int) (w:World):Calls Tryz.prog 120 #[.int .i64 k] w fun e w'=>e=.returned (.bool (kindB k))/\w=w':=by
 go_enter Tryz.func120,Tryz.ntmps120
 go_wp2
 all_goals
  go_ret
  exact ⟨ret_bool (by rw [Bool.eq_iff_iff]; simp [kindB]; try omega),rfl⟩
theorem hasBuckets_any (k s b h l:Int) (w:World):Calls Tryz.prog 122 #[.agg #[.int .i64 k,.int .i64 s,.int .i64 b,.int .i64 h,.int .i64 l]] w fun e w'=>e=.returned (.bool (buckB k b))/\Below w.heap.size w w':=by
 have hF:=(Fr.start w).push w.heap.size rfl [.int .i64 k,.int .i64 s,.int .i64 b,.int .i64 h,.int .i64 l] 48
 go_enter Tryz.func122,Tryz.ntmps122
 go_wp2_with
  (with_reducible refine (within_any _ _ _ _).mono ?_; rintro e w1 ⟨rfl,rfl⟩)
 all_goals
  go_ret
  (try go_light)
  (try simp only [bne_iff_ne,ne_eq,bne_eq_false_iff_eq,beq_iff_eq,beq_eq_false_iff_ne,Bool.or_eq_true,Bool.and_eq_true,decide_eq_true_eq,decide_eq_false_iff_not,Bool.or_eq_false_iff,Bool.not_eq_true',Bool.not_eq_false'] at *)
  refine ⟨ret_bool ?_,hF.below⟩
  rw [Bool.eq_iff_iff,buckB_iff]
  (try simp [inB])
  (try omega)
theorem hasHeight_any (k s b h l:Int) (w:World):Calls Tryz.prog 123 #[.agg #[.int .i64 k,.int .i64 s,.int .i64 b,.int .i64 h,.int .i64 l]] w fun e w'=>e=.returned (.bool (highB k h))/\Below w.heap.size w w':=by
 have hF:=(Fr.start w).push w.heap.size rfl [.int .i64 k,.int .i64 s,.int .i64 b,.int .i64 h,.int .i64 l] 48
 go_enter Tryz.func123,Tryz.ntmps123
 go_wp2_with
  (with_reducible refine (within_any _ _ _ _).mono ?_; rintro e w1 ⟨rfl,rfl⟩)
 all_goals
  go_ret
  (try go_light)
  (try simp only [bne_iff_ne,ne_eq,bne_eq_false_iff_eq,beq_iff_eq,beq_eq_false_iff_ne,Bool.or_eq_true,Bool.and_eq_true,decide_eq_true_eq,decide_eq_false_iff_not,Bool.or_eq_false_iff,Bool.not_eq_true',Bool.not_eq_false'] at *)
  refine ⟨ret_bool ?_,hF.below⟩
  rw [Bool.eq_iff_iff,highB_iff]
  (try simp [inB])
  (try omega)
theorem check_any (k s b h l:Int) (w:World):Calls Tryz.prog 68 #[.agg #[.int .i64 k,.int .i64 s,.int .i64 b,.int .i64 h,.int .i64 l]] w fun e w'=>e=.returned (.int .i64 (chkI k s b h l))/\Below w.heap.size w w':=by
 have hF:=(Fr.start w).push w.heap.size rfl [.int .i64 k,.int .i64 s,.int .i64 b,.int .i64 h,.int .i64 l] 48
 have r:=hF.rule 0 rfl
 go_enter Tryz.func68,Tryz.ntmps68
 go_wp2_with (first
  |
   (with_reducible refine (within_any _ _ _ _).mono ?_; rintro e w1 ⟨rfl,rfl⟩)
  |
   (with_reducible refine (isKind_any _ _).mono ?_; rintro e w1 ⟨rfl,rfl⟩)
  |
   (with_reducible refine (hasBuckets_any _ _ _ _ _ _).mono ?_; rintro e w1 ⟨rfl,hb⟩; replace hF:=hF.over hb; clear hb r; have r:=hF.rule 0 rfl)
  |
   (with_reducible refine (hasHeight_any _ _ _ _ _ _).mono ?_; rintro e w1 ⟨rfl,hb⟩; replace hF:=hF.over hb; clear hb r; have r:=hF.rule 0 rfl)
  )
 all_goals
  go_ret
  (try go_light)
  (try simp only [bne_iff_ne,ne_eq,bne_eq_false_iff_eq,beq_iff_eq,beq_eq_false_iff_ne,Bool.or_eq_true,Bool.and_eq_true,decide_eq_true_eq,decide_eq_false_iff_not,Bool.or_eq_false_iff,Bool.not_eq_true',Bool.not_eq_false'] at *)
  refine ⟨ret_int ?_,hF.below⟩
  simp [chkI, *]
end Go.Proofs.YthcblagpbkaoaaaGreatDoor
namespace Go.Proofs.YthcblagpbkaoaaaGreatDoor
open Go.RowKit Go.Maps
set_option maxRecDepth 100000
set_option maxHeartbeats 25600000
section
variable {w0 w:World} {L:List Item}
theorem newYes_c (k s b h l:Int) (hc:chkI k s b h l=0) (hE:Env w0 L w) :
  Calls Tryz.prog 20 #[.agg #[.int .i64 k,.int .i64 s,.int .i64 b,.int .i64 h,.int .i64 l]] w fun o w'=>∃ c q F,o=.returned (.pointer (some ⟨c,0,none⟩))/\Env w0 (coreI c k s b h l 0 0 0 0 q::queueI q F [] 2::L) w':=by
 have HC:=Lib.hid hc
 clear hc
 have hE1:=hE.box w.heap.size rfl [.int .i64 k,.int .i64 s,.int .i64 b,.int .i64 h,.int .i64 l] 48
 clear hE
 have r:=hE1.rule 0 rfl
 go_enter Tryz.func20,Tryz.ntmps20
 go_wp2_with fail
 refine (check_any k s b h l _).mono ?_
 rintro o w1 ⟨rfl,hb⟩
 rw [HC.out]
 replace hE1:=hE1.over hb
 clear hb r
 generalize w.heap.size=X at *
 go_wp2_with fail
 refine Ord3.wp_chain [?_,?_,?_,?_,?_] [1,2,3,4] (fun w'=>Blk 0 w' X [.int .i64 k,.int .i64 s,.int .i64 b,.int .i64 h,.int .i64 l]) (Ord3.Stage fun κs=>[Env w0 (boxI X [.int .i64 k,.int .i64 s,.int .i64 b,.int .i64 h,.int .i64 l]::L),fun w'=>∃ q,κs.getD 0 undef=.pointer (some ⟨q,0,none⟩)/\∃ F,Env w0 (queueI q F [] 2::boxI X [.int .i64 k,.int .i64 s,.int .i64 b,.int .i64 h,.int .i64 l]::L) w',fun w'=>∃ q,κs.getD 1 undef=(.agg #[.int .i64 k,.int .i64 s,.int .i64 b,.int .i64 h,.int .i64 l,.int .i64 0,.int .i64 0,.int .i64 0,.int .i64 0,.pointer (some ⟨q,0,none⟩)])/\∃ F,Env w0 (queueI q F [] 2::boxI X [.int .i64 k,.int .i64 s,.int .i64 b,.int .i64 h,.int .i64 l]::L) w',fun w'=>∃ c,κs.getD 2 undef=.pointer (some ⟨c,0,none⟩)/\∃ q F,Env w0 (coreI c k s b h l 0 0 0 0 q::queueI q F [] 2::boxI X [.int .i64 k,.int .i64 s,.int .i64 b,.int .i64 h,.int .i64 l]::L) w',fun w'=>∃ c,κs.getD 3 undef=.pointer (some ⟨c,0,none⟩)/\∃ q F,Env w0 (coreI c k s b h l 0 0 0 0 q::queueI q F [] 2::boxI X [.int .i64 k,.int .i64 s,.int .i64 b,.int .i64 h,.int .i64 l]::L) w']) (by kernel_rfl) (by kernel_rfl) (by kernel_rfl) (hE1.drew.get 0 rfl) ⟨_,rfl,hE1.drew⟩ (fun hT=>?_)
 rotate_left 5
 have hT9:=Lib.hid hT
 clear hT
 repeat (first
  | (focus (refine Ord3.in_value (v:=?_) hT9.out (by decide) ?_ (by rfl) ?_ ?_; rotate_left 2; (focus (intro w5 hS; have r:=Blk.rule hS; go_simp<;>with_reducible rfl)); rotate_right; (focus rfl); (try simp only [Act.put,zA,zZ,zS])))
  | (focus (refine Ord3.in_off hT9.out (by decide) ?_ (by rfl) ?_; (focus rfl); (try simp only [Act.put,zA,zZ,zS]))))
 refine Ord3.in_turn (fun u=>∃ q,u=.pointer (some ⟨q,0,none⟩)) _ ⟨0,rfl⟩ hT9.out rfl (by decide) (by rfl) ?_ (Or.inl rfl) (by rfl) ?_ ?_
 ·rfl
 ·rintro w7 hC7 ⟨P7,hP7,hA7⟩
  cases hP7
  go_simp
  simp only [Ord3.Lands]
  refine (newQ_any (xs:=[]) (A:=none) (cap:=0) (by simp) Row3.nil).mono ?_
  rintro o w8 ⟨q8,F8,k8,rfl,hrm,hQ,hb8,hF8⟩
  have hk8:=hrm.unique (Rm.same (by simp))
  subst hk8
  have hE8:=hA7.madeQ hQ hF8 hb8
  exact ⟨_,rfl,⟨q8,rfl⟩,hE8.get 1 rfl,_,rfl,q8,rfl,F8,hE8⟩
 rintro _ ⟨q9,rfl⟩
 (try simp only [Act.put,zA,zZ,zS])
 refine Ord3.in_turn (fun u=>∃ q,u=(.agg #[.int .i64 k,.int .i64 s,.int .i64 b,.int .i64 h,.int .i64 l,.int .i64 0,.int .i64 0,.int .i64 0,.int .i64 0,.pointer (some ⟨q,0,none⟩)])) _ ⟨0,rfl⟩ hT9.out rfl (by decide) (by rfl) ?_ (Or.inr ⟨_,1,[],rfl,by kernel_rfl,by kernel_rfl,rfl⟩) (by rfl) ?_ ?_
 ·rfl
 ·rintro w7 hC7 ⟨P7,hP7,hA7⟩
  cases hP7
  obtain ⟨q8,he,F8,hA7⟩:=hA7
  cases he
  go_simp
  simp only [Ord3.Lands]
  exact ⟨⟨_,rfl⟩,hC7,_,rfl,q9,rfl,F8,hA7⟩
 rintro _ ⟨q10,rfl⟩
 (try simp only [Act.put,zA,zZ,zS])
 refine Ord3.in_turn (fun u=>∃ c,u=.pointer (some ⟨c,0,none⟩)) _ ⟨0,rfl⟩ hT9.out rfl (by decide) (by rfl) ?_ (Or.inr ⟨_,2,[],rfl,by kernel_rfl,by kernel_rfl,rfl⟩) (by rfl) ?_ ?_
 ·rfl
 ·rintro w7 hC7 ⟨P7,hP7,hA7⟩
  cases hP7
  obtain ⟨q8,he,F8,hA7⟩:=hA7
  cases he
  go_simp
  simp only [Ord3.Lands]
  have hE8:=hA7.box w7.heap.size rfl (crv k s b h l 0 0 0 0 q10) 148
  exact ⟨⟨_,rfl⟩,hE8.get 2 rfl,_,rfl,w7.heap.size,rfl,q10,F8,hE8⟩
 rintro _ ⟨c8,rfl⟩
 (try simp only [Act.put,zA,zZ,zS])
 refine Ord3.in_turn (fun u=>∃ c,u=.pointer (some ⟨c,0,none⟩)) _ ⟨0,rfl⟩ hT9.out rfl (by decide) (by rfl) ?_ (Or.inr ⟨_,3,[],rfl,by kernel_rfl,by kernel_rfl,rfl⟩) (by rfl) ?_ ?_
 ·rfl
 ·rintro w7 hC7 ⟨P7,hP7,hA7⟩
  cases hP7
  obtain ⟨c7,he,q8,F8,hA7⟩:=hA7
  cases he
  go_simp
  simp only [Ord3.Lands]
  exact ⟨⟨_,rfl⟩,hC7,_,rfl,c8,rfl,q8,F8,hA7⟩
 rintro _ ⟨c9,rfl⟩
 (try simp only [Act.put,zA,zZ,zS])
 refine Ord3.in_nil rfl ?_
 rintro w9 hC9 ⟨P9,hP9,hA9⟩
 cases hP9
 obtain ⟨c8,he,q8,F8,hA9⟩:=hA9
 cases he
 clear hT9 hC9
 go_wp2_with fail
 go_ret
 exact ⟨c9,q8,F8,rfl,hA9.sub (.cons_cons _ (.cons_cons _ (.cons _ (List.Sublist.refl _))))⟩
end
theorem lead_c (v d:Int) (t:Bool) (w:World) (hv:InU v) (hg:Glo w) :
  Calls Tryz.prog 132 #[.agg #[.int .u64 v,.int .i64 d,.bool t]] w fun o w'=>o=.returned (.agg #[.int .i64 (slotI v),.int .i64 d])/\Below w.heap.size w w':=by
 unfold InU at hv
 have HGB:=Lib.hid fun (x:World) (hx:Below w.heap.size w x)=>slot_any v x (hg.keep' hx) hv.1 hv.2
 clear hg
 have hF:=((Fr.start w).push w.heap.size rfl [.int .u64 v,.int .i64 d,.bool t] 150).push (w.heap.size+1) (by simp) [.int .i64 0,.int .i64 0] 61
 have hX:=hF.blk 1 rfl (by omega)
 have hZ:=hF.blk 0 rfl (by omega)
 have hE:=hF.below
 clear hF
 go_enter Tryz.func132,Tryz.ntmps132
 go_wp2_with fail
 refine Ord.wp_chain [6] (fun w'=>Below w.heap.size w w'/\Blk 0 w' w.heap.size [.int .u64 v,.int .i64 d,.bool t]) (fun j w'=>Blk 0 w' (w.heap.size+1) (if j=0 then [.int .i64 0,.int .i64 0] else [.int .i64 (slotI v),.int .i64 d])) (by kernel_rfl) (by kernel_rfl) (by kernel_rfl) ⟨hE.drew,hX.drew⟩ hZ.drew (fun hT=>?_)
 have hT9:=Lib.hid hT
 clear hT
 repeat (first
  | (refine Ord.ch_value (v:=?_) hT9.out (by decide) (by rfl) ?_ ?_; rotate_left; (focus (intro w5 hS; have r:=Blk.rule hS.2; go_simp<;>with_reducible rfl)); (try simp only [Act.put,zA,zZ,zS]))
  | (refine Ord.ch_off hT9.out (by decide) (by rfl) ?_; (try simp only [Act.put,zA,zZ,zS]))
  | (refine Ord.ch_call (v:=?_) (f:=?_) (args:=?_) hT9.out (by decide) (by rfl) ?_ ?_ ?_; rotate_left 3; (focus (intro w5 hS; have r:=Blk.rule hS.2; go_simp; constructor<;>with_reducible rfl)); (focus (intro w5 hS; (first | (with_reducible refine (HGB.out _ hS.1).mono ?_; rintro o w6 ⟨rfl,hb6⟩; constructor; with_reducible rfl; exact ⟨⟨hS.1.trans (hb6.mono hS.1.size),hS.2.under hb6⟩,fun _ h=>h.under hb6⟩)))); (try simp only [Act.put,zA,zZ,zS])))
 refine Ord.ch_turn (v:=undef) 0 hT9.out rfl (by decide) (Or.inl rfl) (by rfl) ?_ ?_
 ·rintro w5 hS hA2
  simp only [if_true] at hA2
  have r:=hA2.rule
  have f0:=hA2.thaw 0 (by simp)
  have f1:=hA2.thaw 1 (by simp)
  have hz:=hS.1.size
  go_simp
  refine ⟨rfl,⟨?_,?_⟩,?_⟩
  ·exact below_set (below_set hS.1 hz (by omega) _) (by simp; omega) (by omega) _
  ·exact (hS.2.off (by omega) _).off (by omega) _
  ·exact (hA2.set (i:=0) (by simp) _).set (i:=1) (by simp) _
 (try simp only [Act.put,zA,zZ,zS])
 repeat (first
  | (refine Ord.ch_value (v:=?_) hT9.out (by decide) (by rfl) ?_ ?_; rotate_left; (focus (intro w5 hS; skip; go_simp<;>with_reducible rfl)); (try simp only [Act.put,zA,zZ,zS]))
  | (refine Ord.ch_off hT9.out (by decide) (by rfl) ?_; (try simp only [Act.put,zA,zZ,zS])))
 refine Ord.InText.nil fun w5 hS=>?_
 clear hT9
 obtain ⟨hC9,hA9⟩:=Ord.chain_end hS
 clear hS
 have q:=hA9.rule
 simp only [show ¬ [6].length=0 by decide,if_false] at q
 go_wp2
 exact bodyPost_ret (v:=.agg #[.int .i64 (slotI v),.int .i64 d]) (by simp [results,Tryz.results132,go_sem,q]) rfl ⟨rfl,hC9.1⟩
section
variable {w0 w:World} {L:List Item} {p c n:Nat} {F:Nat->Prop} {f:Plc->Int} {q:Cnt}
theorem swap_w (x y z d o oe v e:Int) (ob b:Bool) (hx:Wf (x,y,z)) (hv:InU v) (hn:n < maxLen) (i j:Nat) (hij:j≠i) (hE:Env w0 L w) (hi:L[i]?=some (wbox p c)) (hj:L[j]?=some (cellI c F f q n)) :
  Calls Tryz.prog 299 #[.pointer (some ⟨p,0,none⟩),.agg #[.int .i64 x,.int .i64 y,.int .i64 z,.int .i64 d],.agg #[.int .u64 o,.int .i64 oe,.bool ob],.agg #[.int .u64 v,.int .i64 e,.bool b]] w fun e w'=>e=.returned (.bool (decide (f (x,y,z)=o)))/\∃ F',Env w0 (L.set j (cellI c F' (swf f (x,y,z) o v) (swq q (decide (f (x,y,z)=o))) (n+1))) w':=by
 replace hE:=(((hE.box w.heap.size rfl [.int .i64 x,.int .i64 y,.int .i64 z,.int .i64 d] 67).box (w.heap.size+1) (by simp) [.int .u64 o,.int .i64 oe,.bool ob] 150).box (w.heap.size+1+1) (by simp) [.int .u64 v,.int .i64 e,.bool b] 150)
 have hi':(boxI (w.heap.size+1+1) [.int .u64 v,.int .i64 e,.bool b]::boxI (w.heap.size+1) [.int .u64 o,.int .i64 oe,.bool ob]::boxI (w.heap.size) [.int .i64 x,.int .i64 y,.int .i64 z,.int .i64 d]::L)[i+3]?=some (wbox p c):=hi
 have hj':(boxI (w.heap.size+1+1) [.int .u64 v,.int .i64 e,.bool b]::boxI (w.heap.size+1) [.int .u64 o,.int .i64 oe,.bool ob]::boxI (w.heap.size) [.int .i64 x,.int .i64 y,.int .i64 z,.int .i64 d]::L)[j+3]?=some (cellI c F f q n):=hj
 have HX:=Lib.hid hx
 clear hx
 go_enter Tryz.func299,Tryz.ntmps299
 go_wp2_with fail
 generalize w.heap.size+1+1=Z at *
 generalize w.heap.size+1=Y at *
 generalize w.heap.size=X at *
 refine Ord.wp_chain [8] (fun w'=>Blk 0 w' X [.int .i64 x,.int .i64 y,.int .i64 z,.int .i64 d]/\Blk 0 w' Y [.int .u64 o,.int .i64 oe,.bool ob]/\Blk 0 w' Z [.int .u64 v,.int .i64 e,.bool b]/\Blk 0 w' p [.pointer (some ⟨c,0,none⟩)]) (Stage [Env w0 (boxI Z [.int .u64 v,.int .i64 e,.bool b]::boxI Y [.int .u64 o,.int .i64 oe,.bool ob]::boxI X [.int .i64 x,.int .i64 y,.int .i64 z,.int .i64 d]::L),fun w'=>∃ F',Env w0 (boxI Z [.int .u64 v,.int .i64 e,.bool b]::boxI Y [.int .u64 o,.int .i64 oe,.bool ob]::boxI X [.int .i64 x,.int .i64 y,.int .i64 z,.int .i64 d]::L.set j (cellI c F' (swf f (x,y,z) o v) (swq q (decide (f (x,y,z)=o))) (n+1))) w']) (by kernel_rfl) (by kernel_rfl) (by kernel_rfl) ⟨hE.drew.get 2 rfl,hE.drew.get 1 rfl,hE.drew.get 0 rfl,hE.drew.get (i+3) hi'⟩ ⟨_,rfl,hE.drew⟩ (fun hT=>?_)
 have hT9:=Lib.hid hT
 clear hT
 repeat (first
  | (refine Ord.ch_value (v:=?_) hT9.out (by decide) (by rfl) ?_ ?_; rotate_left; (focus (intro w5 hS; have r0:=hS.1.rule; have r1:=hS.2.1.rule; have r2:=hS.2.2.1.rule; go_simp<;>with_reducible rfl)); (try simp only [Act.put,zA,zZ,zS]))
  | (refine Ord.ch_off hT9.out (by decide) (by rfl) ?_; (try simp only [Act.put,zA,zZ,zS]))
  | (refine Ord.ch_call (v:=?_) (f:=?_) (args:=?_) hT9.out (by decide) (by rfl) ?_ ?_ ?_; rotate_left 3; (focus (intro w5 hS; have r0:=hS.1.rule; have r1:=hS.2.1.rule; have r2:=hS.2.2.1.rule; go_simp; constructor<;>with_reducible rfl)); (focus (intro w5 hS; (first | (with_reducible refine (kept_any hS.2.2.2).mono ?_; rintro e w6 ⟨rfl,rfl⟩; constructor; with_reducible rfl; exact ⟨hS,fun _ h=>h⟩)))); (try simp only [Act.put,zA,zZ,zS])))
 refine Ord.ch_turn (v:=.bool (decide (f (x,y,z)=o))) 0 hT9.out rfl (by decide) (Or.inl rfl) (by rfl) ?_ ?_
 ·rintro w5 hC5 ⟨P5,hP5,hA5⟩
  cases hP5
  go_simp
  simp only [Ord.LandsIn]
  refine (swap_any x y z o v HX.out hv hn (hA5.cell (j+3) hj')).mono ?_
  rintro e w6 ⟨rfl,F6,hC,hs⟩
  have hE6:=hA5.turn (j+3) hj' hC hs
  exact ⟨rfl,⟨hE6.get 2 rfl,hE6.get 1 rfl,hE6.get 0 rfl,hE6.get (i+3) (wset (j:=j+3) (by omega) hi')⟩,_,rfl,F6,hE6⟩
 (try simp only [Act.put,zA,zZ,zS])
 repeat (first
  | (refine Ord.ch_value (v:=?_) hT9.out (by decide) (by rfl) ?_ ?_; rotate_left; (focus (intro w5 hS; skip; go_simp<;>with_reducible rfl)); (try simp only [Act.put,zA,zZ,zS]))
  | (refine Ord.ch_off hT9.out (by decide) (by rfl) ?_; (try simp only [Act.put,zA,zZ,zS])))
 refine Ord.InText.nil fun w5 hS=>?_
 clear hT9
 obtain ⟨hC9,hA9⟩:=Ord.chain_end hS
 clear hS
 obtain ⟨P9,hP9,hA9⟩:=hA9
 cases hP9
 obtain ⟨F9,hA9⟩:=hA9
 clear hC9
 go_wp2
 go_ret
 exact ⟨rfl,F9,hA9.sub (.cons _ (.cons _ (.cons _ (List.Sublist.refl _))))⟩
end
theorem method_swap (k p:Nat) (w:World):(method (k+1) 26 (.pointer (some ⟨p,0,none⟩)) "Swap").run Tryz.prog w=.ok (299,.pointer (some ⟨p,0,none⟩)) w:=by kernel_rfl
theorem ahead_swap (k p:Nat) (w:World):(nilAhead (k+1) 26 (.pointer (some ⟨p,0,none⟩)) "Swap").run Tryz.prog w=.ok (some false) w:=by kernel_rfl
theorem ahead_load (k p:Nat) (w:World):(nilAhead (k+1) 26 (.pointer (some ⟨p,0,none⟩)) "Load").run Tryz.prog w=.ok (some false) w:=by kernel_rfl
def pick3 {α:Type _} (a b c:α):Nat->α
 | 0=>a
 | 1=>b
 | _=>c
theorem wrapU (x:Int) (h0:0<=x) (h1:x<=18446744073709551615):IntKind.u64.wrap x=x:=by
 rw [IntKind.wrap_u64]
 exact Int.emod_eq_of_lt h0 (by omega)
end Go.Proofs.YthcblagpbkaoaaaGreatDoor
namespace Go.Proofs.YthcblagpbkaoaaaGreatDoor
open Go.RowKit
set_option maxRecDepth 100000
set_option maxHeartbeats 25600000
theorem isMarked_any (x:Int) (w:World) (hg:Glo w) (h0:0<=x) (h1:x<=18446744073709551615) :
  Calls Tryz.prog 83 #[.int .u64 x] w fun e w'=>e=.returned (.bool (markB x))/\Below w.heap.size w w':=by
 obtain ⟨-,-,⟨c0,c1⟩,-,-,hs⟩:=hg
 have HG:=Lib.hid (mark_one x h0 h1)
 go_enter Tryz.func83,Tryz.ntmps83
 go_wp2_with fail
 refine (get_any 63 1 x _ (by decide) (by decide) h0 h1).mono ?_
 rintro e w1 ⟨rfl,hb⟩
 generalize getI 63 1 x=y at *
 go_wp2
 go_ret
 exact ⟨ret_bool (by rw [<- HG.out]; rfl),hb⟩
theorem placeOf_any (y z:Int) (w:World):Calls Tryz.prog 82 #[.int .i64 y,.int .i64 z] w fun e w'=>e=.returned (.agg #[.int .i64 5,.int .i64 y,.int .i64 z])/\Below w.heap.size w w':=by
 go_enter Tryz.func82,Tryz.ntmps82
 go_wp2
 exact bodyPost_ret (v:=.agg #[.int .i64 5,.int .i64 y,.int .i64 z]) (by simp [results,Tryz.results82,go_sem]) rfl ⟨rfl,(Below.refl _ _).alloc (Nat.le_refl _) _⟩
theorem link_any (y m:Int) (w:World):Calls Tryz.prog 81 #[.int .i64 y,.int .i64 m] w fun e w'=>e=.returned (.agg #[.int .i64 5,.int .i64 y,.int .i64 (wrap64 (7+m))])/\Below w.heap.size w w':=by
 have hF:=(Fr.start w).push w.heap.size rfl [.int .i64 0,.int .i64 0,.int .i64 0] 65
 go_enter Tryz.func81,Tryz.ntmps81
 go_wp2_with fail
 refine (placeOf_any _ _ _).mono ?_
 rintro e w1 ⟨rfl,hb⟩
 replace hF:=hF.over hb
 have r:=hF.rule 0 rfl
 have f:=hF.thaw 0 rfl (Nat.le_refl _)
 go_wp2
 have hP:=hF.put3 (Nat.le_refl _) (fun x hx=>by cases hx) (.int .i64 5) (.int .i64 y) (.int .i64 (wrap64 (7+m)))
 have q:=hP.rule 0 rfl
 exact bodyPost_ret (v:=.agg #[.int .i64 5,.int .i64 y,.int .i64 (wrap64 (7+m))]) (by simp [results,Tryz.results81,go_sem,q]) rfl ⟨rfl,hP.below⟩
theorem root_any (z:Int) (w:World):Calls Tryz.prog 79 #[.int .i64 z] w fun e w'=>e=.returned (.agg #[.int .i64 4,.int .i64 0,.int .i64 z])/\Below w.heap.size w w':=by
 go_enter Tryz.func79,Tryz.ntmps79
 go_wp2
 exact bodyPost_ret (v:=.agg #[.int .i64 4,.int .i64 0,.int .i64 z]) (by simp [results,Tryz.results79,go_sem]) rfl ⟨rfl,(Below.refl _ _).alloc (Nat.le_refl _) _⟩
end Go.Proofs.YthcblagpbkaoaaaGreatDoor
namespace Go.Proofs.YthcblagpbkaoaaaGreatDoor
open Go.RowKit Go.Maps
set_option maxRecDepth 100000
set_option maxHeartbeats 25600000
def laneC (c:Nat) (lv key:Int) (vs:Bool) (nx:Value) (st x y z W C X wd:Int) (pf:Bool) (pv:Int):List Value :=
 [.pointer (some ⟨c,0,none⟩),.int .i64 lv,.int .u64 key,.bool vs,nx,.int .i64 st,.int .i64 x,.int .i64 y,.int .i64 z,.int .i64 0,.int .u64 W,.int .i64 0,.bool false,.int .i64 C,.int .i64 0,.int .u64 X,.int .i64 0,.bool false,.int .u64 wd,.bool pf,.int .u64 pv]
def cvL (b1 b2:Nat):Value:=.func (.func 177) #[] #[.pointer (some ⟨b1,0,none⟩),.pointer (some ⟨b2,0,none⟩)]
section
variable {w:World} {a c:Nat} {lv key:Int} {vs:Bool} {nx:Value} {st x y z W C X wd:Int} {pf:Bool} {pv:Int}
theorem part_l (n:Int) (hb:Blk 0 w a (laneC c lv key vs nx st x y z W C X wd pf pv)):Calls Tryz.prog 264 #[.pointer (some ⟨a,0,none⟩),.int .i64 n] w fun e w'=>e=.returned (.agg #[.int .i64 5,.int .i64 C,.int .i64 n,.int .i64 0])/\Below w.heap.size w w':=by
 have hal:=hb.1
 have hX:=hb.more (.cells [.int .i64 0,.int .i64 0,.int .i64 0,.int .i64 0].toArray 67)
 have hZ:=Blk.new 0 w [.int .i64 0,.int .i64 0,.int .i64 0,.int .i64 0] 67
 have hE:=(Below.refl w.heap.size w).alloc (Nat.le_refl _) (.cells [.int .i64 0,.int .i64 0,.int .i64 0,.int .i64 0].toArray 67)
 clear hb
 go_enter Tryz.func264,Tryz.ntmps264
 go_wp2_with fail
 refine Ord.wp_chain [13] (fun w'=>Below w.heap.size w w'/\Blk 0 w' a (laneC c lv key vs nx st x y z W C X wd pf pv)) (fun j w'=>Blk 0 w' w.heap.size (if j=0 then [.int .i64 0,.int .i64 0,.int .i64 0,.int .i64 0] else [.int .i64 5,.int .i64 C,.int .i64 n,.int .i64 0])) (by kernel_rfl) (by kernel_rfl) (by kernel_rfl) ⟨hE.drew,hX.drew⟩ hZ.drew (fun hT=>?_)
 have hT9:=Lib.hid hT
 clear hT
 repeat (first
  | (refine Ord.ch_value (v:=?_) hT9.out (by decide) (by rfl) ?_ ?_; rotate_left; (focus (intro w5 hS; have r:=Blk.rule hS.2; unfold laneC at r; go_simp<;>with_reducible rfl)); (try simp only [Act.put,zA,zZ,zS]))
  | (refine Ord.ch_off hT9.out (by decide) (by rfl) ?_; (try simp only [Act.put,zA,zZ,zS]))
  | (refine Ord.ch_call (v:=?_) (f:=?_) (args:=?_) hT9.out (by decide) (by rfl) ?_ ?_ ?_; rotate_left 3; (focus (intro w5 hS; have r:=Blk.rule hS.2; unfold laneC at r; go_simp; constructor<;>with_reducible rfl)); (focus (intro w5 hS; (first | (with_reducible refine (placeOf_any _ _ _).mono ?_; rintro o w6 ⟨rfl,hb6⟩; constructor; with_reducible rfl; exact ⟨⟨hS.1.trans (hb6.mono hS.1.size),hS.2.under hb6⟩,fun _ h=>h.under hb6⟩)))); (try simp only [Act.put,zA,zZ,zS])))
 refine Ord.ch_turn (v:=undef) 0 hT9.out rfl (by decide) (Or.inl rfl) (by rfl) ?_ ?_
 ·rintro w5 hS hA2
  simp only [if_true] at hA2
  have r:=hA2.rule
  have f0:=hA2.thaw 0 (by simp)
  have f1:=hA2.thaw 1 (by simp)
  have f2:=hA2.thaw 2 (by simp)
  have f3:=hA2.thaw 3 (by simp)
  have hz:=hS.1.size
  go_simp
  refine ⟨rfl,⟨?_,?_⟩,?_⟩
  ·exact below_set (below_set (below_set (below_set hS.1 hz (by omega) _) (by simp; omega) (by omega) _) (by simp; omega) (by omega) _) (by simp; omega) (by omega) _
  ·exact (((hS.2.off (by omega) _).off (by omega) _).off (by omega) _).off (by omega) _
  ·exact (((hA2.set (i:=0) (by simp) _).set (i:=1) (by simp) _).set (i:=2) (by simp) _).set (i:=3) (by simp) _
 (try simp only [Act.put,zA,zZ,zS])
 repeat (first
  | (refine Ord.ch_value (v:=?_) hT9.out (by decide) (by rfl) ?_ ?_; rotate_left; (focus (intro w5 hS; skip; go_simp<;>with_reducible rfl)); (try simp only [Act.put,zA,zZ,zS]))
  | (refine Ord.ch_off hT9.out (by decide) (by rfl) ?_; (try simp only [Act.put,zA,zZ,zS])))
 refine Ord.InText.nil fun w5 hS=>?_
 clear hT9
 obtain ⟨hC9,hA9⟩:=Ord.chain_end hS
 clear hS
 have q:=hA9.rule
 simp only [show ¬ [13].length=0 by decide,if_false] at q
 go_wp2
 exact bodyPost_ret (v:=.agg #[.int .i64 5,.int .i64 C,.int .i64 n,.int .i64 0]) (by simp [results,Tryz.results264,go_sem,q]) rfl ⟨rfl,hC9.1⟩
theorem nextLink_l (hlv:0<=lv/\lv<=1000000) (hb:Blk 0 w a (laneC c lv key vs nx st x y z W C X wd pf pv)):Calls Tryz.prog 234 #[.pointer (some ⟨a,0,none⟩)] w fun e w'=>e=.returned (.agg #[.int .i64 5,.int .i64 C,.int .i64 (7+lv),.int .i64 0])/\Below w.heap.size w w':=by
 have hal:=hb.1
 have hX:=hb.more (.cells [.int .i64 0,.int .i64 0,.int .i64 0,.int .i64 0].toArray 67)
 have hZ:=Blk.new 0 w [.int .i64 0,.int .i64 0,.int .i64 0,.int .i64 0] 67
 have hE:=(Below.refl w.heap.size w).alloc (Nat.le_refl _) (.cells [.int .i64 0,.int .i64 0,.int .i64 0,.int .i64 0].toArray 67)
 clear hb
 have HLK:Hid (∀ v,Calls Tryz.prog 81 #[.int .i64 C,.int .i64 lv] v fun e w'=>e=.returned (.agg #[.int .i64 5,.int .i64 C,.int .i64 (7+lv)])/\Below v.heap.size v w'):=Lib.hid fun v=>by
  have:=link_any C lv v
  rwa [w64 (7+lv) (by omega)] at this
 clear hlv
 go_enter Tryz.func234,Tryz.ntmps234
 go_wp2_with fail
 refine Ord.wp_chain [16] (fun w'=>Below w.heap.size w w'/\Blk 0 w' a (laneC c lv key vs nx st x y z W C X wd pf pv)) (fun j w'=>Blk 0 w' w.heap.size (if j=0 then [.int .i64 0,.int .i64 0,.int .i64 0,.int .i64 0] else [.int .i64 5,.int .i64 C,.int .i64 (7+lv),.int .i64 0])) (by kernel_rfl) (by kernel_rfl) (by kernel_rfl) ⟨hE.drew,hX.drew⟩ hZ.drew (fun hT=>?_)
 have hT9:=Lib.hid hT
 clear hT
 repeat (first
  | (refine Ord.ch_value (v:=?_) hT9.out (by decide) (by rfl) ?_ ?_; rotate_left; (focus (intro w5 hS; have r:=Blk.rule hS.2; unfold laneC at r; go_simp<;>with_reducible rfl)); (try simp only [Act.put,zA,zZ,zS]))
  | (refine Ord.ch_off hT9.out (by decide) (by rfl) ?_; (try simp only [Act.put,zA,zZ,zS]))
  | (refine Ord.ch_call (v:=?_) (f:=?_) (args:=?_) hT9.out (by decide) (by rfl) ?_ ?_ ?_; rotate_left 3; (focus (intro w5 hS; have r:=Blk.rule hS.2; unfold laneC at r; go_simp; constructor<;>with_reducible rfl)); (focus (intro w5 hS; (first | (with_reducible refine (HLK.out _).mono ?_; rintro o w6 ⟨rfl,hb6⟩; constructor; with_reducible rfl; exact ⟨⟨hS.1.trans (hb6.mono hS.1.size),hS.2.under hb6⟩,fun _ h=>h.under hb6⟩)))); (try simp only [Act.put,zA,zZ,zS])))
 refine Ord.ch_turn (v:=undef) 0 hT9.out rfl (by decide) (Or.inl rfl) (by rfl) ?_ ?_
 ·rintro w5 hS hA2
  simp only [if_true] at hA2
  have r:=hA2.rule
  have f0:=hA2.thaw 0 (by simp)
  have f1:=hA2.thaw 1 (by simp)
  have f2:=hA2.thaw 2 (by simp)
  have f3:=hA2.thaw 3 (by simp)
  have hz:=hS.1.size
  go_simp
  refine ⟨rfl,⟨?_,?_⟩,?_⟩
  ·exact below_set (below_set (below_set (below_set hS.1 hz (by omega) _) (by simp; omega) (by omega) _) (by simp; omega) (by omega) _) (by simp; omega) (by omega) _
  ·exact (((hS.2.off (by omega) _).off (by omega) _).off (by omega) _).off (by omega) _
  ·exact (((hA2.set (i:=0) (by simp) _).set (i:=1) (by simp) _).set (i:=2) (by simp) _).set (i:=3) (by simp) _
 (try simp only [Act.put,zA,zZ,zS])
 repeat (first
  | (refine Ord.ch_value (v:=?_) hT9.out (by decide) (by rfl) ?_ ?_; rotate_left; (focus (intro w5 hS; skip; go_simp<;>with_reducible rfl)); (try simp only [Act.put,zA,zZ,zS]))
  | (refine Ord.ch_off hT9.out (by decide) (by rfl) ?_; (try simp only [Act.put,zA,zZ,zS])))
 refine Ord.InText.nil fun w5 hS=>?_
 clear hT9
 obtain ⟨hC9,hA9⟩:=Ord.chain_end hS
 clear hS
 have q:=hA9.rule
 simp only [show ¬ [16].length=0 by decide,if_false] at q
 go_wp2
 exact bodyPost_ret (v:=.agg #[.int .i64 5,.int .i64 C,.int .i64 (7+lv),.int .i64 0]) (by simp [results,Tryz.results234,go_sem,q]) rfl ⟨rfl,hC9.1⟩
end
section
variable {w0 w:World} {L:List Item} {a:Nat} {vs:List Value}
theorem goOn_l (m:Nat) (fn:Fn) (fs cs:Array Value) (hv:4 < vs.length) (hE:Env w0 L w) (hm:L[m]?=some (boxI a vs)) :
  Calls Tryz.prog 71 #[.pointer (some ⟨a,4,none⟩),.func fn fs cs] w fun o w'=>o=.returned (.int .i64 0)/\Env w0 (L.set m (boxI a (vs.set 4 (.func fn fs cs)))) w':=goOn_r (o:=4) m fn fs cs hv hE hm
theorem end_l (m:Nat) (s:Int) (hv:5 < vs.length) (hE:Env w0 L w) (hm:L[m]?=some (boxI a vs)) :
  Calls Tryz.prog 129 #[.pointer (some ⟨a,4,none⟩),.int .i64 s] w fun o w'=>o=.returned (.int .i64 s)/\∃ nx,Env w0 (L.set m (boxI a ((vs.set 5 (.int .i64 s)).set 4 nx))) w':=by
 refine (end_r (o:=4) m s hv hE hm).mono ?_
 rintro o w1 ⟨rfl,h⟩
 refine ⟨rfl,vs[4],?_⟩
 have h4:(vs.set 5 (.int .i64 s)).set 4 vs[4]=vs.set 5 (.int .i64 s):=by
  apply List.ext_getElem?
  intro i
  by_cases hi:i=4
  ·subst hi
   rw [List.getElem?_set_self (by rw [List.length_set]; omega),List.getElem?_set_ne (by decide),List.getElem?_eq_getElem]
  ·rw [List.getElem?_set_ne (fun e=>hi e.symm)]
 rw [h4]
 exact h
theorem validate_l (fn:Fn) (fs cs:Array Value) (hv:4 < vs.length) (hE:Env w0 (boxI a vs::L) w) :
  Calls Tryz.prog 137 #[.pointer (some ⟨a,0,none⟩),.func fn fs cs] w fun o w'=>o=.returned (.int .i64 0)/\∃ b1 b2,Env w0 (boxI a (vs.set 4 (cvL b1 b2))::boxI b1 [.pointer (some ⟨a,0,none⟩)]::boxI b2 [.func fn fs cs]::L) w':=by
 have hmf:=makeF
 have hE1:=(hE.box w.heap.size rfl [.pointer (some ⟨a,0,none⟩)] 62).box (w.heap.size+1) (by simp) [.func fn fs cs] 144
 have r0:=hE1.rule 1 rfl
 go_enter Tryz.func137,Tryz.ntmps137
 go_wp2_with fail
 refine (goOn_l 2 _ _ _ hv hE1 rfl).mono ?_
 rintro o w1 ⟨rfl,hE2⟩
 go_wp2_with fail
 go_ret
 refine ⟨rfl,w.heap.size,w.heap.size+1,?_⟩
 exact hE2.perm (List.reverse_perm [_,_,_] |>.append_right L)
theorem stepMv_l (X:Nat) (hx:∀ (ar:Array Value) (v:World),(callFunc X ar).run Tryz.prog v=.ok (.enter X ar) v) (u:Value) (Q:Ending->World->Prop) (hn:w.cell? ⟨a,4,none⟩=some (mvL X a)) (hs:w.cell? ⟨a,5,none⟩=some (.int .i64 0)) (hc:Calls Tryz.prog X #[.pointer (some ⟨a,0,none⟩),u] w fun e w'=>∃ s,e=.returned (.int .i64 s)/\Q (.returned (.int .i64 s)) w') :
  Calls Tryz.prog 167 #[.pointer (some ⟨a,0,none⟩),u] w Q:=by
 have HST:=Lib.hid (stepMv_r (o:=4) X hx (.pointer (some ⟨a,0,none⟩)) u (fun o w'=>∃ s,o=.returned (.int .i64 s)/\Q (.returned (.int .i64 s)) w') hn hs (hc.mono fun e w' ⟨s,he,hq⟩=>⟨s,he,s,rfl,hq⟩))
 clear hn hs hc
 go_enter Tryz.func167,Tryz.ntmps167
 go_wp2_with fail
 refine HST.out.mono ?_
 rintro o w1 ⟨s,rfl,hQ⟩
 go_wp2_with fail
 exact hQ
theorem stepCv_l (b1 b2:Nat) (u:Value) (Q:Ending->World->Prop) (hn:w.cell? ⟨a,4,none⟩=some (cvL b1 b2)) (hs:w.cell? ⟨a,5,none⟩=some (.int .i64 0)) (hc:Calls Tryz.prog 177 #[u,.pointer (some ⟨b1,0,none⟩),.pointer (some ⟨b2,0,none⟩)] w fun e w'=>∃ s,e=.returned (.int .i64 s)/\Q (.returned (.int .i64 s)) w') :
  Calls Tryz.prog 167 #[.pointer (some ⟨a,0,none⟩),u] w Q:=by
 have HST:=Lib.hid (stepCv_r (o:=4) 177 b1 b2 (fun _ _=>by kernel_rfl) u (fun o w'=>∃ s,o=.returned (.int .i64 s)/\Q (.returned (.int .i64 s)) w') hn hs (hc.mono fun e w' ⟨s,he,hq⟩=>⟨s,he,s,rfl,hq⟩))
 clear hn hs hc
 go_enter Tryz.func167,Tryz.ntmps167
 go_wp2_with fail
 refine HST.out.mono ?_
 rintro o w1 ⟨s,rfl,hQ⟩
 go_wp2_with fail
 exact hQ
end
def pick4 {α:Type _} (a b c d:α):Nat->α
 | 0=>a
 | 1=>b
 | 2=>c
 | _=>d
section
variable {w0 w:World} {L:List Item} {a c:Nat} {lv key:Int} {vs:Bool} {nx:Value} {st x y z W C X wd:Int} {pf:Bool} {pv:Int}
theorem come0_l (v:Int) (hs:slotI v=0) (hv:InU v) (hg:Glo w0) (hE:Env w0 (boxI a (laneC c lv key vs nx st x y z W C X wd pf pv)::L) w) :
  Calls Tryz.prog 179 #[.pointer (some ⟨a,0,none⟩),.agg #[.int .u64 v,.int .i64 0,.bool false]] w fun o w'=>o=.returned (.int .i64 1)/\∃ nx,Env w0 (boxI a (laneC c lv key vs nx 1 x y z v 0 0 wd pf pv)::L) w':=by
 have hmf:=makeF
 have hso:=slot_of
 have hE1:=hE.box w.heap.size rfl [.int .u64 v,.int .i64 0,.bool false] 150
 have HLE:=Lib.hid fun (u:World) (hu:Below w0.heap.size w0 u)=>lead_c v 0 false u hv (hg.keep' hu)
 simp only [hs] at HLE
 clear hs
 clear hE hv hg
 go_enter Tryz.func179,Tryz.ntmps179
 go_wp2_with fail
 refine Ord.wp_chain [9,12,15] (fun u=>Below w0.heap.size w0 u/\Blk 0 u w.heap.size [.int .u64 v,.int .i64 0,.bool false]) (fun k w'=>Env w0 (pick4 (boxI w.heap.size [.int .u64 v,.int .i64 0,.bool false]::boxI a (laneC c lv key vs nx st x y z W C X wd pf pv)::L) (boxI w.heap.size [.int .u64 v,.int .i64 0,.bool false]::boxI a (laneC c lv key vs nx st x y z v C X wd pf pv)::L) (boxI w.heap.size [.int .u64 v,.int .i64 0,.bool false]::boxI a (laneC c lv key vs nx st x y z v 0 X wd pf pv)::L) (boxI w.heap.size [.int .u64 v,.int .i64 0,.bool false]::boxI a (laneC c lv key vs nx st x y z v 0 0 wd pf pv)::L) k) w') (by kernel_rfl) (by kernel_rfl) (by kernel_rfl) ⟨hE1.drew.below,hE1.drew.get 0 rfl⟩ hE1.drew (fun hT=>?_)
 have hT9:=Lib.hid hT
 clear hT
 repeat (first
  | (refine Ord.ch_value (v:=?_) hT9.out (by decide) (by rfl) ?_ ?_; rotate_left; (focus (intro w5 hS; have r:=Blk.rule hS.2; go_simp<;>with_reducible rfl)); (try simp only [Act.put,zA,zZ,zS]))
  | (refine Ord.ch_off hT9.out (by decide) (by rfl) ?_; (try simp only [Act.put,zA,zZ,zS]))
  | (refine Ord.ch_call (v:=?_) (f:=?_) (args:=?_) hT9.out (by decide) (by rfl) ?_ ?_ ?_; rotate_left 3; (focus (intro w5 hS; have r:=Blk.rule hS.2; go_simp; constructor<;>with_reducible rfl)); (focus (intro w5 hS; (first | (with_reducible refine (HLE.out _ hS.1).mono ?_; rintro o w6 ⟨rfl,hb6⟩; constructor; with_reducible rfl; exact ⟨⟨hS.1.trans (hb6.mono hS.1.size),hS.2.under hb6⟩,fun _ h=>h.over hb6⟩)))); (try simp only [Act.put,zA,zZ,zS])))
 refine Ord.ch_turn (v:=undef) 0 hT9.out rfl (by decide) (Or.inl rfl) (by rfl) ?_ ?_
 ·rintro w5 hC5 hA5
  replace hA5:Env w0 (boxI w.heap.size [.int .u64 v,.int .i64 0,.bool false]::boxI a (laneC c lv key vs nx st x y z W C X wd pf pv)::L) w5:=hA5
  have r:=hA5.rule 1 rfl
  unfold laneC at r
  have g0:=hA5.thaw 1 rfl 10 (by simp [laneC])
  have g1:=hA5.thaw 1 rfl 11 (by simp [laneC])
  have g2:=hA5.thaw 1 rfl 12 (by simp [laneC])
  go_simp
  have h9:=(((hA5.put 1 rfl (j:=10) (by simp [laneC]) (.int .u64 v)).put 1 rfl (j:=11) (by simp [laneC]) (.int .i64 0)).put 1 rfl (j:=12) (by simp [laneC]) (.bool false))
  replace h9:Env w0 (boxI w.heap.size [.int .u64 v,.int .i64 0,.bool false]::boxI a (laneC c lv key vs nx st x y z v C X wd pf pv)::L) _:=h9
  exact ⟨rfl,⟨h9.below,h9.get 0 rfl⟩,h9⟩
 (try simp only [Act.put,zA,zZ,zS])
 repeat (first
  | (refine Ord.ch_value (v:=?_) hT9.out (by decide) (by rfl) ?_ ?_; rotate_left; (focus (intro w5 hS; have r:=Blk.rule hS.2; go_simp<;>with_reducible rfl)); (try simp only [Act.put,zA,zZ,zS]))
  | (refine Ord.ch_off hT9.out (by decide) (by rfl) ?_; (try simp only [Act.put,zA,zZ,zS]))
  | (refine Ord.ch_call (v:=?_) (f:=?_) (args:=?_) hT9.out (by decide) (by rfl) ?_ ?_ ?_; rotate_left 3; (focus (intro w5 hS; have r:=Blk.rule hS.2; go_simp; constructor<;>with_reducible rfl)); (focus (intro w5 hS; (first | (with_reducible refine (HLE.out _ hS.1).mono ?_; rintro o w6 ⟨rfl,hb6⟩; constructor; with_reducible rfl; exact ⟨⟨hS.1.trans (hb6.mono hS.1.size),hS.2.under hb6⟩,fun _ h=>h.over hb6⟩)))); (try simp only [Act.put,zA,zZ,zS])))
 refine Ord.ch_turn (v:=undef) 1 hT9.out rfl (by decide) (Or.inr ⟨_,rfl,by kernel_rfl⟩) (by rfl) ?_ ?_
 ·rintro w5 hC5 hA5
  replace hA5:Env w0 (boxI w.heap.size [.int .u64 v,.int .i64 0,.bool false]::boxI a (laneC c lv key vs nx st x y z v C X wd pf pv)::L) w5:=hA5
  have r:=hA5.rule 1 rfl
  unfold laneC at r
  have g0:=hA5.thaw 1 rfl 13 (by simp [laneC])
  have g1:=hA5.thaw 1 rfl 14 (by simp [laneC])
  go_simp
  have h9:=((hA5.put 1 rfl (j:=13) (by simp [laneC]) (.int .i64 0)).put 1 rfl (j:=14) (by simp [laneC]) (.int .i64 0))
  replace h9:Env w0 (boxI w.heap.size [.int .u64 v,.int .i64 0,.bool false]::boxI a (laneC c lv key vs nx st x y z v 0 X wd pf pv)::L) _:=h9
  exact ⟨rfl,⟨h9.below,h9.get 0 rfl⟩,h9⟩
 (try simp only [Act.put,zA,zZ,zS])
 repeat (first
  | (refine Ord.ch_value (v:=?_) hT9.out (by decide) (by rfl) ?_ ?_; rotate_left; (focus (intro w5 hS; have r:=Blk.rule hS.2; go_simp<;>with_reducible rfl)); (try simp only [Act.put,zA,zZ,zS]))
  | (refine Ord.ch_off hT9.out (by decide) (by rfl) ?_; (try simp only [Act.put,zA,zZ,zS]))
  | (refine Ord.ch_call (v:=?_) (f:=?_) (args:=?_) hT9.out (by decide) (by rfl) ?_ ?_ ?_; rotate_left 3; (focus (intro w5 hS; have r:=Blk.rule hS.2; go_simp; constructor<;>with_reducible rfl)); (focus (intro w5 hS; (first | (with_reducible refine (HLE.out _ hS.1).mono ?_; rintro o w6 ⟨rfl,hb6⟩; constructor; with_reducible rfl; exact ⟨⟨hS.1.trans (hb6.mono hS.1.size),hS.2.under hb6⟩,fun _ h=>h.over hb6⟩)))); (try simp only [Act.put,zA,zZ,zS])))
 refine Ord.ch_turn (v:=undef) 2 hT9.out rfl (by decide) (Or.inr ⟨_,rfl,by kernel_rfl⟩) (by rfl) ?_ ?_
 ·rintro w5 hC5 hA5
  replace hA5:Env w0 (boxI w.heap.size [.int .u64 v,.int .i64 0,.bool false]::boxI a (laneC c lv key vs nx st x y z v 0 X wd pf pv)::L) w5:=hA5
  have r:=hA5.rule 1 rfl
  unfold laneC at r
  have g0:=hA5.thaw 1 rfl 15 (by simp [laneC])
  have g1:=hA5.thaw 1 rfl 16 (by simp [laneC])
  have g2:=hA5.thaw 1 rfl 17 (by simp [laneC])
  go_simp
  have h9:=(((hA5.put 1 rfl (j:=15) (by simp [laneC]) (.int .u64 0)).put 1 rfl (j:=16) (by simp [laneC]) (.int .i64 0)).put 1 rfl (j:=17) (by simp [laneC]) (.bool false))
  replace h9:Env w0 (boxI w.heap.size [.int .u64 v,.int .i64 0,.bool false]::boxI a (laneC c lv key vs nx st x y z v 0 0 wd pf pv)::L) _:=h9
  exact ⟨rfl,⟨h9.below,h9.get 0 rfl⟩,h9⟩
 (try simp only [Act.put,zA,zZ,zS])
 repeat (first
  | (refine Ord.ch_value (v:=?_) hT9.out (by decide) (by rfl) ?_ ?_; rotate_left; (focus (intro w5 hS; have r:=Blk.rule hS.2; go_simp<;>with_reducible rfl)); (try simp only [Act.put,zA,zZ,zS]))
  | (refine Ord.ch_off hT9.out (by decide) (by rfl) ?_; (try simp only [Act.put,zA,zZ,zS]))
  | (refine Ord.ch_call (v:=?_) (f:=?_) (args:=?_) hT9.out (by decide) (by rfl) ?_ ?_ ?_; rotate_left 3; (focus (intro w5 hS; have r:=Blk.rule hS.2; go_simp; constructor<;>with_reducible rfl)); (focus (intro w5 hS; (first | (with_reducible refine (HLE.out _ hS.1).mono ?_; rintro o w6 ⟨rfl,hb6⟩; constructor; with_reducible rfl; exact ⟨⟨hS.1.trans (hb6.mono hS.1.size),hS.2.under hb6⟩,fun _ h=>h.over hb6⟩)))); (try simp only [Act.put,zA,zZ,zS])))
 refine Ord.InText.nil fun w5 hS=>?_
 clear hT9
 obtain ⟨hC9,hA9⟩:=Ord.chain_end hS
 clear hS
 replace hA9:Env w0 (boxI w.heap.size [.int .u64 v,.int .i64 0,.bool false]::boxI a (laneC c lv key vs nx st x y z v 0 0 wd pf pv)::L) w5:=hA9
 clear hE1 hC9 HLE
 have r:=hA9.rule 1 rfl
 unfold laneC at r
 have g0:=hA9.thaw 1 rfl 13 (by simp [laneC])
 have g1:=hA9.thaw 1 rfl 14 (by simp [laneC])
 have hP:=(hA9.put 1 rfl (j:=13) (by simp [laneC]) (.int .i64 0)).put 1 rfl (j:=14) (by simp [laneC]) (.int .i64 0)
 replace hP:Env w0 (boxI w.heap.size [.int .u64 v,.int .i64 0,.bool false]::boxI a (laneC c lv key vs nx st x y z v 0 0 wd pf pv)::L) _:=hP
 go_wp2_with fail
 refine (end_l 1 1 (by simp [laneC]) hP rfl).mono ?_
 rintro o w6 ⟨rfl,nx,hE6⟩
 go_wp2_with fail
 go_ret
 exact ⟨rfl,nx,hE6.sub (.cons _ (List.Sublist.refl _))⟩
theorem comeY_l (v:Int) (hs:slotI v≠0) (hv:InU v) (hg:Glo w0) (hE:Env w0 (boxI a (laneC c lv key vs nx st x y z W C X wd pf pv)::L) w) :
  Calls Tryz.prog 179 #[.pointer (some ⟨a,0,none⟩),.agg #[.int .u64 v,.int .i64 0,.bool false]] w fun o w'=>o=.returned (.int .i64 0)/\Env w0 (boxI a (laneC c lv key vs (mvL 205 a) st x y z v (slotI v) 0 wd pf pv)::L) w':=by
 have hmf:=makeF
 have hso:=slot_of
 have hE1:=hE.box w.heap.size rfl [.int .u64 v,.int .i64 0,.bool false] 150
 have HLE:=Lib.hid fun (u:World) (hu:Below w0.heap.size w0 u)=>lead_c v 0 false u hv (hg.keep' hu)
 obtain ⟨s,hs9⟩:∃ s,slotI v=s:=⟨_,rfl⟩
 rw [hs9] at hs ⊢
 simp only [hs9] at HLE
 have hsb:(s==0)=false:=by simpa using hs
 clear hs9 hs
 clear hE hv hg
 go_enter Tryz.func179,Tryz.ntmps179
 go_wp2_with fail
 refine Ord.wp_chain [9,12,15] (fun u=>Below w0.heap.size w0 u/\Blk 0 u w.heap.size [.int .u64 v,.int .i64 0,.bool false]) (fun k w'=>Env w0 (pick4 (boxI w.heap.size [.int .u64 v,.int .i64 0,.bool false]::boxI a (laneC c lv key vs nx st x y z W C X wd pf pv)::L) (boxI w.heap.size [.int .u64 v,.int .i64 0,.bool false]::boxI a (laneC c lv key vs nx st x y z v C X wd pf pv)::L) (boxI w.heap.size [.int .u64 v,.int .i64 0,.bool false]::boxI a (laneC c lv key vs nx st x y z v s X wd pf pv)::L) (boxI w.heap.size [.int .u64 v,.int .i64 0,.bool false]::boxI a (laneC c lv key vs nx st x y z v s 0 wd pf pv)::L) k) w') (by kernel_rfl) (by kernel_rfl) (by kernel_rfl) ⟨hE1.drew.below,hE1.drew.get 0 rfl⟩ hE1.drew (fun hT=>?_)
 have hT9:=Lib.hid hT
 clear hT
 repeat (first
  | (refine Ord.ch_value (v:=?_) hT9.out (by decide) (by rfl) ?_ ?_; rotate_left; (focus (intro w5 hS; have r:=Blk.rule hS.2; go_simp<;>with_reducible rfl)); (try simp only [Act.put,zA,zZ,zS]))
  | (refine Ord.ch_off hT9.out (by decide) (by rfl) ?_; (try simp only [Act.put,zA,zZ,zS]))
  | (refine Ord.ch_call (v:=?_) (f:=?_) (args:=?_) hT9.out (by decide) (by rfl) ?_ ?_ ?_; rotate_left 3; (focus (intro w5 hS; have r:=Blk.rule hS.2; go_simp; constructor<;>with_reducible rfl)); (focus (intro w5 hS; (first | (with_reducible refine (HLE.out _ hS.1).mono ?_; rintro o w6 ⟨rfl,hb6⟩; constructor; with_reducible rfl; exact ⟨⟨hS.1.trans (hb6.mono hS.1.size),hS.2.under hb6⟩,fun _ h=>h.over hb6⟩)))); (try simp only [Act.put,zA,zZ,zS])))
 refine Ord.ch_turn (v:=undef) 0 hT9.out rfl (by decide) (Or.inl rfl) (by rfl) ?_ ?_
 ·rintro w5 hC5 hA5
  replace hA5:Env w0 (boxI w.heap.size [.int .u64 v,.int .i64 0,.bool false]::boxI a (laneC c lv key vs nx st x y z W C X wd pf pv)::L) w5:=hA5
  have r:=hA5.rule 1 rfl
  unfold laneC at r
  have g0:=hA5.thaw 1 rfl 10 (by simp [laneC])
  have g1:=hA5.thaw 1 rfl 11 (by simp [laneC])
  have g2:=hA5.thaw 1 rfl 12 (by simp [laneC])
  go_simp
  have h9:=(((hA5.put 1 rfl (j:=10) (by simp [laneC]) (.int .u64 v)).put 1 rfl (j:=11) (by simp [laneC]) (.int .i64 0)).put 1 rfl (j:=12) (by simp [laneC]) (.bool false))
  replace h9:Env w0 (boxI w.heap.size [.int .u64 v,.int .i64 0,.bool false]::boxI a (laneC c lv key vs nx st x y z v C X wd pf pv)::L) _:=h9
  exact ⟨rfl,⟨h9.below,h9.get 0 rfl⟩,h9⟩
 (try simp only [Act.put,zA,zZ,zS])
 repeat (first
  | (refine Ord.ch_value (v:=?_) hT9.out (by decide) (by rfl) ?_ ?_; rotate_left; (focus (intro w5 hS; have r:=Blk.rule hS.2; go_simp<;>with_reducible rfl)); (try simp only [Act.put,zA,zZ,zS]))
  | (refine Ord.ch_off hT9.out (by decide) (by rfl) ?_; (try simp only [Act.put,zA,zZ,zS]))
  | (refine Ord.ch_call (v:=?_) (f:=?_) (args:=?_) hT9.out (by decide) (by rfl) ?_ ?_ ?_; rotate_left 3; (focus (intro w5 hS; have r:=Blk.rule hS.2; go_simp; constructor<;>with_reducible rfl)); (focus (intro w5 hS; (first | (with_reducible refine (HLE.out _ hS.1).mono ?_; rintro o w6 ⟨rfl,hb6⟩; constructor; with_reducible rfl; exact ⟨⟨hS.1.trans (hb6.mono hS.1.size),hS.2.under hb6⟩,fun _ h=>h.over hb6⟩)))); (try simp only [Act.put,zA,zZ,zS])))
 refine Ord.ch_turn (v:=undef) 1 hT9.out rfl (by decide) (Or.inr ⟨_,rfl,by kernel_rfl⟩) (by rfl) ?_ ?_
 ·rintro w5 hC5 hA5
  replace hA5:Env w0 (boxI w.heap.size [.int .u64 v,.int .i64 0,.bool false]::boxI a (laneC c lv key vs nx st x y z v C X wd pf pv)::L) w5:=hA5
  have r:=hA5.rule 1 rfl
  unfold laneC at r
  have g0:=hA5.thaw 1 rfl 13 (by simp [laneC])
  have g1:=hA5.thaw 1 rfl 14 (by simp [laneC])
  go_simp
  have h9:=((hA5.put 1 rfl (j:=13) (by simp [laneC]) (.int .i64 s)).put 1 rfl (j:=14) (by simp [laneC]) (.int .i64 0))
  replace h9:Env w0 (boxI w.heap.size [.int .u64 v,.int .i64 0,.bool false]::boxI a (laneC c lv key vs nx st x y z v s X wd pf pv)::L) _:=h9
  exact ⟨rfl,⟨h9.below,h9.get 0 rfl⟩,h9⟩
 (try simp only [Act.put,zA,zZ,zS])
 repeat (first
  | (refine Ord.ch_value (v:=?_) hT9.out (by decide) (by rfl) ?_ ?_; rotate_left; (focus (intro w5 hS; have r:=Blk.rule hS.2; go_simp<;>with_reducible rfl)); (try simp only [Act.put,zA,zZ,zS]))
  | (refine Ord.ch_off hT9.out (by decide) (by rfl) ?_; (try simp only [Act.put,zA,zZ,zS]))
  | (refine Ord.ch_call (v:=?_) (f:=?_) (args:=?_) hT9.out (by decide) (by rfl) ?_ ?_ ?_; rotate_left 3; (focus (intro w5 hS; have r:=Blk.rule hS.2; go_simp; constructor<;>with_reducible rfl)); (focus (intro w5 hS; (first | (with_reducible refine (HLE.out _ hS.1).mono ?_; rintro o w6 ⟨rfl,hb6⟩; constructor; with_reducible rfl; exact ⟨⟨hS.1.trans (hb6.mono hS.1.size),hS.2.under hb6⟩,fun _ h=>h.over hb6⟩)))); (try simp only [Act.put,zA,zZ,zS])))
 refine Ord.ch_turn (v:=undef) 2 hT9.out rfl (by decide) (Or.inr ⟨_,rfl,by kernel_rfl⟩) (by rfl) ?_ ?_
 ·rintro w5 hC5 hA5
  replace hA5:Env w0 (boxI w.heap.size [.int .u64 v,.int .i64 0,.bool false]::boxI a (laneC c lv key vs nx st x y z v s X wd pf pv)::L) w5:=hA5
  have r:=hA5.rule 1 rfl
  unfold laneC at r
  have g0:=hA5.thaw 1 rfl 15 (by simp [laneC])
  have g1:=hA5.thaw 1 rfl 16 (by simp [laneC])
  have g2:=hA5.thaw 1 rfl 17 (by simp [laneC])
  go_simp
  have h9:=(((hA5.put 1 rfl (j:=15) (by simp [laneC]) (.int .u64 0)).put 1 rfl (j:=16) (by simp [laneC]) (.int .i64 0)).put 1 rfl (j:=17) (by simp [laneC]) (.bool false))
  replace h9:Env w0 (boxI w.heap.size [.int .u64 v,.int .i64 0,.bool false]::boxI a (laneC c lv key vs nx st x y z v s 0 wd pf pv)::L) _:=h9
  exact ⟨rfl,⟨h9.below,h9.get 0 rfl⟩,h9⟩
 (try simp only [Act.put,zA,zZ,zS])
 repeat (first
  | (refine Ord.ch_value (v:=?_) hT9.out (by decide) (by rfl) ?_ ?_; rotate_left; (focus (intro w5 hS; have r:=Blk.rule hS.2; go_simp<;>with_reducible rfl)); (try simp only [Act.put,zA,zZ,zS]))
  | (refine Ord.ch_off hT9.out (by decide) (by rfl) ?_; (try simp only [Act.put,zA,zZ,zS]))
  | (refine Ord.ch_call (v:=?_) (f:=?_) (args:=?_) hT9.out (by decide) (by rfl) ?_ ?_ ?_; rotate_left 3; (focus (intro w5 hS; have r:=Blk.rule hS.2; go_simp; constructor<;>with_reducible rfl)); (focus (intro w5 hS; (first | (with_reducible refine (HLE.out _ hS.1).mono ?_; rintro o w6 ⟨rfl,hb6⟩; constructor; with_reducible rfl; exact ⟨⟨hS.1.trans (hb6.mono hS.1.size),hS.2.under hb6⟩,fun _ h=>h.over hb6⟩)))); (try simp only [Act.put,zA,zZ,zS])))
 refine Ord.InText.nil fun w5 hS=>?_
 clear hT9
 obtain ⟨hC9,hA9⟩:=Ord.chain_end hS
 clear hS
 replace hA9:Env w0 (boxI w.heap.size [.int .u64 v,.int .i64 0,.bool false]::boxI a (laneC c lv key vs nx st x y z v s 0 wd pf pv)::L) w5:=hA9
 clear hE1 hC9 HLE
 have r:=hA9.rule 1 rfl
 unfold laneC at r
 go_wp2_with fail
 refine (goOn_l 1 _ _ _ (by simp [laneC]) hA9 rfl).mono ?_
 rintro o w6 ⟨rfl,hE6⟩
 go_wp2_with fail
 go_ret
 exact ⟨rfl,hE6.sub (.cons _ (List.Sublist.refl _))⟩
end
section
variable {w0 w:World} {R:List Item} {a:Nat} {S:ST} {lv key:Int} {vs:Bool} {nx:Value} {st x y z W C X wd:Int} {pf:Bool} {pv:Int}
theorem loadInto_l (v:Int) (hfx:S.f (x,y,z)=v) (hwf:Wf (x,y,z)) (hE:Env w0 (boxI a (laneC S.c lv key vs nx st x y z W C X wd pf pv)::LT S R) w) :
  Calls Tryz.prog 74 #[.pointer (some ⟨a,0,none⟩),.iface 26 (.pointer (some ⟨S.p,0,none⟩))] w fun o w'=>o=.returned (.int .i64 0)/\∃ b1 b2,Env w0 (boxI a (laneC S.c lv key vs (cvL b1 b2) st x y z v C X wd pf pv)::boxI b1 [.pointer (some ⟨a,0,none⟩)]::boxI b2 [mvL 138 a]::LT { S with qc:={ S.qc with l:=wrap64 (S.qc.l+1) } } R) w':=by
 have hmf:=makeF
 have hah:=ahead_load
 have hvw:=val_word
 have HX:=Lib.hid hfx
 have HWF:=Lib.hid hwf
 clear hfx hwf
 go_enter Tryz.func74,Tryz.ntmps74
 go_wp2_with fail
 refine Ord.wp_chain [9,12] (fun u=>Below w0.heap.size w0 u/\∃ n8,Blk 0 u a (laneC S.c lv key vs nx st x y z n8 C X wd pf pv)) (fun k w'=>Env w0 (pick3 (boxI a (laneC S.c lv key vs nx st x y z W C X wd pf pv)::LT S R) (boxI a (laneC S.c lv key vs nx st x y z W C X wd pf pv)::LT { S with qc:={ S.qc with l:=wrap64 (S.qc.l+1) } } R) (boxI a (laneC S.c lv key vs nx st x y z v C X wd pf pv)::LT { S with qc:={ S.qc with l:=wrap64 (S.qc.l+1) } } R) k) w') (by kernel_rfl) (by kernel_rfl) (by kernel_rfl) ⟨hE.drew.below,W,hE.drew.get 0 rfl⟩ hE.drew (fun hT=>?_)
 have hT9:=Lib.hid hT
 clear hT
 repeat (first
  | (refine Ord.ch_value (v:=?_) hT9.out (by decide) (by rfl) ?_ ?_; rotate_left; (focus (intro w5 hS; obtain ⟨hS0,n9,hS1⟩:=hS; have r:=Blk.rule hS1; unfold laneC at r; go_simp<;>with_reducible rfl)); (try simp only [Act.put,zA,zZ,zS]))
  | (refine Ord.ch_off hT9.out (by decide) (by rfl) ?_; (try simp only [Act.put,zA,zZ,zS])))
 refine Ord.ch_turn (v:=.agg #[.int .u64 v,.int .i64 0,.bool false]) 0 hT9.out rfl (by decide) (Or.inl rfl) (by rfl) ?_ ?_
 ·rintro w5 hC5 hA5
  replace hA5:Env w0 (boxI a (laneC S.c lv key vs nx st x y z W C X wd pf pv)::LT S R) w5:=hA5
  go_simp
  rw [method_load]
  simp only [Result.andThen_ok]
  go_simp
  simp only [Ord.LandsIn]
  have hl:=load_w x y z 0 HWF.out 3 4 (by decide) hA5 rfl rfl
  rw [HX.out] at hl
  refine hl.mono ?_
  rintro e w6 ⟨rfl,hE6⟩
  exact ⟨rfl,⟨hE6.below,_,hE6.get 0 rfl⟩,hE6⟩
 (try simp only [Act.put,zA,zZ,zS])
 repeat (first
  | (refine Ord.ch_value (v:=?_) hT9.out (by decide) (by rfl) ?_ ?_; rotate_left; (focus (intro w5 hS; skip; go_simp<;>with_reducible rfl)); (try simp only [Act.put,zA,zZ,zS]))
  | (refine Ord.ch_off hT9.out (by decide) (by rfl) ?_; (try simp only [Act.put,zA,zZ,zS])))
 refine Ord.ch_turn (v:=undef) 1 hT9.out rfl (by decide) (Or.inr ⟨_,rfl,by kernel_rfl⟩) (by rfl) ?_ ?_
 ·rintro w5 hC5 hA5
  replace hA5:Env w0 (boxI a (laneC S.c lv key vs nx st x y z W C X wd pf pv)::LT { S with qc:={ S.qc with l:=wrap64 (S.qc.l+1) } } R) w5:=hA5
  have r:=hA5.rule 0 rfl
  unfold laneC at r
  have g0:=hA5.thaw 0 rfl 10 (by simp [laneC])
  have g1:=hA5.thaw 0 rfl 11 (by simp [laneC])
  have g2:=hA5.thaw 0 rfl 12 (by simp [laneC])
  go_simp
  have h9:=(((hA5.put 0 rfl (j:=10) (by simp [laneC]) (.int .u64 v)).put 0 rfl (j:=11) (by simp [laneC]) (.int .i64 0)).put 0 rfl (j:=12) (by simp [laneC]) (.bool false))
  replace h9:Env w0 (boxI a (laneC S.c lv key vs nx st x y z v C X wd pf pv)::LT { S with qc:={ S.qc with l:=wrap64 (S.qc.l+1) } } R) _:=h9
  exact ⟨rfl,⟨h9.below,_,h9.get 0 rfl⟩,h9⟩
 (try simp only [Act.put,zA,zZ,zS])
 repeat (first
  | (refine Ord.ch_value (v:=?_) hT9.out (by decide) (by rfl) ?_ ?_; rotate_left; (focus (intro w5 hS; skip; go_simp<;>with_reducible rfl)); (try simp only [Act.put,zA,zZ,zS]))
  | (refine Ord.ch_off hT9.out (by decide) (by rfl) ?_; (try simp only [Act.put,zA,zZ,zS])))
 refine Ord.InText.nil fun w5 hS=>?_
 clear hT9
 obtain ⟨hC9,hA9⟩:=Ord.chain_end hS
 clear hS
 replace hA9:Env w0 (boxI a (laneC S.c lv key vs nx st x y z v C X wd pf pv)::LT { S with qc:={ S.qc with l:=wrap64 (S.qc.l+1) } } R) w5:=hA9
 clear hE hC9
 have r:=hA9.rule 0 rfl
 unfold laneC at r
 go_wp2_with fail
 refine (validate_l _ _ _ (by simp [laneC]) hA9).mono ?_
 rintro o w6 ⟨rfl,b1,b2,hE6⟩
 go_wp2_with fail
 go_ret
 exact ⟨rfl,b1,b2,hE6⟩
theorem loadOut_l (hlv:0<=lv/\lv<=1000000) (v:Int) (hfx:S.f (5,C,7+lv)=v) (hwf:Wf (5,C,7+lv)) (hE:Env w0 (boxI a (laneC S.c lv key vs nx st x y z W C X wd pf pv)::LT S R) w) :
  Calls Tryz.prog 205 #[.pointer (some ⟨a,0,none⟩),.iface 26 (.pointer (some ⟨S.p,0,none⟩))] w fun o w'=>o=.returned (.int .i64 0)/\∃ b1 b2,Env w0 (boxI a (laneC S.c lv key vs (cvL b1 b2) st x y z W C v wd pf pv)::boxI b1 [.pointer (some ⟨a,0,none⟩)]::boxI b2 [mvL 235 a]::LT { S with qc:={ S.qc with l:=wrap64 (S.qc.l+1) } } R) w':=by
 have hmf:=makeF
 have hah:=ahead_load
 have hvw:=val_word
 have HX:=Lib.hid hfx
 have HWF:=Lib.hid hwf
 clear hfx hwf
 go_enter Tryz.func205,Tryz.ntmps205
 go_wp2_with fail
 refine Ord.wp_chain [7,10] (fun u=>Below w0.heap.size w0 u/\∃ n8,Blk 0 u a (laneC S.c lv key vs nx st x y z W C n8 wd pf pv)) (fun k w'=>Env w0 (pick3 (boxI a (laneC S.c lv key vs nx st x y z W C X wd pf pv)::LT S R) (boxI a (laneC S.c lv key vs nx st x y z W C X wd pf pv)::LT { S with qc:={ S.qc with l:=wrap64 (S.qc.l+1) } } R) (boxI a (laneC S.c lv key vs nx st x y z W C v wd pf pv)::LT { S with qc:={ S.qc with l:=wrap64 (S.qc.l+1) } } R) k) w') (by kernel_rfl) (by kernel_rfl) (by kernel_rfl) ⟨hE.drew.below,X,hE.drew.get 0 rfl⟩ hE.drew (fun hT=>?_)
 have hT9:=Lib.hid hT
 clear hT
 repeat (first
  | (refine Ord.ch_value (v:=?_) hT9.out (by decide) (by rfl) ?_ ?_; rotate_left; (focus (intro w5 hS; obtain ⟨hS0,n9,hS1⟩:=hS; have r:=Blk.rule hS1; unfold laneC at r; go_simp<;>with_reducible rfl)); (try simp only [Act.put,zA,zZ,zS]))
  | (refine Ord.ch_off hT9.out (by decide) (by rfl) ?_; (try simp only [Act.put,zA,zZ,zS]))
  | (refine Ord.ch_call (v:=?_) (f:=?_) (args:=?_) hT9.out (by decide) (by rfl) ?_ ?_ ?_; rotate_left 3; (focus (intro w5 hS; obtain ⟨hS0,n9,hS1⟩:=hS; have r:=Blk.rule hS1; unfold laneC at r; go_simp; constructor<;>with_reducible rfl)); (focus (intro w5 hS; (first | (obtain ⟨hS0,n9,hS1⟩:=hS; with_reducible refine (nextLink_l hlv hS1).mono ?_; rintro e w6 ⟨rfl,hb6⟩; constructor; with_reducible rfl; exact ⟨⟨hS0.trans (hb6.mono hS0.size),n9,hS1.under hb6⟩,fun k h=>h.over hb6⟩)))); (try simp only [Act.put,zA,zZ,zS])))
 refine Ord.ch_turn (v:=.agg #[.int .u64 v,.int .i64 0,.bool false]) 0 hT9.out rfl (by decide) (Or.inl rfl) (by rfl) ?_ ?_
 ·rintro w5 hC5 hA5
  replace hA5:Env w0 (boxI a (laneC S.c lv key vs nx st x y z W C X wd pf pv)::LT S R) w5:=hA5
  go_simp
  rw [method_load]
  simp only [Result.andThen_ok]
  go_simp
  simp only [Ord.LandsIn]
  have hl:=load_w 5 C (7+lv) 0 HWF.out 3 4 (by decide) hA5 rfl rfl
  rw [HX.out] at hl
  refine hl.mono ?_
  rintro e w6 ⟨rfl,hE6⟩
  exact ⟨rfl,⟨hE6.below,_,hE6.get 0 rfl⟩,hE6⟩
 (try simp only [Act.put,zA,zZ,zS])
 repeat (first
  | (refine Ord.ch_value (v:=?_) hT9.out (by decide) (by rfl) ?_ ?_; rotate_left; (focus (intro w5 hS; skip; go_simp<;>with_reducible rfl)); (try simp only [Act.put,zA,zZ,zS]))
  | (refine Ord.ch_off hT9.out (by decide) (by rfl) ?_; (try simp only [Act.put,zA,zZ,zS])))
 refine Ord.ch_turn (v:=undef) 1 hT9.out rfl (by decide) (Or.inr ⟨_,rfl,by kernel_rfl⟩) (by rfl) ?_ ?_
 ·rintro w5 hC5 hA5
  replace hA5:Env w0 (boxI a (laneC S.c lv key vs nx st x y z W C X wd pf pv)::LT { S with qc:={ S.qc with l:=wrap64 (S.qc.l+1) } } R) w5:=hA5
  have r:=hA5.rule 0 rfl
  unfold laneC at r
  have g0:=hA5.thaw 0 rfl 15 (by simp [laneC])
  have g1:=hA5.thaw 0 rfl 16 (by simp [laneC])
  have g2:=hA5.thaw 0 rfl 17 (by simp [laneC])
  go_simp
  have h9:=(((hA5.put 0 rfl (j:=15) (by simp [laneC]) (.int .u64 v)).put 0 rfl (j:=16) (by simp [laneC]) (.int .i64 0)).put 0 rfl (j:=17) (by simp [laneC]) (.bool false))
  replace h9:Env w0 (boxI a (laneC S.c lv key vs nx st x y z W C v wd pf pv)::LT { S with qc:={ S.qc with l:=wrap64 (S.qc.l+1) } } R) _:=h9
  exact ⟨rfl,⟨h9.below,_,h9.get 0 rfl⟩,h9⟩
 (try simp only [Act.put,zA,zZ,zS])
 repeat (first
  | (refine Ord.ch_value (v:=?_) hT9.out (by decide) (by rfl) ?_ ?_; rotate_left; (focus (intro w5 hS; skip; go_simp<;>with_reducible rfl)); (try simp only [Act.put,zA,zZ,zS]))
  | (refine Ord.ch_off hT9.out (by decide) (by rfl) ?_; (try simp only [Act.put,zA,zZ,zS])))
 refine Ord.InText.nil fun w5 hS=>?_
 clear hT9
 obtain ⟨hC9,hA9⟩:=Ord.chain_end hS
 clear hS
 replace hA9:Env w0 (boxI a (laneC S.c lv key vs nx st x y z W C v wd pf pv)::LT { S with qc:={ S.qc with l:=wrap64 (S.qc.l+1) } } R) w5:=hA9
 clear hE hC9
 have r:=hA9.rule 0 rfl
 unfold laneC at r
 go_wp2_with fail
 refine (validate_l _ _ _ (by simp [laneC]) hA9).mono ?_
 rintro o w6 ⟨rfl,b1,b2,hE6⟩
 go_wp2_with fail
 go_ret
 exact ⟨rfl,b1,b2,hE6⟩
theorem loadKey_l (v:Int) (hfx:S.f (5,C,3)=v) (hwf:Wf (5,C,3)) (hE:Env w0 (boxI a (laneC S.c lv key vs nx st x y z W C X wd pf pv)::LT S R) w) :
  Calls Tryz.prog 253 #[.pointer (some ⟨a,0,none⟩),.iface 26 (.pointer (some ⟨S.p,0,none⟩))] w fun o w'=>o=.returned (.int .i64 0)/\∃ b1 b2,Env w0 (boxI a (laneC S.c lv key vs (cvL b1 b2) st x y z W C X v pf pv)::boxI b1 [.pointer (some ⟨a,0,none⟩)]::boxI b2 [mvL 265 a]::LT { S with qc:={ S.qc with l:=wrap64 (S.qc.l+1) } } R) w':=by
 have hmf:=makeF
 have hah:=ahead_load
 have hvw:=val_word
 have HX:=Lib.hid hfx
 have HWF:=Lib.hid hwf
 clear hfx hwf
 go_enter Tryz.func253,Tryz.ntmps253
 go_wp2_with fail
 refine Ord.wp_chain [7,11] (fun u=>Below w0.heap.size w0 u/\∃ n8,Blk 0 u a (laneC S.c lv key vs nx st x y z W C X n8 pf pv)) (fun k w'=>Env w0 (pick3 (boxI a (laneC S.c lv key vs nx st x y z W C X wd pf pv)::LT S R) (boxI a (laneC S.c lv key vs nx st x y z W C X wd pf pv)::LT { S with qc:={ S.qc with l:=wrap64 (S.qc.l+1) } } R) (boxI a (laneC S.c lv key vs nx st x y z W C X v pf pv)::LT { S with qc:={ S.qc with l:=wrap64 (S.qc.l+1) } } R) k) w') (by kernel_rfl) (by kernel_rfl) (by kernel_rfl) ⟨hE.drew.below,wd,hE.drew.get 0 rfl⟩ hE.drew (fun hT=>?_)
 have hT9:=Lib.hid hT
 clear hT
 repeat (first
  | (refine Ord.ch_value (v:=?_) hT9.out (by decide) (by rfl) ?_ ?_; rotate_left; (focus (intro w5 hS; obtain ⟨hS0,n9,hS1⟩:=hS; have r:=Blk.rule hS1; unfold laneC at r; go_simp<;>with_reducible rfl)); (try simp only [Act.put,zA,zZ,zS]))
  | (refine Ord.ch_off hT9.out (by decide) (by rfl) ?_; (try simp only [Act.put,zA,zZ,zS]))
  | (refine Ord.ch_call (v:=?_) (f:=?_) (args:=?_) hT9.out (by decide) (by rfl) ?_ ?_ ?_; rotate_left 3; (focus (intro w5 hS; obtain ⟨hS0,n9,hS1⟩:=hS; have r:=Blk.rule hS1; unfold laneC at r; go_simp; constructor<;>with_reducible rfl)); (focus (intro w5 hS; (first | (obtain ⟨hS0,n9,hS1⟩:=hS; with_reducible refine (part_l 3 hS1).mono ?_; rintro e w6 ⟨rfl,hb6⟩; constructor; with_reducible rfl; exact ⟨⟨hS0.trans (hb6.mono hS0.size),n9,hS1.under hb6⟩,fun k h=>h.over hb6⟩)))); (try simp only [Act.put,zA,zZ,zS])))
 refine Ord.ch_turn (v:=.agg #[.int .u64 v,.int .i64 0,.bool false]) 0 hT9.out rfl (by decide) (Or.inl rfl) (by rfl) ?_ ?_
 ·rintro w5 hC5 hA5
  replace hA5:Env w0 (boxI a (laneC S.c lv key vs nx st x y z W C X wd pf pv)::LT S R) w5:=hA5
  go_simp
  rw [method_load]
  simp only [Result.andThen_ok]
  go_simp
  simp only [Ord.LandsIn]
  have hl:=load_w 5 C 3 0 HWF.out 3 4 (by decide) hA5 rfl rfl
  rw [HX.out] at hl
  refine hl.mono ?_
  rintro e w6 ⟨rfl,hE6⟩
  exact ⟨rfl,⟨hE6.below,_,hE6.get 0 rfl⟩,hE6⟩
 (try simp only [Act.put,zA,zZ,zS])
 repeat (first
  | (refine Ord.ch_value (v:=?_) hT9.out (by decide) (by rfl) ?_ ?_; rotate_left; (focus (intro w5 hS; skip; go_simp<;>with_reducible rfl)); (try simp only [Act.put,zA,zZ,zS]))
  | (refine Ord.ch_off hT9.out (by decide) (by rfl) ?_; (try simp only [Act.put,zA,zZ,zS])))
 refine Ord.ch_turn (v:=undef) 1 hT9.out rfl (by decide) (Or.inr ⟨_,rfl,by kernel_rfl⟩) (by rfl) ?_ ?_
 ·rintro w5 hC5 hA5
  replace hA5:Env w0 (boxI a (laneC S.c lv key vs nx st x y z W C X wd pf pv)::LT { S with qc:={ S.qc with l:=wrap64 (S.qc.l+1) } } R) w5:=hA5
  have r:=hA5.rule 0 rfl
  unfold laneC at r
  have g0:=hA5.thaw 0 rfl 18 (by simp [laneC])
  go_simp
  have h9:=(hA5.put 0 rfl (j:=18) (by simp [laneC]) (.int .u64 v))
  replace h9:Env w0 (boxI a (laneC S.c lv key vs nx st x y z W C X v pf pv)::LT { S with qc:={ S.qc with l:=wrap64 (S.qc.l+1) } } R) _:=h9
  exact ⟨rfl,⟨h9.below,_,h9.get 0 rfl⟩,h9⟩
 (try simp only [Act.put,zA,zZ,zS])
 repeat (first
  | (refine Ord.ch_value (v:=?_) hT9.out (by decide) (by rfl) ?_ ?_; rotate_left; (focus (intro w5 hS; skip; go_simp<;>with_reducible rfl)); (try simp only [Act.put,zA,zZ,zS]))
  | (refine Ord.ch_off hT9.out (by decide) (by rfl) ?_; (try simp only [Act.put,zA,zZ,zS])))
 refine Ord.InText.nil fun w5 hS=>?_
 clear hT9
 obtain ⟨hC9,hA9⟩:=Ord.chain_end hS
 clear hS
 replace hA9:Env w0 (boxI a (laneC S.c lv key vs nx st x y z W C X v pf pv)::LT { S with qc:={ S.qc with l:=wrap64 (S.qc.l+1) } } R) w5:=hA9
 clear hE hC9
 have r:=hA9.rule 0 rfl
 unfold laneC at r
 go_wp2_with fail
 refine (validate_l _ _ _ (by simp [laneC]) hA9).mono ?_
 rintro o w6 ⟨rfl,b1,b2,hE6⟩
 go_wp2_with fail
 go_ret
 exact ⟨rfl,b1,b2,hE6⟩
theorem loadVal_l (v:Int) (hfx:S.f (5,C,4)=v) (hwf:Wf (5,C,4)) (hE:Env w0 (boxI a (laneC S.c lv key vs nx st x y z W C X wd pf pv)::LT S R) w) :
  Calls Tryz.prog 274 #[.pointer (some ⟨a,0,none⟩),.iface 26 (.pointer (some ⟨S.p,0,none⟩))] w fun o w'=>o=.returned (.int .i64 0)/\∃ b1 b2,Env w0 (boxI a (laneC S.c lv key vs (cvL b1 b2) st x y z W C X v pf pv)::boxI b1 [.pointer (some ⟨a,0,none⟩)]::boxI b2 [mvL 277 a]::LT { S with qc:={ S.qc with l:=wrap64 (S.qc.l+1) } } R) w':=by
 have hmf:=makeF
 have hah:=ahead_load
 have hvw:=val_word
 have HX:=Lib.hid hfx
 have HWF:=Lib.hid hwf
 clear hfx hwf
 go_enter Tryz.func274,Tryz.ntmps274
 go_wp2_with fail
 refine Ord.wp_chain [7,11] (fun u=>Below w0.heap.size w0 u/\∃ n8,Blk 0 u a (laneC S.c lv key vs nx st x y z W C X n8 pf pv)) (fun k w'=>Env w0 (pick3 (boxI a (laneC S.c lv key vs nx st x y z W C X wd pf pv)::LT S R) (boxI a (laneC S.c lv key vs nx st x y z W C X wd pf pv)::LT { S with qc:={ S.qc with l:=wrap64 (S.qc.l+1) } } R) (boxI a (laneC S.c lv key vs nx st x y z W C X v pf pv)::LT { S with qc:={ S.qc with l:=wrap64 (S.qc.l+1) } } R) k) w') (by kernel_rfl) (by kernel_rfl) (by kernel_rfl) ⟨hE.drew.below,wd,hE.drew.get 0 rfl⟩ hE.drew (fun hT=>?_)
 have hT9:=Lib.hid hT
 clear hT
 repeat (first
  | (refine Ord.ch_value (v:=?_) hT9.out (by decide) (by rfl) ?_ ?_; rotate_left; (focus (intro w5 hS; obtain ⟨hS0,n9,hS1⟩:=hS; have r:=Blk.rule hS1; unfold laneC at r; go_simp<;>with_reducible rfl)); (try simp only [Act.put,zA,zZ,zS]))
  | (refine Ord.ch_off hT9.out (by decide) (by rfl) ?_; (try simp only [Act.put,zA,zZ,zS]))
  | (refine Ord.ch_call (v:=?_) (f:=?_) (args:=?_) hT9.out (by decide) (by rfl) ?_ ?_ ?_; rotate_left 3; (focus (intro w5 hS; obtain ⟨hS0,n9,hS1⟩:=hS; have r:=Blk.rule hS1; unfold laneC at r; go_simp; constructor<;>with_reducible rfl)); (focus (intro w5 hS; (first | (obtain ⟨hS0,n9,hS1⟩:=hS; with_reducible refine (part_l 4 hS1).mono ?_; rintro e w6 ⟨rfl,hb6⟩; constructor; with_reducible rfl; exact ⟨⟨hS0.trans (hb6.mono hS0.size),n9,hS1.under hb6⟩,fun k h=>h.over hb6⟩)))); (try simp only [Act.put,zA,zZ,zS])))
 refine Ord.ch_turn (v:=.agg #[.int .u64 v,.int .i64 0,.bool false]) 0 hT9.out rfl (by decide) (Or.inl rfl) (by rfl) ?_ ?_
 ·rintro w5 hC5 hA5
  replace hA5:Env w0 (boxI a (laneC S.c lv key vs nx st x y z W C X wd pf pv)::LT S R) w5:=hA5
  go_simp
  rw [method_load]
  simp only [Result.andThen_ok]
  go_simp
  simp only [Ord.LandsIn]
  have hl:=load_w 5 C 4 0 HWF.out 3 4 (by decide) hA5 rfl rfl
  rw [HX.out] at hl
  refine hl.mono ?_
  rintro e w6 ⟨rfl,hE6⟩
  exact ⟨rfl,⟨hE6.below,_,hE6.get 0 rfl⟩,hE6⟩
 (try simp only [Act.put,zA,zZ,zS])
 repeat (first
  | (refine Ord.ch_value (v:=?_) hT9.out (by decide) (by rfl) ?_ ?_; rotate_left; (focus (intro w5 hS; skip; go_simp<;>with_reducible rfl)); (try simp only [Act.put,zA,zZ,zS]))
  | (refine Ord.ch_off hT9.out (by decide) (by rfl) ?_; (try simp only [Act.put,zA,zZ,zS])))
 refine Ord.ch_turn (v:=undef) 1 hT9.out rfl (by decide) (Or.inr ⟨_,rfl,by kernel_rfl⟩) (by rfl) ?_ ?_
 ·rintro w5 hC5 hA5
  replace hA5:Env w0 (boxI a (laneC S.c lv key vs nx st x y z W C X wd pf pv)::LT { S with qc:={ S.qc with l:=wrap64 (S.qc.l+1) } } R) w5:=hA5
  have r:=hA5.rule 0 rfl
  unfold laneC at r
  have g0:=hA5.thaw 0 rfl 18 (by simp [laneC])
  go_simp
  have h9:=(hA5.put 0 rfl (j:=18) (by simp [laneC]) (.int .u64 v))
  replace h9:Env w0 (boxI a (laneC S.c lv key vs nx st x y z W C X v pf pv)::LT { S with qc:={ S.qc with l:=wrap64 (S.qc.l+1) } } R) _:=h9
  exact ⟨rfl,⟨h9.below,_,h9.get 0 rfl⟩,h9⟩
 (try simp only [Act.put,zA,zZ,zS])
 repeat (first
  | (refine Ord.ch_value (v:=?_) hT9.out (by decide) (by rfl) ?_ ?_; rotate_left; (focus (intro w5 hS; skip; go_simp<;>with_reducible rfl)); (try simp only [Act.put,zA,zZ,zS]))
  | (refine Ord.ch_off hT9.out (by decide) (by rfl) ?_; (try simp only [Act.put,zA,zZ,zS])))
 refine Ord.InText.nil fun w5 hS=>?_
 clear hT9
 obtain ⟨hC9,hA9⟩:=Ord.chain_end hS
 clear hS
 replace hA9:Env w0 (boxI a (laneC S.c lv key vs nx st x y z W C X v pf pv)::LT { S with qc:={ S.qc with l:=wrap64 (S.qc.l+1) } } R) w5:=hA9
 clear hE hC9
 have r:=hA9.rule 0 rfl
 unfold laneC at r
 go_wp2_with fail
 refine (validate_l _ _ _ (by simp [laneC]) hA9).mono ?_
 rintro o w6 ⟨rfl,b1,b2,hE6⟩
 go_wp2_with fail
 go_ret
 exact ⟨rfl,b1,b2,hE6⟩
end
theorem AF_over {w0 w w':World} {z0:List Value} {St:List Value->List Item->List Value->Prop} {κs:List Value} {fo:Option Value} (h:OrdF.AF w0 z0 St κs fo w) (hb:Below w.heap.size w w'):OrdF.AF w0 z0 St κs fo w':=by
 obtain ⟨L,zs,hst,⟨h1,h2,hE⟩ | ⟨n,hn,hE⟩⟩:=h
 ·exact ⟨L,zs,hst,.inl ⟨h1,h2,hE.over hb⟩⟩
 ·exact ⟨L,zs,hst,.inr ⟨n,hn,hE.over hb⟩⟩
end Go.Proofs.YthcblagpbkaoaaaGreatDoor
namespace Go.Proofs.YthcblagpbkaoaaaGreatDoor
open Go
set_option maxRecDepth 100000
set_option maxHeartbeats 25600000
section
variable {P:Program} {ops:Array Oper} {Q:Exit->Act->World->Prop} {md:Region.Mode} {S:World->Prop}
def LandsIn (P:Program) (S:World->Prop) (v:Value):Result Next->Prop
 | .ok (.value u) w'=>u=v/\S w'
 | .ok .skip w'=>v=undef/\S w'
 | .ok (.enter f args) w'=>Calls P f args w' fun e w''=>e=.returned v/\S w''
 | _=>False
def Settles (P:Program) (ops:Array Oper) (S:World->Prop) (o:Oper) (v:Value) (a:Act):Prop :=
 (Region.wanted o (yielded ops a.tmps)=true/\∀ w,S w->LandsIn P S v ((execOp a.eval o).run P w))\/(Region.wanted o (yielded ops a.tmps)=false/\v=undef)
theorem Settles.of_same {o:Oper} {v:Value} {a a':Act} (h:Settles P ops S o v a) (he:execOp a'.eval o=execOp a.eval o)
  (hw:Region.wanted o (yielded ops a'.tmps)=Region.wanted o (yielded ops a.tmps)):Settles P ops S o v a':=by
 unfold Settles at *
 rw [he,hw]
 exact h
theorem Settles.wpOp {i:Nat} {o:Oper} {v:Value} {a:Act} (hi:ops[i]?=some o) (h:Settles P ops S o v a) {K:Act->World->Prop} {w:World} (hS:S w)
  (hK:∀ w',S w'->K (a.put o.dst v) w'):wpOp P ops Q i K a w:=by
 unfold Go.wpOp
 simp only [hi]
 rcases h with ⟨hw,hv⟩ | ⟨hw,rfl⟩
 ·simp only [hw,if_true]
  have:=hv w hS
  refine .inl ?_
  unfold Oper.wp
  generalize (execOp a.eval o).run P w=r at *
  cases r with
  | ok n w' =>
   cases n<;>simp only [LandsIn] at this<;>simp only [Oper.upon]
   case value u=>obtain ⟨rfl,h2⟩:=this; exact hK _ h2
   case skip=>obtain ⟨rfl,h2⟩:=this; exact hK _ h2
   case enter f args =>
    refine Calls.mono this fun e w'' he=>?_
    obtain ⟨rfl,h2⟩:=he
    exact hK _ h2
  | halt x w'=>simp only [LandsIn] at this
 ·simp only [hw,Bool.false_eq_true,if_false]
  exact hK _ hS
def Every (P:Program) (md:Region.Mode) (ops:Array Oper) (Q:Exit->Act->World->Prop) (S:World->Prop):Nat->Array Bool->Act->Prop
 | 0,listed,a=>Region.ready md ops listed=[]/\∀ w,S w->Q .normal a w
 | fuel+1,listed,a=>(Region.ready md ops listed=[]->∀ w,S w->Q .normal a w) /\
  ∀ i∈Region.ready md ops listed,∃ o v,ops[i]?=some o/\Settles P ops S o v a/\Every P md ops Q S fuel (listed.setIfInBounds i true) (a.put o.dst v)
theorem Every.sound:∀ (fuel:Nat) (listed:Array Bool) (a:Act),Every P md ops Q S fuel listed a->∀ w,S w->wpAny P md ops Q fuel listed a w
 | 0,_,_,h,w,hS=>⟨h.1,h.2 w hS⟩
 | fuel+1,listed,a,h,w,hS=>⟨fun h0=>h.1 h0 w hS,fun i hi=>by
   obtain ⟨o,v,ho,hs,hE⟩:=h.2 i hi
   exact hs.wpOp ho hS fun w' hS'=>Every.sound fuel _ _ hE w' hS'⟩
theorem Every.first {i:Nat} {oi:Oper} {v:Value} (hi:ops[i]?=some oi) (hsel:∀ (j:Nat) (o:Oper) cs b,ops[j]?=some o->o.op≠.select cs b) :
  ∀ (fuel:Nat) (listed:Array Bool) (a:Act),
   (∀ j oj,ops[j]?=some oj->j≠i->listed.getD j true=false->(∀ e∈oj.after,Region.binds md e=true->e.on≠i)->oi.apart ops oj=true) ->
   i∈Region.ready md ops listed->Settles P ops S oi v a ->
   Every P md ops Q S fuel (listed.setIfInBounds i true) (a.put oi.dst v)->Every P md ops Q S (fuel+1) listed a:=by
 intro fuel
 induction fuel with
 | zero =>
  intro listed a _ hr hy H
  refine ⟨fun h=>(by rw [h] at hr; cases hr),fun j hj=>?_⟩
  by_cases hji:j=i
  ·subst hji; exact ⟨oi,v,hi,hy,H⟩
  ·have:=ready_mono hj hji
   rw [H.1] at this
   cases this
 | succ fuel ih =>
  intro listed a hfree hr hy H
  refine ⟨fun h=>(by rw [h] at hr; cases hr),fun j hj=>?_⟩
  by_cases hji:j=i
  ·subst hji; exact ⟨oi,v,hi,hy,H⟩
  ·obtain ⟨oj,u,hoj,hsj,hE⟩:=H.2 j (ready_mono hj hji)
   obtain ⟨hjun,oj',hoj',hall⟩:=mem_ready.1 hj
   obtain rfl:oj=oj':=Option.some.inj (hoj.symm.trans hoj')
   have hnot:∀ e∈oj.after,Region.binds md e=true->e.on≠i:=fun e he hb heq=>by
    have h1:=hall e he hb
    have h0:=(mem_ready.1 hr).1
    rw [heq] at h1
    rcases Nat.lt_or_ge i listed.size with h' | h'
    ·simp [h'] at h0 h1; rw [h0] at h1; cases h1
    ·simp [Array.getElem?_eq_none h'] at h1
   have hap:=hfree j oj hoj hji hjun hnot
   obtain ⟨p1,p2,p3⟩:=Oper.apart_spec hap
   have hfree':∀ k ok,ops[k]?=some ok->k≠i->(listed.setIfInBounds j true).getD k true=false ->
     (∀ e∈ok.after,Region.binds md e=true->e.on≠i)->oi.apart ops ok=true:=fun k ok hk hki hun hno=>by
    refine hfree k ok hk hki ?_ hno
    by_cases hjk:j=k
    ·subst hjk; exact hjun
    ·rw [getD_set_ne true hjk] at hun; exact hun
   refine ⟨oj,u,hoj,hsj.of_same (execOp_put oj (fun cs b=>hsel j oj cs b hoj) a oi.dst v p1).symm (wanted_put oj a oi.dst v p1).symm,?_⟩
   refine ih (listed.setIfInBounds j true) (a.put oj.dst u) hfree' (ready_mono hr (Ne.symm hji)) (hy.of_same (execOp_put oi (fun cs b=>hsel i oi cs b hi) a oj.dst u p3) (wanted_put oi a oj.dst u p3)) ?_
   rw [Array.setIfInBounds_comm _ _ hji,<- Act.put_comm a v u p2]
   exact hE
def firstK (n k:Nat):Array Bool:=Array.ofFn (n:=n) fun i=>decide (i.1 < k)
def textFits (md:Region.Mode) (ops:Array Oper):Bool :=
 Region.noSelect ops && (List.range ops.size).all fun k=>Region.free md ops (firstK ops.size k) k && (Region.ready md ops (firstK ops.size k)).contains k
def InText (P:Program) (md:Region.Mode) (ops:Array Oper) (Q:Exit->Act->World->Prop) (S:World->Prop) (rest:List Oper) (a:Act):Prop :=
 ∀ k,k+rest.length=ops.size->ops.toList.drop k=rest->Every P md ops Q S rest.length (firstK ops.size k) a
theorem firstK_succ (n k:Nat):(firstK n k).setIfInBounds k true=firstK n (k+1):=by
 apply Array.ext
 ·simp [firstK]
 ·intro i h1 h2
  by_cases hik:i=k
  ·subst hik
   simp [firstK]
  ·have e:=Array.getElem_setIfInBounds_ne (xs:=firstK n k) (i:=k) (j:=i) (a:=true) (by simpa using h1) (by omega)
   rw [e]
   simp only [firstK,Array.getElem_ofFn]
   congr 1
   apply propext
   omega
theorem InText.nil {a:Act} (h:∀ w,S w->Q .normal a w):InText P md ops Q S [] a:=fun k hk _=>by
 refine ⟨?_,h⟩
 have hk':k=ops.size:=by simpa using hk
 subst hk'
 unfold Region.ready
 rw [List.filter_eq_nil_iff]
 intro i hi
 have:i < ops.size:=by simpa using hi
 simp [firstK,this]
theorem InText.cons {o:Oper} {rest:List Oper} {a:Act} {v:Value} (hf:textFits md ops=true) (hs:Settles P ops S o v a) (h:InText P md ops Q S rest (a.put o.dst v)):InText P md ops Q S (o::rest) a:=fun k hk hd=>by
 unfold textFits at hf
 rw [Bool.and_eq_true,List.all_eq_true] at hf
 have hlt:k < ops.size:=by simp at hk; omega
 have hf2:=hf.2 k (by simpa using hlt)
 rw [Bool.and_eq_true] at hf2
 have ho:ops[k]?=some o:=by
  have h0:(ops.toList.drop k)[0]?=some o:=by rw [hd]; rfl
  simpa using h0
 have hsel:∀ (j:Nat) (o:Oper) cs b,ops[j]?=some o->o.op≠.select cs b:=Region.noSelect_spec hf.1
 refine Every.first ho hsel rest.length (firstK ops.size k) a (Region.free_spec ho hf2.1) (by simpa using hf2.2) hs ?_
 rw [firstK_succ]
 refine h (k+1) (by simp at hk; omega) ?_
 rw [<- List.drop_drop,hd]
 rfl
theorem wp_text {id:Nat} {a:Act} {w:World} (hm:P.follows .mixedOrders=true) (hf:textFits .any ops=true) (hS:S w.drew) (h:textFits .any ops=true->InText P .any ops Q S ops.toList a):(Code.region id ops true).wp P Q a w :=
 wp_region_any hm (by
  have h0:=h hf 0 (by simp) rfl
  have e:firstK ops.size 0=Array.replicate ops.size false:=by
   apply Array.ext
   ·simp [firstK]
   ·intro i h1 h2; simp [firstK]
  rw [e] at h0
  simpa using Every.sound _ _ _ h0 _ hS)
theorem text_value {o:Oper} {rest:List Oper} {a:Act} {v:Value} (hf:textFits md ops=true) (hw:Region.wanted o (yielded ops a.tmps)=true) (hv:∀ w,S w->(execOp a.eval o).run P w=.ok (.value v) w)
  (h:InText P md ops Q S rest (a.put o.dst v)):InText P md ops Q S (o::rest) a :=
 InText.cons hf (Or.inl ⟨hw,fun w hS=>by rw [hv w hS]; exact ⟨rfl,hS⟩⟩) h
theorem text_off {o:Oper} {rest:List Oper} {a:Act} (hf:textFits md ops=true) (hw:Region.wanted o (yielded ops a.tmps)=false) (h:InText P md ops Q S rest (a.put o.dst undef)):InText P md ops Q S (o::rest) a :=
 InText.cons hf (Or.inr ⟨hw,rfl⟩) h
theorem text_call {o:Oper} {rest:List Oper} {a:Act} {v:Value} {f:FuncId} {args:Array Value} (hf:textFits md ops=true) (hw:Region.wanted o (yielded ops a.tmps)=true) (hr:∀ w,S w->(execOp a.eval o).run P w=.ok (.enter f args) w)
  (hc:∀ w,S w->Calls P f args w fun e w'=>e=.returned v/\S w') (h:InText P md ops Q S rest (a.put o.dst v)):InText P md ops Q S (o::rest) a :=
 InText.cons hf (Or.inl ⟨hw,fun w hS=>by rw [hr w hS]; exact hc w hS⟩) h
end
end Go.Proofs.YthcblagpbkaoaaaGreatDoor
