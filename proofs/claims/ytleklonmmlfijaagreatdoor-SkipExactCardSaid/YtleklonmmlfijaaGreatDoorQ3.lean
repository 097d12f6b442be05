/- What is proved on the way to the statement, part 3: contracts of the functions, among other things in memory. -/
import Derived.Test.YtleklonmmlfijaaGreatDoorQ2
import Derived.WalkKit
import Derived.Orders
import Derived.Test.YtleklonmmlfijaaGreatDoorChecked
import Derived.Laws.EntriesVeiled

open _root_.Go.Proofs.Tryz
set_option maxRecDepth 100000
set_option maxHeartbeats 25600000
namespace Go.Proofs.YtleklonmmlfijaaGreatDoor
section
open Go.RowKit
def aA (x:Int):Int:=x / 1099511627776 % 8388608
def dr (x:Int):Int:=x % 1099511627776
def cO (x:Int):Bool:=decide (9223372036854775808<=x)
def lD (s:Int):Bool:=decide (0<=s/\s<=8388607)
def il (s v:Int):Bool:=decide (0<=s/\s<=8388607/\0<=v/\v<=1099511627775)
def mI (m:Bool):Int:=if m then 9223372036854775808 else 0
def aP (m:Bool) (s v:Int):Int:=if il s v then v+s * 1099511627776+mI m else 0
theorem u5 {s v:Int} (h:il s v=true):0<=s/\s<=8388607/\0<=v/\v<=1099511627775:=by simpa [il] using h
theorem I4 {s v:Int} (h1:0<=s) (h2:s<=8388607) (h3:0<=v) (h4:v<=1099511627775):il s v=true:=by simp[il,h1,h2,h3,h4]
theorem Dn {s:Int} (h:lD s=true):0<=s/\s<=8388607:=by simpa [lD] using h
theorem nV (x:Int):0<=aA x/\aA x<=8388607:=by unfold aA;omega
theorem tu (x:Int):0<=dr x/\dr x<=1099511627775:=by unfold dr;omega
theorem kN (m:Bool) (s v:Int):0<=aP m s v/\aP m s v<=18446744073709551615:=by
 unfold aP
 split
 ·have:=u5 ‹_›;cases m<;>simp[mI]<;>omega
 ·omega
theorem tw {m:Bool} {s v:Int} (h:il s v=true):aP m s v=v+s * 1099511627776+mI m:=by simp[aP,h]
theorem zu {m:Bool} {s v:Int} (h:il s v=false):aP m s v=0:=by simp[aP,h]
theorem zv {m:Bool} {s v:Int} (h:il s v=true):aA (aP m s v)=s:=by
 have:=u5 h;rw[tw h];cases m<;>simp only[mI,aA,if_true,if_false,Bool.false_eq_true]<;>omega
theorem SY {m:Bool} {s v:Int} (h:il s v=true):cO (aP m s v)=m:=by
 have:=u5 h;rw[tw h];cases m<;>simp only[mI,cO,if_true,if_false,Bool.false_eq_true,decide_eq_true_eq,decide_eq_false_iff_not]<;>omega
theorem I5 (x:Int) (h0:0<=x):lZ 0 40 x=dr x:=by
 obtain⟨X,rfl⟩:=Int.eq_ofNat_of_zero_le h0;simp only[lZ,show gA 0 40=true from rfl,if_true,u0,dr,Int.toNat_natCast];simp
theorem I6 (x:Int) (h0:0<=x):lZ 40 23 x=aA x:=by
 obtain⟨X,rfl⟩:=Int.eq_ofNat_of_zero_le h0;simp only[lZ,show gA 40 23=true from rfl,if_true,u0,aA,Int.toNat_natCast];simp
theorem I7 (x:Int) (h0:0<=x):lZ 63 1 x=x / 9223372036854775808 % 2:=by
 obtain⟨X,rfl⟩:=Int.eq_ofNat_of_zero_le h0;simp only[lZ,show gA 63 1=true from rfl,if_true,u0,Int.toNat_natCast];simp
theorem I8 (x:Int) (h0:0<=x) (h1:x<=18446744073709551615):decide (lZ 63 1 x=1)=cO x:=by
 rw[I7 x h0];unfold cO
 by_cases h:9223372036854775808<=x
 ·simp only[h,decide_true,decide_eq_true_eq];omega
 ·simp only[h,decide_false,decide_eq_false_iff_not];omega
theorem zw {A B W X:Nat} (nU:A+B<=64) (hW:W < 2 ^ A):wO A B W X=W+X * 2 ^ A:=by
 have e1:W &&& (18446744073709551615 - oQ A B)=W:=by
  apply Nat.eq_of_testBit_eq;intro i;rw[Nat.testBit_and,I0 (zl nU),IY]
  by_cases hi:i < A
  ·have h1:¬ A<=i:=by omega
   have h2:i < 64:=by omega
   simp[h1,h2]
  ·have:=Nat.testBit_lt_two_pow (Nat.lt_of_lt_of_le hW (Nat.pow_le_pow_right (n:=2) (by omega) (show A<=i by omega)));simp[this]
 unfold wO;rw[e1,Nat.or_comm,Nat.mul_comm,<- Nat.two_pow_add_eq_or_of_lt hW];omega
theorem I9 (v:Int) (h0:0<=v):oR 0 40 0 v=v:=by
 obtain⟨V,rfl⟩:=Int.eq_ofNat_of_zero_le h0;have:=zw (A:=0) (B:=40) (W:=0) (X:=V) (by omega) (by simp);simp only[oR,Int.toNat_natCast,Int.toNat_zero,show (40:Int).toNat=40 from rfl];rw[this];simp
theorem Ja (v s:Int) (h0:0<=v) (h1:v<=1099511627775) (h2:0<=s):oR 40 23 v s=v+s * 1099511627776:=by
 obtain⟨V,rfl⟩:=Int.eq_ofNat_of_zero_le h0;obtain⟨S,rfl⟩:=Int.eq_ofNat_of_zero_le h2;have:=zw (A:=40) (B:=23) (W:=V) (X:=S) (by omega) (by simp;omega);simp only[oR,Int.toNat_natCast,show (40:Int).toNat=40 from rfl,show (23:Int).toNat=23 from rfl];rw[this];simp
theorem Jb (x:Int) (h0:0<=x) (h1:x < 9223372036854775808):oR 63 1 x 1=x+9223372036854775808:=by
 obtain⟨X,rfl⟩:=Int.eq_ofNat_of_zero_le h0;have:=zw (A:=63) (B:=1) (W:=X) (X:=1) (by omega) (by simp;omega);simp only[oR,Int.toNat_natCast,show (63:Int).toNat=63 from rfl,show (1:Int).toNat=1 from rfl];rw[this];simp
theorem tx:lC 0 40=1099511627775/\lC 40 23=8388607/\lC 63 1=1/\gA 0 40=true/\gA 40 23=true/\gA 63 1=true:=by decide +kernel
def rJ (x s:Int):Int:=if lD s then (if dr x=1099511627775 then 7 else 0) else 3
def eh (x s:Int):Int:=if lD s then (if dr x=1099511627775 then 0 else aP false s (dr x+1)) else 0
def ja (x s v:Int):Int:=if cO x then x else aP true s v
def bE (w:World):Prop :=
 (w.cell? ⟨0,0,none⟩=some (.int .i64 0)/\w.cell? ⟨0,1,none⟩=some (.int .i64 40)) /\
 (w.cell? ⟨1,0,none⟩=some (.int .i64 40)/\w.cell? ⟨1,1,none⟩=some (.int .i64 23)) /\
 (w.cell? ⟨2,0,none⟩=some (.int .i64 63)/\w.cell? ⟨2,1,none⟩=some (.int .i64 1)) /\
 0 < w.heap.size/\1 < w.heap.size/\2 < w.heap.size
theorem bE.keep {n:Nat} {w w':World} (h:bE w) (hb:Below n w w') (hn:w.heap.size<=n):bE w':=by
 obtain⟨⟨a0,a1⟩,⟨b0,b1⟩,⟨c0,c1⟩,h1,h2,h3⟩:=h;have:=hb.size;refine⟨⟨?_,?_⟩,⟨?_,?_⟩,⟨?_,?_⟩,by omega,by omega,by omega⟩
 ·rw[hb.cell (p:=⟨_,0,none⟩) (by simp;omega)];exact a0
 ·rw[hb.cell (p:=⟨_,1,none⟩) (by simp;omega)];exact a1
 ·rw[hb.cell (p:=⟨_,0,none⟩) (by simp;omega)];exact b0
 ·rw[hb.cell (p:=⟨_,1,none⟩) (by simp;omega)];exact b1
 ·rw[hb.cell (p:=⟨_,0,none⟩) (by simp;omega)];exact c0
 ·rw[hb.cell (p:=⟨_,1,none⟩) (by simp;omega)];exact c1
theorem bE.keep' {w1 w2:World} (h:bE w1) (hb:Below w1.heap.size w1 w2):bE w2:=h.keep hb (Nat.le_refl _)
theorem bE.alloc {w:World} (h:bE w) (o:Obj):bE (w.alloc o):=h.keep ((Below.refl _ _).alloc (Nat.le_refl _) _) (Nat.le_refl _)
theorem tz (s:Int) (w:World):Calls prog 236 #[.int .i64 s] w fun e w'=>e=.returned (.bool (lD s))/\w=w':=by
 by_cases h1:0<=s
 ·go_enter func236,ntmps236
  go_wp2
  go_ret;exact⟨ig (by simp[lD,h1]),rfl⟩
 ·have hd:decide (0<=s)=false:=by simpa using h1
  go_enter func236,ntmps236
  go_wp2
  go_ret;exact⟨ig (by simp[lD];omega),rfl⟩
theorem Jc (x:Int) (w:World) (hg:bE w) (h0:0<=x) (h1:x<=18446744073709551615) :
  Calls prog 198 #[.int .u64 x] w fun e w'=>e=.returned (.int .i64 (aA x))/\Below w.heap.size w w':=by
 obtain⟨-,⟨c0,c1⟩,-,-,hs,-⟩:=hg;obtain⟨k0,k1⟩:=nV x;have HG:=zH (I6 x h0);go_enter func198,ntmps198;go_wp2_with fail;refine (zq 40 23 x _ (by decide) (by decide) h0 h1).mono ?_;rintro e w1 ⟨rfl,hb⟩;rw[HG.out]
 go_wp2
 go_ret;exact⟨rfl,hb⟩
theorem wP {n:Nat} {w w1 w2:World} {x y z:Value} (c0:w1.cell? ⟨n,0,none⟩=some x) (c1:w1.cell? ⟨n,1,none⟩=some y) (c2:w1.cell? ⟨n,2,none⟩=some z) (hB:Below n w w1) (hs:n < w1.heap.size) (hb:Below w1.heap.size w1 w2) :
  w2.cell? ⟨n,0,none⟩=some x/\w2.cell? ⟨n,1,none⟩=some y/\w2.cell? ⟨n,2,none⟩=some z/\Below n w w2/\n < w2.heap.size :=
 ⟨by rw[hb.cell (p:=⟨n,0,none⟩) hs];exact c0,by rw[hb.cell (p:=⟨n,1,none⟩) hs];exact c1,by rw[hb.cell (p:=⟨n,2,none⟩) hs];exact c2,hB.trans (hb.mono (by omega)),by have:=hb.size;omega⟩
theorem Dp (m:Bool) (s v:Int) (w:World) :
  Calls prog 225 #[.agg #[.bool m,.int .i64 s,.int .i64 v]] w fun e w'=>e=.returned (.bool (il s v))/\Below w.heap.size w w':=by
 cases hS:lD s
 ·have H:=zH hS;go_enter func225,ntmps225;go_wp2_with fail;refine (tz s _).mono ?_;rintro e w1 ⟨rfl,rfl⟩;rw[H.out]
  go_wp2
  go_ret;exact⟨ig (by have:=H.out;simp[lD] at this;simp[il];omega),(Below.refl _ _).alloc (Nat.le_refl _) _⟩
 ·obtain⟨k0,k1⟩:=Dn hS;have H:=zH hS;clear hS
  by_cases h2:0<=v
  ·go_enter func225,ntmps225;go_wp2_with fail;refine (tz s _).mono ?_;rintro e w1 ⟨rfl,rfl⟩;rw[H.out]
   go_wp2
   go_ret;exact⟨ig (by simp[il,h2,k0,k1]),(Below.refl _ _).alloc (Nat.le_refl _) _⟩
  ·have hd:decide (0<=v)=false:=by simpa using h2
   go_enter func225,ntmps225;go_wp2_with fail;refine (tz s _).mono ?_;rintro e w1 ⟨rfl,rfl⟩;rw[H.out]
   go_wp2
   go_ret;exact⟨ig (by simp[il];omega),(Below.refl _ _).alloc (Nat.le_refl _) _⟩
theorem Jd (v:Int) (w:World) (h0:0<=v) (h1:v<=1099511627775) :
  Calls prog 226 #[.agg #[.int .i64 0,.int .i64 40],.int .u64 0,.int .u64 v] w fun e w'=>e=.returned (.tuple #[.int .u64 v,.bool true])/\Below w.heap.size w w':=by
 have:=zr 0 40 0 v w (by decide) (by decide) tx.2.2.2.1 (by decide) (by decide) h0 (by rw[tx.1];exact h1);rw[I9 v h0] at this;exact this
theorem Je (v s:Int) (w:World) (h0:0<=v) (h1:v<=1099511627775) (h2:0<=s) (h3:s<=8388607) :
  Calls prog 226 #[.agg #[.int .i64 40,.int .i64 23],.int .u64 v,.int .u64 s] w fun e w'=>e=.returned (.tuple #[.int .u64 (v+s * 1099511627776),.bool true])/\Below w.heap.size w w':=by
 have:=zr 40 23 v s w (by decide) (by decide) tx.2.2.2.2.1 h0 (by omega) h2 (by rw[tx.2.1];exact h3);rw[Ja v s h0 h1 h2] at this;exact this
theorem put3 (x:Int) (w:World) (h0:0<=x) (h1:x < 9223372036854775808) :
  Calls prog 226 #[.agg #[.int .i64 63,.int .i64 1],.int .u64 x,.int .u64 1] w fun e w'=>e=.returned (.tuple #[.int .u64 (x+9223372036854775808),.bool true])/\Below w.heap.size w w':=by
 have:=zr 63 1 x 1 w (by decide) (by decide) tx.2.2.2.2.2 h0 (by omega) (by decide) (by rw[tx.2.2.1];decide);rw[Jb x h0 h1] at this;exact this
theorem Dq (m:Bool) (s v:Int) (w:World) (hg:bE w) :
  Calls prog 206 #[.agg #[.bool m,.int .i64 s,.int .i64 v]] w fun e w'=>e=.returned (.int .u64 (aP m s v))/\Below w.heap.size w w':=by
 cases h:il s v
 ·have H:=zH h;clear h;go_enter func206,ntmps206;go_wp2_with fail;refine (Dp m s v _).mono ?_;rintro e w1 ⟨rfl,hb⟩;rw[H.out]
  go_wp2
  go_ret;exact⟨iA (zu H.out).symm,((Below.refl _ _).alloc (Nat.le_refl _) _).trans (hb.mono (by simp))⟩
 ·have hp:=u5 h;have H:=zH h;clear h;obtain⟨k0,k1,k2,k3⟩:=hp;have hA:=hg.alloc (.cells #[.bool m,.int .i64 s,.int .i64 v] 260);clear hg;go_enter func206,ntmps206;go_wp2_with fail;refine (Dp m s v _).mono ?_;rintro e w1 ⟨rfl,hb⟩;have gK:=hA.keep' hb;obtain⟨d0,d1,d2,hB,hs⟩:=wP (n:=w.heap.size) (w:=w) (x:=.bool m) (y:=.int .i64 s) (z:=.int .i64 v) (by simp) (by simp) (by simp) ((Below.refl _ _).alloc (Nat.le_refl _) _) (by simp) hb;clear hb hA;rw[H.out];obtain⟨⟨a0,a1⟩,⟨b0,b1⟩,⟨c0,c1⟩,g1,g2,g3⟩:=id gK;go_wp2_with fail;refine (Jd v _ k2 k3).mono ?_;rintro e w2 ⟨rfl,hb⟩;have aU:=gK.keep' hb;obtain⟨e0,e1,e2,oS,ko⟩:=wP d0 d1 d2 hB hs hb;clear hb gK d0 d1 d2 hB hs a0 a1 b0 b1 c0 c1 g1 g2 g3;obtain⟨⟨a0,a1⟩,⟨b0,b1⟩,⟨c0,c1⟩,g1,g2,g3⟩:=id aU;go_wp2_with fail;refine (Je v s _ k2 k3 k0 k1).mono ?_;rintro e w3 ⟨rfl,hb⟩;have zx:=aU.keep' hb;obtain⟨d0,d1,d2,hB,hs⟩:=wP e0 e1 e2 oS ko hb;clear hb aU e0 e1 e2 oS ko a0 a1 b0 b1 c0 c1 g1 g2 g3;obtain⟨⟨a0,a1⟩,⟨b0,b1⟩,⟨c0,c1⟩,g1,g2,g3⟩:=id zx;have q0:0<=v+s * 1099511627776:=by omega
  have q1:v+s * 1099511627776 < 9223372036854775808:=by omega
  cases m
  ·have HW:=zH (tw (m:=false) H.out);clear zx;go_wp2_with fail;go_ret;exact⟨iA (by rw[HW.out];simp[mI]),hB⟩
  ·have HW:=zH (tw (m:=true) H.out);clear zx;go_wp2_with fail;refine (put3 _ _ q0 q1).mono ?_;rintro e w4 ⟨rfl,hb⟩;go_wp2_with fail;go_ret;exact⟨iA (by rw[HW.out];simp[mI]),hB.trans (hb.mono (by omega))⟩
end
section
open Go.RowKit Go.Maps
section
variable {w0 w:World} {L:List Item}
theorem zy (k s b h l:Int) (hc:iN k s b h l=0) (hE:Env w0 L w) :
  Calls prog 13 #[.agg #[zI k,zI s,zI b,zI h,zI l]] w fun o w'=>∃ c q F,o=.returned (zP c)/\Env w0 (dy c k s b h l 0 0 0 0 q::fU q F [] 2::L) w':=by
 have HC:=zH hc;clear hc;have ag:=hE.box w.heap.size rfl [zI k,zI s,zI b,zI h,zI l] 23;clear hE;have r:=ag.rule 0 rfl;go_enter func13,ntmps13;go_wp2_with fail;refine (oP k s b h l _).mono ?_;rintro o w1 ⟨rfl,hb⟩;rw[HC.out];replace ag:=ag.over hb;clear hb r;generalize w.heap.size=X at *;go_wp2_with fail;refine Ord3.wp_chain [?_,?_,?_,?_,?_] [1,2,3,4] (fun w'=>ao 0 w' X [zI k,zI s,zI b,zI h,zI l]) (Ord3.Stage fun κs=>[Env w0 (ae X [zI k,zI s,zI b,zI h,zI l]::L),fun w'=>∃ q,κs.getD 0 undef=zP q/\∃ F,Env w0 (fU q F [] 2::ae X [zI k,zI s,zI b,zI h,zI l]::L) w',fun w'=>∃ q,κs.getD 1 undef=(.agg #[zI k,zI s,zI b,zI h,zI l,zI 0,zI 0,zI 0,zI 0,zP q])/\∃ F,Env w0 (fU q F [] 2::ae X [zI k,zI s,zI b,zI h,zI l]::L) w',fun w'=>∃ c,κs.getD 2 undef=zP c/\∃ q F,Env w0 (dy c k s b h l 0 0 0 0 q::fU q F [] 2::ae X [zI k,zI s,zI b,zI h,zI l]::L) w',fun w'=>∃ c,κs.getD 3 undef=zP c/\∃ q F,Env w0 (dy c k s b h l 0 0 0 0 q::fU q F [] 2::ae X [zI k,zI s,zI b,zI h,zI l]::L) w']) (by kernel_rfl) (by kernel_rfl) (by kernel_rfl) (ag.drew.get 0 rfl) ⟨_,rfl,ag.drew⟩ (fun hT=>?_);rotate_left 5;have af:=zH hT;clear hT
 repeat ((first
  | (focus (refine Ord3.in_value (v:=?_) af.o (by decide) ?_ (by rfl) ?_ ?_;rotate_left 2;(intro w5 hS;have r:=ao.rule hS;go_simp<;>rfl);rotate_right;(focus rfl)))
  | (focus (refine Ord3.in_off af.o (by decide) ?_ (by rfl) ?_;(focus rfl))));try simp only[Act.put,zA,zZ,zS])
 refine Ord3.in_turn (fun u=>∃ q,u=zP q) _ ⟨0,rfl⟩ af.o rfl (by decide) (by rfl) ?_ (Or.inl rfl) (by rfl) ?_ ?_
 ·rfl
 ·rintro w7 eY ⟨P7,dD,bI⟩;cases dD;go_simp;simp only[Ord3.Lands];refine (ID (xs:=[]) (A:=none) (cap:=0) (by simp) gI.nil).mono ?_;rintro o w8 ⟨q8,F8,k8,rfl,iD,hQ,lE,Jf⟩;have Dr:=iD.unique (Rm.same (by simp));subst Dr;have bn:=bI.madeQ hQ Jf lE;exact⟨_,rfl,⟨q8,rfl⟩,bn.get 1 rfl,_,rfl,q8,rfl,F8,bn⟩
 rintro _ ⟨q9,rfl⟩
 try simp only[Act.put,zA,zZ,zS]
 refine Ord3.in_turn (fun u=>∃ q,u=(.agg #[zI k,zI s,zI b,zI h,zI l,zI 0,zI 0,zI 0,zI 0,zP q])) _ ⟨0,rfl⟩ af.o rfl (by decide) (by rfl) ?_ (Or.inr ⟨_,1,[],rfl,by kernel_rfl,by kernel_rfl,rfl⟩) (by rfl) ?_ ?_
 ·rfl
 ·rintro w7 eY ⟨P7,dD,bI⟩;cases dD;obtain⟨q8,he,F8,bI⟩:=bI;cases he;go_simp;simp only[Ord3.Lands];exact⟨⟨_,rfl⟩,eY,_,rfl,q9,rfl,F8,bI⟩
 rintro _ ⟨wQ,rfl⟩
 try simp only[Act.put,zA,zZ,zS]
 refine Ord3.in_turn (fun u=>∃ c,u=zP c) _ ⟨0,rfl⟩ af.o rfl (by decide) (by rfl) ?_ (Or.inr ⟨_,2,[],rfl,by kernel_rfl,by kernel_rfl,rfl⟩) (by rfl) ?_ ?_
 ·rfl
 ·rintro w7 eY ⟨P7,dD,bI⟩;cases dD;obtain⟨q8,he,F8,bI⟩:=bI;cases he;go_simp;simp only[Ord3.Lands];have bn:=bI.box w7.heap.size rfl (cT k s b h l 0 0 0 0 wQ) 113;exact⟨⟨_,rfl⟩,bn.get 2 rfl,_,rfl,w7.heap.size,rfl,wQ,F8,bn⟩
 rintro _ ⟨c8,rfl⟩
 try simp only[Act.put,zA,zZ,zS]
 refine Ord3.in_turn (fun u=>∃ c,u=zP c) _ ⟨0,rfl⟩ af.o rfl (by decide) (by rfl) ?_ (Or.inr ⟨_,3,[],rfl,by kernel_rfl,by kernel_rfl,rfl⟩) (by rfl) ?_ ?_
 ·rfl
 ·rintro w7 eY ⟨P7,dD,bI⟩;cases dD;obtain⟨c7,he,q8,F8,bI⟩:=bI;cases he;go_simp;simp only[Ord3.Lands];exact⟨⟨_,rfl⟩,eY,_,rfl,c8,rfl,q8,F8,bI⟩
 rintro _ ⟨c9,rfl⟩
 try simp only[Act.put,zA,zZ,zS]
 refine Ord3.in_nil rfl ?_;rintro w9 aL ⟨P9,dW,ai⟩;cases dW;obtain⟨c8,he,q8,F8,ai⟩:=ai;cases he;clear af aL;go_wp2_with fail;go_ret;exact⟨c9,q8,F8,rfl,ai.sub (.cons_cons _ (.cons_cons _ (.cons _ (List.Sublist.refl _))))⟩
end
theorem kt (v d:Int) (t:Bool) (w:World) (hv:aD v) (hg:bE w) :
  Calls prog 178 #[.agg #[zU v,zI d,.bool t]] w fun o w'=>o=.returned (.agg #[zI (aA v),zI d])/\Below w.heap.size w w':=by
 unfold aD at hv;have u6:=zH fun (x:World) (hx:Below w.heap.size w x)=>Jc v x (hg.keep' hx) hv.1 hv.2;clear hg;have hF:=((Fr.start w).push w.heap.size rfl [zU v,zI d,.bool t] 110).push (w.heap.size+1) (by simp) [zI 0,zI 0] 92;have hX:=hF.blk 1 rfl (by omega);have hZ:=hF.blk 0 rfl (by omega);have hE:=hF.below;clear hF;go_enter func178,ntmps178;go_wp2_with fail;refine Ord.wc [6] (fun w'=>Below w.heap.size w w'/\ao 0 w' w.heap.size [zU v,zI d,.bool t]) (fun j w'=>ao 0 w' (w.heap.size+1) (if j=0 then [zI 0,zI 0] else [zI (aA v),zI d])) ⟨hE.drew,hX.drew⟩ hZ.drew fun af=>?_
 repeat ((first
  | (refine Ord.cv ?_ af.o ?_ ?_;rotate_left;(intro w5 hS;have r:=ao.rule hS.2;go_simp<;>rfl))
  | (refine Ord.co af.o ?_)
  | (refine Ord.cc ?_ ?_ ?_ af.o ?_ ?_ ?_;rotate_left 3;(intro w5 hS;have r:=ao.rule hS.2;go_simp;constructor<;>rfl);(intro w5 hS;(first | (with_reducible refine kp (u6.out _ hS.1) ?_ ?_;rfl;exact fun w6 aj=>⟨⟨hS.1.trans (aj.mono hS.1.size),hS.2.under aj⟩,fun _ h=>h.under aj⟩)))));try simp only[Act.put,zA,zZ,zS])
 refine Ord.ch_turn (v:=undef) 0 af.o rfl (by decide) (Or.inl rfl) (by rfl) ?_ ?_
 ·rintro w5 hS aU;simp only[if_true] at aU;have r:=aU.rule;have f0:=aU.thaw 0 (by simp);have f1:=aU.thaw 1 (by simp);have hz:=hS.1.size;go_simp;refine⟨rfl,⟨?_,?_⟩,?_⟩
  ·exact dJ (dJ hS.1 hz (by omega) _) (by simp;omega) (by omega) _
  ·exact (hS.2.off (by omega) _).off (by omega) _
  ·exact (aU.set (i:=0) (by simp) _).set (i:=1) (by simp) _
 try simp only[Act.put,zA,zZ,zS]
 repeat ((first
  | (refine Ord.cv ?_ af.o ?_ ?_;rotate_left;(intro w5 hS;skip;go_simp<;>rfl))
  | (refine Ord.co af.o ?_));try simp only[Act.put,zA,zZ,zS])
 refine Ord.InText.nil fun w5 hS=>?_;clear af;obtain⟨aL,ai⟩:=Ord.chain_end hS;clear hS;have q:=ai.rule;simp only[show ¬ [6].length=0 by decide,if_false] at q
 go_wp2
 exact bodyPost_ret (v:=.agg #[zI (aA v),zI d]) (by simp[results,results178,go_sem,q]) rfl ⟨rfl,aL.1⟩
end
section
open Go
section
variable {P:Program} {ops:Array Oper} {Q:Exit->Act->World->Prop} {md:Region.Mode} {S:World->Prop}
def LandsIn (P:Program) (S:World->Prop) (v:Value):Result Next->Prop
 | .ok (.value u) w'=>u=v/\S w'
 | .ok .skip w'=>v=undef/\S w'
 | .ok (.enter f args) w'=>Calls P f args w' fun e iK=>e=.returned v/\S iK
 | _=>False
def ew (P:Program) (ops:Array Oper) (S:World->Prop) (o:Oper) (v:Value) (a:Act):Prop :=
 (Region.wanted o (yielded ops a.tmps)=true/\∀ w,S w->LandsIn P S v ((execOp a.eval o).run P w))\/(Region.wanted o (yielded ops a.tmps)=false/\v=undef)
theorem ew.of_same {o:Oper} {v:Value} {a a':Act} (h:ew P ops S o v a) (he:execOp a'.eval o=execOp a.eval o)
  (hw:Region.wanted o (yielded ops a'.tmps)=Region.wanted o (yielded ops a.tmps)):ew P ops S o v a':=by
 unfold ew at *;rw[he,hw];exact h
theorem ew.wpOp {i:Nat} {o:Oper} {v:Value} {a:Act} (hi:ops[i]?=some o) (h:ew P ops S o v a) {K:Act->World->Prop} {w:World} (hS:S w)
  (hK:∀ w',S w'->K (a.put o.dst v) w'):wpOp P ops Q i K a w:=by
 unfold Go.wpOp;simp only[hi]
 rcases h with ⟨hw,hv⟩ | ⟨hw,rfl⟩
 ·simp only[hw,if_true];have:=hv w hS;refine .inl ?_;unfold Oper.wp;generalize (execOp a.eval o).run P w=r at *;cases r with
  | ok n w' =>
   cases n<;>simp only[LandsIn] at this<;>simp only[Oper.upon]
   case value u=>obtain⟨rfl,h2⟩:=this;exact hK _ h2
   case skip=>obtain⟨rfl,h2⟩:=this;exact hK _ h2
   case enter f args =>
    refine Calls.mono this fun e iK he=>?_;obtain⟨rfl,h2⟩:=he;exact hK _ h2
  | halt x w'=>simp only[LandsIn] at this
 ·simp only[hw,Bool.false_eq_true,if_false];exact hK _ hS
def eM (P:Program) (md:Region.Mode) (ops:Array Oper) (Q:Exit->Act->World->Prop) (S:World->Prop):Nat->Array Bool->Act->Prop
 | 0,listed,a=>Region.ready md ops listed=[]/\∀ w,S w->Q .normal a w
 | fuel+1,listed,a=>(Region.ready md ops listed=[]->∀ w,S w->Q .normal a w) /\
  ∀ i∈Region.ready md ops listed,∃ o v,ops[i]?=some o/\ew P ops S o v a/\eM P md ops Q S fuel (listed.setIfInBounds i true) (a.put o.dst v)
theorem eM.sound:∀ (fuel:Nat) (listed:Array Bool) (a:Act),eM P md ops Q S fuel listed a->∀ w,S w->wpAny P md ops Q fuel listed a w
 | 0,_,_,h,w,hS=>⟨h.1,h.2 w hS⟩
 | fuel+1,listed,a,h,w,hS=>⟨fun h0=>h.1 h0 w hS,fun i hi=>by
   obtain⟨o,v,ho,hs,hE⟩:=h.2 i hi;exact hs.wpOp ho hS fun w' gF=>eM.sound fuel _ _ hE w' gF⟩
theorem eM.first {i:Nat} {oi:Oper} {v:Value} (hi:ops[i]?=some oi) (kG:∀ (j:Nat) (o:Oper) cs b,ops[j]?=some o->o.op≠.select cs b) :
  ∀ (fuel:Nat) (listed:Array Bool) (a:Act),
   (∀ j oj,ops[j]?=some oj->j≠i->listed.getD j true=false->(∀ e∈oj.after,Region.binds md e=true->e.on≠i)->oi.apart ops oj=true) ->
   i∈Region.ready md ops listed->ew P ops S oi v a ->
   eM P md ops Q S fuel (listed.setIfInBounds i true) (a.put oi.dst v)->eM P md ops Q S (fuel+1) listed a:=by
 intro fuel
 induction fuel with
 | zero =>
  intro listed a _ hr hy H;refine⟨fun h=>(by rw[h] at hr;cases hr),fun j hj=>?_⟩
  by_cases fD:j=i
  ·subst fD;exact⟨oi,v,hi,hy,H⟩
  ·have:=ready_mono hj fD;rw[H.1] at this;cases this
 | succ fuel ih =>
  intro listed a pV hr hy H;refine⟨fun h=>(by rw[h] at hr;cases hr),fun j hj=>?_⟩
  by_cases fD:j=i
  ·subst fD;exact⟨oi,v,hi,hy,H⟩
  ·obtain⟨oj,u,kf,uH,hE⟩:=H.2 j (ready_mono hj fD);obtain⟨pW,ri,rj,eE⟩:=mem_ready.1 hj;obtain rfl:oj=ri:=Option.some.inj (kf.symm.trans rj);have rk:∀ e∈oj.after,Region.binds md e=true->e.on≠i:=fun e he hb heq=>by
    have h1:=eE e he hb;have h0:=(mem_ready.1 hr).1;rw[heq] at h1
    rcases Nat.lt_or_ge i listed.size with h' | h'
    ·simp[h'] at h0 h1;rw[h0] at h1;cases h1
    ·simp[Array.getElem?_eq_none h'] at h1
   have pX:=pV j oj kf fD pW rk;obtain⟨p1,p2,p3⟩:=Oper.apart_spec pX;have uI:∀ k ok,ops[k]?=some ok->k≠i->(listed.setIfInBounds j true).getD k true=false ->
     (∀ e∈ok.after,Region.binds md e=true->e.on≠i)->oi.apart ops ok=true:=fun k ok hk sU pY iY=>by
    refine pV k ok hk sU ?_ iY
    by_cases jz:j=k
    ·subst jz;exact pW
    ·rw[getD_set_ne true jz] at pY;exact pY
   refine⟨oj,u,kf,uH.of_same (execOp_put oj (fun cs b=>kG j oj cs b kf) a oi.dst v p1).symm (wanted_put oj a oi.dst v p1).symm,?_⟩;refine ih (listed.setIfInBounds j true) (a.put oj.dst u) uI (ready_mono hr (Ne.symm fD)) (hy.of_same (execOp_put oi (fun cs b=>kG i oi cs b hi) a oj.dst u p3) (wanted_put oi a oj.dst u p3)) ?_;rw[Array.setIfInBounds_comm _ _ fD,<- Act.put_comm a v u p2];exact hE
def du (n k:Nat):Array Bool:=Array.ofFn (n:=n) fun i=>decide (i.1 < k)
def dK (md:Region.Mode) (ops:Array Oper):Bool :=
 Region.noSelect ops && (List.range ops.size).all fun k=>Region.free md ops (du ops.size k) k && (Region.ready md ops (du ops.size k)).contains k
def InText (P:Program) (md:Region.Mode) (ops:Array Oper) (Q:Exit->Act->World->Prop) (S:World->Prop) (rest:List Oper) (a:Act):Prop :=
 ∀ k,k+rest.length=ops.size->ops.toList.drop k=rest->eM P md ops Q S rest.length (du ops.size k) a
theorem wy (n k:Nat):(du n k).setIfInBounds k true=du n (k+1):=by
 apply Array.ext
 ·simp[du]
 ·intro i h1 h2
  by_cases gX:i=k
  ·subst gX;simp[du]
  ·have e:=Array.getElem_setIfInBounds_ne (xs:=du n k) (i:=k) (j:=i) (a:=true) (by simpa using h1) (by omega);rw[e];simp only[du,Array.getElem_ofFn]
   congr 1
   apply propext;omega
theorem InText.nil {a:Act} (h:∀ w,S w->Q .normal a w):InText P md ops Q S [] a:=fun k hk _=>by
 refine⟨?_,h⟩;have oE:k=ops.size:=by simpa using hk
 subst oE;unfold Region.ready;rw[List.filter_eq_nil_iff];intro i hi;have:i < ops.size:=by simpa using hi
 simp[du,this]
theorem InText.cons {o:Oper} {rest:List Oper} {a:Act} {v:Value} (hf:dK md ops=true) (hs:ew P ops S o v a) (h:InText P md ops Q S rest (a.put o.dst v)):InText P md ops Q S (o::rest) a:=fun k hk hd=>by
 unfold dK at hf;rw[Bool.and_eq_true,List.all_eq_true] at hf;have aE:k < ops.size:=by simp at hk;omega
 have jA:=hf.2 k (by simpa using aE);rw[Bool.and_eq_true] at jA;have ho:ops[k]?=some o:=by
  have h0:(ops.toList.drop k)[0]?=some o:=by rw[hd];rfl
  simpa using h0
 have kG:∀ (j:Nat) (o:Oper) cs b,ops[j]?=some o->o.op≠.select cs b:=Region.noSelect_spec hf.1;refine eM.first ho kG rest.length (du ops.size k) a (Region.free_spec ho jA.1) (by simpa using jA.2) hs ?_;rw[wy];refine h (k+1) (by simp at hk;omega) ?_;rw[<- List.drop_drop,hd];rfl
theorem cG {id:Nat} {a:Act} {w:World} (hm:P.follows .mixedOrders=true) (hf:dK .any ops=true) (hS:S w.drew) (h:dK .any ops=true->InText P .any ops Q S ops.toList a):(Code.region id ops true).wp P Q a w :=
 wp_region_any hm (by
  have h0:=h hf 0 (by simp) rfl;have e:du ops.size 0=Array.replicate ops.size false:=by
   apply Array.ext
   ·simp[du]
   ·intro i h1 h2;simp[du]
  rw[e] at h0
  simpa using eM.sound _ _ _ h0 _ hS)
theorem cH {o:Oper} {rest:List Oper} {a:Act} {v:Value} (hf:dK md ops=true) (hw:Region.wanted o (yielded ops a.tmps)=true) (hv:∀ w,S w->(execOp a.eval o).run P w=.ok (.value v) w)
  (h:InText P md ops Q S rest (a.put o.dst v)):InText P md ops Q S (o::rest) a :=
 InText.cons hf (Or.inl ⟨hw,fun w hS=>by rw[hv w hS];exact⟨rfl,hS⟩⟩) h
theorem cI {o:Oper} {rest:List Oper} {a:Act} (hf:dK md ops=true) (hw:Region.wanted o (yielded ops a.tmps)=false) (h:InText P md ops Q S rest (a.put o.dst undef)):InText P md ops Q S (o::rest) a :=
 InText.cons hf (Or.inr ⟨hw,rfl⟩) h
theorem cJ {o:Oper} {rest:List Oper} {a:Act} {v:Value} {f:FuncId} {args:Array Value} (hf:dK md ops=true) (hw:Region.wanted o (yielded ops a.tmps)=true) (hr:∀ w,S w->(execOp a.eval o).run P w=.ok (.enter f args) w)
  (hc:∀ w,S w->Calls P f args w fun e w'=>e=.returned v/\S w') (h:InText P md ops Q S rest (a.put o.dst v)):InText P md ops Q S (o::rest) a :=
 InText.cons hf (Or.inl ⟨hw,fun w hS=>by rw[hr w hS];exact hc w hS⟩) h
end
end
section
open Go.RowKit Go.Maps
section
variable {w0 w:World} {L:List Item} {c q kq:Nat} {F:Nat->Prop} {ql:List bF} {k s b h l e r hs hi:Int}
theorem Jg (a d:Int) (hh:hs=0) (ha:1<=a/\a<=s) (m:Nat) (hE:Env w0 L w) (hm:L[m]?=some (dy c k s b h l e r hs hi q)) :
  Calls prog 215 #[zP c,.agg #[zI a,zI d]] w fun o w'=>o=.returned (zI 0)/\Env w0 (L.set m (dy c k s b h l e r a d q)) w':=by
 have ag:=hE.box w.heap.size rfl [zI a,zI d] 92;have iC:(ae w.heap.size [zI a,zI d]::L)[m+1]?=some (dy c k s b h l e r hs hi q):=hm;have hn:(hs != 0)=false:=by simpa using hh
 clear hh;have hd:decide (a < 1)=false:=by simp;omega
 have Ds:decide (s < a)=false:=by simp;omega
 clear hE;go_enter func215,ntmps215;go_wp2_with fail;refine (oO (ag.get (m+1) iC)).mono ?_;rintro o w1 ⟨rfl,hb⟩;rw[hn];replace ag:=ag.over hb;clear hb;replace ag:=ag.box w1.heap.size rfl [zI hs,zI hi] 92;generalize w.heap.size=X at *;go_wp2_with fail;generalize w1.heap.size=Y at *;generalize w1.alloc _=w2 at *;have oT:(ae Y [zI hs,zI hi]::ae X [zI a,zI d]::L)[m+2]?=some (dy c k s b h l e r hs hi q):=hm;have l3:Hid (∀ v,Env w0 (ae Y [zI hs,zI hi]::ae X [zI a,zI d]::L) v->ao 0 v c [zI k,zI s,zI b,zI h,zI l,zI e,zI r,zI hs,zI hi,zP q]):=zH fun v hv=>hv.get (m+2) oT;refine cG (S:=(Env w0 (ae Y [zI hs,zI hi]::ae X [zI a,zI d]::L))) (by kernel_rfl) (by kernel_rfl) ag.drew (fun hT=>?_);have af:=zH hT;clear hT
 repeat ((first
  | (refine cH (v:=?_) af.o (by rfl) ?_ ?_;rotate_left;(intro w5 hS;have r1:=ao.rule (l3.out _ hS);have r2:=hS.rule 1 rfl;go_simp<;>rfl))
  | (refine cI af.o (by rfl) ?_)
  | (refine cJ (v:=?_) (f:=?_) (args:=?_) af.o (by rfl) ?_ ?_ ?_;rotate_left 3;(intro w5 hS;have r1:=ao.rule (l3.out _ hS);have r2:=hS.rule 1 rfl;go_simp;constructor<;>rfl);(intro w5 hS;(first | fail))));try simp only[Act.put,zA,zZ,zS])
 refine InText.nil fun w5 aK=>?_;clear af;clear ag;have r1:=ao.rule (l3.out _ aK);have r2:=aK.rule 1 rfl;have ff:=aK.thaw (m+2) oT;have f7:=ff 7 (by simp[cT]);have f8:=ff 8 (by simp[cT]);clear ff;go_wp2_with fail;go_ret;have bj:=aK.put (m+2) oT (j:=7) (by simp[cT]) (zI a);have aQ:m < L.length:=(List.getElem?_eq_some_iff.1 hm).1;have iE:=bj.put (m+2) (by rw[List.getElem?_set_self (by simpa using aQ)]) (j:=8) (by simp[cT]) (zI d);rw[List.set_set] at iE;exact⟨rfl,iE.sub (.cons _ (.cons _ (List.Sublist.refl _)))⟩
end
end
section
open Go.RowKit
theorem wR (y z:Int) (w:World):Calls prog 182 #[.int .i64 y,.int .i64 z] w fun e w'=>e=.returned (.agg #[.int .i64 5,.int .i64 y,.int .i64 z])/\Below w.heap.size w w':=by
 go_enter func182,ntmps182
 go_wp2
 exact bodyPost_ret (v:=.agg #[.int .i64 5,.int .i64 y,.int .i64 z]) (by simp[results,results182,go_sem]) rfl ⟨rfl,(Below.refl _ _).alloc (Nat.le_refl _) _⟩
theorem tA (w:World):Calls prog 164 #[] w fun e w'=>e=.returned (.agg #[.int .i64 2,.int .i64 0,.int .i64 0])/\Below w.heap.size w w':=by
 go_enter func164,ntmps164
 go_wp2
 exact bodyPost_ret (v:=.agg #[.int .i64 2,.int .i64 0,.int .i64 0]) (by simp[results,results164,go_sem]) rfl ⟨rfl,(Below.refl _ _).alloc (Nat.le_refl _) _⟩
theorem Dt (w:World):Calls prog 212 #[] w fun e w'=>e=.returned (.agg #[.int .i64 3,.int .i64 0,.int .i64 0])/\Below w.heap.size w w':=by
 go_enter func212,ntmps212
 go_wp2
 exact bodyPost_ret (v:=.agg #[.int .i64 3,.int .i64 0,.int .i64 0]) (by simp[results,results212,go_sem]) rfl ⟨rfl,(Below.refl _ _).alloc (Nat.le_refl _) _⟩
theorem zB (s v:Int) (w:World) (hg:bE w) :
  Calls prog 189 #[.int .i64 s,.int .i64 v] w fun e w'=>e=.returned (.int .u64 (aP false s v))/\Below w.heap.size w w':=by
 go_enter func189,ntmps189;go_wp2_with fail;refine (Dq false s v _ hg).mono ?_;rintro e w1 ⟨rfl,hb⟩;go_wp2_with fail;go_ret;exact⟨rfl,hb⟩
theorem wS (x:Int) (w:World) (hg:bE w) (h0:0<=x) (h1:x<=18446744073709551615) :
  Calls prog 186 #[.int .u64 x] w fun e w'=>e=.returned (.int .i64 (dr x))/\Below w.heap.size w w':=by
 obtain⟨⟨c0,c1⟩,-,-,hs,-,-⟩:=hg;obtain⟨k0,k1⟩:=tu x;have HG:=zH (I5 x h0);go_enter func186,ntmps186;go_wp2_with fail;refine (zq 0 40 x _ (by decide) (by decide) h0 h1).mono ?_;rintro e w1 ⟨rfl,hb⟩;rw[HG.out]
 go_wp2
 go_ret;exact⟨rfl,hb⟩
theorem zC {k l:IntKind} {x y u v:Int} (h:x=y) (g:u=v):Ending.returned (.tuple #[.int k x,.int l u])=.returned (.tuple #[.int k y,.int l v]):=by rw[h,g]
theorem Jh (x s:Int) (w:World) (hg:bE w) (h0:0<=x) (h1:x<=18446744073709551615) :
  Calls prog 227 #[.int .u64 x,.int .i64 s] w fun e w'=>e=.returned (.tuple #[.int .u64 (eh x s),.int .i64 (rJ x s)])/\Below w.heap.size w w':=by
 cases hS:lD s
 ·have HW:=zH (show eh x s=0 by simp[eh,hS]);have HE:=zH (show rJ x s=3 by simp[rJ,hS]);have H:=zH hS;clear hS;go_enter func227,ntmps227;go_wp2_with fail;refine (tz s _).mono ?_;rintro e w1 ⟨rfl,rfl⟩;rw[H.out];go_wp2_with fail
  go_ret2
  exact⟨zC HW.out.symm HE.out.symm,Below.refl _ _⟩
 ·obtain⟨k0,k1⟩:=tu x
  by_cases hv:dr x=1099511627775
  ·have HW:=zH (show eh x s=0 by simp[eh,hS,hv]);have HE:=zH (show rJ x s=7 by simp[rJ,hS,hv]);have H:=zH hS;have HV:=zH hv;clear hS hv;go_enter func227,ntmps227;go_wp2_with fail;refine (tz s _).mono ?_;rintro e w1 ⟨rfl,rfl⟩;rw[H.out];go_wp2_with fail;refine (wS x _ hg h0 h1).mono ?_;rintro e w1 ⟨rfl,hb⟩;rw[HV.out];go_wp2_with fail
   go_ret2
   exact⟨zC HW.out.symm HE.out.symm,hb⟩
  ·have HW:=zH (show eh x s=aP false s (dr x+1) by simp[eh,hS,hv]);have HE:=zH (show rJ x s=0 by simp[rJ,hS,hv]);have H:=zH hS;have Du:dr x < 1099511627775:=by omega
   clear hS hv;generalize hy:dr x=y at *;have HY:=zH hy;clear hy;go_enter func227,ntmps227;go_wp2_with fail;refine (tz s _).mono ?_;rintro e w1 ⟨rfl,rfl⟩;rw[H.out];go_wp2_with fail;refine (wS x _ hg h0 h1).mono ?_;rintro e w1 ⟨rfl,hb⟩;rw[HY.out];have oU:=hg.keep' hb;go_wp2_with fail;refine (wS x _ oU h0 h1).mono ?_;rintro e w2 ⟨rfl,eg⟩;rw[HY.out];have lF:=oU.keep' eg;go_wp2_with fail;refine (zB s _ _ lF).mono ?_;rintro e w3 ⟨rfl,jr⟩;go_wp2_with fail
   go_ret2
   exact⟨zC HW.out.symm HE.out.symm,(hb.trans (eg.mono (by have:=hb.size;omega))).trans (jr.mono (by have:=hb.size;have:=eg.size;omega))⟩
end
section
open Go.RowKit Go.Maps
structure ST where
 (c q p cc:Nat)
 (ck cs cb ch cl ce cr hs:Int)
 (F:Nat->Prop)
 (ql:List bF)
 (kq:Nat)
 (G:Nat->Prop)
 (f:aI->Int)
 (qc:bN)
 (m:Nat)
def LT (S:ST) (R:List Item):List Item:=dy S.c S.ck S.cs S.cb S.ch S.cl S.ce S.cr S.hs 0 S.q::fU S.q S.F S.ql S.kq::fk S.p S.cc::dg S.cc S.G S.f S.qc S.m::R
theorem zD (v:World) (a b:Int):(Instr.field 92 (.agg #[.int .i64 a,.int .i64 b]) 0).run prog v=.ok (.int .i64 a) v:=by kernel_rfl
theorem cg (fn:Fn) (first cap:Array Value) (w:World):(Instr.makeFunc fn first cap).run prog w=.ok (.func fn first cap) w:=rfl
def mvL (f a:Nat):Value:=.func (.func f) #[zP a] #[]
section
variable {w0 w:World} {L:List Item} {a o:Nat} {vs:List Value}
theorem goOn_r (m:Nat) (fn:Fn) (fs cs:Array Value) (hv:o < vs.length) (hE:Env w0 L w) (hm:L[m]?=some (ae a vs)) :
  Calls prog 83 #[.pointer (some ⟨a,o,none⟩),.func fn fs cs] w fun r w'=>r=.returned (zI 0)/\Env w0 (L.set m (ae a (vs.set o (.func fn fs cs)))) w':=by
 have f1:=hE.thaw m hm o hv;have r1:∃ u,w.cell? ⟨a,o,none⟩=some u:=⟨_,(hE.rule m hm o).trans (List.getElem?_eq_getElem hv)⟩;obtain⟨u1,r1⟩:=r1;have hP:=hE.put m hm (j:=o) hv (.func fn fs cs);clear hv hm hE;go_enter func83,ntmps83;go_wp2_with fail;go_ret;exact⟨rfl,hP⟩
theorem end_r (m:Nat) (s:Int) (hv:o+1 < vs.length) (hE:Env w0 L w) (hm:L[m]?=some (ae a vs)) :
  Calls prog 132 #[.pointer (some ⟨a,o,none⟩),zI s] w fun r w'=>r=.returned (zI s)/\Env w0 (L.set m (ae a (vs.set (o+1) (zI s)))) w':=by
 have f1:=hE.thaw m hm (o+1) hv;have r1:∃ u,w.cell? ⟨a,o+1,none⟩=some u:=⟨_,(hE.rule m hm (o+1)).trans (List.getElem?_eq_getElem hv)⟩;obtain⟨u1,r1⟩:=r1;have hP:=hE.put m hm (j:=o+1) hv (zI s);clear hv hm hE;go_enter func132,ntmps132;go_wp2_with fail;go_ret;exact⟨rfl,hP⟩
theorem caught_r (w:World):CallsD prog 82 #[] .returning w fun e u' w'=>u'=.returning/\e=.returned (.tuple #[])/\w'=w:=by
 refine callsD_of_wpS func82 rfl fun c₀ cs hu=>?_;apply wpS_region;cases c₀;simp_all [wpOpsS,go_sem,recoverD,ntmps82,Exit.thenS,bodyPostS,results,results82]
theorem stepMv_r (X:Nat) (hx:∀ (ar:Array Value) (v:World),(callFunc X ar).run prog v=.ok (.enter X ar) v) (r u:Value) (Q:Ending->World->Prop) (hn:w.cell? ⟨a,o,none⟩=some (.func (.func X) #[r] #[])) (hs:w.cell? ⟨a,o+1,none⟩=some (zI 0)) (hc:Calls prog X #[r,u] w fun e w'=>∃ s,e=.returned (zI s)/\Q (.returned (zI s)) w') :
  Calls prog 44 #[.pointer (some ⟨a,o,none⟩),u] w Q:=by
 have cf:=cg
 go_enter_defers func44,ntmps44
 go_wp2_with fail;refine hc.mono ?_;rintro e w1 ⟨s,rfl,hQ⟩;go_wp2_with fail;refine leaves_cons (f:=82) (args:=#[]) (by simp) (by simp[go_sem]) ?_;refine (caught_r _).mono ?_;rintro e u' iK ⟨rfl,rfl,rfl⟩;exact⟨zI s,by simp[results,results44,go_sem],hQ⟩
theorem stepCv_r (X b1 b2:Nat) (hx:∀ (ar:Array Value) (v:World),(callFunc X ar).run prog v=.ok (.enter X ar) v) (u:Value) (Q:Ending->World->Prop) (hn:w.cell? ⟨a,o,none⟩=some (.func (.func X) #[] #[zP b1,zP b2])) (hs:w.cell? ⟨a,o+1,none⟩=some (zI 0)) (hc:Calls prog X #[u,zP b1,zP b2] w fun e w'=>∃ s,e=.returned (zI s)/\Q (.returned (zI s)) w') :
  Calls prog 44 #[.pointer (some ⟨a,o,none⟩),u] w Q:=by
 have cf:=cg
 go_enter_defers func44,ntmps44
 go_wp2_with fail;refine hc.mono ?_;rintro e w1 ⟨s,rfl,hQ⟩;go_wp2_with fail;refine leaves_cons (f:=82) (args:=#[]) (by simp) (by simp[go_sem]) ?_;refine (caught_r _).mono ?_;rintro e u' iK ⟨rfl,rfl,rfl⟩;exact⟨zI s,by simp[results,results44,go_sem],hQ⟩
theorem goOn_m (m:Nat) (fn:Fn) (fs cs:Array Value) (hv:1 < vs.length) (hz:vs[2]?=some (zI 0)) (hE:Env w0 L w) (hm:L[m]?=some (ae a vs)) :
  Calls prog 83 #[.pointer (some ⟨a,1,none⟩),.func fn fs cs] w fun o w'=>o=.returned (zI 0)/\Env w0 (L.set m (ae a ((vs.set 1 (.func fn fs cs)).set 2 (zI 0)))) w':=by
 refine (goOn_r (o:=1) m fn fs cs hv hE hm).mono ?_;rintro o w1 ⟨rfl,h⟩;have h2:(vs.set 1 (.func fn fs cs)).set 2 (zI 0)=vs.set 1 (.func fn fs cs):=by
  apply List.ext_getElem?;intro i
  by_cases hi:i=2
  ·subst hi;have hl:2 < vs.length:=(List.getElem?_eq_some_iff.1 hz).1;rw[List.getElem?_set_self (by rw[List.length_set];exact hl),List.getElem?_set_ne (by decide),hz]
  ·rw[List.getElem?_set_ne (fun e=>hi e.symm)]
 rw[h2];exact⟨rfl,h⟩
theorem end_m (m:Nat) (s:Int) (hv:2 < vs.length) (hE:Env w0 L w) (hm:L[m]?=some (ae a vs)) :
  Calls prog 132 #[.pointer (some ⟨a,1,none⟩),zI s] w fun o w'=>o=.returned (zI s)/\∃ nx:Value × Value,Env w0 (L.set m (ae a ((vs.set 1 nx.1).set 2 nx.2))) w':=by
 refine (end_r (o:=1) m s hv hE hm).mono ?_;rintro o w1 ⟨rfl,h⟩;refine⟨rfl,(vs[1],zI s),?_⟩;show Env w0 (L.set m (ae a ((vs.set 1 vs[1]).set 2 (zI s)))) w1;rw[List.set_getElem_self];exact h
end
theorem nW (x y z:Int) (w:World):Calls prog 163 #[.agg #[zI x,zI y,zI z]] w fun e w'=>e=.returned (.agg #[zI x,zI y,zI z,zI 0])/\Below w.heap.size w w':=by
 have hE:=((Env.start w).box w.heap.size rfl [zI x,zI y,zI z] 72).box (w.heap.size+1) (by simp) [zI 0,zI 0,zI 0,zI 0] 108;have r:=hE.rule 1 rfl;have f:=hE.thaw 0 rfl;have f0:=f 0 (by simp);have f1:=f 1 (by simp);have f2:=f 2 (by simp);have f3:=f 3 (by simp);clear f;go_enter func163,ntmps163
 go_wp2
 have hP:=(((hE.put 0 rfl (j:=0) (by simp) (zI x)).put 0 rfl (j:=1) (by simp) (zI y)).put 0 rfl (j:=2) (by simp) (zI z)).put 0 rfl (j:=3) (by simp) (zI 0);have q:=hP.rule 0 rfl;exact bodyPost_ret (v:=.agg #[zI x,zI y,zI z,zI 0]) (by simp[results,results163,go_sem,q]) rfl ⟨rfl,((Below.refl _ _).alloc (Nat.le_refl _) _).alloc (by simp) _⟩
theorem u7 (s d n:Int) (w:World):Calls prog 187 #[.agg #[zI s,zI d],zI n] w fun e w'=>e=.returned (.agg #[zI 5,zI s,zI n,zI d])/\Below w.heap.size w w':=by
 have hF:=((Fr.start w).push w.heap.size rfl [zI s,zI d] 92).push (w.heap.size+1) (by simp) [zI 0,zI 0,zI 0,zI 0] 108;have hX:=hF.blk 1 rfl (by omega);have hZ:=hF.blk 0 rfl (by omega);have hE:=hF.below;clear hF;go_enter func187,ntmps187;go_wp2_with fail;refine Ord.wc [7] (fun w'=>Below w.heap.size w w'/\ao 0 w' w.heap.size [zI s,zI d]) (fun j w'=>ao 0 w' (w.heap.size+1) (if j=0 then [zI 0,zI 0,zI 0,zI 0] else [zI 5,zI s,zI n,zI d])) ⟨hE.drew,hX.drew⟩ hZ.drew fun af=>?_
 repeat ((first
  | (refine Ord.cv ?_ af.o ?_ ?_;rotate_left;(intro w5 hS;have r:=ao.rule hS.2;go_simp<;>rfl))
  | (refine Ord.co af.o ?_)
  | (refine Ord.cc ?_ ?_ ?_ af.o ?_ ?_ ?_;rotate_left 3;(intro w5 hS;have r:=ao.rule hS.2;go_simp;constructor<;>rfl);(intro w5 hS;(first | (with_reducible refine kp (wR _ _ _) ?_ ?_;rfl;exact fun w6 aj=>⟨⟨hS.1.trans (aj.mono hS.1.size),hS.2.under aj⟩,fun _ h=>h.under aj⟩)))));try simp only[Act.put,zA,zZ,zS])
 refine Ord.ch_turn (v:=undef) 0 af.o rfl (by decide) (Or.inl rfl) (by rfl) ?_ ?_
 ·rintro w5 hS aU;simp only[if_true] at aU;have r:=aU.rule;have f0:=aU.thaw 0 (by simp);have f1:=aU.thaw 1 (by simp);have f2:=aU.thaw 2 (by simp);have f3:=aU.thaw 3 (by simp);have hz:=hS.1.size;go_simp;refine⟨rfl,⟨?_,?_⟩,?_⟩
  ·exact dJ (dJ (dJ (dJ hS.1 hz (by omega) _) (by simp;omega) (by omega) _) (by simp;omega) (by omega) _) (by simp;omega) (by omega) _
  ·exact (((hS.2.off (by omega) _).off (by omega) _).off (by omega) _).off (by omega) _
  ·exact (((aU.set (i:=0) (by simp) _).set (i:=1) (by simp) _).set (i:=2) (by simp) _).set (i:=3) (by simp) _
 try simp only[Act.put,zA,zZ,zS]
 repeat ((first
  | (refine Ord.cv ?_ af.o ?_ ?_;rotate_left;(intro w5 hS;skip;go_simp<;>rfl))
  | (refine Ord.co af.o ?_));try simp only[Act.put,zA,zZ,zS])
 refine Ord.InText.nil fun w5 hS=>?_;clear af;obtain⟨aL,ai⟩:=Ord.chain_end hS;clear hS;have q:=ai.rule;simp only[show ¬ [7].length=0 by decide,if_false] at q
 go_wp2
 exact bodyPost_ret (v:=.agg #[zI 5,zI s,zI n,zI d]) (by simp[results,results187,go_sem,q]) rfl ⟨rfl,aL.1⟩
theorem Dv (x d:Int) (t:Bool) (hx:aD x) (w:World):Calls prog 249 #[.agg #[zU x,zI d,.bool t]] w fun e w'=>e=.returned (zI (bg x))/\Below w.heap.size w w':=by
 have hE:=(Env.start w).box w.heap.size rfl [zU x,zI d,.bool t] 110;have r:=hE.rule 0 rfl;go_enter func249,ntmps249;go_wp2_with fail;refine (De x hx _).mono ?_;rintro e w1 ⟨rfl,rfl⟩;go_wp2_with fail;go_ret;exact⟨rfl,hE.below⟩
theorem wT {w:World} {q k:Nat} {F:Nat->Prop} {l:List bF} (x y z:Int) (hQ:eP w q F ((x,y,z)::l) k) :
  Calls prog 194 #[zP q] w fun e w'=>e=.returned (.tuple #[tv (x,y,z),.bool true])/\Below w.heap.size w w':=by
 obtain⟨qe,bB,e8,hk⟩:=hQ.len;have mF:=zH hQ;obtain⟨R,g,r,hq,hr,fR,_,_,bu,hF⟩:=hQ;obtain⟨hx,-⟩:=fR.pop;have pZ:=fR.1;have h4:=uQ e8;have aE:g % 2 ^ k < 2 ^ k:=Nat.mod_lt _ (by omega);have ie:∀ w',ao 0 w' R (flat3 r)->w'.cell? ⟨R,g % 2 ^ k * 3,none⟩=some (zI x)/\w'.cell? ⟨R,g % 2 ^ k * 3+1,none⟩=some (zI y)/\w'.cell? ⟨R,g % 2 ^ k * 3+2,none⟩=some (zI z):=fun w' h=>by
  have e:=fun c hc=>(h.rule (g % 2 ^ k * 3+c)).trans (mE r (g % 2 ^ k) c (by omega) hc);rw[hx] at e;exact⟨e 0 (by omega),e 1 (by omega),e 2 (by omega)⟩
 have HA:=zH fun w'=>uR R k g w' hk;have hB:=ao.new 0 w [zI 0,zI 0,zI 0] 97;have fT:=hq.more (.cells [zI 0,zI 0,zI 0].toArray 97);have jS:=hr.more (.cells [zI 0,zI 0,zI 0].toArray 97);have hE:=(Below.refl w.heap.size w).alloc (Nat.le_refl _) (.cells [zI 0,zI 0,zI 0].toArray 97);have Ji:q < w.heap.size/\R < w.heap.size:=⟨hq.1,hr.1⟩;have hz:((((x,y,z)::l).length:Int)==0)=false:=by simp;omega
 unfold qv at fT;generalize hG:(dV g)=G at *;generalize (dV (g+((x,y,z)::l).length))=C at *;generalize ((x,y,z)::l).length=n at *;clear hq hr fR hF hx;generalize g % 2 ^ k=p at *;generalize 2 ^ k=N at *;have HC:=zH ie;clear ie;go_enter func194,ntmps194;go_wp2_with fail;refine (s8 (mF.out.below hE)).mono ?_;rintro e w1 ⟨rfl,hb⟩;have jq:ao 0 w1 w.heap.size [zI 0,zI 0,zI 0]:=hB.kept hb.size (hb.block _ hB.1);have gB:ao 0 w1 q _:=fT.kept hb.size (hb.block _ fT.1);have qj:ao 0 w1 R _:=jS.kept hb.size (hb.block _ jS.1);have ag:Below w.heap.size w w1:=hE.trans (hb.mono (by simp));have jD:w.heap.size+1<=w1.heap.size:=by have:=hb.size;simpa using this
 clear hB fT jS hE hb mF;have wU:((n:Int)==0)=false:=by simpa using hz
 go_wp2_with fail;refine Ord.wc [11] (fun w'=>ao 0 w' q [.slice (some ⟨R,0,none⟩) N N,zU G,zU C]/\ao 0 w' R (flat3 r)) (fun j w'=>w.heap.size+1<=w'.heap.size/\Below w.heap.size w w'/\ao 0 w' w.heap.size (if j=0 then [zI 0,zI 0,zI 0] else [zI x,zI y,zI z])) ⟨gB.drew,qj.drew⟩ ⟨jD,ag.drew,jq.drew⟩ fun af=>?_
 repeat ((first
  | (refine Ord.cv ?_ af.o ?_ ?_;rotate_left;(intro w5 hS;have r:=ao.rule hS.1;obtain⟨c0,c1,c2⟩:=HC.out _ hS.2;go_simp<;>rfl))
  | (refine Ord.co af.o ?_)
  | (refine Ord.cc ?_ ?_ ?_ af.o ?_ ?_ ?_;rotate_left 3;(intro w5 hS;have r:=ao.rule hS.1;obtain⟨c0,c1,c2⟩:=HC.out _ hS.2;go_simp;constructor<;>rfl);(intro w5 hS;(first | (with_reducible refine (HA.out w5).mono ?_;rintro e w6 ⟨rfl,rfl⟩;constructor;rfl;exact⟨hS,fun _ h=>h⟩)))));try simp only[Act.put,zA,zZ,zS])
 refine Ord.ch_turn (v:=undef) 0 af.o rfl (by decide) (Or.inl rfl) (by rfl) ?_ ?_
 ·rintro w5 hS ⟨iz,gK,aU⟩;simp only[if_true] at aU;have r:=aU.rule;have f0:=aU.thaw 0 (by simp);have f1:=aU.thaw 1 (by simp);have f2:=aU.thaw 2 (by simp);go_simp;refine⟨rfl,⟨((hS.1.off (by omega) _).off (by omega) _).off (by omega) _,((hS.2.off (by omega) _).off (by omega) _).off (by omega) _⟩,by simpa using iz,?_,?_⟩
  ·exact dJ (dJ (dJ gK (by omega) (Nat.le_refl _) _) (by simp;omega) (Nat.le_refl _) _) (by simp;omega) (Nat.le_refl _) _
  ·exact ao.put3 aU _ _ _
 try simp only[Act.put,zA,zZ,zS]
 repeat ((first
  | (refine Ord.cv ?_ af.o ?_ ?_;rotate_left;(intro w5 hS;skip;go_simp<;>rfl))
  | (refine Ord.co af.o ?_));try simp only[Act.put,zA,zZ,zS])
 refine Ord.InText.nil fun w5 hS=>?_;clear af;obtain⟨aL,ai⟩:=Ord.chain_end hS;clear hS;obtain⟨iz,gK,aU⟩:=ai;have q:=aU.rule;simp only[show ¬ [11].length=0 by decide,if_false] at q
 go_wp2
 exact bodyPost_ret (v:=.tuple #[tv (x,y,z),.bool true]) (by simp[results,results194,go_sem,q,tv]) rfl ⟨rfl,gK⟩
theorem Jj {w:World} {q k:Nat} {F:Nat->Prop} (hQ:eP w q F [] k) :
  Calls prog 194 #[zP q] w fun e w'=>e=.returned (.tuple #[tv t0,.bool false])/\Below w.heap.size w w':=by
 have hB:=ao.new 0 w [zI 0,zI 0,zI 0] 97;have hE:=(Below.refl w.heap.size w).alloc (Nat.le_refl _) (.cells [zI 0,zI 0,zI 0].toArray 97);go_enter func194,ntmps194;go_wp2_with fail;refine (s8 (hQ.below hE)).mono ?_;rintro e w1 ⟨rfl,hb⟩;have jq:ao 0 w1 w.heap.size [zI 0,zI 0,zI 0]:=hB.kept hb.size (hb.block _ hB.1);have ag:Below w.heap.size w w1:=hE.trans (hb.mono (by simp));have jD:w.heap.size<=w1.heap.size:=ag.size;have r:=jq.rule;have f0:=jq.thaw 0 (by simp);have f1:=jq.thaw 1 (by simp);have f2:=jq.thaw 2 (by simp);clear hB hE hb hQ
 go_wp2
 have hP:=jq.put3 (zI 0) (zI 0) (zI 0);have q:=hP.rule;refine bodyPost_ret (v:=.tuple #[tv t0,.bool false]) (by simp[results,results194,go_sem,q,tv,t0]) rfl ⟨rfl,?_⟩;exact dJ (dJ (dJ ag (by omega) (Nat.le_refl _) _) (by simp;omega) (Nat.le_refl _) _) (by simp;omega) (Nat.le_refl _) _
theorem Dw {w:World} {q k:Nat} {F:Nat->Prop} {l:List bF} (x y z:Int) (hQ:eP w q F ((x,y,z)::l) k) :
  Calls prog 208 #[zP q] w fun e w'=>e=.returned (.tuple #[tv (x,y,z),.bool true])/\eP w' q F l k/\Step F F w w':=by
 obtain⟨qe,bB,e8,hk⟩:=hQ.len;have mF:=zH hQ;obtain⟨R,g,r,hq,hr,fR,_,_,bu,hF⟩:=hQ;have Jk:=fR.pop.2;have hB:=ao.new 0 w [zI 0,zI 0,zI 0] 97;have fT:=hq.more (.cells [zI 0,zI 0,zI 0].toArray 97);have jS:=hr.more (.cells [zI 0,zI 0,zI 0].toArray 97);have hE:=(Below.refl w.heap.size w).alloc (Nat.le_refl _) (.cells [zI 0,zI 0,zI 0].toArray 97);have Ji:q < w.heap.size/\R < w.heap.size:=⟨hq.1,hr.1⟩;have Jl:=uS g 1;have nP:(qv R (2 ^ k) g ((x,y,z)::l).length).set 1 (zU (dV (g+1)))=qv R (2 ^ k) (g+1) l.length:=by
  simp only[qv,List.length_cons,zS,zZ];rw[show g+(l.length+1)=g+1+l.length by omega]
 clear hq hr fR;go_enter func208,ntmps208;go_wp2_with fail;refine (wT x y z (mF.out.below hE)).mono ?_;rintro e w1 ⟨rfl,hb⟩;have jq:ao 0 w1 w.heap.size [zI 0,zI 0,zI 0]:=hB.kept hb.size (hb.block _ hB.1);have gB:ao 0 w1 q _:=fT.kept hb.size (hb.block _ fT.1);have qj:ao 0 w1 R _:=jS.kept hb.size (hb.block _ jS.1);have ag:Below w.heap.size w w1:=hE.trans (hb.mono (by simp));have jD:w.heap.size+1<=w1.heap.size:=by have:=hb.size;simpa using this
 clear hB fT jS hE hb mF;have ku:=zH gB;have u9:=gB.more (.cells [zI x,zI y,zI z].toArray 97);have qo:=jq.more (.cells [zI x,zI y,zI z].toArray 97);have rq:=u9.rule;have fq:=u9.thaw 1 (by simp[qv]);have rB:=qo.rule;have f0:=qo.thaw 0 (by simp);have f1:=qo.thaw 1 (by simp);have f2:=qo.thaw 2 (by simp);unfold qv at rq;have C6:=zH nP;clear nP gB u9 qo;simp only[Int.natCast_one] at Jl;generalize hG:(dV g)=G at *;generalize hC:(dV (g+((x,y,z)::l).length))=C at *;generalize tB:(dV (g+1))=G1 at *;generalize hN:2 ^ k=N at *;simp only[tv];have HN:=zH hN;clear hN hG hC tB;go_wp2_with fail;have qh:=(((ku.out.more (.cells [zI x,zI y,zI z].toArray 97)).set (i:=1) (by simp[qv]) (zU G1)).off (B:=w.heap.size) (i:=0) (by omega) (zI x)).off (B:=w.heap.size) (i:=1) (by omega) (zI y) |>.off (B:=w.heap.size) (i:=2) (by omega) (zI z);have Jm:=((((qj.more (.cells [zI x,zI y,zI z].toArray 97)).off (B:=q) (i:=1) (fun e=>bu e.symm) (zU G1)).off (B:=w.heap.size) (i:=0) (by omega) (zI x)).off (B:=w.heap.size) (i:=1) (by omega) (zI y)).off (B:=w.heap.size) (i:=2) (by omega) (zI z);have hP:=ao.put3 ((jq.more (.cells [zI x,zI y,zI z].toArray 97)).off (B:=q) (i:=1) (by omega) (zU G1)) (zI x) (zI y) (zI z);rw[C6.out] at qh;have q9:=hP.rule;refine bodyPost_ret (v:=.tuple #[tv (x,y,z),.bool true]) (by simp[results,results208,go_sem,q9,tv]) rfl ⟨rfl,⟨R,g+1,r,by rw[HN.out];exact qh,Jm,by rw[HN.out];exact Jk,e8,hk,bu,hF⟩,?_,fun j hj=>.inl hj⟩;exact yY (yY (yY ((((cj.of_below ag:cj F w w1).alloc _).setCell (p:=⟨q,1,none⟩) (fun _=>(hF q).2 (.inl rfl)) _)) rfl (Nat.le_refl _) _) rfl (Nat.le_refl _) _) rfl (Nat.le_refl _) _
section
variable {w0 w:World} {L:List Item} {p c n:Nat} {F:Nat->Prop} {f:aI->Int} {q:bN}
theorem Dx (x y z d v:Int) (hx:Wf (x,y,z)) (hn:n < maxLen) (i j:Nat) (gG:j≠i) (hE:Env w0 L w) (hi:L[i]?=some (fk p c)) (hj:L[j]?=some (dg c F f q n)) :
  Calls prog 270 #[.pointer (some ⟨p,0,none⟩),.agg #[.int .i64 x,.int .i64 y,.int .i64 z,.int .i64 d],.int .u64 v] w fun e w'=>e=.returned (.int .u64 (f (x,y,z)))/\∃ F',Env w0 (L.set j (dg c F' (upd f (x,y,z) (IntKind.u64.wrap (f (x,y,z)+v))) { q with a:=wrap64 (q.a+1) } (n+1))) w':=by
 replace hE:=(hE.box w.heap.size rfl [.int .i64 x,.int .i64 y,.int .i64 z,.int .i64 d] 108);have fE:(ae (w.heap.size) [.int .i64 x,.int .i64 y,.int .i64 z,.int .i64 d]::L)[i+1]?=some (fk p c):=hi;have jk:(ae (w.heap.size) [.int .i64 x,.int .i64 y,.int .i64 z,.int .i64 d]::L)[j+1]?=some (dg c F f q n):=hj;have HX:=zH hx;clear hx;go_enter func270,ntmps270;go_wp2_with fail;generalize w.heap.size=X at *;refine Ord.wc [5] (fun w'=>ao 0 w' X [.int .i64 x,.int .i64 y,.int .i64 z,.int .i64 d]/\ao 0 w' p [.pointer (some ⟨c,0,none⟩)]) (Stage [Env w0 (ae X [.int .i64 x,.int .i64 y,.int .i64 z,.int .i64 d]::L),fun w'=>∃ F',Env w0 (ae X [.int .i64 x,.int .i64 y,.int .i64 z,.int .i64 d]::L.set j (dg c F' (upd f (x,y,z) (IntKind.u64.wrap (f (x,y,z)+v))) { q with a:=wrap64 (q.a+1) } (n+1))) w']) ⟨hE.drew.get 0 rfl,hE.drew.get (i+1) fE⟩ ⟨_,rfl,hE.drew⟩ fun af=>?_
 repeat ((first
  | (refine Ord.cv ?_ af.o ?_ ?_;rotate_left;(intro w5 hS;have r0:=hS.1.rule;go_simp<;>rfl))
  | (refine Ord.co af.o ?_)
  | (refine Ord.cc ?_ ?_ ?_ af.o ?_ ?_ ?_;rotate_left 3;(intro w5 hS;have r0:=hS.1.rule;go_simp;constructor<;>rfl);(intro w5 hS;(first | (with_reducible refine (rH hS.2).mono ?_;rintro e w6 ⟨rfl,rfl⟩;constructor;rfl;exact⟨hS,fun _ h=>h⟩)))));try simp only[Act.put,zA,zZ,zS])
 refine Ord.ch_turn (v:=.int .u64 (f (x,y,z))) 0 af.o rfl (by decide) (Or.inl rfl) (by rfl) ?_ ?_
 ·rintro w5 aN ⟨P5,cd,au⟩;cases cd;go_simp;simp only[Ord.LandsIn];refine (Ih x y z v HX.out hn (au.cell (j+1) jk)).mono ?_;rintro e w6 ⟨rfl,F6,hC,hs⟩;have aq:=au.turn (j+1) jk hC hs;exact⟨rfl,⟨aq.get 0 rfl,aq.get (i+1) (lY (j:=j+1) (by omega) fE)⟩,_,rfl,F6,aq⟩
 try simp only[Act.put,zA,zZ,zS]
 repeat ((first
  | (refine Ord.cv ?_ af.o ?_ ?_;rotate_left;(intro w5 hS;skip;go_simp<;>rfl))
  | (refine Ord.co af.o ?_));try simp only[Act.put,zA,zZ,zS])
 refine Ord.InText.nil fun w5 hS=>?_;clear af;obtain⟨aL,ai⟩:=Ord.chain_end hS;clear hS;obtain⟨P9,dW,ai⟩:=ai;cases dW;obtain⟨F9,ai⟩:=ai;clear aL
 go_wp2
 go_ret;exact⟨rfl,F9,ai.sub (.cons _ (List.Sublist.refl _))⟩
end
def dE (q:bN) (b:Bool):bN:={ q with w:=wrap64 (q.w+1),f:=if b then q.f else wrap64 (q.f+1) }
def swf (f:aI->Int) (x:aI) (o v:Int):aI->Int:=if f x=o then upd f x v else f
theorem Jn {c n:Nat} {F:Nat->Prop} {f:aI->Int} {q:bN} {w:World} (a b d o v:Int) (hx:Wf (a,b,d)) (hv:aD v) (hn:n < maxLen) (hC:ed w c F f q n) :
  Calls prog 278 #[.pointer (some ⟨c,0,none⟩),.agg #[.int .i64 a,.int .i64 b,.int .i64 d],.int .u64 o,.int .u64 v] w fun e w'=>e=.returned (.bool (decide (f (a,b,d)=o)))/\∃ F',ed w' c F' (swf f (a,b,d) o v) (dE q (decide (f (a,b,d)=o))) (n+1)/\Step F F' w w':=by
 have qd:=hC.at
 obtain⟨mp,hb,hm,hF⟩:=hC;have r0:=hb.rule;have gJ:=hb.1;have r1:=nK gJ r0;have z1:=hb.thaw 3 (by simp[cv]);have eo:=wG hb hm qd (i:=3) (v:=.int .i64 (wrap64 (q.w+1))) (q1:={ q with w:=wrap64 (q.w+1) }) (by omega) rfl [.int .i64 a,.int .i64 b,.int .i64 d] 72;unfold cv at r0 r1;go_enter func278,ntmps278;go_wp2_with fail;generalize (w.setCell ⟨c,3,none⟩ (.int .i64 (wrap64 (q.w+1)))).alloc _=w1 at *;clear r0 r1 z1;refine Ord.wc [] (fun w'=>At F c w w.heap.size [.int .i64 a,.int .i64 b,.int .i64 d] mp { q with w:=wrap64 (q.w+1) } w'/\dP w' mp f n) (fun _ _=>True) ⟨eo.1.drew,eo.2.drew⟩ trivial fun af=>?_
 repeat ((first
  | (refine Ord.cv ?_ af.o ?_ ?_;rotate_left;(intro w5 hS;have r:=hS.1.2.1.rule;unfold cv at r;have r2:=hS.1.2.2.rule;have hl:=hS.2.look hx;simp only[pv] at hl;go_simp<;>rfl))
  | (refine Ord.co af.o ?_));try simp only[Act.put,zA,zZ,zS])
 refine Ord.InText.nil fun w5 hS=>?_;clear af;obtain⟨ai,nJ⟩:=Ord.chain_end hS;clear hS;have HX:=zH hx;clear hx
 by_cases he:f (a,b,d)=o
 ·have r:=ai.1.2.1.rule;have r2:=ai.1.2.2.rule;unfold cv at r;have cV:(f (a,b,d) != o)=false:=by simpa using he
  have hE:=zH he;clear he;go_wp2_with fail;refine (yW a b d v HX.out hv hn (.of ai.1 ai.2 hF)).mono ?_;rintro e w2 ⟨rfl,F',rD,ko⟩;clear r r2
  go_wp2
  go_ret;have dh:=hE.out;refine⟨by simp[dh],F',?_,(Step.mk ai.1.1 fun k h=>.inl h).trans ko⟩;simp only[swf,dE,dh,if_true,decide_true];exact rD
 ·have r:=ai.1.2.1.rule;have r2:=ai.1.2.2.rule;have z4:=ai.1.2.1.thaw 4 (by simp[cv]);unfold cv at r;have cV:(f (a,b,d) != o)=true:=by simpa using he
  have hE:=zH he;clear he
  go_wp2
  go_ret;have dh:=hE.out;refine⟨by simp[dh],F,?_,⟨ai.1.1.setCell (fun _=>qd) _,fun k h=>.inl h⟩⟩;simp only[swf,dE,dh,if_false,decide_false,Bool.false_eq_true];exact (ed.tick (.of ai.1 ai.2 hF) (by omega) fun _=>rfl).mono (Nat.le_succ _)
theorem Jo {c n:Nat} {F:Nat->Prop} {f:aI->Int} {q:bN} {w:World} (a b d:Int) (hx:Wf (a,b,d)) (hC:ed w c F f q n) :
  Calls prog 78 #[.pointer (some ⟨c,0,none⟩),.agg #[.int .i64 a,.int .i64 b,.int .i64 d]] w fun e w'=>e=.returned (.int .u64 (f (a,b,d)))/\Below w.heap.size w w':=by
 obtain⟨mp,hb,hm,hF⟩:=hC;go_enter func78,ntmps78;go_wp2_with fail;refine Ord.wc [] (fun w'=>(Below w.heap.size w w'/\ao 0 w' c (cv mp q)/\ao 0 w' w.heap.size [.int .i64 a,.int .i64 b,.int .i64 d])/\dP w' mp f n) (fun _ _=>True) ⟨⟨((Below.refl _ _).alloc (Nat.le_refl _) _).drew,(hb.more _).drew,(ao.new 0 w _ _).drew⟩,(hm.more _).drew⟩ trivial fun af=>?_
 repeat ((first
  | (refine Ord.cv ?_ af.o ?_ ?_;rotate_left;(intro w5 hS;have r:=hS.1.2.1.rule;unfold cv at r;have r2:=hS.1.2.2.rule;have hl:=hS.2.look hx;simp only[pv] at hl;go_simp<;>rfl))
  | (refine Ord.co af.o ?_));try simp only[Act.put,zA,zZ,zS])
 refine Ord.InText.nil fun w5 hS=>?_;clear af;obtain⟨ai,nJ⟩:=Ord.chain_end hS;clear hS
 go_wp2
 go_ret;exact⟨rfl,ai.1.1⟩
section
variable {w0 w:World} {L:List Item} {p c n:Nat} {F:Nat->Prop} {f:aI->Int} {q:bN}
theorem kO (x y z d o oe v e:Int) (ob b:Bool) (hx:Wf (x,y,z)) (hv:aD v) (hn:n < maxLen) (i j:Nat) (gG:j≠i) (hE:Env w0 L w) (hi:L[i]?=some (fk p c)) (hj:L[j]?=some (dg c F f q n)) :
  Calls prog 274 #[.pointer (some ⟨p,0,none⟩),.agg #[.int .i64 x,.int .i64 y,.int .i64 z,.int .i64 d],.agg #[.int .u64 o,.int .i64 oe,.bool ob],.agg #[.int .u64 v,.int .i64 e,.bool b]] w fun e w'=>e=.returned (.bool (decide (f (x,y,z)=o)))/\∃ F',Env w0 (L.set j (dg c F' (swf f (x,y,z) o v) (dE q (decide (f (x,y,z)=o))) (n+1))) w':=by
 replace hE:=(((hE.box w.heap.size rfl [.int .i64 x,.int .i64 y,.int .i64 z,.int .i64 d] 108).box (w.heap.size+1) (by simp) [.int .u64 o,.int .i64 oe,.bool ob] 110).box (w.heap.size+1+1) (by simp) [.int .u64 v,.int .i64 e,.bool b] 110);have fE:(ae (w.heap.size+1+1) [.int .u64 v,.int .i64 e,.bool b]::ae (w.heap.size+1) [.int .u64 o,.int .i64 oe,.bool ob]::ae (w.heap.size) [.int .i64 x,.int .i64 y,.int .i64 z,.int .i64 d]::L)[i+3]?=some (fk p c):=hi;have jk:(ae (w.heap.size+1+1) [.int .u64 v,.int .i64 e,.bool b]::ae (w.heap.size+1) [.int .u64 o,.int .i64 oe,.bool ob]::ae (w.heap.size) [.int .i64 x,.int .i64 y,.int .i64 z,.int .i64 d]::L)[j+3]?=some (dg c F f q n):=hj;have HX:=zH hx;clear hx;go_enter func274,ntmps274;go_wp2_with fail;generalize w.heap.size+1+1=Z at *;generalize w.heap.size+1=Y at *;generalize w.heap.size=X at *;refine Ord.wc [8] (fun w'=>ao 0 w' X [.int .i64 x,.int .i64 y,.int .i64 z,.int .i64 d]/\ao 0 w' Y [.int .u64 o,.int .i64 oe,.bool ob]/\ao 0 w' Z [.int .u64 v,.int .i64 e,.bool b]/\ao 0 w' p [.pointer (some ⟨c,0,none⟩)]) (Stage [Env w0 (ae Z [.int .u64 v,.int .i64 e,.bool b]::ae Y [.int .u64 o,.int .i64 oe,.bool ob]::ae X [.int .i64 x,.int .i64 y,.int .i64 z,.int .i64 d]::L),fun w'=>∃ F',Env w0 (ae Z [.int .u64 v,.int .i64 e,.bool b]::ae Y [.int .u64 o,.int .i64 oe,.bool ob]::ae X [.int .i64 x,.int .i64 y,.int .i64 z,.int .i64 d]::L.set j (dg c F' (swf f (x,y,z) o v) (dE q (decide (f (x,y,z)=o))) (n+1))) w']) ⟨hE.drew.get 2 rfl,hE.drew.get 1 rfl,hE.drew.get 0 rfl,hE.drew.get (i+3) fE⟩ ⟨_,rfl,hE.drew⟩ fun af=>?_
 repeat ((first
  | (refine Ord.cv ?_ af.o ?_ ?_;rotate_left;(intro w5 hS;have r0:=hS.1.rule;have r1:=hS.2.1.rule;have r2:=hS.2.2.1.rule;go_simp<;>rfl))
  | (refine Ord.co af.o ?_)
  | (refine Ord.cc ?_ ?_ ?_ af.o ?_ ?_ ?_;rotate_left 3;(intro w5 hS;have r0:=hS.1.rule;have r1:=hS.2.1.rule;have r2:=hS.2.2.1.rule;go_simp;constructor<;>rfl);(intro w5 hS;(first | (with_reducible refine (rH hS.2.2.2).mono ?_;rintro e w6 ⟨rfl,rfl⟩;constructor;rfl;exact⟨hS,fun _ h=>h⟩)))));try simp only[Act.put,zA,zZ,zS])
 refine Ord.ch_turn (v:=.bool (decide (f (x,y,z)=o))) 0 af.o rfl (by decide) (Or.inl rfl) (by rfl) ?_ ?_
 ·rintro w5 aN ⟨P5,cd,au⟩;cases cd;go_simp;simp only[Ord.LandsIn];refine (Jn x y z o v HX.out hv hn (au.cell (j+3) jk)).mono ?_;rintro e w6 ⟨rfl,F6,hC,hs⟩;have aq:=au.turn (j+3) jk hC hs;exact⟨rfl,⟨aq.get 2 rfl,aq.get 1 rfl,aq.get 0 rfl,aq.get (i+3) (lY (j:=j+3) (by omega) fE)⟩,_,rfl,F6,aq⟩
 try simp only[Act.put,zA,zZ,zS]
 repeat ((first
  | (refine Ord.cv ?_ af.o ?_ ?_;rotate_left;(intro w5 hS;skip;go_simp<;>rfl))
  | (refine Ord.co af.o ?_));try simp only[Act.put,zA,zZ,zS])
 refine Ord.InText.nil fun w5 hS=>?_;clear af;obtain⟨aL,ai⟩:=Ord.chain_end hS;clear hS;obtain⟨P9,dW,ai⟩:=ai;cases dW;obtain⟨F9,ai⟩:=ai;clear aL
 go_wp2
 go_ret;exact⟨rfl,F9,ai.sub (.cons _ (.cons _ (.cons _ (List.Sublist.refl _))))⟩
end
section
variable {w0 w:World} {L:List Item} {p c n:Nat} {F:Nat->Prop} {f:aI->Int} {q:bN}
theorem Jp (x y z:Int) (hx:Wf (x,y,z)) (i j:Nat) (hE:Env w0 L w) (hi:L[i]?=some (fk p c)) (hj:L[j]?=some (dg c F f q n)) :
  Calls prog 36 #[.pointer (some ⟨p,0,none⟩),.agg #[.int .i64 x,.int .i64 y,.int .i64 z]] w fun e w'=>e=.returned (.int .u64 (f (x,y,z)))/\Below w.heap.size w w':=by
 have hb:=(Below.refl w.heap.size w).alloc (Nat.le_refl _) (.cells #[.int .i64 x,.int .i64 y,.int .i64 z] 72);replace hE:=hE.box w.heap.size rfl [.int .i64 x,.int .i64 y,.int .i64 z] 72;have HX:=zH hx;clear hx;go_enter func36,ntmps36;go_wp2_with fail;obtain⟨X,zE⟩:∃ X,X=w.heap.size:=⟨_,rfl⟩;rw[<- zE] at hE ⊢;have SZ:=zH zE;clear zE;have p6:(ae X [.int .i64 x,.int .i64 y,.int .i64 z]::L)[i+1]?=some (fk p c):=hi;have wB:(ae X [.int .i64 x,.int .i64 y,.int .i64 z]::L)[j+1]?=some (dg c F f q n):=hj;refine Ord.wc [] (fun w'=>Env w0 (ae X [.int .i64 x,.int .i64 y,.int .i64 z]::L) w'/\Below w.heap.size w w') (fun _ _=>True) ⟨hE.drew,hb.drew⟩ trivial fun af=>?_
 repeat ((first
  | (refine Ord.cv ?_ af.o ?_ ?_;rotate_left;(intro w5 hS;have r:=hS.1.rule 0 rfl;go_simp<;>rfl))
  | (refine Ord.co af.o ?_)
  | (refine Ord.cc ?_ ?_ ?_ af.o ?_ ?_ ?_;rotate_left 3;(intro w5 hS;have r:=hS.1.rule 0 rfl;go_simp;constructor<;>rfl);(intro w5 hS;(first | (with_reducible refine (rH (hS.1.wblk (i+1) p6)).mono ?_;rintro e w6 ⟨rfl,rfl⟩;constructor;rfl;exact⟨hS,fun _ h=>h⟩) | (with_reducible refine kp (Jo x y z HX.out (hS.1.cell (j+1) wB)) ?_ ?_;rfl;exact fun w6 aj=>⟨⟨hS.1.over aj,hS.2.trans (aj.mono hS.2.size)⟩,fun _ h=>h⟩)))));try simp only[Act.put,zA,zZ,zS])
 refine Ord.InText.nil fun w5 hS=>?_;clear af;obtain⟨aL,ai⟩:=Ord.chain_end hS;clear hS
 go_wp2
 go_ret;exact⟨rfl,aL.2⟩
end
end
end Go.Proofs.YtleklonmmlfijaaGreatDoor
namespace Go.Proofs.YtleklonmmlfijaaGreatDoor.Ord3
section
open Go Go.Proofs.YtleklonmmlfijaaGreatDoor.Ord
variable {P:Program} {md:Region.Mode} {ops:Array Oper} {Q:Exit->Act->World->Prop} {vs:List (Value->Prop)} {ps:List Nat} {C:World->Prop} {A:List Value->World->Prop}
theorem in_call {k:Nat} {o:Oper} {rest:List Oper} {a:Act} {v:Value} {f:FuncId} {args:Array Value} {κs:List Value} (hf:dK md ops=true) (hk:k ∉ ps) (dL:vs[k]?=some fun u=>u=v) (hw:Region.wanted o (yielded ops a.tmps)=true)
  (hr:∀ w,C w->(execOp a.eval o).run P w=.ok (.enter f args) w) (hc:∀ w,C w->Calls P f args w fun e w'=>e=.returned v/\C w'/\∀ us,A us w->A us w')
  (h:In P md ops Q vs ps C A (k+1) rest κs (a.put o.dst v)):In P md ops Q vs ps C A k (o::rest) κs a:=fun κ hκ =>
 InText.cons hf v ⟨_,dL,rfl⟩ (Or.inl ⟨hw,fun l ρ w yH _ _ hS=>by
  rw[hr w hS.2.2.1];refine (hc w hS.2.2.1).mono fun e w' he=>?_;exact⟨_,he.1,⟨_,dL,rfl⟩,kh hk yH hS he.2.1 he.2.2⟩⟩)
  fun u ⟨p,hp,hu⟩=>by
   rw[dL] at hp;cases hp;rw[hu];exact h _ (by rw[kj (fun e=>hk (List.mem_of_mem_take e))];exact hκ)
theorem Stage.three {A1 A2 A3:List Value->World->Prop} {κs:List Value} {w w':World} (h:Stage (fun κs=>[A1 κs,A2 κs,A3 κs]) κs w) (h1:A1 κs w->A1 κs w') (h2:A2 κs w->A2 κs w') (h3:A3 κs w->A3 κs w'):Stage (fun κs=>[A1 κs,A2 κs,A3 κs]) κs w':=by
 obtain⟨T,hT,hw⟩:=h;refine⟨T,hT,?_⟩;have hm:=List.mem_of_getElem? hT;simp only[List.mem_cons,List.not_mem_nil,or_false] at hm
 rcases hm with rfl | rfl | rfl
 ·exact h1 hw
 ·exact h2 hw
 ·exact h3 hw
end
end Go.Proofs.YtleklonmmlfijaaGreatDoor.Ord3
namespace Go.Proofs.YtleklonmmlfijaaGreatDoor
section
open Go.RowKit Go.Maps
structure MA where
 (nx:Value × Value)
 (left:Value)
 (k key val lv h n r s:Int)
def av (c:Nat) (M:MA):List Value:=[zP c,M.nx.1,M.nx.2,zI M.k,zU M.key,zU M.val,zI M.lv,zU M.h,zI 0,.bool false,zU M.n,zI 0,.bool false,zU M.r,zI 0,.bool false,zI M.s,zI 0,M.left]
def mJ (pc:Nat):Nat:=if pc=1 then 197 else if pc=2 then 195 else if pc=3 then 213 else if pc=4 then 230 else if pc=5 then 239 else if pc=6 then 245 else if pc=10 then 196 else 217
def fa (a pc:Nat):Value × Value:=(mvL (mJ pc) a,zI 0)
def bk:List bF->Int->Int->Nat
 | [],_,_=>2
 | (_,y,_)::_,e,l=>if y < e then 10 else if l<=e then 0 else 1
def dI (ql:List bF) (e l:Int):Int:=if bk ql e l=0 then 4 else 0
theorem Dy (v:World) (a b c d e:Int):(Instr.field 23 (.agg #[zI a,zI b,zI c,zI d,zI e]) 4).run prog v=.ok (zI e) v:=by kernel_rfl
theorem Dz (v:World) (a b c d e:Int):(Instr.field 23 (.agg #[zI a,zI b,zI c,zI d,zI e]) 1).run prog v=.ok (zI b) v:=by kernel_rfl
theorem Jq (v:World) (a b c d e:Int):(Instr.field 23 (.agg #[zI a,zI b,zI c,zI d,zI e]) 0).run prog v=.ok (zI a) v:=by kernel_rfl
section
variable {w0 w:World} {R:List Item} {a:Nat} {S:ST} {M:MA}
theorem DA (hz:Hid (M.nx.2=zI 0)) (hE:Env w0 (ae a (av S.c M)::LT S R) w) :
  Calls prog 175 #[zP a] w fun o w'=>o=.returned (zI (dI S.ql S.ce S.cl))/\∃ nx,(bk S.ql S.ce S.cl≠0->nx=fa a (bk S.ql S.ce S.cl))/\Env w0 (ae a (av S.c { M with nx:=nx })::LT S R) w':=by
 have cf:=cg;have r:=hE.rule 0 rfl;unfold av at r;have Jr:=Dy;have HA:=zH (show 197=mJ 1 from rfl);go_enter func175,ntmps175;go_wp2_with fail;refine (qk (hE.get 1 rfl)).mono ?_;rintro o w1 ⟨rfl,rfl⟩;go_wp2_with fail;have hQ:=hE.queue 2 rfl
 rcases hq:S.ql with _ | ⟨⟨x,y,z⟩,t⟩
 ·rw[hq] at hQ;refine (Jj hQ).mono ?_;rintro o w2 ⟨rfl,hb⟩;replace hE:=(hE.over hb).box w2.heap.size rfl [zI 0,zI 0,zI 0] 97;clear hb r hQ;simp only[tv,t0];have r:=hE.rule 1 rfl;unfold av at r;go_wp2_with fail;refine (rG (hE.get 2 rfl)).mono ?_;rintro o w3 ⟨rfl,rfl⟩;go_wp2_with fail;refine (goOn_m 1 _ _ _ (by simp[av]) (by exact congrArg some hz.out) hE rfl).mono ?_;rintro o w4 ⟨rfl,bD⟩;go_wp2_with fail;go_ret;have hp:bk S.ql S.ce S.cl=2:=by rw[hq];rfl
  unfold dI;rw[hp];exact⟨rfl,fa a 2,fun _=>rfl,bD.sub (.cons _ (List.Sublist.refl _))⟩
 ·rw[hq] at hQ;refine (wT x y z hQ).mono ?_;rintro o w2 ⟨rfl,hb⟩;replace hE:=(hE.over hb).box w2.heap.size rfl [zI x,zI y,zI z] 97;clear hb r hQ;simp only[tv];have r:=hE.rule 1 rfl;have rX:=hE.rule 0 rfl;unfold av at r
  by_cases hy:y < S.ce
  ·have zF:decide (y < S.ce)=true:=by simpa using hy
   go_wp2_with fail;refine (rG (hE.get 2 rfl)).mono ?_;rintro o w3 ⟨rfl,rfl⟩;go_wp2_with fail;refine (goOn_m 1 _ _ _ (by simp[av]) (by exact congrArg some hz.out) hE rfl).mono ?_;rintro o w4 ⟨rfl,bD⟩;go_wp2_with fail;go_ret;have hp:bk S.ql S.ce S.cl=10:=by rw[hq];simp[bk,hy]
   unfold dI;rw[hp];exact⟨rfl,fa a 10,fun _=>rfl,bD.sub (.cons _ (List.Sublist.refl _))⟩
  ·have zF:decide (y < S.ce)=false:=by simpa using hy
   by_cases hl:S.cl<=S.ce
   ·have oV:decide (S.cl<=S.ce)=true:=by simpa using hl
    go_wp2_with fail;refine (rG (hE.get 2 rfl)).mono ?_;rintro o w3 ⟨rfl,rfl⟩;go_wp2_with fail;refine (nT (hE.get 2 rfl)).mono ?_;rintro o w4 ⟨rfl,hb⟩;replace hE:=hE.over hb;clear hb r rX;have r:=hE.rule 1 rfl;unfold av at r;go_wp2_with fail;refine (end_m 1 4 (by simp[av]) hE rfl).mono ?_;rintro o w5 ⟨rfl,nx,aB⟩;go_wp2_with fail;go_ret;have hp:bk S.ql S.ce S.cl=0:=by rw[hq];simp[bk,hy,hl]
    unfold dI;rw[hp];exact⟨rfl,nx,fun h=>absurd rfl h,aB.sub (.cons _ (List.Sublist.refl _))⟩
   ·have oV:decide (S.cl<=S.ce)=false:=by simpa using hl
    go_wp2_with fail;refine (rG (hE.get 2 rfl)).mono ?_;rintro o w3 ⟨rfl,rfl⟩;go_wp2_with fail;refine (nT (hE.get 2 rfl)).mono ?_;rintro o w4 ⟨rfl,hb⟩;replace hE:=hE.over hb;clear hb r rX;have r:=hE.rule 1 rfl;unfold av at r;go_wp2_with fail;refine (goOn_m 1 _ _ _ (by simp[av]) (by exact congrArg some hz.out) hE rfl).mono ?_;rintro o w5 ⟨rfl,aB⟩;go_wp2_with fail;go_ret;have hp:bk S.ql S.ce S.cl=1:=by rw[hq];simp only[bk];rw[if_neg (by omega),if_neg (by omega)]
    unfold dI;rw[hp];exact⟨rfl,fa a 1,fun _=>rfl,aB.sub (.cons _ (List.Sublist.refl _))⟩
theorem DB (x y:Int) (hl:S.ql.length+1<=1048576) (hz:Hid (M.nx.2=zI 0)) (hE:Env w0 (ae a (av S.c M)::LT S R) w) :
  Calls prog 214 #[zP a,.agg #[zI x,zI y,zI 0]] w fun o w'=>o=.returned (zI (dI (S.ql++[(x,y,0)]) S.ce S.cl))/\∃ nx k' F',(bk (S.ql++[(x,y,0)]) S.ce S.cl≠0->nx=fa a (bk (S.ql++[(x,y,0)]) S.ce S.cl))/\Rm S.kq (S.ql.length+1) k'/\Env w0 (ae a (av S.c { M with nx:=nx })::LT { S with ql:=S.ql++[(x,y,0)],kq:=k',F:=F' } R) w':=by
 replace hE:=hE.box w.heap.size rfl [zI x,zI y,zI 0] 97;go_enter func214,ntmps214;go_wp2_with fail;generalize w.alloc _=w2 at *;generalize w.heap.size=Y at *;refine Ord3.wp_chain [?_,?_,?_,?_,?_,?_,?_,?_,?_] [7,8] (fun w'=>ao 0 w' a (av S.c M)/\ao 0 w' S.c (cT S.ck S.cs S.cb S.ch S.cl S.ce S.cr S.hs 0 S.q)/\ao 0 w' Y [zI x,zI y,zI 0]) (Ord3.Stage fun κs=>[Env w0 (ae Y [zI x,zI y,zI 0]::ae a (av S.c M)::LT S R),fun w'=>∃ z,κs.getD 0 undef=.slice (some ⟨z,0,none⟩) 1 1/\Env w0 (ae z [zI x,zI y,zI 0]::ae Y [zI x,zI y,zI 0]::ae a (av S.c M)::LT S R) w',fun w'=>∃ k',Rm S.kq (S.ql.length+1) k'/\∃ F' z,Env w0 (ae z [zI x,zI y,zI 0]::ae Y [zI x,zI y,zI 0]::ae a (av S.c M)::LT { S with ql:=S.ql++[(x,y,0)],kq:=k',F:=F' } R) w']) (by kernel_rfl) (by kernel_rfl) (by kernel_rfl) ⟨hE.drew.get 1 rfl,hE.drew.get 2 rfl,hE.drew.get 0 rfl⟩ ⟨_,rfl,hE.drew⟩ (fun hT=>?_);rotate_left 9;have af:=zH hT;clear hT
 repeat ((first
  | (focus (refine Ord3.in_value (v:=?_) af.o (by decide) ?_ (by rfl) ?_ ?_;rotate_left 2;(intro w5 hS;have r1:=ao.rule hS.1;have r2:=ao.rule hS.2.2;unfold av at r1;go_simp<;>rfl);rotate_right;(focus rfl)))
  | (focus (refine Ord3.in_off af.o (by decide) ?_ (by rfl) ?_;(focus rfl)))
  | (focus (refine Ord3.in_call (v:=?_) (f:=?_) (args:=?_) af.o (by decide) ?_ (by rfl) ?_ ?_ ?_;rotate_left 4;(intro w5 hS;have r1:=ao.rule hS.1;have r2:=ao.rule hS.2.2;unfold av at r1;go_simp;constructor<;>rfl);(intro w5 hS;(first | (with_reducible refine (qk hS.2.1).mono ?_;rintro o w6 ⟨rfl,rfl⟩;constructor;rfl;exact⟨hS,fun _ h=>h⟩)));rotate_right;(focus rfl))));try simp only[Act.put,zA,zZ,zS])
 refine Ord3.in_turn (fun u=>∃ z,u=.slice (some ⟨z,0,none⟩) 1 1) _ ⟨0,rfl⟩ af.o rfl (by decide) (by rfl) ?_ (Or.inl rfl) (by rfl) ?_ ?_
 ·rfl
 ·rintro w7 eY ⟨P7,dD,bI⟩;cases dD;go_simp;simp only[Ord3.Lands];have bn:=bI.box w7.heap.size rfl [zI x,zI y,zI 0] 97;exact⟨⟨_,rfl⟩,⟨bn.get 2 rfl,bn.get 3 rfl,bn.get 1 rfl⟩,_,rfl,w7.heap.size,rfl,bn⟩
 rintro _ ⟨z9,rfl⟩
 try simp only[Act.put,zA,zZ,zS]
 refine Ord3.in_turn (fun u=>u=zI 0) _ rfl af.o rfl (by decide) (by rfl) ?_ (Or.inr ⟨_,7,[],rfl,by kernel_rfl,by kernel_rfl,rfl⟩) (by rfl) ?_ ?_
 ·rfl
 ·rintro w7 eY ⟨P7,dD,bI⟩;cases dD;obtain⟨z8,he,bI⟩:=bI;cases he;go_simp;simp only[Ord3.Lands];have hA:gI w7 (some ⟨z9,0,none⟩) [(x,y,0)]:=ao.row3 (l:=[(x,y,0)]) (bI.get 0 rfl);refine (wI (l:=S.ql) (xs:=[(x,y,0)]) (A:=some ⟨z9,0,none⟩) (cap:=1) (by simp;omega) hA (fun _ b hb va=>?_) (bI.queue 4 rfl)).mono ?_
  ·obtain⟨off,he⟩:=hb;cases he;exact (bI.off (i:=0) (j:=4) rfl rfl (by omega)) z9 rfl va
  rintro o w8 ⟨rfl,k8,F8,iD,vb,vd⟩;have bn:=bI.turnQ 4 rfl vb vd;exact⟨_,rfl,rfl,⟨bn.get 2 rfl,bn.get 3 rfl,bn.get 1 rfl⟩,_,rfl,k8,by simpa using iD,F8,z9,bn⟩
 rintro _ rfl
 try simp only[Act.put,zA,zZ,zS]
 refine Ord3.in_nil rfl ?_;rintro w9 aL ⟨P9,dW,ai⟩;cases dW;obtain⟨k8,iD,F8,z8,ai⟩:=ai;clear af aL;have bj:=ai.sub (.cons _ (.cons _ (List.Sublist.refl _)));go_wp2_with fail;refine (DA (S:={ S with ql:=S.ql++[(x,y,0)],kq:=k8,F:=F8 }) hz bj).mono ?_;rintro o tC ⟨rfl,nx,bo,iE⟩;go_wp2_with fail;go_ret;exact⟨rfl,nx,k8,F8,bo,iD,iE⟩
end
theorem kP (k p:Nat) (w:World):(method (k+1) 28 (.pointer (some ⟨p,0,none⟩)) "Swap").run prog w=.ok (274,.pointer (some ⟨p,0,none⟩)) w:=by kernel_rfl
theorem kQ (k p:Nat) (w:World):(nilAhead (k+1) 28 (.pointer (some ⟨p,0,none⟩)) "Swap").run prog w=.ok (some false) w:=by kernel_rfl
theorem l4 (k p:Nat) (w:World):(nilAhead (k+1) 28 (.pointer (some ⟨p,0,none⟩)) "Load").run prog w=.ok (some false) w:=by kernel_rfl
def l6 {α:Type _} (a b c:α):Nat->α
 | 0=>a
 | 1=>b
 | _=>c
theorem mK (x:Int) (h0:0<=x) (h1:x<=18446744073709551615):IntKind.u64.wrap x=x:=by
 rw[IntKind.wrap_u64];exact Int.emod_eq_of_lt h0 (by omega)
theorem DC (k p:Nat) (w:World):(method (k+1) 28 (zP p) "Add").run prog w=.ok (270,zP p) w:=by kernel_rfl
theorem DE (k p:Nat) (w:World):(nilAhead (k+1) 28 (zP p) "Add").run prog w=.ok (some false) w:=by kernel_rfl
theorem ve (k p:Nat) (w:World):(nilAhead (k+1) 28 (zP p) "Store").run prog w=.ok (some false) w:=by kernel_rfl
section
variable {w0 w:World} {R:List Item} {a:Nat} {S:ST} {M:MA}
theorem Js (he:0<=S.ce/\S.ce<=9223372036854775807) (hm:S.m < maxLen) (hE:Env w0 (ae a (av S.c M)::LT S R) w) :
  Calls prog 197 #[zP a,.iface 28 (zP S.p)] w fun o w'=>o=.returned (zI 2)/\∃ nx G',Env w0 (ae a (av S.c { M with nx:=nx })::LT { S with G:=G',f:=swf S.f (1,0,0) S.ce (S.ce+1),qc:=dE S.qc (decide (S.f (1,0,0)=S.ce)),m:=S.m+1 } R) w':=by
 have cf:=cg;have eV:=kQ;have ij:IntKind.u64.wrap S.ce=S.ce:=mK _ (by omega) (by omega);have gd:IntKind.u64.wrap (S.ce+1)=S.ce+1:=mK _ (by omega) (by omega);have Jt:=zH gd;clear gd;have DF:aD (S.ce+1):=by unfold aD;omega
 have Ju:=zH DF;clear DF he;have r:=hE.rule 0 rfl;unfold av at r;go_enter func197,ntmps197;go_wp2_with (first | (refine (rG (hE.get 1 rfl)).mono ?_;rintro o w1 ⟨rfl,rfl⟩));clear r;refine Ord.wc [11] (fun _=>True) (fun k w'=>∃ G',Env w0 (if k=0 then (ae a (av S.c M)::LT S R) else (ae a (av S.c M)::LT { S with G:=G',f:=swf S.f (1,0,0) S.ce (S.ce+1),qc:=dE S.qc (decide (S.f (1,0,0)=S.ce)),m:=S.m+1 } R)) w') trivial ⟨S.G,hE.drew⟩ fun af=>?_
 repeat ((first
  | (refine Ord.cv ?_ af.o ?_ ?_;rotate_left;(intro w5 hS;skip;go_simp<;>rfl))
  | (refine Ord.co af.o ?_)
  | (refine Ord.cc ?_ ?_ ?_ af.o ?_ ?_ ?_;rotate_left 3;(intro w5 hS;skip;go_simp;constructor<;>rfl);(intro w5 hS;(first | (with_reducible refine kp (wL _) ?_ ?_;rfl;exact fun w6 aj=>⟨trivial,fun k h=>h.elim fun G' h=>⟨G',h.over aj⟩⟩) | (with_reducible refine kp (nW _ _ _ _) ?_ ?_;rfl;exact fun w6 aj=>⟨trivial,fun k h=>h.elim fun G' h=>⟨G',h.over aj⟩⟩)))));try simp only[Act.put,zA,zZ,zS])
 refine Ord.ch_turn (v:=.bool (decide (S.f (1,0,0)=S.ce))) 0 af.o rfl (by decide) (Or.inl rfl) (by rfl) ?_ ?_
 ·rintro w5 aN ⟨G5,au⟩;simp only[if_true] at au;go_simp;rw[kP];simp only[Result.andThen_ok];go_simp;simp only[Ord.LandsIn];rw[Jt.out];refine (kO 1 0 0 0 S.ce 0 (S.ce+1) 0 false false (by unfold Wf In64;simp) Ju.out hm 3 4 (by decide) au rfl rfl).mono ?_;rintro e w6 ⟨rfl,G6,aq⟩;exact⟨rfl,G6,aq⟩
 try simp only[Act.put,zA,zZ,zS]
 repeat ((first
  | (refine Ord.cv ?_ af.o ?_ ?_;rotate_left;(intro w5 hS;skip;go_simp<;>rfl))
  | (refine Ord.co af.o ?_));try simp only[Act.put,zA,zZ,zS])
 refine Ord.InText.nil fun w5 hS=>?_;clear af;obtain⟨aL,ai⟩:=Ord.chain_end hS;clear hS;obtain⟨G9,ai⟩:=ai;simp only[List.length_cons,List.length_nil,Nat.zero_add,Nat.one_ne_zero,if_false] at ai;go_wp2_with fail;refine (end_m 0 2 (by simp[av]) ai rfl).mono ?_;rintro o w5 ⟨rfl,nx,aB⟩;go_wp2_with fail;go_ret;exact⟨rfl,nx,G9,aB⟩
end
end
end Go.Proofs.YtleklonmmlfijaaGreatDoor
