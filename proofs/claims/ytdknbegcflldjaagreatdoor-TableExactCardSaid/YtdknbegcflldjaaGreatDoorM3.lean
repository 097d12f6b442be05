/- What is proved on the way to the statement, part 3: contracts of the functions, among other things in memory. -/
import Derived.Test.YtdknbegcflldjaaGreatDoorM2
import Derived.WalkKit
import Derived.Test.YtdknbegcflldjaaGreatDoorRows
import Derived.WalkSpells
import Derived.Lib.Hide
import Derived.Deep.RegionHeld3
import Derived.Orders
import Derived.Test.YtdknbegcflldjaaGreatDoorChecked

open _root_.Go.Proofs.Tryz
set_option maxRecDepth 100000
set_option maxHeartbeats 25600000
namespace Go.Proofs.YtdknbegcflldjaaGreatDoor
section
open Go.RowKit
def isB (a b:Int):Bool:=decide (0<=a/\1<=b/\b<=64 - a)
theorem isB_parts {a b:Int} (h:isB a b=true):0<=a/\1<=b/\b<=64 - a:=by simpa [isB] using h
def maxI (a b:Int):Int:=if isB a b then 2 ^ b.toNat - 1 else 0
theorem maxI_yes {a b:Int} (h:isB a b=true):maxI a b=2 ^ b.toNat - 1:=by simp [maxI,h]
theorem maxI_no {a b:Int} (h:isB a b=false):maxI a b=0:=by simp [maxI,h]
theorem ones_shift (k:Nat) (h1:k<=64):(18446744073709551615:Int) / 2 ^ (64 - k)=2 ^ k - 1:=by
 have h:∀ k ≤ 64,(18446744073709551615:Int) / 2 ^ (64 - k)=2 ^ k - 1:=by decide
 exact h k h1
theorem isB_nat {a b:Int} (h:isB a b=true):∃ A B:Nat,a=A/\b=B/\1<=B/\A+B<=64:=by
 obtain ⟨h1,h2,h3⟩:=isB_parts h;exact ⟨a.toNat,b.toNat,by omega,by omega,by omega,by omega⟩
theorem pow_le64 {k:Nat} (h:k<=64):2 ^ k<=18446744073709551616:=by
 have:=Nat.pow_le_pow_right (n:=2) (by omega) h
 simpa using this
theorem maxI_nat {A B:Nat} (h1:1<=B) (h2:A+B<=64):maxI A B=((2 ^ B - 1:Nat):Int):=by
 rw [maxI_yes (by simp [isB]; omega),Int.toNat_natCast,Int.natCast_sub (Nat.one_le_two_pow)];simp
theorem wrap_u8_small {a:Int} (h0:0<=a) (h1:a < 256):IntKind.u8.wrap a=a:=by rw [IntKind.wrap_u8]; omega
def getN (A B X:Nat):Nat:=X / 2 ^ A % 2 ^ B
def getI (a b x:Int):Int:=if isB a b then (getN a.toNat b.toNat x.toNat:Nat) else 0
theorem get_eq (a b x:Int) (h0:0<=x) (h1:x<=18446744073709551615) :
  bits .and .u64 (x / 2 ^ min (IntKind.u8.wrap a).toNat 64) (maxI a b)=getI a b x:=by
 obtain ⟨X,rfl⟩:=Int.eq_ofNat_of_zero_le h0;have e:∀ k:Nat,(X:Int) / 2 ^ k=((X / 2 ^ k:Nat):Int):=fun k=>by simp
 have hlt:∀ k:Nat,X / 2 ^ k < 18446744073709551616:=fun k=>Nat.lt_of_le_of_lt (Nat.div_le_self _ _) (by omega);cases h:isB a b
 ·rw [maxI_no h,e,show (0:Int)=((0:Nat):Int) from rfl,u64_and_nat _ _ (hlt _) (by decide)];simp [getI,h]
 ·obtain ⟨A,B,rfl,rfl,hB,hAB⟩:=isB_nat h;rw [wrap_u8_small (by omega) (by omega),maxI_nat hB hAB,e,u64_and_nat _ _ (hlt _) (by have:=pow_le64 (k:=B) (by omega); omega)];simp only [getI,h,if_true,Int.toNat_natCast,getN];rw [Nat.and_two_pow_sub_one_eq_mod,show min A 64=A by omega]
def maskN (A B:Nat):Nat:=(2 ^ B - 1) * 2 ^ A
def maskI (a b:Int):Int:=if isB a b then (maskN a.toNat b.toNat:Nat) else 0
theorem maskN_lt {A B:Nat} (h:A+B<=64):maskN A B < 18446744073709551616:=by
 unfold maskN;have h1:(2 ^ B - 1) * 2 ^ A < 2 ^ B * 2 ^ A:=Nat.mul_lt_mul_of_pos_right (by have:=Nat.one_le_two_pow (n:=B); omega) (Nat.two_pow_pos A);rw [<- Nat.pow_add] at h1;have:=pow_le64 (k:=B+A) (by omega);omega
theorem mask_eq (a b:Int):IntKind.u64.wrap (maxI a b * 2 ^ min (IntKind.u8.wrap a).toNat 64)=maskI a b:=by
 cases h:isB a b
 ·simp [maxI_no h,maskI,h,IntKind.wrap_u64]
 ·obtain ⟨A,B,rfl,rfl,hB,hAB⟩:=isB_nat h;rw [wrap_u8_small (by omega) (by omega),maxI_nat hB hAB];simp only [maskI,h,if_true,Int.toNat_natCast];rw [show min A 64=A by omega,show (((2 ^ B - 1:Nat):Int) * 2 ^ A)=((maskN A B:Nat):Int) by simp [maskN],IntKind.wrap_u64];have:=maskN_lt hAB;omega
theorem maskN_testBit (A B k:Nat):(maskN A B).testBit k=(decide (A<=k) && decide (k < A+B)):=by
 unfold maskN;rw [Nat.testBit_mul_two_pow,Nat.testBit_two_pow_sub_one]
 by_cases h:A<=k
 ·simp [h]; omega
 ·simp [h]
def putN (A B W X:Nat):Nat:=(W &&& (18446744073709551615 - maskN A B)) ||| X * 2 ^ A
def putI (a b w x:Int):Int:=(putN a.toNat b.toNat w.toNat x.toNat:Nat)
theorem putN_lt {A B W X:Nat} (hAB:A+B<=64) (hW:W < 18446744073709551616) (hX:X < 2 ^ B):putN A B W X < 18446744073709551616:=by
 have h1:X * 2 ^ A < 2 ^ 64:=by
  have h1:X * 2 ^ A < 2 ^ B * 2 ^ A:=Nat.mul_lt_mul_of_pos_right hX (Nat.two_pow_pos A);rw [<- Nat.pow_add] at h1;have:=pow_le64 (k:=B+A) (by omega);simp only [Nat.reducePow];omega
 exact Nat.or_lt_two_pow (n:=64) (Nat.lt_of_le_of_lt Nat.and_le_left (by simpa using hW)) h1
theorem put_eq (a b w x:Int) (h:isB a b=true) (hw0:0<=w) (hw1:w<=18446744073709551615) (hx0:0<=x) (hx:x<=maxI a b) :
  bits .or .u64 (bits .andNot .u64 w (maskI a b)) (IntKind.u64.wrap (x * 2 ^ min (IntKind.u8.wrap a).toNat 64))=putI a b w x:=by
 obtain ⟨A,B,rfl,rfl,hB,hAB⟩:=isB_nat h;obtain ⟨W,rfl⟩:=Int.eq_ofNat_of_zero_le hw0;obtain ⟨X,rfl⟩:=Int.eq_ofNat_of_zero_le hx0;rw [maxI_nat hB hAB] at hx;have hX:X < 2 ^ B:=by have:=Nat.one_le_two_pow (n:=B); omega
 have h1:X * 2 ^ A < 18446744073709551616:=by
  have h1:X * 2 ^ A < 2 ^ B * 2 ^ A:=Nat.mul_lt_mul_of_pos_right hX (Nat.two_pow_pos A);rw [<- Nat.pow_add] at h1;have:=pow_le64 (k:=B+A) (by omega);omega
 have e1:IntKind.u64.wrap ((X:Int) * 2 ^ min A 64)=((X * 2 ^ A:Nat):Int):=by
  rw [show min A 64=A by omega,show ((X:Int) * 2 ^ A)=((X * 2 ^ A:Nat):Int) by simp,IntKind.wrap_u64];omega
 rw [wrap_u8_small (by omega) (by omega)];simp only [maskI,h,if_true,Int.toNat_natCast,putI];rw [e1,u64_andNot_nat _ _ (by omega) (maskN_lt hAB),u64_or_nat _ _ (Nat.lt_of_le_of_lt Nat.and_le_left (by omega)) h1];rfl
theorem ones_sub_testBit {m k:Nat} (h:m < 18446744073709551616):(18446744073709551615 - m).testBit k=(decide (k < 64) && !m.testBit k):=by
 have:=Nat.testBit_two_pow_sub_succ (n:=64) (x:=m) (by simpa using h) k;rw [<- this]
 congr 1
 omega
theorem is_any (a b:Int) (w:World) (ha:a<=9223372036854775807) (_hb:-9223372036854775808<=b) :
  Calls prog 189 #[.agg #[.int .i64 a,.int .i64 b]] w fun e w'=>e=.returned (.bool (isB a b))/\Below w.heap.size w w':=by
 by_cases h1:0<=a
 ·by_cases h2:1<=b
  ·go_enter func189,ntmps189
   go_wp2
   go_ret;exact ⟨ret_bool (by simp [isB,h1,h2]),(Below.refl _ _).alloc (Nat.le_refl _) _⟩
  ·go_enter func189,ntmps189
   go_wp2
   go_ret;exact ⟨ret_bool (by simp [isB]; omega),(Below.refl _ _).alloc (Nat.le_refl _) _⟩
 ·go_enter func189,ntmps189
  go_wp2
  go_ret;exact ⟨ret_bool (by simp [isB]; omega),(Below.refl _ _).alloc (Nat.le_refl _) _⟩
theorem ret_int_bool {k:IntKind} {x y:Int} {c:Bool} (h:x=y):Ending.returned (.tuple #[.int k x,.bool c])=.returned (.tuple #[.int k y,.bool c]):=by rw [h]
theorem old_cell {B:Nat} {v v':World} (h:Below B v v') (n k:Nat) (hn:n < B):v'.cell? ⟨n,k,none⟩=v.cell? ⟨n,k,none⟩:=Below.cell h (p:=⟨n,k,none⟩) hn
theorem old_frozen {B:Nat} {v v':World} (h:Below B v v') (n k:Nat) (hn:n < B):v'.frozen? ⟨n,k,none⟩=v.frozen? ⟨n,k,none⟩:=Below.frozen h (p:=⟨n,k,none⟩) hn
theorem hold_step {n:Nat} {w w1 w2:World} {x y:Value} (c0:w1.cell? ⟨n,0,none⟩=some x) (c1:w1.cell? ⟨n,1,none⟩=some y) (hB:Below n w w1) (hs:n < w1.heap.size) (hb:Below w1.heap.size w1 w2) :
  w2.cell? ⟨n,0,none⟩=some x/\w2.cell? ⟨n,1,none⟩=some y/\Below n w w2/\n < w2.heap.size :=
 ⟨by rw [hb.cell (p:=⟨n,0,none⟩) hs]; exact c0,by rw [hb.cell (p:=⟨n,1,none⟩) hs]; exact c1,hB.trans (hb.mono (by omega)),by have:=hb.size; omega⟩
theorem max_any (a b:Int) (w:World) (ha:a<=9223372036854775807) (hb:-9223372036854775808<=b) :
  Calls prog 144 #[.agg #[.int .i64 a,.int .i64 b]] w fun e w'=>e=.returned (.int .u64 (maxI a b))/\Below w.heap.size w w':=by
 cases h:isB a b
 ·have H:=zH h;clear h;go_enter func144,ntmps144;go_wp2_with fail;refine (is_any a b _ ha hb).mono ?_;rintro e w1 ⟨rfl,hb⟩;rw [H.out]
  go_wp2
  go_ret;exact ⟨ret_int (maxI_no H.out).symm,((Below.refl _ _).alloc (Nat.le_refl _) _).trans (hb.mono (by simp))⟩
 ·have hp:=isB_parts h;have H:=zH h;clear h;go_enter func144,ntmps144;go_wp2_with fail;refine (is_any a b _ ha hb).mono ?_;rintro e w1 ⟨rfl,hb⟩;rw [H.out];have hc:=old_cell hb;have hf:=old_frozen hb
  go_wp2
  go_ret;refine ⟨ret_int ?_,((Below.refl _ _).alloc (Nat.le_refl _) _).trans (hb.mono (by simp))⟩;rw [maxI_yes H.out,show (64 - b).toNat=64 - b.toNat by omega];exact ones_shift _ (by omega)
theorem get_any (a b x:Int) (w:World) (ha:a<=9223372036854775807) (hb:-9223372036854775808<=b) (h0:0<=x) (h1:x<=18446744073709551615) :
  Calls prog 93 #[.agg #[.int .i64 a,.int .i64 b],.int .u64 x] w fun e w'=>e=.returned (.int .u64 (getI a b x))/\Below w.heap.size w w':=by
 go_enter func93,ntmps93;go_wp2_with fail
 go_region_held3 (fun w'=>w'.cell? ⟨w.heap.size,0,none⟩=some (.int .i64 a)/\w'.cell? ⟨w.heap.size,1,none⟩=some (.int .i64 b)/\Below w.heap.size w w'/\w.heap.size < w'.heap.size)
  (first | (go_split_ands; exact hold_step (by assumption) (by assumption) (by assumption) (by assumption) (by assumption)) | (refine ⟨?_,?_,?_,?_⟩<;>first | exact ((Below.refl _ _).alloc (Nat.le_refl _) _).drew | go_keep | simp))
  (first | (go_at_call 144; refine (max_any a b _ ha hb).mono ?_; rintro e w1 ⟨rfl,hb1⟩))
 all_goals
  go_wp2
  go_ret
  go_split_ands
  exact ⟨ret_int (get_eq a b x h0 h1),by assumption⟩
theorem mask_any (a b:Int) (w:World) (ha:a<=9223372036854775807) (hb:-9223372036854775808<=b) :
  Calls prog 324 #[.agg #[.int .i64 a,.int .i64 b]] w fun e w'=>e=.returned (.int .u64 (maskI a b))/\Below w.heap.size w w':=by
 go_enter func324,ntmps324;go_wp2_with fail
 go_region_held3 (fun w'=>w'.cell? ⟨w.heap.size,0,none⟩=some (.int .i64 a)/\w'.cell? ⟨w.heap.size,1,none⟩=some (.int .i64 b)/\Below w.heap.size w w'/\w.heap.size < w'.heap.size)
  (first | (go_split_ands; exact hold_step (by assumption) (by assumption) (by assumption) (by assumption) (by assumption)) | (refine ⟨?_,?_,?_,?_⟩<;>first | exact ((Below.refl _ _).alloc (Nat.le_refl _) _).drew | go_keep | simp))
  (first | (go_at_call 144; refine (max_any a b _ ha hb).mono ?_; rintro e w1 ⟨rfl,hb1⟩))
 all_goals
  go_wp2
  go_ret
  go_split_ands
  exact ⟨ret_int (mask_eq a b),by assumption⟩
theorem put_yes (a b x y:Int) (w:World) (ha:a<=9223372036854775807) (hb:-9223372036854775808<=b) (h:isB a b=true) (hx0:0<=x) (hx1:x<=18446744073709551615) (hy0:0<=y) (hy:y<=maxI a b) :
  Calls prog 307 #[.agg #[.int .i64 a,.int .i64 b],.int .u64 x,.int .u64 y] w fun e w'=>e=.returned (.tuple #[.int .u64 (putI a b x y),.bool true])/\Below w.heap.size w w':=by
 have hp:=isB_parts h;have H:=zH h;clear h;go_enter func307,ntmps307;go_wp2_with fail;refine (is_any a b _ ha hb).mono ?_;rintro e w1 ⟨rfl,hb1⟩;rw [H.out];have hc:=old_cell hb1;have hf:=old_frozen hb1;go_wp2_with fail;refine (max_any a b _ ha hb).mono ?_;rintro e w2 ⟨rfl,hb2⟩;have hs1:=hb1.size;have hs2:=hb2.size;simp at hs1;have c0:w2.cell? ⟨w.heap.size,0,none⟩=some (.int .i64 a):=by rw [hb2.cell (p:=⟨w.heap.size,0,none⟩) (by simp; omega),hc _ _ (by simp)]; simp
 have c1:w2.cell? ⟨w.heap.size,1,none⟩=some (.int .i64 b):=by rw [hb2.cell (p:=⟨w.heap.size,1,none⟩) (by simp; omega),hc _ _ (by simp)]; simp
 have hB:Below w.heap.size w w2:=(((Below.refl _ _).alloc (Nat.le_refl _) _).trans (hb1.mono (by simp))).trans (hb2.mono (by omega));have hlt:w.heap.size < w2.heap.size:=by omega
 clear hc hf hb1 hb2 hs1 hs2;go_wp2_with fail
 go_region_held3 (fun w'=>w'.cell? ⟨w.heap.size,0,none⟩=some (.int .i64 a)/\w'.cell? ⟨w.heap.size,1,none⟩=some (.int .i64 b)/\Below w.heap.size w w'/\w.heap.size < w'.heap.size)
  (first | (go_split_ands; exact hold_step (by assumption) (by assumption) (by assumption) (by assumption) (by assumption)) | exact ⟨c0,c1,hB.drew,hlt⟩)
  (first | (go_at_call 324; refine (mask_any a b _ ha hb).mono ?_; rintro e w1 ⟨rfl,hb1⟩))
 all_goals
  go_wp2
  go_ret2
  go_split_ands
  exact ⟨ret_int_bool (put_eq a b x y H.out hx0 hx1 hy0 hy),by assumption⟩
def slotI (x:Int):Int:=x / 1099511627776 % 8388608
def verI (x:Int):Int:=x % 1099511627776
def markB (x:Int):Bool:=decide (9223372036854775808<=x)
def isS (s:Int):Bool:=decide (0<=s/\s<=8388607)
def isL (s v:Int):Bool:=decide (0<=s/\s<=8388607/\0<=v/\v<=1099511627775)
def bitI (m:Bool):Int:=if m then 9223372036854775808 else 0
def wordI (m:Bool) (s v:Int):Int:=if isL s v then v+s * 1099511627776+bitI m else 0
theorem isL_parts {s v:Int} (h:isL s v=true):0<=s/\s<=8388607/\0<=v/\v<=1099511627775:=by simpa [isL] using h
theorem isL_mk {s v:Int} (h1:0<=s) (h2:s<=8388607) (h3:0<=v) (h4:v<=1099511627775):isL s v=true:=by simp [isL,h1,h2,h3,h4]
theorem isS_parts {s:Int} (h:isS s=true):0<=s/\s<=8388607:=by simpa [isS] using h
theorem slotI_in (x:Int):0<=slotI x/\slotI x<=8388607:=by unfold slotI; omega
theorem verI_in (x:Int):0<=verI x/\verI x<=1099511627775:=by unfold verI; omega
theorem wordI_in (m:Bool) (s v:Int):0<=wordI m s v/\wordI m s v<=18446744073709551615:=by
 unfold wordI
 split
 ·have:=isL_parts ‹_›;cases m<;>simp [bitI]<;>omega
 ·omega
theorem wordI_yes {m:Bool} {s v:Int} (h:isL s v=true):wordI m s v=v+s * 1099511627776+bitI m:=by simp [wordI,h]
theorem wordI_no {m:Bool} {s v:Int} (h:isL s v=false):wordI m s v=0:=by simp [wordI,h]
theorem slot_word {m:Bool} {s v:Int} (h:isL s v=true):slotI (wordI m s v)=s:=by
 have:=isL_parts h;rw [wordI_yes h];cases m<;>simp only [bitI,slotI,if_true,if_false,Bool.false_eq_true]<;>omega
theorem mark_word {m:Bool} {s v:Int} (h:isL s v=true):markB (wordI m s v)=m:=by
 have:=isL_parts h;rw [wordI_yes h];cases m<;>simp only [bitI,markB,if_true,if_false,Bool.false_eq_true,decide_eq_true_eq,decide_eq_false_iff_not]<;>omega
theorem get_version (x:Int) (h0:0<=x):getI 0 40 x=verI x:=by
 obtain ⟨X,rfl⟩:=Int.eq_ofNat_of_zero_le h0;simp only [getI,show isB 0 40=true from rfl,if_true,getN,verI,Int.toNat_natCast];simp
theorem get_slot (x:Int) (h0:0<=x):getI 40 23 x=slotI x:=by
 obtain ⟨X,rfl⟩:=Int.eq_ofNat_of_zero_le h0;simp only [getI,show isB 40 23=true from rfl,if_true,getN,slotI,Int.toNat_natCast];simp
theorem get_mark (x:Int) (h0:0<=x):getI 63 1 x=x / 9223372036854775808 % 2:=by
 obtain ⟨X,rfl⟩:=Int.eq_ofNat_of_zero_le h0;simp only [getI,show isB 63 1=true from rfl,if_true,getN,Int.toNat_natCast];simp
theorem mark_one (x:Int) (h0:0<=x) (h1:x<=18446744073709551615):decide (getI 63 1 x=1)=markB x:=by
 rw [get_mark x h0];unfold markB
 by_cases h:9223372036854775808<=x
 ·simp only [h,decide_true,decide_eq_true_eq]; omega
 ·simp only [h,decide_false,decide_eq_false_iff_not]; omega
theorem putN_above {A B W X:Nat} (hAB:A+B<=64) (hW:W < 2 ^ A):putN A B W X=W+X * 2 ^ A:=by
 have e1:W &&& (18446744073709551615 - maskN A B)=W:=by
  apply Nat.eq_of_testBit_eq;intro i;rw [Nat.testBit_and,ones_sub_testBit (maskN_lt hAB),maskN_testBit]
  by_cases hi:i < A
  ·have h1:¬ A<=i:=by omega
   have h2:i < 64:=by omega
   simp [h1,h2]
  ·have:=Nat.testBit_lt_two_pow (Nat.lt_of_lt_of_le hW (Nat.pow_le_pow_right (n:=2) (by omega) (show A<=i by omega)));simp [this]
 unfold putN;rw [e1,Nat.or_comm,Nat.mul_comm,<- Nat.two_pow_add_eq_or_of_lt hW];omega
theorem put_version (v:Int) (h0:0<=v):putI 0 40 0 v=v:=by
 obtain ⟨V,rfl⟩:=Int.eq_ofNat_of_zero_le h0;have:=putN_above (A:=0) (B:=40) (W:=0) (X:=V) (by omega) (by simp);simp only [putI,Int.toNat_natCast,Int.toNat_zero,show (40:Int).toNat=40 from rfl];rw [this];simp
theorem put_slot (v s:Int) (h0:0<=v) (h1:v<=1099511627775) (h2:0<=s):putI 40 23 v s=v+s * 1099511627776:=by
 obtain ⟨V,rfl⟩:=Int.eq_ofNat_of_zero_le h0;obtain ⟨S,rfl⟩:=Int.eq_ofNat_of_zero_le h2;have:=putN_above (A:=40) (B:=23) (W:=V) (X:=S) (by omega) (by simp; omega);simp only [putI,Int.toNat_natCast,show (40:Int).toNat=40 from rfl,show (23:Int).toNat=23 from rfl];rw [this];simp
theorem put_mark (x:Int) (h0:0<=x) (h1:x < 9223372036854775808):putI 63 1 x 1=x+9223372036854775808:=by
 obtain ⟨X,rfl⟩:=Int.eq_ofNat_of_zero_le h0;have:=putN_above (A:=63) (B:=1) (W:=X) (X:=1) (by omega) (by simp; omega);simp only [putI,Int.toNat_natCast,show (63:Int).toNat=63 from rfl,show (1:Int).toNat=1 from rfl];rw [this];simp
theorem max_parts:maxI 0 40=1099511627775/\maxI 40 23=8388607/\maxI 63 1=1/\isB 0 40=true/\isB 40 23=true/\isB 63 1=true:=by decide +kernel
def nextE (x s:Int):Int:=if isS s then (if verI x=1099511627775 then 7 else 0) else 3
def nextW (x s:Int):Int:=if isS s then (if verI x=1099511627775 then 0 else wordI false s (verI x+1)) else 0
def markedW (x s v:Int):Int:=if markB x then x else wordI true s v
def Glo (w:World):Prop :=
 (w.cell? ⟨2,0,none⟩=some (.int .i64 0)/\w.cell? ⟨2,1,none⟩=some (.int .i64 40)) /\
 (w.cell? ⟨0,0,none⟩=some (.int .i64 40)/\w.cell? ⟨0,1,none⟩=some (.int .i64 23)) /\
 (w.cell? ⟨1,0,none⟩=some (.int .i64 63)/\w.cell? ⟨1,1,none⟩=some (.int .i64 1)) /\
 2 < w.heap.size/\0 < w.heap.size/\1 < w.heap.size
theorem Glo.keep {n:Nat} {w w':World} (h:Glo w) (hb:Below n w w') (hn:w.heap.size<=n):Glo w':=by
 obtain ⟨⟨a0,a1⟩,⟨b0,b1⟩,⟨c0,c1⟩,h1,h2,h3⟩:=h;have:=hb.size;refine ⟨⟨?_,?_⟩,⟨?_,?_⟩,⟨?_,?_⟩,by omega,by omega,by omega⟩
 ·rw [hb.cell (p:=⟨_,0,none⟩) (by simp; omega)]; exact a0
 ·rw [hb.cell (p:=⟨_,1,none⟩) (by simp; omega)]; exact a1
 ·rw [hb.cell (p:=⟨_,0,none⟩) (by simp; omega)]; exact b0
 ·rw [hb.cell (p:=⟨_,1,none⟩) (by simp; omega)]; exact b1
 ·rw [hb.cell (p:=⟨_,0,none⟩) (by simp; omega)]; exact c0
 ·rw [hb.cell (p:=⟨_,1,none⟩) (by simp; omega)]; exact c1
theorem Glo.keep' {w1 w2:World} (h:Glo w1) (hb:Below w1.heap.size w1 w2):Glo w2:=h.keep hb (Nat.le_refl _)
theorem Glo.alloc {w:World} (h:Glo w) (o:Obj):Glo (w.alloc o):=h.keep ((Below.refl _ _).alloc (Nat.le_refl _) _) (Nat.le_refl _)
theorem isSlot_any (s:Int) (w:World):Calls prog 323 #[.int .i64 s] w fun e w'=>e=.returned (.bool (isS s))/\w=w':=by
 by_cases h1:0<=s
 ·go_enter func323,ntmps323
  go_wp2
  go_ret;exact ⟨ret_bool (by simp [isS,h1]),rfl⟩
 ·have hd:decide (0<=s)=false:=by simpa using h1
  go_enter func323,ntmps323
  go_wp2
  go_ret;exact ⟨ret_bool (by simp [isS]; omega),rfl⟩
theorem slot_any (x:Int) (w:World) (hg:Glo w) (h0:0<=x) (h1:x<=18446744073709551615) :
  Calls prog 54 #[.int .u64 x] w fun e w'=>e=.returned (.int .i64 (slotI x))/\Below w.heap.size w w':=by
 obtain ⟨-,⟨c0,c1⟩,-,-,hs,-⟩:=hg;obtain ⟨k0,k1⟩:=slotI_in x;have HG:=zH (get_slot x h0);go_enter func54,ntmps54;go_wp2_with fail;refine (get_any 40 23 x _ (by decide) (by decide) h0 h1).mono ?_;rintro e w1 ⟨rfl,hb⟩;rw [HG.out]
 go_wp2
 go_ret;exact ⟨rfl,hb⟩
theorem hold3 {n:Nat} {w w1 w2:World} {x y z:Value} (c0:w1.cell? ⟨n,0,none⟩=some x) (c1:w1.cell? ⟨n,1,none⟩=some y) (c2:w1.cell? ⟨n,2,none⟩=some z) (hB:Below n w w1) (hs:n < w1.heap.size) (hb:Below w1.heap.size w1 w2) :
  w2.cell? ⟨n,0,none⟩=some x/\w2.cell? ⟨n,1,none⟩=some y/\w2.cell? ⟨n,2,none⟩=some z/\Below n w w2/\n < w2.heap.size :=
 ⟨by rw [hb.cell (p:=⟨n,0,none⟩) hs]; exact c0,by rw [hb.cell (p:=⟨n,1,none⟩) hs]; exact c1,by rw [hb.cell (p:=⟨n,2,none⟩) hs]; exact c2,hB.trans (hb.mono (by omega)),by have:=hb.size; omega⟩
theorem linkIs_any (m:Bool) (s v:Int) (w:World) :
  Calls prog 306 #[.agg #[.bool m,.int .i64 s,.int .i64 v]] w fun e w'=>e=.returned (.bool (isL s v))/\Below w.heap.size w w':=by
 cases hS:isS s
 ·have H:=zH hS;go_enter func306,ntmps306;go_wp2_with fail;refine (isSlot_any s _).mono ?_;rintro e w1 ⟨rfl,rfl⟩;rw [H.out]
  go_wp2
  go_ret;exact ⟨ret_bool (by have:=H.out; simp [isS] at this; simp [isL]; omega),(Below.refl _ _).alloc (Nat.le_refl _) _⟩
 ·obtain ⟨k0,k1⟩:=isS_parts hS;have H:=zH hS;clear hS
  by_cases h2:0<=v
  ·go_enter func306,ntmps306;go_wp2_with fail;refine (isSlot_any s _).mono ?_;rintro e w1 ⟨rfl,rfl⟩;rw [H.out]
   go_wp2
   go_ret;exact ⟨ret_bool (by simp [isL,h2,k0,k1]),(Below.refl _ _).alloc (Nat.le_refl _) _⟩
  ·have hd:decide (0<=v)=false:=by simpa using h2
   go_enter func306,ntmps306;go_wp2_with fail;refine (isSlot_any s _).mono ?_;rintro e w1 ⟨rfl,rfl⟩;rw [H.out]
   go_wp2
   go_ret;exact ⟨ret_bool (by simp [isL]; omega),(Below.refl _ _).alloc (Nat.le_refl _) _⟩
theorem put1 (v:Int) (w:World) (h0:0<=v) (h1:v<=1099511627775) :
  Calls prog 307 #[.agg #[.int .i64 0,.int .i64 40],.int .u64 0,.int .u64 v] w fun e w'=>e=.returned (.tuple #[.int .u64 v,.bool true])/\Below w.heap.size w w':=by
 have:=put_yes 0 40 0 v w (by decide) (by decide) max_parts.2.2.2.1 (by decide) (by decide) h0 (by rw [max_parts.1]; exact h1);rw [put_version v h0] at this;exact this
theorem put2 (v s:Int) (w:World) (h0:0<=v) (h1:v<=1099511627775) (h2:0<=s) (h3:s<=8388607) :
  Calls prog 307 #[.agg #[.int .i64 40,.int .i64 23],.int .u64 v,.int .u64 s] w fun e w'=>e=.returned (.tuple #[.int .u64 (v+s * 1099511627776),.bool true])/\Below w.heap.size w w':=by
 have:=put_yes 40 23 v s w (by decide) (by decide) max_parts.2.2.2.2.1 h0 (by omega) h2 (by rw [max_parts.2.1]; exact h3);rw [put_slot v s h0 h1 h2] at this;exact this
theorem put3 (x:Int) (w:World) (h0:0<=x) (h1:x < 9223372036854775808) :
  Calls prog 307 #[.agg #[.int .i64 63,.int .i64 1],.int .u64 x,.int .u64 1] w fun e w'=>e=.returned (.tuple #[.int .u64 (x+9223372036854775808),.bool true])/\Below w.heap.size w w':=by
 have:=put_yes 63 1 x 1 w (by decide) (by decide) max_parts.2.2.2.2.2 h0 (by omega) (by decide) (by rw [max_parts.2.2.1]; decide);rw [put_mark x h0 h1] at this;exact this
theorem word_any (m:Bool) (s v:Int) (w:World) (hg:Glo w) :
  Calls prog 289 #[.agg #[.bool m,.int .i64 s,.int .i64 v]] w fun e w'=>e=.returned (.int .u64 (wordI m s v))/\Below w.heap.size w w':=by
 cases h:isL s v
 ·have H:=zH h;clear h;go_enter func289,ntmps289;go_wp2_with fail;refine (linkIs_any m s v _).mono ?_;rintro e w1 ⟨rfl,hb⟩;rw [H.out]
  go_wp2
  go_ret;exact ⟨ret_int (wordI_no H.out).symm,((Below.refl _ _).alloc (Nat.le_refl _) _).trans (hb.mono (by simp))⟩
 ·have hp:=isL_parts h;have H:=zH h;clear h;obtain ⟨k0,k1,k2,k3⟩:=hp;have hA:=hg.alloc (.cells #[.bool m,.int .i64 s,.int .i64 v] 339);clear hg;go_enter func289,ntmps289;go_wp2_with fail;refine (linkIs_any m s v _).mono ?_;rintro e w1 ⟨rfl,hb⟩;have hA1:=hA.keep' hb;obtain ⟨d0,d1,d2,hB,hs⟩:=hold3 (n:=w.heap.size) (w:=w) (x:=.bool m) (y:=.int .i64 s) (z:=.int .i64 v) (by simp) (by simp) (by simp) ((Below.refl _ _).alloc (Nat.le_refl _) _) (by simp) hb;clear hb hA;rw [H.out];obtain ⟨⟨a0,a1⟩,⟨b0,b1⟩,⟨c0,c1⟩,g1,g2,g3⟩:=id hA1;go_wp2_with fail;refine (put1 v _ k2 k3).mono ?_;rintro e w2 ⟨rfl,hb⟩;have hA2:=hA1.keep' hb;obtain ⟨e0,e1,e2,hB2,hs2⟩:=hold3 d0 d1 d2 hB hs hb;clear hb hA1 d0 d1 d2 hB hs a0 a1 b0 b1 c0 c1 g1 g2 g3;obtain ⟨⟨a0,a1⟩,⟨b0,b1⟩,⟨c0,c1⟩,g1,g2,g3⟩:=id hA2;go_wp2_with fail;refine (put2 v s _ k2 k3 k0 k1).mono ?_;rintro e w3 ⟨rfl,hb⟩;have hA3:=hA2.keep' hb;obtain ⟨d0,d1,d2,hB,hs⟩:=hold3 e0 e1 e2 hB2 hs2 hb;clear hb hA2 e0 e1 e2 hB2 hs2 a0 a1 b0 b1 c0 c1 g1 g2 g3;obtain ⟨⟨a0,a1⟩,⟨b0,b1⟩,⟨c0,c1⟩,g1,g2,g3⟩:=id hA3;have q0:0<=v+s * 1099511627776:=by omega
  have q1:v+s * 1099511627776 < 9223372036854775808:=by omega
  cases m
  ·have HW:=zH (wordI_yes (m:=false) H.out);clear hA3;go_wp2_with fail;go_ret;exact ⟨ret_int (by rw [HW.out]; simp [bitI]),hB⟩
  ·have HW:=zH (wordI_yes (m:=true) H.out);clear hA3;go_wp2_with fail;refine (put3 _ _ q0 q1).mono ?_;rintro e w4 ⟨rfl,hb⟩;go_wp2_with fail;go_ret;exact ⟨ret_int (by rw [HW.out]; simp [bitI]),hB.trans (hb.mono (by omega))⟩
end
section
open Go.RowKit Go.Maps
section
variable {w0 w:World} {L:List Item}
theorem newYes_c (k s b h l:Int) (hc:chkI k s b h l=0) (hE:Env w0 L w) :
  Calls prog 20 #[.agg #[.int .i64 k,.int .i64 s,.int .i64 b,.int .i64 h,.int .i64 l]] w fun o w'=>∃ c q F,o=.returned (.pointer (some ⟨c,0,none⟩))/\Env w0 (coreI c k s b h l 0 0 0 0 q::queueI q F [] 2::L) w':=by
 have HC:=zH hc;clear hc;have hE1:=hE.box w.heap.size rfl [.int .i64 k,.int .i64 s,.int .i64 b,.int .i64 h,.int .i64 l] 58;clear hE;have r:=hE1.rule 0 rfl;go_enter func20,ntmps20;go_wp2_with fail;refine (check_any k s b h l _).mono ?_;rintro o w1 ⟨rfl,hb⟩;rw [HC.out];replace hE1:=hE1.over hb;clear hb r;generalize w.heap.size=X at *;go_wp2_with fail;refine Ord3.wp_chain [?_,?_,?_,?_,?_] [1,2,3,4] (fun w'=>Blk 0 w' X [.int .i64 k,.int .i64 s,.int .i64 b,.int .i64 h,.int .i64 l]) (Ord3.Stage fun κs=>[Env w0 (boxI X [.int .i64 k,.int .i64 s,.int .i64 b,.int .i64 h,.int .i64 l]::L),fun w'=>∃ q,κs.getD 0 undef=.pointer (some ⟨q,0,none⟩)/\∃ F,Env w0 (queueI q F [] 2::boxI X [.int .i64 k,.int .i64 s,.int .i64 b,.int .i64 h,.int .i64 l]::L) w',fun w'=>∃ q,κs.getD 1 undef=(.agg #[.int .i64 k,.int .i64 s,.int .i64 b,.int .i64 h,.int .i64 l,.int .i64 0,.int .i64 0,.int .i64 0,.int .i64 0,.pointer (some ⟨q,0,none⟩)])/\∃ F,Env w0 (queueI q F [] 2::boxI X [.int .i64 k,.int .i64 s,.int .i64 b,.int .i64 h,.int .i64 l]::L) w',fun w'=>∃ c,κs.getD 2 undef=.pointer (some ⟨c,0,none⟩)/\∃ q F,Env w0 (coreI c k s b h l 0 0 0 0 q::queueI q F [] 2::boxI X [.int .i64 k,.int .i64 s,.int .i64 b,.int .i64 h,.int .i64 l]::L) w',fun w'=>∃ c,κs.getD 3 undef=.pointer (some ⟨c,0,none⟩)/\∃ q F,Env w0 (coreI c k s b h l 0 0 0 0 q::queueI q F [] 2::boxI X [.int .i64 k,.int .i64 s,.int .i64 b,.int .i64 h,.int .i64 l]::L) w']) (by kernel_rfl) (by kernel_rfl) (by kernel_rfl) (hE1.drew.get 0 rfl) ⟨_,rfl,hE1.drew⟩ (fun hT=>?_);rotate_left 5;have hT9:=zH hT;clear hT
 repeat ((first
  | (focus (refine Ord3.in_value (v:=?_) hT9.o (by decide) ?_ (by rfl) ?_ ?_; rotate_left 2; (intro w5 hS; have r:=Blk.rule hS; go_simp<;>rfl); rotate_right; (focus rfl)))
  | (focus (refine Ord3.in_off hT9.o (by decide) ?_ (by rfl) ?_; (focus rfl))));try simp only [Act.put,zA,zZ,zS])
 refine Ord3.in_turn (fun u=>∃ q,u=.pointer (some ⟨q,0,none⟩)) _ ⟨0,rfl⟩ hT9.o rfl (by decide) (by rfl) ?_ (Or.inl rfl) (by rfl) ?_ ?_
 ·rfl
 ·rintro w7 hC7 ⟨P7,hP7,hA7⟩;cases hP7;go_simp;simp only [Ord3.Lands];refine (newQ_any (xs:=[]) (A:=none) (cap:=0) (by simp) Row3.nil).mono ?_;rintro o w8 ⟨q8,F8,k8,rfl,hrm,hQ,hb8,hF8⟩;have hk8:=hrm.unique (Rm.same (by simp));subst hk8;have hE8:=hA7.madeQ hQ hF8 hb8;exact ⟨_,rfl,⟨q8,rfl⟩,hE8.get 1 rfl,_,rfl,q8,rfl,F8,hE8⟩
 rintro _ ⟨q9,rfl⟩
 try simp only [Act.put,zA,zZ,zS]
 refine Ord3.in_turn (fun u=>∃ q,u=(.agg #[.int .i64 k,.int .i64 s,.int .i64 b,.int .i64 h,.int .i64 l,.int .i64 0,.int .i64 0,.int .i64 0,.int .i64 0,.pointer (some ⟨q,0,none⟩)])) _ ⟨0,rfl⟩ hT9.o rfl (by decide) (by rfl) ?_ (Or.inr ⟨_,1,[],rfl,by kernel_rfl,by kernel_rfl,rfl⟩) (by rfl) ?_ ?_
 ·rfl
 ·rintro w7 hC7 ⟨P7,hP7,hA7⟩;cases hP7;obtain ⟨q8,he,F8,hA7⟩:=hA7;cases he;go_simp;simp only [Ord3.Lands];exact ⟨⟨_,rfl⟩,hC7,_,rfl,q9,rfl,F8,hA7⟩
 rintro _ ⟨q10,rfl⟩
 try simp only [Act.put,zA,zZ,zS]
 refine Ord3.in_turn (fun u=>∃ c,u=.pointer (some ⟨c,0,none⟩)) _ ⟨0,rfl⟩ hT9.o rfl (by decide) (by rfl) ?_ (Or.inr ⟨_,2,[],rfl,by kernel_rfl,by kernel_rfl,rfl⟩) (by rfl) ?_ ?_
 ·rfl
 ·rintro w7 hC7 ⟨P7,hP7,hA7⟩;cases hP7;obtain ⟨q8,he,F8,hA7⟩:=hA7;cases he;go_simp;simp only [Ord3.Lands];have hE8:=hA7.box w7.heap.size rfl (crv k s b h l 0 0 0 0 q10) 138;exact ⟨⟨_,rfl⟩,hE8.get 2 rfl,_,rfl,w7.heap.size,rfl,q10,F8,hE8⟩
 rintro _ ⟨c8,rfl⟩
 try simp only [Act.put,zA,zZ,zS]
 refine Ord3.in_turn (fun u=>∃ c,u=.pointer (some ⟨c,0,none⟩)) _ ⟨0,rfl⟩ hT9.o rfl (by decide) (by rfl) ?_ (Or.inr ⟨_,3,[],rfl,by kernel_rfl,by kernel_rfl,rfl⟩) (by rfl) ?_ ?_
 ·rfl
 ·rintro w7 hC7 ⟨P7,hP7,hA7⟩;cases hP7;obtain ⟨c7,he,q8,F8,hA7⟩:=hA7;cases he;go_simp;simp only [Ord3.Lands];exact ⟨⟨_,rfl⟩,hC7,_,rfl,c8,rfl,q8,F8,hA7⟩
 rintro _ ⟨c9,rfl⟩
 try simp only [Act.put,zA,zZ,zS]
 refine Ord3.in_nil rfl ?_;rintro w9 hC9 ⟨P9,hP9,hA9⟩;cases hP9;obtain ⟨c8,he,q8,F8,hA9⟩:=hA9;cases he;clear hT9 hC9;go_wp2_with fail;go_ret;exact ⟨c9,q8,F8,rfl,hA9.sub (.cons_cons _ (.cons_cons _ (.cons _ (List.Sublist.refl _))))⟩
end
theorem lead_c (v d:Int) (t:Bool) (w:World) (hv:InU v) (hg:Glo w) :
  Calls prog 205 #[.agg #[.int .u64 v,.int .i64 d,.bool t]] w fun o w'=>o=.returned (.agg #[.int .i64 (slotI v),.int .i64 d])/\Below w.heap.size w w':=by
 unfold InU at hv;have HGB:=zH fun (x:World) (hx:Below w.heap.size w x)=>slot_any v x (hg.keep' hx) hv.1 hv.2;clear hg;have hF:=((Fr.start w).push w.heap.size rfl [.int .u64 v,.int .i64 d,.bool t] 180).push (w.heap.size+1) (by simp) [.int .i64 0,.int .i64 0] 136;have hX:=hF.blk 1 rfl (by omega);have hZ:=hF.blk 0 rfl (by omega);have hE:=hF.below;clear hF;go_enter func205,ntmps205;go_wp2_with fail;refine Ord.wc [6] (fun w'=>Below w.heap.size w w'/\Blk 0 w' w.heap.size [.int .u64 v,.int .i64 d,.bool t]) (fun j w'=>Blk 0 w' (w.heap.size+1) (if j=0 then [.int .i64 0,.int .i64 0] else [.int .i64 (slotI v),.int .i64 d])) ⟨hE.drew,hX.drew⟩ hZ.drew fun hT9=>?_
 repeat ((first
  | (refine Ord.cv ?_ hT9.o ?_ ?_; rotate_left; (intro w5 hS; have r:=Blk.rule hS.2; go_simp<;>rfl))
  | (refine Ord.co hT9.o ?_)
  | (refine Ord.cc ?_ ?_ ?_ hT9.o ?_ ?_ ?_; rotate_left 3; (intro w5 hS; have r:=Blk.rule hS.2; go_simp; constructor<;>rfl); (intro w5 hS; (first | (with_reducible refine kp (HGB.out _ hS.1) ?_ ?_; rfl; exact fun w6 hb6=>⟨⟨hS.1.trans (hb6.mono hS.1.size),hS.2.under hb6⟩,fun _ h=>h.under hb6⟩)))));try simp only [Act.put,zA,zZ,zS])
 refine Ord.ch_turn (v:=undef) 0 hT9.o rfl (by decide) (Or.inl rfl) (by rfl) ?_ ?_
 ·rintro w5 hS hA2;simp only [if_true] at hA2;have r:=hA2.rule;have f0:=hA2.thaw 0 (by simp);have f1:=hA2.thaw 1 (by simp);have hz:=hS.1.size;go_simp;refine ⟨rfl,⟨?_,?_⟩,?_⟩
  ·exact below_set (below_set hS.1 hz (by omega) _) (by simp; omega) (by omega) _
  ·exact (hS.2.off (by omega) _).off (by omega) _
  ·exact (hA2.set (i:=0) (by simp) _).set (i:=1) (by simp) _
 try simp only [Act.put,zA,zZ,zS]
 repeat ((first
  | (refine Ord.cv ?_ hT9.o ?_ ?_; rotate_left; (intro w5 hS; skip; go_simp<;>rfl))
  | (refine Ord.co hT9.o ?_));try simp only [Act.put,zA,zZ,zS])
 refine Ord.InText.nil fun w5 hS=>?_;clear hT9;obtain ⟨hC9,hA9⟩:=Ord.chain_end hS;clear hS;have q:=hA9.rule;simp only [show ¬ [6].length=0 by decide,if_false] at q
 go_wp2
 exact bodyPost_ret (v:=.agg #[.int .i64 (slotI v),.int .i64 d]) (by simp [results,results205,go_sem,q]) rfl ⟨rfl,hC9.1⟩
end
section
open Go
section
variable {P:Program} {ops:Array Oper} {Q:Exit->Act->World->Prop} {md:Region.Mode} {S:World->Prop}
def LandsIn (P:Program) (S:World->Prop) (v:Value):Result Next->Prop
 | .ok (.value u) w'=>u=v/\S w'
 | .ok .skip w'=>v=undef/\S w'
 | .ok (.enter f args) w'=>Calls P f args w' fun e w''=>e=.returned v/\S w''
 | _=>False
def Settles (P:Program) (ops:Array Oper) (S:World->Prop) (o:Oper) (v:Value) (a:Act):Prop :=
 (Region.wanted o (yielded ops a.tmps)=true/\∀ w,S w->LandsIn P S v ((execOp a.eval o).run P w))\/(Region.wanted o (yielded ops a.tmps)=false/\v=undef)
theorem Settles.of_same {o:Oper} {v:Value} {a a':Act} (h:Settles P ops S o v a) (he:execOp a'.eval o=execOp a.eval o)
  (hw:Region.wanted o (yielded ops a'.tmps)=Region.wanted o (yielded ops a.tmps)):Settles P ops S o v a':=by
 unfold Settles at *;rw [he,hw];exact h
theorem Settles.wpOp {i:Nat} {o:Oper} {v:Value} {a:Act} (hi:ops[i]?=some o) (h:Settles P ops S o v a) {K:Act->World->Prop} {w:World} (hS:S w)
  (hK:∀ w',S w'->K (a.put o.dst v) w'):wpOp P ops Q i K a w:=by
 unfold Go.wpOp;simp only [hi]
 rcases h with ⟨hw,hv⟩ | ⟨hw,rfl⟩
 ·simp only [hw,if_true];have:=hv w hS;refine .inl ?_;unfold Oper.wp;generalize (execOp a.eval o).run P w=r at *;cases r with
  | ok n w' =>
   cases n<;>simp only [LandsIn] at this<;>simp only [Oper.upon]
   case value u=>obtain ⟨rfl,h2⟩:=this; exact hK _ h2
   case skip=>obtain ⟨rfl,h2⟩:=this; exact hK _ h2
   case enter f args =>
    refine Calls.mono this fun e w'' he=>?_;obtain ⟨rfl,h2⟩:=he;exact hK _ h2
  | halt x w'=>simp only [LandsIn] at this
 ·simp only [hw,Bool.false_eq_true,if_false];exact hK _ hS
def Every (P:Program) (md:Region.Mode) (ops:Array Oper) (Q:Exit->Act->World->Prop) (S:World->Prop):Nat->Array Bool->Act->Prop
 | 0,listed,a=>Region.ready md ops listed=[]/\∀ w,S w->Q .normal a w
 | fuel+1,listed,a=>(Region.ready md ops listed=[]->∀ w,S w->Q .normal a w) /\
  ∀ i∈Region.ready md ops listed,∃ o v,ops[i]?=some o/\Settles P ops S o v a/\Every P md ops Q S fuel (listed.setIfInBounds i true) (a.put o.dst v)
theorem Every.sound:∀ (fuel:Nat) (listed:Array Bool) (a:Act),Every P md ops Q S fuel listed a->∀ w,S w->wpAny P md ops Q fuel listed a w
 | 0,_,_,h,w,hS=>⟨h.1,h.2 w hS⟩
 | fuel+1,listed,a,h,w,hS=>⟨fun h0=>h.1 h0 w hS,fun i hi=>by
   obtain ⟨o,v,ho,hs,hE⟩:=h.2 i hi;exact hs.wpOp ho hS fun w' hS'=>Every.sound fuel _ _ hE w' hS'⟩
theorem Every.first {i:Nat} {oi:Oper} {v:Value} (hi:ops[i]?=some oi) (hsel:∀ (j:Nat) (o:Oper) cs b,ops[j]?=some o->o.op≠.select cs b) :
  ∀ (fuel:Nat) (listed:Array Bool) (a:Act),
   (∀ j oj,ops[j]?=some oj->j≠i->listed.getD j true=false->(∀ e∈oj.after,Region.binds md e=true->e.on≠i)->oi.apart ops oj=true) ->
   i∈Region.ready md ops listed->Settles P ops S oi v a ->
   Every P md ops Q S fuel (listed.setIfInBounds i true) (a.put oi.dst v)->Every P md ops Q S (fuel+1) listed a:=by
 intro fuel
 induction fuel with
 | zero =>
  intro listed a _ hr hy H;refine ⟨fun h=>(by rw [h] at hr; cases hr),fun j hj=>?_⟩
  by_cases hji:j=i
  ·subst hji; exact ⟨oi,v,hi,hy,H⟩
  ·have:=ready_mono hj hji;rw [H.1] at this;cases this
 | succ fuel ih =>
  intro listed a hfree hr hy H;refine ⟨fun h=>(by rw [h] at hr; cases hr),fun j hj=>?_⟩
  by_cases hji:j=i
  ·subst hji; exact ⟨oi,v,hi,hy,H⟩
  ·obtain ⟨oj,u,hoj,hsj,hE⟩:=H.2 j (ready_mono hj hji);obtain ⟨hjun,oj',hoj',hall⟩:=mem_ready.1 hj;obtain rfl:oj=oj':=Option.some.inj (hoj.symm.trans hoj');have hnot:∀ e∈oj.after,Region.binds md e=true->e.on≠i:=fun e he hb heq=>by
    have h1:=hall e he hb;have h0:=(mem_ready.1 hr).1;rw [heq] at h1
    rcases Nat.lt_or_ge i listed.size with h' | h'
    ·simp [h'] at h0 h1; rw [h0] at h1; cases h1
    ·simp [Array.getElem?_eq_none h'] at h1
   have hap:=hfree j oj hoj hji hjun hnot;obtain ⟨p1,p2,p3⟩:=Oper.apart_spec hap;have hfree':∀ k ok,ops[k]?=some ok->k≠i->(listed.setIfInBounds j true).getD k true=false ->
     (∀ e∈ok.after,Region.binds md e=true->e.on≠i)->oi.apart ops ok=true:=fun k ok hk hki hun hno=>by
    refine hfree k ok hk hki ?_ hno
    by_cases hjk:j=k
    ·subst hjk; exact hjun
    ·rw [getD_set_ne true hjk] at hun; exact hun
   refine ⟨oj,u,hoj,hsj.of_same (execOp_put oj (fun cs b=>hsel j oj cs b hoj) a oi.dst v p1).symm (wanted_put oj a oi.dst v p1).symm,?_⟩;refine ih (listed.setIfInBounds j true) (a.put oj.dst u) hfree' (ready_mono hr (Ne.symm hji)) (hy.of_same (execOp_put oi (fun cs b=>hsel i oi cs b hi) a oj.dst u p3) (wanted_put oi a oj.dst u p3)) ?_;rw [Array.setIfInBounds_comm _ _ hji,<- Act.put_comm a v u p2];exact hE
def firstK (n k:Nat):Array Bool:=Array.ofFn (n:=n) fun i=>decide (i.1 < k)
def textFits (md:Region.Mode) (ops:Array Oper):Bool :=
 Region.noSelect ops && (List.range ops.size).all fun k=>Region.free md ops (firstK ops.size k) k && (Region.ready md ops (firstK ops.size k)).contains k
def InText (P:Program) (md:Region.Mode) (ops:Array Oper) (Q:Exit->Act->World->Prop) (S:World->Prop) (rest:List Oper) (a:Act):Prop :=
 ∀ k,k+rest.length=ops.size->ops.toList.drop k=rest->Every P md ops Q S rest.length (firstK ops.size k) a
theorem firstK_succ (n k:Nat):(firstK n k).setIfInBounds k true=firstK n (k+1):=by
 apply Array.ext
 ·simp [firstK]
 ·intro i h1 h2
  by_cases hik:i=k
  ·subst hik;simp [firstK]
  ·have e:=Array.getElem_setIfInBounds_ne (xs:=firstK n k) (i:=k) (j:=i) (a:=true) (by simpa using h1) (by omega);rw [e];simp only [firstK,Array.getElem_ofFn]
   congr 1
   apply propext;omega
theorem InText.nil {a:Act} (h:∀ w,S w->Q .normal a w):InText P md ops Q S [] a:=fun k hk _=>by
 refine ⟨?_,h⟩;have hk':k=ops.size:=by simpa using hk
 subst hk';unfold Region.ready;rw [List.filter_eq_nil_iff];intro i hi;have:i < ops.size:=by simpa using hi
 simp [firstK,this]
theorem InText.cons {o:Oper} {rest:List Oper} {a:Act} {v:Value} (hf:textFits md ops=true) (hs:Settles P ops S o v a) (h:InText P md ops Q S rest (a.put o.dst v)):InText P md ops Q S (o::rest) a:=fun k hk hd=>by
 unfold textFits at hf;rw [Bool.and_eq_true,List.all_eq_true] at hf;have hlt:k < ops.size:=by simp at hk; omega
 have hf2:=hf.2 k (by simpa using hlt);rw [Bool.and_eq_true] at hf2;have ho:ops[k]?=some o:=by
  have h0:(ops.toList.drop k)[0]?=some o:=by rw [hd]; rfl
  simpa using h0
 have hsel:∀ (j:Nat) (o:Oper) cs b,ops[j]?=some o->o.op≠.select cs b:=Region.noSelect_spec hf.1;refine Every.first ho hsel rest.length (firstK ops.size k) a (Region.free_spec ho hf2.1) (by simpa using hf2.2) hs ?_;rw [firstK_succ];refine h (k+1) (by simp at hk; omega) ?_;rw [<- List.drop_drop,hd];rfl
theorem wp_text {id:Nat} {a:Act} {w:World} (hm:P.follows .mixedOrders=true) (hf:textFits .any ops=true) (hS:S w.drew) (h:textFits .any ops=true->InText P .any ops Q S ops.toList a):(Code.region id ops true).wp P Q a w :=
 wp_region_any hm (by
  have h0:=h hf 0 (by simp) rfl;have e:firstK ops.size 0=Array.replicate ops.size false:=by
   apply Array.ext
   ·simp [firstK]
   ·intro i h1 h2; simp [firstK]
  rw [e] at h0
  simpa using Every.sound _ _ _ h0 _ hS)
theorem text_value {o:Oper} {rest:List Oper} {a:Act} {v:Value} (hf:textFits md ops=true) (hw:Region.wanted o (yielded ops a.tmps)=true) (hv:∀ w,S w->(execOp a.eval o).run P w=.ok (.value v) w)
  (h:InText P md ops Q S rest (a.put o.dst v)):InText P md ops Q S (o::rest) a :=
 InText.cons hf (Or.inl ⟨hw,fun w hS=>by rw [hv w hS]; exact ⟨rfl,hS⟩⟩) h
theorem text_off {o:Oper} {rest:List Oper} {a:Act} (hf:textFits md ops=true) (hw:Region.wanted o (yielded ops a.tmps)=false) (h:InText P md ops Q S rest (a.put o.dst undef)):InText P md ops Q S (o::rest) a :=
 InText.cons hf (Or.inr ⟨hw,rfl⟩) h
theorem text_call {o:Oper} {rest:List Oper} {a:Act} {v:Value} {f:FuncId} {args:Array Value} (hf:textFits md ops=true) (hw:Region.wanted o (yielded ops a.tmps)=true) (hr:∀ w,S w->(execOp a.eval o).run P w=.ok (.enter f args) w)
  (hc:∀ w,S w->Calls P f args w fun e w'=>e=.returned v/\S w') (h:InText P md ops Q S rest (a.put o.dst v)):InText P md ops Q S (o::rest) a :=
 InText.cons hf (Or.inl ⟨hw,fun w hS=>by rw [hr w hS]; exact hc w hS⟩) h
end
end
section
open Go.RowKit Go.Maps
section
variable {w0 w:World} {L:List Item} {c q kq:Nat} {F:Nat->Prop} {ql:List Trip} {k s b h l e r hs hi:Int}
theorem holdYes_c (a d:Int) (hh:hs=0) (ha:1<=a/\a<=s) (m:Nat) (hE:Env w0 L w) (hm:L[m]?=some (coreI c k s b h l e r hs hi q)) :
  Calls prog 313 #[.pointer (some ⟨c,0,none⟩),.agg #[.int .i64 a,.int .i64 d]] w fun o w'=>o=.returned (.int .i64 0)/\Env w0 (L.set m (coreI c k s b h l e r a d q)) w':=by
 have hE1:=hE.box w.heap.size rfl [.int .i64 a,.int .i64 d] 136;have hm1:(boxI w.heap.size [.int .i64 a,.int .i64 d]::L)[m+1]?=some (coreI c k s b h l e r hs hi q):=hm;have hn:(hs != 0)=false:=by simpa using hh
 clear hh;have hd:decide (a < 1)=false:=by simp; omega
 have hd2:decide (s < a)=false:=by simp; omega
 clear hE;go_enter func313,ntmps313;go_wp2_with fail;refine (held_c (hE1.get (m+1) hm1)).mono ?_;rintro o w1 ⟨rfl,hb⟩;rw [hn];replace hE1:=hE1.over hb;clear hb;replace hE1:=hE1.box w1.heap.size rfl [.int .i64 hs,.int .i64 hi] 136;generalize w.heap.size=X at *;go_wp2_with fail;generalize w1.heap.size=Y at *;generalize w1.alloc _=w2 at *;have hm2:(boxI Y [.int .i64 hs,.int .i64 hi]::boxI X [.int .i64 a,.int .i64 d]::L)[m+2]?=some (coreI c k s b h l e r hs hi q):=hm;have HCB:Hid (∀ v,Env w0 (boxI Y [.int .i64 hs,.int .i64 hi]::boxI X [.int .i64 a,.int .i64 d]::L) v->Blk 0 v c [.int .i64 k,.int .i64 s,.int .i64 b,.int .i64 h,.int .i64 l,.int .i64 e,.int .i64 r,.int .i64 hs,.int .i64 hi,.pointer (some ⟨q,0,none⟩)]):=zH fun v hv=>hv.get (m+2) hm2;refine wp_text (S:=(Env w0 (boxI Y [.int .i64 hs,.int .i64 hi]::boxI X [.int .i64 a,.int .i64 d]::L))) (by kernel_rfl) (by kernel_rfl) hE1.drew (fun hT=>?_);have hT9:=zH hT;clear hT
 repeat ((first
  | (refine text_value (v:=?_) hT9.o (by rfl) ?_ ?_; rotate_left; (intro w5 hS; have r1:=Blk.rule (HCB.out _ hS); have r2:=hS.rule 1 rfl; go_simp<;>rfl))
  | (refine text_off hT9.o (by rfl) ?_)
  | (refine text_call (v:=?_) (f:=?_) (args:=?_) hT9.o (by rfl) ?_ ?_ ?_; rotate_left 3; (intro w5 hS; have r1:=Blk.rule (HCB.out _ hS); have r2:=hS.rule 1 rfl; go_simp; constructor<;>rfl); (intro w5 hS; (first | fail))));try simp only [Act.put,zA,zZ,zS])
 refine InText.nil fun w5 hS5=>?_;clear hT9;clear hE1;have r1:=Blk.rule (HCB.out _ hS5);have r2:=hS5.rule 1 rfl;have ff:=hS5.thaw (m+2) hm2;have f7:=ff 7 (by simp [crv]);have f8:=ff 8 (by simp [crv]);clear ff;go_wp2_with fail;go_ret;have hE9:=hS5.put (m+2) hm2 (j:=7) (by simp [crv]) (.int .i64 a);have hml:m < L.length:=(List.getElem?_eq_some_iff.1 hm).1;have hE10:=hE9.put (m+2) (by rw [List.getElem?_set_self (by simpa using hml)]) (j:=8) (by simp [crv]) (.int .i64 d);rw [List.set_set] at hE10;exact ⟨rfl,hE10.sub (.cons _ (.cons _ (List.Sublist.refl _)))⟩
end
end
section
open Go.RowKit
theorem placeOf_any (y z:Int) (w:World):Calls prog 56 #[.int .i64 y,.int .i64 z] w fun e w'=>e=.returned (.agg #[.int .i64 5,.int .i64 y,.int .i64 z])/\Below w.heap.size w w':=by
 go_enter func56,ntmps56
 go_wp2
 exact bodyPost_ret (v:=.agg #[.int .i64 5,.int .i64 y,.int .i64 z]) (by simp [results,results56,go_sem]) rfl ⟨rfl,(Below.refl _ _).alloc (Nat.le_refl _) _⟩
theorem pool_any (w:World):Calls prog 228 #[] w fun e w'=>e=.returned (.agg #[.int .i64 2,.int .i64 0,.int .i64 0])/\Below w.heap.size w w':=by
 go_enter func228,ntmps228
 go_wp2
 exact bodyPost_ret (v:=.agg #[.int .i64 2,.int .i64 0,.int .i64 0]) (by simp [results,results228,go_sem]) rfl ⟨rfl,(Below.refl _ _).alloc (Nat.le_refl _) _⟩
theorem fresh_any (w:World):Calls prog 310 #[] w fun e w'=>e=.returned (.agg #[.int .i64 3,.int .i64 0,.int .i64 0])/\Below w.heap.size w w':=by
 go_enter func310,ntmps310
 go_wp2
 exact bodyPost_ret (v:=.agg #[.int .i64 3,.int .i64 0,.int .i64 0]) (by simp [results,results310,go_sem]) rfl ⟨rfl,(Below.refl _ _).alloc (Nat.le_refl _) _⟩
theorem to_any (s v:Int) (w:World) (hg:Glo w) :
  Calls prog 264 #[.int .i64 s,.int .i64 v] w fun e w'=>e=.returned (.int .u64 (wordI false s v))/\Below w.heap.size w w':=by
 go_enter func264,ntmps264;go_wp2_with fail;refine (word_any false s v _ hg).mono ?_;rintro e w1 ⟨rfl,hb⟩;go_wp2_with fail;go_ret;exact ⟨rfl,hb⟩
theorem version_any (x:Int) (w:World) (hg:Glo w) (h0:0<=x) (h1:x<=18446744073709551615) :
  Calls prog 261 #[.int .u64 x] w fun e w'=>e=.returned (.int .i64 (verI x))/\Below w.heap.size w w':=by
 obtain ⟨⟨c0,c1⟩,-,-,hs,-,-⟩:=hg;obtain ⟨k0,k1⟩:=verI_in x;have HG:=zH (get_version x h0);go_enter func261,ntmps261;go_wp2_with fail;refine (get_any 0 40 x _ (by decide) (by decide) h0 h1).mono ?_;rintro e w1 ⟨rfl,hb⟩;rw [HG.out]
 go_wp2
 go_ret;exact ⟨rfl,hb⟩
theorem ret_int2 {k l:IntKind} {x y u v:Int} (h:x=y) (g:u=v):Ending.returned (.tuple #[.int k x,.int l u])=.returned (.tuple #[.int k y,.int l v]):=by rw [h,g]
theorem next_any (x s:Int) (w:World) (hg:Glo w) (h0:0<=x) (h1:x<=18446744073709551615) :
  Calls prog 308 #[.int .u64 x,.int .i64 s] w fun e w'=>e=.returned (.tuple #[.int .u64 (nextW x s),.int .i64 (nextE x s)])/\Below w.heap.size w w':=by
 cases hS:isS s
 ·have HW:=zH (show nextW x s=0 by simp [nextW,hS]);have HE:=zH (show nextE x s=3 by simp [nextE,hS]);have H:=zH hS;clear hS;go_enter func308,ntmps308;go_wp2_with fail;refine (isSlot_any s _).mono ?_;rintro e w1 ⟨rfl,rfl⟩;rw [H.out];go_wp2_with fail
  go_ret2
  exact ⟨ret_int2 HW.out.symm HE.out.symm,Below.refl _ _⟩
 ·obtain ⟨k0,k1⟩:=verI_in x
  by_cases hv:verI x=1099511627775
  ·have HW:=zH (show nextW x s=0 by simp [nextW,hS,hv]);have HE:=zH (show nextE x s=7 by simp [nextE,hS,hv]);have H:=zH hS;have HV:=zH hv;clear hS hv;go_enter func308,ntmps308;go_wp2_with fail;refine (isSlot_any s _).mono ?_;rintro e w1 ⟨rfl,rfl⟩;rw [H.out];go_wp2_with fail;refine (version_any x _ hg h0 h1).mono ?_;rintro e w1 ⟨rfl,hb⟩;rw [HV.out];go_wp2_with fail
   go_ret2
   exact ⟨ret_int2 HW.out.symm HE.out.symm,hb⟩
  ·have HW:=zH (show nextW x s=wordI false s (verI x+1) by simp [nextW,hS,hv]);have HE:=zH (show nextE x s=0 by simp [nextE,hS,hv]);have H:=zH hS;have hv2:verI x < 1099511627775:=by omega
   clear hS hv;generalize hy:verI x=y at *;have HY:=zH hy;clear hy;go_enter func308,ntmps308;go_wp2_with fail;refine (isSlot_any s _).mono ?_;rintro e w1 ⟨rfl,rfl⟩;rw [H.out];go_wp2_with fail;refine (version_any x _ hg h0 h1).mono ?_;rintro e w1 ⟨rfl,hb⟩;rw [HY.out];have hg1:=hg.keep' hb;go_wp2_with fail;refine (version_any x _ hg1 h0 h1).mono ?_;rintro e w2 ⟨rfl,hb2⟩;rw [HY.out];have hg2:=hg1.keep' hb2;go_wp2_with fail;refine (to_any s _ _ hg2).mono ?_;rintro e w3 ⟨rfl,hb3⟩;go_wp2_with fail
   go_ret2
   exact ⟨ret_int2 HW.out.symm HE.out.symm,(hb.trans (hb2.mono (by have:=hb.size; omega))).trans (hb3.mono (by have:=hb.size; have:=hb2.size; omega))⟩
end
section
open Go.RowKit Go.Maps
theorem shared_any (x y z:Int) (w:World):Calls prog 227 #[.agg #[.int .i64 x,.int .i64 y,.int .i64 z]] w fun e w'=>e=.returned (.agg #[.int .i64 x,.int .i64 y,.int .i64 z,.int .i64 0])/\Below w.heap.size w w':=by
 have hE:=((Env.start w).box w.heap.size rfl [.int .i64 x,.int .i64 y,.int .i64 z] 105).box (w.heap.size+1) (by simp) [.int .i64 0,.int .i64 0,.int .i64 0,.int .i64 0] 185;have r:=hE.rule 1 rfl;have f:=hE.thaw 0 rfl;have f0:=f 0 (by simp);have f1:=f 1 (by simp);have f2:=f 2 (by simp);have f3:=f 3 (by simp);clear f;go_enter func227,ntmps227
 go_wp2
 have hP:=(((hE.put 0 rfl (j:=0) (by simp) (.int .i64 x)).put 0 rfl (j:=1) (by simp) (.int .i64 y)).put 0 rfl (j:=2) (by simp) (.int .i64 z)).put 0 rfl (j:=3) (by simp) (.int .i64 0);have q:=hP.rule 0 rfl;exact bodyPost_ret (v:=.agg #[.int .i64 x,.int .i64 y,.int .i64 z,.int .i64 0]) (by simp [results,results227,go_sem,q]) rfl ⟨rfl,((Below.refl _ _).alloc (Nat.le_refl _) _).alloc (by simp) _⟩
theorem part_any (s d n:Int) (w:World):Calls prog 262 #[.agg #[.int .i64 s,.int .i64 d],.int .i64 n] w fun e w'=>e=.returned (.agg #[.int .i64 5,.int .i64 s,.int .i64 n,.int .i64 d])/\Below w.heap.size w w':=by
 have hF:=((Fr.start w).push w.heap.size rfl [.int .i64 s,.int .i64 d] 136).push (w.heap.size+1) (by simp) [.int .i64 0,.int .i64 0,.int .i64 0,.int .i64 0] 185;have hX:=hF.blk 1 rfl (by omega);have hZ:=hF.blk 0 rfl (by omega);have hE:=hF.below;clear hF;go_enter func262,ntmps262;go_wp2_with fail;refine Ord.wc [7] (fun w'=>Below w.heap.size w w'/\Blk 0 w' w.heap.size [.int .i64 s,.int .i64 d]) (fun j w'=>Blk 0 w' (w.heap.size+1) (if j=0 then [.int .i64 0,.int .i64 0,.int .i64 0,.int .i64 0] else [.int .i64 5,.int .i64 s,.int .i64 n,.int .i64 d])) ⟨hE.drew,hX.drew⟩ hZ.drew fun hT9=>?_
 repeat ((first
  | (refine Ord.cv ?_ hT9.o ?_ ?_; rotate_left; (intro w5 hS; have r:=Blk.rule hS.2; go_simp<;>rfl))
  | (refine Ord.co hT9.o ?_)
  | (refine Ord.cc ?_ ?_ ?_ hT9.o ?_ ?_ ?_; rotate_left 3; (intro w5 hS; have r:=Blk.rule hS.2; go_simp; constructor<;>rfl); (intro w5 hS; (first | (with_reducible refine kp (placeOf_any _ _ _) ?_ ?_; rfl; exact fun w6 hb6=>⟨⟨hS.1.trans (hb6.mono hS.1.size),hS.2.under hb6⟩,fun _ h=>h.under hb6⟩)))));try simp only [Act.put,zA,zZ,zS])
 refine Ord.ch_turn (v:=undef) 0 hT9.o rfl (by decide) (Or.inl rfl) (by rfl) ?_ ?_
 ·rintro w5 hS hA2;simp only [if_true] at hA2;have r:=hA2.rule;have f0:=hA2.thaw 0 (by simp);have f1:=hA2.thaw 1 (by simp);have f2:=hA2.thaw 2 (by simp);have f3:=hA2.thaw 3 (by simp);have hz:=hS.1.size;go_simp;refine ⟨rfl,⟨?_,?_⟩,?_⟩
  ·exact below_set (below_set (below_set (below_set hS.1 hz (by omega) _) (by simp; omega) (by omega) _) (by simp; omega) (by omega) _) (by simp; omega) (by omega) _
  ·exact (((hS.2.off (by omega) _).off (by omega) _).off (by omega) _).off (by omega) _
  ·exact (((hA2.set (i:=0) (by simp) _).set (i:=1) (by simp) _).set (i:=2) (by simp) _).set (i:=3) (by simp) _
 try simp only [Act.put,zA,zZ,zS]
 repeat ((first
  | (refine Ord.cv ?_ hT9.o ?_ ?_; rotate_left; (intro w5 hS; skip; go_simp<;>rfl))
  | (refine Ord.co hT9.o ?_));try simp only [Act.put,zA,zZ,zS])
 refine Ord.InText.nil fun w5 hS=>?_;clear hT9;obtain ⟨hC9,hA9⟩:=Ord.chain_end hS;clear hS;have q:=hA9.rule;simp only [show ¬ [7].length=0 by decide,if_false] at q
 go_wp2
 exact bodyPost_ret (v:=.agg #[.int .i64 5,.int .i64 s,.int .i64 n,.int .i64 d]) (by simp [results,results262,go_sem,q]) rfl ⟨rfl,hC9.1⟩
theorem epochOf_any (x d:Int) (t:Bool) (hx:InU x) (w:World):Calls prog 339 #[.agg #[.int .u64 x,.int .i64 d,.bool t]] w fun e w'=>e=.returned (.int .i64 (epI x))/\Below w.heap.size w w':=by
 have hE:=(Env.start w).box w.heap.size rfl [.int .u64 x,.int .i64 d,.bool t] 180;have r:=hE.rule 0 rfl;go_enter func339,ntmps339;go_wp2_with fail;refine (fint_any x hx _).mono ?_;rintro e w1 ⟨rfl,rfl⟩;go_wp2_with fail;go_ret;exact ⟨rfl,hE.below⟩
theorem head_any {w:World} {q k:Nat} {F:Nat->Prop} {l:List Trip} (x y z:Int) (hQ:IsQ w q F ((x,y,z)::l) k) :
  Calls prog 288 #[.pointer (some ⟨q,0,none⟩)] w fun e w'=>e=.returned (.tuple #[tv (x,y,z),.bool true])/\Below w.heap.size w w':=by
 obtain ⟨hl1,hl2,hk2,hk⟩:=hQ.len;have hQ0:=zH hQ;obtain ⟨R,g,r,hq,hr,hring,_,_,hne,hF⟩:=hQ;obtain ⟨hx,-⟩:=hring.pop;have hrl:=hring.1;have h4:=pow_four hk2;have hlt:g % 2 ^ k < 2 ^ k:=Nat.mod_lt _ (by omega);have hcell:∀ w',Blk 0 w' R (flat3 r)->w'.cell? ⟨R,g % 2 ^ k * 3,none⟩=some (.int .i64 x)/\w'.cell? ⟨R,g % 2 ^ k * 3+1,none⟩=some (.int .i64 y)/\w'.cell? ⟨R,g % 2 ^ k * 3+2,none⟩=some (.int .i64 z):=fun w' h=>by
  have e:=fun c hc=>(h.rule (g % 2 ^ k * 3+c)).trans (flat3_get r (g % 2 ^ k) c (by omega) hc);rw [hx] at e;exact ⟨e 0 (by omega),e 1 (by omega),e 2 (by omega)⟩
 have HA:=zH fun w'=>at_any R k g w' hk;have hB:=Blk.new 0 w [.int .i64 0,.int .i64 0,.int .i64 0] 158;have hq1:=hq.more (.cells [.int .i64 0,.int .i64 0,.int .i64 0].toArray 158);have hr1:=hr.more (.cells [.int .i64 0,.int .i64 0,.int .i64 0].toArray 158);have hE:=(Below.refl w.heap.size w).alloc (Nat.le_refl _) (.cells [.int .i64 0,.int .i64 0,.int .i64 0].toArray 158);have hqR:q < w.heap.size/\R < w.heap.size:=⟨hq.1,hr.1⟩;have hz:((((x,y,z)::l).length:Int)==0)=false:=by simp; omega
 unfold qv at hq1;generalize hG:(cnt g)=G at *;generalize (cnt (g+((x,y,z)::l).length))=C at *;generalize ((x,y,z)::l).length=n at *;clear hq hr hring hF hx;generalize g % 2 ^ k=p at *;generalize 2 ^ k=N at *;have HC:=zH hcell;clear hcell;go_enter func288,ntmps288;go_wp2_with fail;refine (len_any (hQ0.out.below hE)).mono ?_;rintro e w1 ⟨rfl,hb⟩;have hB1:Blk 0 w1 w.heap.size [.int .i64 0,.int .i64 0,.int .i64 0]:=hB.kept hb.size (hb.block _ hB.1);have hq2:Blk 0 w1 q _:=hq1.kept hb.size (hb.block _ hq1.1);have hr2:Blk 0 w1 R _:=hr1.kept hb.size (hb.block _ hr1.1);have hE1:Below w.heap.size w w1:=hE.trans (hb.mono (by simp));have hs1:w.heap.size+1<=w1.heap.size:=by have:=hb.size; simpa using this
 clear hB hq1 hr1 hE hb hQ0;have hz':((n:Int)==0)=false:=by simpa using hz
 go_wp2_with fail;refine Ord.wc [11] (fun w'=>Blk 0 w' q [.slice (some ⟨R,0,none⟩) N N,.int .u64 G,.int .u64 C]/\Blk 0 w' R (flat3 r)) (fun j w'=>w.heap.size+1<=w'.heap.size/\Below w.heap.size w w'/\Blk 0 w' w.heap.size (if j=0 then [.int .i64 0,.int .i64 0,.int .i64 0] else [.int .i64 x,.int .i64 y,.int .i64 z])) ⟨hq2.drew,hr2.drew⟩ ⟨hs1,hE1.drew,hB1.drew⟩ fun hT9=>?_
 repeat ((first
  | (refine Ord.cv ?_ hT9.o ?_ ?_; rotate_left; (intro w5 hS; have r:=Blk.rule hS.1; obtain ⟨c0,c1,c2⟩:=HC.out _ hS.2; go_simp<;>rfl))
  | (refine Ord.co hT9.o ?_)
  | (refine Ord.cc ?_ ?_ ?_ hT9.o ?_ ?_ ?_; rotate_left 3; (intro w5 hS; have r:=Blk.rule hS.1; obtain ⟨c0,c1,c2⟩:=HC.out _ hS.2; go_simp; constructor<;>rfl); (intro w5 hS; (first | (with_reducible refine (HA.out w5).mono ?_; rintro e w6 ⟨rfl,rfl⟩; constructor; rfl; exact ⟨hS,fun _ h=>h⟩)))));try simp only [Act.put,zA,zZ,zS])
 refine Ord.ch_turn (v:=undef) 0 hT9.o rfl (by decide) (Or.inl rfl) (by rfl) ?_ ?_
 ·rintro w5 hS ⟨hA0,hA1,hA2⟩;simp only [if_true] at hA2;have r:=hA2.rule;have f0:=hA2.thaw 0 (by simp);have f1:=hA2.thaw 1 (by simp);have f2:=hA2.thaw 2 (by simp);go_simp;refine ⟨rfl,⟨((hS.1.off (by omega) _).off (by omega) _).off (by omega) _,((hS.2.off (by omega) _).off (by omega) _).off (by omega) _⟩,by simpa using hA0,?_,?_⟩
  ·exact below_set (below_set (below_set hA1 (by omega) (Nat.le_refl _) _) (by simp; omega) (Nat.le_refl _) _) (by simp; omega) (Nat.le_refl _) _
  ·exact Blk.put3 hA2 _ _ _
 try simp only [Act.put,zA,zZ,zS]
 repeat ((first
  | (refine Ord.cv ?_ hT9.o ?_ ?_; rotate_left; (intro w5 hS; skip; go_simp<;>rfl))
  | (refine Ord.co hT9.o ?_));try simp only [Act.put,zA,zZ,zS])
 refine Ord.InText.nil fun w5 hS=>?_;clear hT9;obtain ⟨hC9,hA9⟩:=Ord.chain_end hS;clear hS;obtain ⟨hA0,hA1,hA2⟩:=hA9;have q:=hA2.rule;simp only [show ¬ [11].length=0 by decide,if_false] at q
 go_wp2
 exact bodyPost_ret (v:=.tuple #[tv (x,y,z),.bool true]) (by simp [results,results288,go_sem,q,tv]) rfl ⟨rfl,hA1⟩
theorem headNone_any {w:World} {q k:Nat} {F:Nat->Prop} (hQ:IsQ w q F [] k) :
  Calls prog 288 #[.pointer (some ⟨q,0,none⟩)] w fun e w'=>e=.returned (.tuple #[tv t0,.bool false])/\Below w.heap.size w w':=by
 have hB:=Blk.new 0 w [.int .i64 0,.int .i64 0,.int .i64 0] 158;have hE:=(Below.refl w.heap.size w).alloc (Nat.le_refl _) (.cells [.int .i64 0,.int .i64 0,.int .i64 0].toArray 158);go_enter func288,ntmps288;go_wp2_with fail;refine (len_any (hQ.below hE)).mono ?_;rintro e w1 ⟨rfl,hb⟩;have hB1:Blk 0 w1 w.heap.size [.int .i64 0,.int .i64 0,.int .i64 0]:=hB.kept hb.size (hb.block _ hB.1);have hE1:Below w.heap.size w w1:=hE.trans (hb.mono (by simp));have hs1:w.heap.size<=w1.heap.size:=hE1.size;have r:=hB1.rule;have f0:=hB1.thaw 0 (by simp);have f1:=hB1.thaw 1 (by simp);have f2:=hB1.thaw 2 (by simp);clear hB hE hb hQ
 go_wp2
 have hP:=hB1.put3 (.int .i64 0) (.int .i64 0) (.int .i64 0);have q:=hP.rule;refine bodyPost_ret (v:=.tuple #[tv t0,.bool false]) (by simp [results,results288,go_sem,q,tv,t0]) rfl ⟨rfl,?_⟩;exact below_set (below_set (below_set hE1 (by omega) (Nat.le_refl _) _) (by simp; omega) (Nat.le_refl _) _) (by simp; omega) (Nat.le_refl _) _
theorem pop_any {w:World} {q k:Nat} {F:Nat->Prop} {l:List Trip} (x y z:Int) (hQ:IsQ w q F ((x,y,z)::l) k) :
  Calls prog 291 #[.pointer (some ⟨q,0,none⟩)] w fun e w'=>e=.returned (.tuple #[tv (x,y,z),.bool true])/\IsQ w' q F l k/\Step F F w w':=by
 obtain ⟨hl1,hl2,hk2,hk⟩:=hQ.len;have hQ0:=zH hQ;obtain ⟨R,g,r,hq,hr,hring,_,_,hne,hF⟩:=hQ;have hring':=hring.pop.2;have hB:=Blk.new 0 w [.int .i64 0,.int .i64 0,.int .i64 0] 158;have hq1:=hq.more (.cells [.int .i64 0,.int .i64 0,.int .i64 0].toArray 158);have hr1:=hr.more (.cells [.int .i64 0,.int .i64 0,.int .i64 0].toArray 158);have hE:=(Below.refl w.heap.size w).alloc (Nat.le_refl _) (.cells [.int .i64 0,.int .i64 0,.int .i64 0].toArray 158);have hqR:q < w.heap.size/\R < w.heap.size:=⟨hq.1,hr.1⟩;have hG1:=round_up g 1;have hset:(qv R (2 ^ k) g ((x,y,z)::l).length).set 1 (.int .u64 (cnt (g+1)))=qv R (2 ^ k) (g+1) l.length:=by
  simp only [qv,List.length_cons,zS,zZ];rw [show g+(l.length+1)=g+1+l.length by omega]
 clear hq hr hring;go_enter func291,ntmps291;go_wp2_with fail;refine (head_any x y z (hQ0.out.below hE)).mono ?_;rintro e w1 ⟨rfl,hb⟩;have hB1:Blk 0 w1 w.heap.size [.int .i64 0,.int .i64 0,.int .i64 0]:=hB.kept hb.size (hb.block _ hB.1);have hq2:Blk 0 w1 q _:=hq1.kept hb.size (hb.block _ hq1.1);have hr2:Blk 0 w1 R _:=hr1.kept hb.size (hb.block _ hr1.1);have hE1:Below w.heap.size w w1:=hE.trans (hb.mono (by simp));have hs1:w.heap.size+1<=w1.heap.size:=by have:=hb.size; simpa using this
 clear hB hq1 hr1 hE hb hQ0;have HQ2:=zH hq2;have hq3:=hq2.more (.cells [.int .i64 x,.int .i64 y,.int .i64 z].toArray 158);have hB3:=hB1.more (.cells [.int .i64 x,.int .i64 y,.int .i64 z].toArray 158);have rq:=hq3.rule;have fq:=hq3.thaw 1 (by simp [qv]);have rB:=hB3.rule;have f0:=hB3.thaw 0 (by simp);have f1:=hB3.thaw 1 (by simp);have f2:=hB3.thaw 2 (by simp);unfold qv at rq;have HSET:=zH hset;clear hset hq2 hq3 hB3;simp only [Int.natCast_one] at hG1;generalize hG:(cnt g)=G at *;generalize hC:(cnt (g+((x,y,z)::l).length))=C at *;generalize hG':(cnt (g+1))=G1 at *;generalize hN:2 ^ k=N at *;simp only [tv];have HN:=zH hN;clear hN hG hC hG';go_wp2_with fail;have hb9:=(((HQ2.out.more (.cells [.int .i64 x,.int .i64 y,.int .i64 z].toArray 158)).set (i:=1) (by simp [qv]) (.int .u64 G1)).off (B:=w.heap.size) (i:=0) (by omega) (.int .i64 x)).off (B:=w.heap.size) (i:=1) (by omega) (.int .i64 y) |>.off (B:=w.heap.size) (i:=2) (by omega) (.int .i64 z);have hr9:=((((hr2.more (.cells [.int .i64 x,.int .i64 y,.int .i64 z].toArray 158)).off (B:=q) (i:=1) (fun e=>hne e.symm) (.int .u64 G1)).off (B:=w.heap.size) (i:=0) (by omega) (.int .i64 x)).off (B:=w.heap.size) (i:=1) (by omega) (.int .i64 y)).off (B:=w.heap.size) (i:=2) (by omega) (.int .i64 z);have hP:=Blk.put3 ((hB1.more (.cells [.int .i64 x,.int .i64 y,.int .i64 z].toArray 158)).off (B:=q) (i:=1) (by omega) (.int .u64 G1)) (.int .i64 x) (.int .i64 y) (.int .i64 z);rw [HSET.out] at hb9;have q9:=hP.rule;refine bodyPost_ret (v:=.tuple #[tv (x,y,z),.bool true]) (by simp [results,results291,go_sem,q9,tv]) rfl ⟨rfl,⟨R,g+1,r,by rw [HN.out]; exact hb9,hr9,by rw [HN.out]; exact hring',hk2,hk,hne,hF⟩,?_,fun j hj=>.inl hj⟩;exact step_set (step_set (step_set ((((Turn.of_below hE1:Turn F w w1).alloc _).setCell (p:=⟨q,1,none⟩) (fun _=>(hF q).2 (.inl rfl)) _)) rfl (Nat.le_refl _) _) rfl (Nat.le_refl _) _) rfl (Nat.le_refl _) _
section
variable {w0 w:World} {L:List Item} {p c n:Nat} {F:Nat->Prop} {f:Plc->Int} {q:Cnt}
theorem add_w (x y z d v:Int) (hx:Wf (x,y,z)) (hn:n < maxLen) (i j:Nat) (hij:j≠i) (hE:Env w0 L w) (hi:L[i]?=some (wbox p c)) (hj:L[j]?=some (cellI c F f q n)) :
  Calls prog 357 #[.pointer (some ⟨p,0,none⟩),.agg #[.int .i64 x,.int .i64 y,.int .i64 z,.int .i64 d],.int .u64 v] w fun e w'=>e=.returned (.int .u64 (f (x,y,z)))/\∃ F',Env w0 (L.set j (cellI c F' (upd f (x,y,z) (IntKind.u64.wrap (f (x,y,z)+v))) { q with a:=wrap64 (q.a+1) } (n+1))) w':=by
 replace hE:=(hE.box w.heap.size rfl [.int .i64 x,.int .i64 y,.int .i64 z,.int .i64 d] 185);have hi':(boxI (w.heap.size) [.int .i64 x,.int .i64 y,.int .i64 z,.int .i64 d]::L)[i+1]?=some (wbox p c):=hi;have hj':(boxI (w.heap.size) [.int .i64 x,.int .i64 y,.int .i64 z,.int .i64 d]::L)[j+1]?=some (cellI c F f q n):=hj;have HX:=zH hx;clear hx;go_enter func357,ntmps357;go_wp2_with fail;generalize w.heap.size=X at *;refine Ord.wc [5] (fun w'=>Blk 0 w' X [.int .i64 x,.int .i64 y,.int .i64 z,.int .i64 d]/\Blk 0 w' p [.pointer (some ⟨c,0,none⟩)]) (Stage [Env w0 (boxI X [.int .i64 x,.int .i64 y,.int .i64 z,.int .i64 d]::L),fun w'=>∃ F',Env w0 (boxI X [.int .i64 x,.int .i64 y,.int .i64 z,.int .i64 d]::L.set j (cellI c F' (upd f (x,y,z) (IntKind.u64.wrap (f (x,y,z)+v))) { q with a:=wrap64 (q.a+1) } (n+1))) w']) ⟨hE.drew.get 0 rfl,hE.drew.get (i+1) hi'⟩ ⟨_,rfl,hE.drew⟩ fun hT9=>?_
 repeat ((first
  | (refine Ord.cv ?_ hT9.o ?_ ?_; rotate_left; (intro w5 hS; have r0:=hS.1.rule; go_simp<;>rfl))
  | (refine Ord.co hT9.o ?_)
  | (refine Ord.cc ?_ ?_ ?_ hT9.o ?_ ?_ ?_; rotate_left 3; (intro w5 hS; have r0:=hS.1.rule; go_simp; constructor<;>rfl); (intro w5 hS; (first | (with_reducible refine (kept_any hS.2).mono ?_; rintro e w6 ⟨rfl,rfl⟩; constructor; rfl; exact ⟨hS,fun _ h=>h⟩)))));try simp only [Act.put,zA,zZ,zS])
 refine Ord.ch_turn (v:=.int .u64 (f (x,y,z))) 0 hT9.o rfl (by decide) (Or.inl rfl) (by rfl) ?_ ?_
 ·rintro w5 hC5 ⟨P5,hP5,hA5⟩;cases hP5;go_simp;simp only [Ord.LandsIn];refine (add_any x y z v HX.out hn (hA5.cell (j+1) hj')).mono ?_;rintro e w6 ⟨rfl,F6,hC,hs⟩;have hE6:=hA5.turn (j+1) hj' hC hs;exact ⟨rfl,⟨hE6.get 0 rfl,hE6.get (i+1) (wset (j:=j+1) (by omega) hi')⟩,_,rfl,F6,hE6⟩
 try simp only [Act.put,zA,zZ,zS]
 repeat ((first
  | (refine Ord.cv ?_ hT9.o ?_ ?_; rotate_left; (intro w5 hS; skip; go_simp<;>rfl))
  | (refine Ord.co hT9.o ?_));try simp only [Act.put,zA,zZ,zS])
 refine Ord.InText.nil fun w5 hS=>?_;clear hT9;obtain ⟨hC9,hA9⟩:=Ord.chain_end hS;clear hS;obtain ⟨P9,hP9,hA9⟩:=hA9;cases hP9;obtain ⟨F9,hA9⟩:=hA9;clear hC9
 go_wp2
 go_ret;exact ⟨rfl,F9,hA9.sub (.cons _ (List.Sublist.refl _))⟩
end
def swq (q:Cnt) (b:Bool):Cnt:={ q with w:=wrap64 (q.w+1),f:=if b then q.f else wrap64 (q.f+1) }
def swf (f:Plc->Int) (x:Plc) (o v:Int):Plc->Int:=if f x=o then upd f x v else f
theorem swap_any {c n:Nat} {F:Nat->Prop} {f:Plc->Int} {q:Cnt} {w:World} (a b d o v:Int) (hx:Wf (a,b,d)) (hv:InU v) (hn:n < maxLen) (hC:IsC w c F f q n) :
  Calls prog 365 #[.pointer (some ⟨c,0,none⟩),.agg #[.int .i64 a,.int .i64 b,.int .i64 d],.int .u64 o,.int .u64 v] w fun e w'=>e=.returned (.bool (decide (f (a,b,d)=o)))/\∃ F',IsC w' c F' (swf f (a,b,d) o v) (swq q (decide (f (a,b,d)=o))) (n+1)/\Step F F' w w':=by
 have hFc:=hC.at
 obtain ⟨mp,hb,hm,hF⟩:=hC;have r0:=hb.rule;have hcl:=hb.1;have r1:=cell_more hcl r0;have z1:=hb.thaw 3 (by simp [cv]);have hS0:=ticked hb hm hFc (i:=3) (v:=.int .i64 (wrap64 (q.w+1))) (q1:={ q with w:=wrap64 (q.w+1) }) (by omega) rfl [.int .i64 a,.int .i64 b,.int .i64 d] 105;unfold cv at r0 r1;go_enter func365,ntmps365;go_wp2_with fail;generalize (w.setCell ⟨c,3,none⟩ (.int .i64 (wrap64 (q.w+1)))).alloc _=w1 at *;clear r0 r1 z1;refine Ord.wc [] (fun w'=>At F c w w.heap.size [.int .i64 a,.int .i64 b,.int .i64 d] mp { q with w:=wrap64 (q.w+1) } w'/\MapIs w' mp f n) (fun _ _=>True) ⟨hS0.1.drew,hS0.2.drew⟩ trivial fun hT9=>?_
 repeat ((first
  | (refine Ord.cv ?_ hT9.o ?_ ?_; rotate_left; (intro w5 hS; have r:=hS.1.2.1.rule; unfold cv at r; have r2:=hS.1.2.2.rule; have hl:=hS.2.look hx; simp only [pv] at hl; go_simp<;>rfl))
  | (refine Ord.co hT9.o ?_));try simp only [Act.put,zA,zZ,zS])
 refine Ord.InText.nil fun w5 hS=>?_;clear hT9;obtain ⟨hA9,hM9⟩:=Ord.chain_end hS;clear hS;have HX:=zH hx;clear hx
 by_cases he:f (a,b,d)=o
 ·have r:=hA9.1.2.1.rule;have r2:=hA9.1.2.2.rule;unfold cv at r;have hb1:(f (a,b,d) != o)=false:=by simpa using he
  have hE:=zH he;clear he;go_wp2_with fail;refine (put_any a b d v HX.out hv hn (.of hA9.1 hA9.2 hF)).mono ?_;rintro e w2 ⟨rfl,F',hC2,hs2⟩;clear r r2
  go_wp2
  go_ret;have hE':=hE.out;refine ⟨by simp [hE'],F',?_,(Step.mk hA9.1.1 fun k h=>.inl h).trans hs2⟩;simp only [swf,swq,hE',if_true,decide_true];exact hC2
 ·have r:=hA9.1.2.1.rule;have r2:=hA9.1.2.2.rule;have z4:=hA9.1.2.1.thaw 4 (by simp [cv]);unfold cv at r;have hb1:(f (a,b,d) != o)=true:=by simpa using he
  have hE:=zH he;clear he
  go_wp2
  go_ret;have hE':=hE.out;refine ⟨by simp [hE'],F,?_,⟨hA9.1.1.setCell (fun _=>hFc) _,fun k h=>.inl h⟩⟩;simp only [swf,swq,hE',if_false,decide_false,Bool.false_eq_true];exact (IsC.tick (.of hA9.1 hA9.2 hF) (by omega) fun _=>rfl).mono (Nat.le_succ _)
theorem peek_any {c n:Nat} {F:Nat->Prop} {f:Plc->Int} {q:Cnt} {w:World} (a b d:Int) (hx:Wf (a,b,d)) (hC:IsC w c F f q n) :
  Calls prog 92 #[.pointer (some ⟨c,0,none⟩),.agg #[.int .i64 a,.int .i64 b,.int .i64 d]] w fun e w'=>e=.returned (.int .u64 (f (a,b,d)))/\Below w.heap.size w w':=by
 obtain ⟨mp,hb,hm,hF⟩:=hC;go_enter func92,ntmps92;go_wp2_with fail;refine Ord.wc [] (fun w'=>(Below w.heap.size w w'/\Blk 0 w' c (cv mp q)/\Blk 0 w' w.heap.size [.int .i64 a,.int .i64 b,.int .i64 d])/\MapIs w' mp f n) (fun _ _=>True) ⟨⟨((Below.refl _ _).alloc (Nat.le_refl _) _).drew,(hb.more _).drew,(Blk.new 0 w _ _).drew⟩,(hm.more _).drew⟩ trivial fun hT9=>?_
 repeat ((first
  | (refine Ord.cv ?_ hT9.o ?_ ?_; rotate_left; (intro w5 hS; have r:=hS.1.2.1.rule; unfold cv at r; have r2:=hS.1.2.2.rule; have hl:=hS.2.look hx; simp only [pv] at hl; go_simp<;>rfl))
  | (refine Ord.co hT9.o ?_));try simp only [Act.put,zA,zZ,zS])
 refine Ord.InText.nil fun w5 hS=>?_;clear hT9;obtain ⟨hA9,hM9⟩:=Ord.chain_end hS;clear hS
 go_wp2
 go_ret;exact ⟨rfl,hA9.1.1⟩
section
variable {w0 w:World} {L:List Item} {p c n:Nat} {F:Nat->Prop} {f:Plc->Int} {q:Cnt}
theorem swap_w (x y z d o oe v e:Int) (ob b:Bool) (hx:Wf (x,y,z)) (hv:InU v) (hn:n < maxLen) (i j:Nat) (hij:j≠i) (hE:Env w0 L w) (hi:L[i]?=some (wbox p c)) (hj:L[j]?=some (cellI c F f q n)) :
  Calls prog 361 #[.pointer (some ⟨p,0,none⟩),.agg #[.int .i64 x,.int .i64 y,.int .i64 z,.int .i64 d],.agg #[.int .u64 o,.int .i64 oe,.bool ob],.agg #[.int .u64 v,.int .i64 e,.bool b]] w fun e w'=>e=.returned (.bool (decide (f (x,y,z)=o)))/\∃ F',Env w0 (L.set j (cellI c F' (swf f (x,y,z) o v) (swq q (decide (f (x,y,z)=o))) (n+1))) w':=by
 replace hE:=(((hE.box w.heap.size rfl [.int .i64 x,.int .i64 y,.int .i64 z,.int .i64 d] 185).box (w.heap.size+1) (by simp) [.int .u64 o,.int .i64 oe,.bool ob] 180).box (w.heap.size+1+1) (by simp) [.int .u64 v,.int .i64 e,.bool b] 180);have hi':(boxI (w.heap.size+1+1) [.int .u64 v,.int .i64 e,.bool b]::boxI (w.heap.size+1) [.int .u64 o,.int .i64 oe,.bool ob]::boxI (w.heap.size) [.int .i64 x,.int .i64 y,.int .i64 z,.int .i64 d]::L)[i+3]?=some (wbox p c):=hi;have hj':(boxI (w.heap.size+1+1) [.int .u64 v,.int .i64 e,.bool b]::boxI (w.heap.size+1) [.int .u64 o,.int .i64 oe,.bool ob]::boxI (w.heap.size) [.int .i64 x,.int .i64 y,.int .i64 z,.int .i64 d]::L)[j+3]?=some (cellI c F f q n):=hj;have HX:=zH hx;clear hx;go_enter func361,ntmps361;go_wp2_with fail;generalize w.heap.size+1+1=Z at *;generalize w.heap.size+1=Y at *;generalize w.heap.size=X at *;refine Ord.wc [8] (fun w'=>Blk 0 w' X [.int .i64 x,.int .i64 y,.int .i64 z,.int .i64 d]/\Blk 0 w' Y [.int .u64 o,.int .i64 oe,.bool ob]/\Blk 0 w' Z [.int .u64 v,.int .i64 e,.bool b]/\Blk 0 w' p [.pointer (some ⟨c,0,none⟩)]) (Stage [Env w0 (boxI Z [.int .u64 v,.int .i64 e,.bool b]::boxI Y [.int .u64 o,.int .i64 oe,.bool ob]::boxI X [.int .i64 x,.int .i64 y,.int .i64 z,.int .i64 d]::L),fun w'=>∃ F',Env w0 (boxI Z [.int .u64 v,.int .i64 e,.bool b]::boxI Y [.int .u64 o,.int .i64 oe,.bool ob]::boxI X [.int .i64 x,.int .i64 y,.int .i64 z,.int .i64 d]::L.set j (cellI c F' (swf f (x,y,z) o v) (swq q (decide (f (x,y,z)=o))) (n+1))) w']) ⟨hE.drew.get 2 rfl,hE.drew.get 1 rfl,hE.drew.get 0 rfl,hE.drew.get (i+3) hi'⟩ ⟨_,rfl,hE.drew⟩ fun hT9=>?_
 repeat ((first
  | (refine Ord.cv ?_ hT9.o ?_ ?_; rotate_left; (intro w5 hS; have r0:=hS.1.rule; have r1:=hS.2.1.rule; have r2:=hS.2.2.1.rule; go_simp<;>rfl))
  | (refine Ord.co hT9.o ?_)
  | (refine Ord.cc ?_ ?_ ?_ hT9.o ?_ ?_ ?_; rotate_left 3; (intro w5 hS; have r0:=hS.1.rule; have r1:=hS.2.1.rule; have r2:=hS.2.2.1.rule; go_simp; constructor<;>rfl); (intro w5 hS; (first | (with_reducible refine (kept_any hS.2.2.2).mono ?_; rintro e w6 ⟨rfl,rfl⟩; constructor; rfl; exact ⟨hS,fun _ h=>h⟩)))));try simp only [Act.put,zA,zZ,zS])
 refine Ord.ch_turn (v:=.bool (decide (f (x,y,z)=o))) 0 hT9.o rfl (by decide) (Or.inl rfl) (by rfl) ?_ ?_
 ·rintro w5 hC5 ⟨P5,hP5,hA5⟩;cases hP5;go_simp;simp only [Ord.LandsIn];refine (swap_any x y z o v HX.out hv hn (hA5.cell (j+3) hj')).mono ?_;rintro e w6 ⟨rfl,F6,hC,hs⟩;have hE6:=hA5.turn (j+3) hj' hC hs;exact ⟨rfl,⟨hE6.get 2 rfl,hE6.get 1 rfl,hE6.get 0 rfl,hE6.get (i+3) (wset (j:=j+3) (by omega) hi')⟩,_,rfl,F6,hE6⟩
 try simp only [Act.put,zA,zZ,zS]
 repeat ((first
  | (refine Ord.cv ?_ hT9.o ?_ ?_; rotate_left; (intro w5 hS; skip; go_simp<;>rfl))
  | (refine Ord.co hT9.o ?_));try simp only [Act.put,zA,zZ,zS])
 refine Ord.InText.nil fun w5 hS=>?_;clear hT9;obtain ⟨hC9,hA9⟩:=Ord.chain_end hS;clear hS;obtain ⟨P9,hP9,hA9⟩:=hA9;cases hP9;obtain ⟨F9,hA9⟩:=hA9;clear hC9
 go_wp2
 go_ret;exact ⟨rfl,F9,hA9.sub (.cons _ (.cons _ (.cons _ (List.Sublist.refl _))))⟩
end
section
variable {w0 w:World} {L:List Item} {p c n:Nat} {F:Nat->Prop} {f:Plc->Int} {q:Cnt}
theorem peek_w (x y z:Int) (hx:Wf (x,y,z)) (i j:Nat) (hE:Env w0 L w) (hi:L[i]?=some (wbox p c)) (hj:L[j]?=some (cellI c F f q n)) :
  Calls prog 52 #[.pointer (some ⟨p,0,none⟩),.agg #[.int .i64 x,.int .i64 y,.int .i64 z]] w fun e w'=>e=.returned (.int .u64 (f (x,y,z)))/\Below w.heap.size w w':=by
 have hb:=(Below.refl w.heap.size w).alloc (Nat.le_refl _) (.cells #[.int .i64 x,.int .i64 y,.int .i64 z] 105);replace hE:=hE.box w.heap.size rfl [.int .i64 x,.int .i64 y,.int .i64 z] 105;have HX:=zH hx;clear hx;go_enter func52,ntmps52;go_wp2_with fail;obtain ⟨X,hXw⟩:∃ X,X=w.heap.size:=⟨_,rfl⟩;rw [<- hXw] at hE ⊢;have HXW:=zH hXw;clear hXw;have hi1:(boxI X [.int .i64 x,.int .i64 y,.int .i64 z]::L)[i+1]?=some (wbox p c):=hi;have hj1:(boxI X [.int .i64 x,.int .i64 y,.int .i64 z]::L)[j+1]?=some (cellI c F f q n):=hj;refine Ord.wc [] (fun w'=>Env w0 (boxI X [.int .i64 x,.int .i64 y,.int .i64 z]::L) w'/\Below w.heap.size w w') (fun _ _=>True) ⟨hE.drew,hb.drew⟩ trivial fun hT9=>?_
 repeat ((first
  | (refine Ord.cv ?_ hT9.o ?_ ?_; rotate_left; (intro w5 hS; have r:=hS.1.rule 0 rfl; go_simp<;>rfl))
  | (refine Ord.co hT9.o ?_)
  | (refine Ord.cc ?_ ?_ ?_ hT9.o ?_ ?_ ?_; rotate_left 3; (intro w5 hS; have r:=hS.1.rule 0 rfl; go_simp; constructor<;>rfl); (intro w5 hS; (first | (with_reducible refine (kept_any (hS.1.wblk (i+1) hi1)).mono ?_; rintro e w6 ⟨rfl,rfl⟩; constructor; rfl; exact ⟨hS,fun _ h=>h⟩) | (with_reducible refine kp (peek_any x y z HX.out (hS.1.cell (j+1) hj1)) ?_ ?_; rfl; exact fun w6 hb6=>⟨⟨hS.1.over hb6,hS.2.trans (hb6.mono hS.2.size)⟩,fun _ h=>h⟩)))));try simp only [Act.put,zA,zZ,zS])
 refine Ord.InText.nil fun w5 hS=>?_;clear hT9;obtain ⟨hC9,hA9⟩:=Ord.chain_end hS;clear hS
 go_wp2
 go_ret;exact ⟨rfl,hC9.2⟩
end
end
end Go.Proofs.YtdknbegcflldjaaGreatDoor
namespace Go.Proofs.YtdknbegcflldjaaGreatDoor.Ord3
section
open Go Go.Proofs.YtdknbegcflldjaaGreatDoor.Ord
variable {P:Program} {md:Region.Mode} {ops:Array Oper} {Q:Exit->Act->World->Prop} {vs:List (Value->Prop)} {ps:List Nat} {C:World->Prop} {A:List Value->World->Prop}
theorem in_call {k:Nat} {o:Oper} {rest:List Oper} {a:Act} {v:Value} {f:FuncId} {args:Array Value} {κs:List Value} (hf:textFits md ops=true) (hk:k ∉ ps) (hvs:vs[k]?=some fun u=>u=v) (hw:Region.wanted o (yielded ops a.tmps)=true)
  (hr:∀ w,C w->(execOp a.eval o).run P w=.ok (.enter f args) w) (hc:∀ w,C w->Calls P f args w fun e w'=>e=.returned v/\C w'/\∀ us,A us w->A us w')
  (h:In P md ops Q vs ps C A (k+1) rest κs (a.put o.dst v)):In P md ops Q vs ps C A k (o::rest) κs a:=fun κ hκ =>
 InText.cons hf v ⟨_,hvs,rfl⟩ (Or.inl ⟨hw,fun l ρ w hr' _ _ hS=>by
  rw [hr w hS.2.2.1];refine (hc w hS.2.2.1).mono fun e w' he=>?_;exact ⟨_,he.1,⟨_,hvs,rfl⟩,chain_set hk hr' hS he.2.1 he.2.2⟩⟩)
  fun u ⟨p,hp,hu⟩=>by
   rw [hvs] at hp;cases hp;rw [hu];exact h _ (by rw [map_up (fun e=>hk (List.mem_of_mem_take e))]; exact hκ)
theorem Stage.three {A1 A2 A3:List Value->World->Prop} {κs:List Value} {w w':World} (h:Stage (fun κs=>[A1 κs,A2 κs,A3 κs]) κs w) (h1:A1 κs w->A1 κs w') (h2:A2 κs w->A2 κs w') (h3:A3 κs w->A3 κs w'):Stage (fun κs=>[A1 κs,A2 κs,A3 κs]) κs w':=by
 obtain ⟨T,hT,hw⟩:=h;refine ⟨T,hT,?_⟩;have hm:=List.mem_of_getElem? hT;simp only [List.mem_cons,List.not_mem_nil,or_false] at hm
 rcases hm with rfl | rfl | rfl
 ·exact h1 hw
 ·exact h2 hw
 ·exact h3 hw
end
end Go.Proofs.YtdknbegcflldjaaGreatDoor.Ord3
namespace Go.Proofs.YtdknbegcflldjaaGreatDoor
section
open Go.RowKit Go.Maps
structure MA where
 (nx:Value × Value)
 (left:Value)
 (k key val lv h n r s:Int)
def av (c:Nat) (M:MA):List Value:=[.pointer (some ⟨c,0,none⟩),M.nx.1,M.nx.2,.int .i64 M.k,.int .u64 M.key,.int .u64 M.val,.int .i64 M.lv,.int .u64 M.h,.int .i64 0,.bool false,.int .u64 M.n,.int .i64 0,.bool false,.int .u64 M.r,.int .i64 0,.bool false,.int .i64 M.s,.int .i64 0,M.left]
def fnA (pc:Nat):Nat:=if pc=1 then 298 else if pc=2 then 296 else if pc=3 then 311 else if pc=4 then 327 else if pc=5 then 334 else if pc=6 then 338 else if pc=10 then 297 else 315
def nxA (a pc:Nat):Value × Value:=(mvL (fnA pc) a,.int .i64 0)
def decP:List Trip->Int->Int->Nat
 | [],_,_=>2
 | (_,y,_)::_,e,l=>if y < e then 10 else if l<=e then 0 else 1
def decS (ql:List Trip) (e l:Int):Int:=if decP ql e l=0 then 4 else 0
theorem limit_of (v:World) (a b c d e:Int):(Instr.field 58 (.agg #[.int .i64 a,.int .i64 b,.int .i64 c,.int .i64 d,.int .i64 e]) 4).run prog v=.ok (.int .i64 e) v:=by kernel_rfl
theorem slots_of (v:World) (a b c d e:Int):(Instr.field 58 (.agg #[.int .i64 a,.int .i64 b,.int .i64 c,.int .i64 d,.int .i64 e]) 1).run prog v=.ok (.int .i64 b) v:=by kernel_rfl
theorem kind_of (v:World) (a b c d e:Int):(Instr.field 58 (.agg #[.int .i64 a,.int .i64 b,.int .i64 c,.int .i64 d,.int .i64 e]) 0).run prog v=.ok (.int .i64 a) v:=by kernel_rfl
section
variable {w0 w:World} {R:List Item} {a:Nat} {S:ST} {M:MA}
theorem decide_a (hz:Hid (M.nx.2=.int .i64 0)) (hE:Env w0 (boxI a (av S.c M)::LT S R) w) :
  Calls prog 279 #[.pointer (some ⟨a,0,none⟩)] w fun o w'=>o=.returned (.int .i64 (decS S.ql S.ce S.cl))/\∃ nx,(decP S.ql S.ce S.cl≠0->nx=nxA a (decP S.ql S.ce S.cl))/\Env w0 (boxI a (av S.c { M with nx:=nx })::LT S R) w':=by
 have hmf:=makeF;have r:=hE.rule 0 rfl;unfold av at r;have hlo:=limit_of;have HA:=zH (show 298=fnA 1 from rfl);go_enter func279,ntmps279;go_wp2_with fail;refine (queue_c (hE.get 1 rfl)).mono ?_;rintro o w1 ⟨rfl,rfl⟩;go_wp2_with fail;have hQ:=hE.queue 2 rfl
 rcases hq:S.ql with _ | ⟨⟨x,y,z⟩,t⟩
 ·rw [hq] at hQ;refine (headNone_any hQ).mono ?_;rintro o w2 ⟨rfl,hb⟩;replace hE:=(hE.over hb).box w2.heap.size rfl [.int .i64 0,.int .i64 0,.int .i64 0] 158;clear hb r hQ;simp only [tv,t0];have r:=hE.rule 1 rfl;unfold av at r;go_wp2_with fail;refine (epoch_c (hE.get 2 rfl)).mono ?_;rintro o w3 ⟨rfl,rfl⟩;go_wp2_with fail;refine (goOn_m 1 _ _ _ (by simp [av]) (by exact congrArg some hz.out) hE rfl).mono ?_;rintro o w4 ⟨rfl,hE4⟩;go_wp2_with fail;go_ret;have hp:decP S.ql S.ce S.cl=2:=by rw [hq]; rfl
  unfold decS;rw [hp];exact ⟨rfl,nxA a 2,fun _=>rfl,hE4.sub (.cons _ (List.Sublist.refl _))⟩
 ·rw [hq] at hQ;refine (head_any x y z hQ).mono ?_;rintro o w2 ⟨rfl,hb⟩;replace hE:=(hE.over hb).box w2.heap.size rfl [.int .i64 x,.int .i64 y,.int .i64 z] 158;clear hb r hQ;simp only [tv];have r:=hE.rule 1 rfl;have rX:=hE.rule 0 rfl;unfold av at r
  by_cases hy:y < S.ce
  ·have hyb:decide (y < S.ce)=true:=by simpa using hy
   go_wp2_with fail;refine (epoch_c (hE.get 2 rfl)).mono ?_;rintro o w3 ⟨rfl,rfl⟩;go_wp2_with fail;refine (goOn_m 1 _ _ _ (by simp [av]) (by exact congrArg some hz.out) hE rfl).mono ?_;rintro o w4 ⟨rfl,hE4⟩;go_wp2_with fail;go_ret;have hp:decP S.ql S.ce S.cl=10:=by rw [hq]; simp [decP,hy]
   unfold decS;rw [hp];exact ⟨rfl,nxA a 10,fun _=>rfl,hE4.sub (.cons _ (List.Sublist.refl _))⟩
  ·have hyb:decide (y < S.ce)=false:=by simpa using hy
   by_cases hl:S.cl<=S.ce
   ·have hlb:decide (S.cl<=S.ce)=true:=by simpa using hl
    go_wp2_with fail;refine (epoch_c (hE.get 2 rfl)).mono ?_;rintro o w3 ⟨rfl,rfl⟩;go_wp2_with fail;refine (conf_c (hE.get 2 rfl)).mono ?_;rintro o w4 ⟨rfl,hb⟩;replace hE:=hE.over hb;clear hb r rX;have r:=hE.rule 1 rfl;unfold av at r;go_wp2_with fail;refine (end_m 1 4 (by simp [av]) hE rfl).mono ?_;rintro o w5 ⟨rfl,nx,hE5⟩;go_wp2_with fail;go_ret;have hp:decP S.ql S.ce S.cl=0:=by rw [hq]; simp [decP,hy,hl]
    unfold decS;rw [hp];exact ⟨rfl,nx,fun h=>absurd rfl h,hE5.sub (.cons _ (List.Sublist.refl _))⟩
   ·have hlb:decide (S.cl<=S.ce)=false:=by simpa using hl
    go_wp2_with fail;refine (epoch_c (hE.get 2 rfl)).mono ?_;rintro o w3 ⟨rfl,rfl⟩;go_wp2_with fail;refine (conf_c (hE.get 2 rfl)).mono ?_;rintro o w4 ⟨rfl,hb⟩;replace hE:=hE.over hb;clear hb r rX;have r:=hE.rule 1 rfl;unfold av at r;go_wp2_with fail;refine (goOn_m 1 _ _ _ (by simp [av]) (by exact congrArg some hz.out) hE rfl).mono ?_;rintro o w5 ⟨rfl,hE5⟩;go_wp2_with fail;go_ret;have hp:decP S.ql S.ce S.cl=1:=by rw [hq]; simp only [decP]; rw [if_neg (by omega),if_neg (by omega)]
    unfold decS;rw [hp];exact ⟨rfl,nxA a 1,fun _=>rfl,hE5.sub (.cons _ (List.Sublist.refl _))⟩
theorem came_a (x y:Int) (hl:S.ql.length+1<=1048576) (hz:Hid (M.nx.2=.int .i64 0)) (hE:Env w0 (boxI a (av S.c M)::LT S R) w) :
  Calls prog 312 #[.pointer (some ⟨a,0,none⟩),.agg #[.int .i64 x,.int .i64 y,.int .i64 0]] w fun o w'=>o=.returned (.int .i64 (decS (S.ql++[(x,y,0)]) S.ce S.cl))/\∃ nx k' F',(decP (S.ql++[(x,y,0)]) S.ce S.cl≠0->nx=nxA a (decP (S.ql++[(x,y,0)]) S.ce S.cl))/\Rm S.kq (S.ql.length+1) k'/\Env w0 (boxI a (av S.c { M with nx:=nx })::LT { S with ql:=S.ql++[(x,y,0)],kq:=k',F:=F' } R) w':=by
 replace hE:=hE.box w.heap.size rfl [.int .i64 x,.int .i64 y,.int .i64 0] 158;go_enter func312,ntmps312;go_wp2_with fail;generalize w.alloc _=w2 at *;generalize w.heap.size=Y at *;refine Ord3.wp_chain [?_,?_,?_,?_,?_,?_,?_,?_,?_] [7,8] (fun w'=>Blk 0 w' a (av S.c M)/\Blk 0 w' S.c (crv S.ck S.cs S.cb S.ch S.cl S.ce S.cr S.hs 0 S.q)/\Blk 0 w' Y [.int .i64 x,.int .i64 y,.int .i64 0]) (Ord3.Stage fun κs=>[Env w0 (boxI Y [.int .i64 x,.int .i64 y,.int .i64 0]::boxI a (av S.c M)::LT S R),fun w'=>∃ z,κs.getD 0 undef=.slice (some ⟨z,0,none⟩) 1 1/\Env w0 (boxI z [.int .i64 x,.int .i64 y,.int .i64 0]::boxI Y [.int .i64 x,.int .i64 y,.int .i64 0]::boxI a (av S.c M)::LT S R) w',fun w'=>∃ k',Rm S.kq (S.ql.length+1) k'/\∃ F' z,Env w0 (boxI z [.int .i64 x,.int .i64 y,.int .i64 0]::boxI Y [.int .i64 x,.int .i64 y,.int .i64 0]::boxI a (av S.c M)::LT { S with ql:=S.ql++[(x,y,0)],kq:=k',F:=F' } R) w']) (by kernel_rfl) (by kernel_rfl) (by kernel_rfl) ⟨hE.drew.get 1 rfl,hE.drew.get 2 rfl,hE.drew.get 0 rfl⟩ ⟨_,rfl,hE.drew⟩ (fun hT=>?_);rotate_left 9;have hT9:=zH hT;clear hT
 repeat ((first
  | (focus (refine Ord3.in_value (v:=?_) hT9.o (by decide) ?_ (by rfl) ?_ ?_; rotate_left 2; (intro w5 hS; have r1:=Blk.rule hS.1; have r2:=Blk.rule hS.2.2; unfold av at r1; go_simp<;>rfl); rotate_right; (focus rfl)))
  | (focus (refine Ord3.in_off hT9.o (by decide) ?_ (by rfl) ?_; (focus rfl)))
  | (focus (refine Ord3.in_call (v:=?_) (f:=?_) (args:=?_) hT9.o (by decide) ?_ (by rfl) ?_ ?_ ?_; rotate_left 4; (intro w5 hS; have r1:=Blk.rule hS.1; have r2:=Blk.rule hS.2.2; unfold av at r1; go_simp; constructor<;>rfl); (intro w5 hS; (first | (with_reducible refine (queue_c hS.2.1).mono ?_; rintro o w6 ⟨rfl,rfl⟩; constructor; rfl; exact ⟨hS,fun _ h=>h⟩))); rotate_right; (focus rfl))));try simp only [Act.put,zA,zZ,zS])
 refine Ord3.in_turn (fun u=>∃ z,u=.slice (some ⟨z,0,none⟩) 1 1) _ ⟨0,rfl⟩ hT9.o rfl (by decide) (by rfl) ?_ (Or.inl rfl) (by rfl) ?_ ?_
 ·rfl
 ·rintro w7 hC7 ⟨P7,hP7,hA7⟩;cases hP7;go_simp;simp only [Ord3.Lands];have hE8:=hA7.box w7.heap.size rfl [.int .i64 x,.int .i64 y,.int .i64 0] 158;exact ⟨⟨_,rfl⟩,⟨hE8.get 2 rfl,hE8.get 3 rfl,hE8.get 1 rfl⟩,_,rfl,w7.heap.size,rfl,hE8⟩
 rintro _ ⟨z9,rfl⟩
 try simp only [Act.put,zA,zZ,zS]
 refine Ord3.in_turn (fun u=>u=.int .i64 0) _ rfl hT9.o rfl (by decide) (by rfl) ?_ (Or.inr ⟨_,7,[],rfl,by kernel_rfl,by kernel_rfl,rfl⟩) (by rfl) ?_ ?_
 ·rfl
 ·rintro w7 hC7 ⟨P7,hP7,hA7⟩;cases hP7;obtain ⟨z8,he,hA7⟩:=hA7;cases he;go_simp;simp only [Ord3.Lands];have hA:Row3 w7 (some ⟨z9,0,none⟩) [(x,y,0)]:=Blk.row3 (l:=[(x,y,0)]) (hA7.get 0 rfl);refine (push_any (l:=S.ql) (xs:=[(x,y,0)]) (A:=some ⟨z9,0,none⟩) (cap:=1) (by simp; omega) hA (fun _ b hb hFb=>?_) (hA7.queue 4 rfl)).mono ?_
  ·obtain ⟨off,he⟩:=hb;cases he;exact (hA7.off (i:=0) (j:=4) rfl rfl (by omega)) z9 rfl hFb
  rintro o w8 ⟨rfl,k8,F8,hrm,hQ8,hs8⟩;have hE8:=hA7.turnQ 4 rfl hQ8 hs8;exact ⟨_,rfl,rfl,⟨hE8.get 2 rfl,hE8.get 3 rfl,hE8.get 1 rfl⟩,_,rfl,k8,by simpa using hrm,F8,z9,hE8⟩
 rintro _ rfl
 try simp only [Act.put,zA,zZ,zS]
 refine Ord3.in_nil rfl ?_;rintro w9 hC9 ⟨P9,hP9,hA9⟩;cases hP9;obtain ⟨k8,hrm,F8,z8,hA9⟩:=hA9;clear hT9 hC9;have hE9:=hA9.sub (.cons _ (.cons _ (List.Sublist.refl _)));go_wp2_with fail;refine (decide_a (S:={ S with ql:=S.ql++[(x,y,0)],kq:=k8,F:=F8 }) hz hE9).mono ?_;rintro o w10 ⟨rfl,nx,hnx,hE10⟩;go_wp2_with fail;go_ret;exact ⟨rfl,nx,k8,F8,hnx,hrm,hE10⟩
end
theorem enters_fn (pc:Nat) (ar:Array Value) (v:World):(callFunc (fnA pc) ar).run prog v=.ok (.enter (fnA pc) ar) v:=by
 unfold fnA
 repeat' split
 all_goals kernel_rfl
section
variable {w0 w:World} {R:List Item} {a:Nat} {S:ST} {M:MA}
theorem step_a (pc:Nat) (u:Value) (Q:Ending->World->Prop) (hE:Env w0 (boxI a (av S.c M)::LT S R) w) (hnx:M.nx=nxA a pc)
  (hc:Calls prog (fnA pc) #[.pointer (some ⟨a,0,none⟩),u] w fun e w'=>∃ s,e=.returned (.int .i64 s)/\Q (.returned (.int .i64 s)) w') :
  Calls prog 251 #[.pointer (some ⟨a,0,none⟩),u] w Q:=by
 have hn:w.cell? ⟨a,1,none⟩=some (.func (.func (fnA pc)) #[.pointer (some ⟨a,0,none⟩)] #[]):=by
  have:=hE.rule 0 rfl 1;rw [this,show (av S.c M)[1]?=some M.nx.1 from rfl,hnx];rfl
 have hs0:w.cell? ⟨a,1+1,none⟩=some (.int .i64 0):=by
  have:=hE.rule 0 rfl 2;rw [this,show (av S.c M)[2]?=some M.nx.2 from rfl,hnx];rfl
 have hst:=stepMv_r (o:=1) (fnA pc) (enters_fn pc) (.pointer (some ⟨a,0,none⟩)) u (fun o w'=>∃ s,o=.returned (.int .i64 s)/\Q (.returned (.int .i64 s)) w') hn hs0 (hc.mono fun e w' ⟨s,he,hq⟩=>⟨s,he,s,rfl,hq⟩);have HST:=zH hst;clear hst hc;go_enter func251,ntmps251;go_wp2_with fail;refine HST.out.mono ?_;rintro o w1 ⟨s,rfl,hQ⟩;go_wp2_with fail;exact hQ
theorem step_ay {st:Int} {Y:World->Prop} (pc:Nat) (u:Value) (hE:Env w0 (boxI a (av S.c M)::LT S R) w) (hnx:M.nx=nxA a pc)
  (hc:Calls prog (fnA pc) #[.pointer (some ⟨a,0,none⟩),u] w fun o w'=>o=.returned (.int .i64 st)/\Y w') :
  Calls prog 251 #[.pointer (some ⟨a,0,none⟩),u] w fun o w'=>o=.returned (.int .i64 st)/\Y w' :=
 step_a pc u _ hE hnx (hc.mono fun _ _ h=>⟨st,h.1,rfl,h.2⟩)
theorem new_a (k key val lv:Int) (hh:S.hs=0) (hE:Env w0 (LT S R) w) :
  Calls prog 249 #[.pointer (some ⟨S.c,0,none⟩),.agg #[.int .i64 k,.int .u64 key,.int .u64 val,.int .i64 lv]] w fun o w'=>(decP S.ql S.ce S.cl=0/\o=.returned (.tuple #[.pointer none,.int .i64 4])/\Env w0 (LT S R) w')\/(decP S.ql S.ce S.cl≠0/\∃ a,o=.returned (.tuple #[.pointer (some ⟨a,0,none⟩),.int .i64 0])/\Env w0 (boxI a (av S.c { nx:=nxA a (decP S.ql S.ce S.cl),left:=.slice none 0 0,k:=k,key:=key,val:=val,lv:=lv,h:=0,n:=0,r:=0,s:=0 })::LT S R) w'):=by
 have hE1:=hE.box w.heap.size rfl [.int .i64 k,.int .u64 key,.int .u64 val,.int .i64 lv] 50;have hb:(S.hs != 0)=false:=by simpa using hh
 clear hE;go_enter func249,ntmps249;go_wp2_with fail;refine (held_c (hE1.get 1 rfl)).mono ?_;rintro o w1 ⟨rfl,hb1⟩;rw [hb];have hE2:=(hE1.over hb1).more (.cells [.int .i64 0,.int .i64 0].toArray 136);clear hb1 hE1;have r0:=hE2.rule 0 rfl;go_wp2_with fail;have hE3:=(hE2.box (w1.heap.size+1) (by simp) (av S.c { nx:=(.nilFunc,.int .i64 0),left:=.slice none 0 0,k:=k,key:=key,val:=val,lv:=lv,h:=0,n:=0,r:=0,s:=0 }) 332).sub (L':=boxI (w1.heap.size+1) (av S.c { nx:=(.nilFunc,.int .i64 0),left:=.slice none 0 0,k:=k,key:=key,val:=val,lv:=lv,h:=0,n:=0,r:=0,s:=0 })::LT S R) (.cons_cons _ (.cons _ (List.Sublist.refl _)));refine (decide_a (zH rfl) hE3).mono ?_;rintro o w2 ⟨rfl,nx,hnx,hE4⟩;clear r0 hE2 hE3
 by_cases hd:decP S.ql S.ce S.cl=0
 ·have hds:decS S.ql S.ce S.cl=4:=by unfold decS; rw [if_pos hd]
  rw [hds];have HD:=zH hd;clear hd hds hnx;go_wp2_with fail
  go_ret2
  exact .inl ⟨HD.out,rfl,hE4.sub (.cons _ (List.Sublist.refl _))⟩
 ·have hds:decS S.ql S.ce S.cl=0:=by unfold decS; rw [if_neg hd]
  rw [hds];have HD:=zH hd;have HNX:=zH (hnx hd);clear hd hds hnx;go_wp2_with fail
  go_ret2
  rw [HNX.out] at hE4;exact .inr ⟨HD.out,_,rfl,hE4⟩
end
def ndL (c:Nat) (kd key val lv:Int) (o ro FF OV:Nat):List Value:=[.pointer (some ⟨c,0,none⟩),.int .i64 kd,.int .u64 key,.int .u64 val,.int .i64 lv,.pointer (some ⟨o,ro,none⟩),mvL FF o,mvL OV o]
def ndV (c:Nat) (kd key val lv:Int) (o ro FF OV:Nat):Value:=.agg #[.pointer (some ⟨c,0,none⟩),.int .i64 kd,.int .u64 key,.int .u64 val,.int .i64 lv,.pointer (some ⟨o,ro,none⟩),mvL FF o,mvL OV o]
def cmV (c:Nat) (kd key val lv:Int) (o ro FF OV:Nat):Value:=.func (.func 250) #[ndV c kd key val lv o ro FF OV] #[]
section
variable {w0 w:World} {L R:List Item} {c o ro FF OV:Nat} {kd key val lv:Int} {S:ST}
theorem cameOver_n (s:Int) (hs:s=3\/s=4) (hx:∀ (ar:Array Value) (v:World),(callFunc OV ar).run prog v=.ok (.enter OV ar) v) (Q:Int->World->Prop) (hE:Env w0 L w) (ho:∀ v,Env w0 L v->Calls prog OV #[.pointer (some ⟨o,0,none⟩),.agg #[.int .i64 (s+3),.bool false,.int .u64 0]] v fun e w'=>∃ s2,e=.returned (.int .i64 s2)/\Q s2 w') :
  Calls prog 250 #[ndV c kd key val lv o ro FF OV,.int .i64 s] w fun e w'=>∃ s2,e=.returned (.int .i64 s2)/\Q s2 w':=by
 have hE1:=hE.box w.heap.size rfl (ndL c kd key val lv o ro FF OV) 289;have r:=hE1.rule 0 rfl;have HO:=zH (ho _ (hE1.sub (.cons _ (List.Sublist.refl _))));unfold ndL at r HO;unfold ndV;unfold mvL at r HO ⊢;clear ho hE hE1
 rcases hs with rfl | rfl
 all_goals
  go_enter func250,ntmps250;go_wp2_with fail;refine HO.out.mono ?_;rintro e w2 ⟨s2,rfl,hq⟩;go_wp2_with fail;go_ret;exact ⟨s2,rfl,hq⟩
theorem cameFind_n (s:Int) (hs:s=1\/s=2) (hx:∀ (ar:Array Value) (v:World),(callFunc FF ar).run prog v=.ok (.enter FF ar) v) (Q:Int->World->Prop) (hE:Env w0 L w) (ho:∀ v,Env w0 L v->Calls prog FF #[.pointer (some ⟨o,0,none⟩)] v fun e w'=>∃ s2,e=.returned (.int .i64 s2)/\Q s2 w') :
  Calls prog 250 #[ndV c kd key val lv o ro FF OV,.int .i64 s] w fun e w'=>∃ s2,e=.returned (.int .i64 s2)/\Q s2 w':=by
 have hE1:=hE.box w.heap.size rfl (ndL c kd key val lv o ro FF OV) 289;have r:=hE1.rule 0 rfl;have HO:=zH (ho _ (hE1.sub (.cons _ (List.Sublist.refl _))));unfold ndL at r HO;unfold ndV;unfold mvL at r HO ⊢;clear ho hE hE1
 rcases hs with rfl | rfl
 all_goals
  go_enter func250,ntmps250;go_wp2_with fail;refine HO.out.mono ?_;rintro e w2 ⟨s2,rfl,hq⟩;go_wp2_with fail;go_ret;exact ⟨s2,rfl,hq⟩
theorem slotLate_n (hx:∀ (ar:Array Value) (v:World),(callFunc OV ar).run prog v=.ok (.enter OV ar) v) (hh:S.hs=0) (hd:decP S.ql S.ce S.cl=0) (Q:Int->World->Prop) (hE:Env w0 (LT S R) w) (ho:∀ v,Env w0 (LT S R) v->Calls prog OV #[.pointer (some ⟨o,0,none⟩),.agg #[.int .i64 7,.bool false,.int .u64 0]] v fun e w'=>∃ s2,e=.returned (.int .i64 s2)/\Q s2 w') :
  Calls prog 216 #[ndV S.c kd key val lv o ro FF OV] w fun e w'=>∃ s2,e=.returned (.int .i64 s2)/\Q s2 w':=by
 have hE1:=hE.box w.heap.size rfl (ndL S.c kd key val lv o ro FF OV) 289;have r:=hE1.rule 0 rfl;have HO:=zH ho;have HH:=zH hh;have HD:=zH hd;have hV:ndV S.c kd key val lv o ro FF OV=.agg #[.pointer (some ⟨S.c,0,none⟩),.int .i64 kd,.int .u64 key,.int .u64 val,.int .i64 lv,.pointer (some ⟨o,ro,none⟩),mvL FF o,mvL OV o]:=rfl;have HV:=zH hV;rw [hV];unfold ndL at r hE1;clear ho hE hV hh hd;go_enter func216,ntmps216;go_wp2_with fail;generalize w.alloc _=w1 at *;generalize w.heap.size=Y at *;have hE2:Env w0 (LT S (boxI Y [.pointer (some ⟨S.c,0,none⟩),.int .i64 kd,.int .u64 key,.int .u64 val,.int .i64 lv,.pointer (some ⟨o,ro,none⟩),mvL FF o,mvL OV o]::R)) w1:=hE1.perm (List.perm_middle (l₁:=[_,_,_,_])).symm;refine (new_a kd key val lv HH.out hE2).mono ?_;rintro e w6 hc6
 rcases hc6 with ⟨-,rfl,hE6⟩ | ⟨h9,-⟩
 rotate_left
 ·exact absurd HD.out h9
 clear hE1 hE2 r;have r:=hE6.rule 4 rfl;have hE7:=(hE6.perm (List.perm_middle (l₁:=[_,_,_,_]))).sub (.cons _ (List.Sublist.refl _));have HC:=zH (cameOver_n (c:=S.c) (kd:=kd) (key:=key) (val:=val) (lv:=lv) (ro:=ro) (FF:=FF) 4 (.inr rfl) hx Q hE7 HO.out);rw [HV.out] at HC;go_wp2_with fail;refine HC.out.mono ?_;rintro e w2 ⟨s2,rfl,hq⟩;go_wp2_with fail;go_ret;exact ⟨s2,rfl,hq⟩
theorem slotAlloc_n {m:Nat} {vs:List Value} (hm:R[m]?=some (boxI o vs)) (hv:ro < vs.length) (hh:S.hs=0) (hd:decP S.ql S.ce S.cl≠0) (hE:Env w0 (LT S R) w) :
  Calls prog 216 #[ndV S.c kd key val lv o ro FF OV] w fun e w'=>e=.returned (.int .i64 0)/\∃ b1 b2 l,Env w0 (boxI b1 [mvL 251 l]::boxI b2 [cmV S.c kd key val lv o ro FF OV]::boxI l (av S.c { nx:=nxA l (decP S.ql S.ce S.cl),left:=.slice none 0 0,k:=kd,key:=key,val:=val,lv:=lv,h:=0,n:=0,r:=0,s:=0 })::LT S (R.set m (boxI o (vs.set ro (cvP b1 b2))))) w':=by
 have hmf:=makeF;have hE1:=hE.box w.heap.size rfl (ndL S.c kd key val lv o ro FF OV) 289;have r:=hE1.rule 0 rfl;have HH:=zH hh;have HD:=zH hd;have HM:=zH hm;have HVS:=zH hv;have hV:ndV S.c kd key val lv o ro FF OV=.agg #[.pointer (some ⟨S.c,0,none⟩),.int .i64 kd,.int .u64 key,.int .u64 val,.int .i64 lv,.pointer (some ⟨o,ro,none⟩),mvL FF o,mvL OV o]:=rfl;have HV:=zH hV;rw [hV];unfold ndL at r hE1;clear hE hV hh hd hm hv;go_enter func216,ntmps216;go_wp2_with fail;generalize w.alloc _=w1 at *;generalize w.heap.size=Y at *;have hE2:Env w0 (LT S (boxI Y [.pointer (some ⟨S.c,0,none⟩),.int .i64 kd,.int .u64 key,.int .u64 val,.int .i64 lv,.pointer (some ⟨o,ro,none⟩),mvL FF o,mvL OV o]::R)) w1:=hE1.perm (List.perm_middle (l₁:=[_,_,_,_])).symm;refine (new_a kd key val lv HH.out hE2).mono ?_;rintro e w6 (⟨h9,-⟩ | ⟨-,l,rfl,hE6⟩)
 ·exact absurd h9 HD.out
 clear hE1 hE2 r;have r:=hE6.rule 5 rfl;have HP:=zH (play_r (a:=o) (o:=ro) (m+6) (.func 251) (.func 250) #[.pointer (some ⟨l,0,none⟩)] #[] #[ndV S.c kd key val lv o ro FF OV] #[] HVS.out hE6 HM.out);rw [HV.out] at HP;go_wp2_with fail;refine HP.out.mono ?_;rintro e w2 ⟨rfl,b1,b2,hE7⟩;go_wp2_with fail;go_ret;refine ⟨rfl,b1,b2,l,?_⟩;rw [<- HV.out] at hE7;have hE8:Env w0 (boxI b1 [mvL 251 l]::boxI b2 [cmV S.c kd key val lv o ro FF OV]::boxI l (av S.c { nx:=nxA l (decP S.ql S.ce S.cl),left:=.slice none 0 0,k:=kd,key:=key,val:=val,lv:=lv,h:=0,n:=0,r:=0,s:=0 })::LT S (boxI Y [.pointer (some ⟨S.c,0,none⟩),.int .i64 kd,.int .u64 key,.int .u64 val,.int .i64 lv,.pointer (some ⟨o,ro,none⟩),mvL FF o,mvL OV o]::R.set m (boxI o (vs.set ro (cvP b1 b2))))) w2:=hE7;exact hE8.sub (.cons_cons _ (.cons_cons _ (.cons_cons _ (.cons_cons _ (.cons_cons _ (.cons_cons _ (.cons_cons _ (.cons _ (List.Sublist.refl _)))))))))
end
section
variable {w:World} {a o:Nat}
theorem state_r {s:Int} (hs:w.cell? ⟨a,o+1,none⟩=some (.int .i64 s)) :
  Calls prog 167 #[.pointer (some ⟨a,o,none⟩)] w fun r w'=>r=.returned (.int .i64 s)/\w'=w:=by
 go_enter func167,ntmps167
 go_wp2
 go_ret;exact ⟨rfl,rfl⟩
end
section
variable {w0 w:World} {L:List Item} {p c n:Nat} {F:Nat->Prop} {f:Plc->Int} {q:Cnt}
variable {cc qq:Nat} {k s b h l e r hs hh:Int}
def okB (x e:Int):Bool:=epB x && (epI x==e)
theorem valid_w (x:Int) (hfx:f (1,0,0)=x) (m i j:Nat) (hij:j≠i) (hjm:j≠m) (hE:Env w0 L w) (hm:L[m]?=some (coreI cc k s b h l e r hs hh qq)) (hi:L[i]?=some (wbox p c)) (hj:L[j]?=some (cellI c F f q n)) :
  Calls prog 284 #[.pointer (some ⟨cc,0,none⟩),.iface 26 (.pointer (some ⟨p,0,none⟩))] w fun o w'=>o=.returned (.bool (okB x e))/\Env w0 ((L.set j (cellI c F f { q with l:=wrap64 (q.l+1) } n)).set m (coreI cc k s b h l e (if okB x e then r else wrap64 (r+1)) hs hh qq)) w':=by
 have hml:m < L.length:=(List.getElem?_eq_some_iff.1 hm).1;have hset:∀ w',Env w0 (L.set j (cellI c F f { q with l:=wrap64 (q.l+1) } n)) w'->Env w0 ((L.set j (cellI c F f { q with l:=wrap64 (q.l+1) } n)).set m (coreI cc k s b h l e r hs hh qq)) w':=fun w' h=>by
  rw [set_same (wset (b:=cellI c F f { q with l:=wrap64 (q.l+1) } n) hjm hm)];exact h
 have HS:=zH hset;clear hset;have hok:okB x e=(epB x && (epI x==e)):=rfl;generalize hR:(if okB x e then r else wrap64 (r+1))=R;rw [hok] at hR ⊢;clear hok;generalize hy:epI x=y at *;generalize hB:epB x=B at *;have HR:=zH hR;have HY:=zH hy;have HB:=zH hB;clear hR hy hB;go_enter func284,ntmps284;go_wp2_with fail;refine (read_w x hfx i j hij hE hi hj).mono ?_;rintro o w1 ⟨rfl,hE1⟩;have hm1:=wset (b:=cellI c F f { q with l:=wrap64 (q.l+1) } n) hjm hm;have r1:=hE1.rule m hm1;unfold crv at r1;have f1:=hE1.thaw m hm1 6 (by simp [crv]);rw [HY.out,HB.out];clear HY HB;cases B
 ·have HR2:=HR.out;simp only [Bool.false_and,Bool.false_eq_true,if_false] at HR2;subst HR2;go_wp2_with fail;go_ret;exact ⟨rfl,hE1.put m hm1 (j:=6) (by simp [crv]) (.int .i64 (wrap64 (r+1)))⟩
 ·cases hy:y==e
  ·have HR2:=HR.out;rw [hy] at HR2;simp only [Bool.and_false,Bool.false_eq_true,if_false] at HR2;subst HR2;go_wp2_with fail;go_ret;exact ⟨ret_bool (by rw [hy]; rfl),hE1.put m hm1 (j:=6) (by simp [crv]) (.int .i64 (wrap64 (r+1)))⟩
  ·have HR2:=HR.out;rw [hy] at HR2;simp only [Bool.and_true,if_true] at HR2;subst HR2;go_wp2_with fail;go_ret;exact ⟨ret_bool (by rw [hy]; rfl),HS.out _ hE1⟩
end
end
end Go.Proofs.YtdknbegcflldjaaGreatDoor
