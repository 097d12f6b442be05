/- What is proved on the way to the statement, part 8: contracts of the functions, among other things in memory. -/
import Derived.Test.YtffncfmciockmaaGreatDoorO7
import Derived.Laws.IdiomStrings

open _root_.Go.Proofs.Tryz
set_option maxRecDepth 100000
set_option maxHeartbeats 25600000
namespace Go.Proofs.YtffncfmciockmaaGreatDoor
section
open Go.RowKit Go.Maps
section
variable {w0 w:World} {L:List Item} {c q:Nat} {s b h l e r hs hi:Int}
theorem kind_ofM (v:World) (a b c d e:Int):(Instr.field 23 (.agg #[.int .i64 a,.int .i64 b,.int .i64 c,.int .i64 d,.int .i64 e]) 0).run prog v=.ok (.int .i64 a) v:=by kernel_rfl
theorem newNil_m (kd key val lv:Int) (w:World) :
  Calls prog 60 #[.pointer none,.agg #[.int .i64 kd,.int .u64 key,.int .u64 val,.int .i64 lv]] w fun o w'=>o=.returned (.tuple #[.pointer none,.int .i64 2])/\Below w.heap.size w w':=by
 go_enter func60,ntmps60;go_wp2_with fail;exact bodyPost_ret (by simp [results,results60,go_sem]) rfl ⟨rfl,(Below.refl _ _).alloc (Nat.le_refl _) _⟩
theorem ask_m (i:Nat) (kd key val lv:Int) (h2:kd≠8) (h3:opI 1 s b h l kd key val lv=0) (hm:L[i]?=some (coreI c 1 s b h l e r hs hi q)) (hE:Env w0 L w) :
  Calls prog 103 #[.pointer (some ⟨c,0,none⟩),.agg #[.int .i64 kd,.int .u64 key,.int .u64 val,.int .i64 lv]] w fun p w'=>∃ o b1 b2 sb,p=.returned (askC o)/\Env w0 (boxI o (opC c kd key val lv (cvP b1 b2) 0 (.pointer (some ⟨sb,0,none⟩)) 0 false)::boxI b1 [mvL 190 sb]::boxI b2 [mvL 191 o]::boxI sb (srC c 0 key false (.pointer none))::L) w':=by
 have hko:=kind_ofM;have hE1:=hE.box w.heap.size rfl [.int .i64 kd,.int .u64 key,.int .u64 val,.int .i64 lv] 51;have hm1:(boxI w.heap.size [.int .i64 kd,.int .u64 key,.int .u64 val,.int .i64 lv]::L)[i+1]?=some (coreI c 1 s b h l e r hs hi q):=hm;have HCF:=zH (conf_c (hE1.get (i+1) hm1));have b2:(kd==8)=false:=by simpa using h2
 have HNW:=zH fun v (hv:Env w0 (boxI w.heap.size [.int .i64 kd,.int .u64 key,.int .u64 val,.int .i64 lv]::L) v)=>newYes_o (i+1) kd key val lv h2 h3 hm1 hv;clear hE hm h2 h3;go_enter func103,ntmps103;have r0:=hE1.rule 0 rfl;go_wp2_with fail;refine HCF.out.mono ?_;rintro e9 w6 ⟨rfl,hb5⟩;replace hE1:=hE1.over hb5;clear r0 hb5 HCF;have r0:=hE1.rule 0 rfl;go_wp2_with fail;refine (HNW.out _ hE1).mono ?_;rintro e9 w7 ⟨o,b3,b4,sb,rfl,hE2⟩;go_wp2_with fail;go_ret;exact ⟨o,b3,b4,sb,rfl,hE2.sub (.cons_cons _ (.cons_cons _ (.cons_cons _ (.cons_cons _ (.cons _ (List.Sublist.refl _))))))⟩
theorem newYes_m (i:Nat) (kd key val lv:Int) (h2:kd≠8) (h3:opI 1 s b h l kd key val lv=0) (hm:L[i]?=some (coreI c 1 s b h l e r hs hi q)) (hE:Env w0 L w) :
  Calls prog 60 #[.pointer (some ⟨c,0,none⟩),.agg #[.int .i64 kd,.int .u64 key,.int .u64 val,.int .i64 lv]] w fun p w'=>∃ m b5 b6 o b1 b2 sb,p=.returned (.tuple #[.pointer (some ⟨m,0,none⟩),.int .i64 0])/\Env w0 (boxI m (opmC kd key val lv (askC o) (cvP b5 b6) 0 0)::boxI b5 [mvI o]::boxI b6 [mvL 105 m]::boxI o (opC c kd key val lv (cvP b1 b2) 0 (.pointer (some ⟨sb,0,none⟩)) 0 false)::boxI b1 [mvL 190 sb]::boxI b2 [mvL 191 o]::boxI sb (srC c 0 key false (.pointer none))::L) w':=by
 have hmf:=makeF;have hE1:=hE.box w.heap.size rfl [.int .i64 kd,.int .u64 key,.int .u64 val,.int .i64 lv] 51;have hm1:(boxI w.heap.size [.int .i64 kd,.int .u64 key,.int .u64 val,.int .i64 lv]::L)[i+1]?=some (coreI c 1 s b h l e r hs hi q):=hm;have HCF:=zH fun (v:World) (hv:Env w0 (boxI w.heap.size [.int .i64 kd,.int .u64 key,.int .u64 val,.int .i64 lv]::L) v)=>conf_c (hv.get (i+1) hm1);have HAS:=zH fun (v:World) (hv:Env w0 (boxI w.heap.size [.int .i64 kd,.int .u64 key,.int .u64 val,.int .i64 lv]::L) v)=>ask_m (i+1) kd key val lv h2 h3 hm1 hv;have hIO:=fun v=>isOp_any 1 s b h l kd key val lv v;simp only [h3] at hIO;have HIO:=zH hIO;clear hIO hE hm h2 h3;go_enter func60,ntmps60;go_wp2_with fail;generalize w.alloc _=w2 at *;generalize w.heap.size=Y at *;refine wp_text (S:=(Env w0 (boxI Y [.int .i64 kd,.int .u64 key,.int .u64 val,.int .i64 lv]::L))) (by kernel_rfl) (by kernel_rfl) hE1.drew (fun hT=>?_);have hT9:=zH hT;clear hT
 repeat ((first
  | (refine text_value (v:=?_) hT9.o (by rfl) ?_ ?_; rotate_left; (intro w5 hS; have r0:=hS.rule 0 rfl; go_simp<;>rfl))
  | (refine text_off hT9.o (by rfl) ?_)
  | (refine text_call (v:=?_) (f:=?_) (args:=?_) hT9.o (by rfl) ?_ ?_ ?_; rotate_left 3; (intro w5 hS; have r0:=hS.rule 0 rfl; go_simp; constructor<;>rfl); (intro w5 hS; (first | (with_reducible refine kp (HCF.out _ hS) ?_ ?_; rfl; exact fun w6 hb5=>hS.over hb5) | (with_reducible refine kp (HIO.out _) ?_ ?_; rfl; exact fun w6 hb5=>hS.over hb5)))));try simp only [Act.put,zA,zZ,zS])
 refine InText.nil fun w5 hS5=>?_;clear hT9;clear hE1;have r0:=hS5.rule 0 rfl;go_wp2_with fail;refine Ord3.wp_chain [?_,?_,?_,?_,?_,?_,?_] [3,4,5,6] (fun w'=>Blk 0 w' Y [.int .i64 kd,.int .u64 key,.int .u64 val,.int .i64 lv]) (Ord3.Stage fun κs=>[Env w0 (boxI Y [.int .i64 kd,.int .u64 key,.int .u64 val,.int .i64 lv]::L),fun w'=>∃ o9,κs.getD 0 undef=.iface 224 (.pointer (some ⟨o9,0,none⟩))/\∃ b1 b2 sb,Env w0 (boxI o9 (opC c kd key val lv (cvP b1 b2) 0 (.pointer (some ⟨sb,0,none⟩)) 0 false)::boxI b1 [mvL 190 sb]::boxI b2 [mvL 191 o9]::boxI sb (srC c 0 key false (.pointer none))::boxI Y [.int .i64 kd,.int .u64 key,.int .u64 val,.int .i64 lv]::L) w',fun w'=>∃ o9,κs.getD 1 undef=.agg #[.int .i64 kd,.int .u64 key,.int .u64 val,.int .i64 lv,.iface 224 (.pointer (some ⟨o9,0,none⟩)),.nilFunc,.int .i64 0,.int .i64 0]/\∃ b1 b2 sb,Env w0 (boxI o9 (opC c kd key val lv (cvP b1 b2) 0 (.pointer (some ⟨sb,0,none⟩)) 0 false)::boxI b1 [mvL 190 sb]::boxI b2 [mvL 191 o9]::boxI sb (srC c 0 key false (.pointer none))::boxI Y [.int .i64 kd,.int .u64 key,.int .u64 val,.int .i64 lv]::L) w',fun w'=>∃ m9 o9,κs.getD 2 undef=.pointer (some ⟨m9,0,none⟩)/\∃ b1 b2 sb,Env w0 (boxI m9 (opmC kd key val lv (.iface 224 (.pointer (some ⟨o9,0,none⟩))) .nilFunc 0 0)::boxI o9 (opC c kd key val lv (cvP b1 b2) 0 (.pointer (some ⟨sb,0,none⟩)) 0 false)::boxI b1 [mvL 190 sb]::boxI b2 [mvL 191 o9]::boxI sb (srC c 0 key false (.pointer none))::boxI Y [.int .i64 kd,.int .u64 key,.int .u64 val,.int .i64 lv]::L) w',fun w'=>∃ m9 o9,κs.getD 3 undef=.pointer (some ⟨m9,0,none⟩)/\∃ b1 b2 sb,Env w0 (boxI m9 (opmC kd key val lv (.iface 224 (.pointer (some ⟨o9,0,none⟩))) .nilFunc 0 0)::boxI o9 (opC c kd key val lv (cvP b1 b2) 0 (.pointer (some ⟨sb,0,none⟩)) 0 false)::boxI b1 [mvL 190 sb]::boxI b2 [mvL 191 o9]::boxI sb (srC c 0 key false (.pointer none))::boxI Y [.int .i64 kd,.int .u64 key,.int .u64 val,.int .i64 lv]::L) w']) (by kernel_rfl) (by kernel_rfl) (by kernel_rfl) (hS5.drew.get 0 rfl) ⟨_,rfl,hS5.drew⟩ (fun hT=>?_);rotate_left 7;have hT9:=zH hT;clear hT
 repeat ((first
  | (focus (refine Ord3.in_value (v:=?_) hT9.o (by decide) ?_ (by rfl) ?_ ?_; rotate_left 2; (intro w5 hS; have r0:=Blk.rule hS; go_simp<;>rfl); rotate_right; (focus rfl)))
  | (focus (refine Ord3.in_off hT9.o (by decide) ?_ (by rfl) ?_; (focus rfl))));try simp only [Act.put,zA,zZ,zS])
 refine Ord3.in_turn (fun u=>∃ o,u=.iface 224 (.pointer (some ⟨o,0,none⟩))) _ ⟨0,rfl⟩ hT9.o rfl (by decide) (by rfl) ?_ (Or.inl rfl) (by rfl) ?_ ?_
 ·rfl
 ·rintro w7 hC7 ⟨P7,hP7,hA7⟩;cases hP7;go_simp;simp only [Ord3.Lands];refine (HAS.out _ hA7).mono ?_;rintro o w8 ⟨o8,b3,b4,s8,rfl,hE8⟩;exact ⟨_,rfl,⟨o8,rfl⟩,hE8.get 4 rfl,_,rfl,o8,rfl,b3,b4,s8,hE8⟩
 rintro _ ⟨o6,rfl⟩
 try simp only [Act.put,zA,zZ,zS]
 repeat ((first
  | (focus (refine Ord3.in_value (v:=?_) hT9.o (by decide) ?_ (by rfl) ?_ ?_; rotate_left 2; (intro w5 hS; have r0:=Blk.rule hS; go_simp<;>rfl); rotate_right; (focus rfl)))
  | (focus (refine Ord3.in_off hT9.o (by decide) ?_ (by rfl) ?_; (focus rfl))));try simp only [Act.put,zA,zZ,zS])
 refine Ord3.in_turn (fun u=>∃ o:Nat,u=.agg #[.int .i64 kd,.int .u64 key,.int .u64 val,.int .i64 lv,.iface 224 (.pointer (some ⟨o,0,none⟩)),.nilFunc,.int .i64 0,.int .i64 0]) _ ⟨0,rfl⟩ hT9.o rfl (by decide) (by rfl) ?_ (Or.inr ⟨_,3,[],rfl,by kernel_rfl,by kernel_rfl,rfl⟩) (by rfl) ?_ ?_
 ·rfl
 ·rintro w7 hC7 ⟨P7,hP7,hA7⟩;cases hP7;obtain ⟨o7,he,hA7⟩:=hA7;cases he;go_simp;simp only [Ord3.Lands];exact ⟨⟨_,rfl⟩,hC7,_,rfl,_,rfl,hA7⟩
 rintro _ ⟨o8,rfl⟩
 try simp only [Act.put,zA,zZ,zS]
 repeat ((first
  | (focus (refine Ord3.in_value (v:=?_) hT9.o (by decide) ?_ (by rfl) ?_ ?_; rotate_left 2; (intro w5 hS; have r0:=Blk.rule hS; go_simp<;>rfl); rotate_right; (focus rfl)))
  | (focus (refine Ord3.in_off hT9.o (by decide) ?_ (by rfl) ?_; (focus rfl))));try simp only [Act.put,zA,zZ,zS])
 refine Ord3.in_turn (fun u=>∃ o,u=.pointer (some ⟨o,0,none⟩)) _ ⟨0,rfl⟩ hT9.o rfl (by decide) (by rfl) ?_ (Or.inr ⟨_,4,[],rfl,by kernel_rfl,by kernel_rfl,rfl⟩) (by rfl) ?_ ?_
 ·rfl
 ·rintro w7 hC7 ⟨P7,hP7,hA7⟩;cases hP7;obtain ⟨o7,he,b3,b4,s8,hA7⟩:=hA7;cases he;have hE8:=hA7.box w7.heap.size rfl (opmC kd key val lv (.iface 224 (.pointer (some ⟨o8,0,none⟩))) .nilFunc 0 0) 147;go_simp;simp only [Ord3.Lands];exact ⟨⟨_,rfl⟩,hE8.get 5 rfl,_,rfl,_,rfl,o8,b3,b4,s8,hE8⟩
 rintro _ ⟨m8,rfl⟩
 try simp only [Act.put,zA,zZ,zS]
 repeat ((first
  | (focus (refine Ord3.in_value (v:=?_) hT9.o (by decide) ?_ (by rfl) ?_ ?_; rotate_left 2; (intro w5 hS; have r0:=Blk.rule hS; go_simp<;>rfl); rotate_right; (focus rfl)))
  | (focus (refine Ord3.in_off hT9.o (by decide) ?_ (by rfl) ?_; (focus rfl))));try simp only [Act.put,zA,zZ,zS])
 refine Ord3.in_turn (fun u=>∃ o,u=.pointer (some ⟨o,0,none⟩)) _ ⟨0,rfl⟩ hT9.o rfl (by decide) (by rfl) ?_ (Or.inr ⟨_,5,[],rfl,by kernel_rfl,by kernel_rfl,rfl⟩) (by rfl) ?_ ?_
 ·rfl
 ·rintro w7 hC7 ⟨P7,hP7,hA7⟩;cases hP7;obtain ⟨m7,o7,he,hA7⟩:=hA7;cases he;go_simp;simp only [Ord3.Lands];exact ⟨⟨_,rfl⟩,hC7,_,rfl,_,rfl,o7,hA7⟩
 rintro _ ⟨m6,rfl⟩
 try simp only [Act.put,zA,zZ,zS]
 refine Ord3.in_nil rfl ?_;rintro w9 hC9 ⟨P9,hP9,hA9⟩;cases hP9;obtain ⟨m7,o7,he,b3,b4,s8,hA9⟩:=hA9;cases he;clear hT9 hC9 hS5 r0 HCF HAS HIO;go_wp2_with fail;refine Ord3.wp_chain [?_,?_,?_,?_,?_,?_,?_,?_,?_,?_,?_,?_] [11] (fun w'=>∃ nx9,Blk 0 w' m6 (opmC kd key val lv (.iface 224 (.pointer (some ⟨o7,0,none⟩))) nx9 0 0)) (Ord3.Stage fun κs=>[Env w0 (boxI m6 (opmC kd key val lv (.iface 224 (.pointer (some ⟨o7,0,none⟩))) .nilFunc 0 0)::boxI o7 (opC c kd key val lv (cvP b3 b4) 0 (.pointer (some ⟨s8,0,none⟩)) 0 false)::boxI b3 [mvL 190 s8]::boxI b4 [mvL 191 o7]::boxI s8 (srC c 0 key false (.pointer none))::boxI Y [.int .i64 kd,.int .u64 key,.int .u64 val,.int .i64 lv]::L),fun w'=>∃ b5 b6,Env w0 (boxI b5 [mvI o7]::boxI b6 [mvL 105 m6]::boxI m6 (opmC kd key val lv (.iface 224 (.pointer (some ⟨o7,0,none⟩))) (cvP b5 b6) 0 0)::boxI o7 (opC c kd key val lv (cvP b3 b4) 0 (.pointer (some ⟨s8,0,none⟩)) 0 false)::boxI b3 [mvL 190 s8]::boxI b4 [mvL 191 o7]::boxI s8 (srC c 0 key false (.pointer none))::boxI Y [.int .i64 kd,.int .u64 key,.int .u64 val,.int .i64 lv]::L) w']) (by kernel_rfl) (by kernel_rfl) (by kernel_rfl) ⟨_,hA9.drew.get 0 rfl⟩ ⟨_,rfl,hA9.drew⟩ (fun hT=>?_);rotate_left 12;have hT9:=zH hT;clear hT
 repeat ((first
  | (focus (refine Ord3.in_value (v:=?_) hT9.o (by decide) ?_ (by rfl) ?_ ?_; rotate_left 2; (intro w5 hS; obtain ⟨nx9,hS9⟩:=hS; have r1:=Blk.rule hS9; unfold opmC at r1; go_simp<;>rfl); rotate_right; (focus rfl)))
  | (focus (refine Ord3.in_off hT9.o (by decide) ?_ (by rfl) ?_; (focus rfl))));try simp only [Act.put,zA,zZ,zS])
 refine Ord3.in_turn (fun u=>u=.int .i64 0) _ rfl hT9.o rfl (by decide) (by rfl) ?_ (Or.inl rfl) (by rfl) ?_ ?_
 ·rfl
 ·rintro w7 hC7 ⟨P7,hP7,hA7⟩;cases hP7;go_simp;simp only [Ord3.Lands];refine (play_r (a:=m6) (o:=5) 0 (.method "Step") (.func 105) #[askC o7] #[] #[.pointer (some ⟨m6,0,none⟩)] #[] (by simp [opmC]) hA7 rfl).mono ?_;rintro o w8 ⟨rfl,b5,b6,hE8⟩;exact ⟨_,rfl,rfl,⟨_,hE8.get 2 rfl⟩,_,rfl,b5,b6,hE8⟩
 rintro _ rfl
 try simp only [Act.put,zA,zZ,zS]
 refine Ord3.in_nil rfl ?_;rintro w10 hC9 ⟨P9,hP9,hA10⟩;cases hP9;obtain ⟨b5,b6,hA10⟩:=hA10;clear hT9 hC9 hA9;go_wp2_with fail;refine bodyPost_ret (v:=.tuple #[.pointer (some ⟨m6,0,none⟩),.int .i64 0]) (by simp [results,results60,go_sem]) rfl ⟨m6,b5,b6,o7,b3,b4,s8,rfl,?_⟩;refine (hA10.perm (L':=boxI m6 (opmC kd key val lv (.iface 224 (.pointer (some ⟨o7,0,none⟩))) (cvP b5 b6) 0 0)::boxI b5 [mvI o7]::boxI b6 [mvL 105 m6]::boxI o7 (opC c kd key val lv (cvP b3 b4) 0 (.pointer (some ⟨s8,0,none⟩)) 0 false)::boxI b3 [mvL 190 s8]::boxI b4 [mvL 191 o7]::boxI s8 (srC c 0 key false (.pointer none))::boxI Y [.int .i64 kd,.int .u64 key,.int .u64 val,.int .i64 lv]::L) (perm_of fun z=>by simp only [List.count_cons]; omega)).sub ?_;exact .cons_cons _ (.cons_cons _ (.cons_cons _ (.cons_cons _ (.cons_cons _ (.cons_cons _ (.cons_cons _ (.cons _ (List.Sublist.refl _))))))))
end
end
section
def digN:Nat->Nat->List UInt8
 | 0,_=>[]
 | n+1,w=>digN n (w / 256)++[UInt8.ofNat (w % 256)]
def numN (l:List UInt8):Nat:=l.foldl (fun a b=>a * 256+b.toNat) 0
theorem digN_length:∀ n w,(digN n w).length=n
 | 0,_=>rfl
 | n+1,w=>by simp [digN,digN_length n]
theorem numN_append (l:List UInt8) (b:UInt8):numN (l++[b])=numN l * 256+b.toNat:=by simp [numN]
theorem toNat_ofNat (x:Nat) (h:x < 256):(UInt8.ofNat x).toNat=x:=by
 simp [UInt8.toNat_ofNat'];omega
theorem digN_numN (l:List UInt8):digN l.length (numN l)=l:=by
 induction h:l.length generalizing l with
 | zero=>rw [List.eq_nil_of_length_eq_zero h]; rfl
 | succ n ih =>
  have hne:l≠[]:=by intro h0; subst h0; cases h
  rw [<- List.dropLast_concat_getLast hne] at h ⊢;have h2:l.dropLast.length=n:=by simpa using h
  rw [numN_append,digN];have hb:=(l.getLast hne).toNat_lt;have h3:(numN l.dropLast * 256+(l.getLast hne).toNat) / 256=numN l.dropLast:=by omega
  have h4:(numN l.dropLast * 256+(l.getLast hne).toNat) % 256=(l.getLast hne).toNat:=by omega
  rw [h3,h4,ih _ h2];simp
theorem numN_lt:∀ n (l:List UInt8),l.length=n->numN l < 256 ^ n:=by
 intro n
 induction n with
 | zero=>intro l h; rw [List.eq_nil_of_length_eq_zero h]; decide
 | succ n ih =>
  intro l h;have hne:l≠[]:=by intro h0; subst h0; cases h
  rw [<- List.dropLast_concat_getLast hne,numN_append,Nat.pow_succ];have:=ih l.dropLast (by simp [h]);have hb:=(l.getLast hne).toNat_lt;omega
def wordL (w:Int):List UInt8:=digN 8 w.toNat
theorem wordL_length (w:Int):(wordL w).length=8:=digN_length _ _
theorem num_wordL {l:List UInt8} (h:l.length=8):wordL (numN l:Int)=l:=by
 unfold wordL;have:=digN_numN l;rw [h] at this
 simpa using this
theorem numN_in {l:List UInt8} (h:l.length=8):0<=(numN l:Int)/\(numN l:Int)<=18446744073709551615:=by
 have:=numN_lt 8 l h;omega
theorem digN_get:∀ n w j,j < n->(digN n w)[j]?=some (UInt8.ofNat (w / 256 ^ (n - 1 - j) % 256))
 | 0,_,_,h=>absurd h (Nat.not_lt_zero _)
 | n+1,w,j,h=>by
  rw [digN]
  by_cases hj:j < n
  ·rw [List.getElem?_append_left (by rw [digN_length]; exact hj),digN_get n (w / 256) j hj,Nat.div_div_eq_div_mul];have:n+1 - 1 - j=(n - 1 - j)+1:=by omega
   rw [this,Nat.pow_succ,Nat.mul_comm]
  ·have:j=n:=by omega
   subst this;rw [List.getElem?_append_right (by rw [digN_length]; exact Nat.le_refl _),digN_length];simp
theorem word_at {x:Int} (hx:InU x) {k:Nat} (hk:k < 8):∃ b,(wordL x)[k]?=some b/\x / 2 ^ (8 * (7 - k)) % 256=(b.toNat:Int):=by
 refine ⟨_,digN_get 8 x.toNat k hk,?_⟩;rw [toNat_ofNat _ (Nat.mod_lt _ (by decide))];have h1:((x.toNat:Nat):Int)=x:=Int.toNat_of_nonneg hx.1;have h2:(256:Nat) ^ (7 - k)=2 ^ (8 * (7 - k)):=by rw [Nat.pow_mul]
 rw [show 8 - 1 - k=7 - k by omega,h2];have h3:∀ n:Nat,((2 ^ n:Nat):Int)=(2:Int) ^ n:=fun n=>Int.natCast_pow 2 n;generalize 8 * (7 - k)=n;show x / 2 ^ n % 256=((x.toNat / 2 ^ n % 256:Nat):Int);rw [<- h3 n];generalize 2 ^ n=p;rw [Int.natCast_emod,Int.natCast_ediv,h1];rfl
def opL (k key val lv:Int):List UInt8:=UInt8.ofNat k.toNat::(wordL key++(wordL val++[UInt8.ofNat lv.toNat]))
def ansL (e:Int) (d:Bool) (val:Int):List UInt8:=UInt8.ofNat e.toNat::UInt8.ofNat d.toNat::wordL val
def subL (l:List UInt8) (a:Nat):List UInt8:=(l.drop a).take 8
theorem subL_length {l:List UInt8} {a:Nat} (h:a+8<=l.length):(subL l a).length=8:=by simp [subL]; omega
theorem num_snoc {l:List UInt8} {a k:Nat} (h:a+k < l.length):numN ((l.drop a).take (k+1))=numN ((l.drop a).take k) * 256+(l.getD (a+k) 0).toNat:=by
 have h1:k < (l.drop a).length:=by simp; omega
 rw [List.take_add_one,List.getElem?_eq_getElem h1,Option.toList,numN_append];simp [List.getD_eq_getElem?_getD,List.getElem?_eq_getElem h]
theorem num_take_lt {l:List UInt8} {a k:Nat} (h:a+k<=l.length):numN ((l.drop a).take k) < 256 ^ k:=numN_lt k _ (by simp; omega)
theorem wordL_sub {l:List UInt8} {a:Nat} (h:a+8<=l.length):wordL (numN (subL l a):Int)=subL l a:=num_wordL (subL_length h)
theorem ofNat_getD (l:List UInt8) (a:Nat):UInt8.ofNat ((l.getD a 0).toNat:Int).toNat=l.getD a 0:=by simp
theorem opL_parse {l:List UInt8} (h:l.length=18):opL ((l.getD 0 0).toNat:Int) (numN (subL l 1):Int) (numN (subL l 9):Int) ((l.getD 17 0).toNat:Int)=l:=by
 unfold opL;rw [wordL_sub (by omega),wordL_sub (by omega),ofNat_getD,ofNat_getD]
 match l,h with
 | [a,b,c,d,e,f,g,i,j,k,m,n,o,p,q,r,s,t],_=>rfl
theorem ansL_parse {l:List UInt8} (h:l.length=10) (h1:(l.getD 1 0).toNat<=1):ansL ((l.getD 0 0).toNat:Int) (decide (((l.getD 1 0).toNat:Int)=1)) (numN (subL l 2):Int)=l:=by
 unfold ansL;rw [wordL_sub (by omega),ofNat_getD]
 match l,h with
 | [a,b,c,d,e,f,g,i,j,k],_ =>
  have hb:b=UInt8.ofNat (decide ((b.toNat:Int)=1)).toNat:=by
   have h2:b.toNat<=1:=h1
   rcases (show b.toNat=0\/b.toNat=1 by omega) with h3 | h3
   ·have:b=0:=UInt8.toNat_inj.1 h3;subst this; rfl
   ·have:b=1:=UInt8.toNat_inj.1 h3;subst this; rfl
  show a::UInt8.ofNat (decide ((b.toNat:Int)=1)).toNat::_=a::b::_;rw [<- hb];rfl
end
section
open Go.RowKit Go.Maps
section
variable {α:Type} {enc:α->List Value} {k:Nat}
def flatK (enc:α->List Value) (l:List α):List Value:=l.flatMap enc
theorem flatK_length (hk:∀ x,(enc x).length=k) (l:List α):(flatK enc l).length=l.length * k:=by
 induction l with
 | nil=>simp [flatK]
 | cons x l ih =>
  have e:flatK enc (x::l)=enc x++flatK enc l:=by simp [flatK]
  rw [e,List.length_append,ih,hk,List.length_cons,Nat.add_mul];omega
theorem flatK_append (a b:List α):flatK enc (a++b)=flatK enc a++flatK enc b:=by simp [flatK]
theorem flatK_get [Inhabited α] (hk:∀ x,(enc x).length=k):∀ (l:List α) (j c:Nat),j < l.length->c < k->(flatK enc l)[j * k+c]?=(enc (l.getD j default))[c]?:=by
 intro l
 induction l with
 | nil=>intro j c h; simp at h
 | cons x l ih =>
  intro j c hj hc;have e:flatK enc (x::l)=enc x++flatK enc l:=by simp [flatK]
  cases j with
  | zero=>rw [e,List.getElem?_append_left (by rw [hk]; omega)]; simp
  | succ j =>
   have e3:(j+1) * k=j * k+k:=by rw [Nat.add_mul,Nat.one_mul]
   rw [e,List.getElem?_append_right (by rw [hk]; omega)];have:=ih j c (by simpa using hj) hc;have e2:(j+1) * k+c - (enc x).length=j * k+c:=by rw [hk]; omega
   rw [e2,this];simp
theorem RowX.news [Inhabited α] (hk:∀ x,(enc x).length=k) (hk0:0 < k) {w:World} {ad:Addr} {xs:List α} (h:RowX enc k w (some ad) xs):∀ j u,(flatK enc xs)[j]?=some u->w.cell? (ad.add j)=some u:=by
 intro j u hu
 rcases h with rfl | ⟨b,off,he,hl,hc⟩
 ·simp [flatK] at hu
 ·cases he;have hj:j < xs.length * k:=by rw [<- flatK_length hk]; exact (List.getElem?_eq_some_iff.1 hu).1
  have e:(⟨b,off,none⟩:Addr).add j=⟨b,off+j,none⟩:=by unfold Addr.add; split<;>simp_all
  have e2:j / k * k+j % k=j:=by rw [Nat.mul_comm]; exact Nat.div_add_mod j k
  have hlt:j / k < xs.length:=(Nat.div_lt_iff_lt_mul hk0).2 hj;have h1:=hc (j / k) hlt (j % k) u (by rw [<- flatK_get hk xs (j / k) (j % k) hlt (Nat.mod_lt _ hk0),e2,hu]);rw [e]
  rwa [Nat.add_assoc,e2] at h1
theorem Blk.rowK [Inhabited α] (hk:∀ x,(enc x).length=k) {w:World} {g:Nat} {l:List α} (h:Blk 0 w g (flatK enc l)):RowX enc k w (some ⟨g,0,none⟩) l:=by
 refine .inr ⟨g,0,rfl,h.1,fun i hi j v e=>?_⟩;have hj:j < k:=by have:=(List.getElem?_eq_some_iff.1 e).1; rw [hk] at this; exact this
 rw [Nat.zero_add,h.rule,flatK_get hk l i j hi hj];exact e
theorem owns_rowK [Inhabited α] (hk:∀ x,(enc x).length=k) {w:World} {b:Nat} {e:TypeId} {A:Option Addr} {cap:Nat} {l:List α} (h:w.ownsRow b e k (.slice A l.length cap) l.length (flatK enc l)):RowX enc k w A l:=by
 rcases h.2 with ⟨_,h0⟩ | ⟨g,cap',cur,hv,_,hg,hn,hc,hcs,htk⟩
 ·exact .inl (List.eq_nil_of_length_eq_zero h0)
 ·simp only [Value.slice.injEq] at hv;obtain ⟨rfl,-,rfl⟩:=hv;refine .inr ⟨g,0,rfl,(Array.getElem?_eq_some_iff.1 hg).1,fun i hi j v e=>?_⟩;have hj:j < k:=by have:=(List.getElem?_eq_some_iff.1 e).1; rw [hk] at this; exact this
  have h1:=flatK_get hk l i j hi hj;have hlt:i * k+j < l.length * k:=by
   have:(i+1) * k<=l.length * k:=Nat.mul_le_mul_right k hi;rw [Nat.add_mul] at this;omega
  rw [e,<- htk,List.getElem?_take_of_lt hlt] at h1;rw [Nat.zero_add];simp only [World.cell?,hg]
  simpa using h1
def rowKI (enc:α->List Value) (k:Nat) (v:Value) (e:TypeId) (l:List α):Item:=rowI v e k l.length (flatK enc l)
variable {w0 w w':World} {L:List Item}
theorem Env.rowK (h:Env w0 L w) (i:Nat) {v:Value} {e:TypeId} {l:List α} (hi:L[i]?=some (rowKI enc k v e l)):w.ownsRow 0 e k v l.length (flatK enc l):=h.get i hi
theorem Env.cellsK [Inhabited α] (hk:∀ x,(enc x).length=k) (h:Env w0 L w) (i:Nat) {A:Option Addr} {n cap:Nat} {e:TypeId} {l:List α} (hn:n=l.length) (hi:L[i]?=some (rowKI enc k (.slice A n cap) e l)):RowX enc k w A l:=by subst hn; exact owns_rowK hk (h.rowK i hi)
theorem Env.appendK [Inhabited α] (hk:∀ x,(enc x).length=k) (hk0:0 < k) (hone:∀ x,∀ u∈enc x,u.oneCell'=true) {P:Program} (h:Env w0 L w) (i:Nat) {v:Value} {e:TypeId} {l xs:List α} (hi:L[i]?=some (rowKI enc k v e l)) (t ty:TypeId) (ht:P.underlying t=some (.slice e))
  {zz:Value} {bytes:Nat} (hzz0:zz.cells.size=k) (hinfo:(P.info? e).map (fun i=>(i.zero,i.size,i.bytes))=some (some zz,k,bytes))
  {A:Option Addr} (c:Nat) (hx:RowX enc k w A xs) (hA:A=none->xs=[]) (hz:l.length+xs.length<=maxLen) (hby:(l.length+xs.length) * bytes<=140737488355328) :
  ∃ A' c' w',(Builtin.append_ #[t,t] ty #[v,.slice A xs.length c]).run P w=.ok (.slice A' (l.length+xs.length) c') w'/\Env w0 (L.set i (rowKI enc k (.slice A' (l.length+xs.length) c') e (l++xs))) w':=by
 obtain ⟨i0,hi0,hzz⟩:=Option.map_eq_some_iff.1 hinfo;simp only [Prod.mk.injEq] at hzz;obtain ⟨hz0,hs,hb⟩:=hzz;have hown:=h.rowK i hi;obtain ⟨v',w',hrun,ho,hg,hv⟩:=run_append_rows (P:=P) t ty 0 e i0 zz k bytes ht hi0 hz0 hs hb hzz0 hk0 w v l.length (flatK enc l) hown A xs.length c (flatK enc xs) (flatK_length hk xs)
  (by
    cases A with
    | none =>
     left
     have:=hA rfl;subst this;exact ⟨rfl,rfl⟩
    | some ad=>exact .inr ⟨ad,rfl,RowX.news hk hk0 hx⟩) (fun u hu=>by
     obtain ⟨x,_,hx2⟩:=List.mem_flatMap.1 hu;exact hone x u hx2) hz hby (Nat.zero_le _)
 obtain ⟨A',c',rfl⟩:=ownsRow_slice ho;have hst:Step (fun k=>v.ownBlock=some k) (fun k=>(Value.slice A' (l.length+xs.length) c').ownBlock=some k) w w':=⟨(Turn.refl _ w).grown hg fun k _ e=>e,fun k hk=>by
  rcases hv with e | e
  ·exact .inl (by rw [<- e]; exact hk)
  ·right
   rw [e] at hk;cases hk;exact Nat.le_refl _⟩
 refine ⟨A',c',w',hrun,h.step i (rowKI enc k _ e (l++xs)) hi hst ?_ ?_⟩
 ·show w'.ownsRow 0 e k _ (l++xs).length (flatK enc (l++xs));rw [List.length_append,flatK_append];exact ho
 ·exact ownsRow_lt ho
end
def byB (x:Int):Bool:=decide (0<=x/\x<=255)
def encB (b:UInt8):List Value:=[.int .u8 (b.toNat:Int)]
theorem encB_len:∀ x,(encB x).length=1:=fun _=>rfl
theorem encB_one:∀ x,∀ u∈encB x,u.oneCell'=true:=fun x u hu=>by
 simp only [encB,List.mem_singleton] at hu;subst hu;rfl
theorem infoB:(prog.info? 5).map (fun i=>(i.zero,i.size,i.bytes))=some (some (.int .u8 0),1,1):=by kernel_rfl
def byI (v:Value) (l:List UInt8):Item:=rowKI encB 1 v 5 l
section
variable {w0 w:World} {L:List Item}
theorem isByte_any (x:Int) (w:World):Calls prog 61 #[.int .i64 x] w fun e w'=>e=.returned (.bool (byB x))/\w'=w:=by
 by_cases h1:0<=x
 ·by_cases h2:x<=255
  ·have hb:byB x=true:=by simp [byB,h1,h2]
   rw [hb];have b1:decide (0<=x)=true:=by simpa using h1
   have b2:decide (x<=255)=true:=by simpa using h2
   clear hb h1 h2;go_enter func61,ntmps61;go_wp2_with fail;go_ret;exact ⟨rfl,rfl⟩
  ·have hb:byB x=false:=by simp [byB]; omega
   rw [hb];have b1:decide (0<=x)=true:=by simpa using h1
   have b2:decide (x<=255)=false:=by simpa using h2
   clear hb h1 h2;go_enter func61,ntmps61;go_wp2_with fail;go_ret;exact ⟨rfl,rfl⟩
 ·have hb:byB x=false:=by simp [byB]; omega
  rw [hb];have b1:decide (0<=x)=false:=by simpa using h1
  clear hb h1;go_enter func61,ntmps61;go_wp2_with fail;go_ret;exact ⟨rfl,rfl⟩
theorem put_o (i:Nat) {A:Option Addr} {c:Nat} {zs:List UInt8} (x:Int) (hx:InU x) (hi:L[i]?=some (byI (.slice A zs.length c) zs)) (hz:zs.length<=1000) (hE:Env w0 L w) :
  Calls prog 62 #[.slice A zs.length c,.int .u64 x] w fun e w'=>∃ A' c',e=.returned (.slice A' (zs.length+8) c')/\Env w0 (L.set i (byI (.slice A' (zs.length+8) c') (zs++wordL x))) w':=by
 have HX:=zH hx;have HI:=zH hi;have hE0:Env w0 (L.set i (byI (.slice A (zs++(wordL x).take 0).length c) (zs++(wordL x).take 0))) w:=by
  rw [List.take_zero,List.append_nil];have:L.set i (byI (.slice A zs.length c) zs)=L:=by
   obtain ⟨h,he⟩:=List.getElem?_eq_some_iff.1 hi;rw [<- he,List.set_getElem_self]
  rw [this];exact hE
 have hil:i < L.length:=(List.getElem?_eq_some_iff.1 hi).1;clear hE hx hi;go_enter func62,ntmps62;go_wp2_with fail
 go_loopw [0,5] (fun v iv wr=>∃ (k:Nat) (A':Option Addr) (c':Nat),k<=8/\v=.slice A' (zs++(wordL x).take k).length c'/\iv=.int .i64 (7 - (k:Int))/\Env w0 (L.set i (byI (.slice A' (zs++(wordL x).take k).length c') (zs++(wordL x).take k))) wr) (fun _ iv _=>(intOf iv+1).toNat)
 case atStart=>exact ⟨0,A,c,by omega,by simp,rfl,hE0⟩
 case round =>
  obtain ⟨k,A',c',hk,rfl,rfl,hEr⟩:=hrel;clear hE0
  by_cases hlt:k < 8
  ·have hb1:decide ((0:Int)<=7 - (k:Int))=true:=by simp; omega
   have hb2:(0:Int)<=7 - (k:Int):=by omega
   have hmul:wrap64 (8 * (7 - (k:Int)))=8 * (7 - (k:Int)):=w64 _ (by omega);have hsub:wrap64 (7 - (k:Int) - 1)=7 - ((k+1:Nat):Int):=by rw [w64 _ (by omega)]; omega
   obtain ⟨b,hbk,hb⟩:=word_at HX.out hlt;obtain ⟨l,hl⟩:∃ l,l=zs++(wordL x).take k:=⟨_,rfl⟩;have hl2:zs++(wordL x).take (k+1)=l++[b]:=by rw [List.take_add_one,hbk,hl]; simp
   have hll:l.length<=1008:=by rw [hl,List.length_append,List.length_take,wordL_length]; omega
   rw [<- hl] at hEr ⊢;have hE9:=hEr.box wr.heap.size rfl [.int .u8 (b.toNat:Int)] 5;obtain ⟨A9,c9,w9,hrun,hE10⟩:=hE9.appendK (xs:=[b]) encB_len (by decide) encB_one (i+1) (by rw [List.getElem?_cons_succ,List.getElem?_set_self hil]; rfl) 140 140 Tryz.underlying140 rfl infoB 1 (Blk.rowK (enc:=encB) (k:=1) encB_len (l:=[b]) (show Blk 0 _ _ (flatK encB [b]) from hE9.get 0 rfl)) (fun h=>by cases h) (by unfold maxLen; simp; omega) (by simp; omega);simp only [zS,List.set_set,List.length_singleton] at hrun hE10;have HRUN:=zH hrun;have HL:=zH hl;have HL2:=zH hl2;have HLEN:=zH (show l.length+1=(l++[b]).length by simp);clear hrun hE9 hEr hl hl2 hbk;go_wp2_with (first | (at_builtin; refine wpList_append_run rfl _ _ 140 rfl HRUN.out rfl rfl ?_));refine ⟨⟨k+1,A9,c9,hlt,by rw [HL2.out,HLEN.out],by congr 1; omega,?_⟩,by simp [intOf]; omega⟩;rw [HL2.out,<- HLEN.out];exact hE10.sub (.cons _ (List.Sublist.refl _))
  ·have hke:k=8:=by omega
   subst hke;have hb1:decide ((0:Int)<=7 - ((8:Nat):Int))=false:=by decide
   have hl8:(zs++(wordL x).take 8).length=zs.length+8:=by simp [wordL_length]
   have ht8:(wordL x).take 8=wordL x:=List.take_of_length_le (by rw [wordL_length]; exact Nat.le_refl _);rw [hl8,ht8] at hEr;rw [hl8];go_wp2_with fail;go_ret;exact ⟨A',c',rfl,hEr⟩
theorem or_byte {N b:Nat} (h:N < 72057594037927936) (hb:b < 256):bits .or .u64 ((N:Int) * 256) (IntKind.u64.wrap (b:Int))=((N * 256+b:Nat):Int):=by
 have h1:(N * 256) ||| b=N * 256+b:=by
  have:=Nat.shiftLeft_add_eq_or_of_lt (i:=8) (b:=b) (by omega) N;rw [Nat.shiftLeft_eq] at this;exact this.symm
 have e1:IntKind.u64.wrap (b:Int)=(b:Int):=by rw [IntKind.wrap_u64]; omega
 rw [e1,show (N:Int) * 256=((N * 256:Nat):Int) by simp,u64_or_nat _ _ (by omega) (by omega),h1]
theorem get_in {l:List UInt8} {a k:Nat} (h:a+8<=l.length) (hk:k < 8):numN ((l.drop a).take k) < 72057594037927936:=by
 have h1:=num_take_lt (l:=l) (a:=a) (k:=k) (by omega);have h2:256 ^ k<=256 ^ 7:=Nat.pow_le_pow_right (by decide) (by omega);have h3:256 ^ 7=72057594037927936:=by decide
 omega
theorem get_o (l:List UInt8) (a:Nat) (ha:a+8<=l.length) (hl:l.length<=1000) (w:World) :
  Calls prog 64 #[.string ⟨l.toArray⟩,.int .i64 (a:Int)] w fun e w'=>e=.returned (.int .u64 (numN (subL l a):Int))/\w'=w:=by
 go_enter func64,ntmps64;go_wp2_with fail
 go_loopw [5,7] (fun v iv wr=>∃ k:Nat,k<=8/\v=.int .u64 (numN ((l.drop a).take k):Int)/\iv=.int .i64 (k:Int)/\wr=w) (fun _ iv _=>8 - (intOf iv).toNat)
 case atStart=>exact ⟨0,by omega,by simp [numN],rfl,rfl⟩
 case round =>
  obtain ⟨k,hk,rfl,rfl,rfl⟩:=hrel
  by_cases hlt:k < 8
  ·have hb1:decide ((k:Int) < 8)=true:=by simp; omega
   have hadd:wrap64 ((a:Int)+(k:Int))=((a+k:Nat):Int):=by rw [w64 _ (by omega)]; omega
   have hin:=get_in ha hlt;go_wp2_with fail;refine ⟨⟨k+1,hlt,?_,by simp,trivial⟩,by simp [intOf]; omega⟩;rw [num_snoc (by omega)];have hge:({ data:=l.toArray }:ByteArray)[a+k]'(by simp [ByteArray.size]; omega)=l.getD (a+k) 0:=by
    simp [ByteArray.getElem_eq_getElem_data,List.getD_eq_getElem?_getD,show a+k < l.length by omega]
   have hbl:=(l.getD (a+k) 0).toNat_lt;rw [hge,or_byte hin hbl]
  ·have hke:k=8:=by omega
   subst hke;have hb1:decide (((8:Nat):Int) < 8)=false:=by decide
   go_wp2_with fail;go_ret;exact ⟨rfl,rfl⟩
end
section
variable {w0 w:World} {L:List Item}
theorem flatB (l:List UInt8):flatK encB l=l.map fun b=>.int .u8 (b.toNat:Int):=by
 unfold flatK
 induction l with
 | nil=>rfl
 | cons a t ih=>rw [List.flatMap_cons,ih]; rfl
theorem Env.addB (h:Env w0 L w) (l:List UInt8) (n:Nat) (hn:w.heap.size=n) (hl:l.length<=1000):Env w0 (byI (.slice (some ⟨n,0,none⟩) l.length l.length) l::L) (w.alloc (.cells (l.map fun b=>Value.int .u8 (b.toNat:Int)).toArray 5)):=by
 subst hn;have ho:(w.alloc (.cells (l.map fun b=>Value.int .u8 (b.toNat:Int)).toArray 5)).ownsRow w.heap.size 5 1 (.slice (some ⟨w.heap.size,0,none⟩) l.length l.length) l.length (flatK encB l):=by
  rw [flatB];refine ⟨by simp,.inr ⟨w.heap.size,l.length,(l.map fun b=>Value.int .u8 (b.toNat:Int)).toArray,rfl,Nat.le_refl _,heap_alloc_new w _,Nat.le_refl _,by unfold maxLen; omega,by simp,?_⟩⟩;rw [List.toList_toArray];exact List.take_of_length_le (by simp)
 exact h.add (byI (.slice (some ⟨w.heap.size,0,none⟩) l.length l.length) l) ((Below.refl _ _).alloc (Nat.le_refl _) _) (ownsRow_base ho (Nat.zero_le _)) fun k hk=>ho.lt k hk
theorem conv_b (hE:Env w0 L w) (i:Nat) {A:Option Addr} {n c:Nat} {l:List UInt8} (hn:n=l.length) (h0:0 < l.length) (hi:L[i]?=some (byI (.slice A n c) l)) :
  (convert 140 9 (.slice A n c)).run prog w=.ok (.string ⟨l.toArray⟩) w:=by
 subst hn;have hx:=hE.cellsK encB_len i rfl hi;have ho:=hE.rowK i hi
 rcases ho.2 with ⟨-,h9⟩ | ⟨g,cap,cur,hv,-⟩
 ·omega
 ·simp only [Value.slice.injEq] at hv;obtain ⟨rfl,-,rfl⟩:=hv;refine run_convert_bytes_back w 140 9 5 ⟨g,0,none⟩ c l Tryz.underlying140 Tryz.underlying5 Tryz.underlying9 fun j hj=>?_;refine RowX.news encB_len (by decide) hx j _ ?_;rw [flatB,List.getElem?_map,List.getElem?_eq_getElem hj];rfl
theorem bytesNo_o (kd key val lv:Int) (h:byB kd=false\/byB lv=false) (w:World) :
  Calls prog 21 #[.agg #[.int .i64 kd,.int .u64 key,.int .u64 val,.int .i64 lv]] w fun e w'=>e=.returned (.tuple #[.string ⟨#[]⟩,.int .i64 3])/\Below w.heap.size w w':=by
 have hF:=(Fr.start w).push w.heap.size rfl [.int .i64 kd,.int .u64 key,.int .u64 val,.int .i64 lv] 51;have r:=hF.rule 0 rfl;have h1:=fun v=>isByte_any kd v;have h2:=fun v=>isByte_any lv v
 by_cases hk:byB kd=true
 ·have hl:byB lv=false:=by rcases h with h | h; (rw [h] at hk; cases hk); exact h
  rw [hk] at h1;rw [hl] at h2;have H1:=zH h1;have H2:=zH h2;clear h h1 h2 hk hl;go_enter func21,ntmps21;go_wp2_with (first | (with_reducible refine (H1.out _).mono ?_; rintro e w1 ⟨rfl,rfl⟩) | (with_reducible refine (H2.out _).mono ?_; rintro e w1 ⟨rfl,rfl⟩));exact bodyPost_ret (by simp [results,results21,go_sem]) rfl ⟨rfl,hF.below⟩
 ·have hk2:byB kd=false:=by simpa using hk
  rw [hk2] at h1;have H1:=zH h1;clear h h1 h2 hk hk2;go_enter func21,ntmps21;go_wp2_with (first | (with_reducible refine (H1.out _).mono ?_; rintro e w1 ⟨rfl,rfl⟩));exact bodyPost_ret (by simp [results,results21,go_sem]) rfl ⟨rfl,hF.below⟩
theorem bytesYes_o (kd key val lv:Int) (h1:byB kd=true) (h2:byB lv=true) (hk:InU key) (hv:InU val) (w:World) :
  Calls prog 21 #[.agg #[.int .i64 kd,.int .u64 key,.int .u64 val,.int .i64 lv]] w fun e w'=>e=.returned (.tuple #[.string ⟨(opL kd key val lv).toArray⟩,.int .i64 0])/\Below w.heap.size w w':=by
 have hE:=(Env.start w).box w.heap.size rfl [.int .i64 kd,.int .u64 key,.int .u64 val,.int .i64 lv] 51;have r:=hE.rule 0 rfl;have i1:=fun v=>isByte_any kd v;have i2:=fun v=>isByte_any lv v;rw [h1] at i1;rw [h2] at i2;have H1:=zH i1;have H2:=zH i2;have hw1:IntKind.u8.wrap kd=((UInt8.ofNat kd.toNat).toNat:Int):=by
  have:0<=kd/\kd<=255:=by simpa [byB] using h1
  rw [toNat_ofNat _ (by omega),wrap_u8_small (by omega) (by omega)]; omega
 have hw2:IntKind.u8.wrap lv=((UInt8.ofNat lv.toNat).toNat:Int):=by
  have:0<=lv/\lv<=255:=by simpa [byB] using h2
  rw [toNat_ofNat _ (by omega),wrap_u8_small (by omega) (by omega)]; omega
 have HK:=zH hk;have HV:=zH hv;obtain ⟨b1,hb1⟩:∃ b,UInt8.ofNat kd.toNat=b:=⟨_,rfl⟩;obtain ⟨b2,hb2⟩:∃ b,UInt8.ofNat lv.toNat=b:=⟨_,rfl⟩;have HO:Hid (opL kd key val lv=b1::(wordL key++(wordL val++[b2]))):=zH (by unfold opL; rw [hb1,hb2]);rw [hb1] at hw1;rw [hb2] at hw2;clear i1 i2 h1 h2 hk hv hb1 hb2;go_enter func21,ntmps21
 go_upto_region 3 with (first | (with_reducible refine (H1.out _).mono ?_; rintro e w1 ⟨rfl,rfl⟩) | (with_reducible refine (H2.out _).mono ?_; rintro e w1 ⟨rfl,rfl⟩))
 generalize w.alloc _=w2 at *;generalize w.heap.size=Y at *;clear r;have HW1:=zH hw1;have HW2:=zH hw2;clear hw1 hw2;refine Ord3.wp_chain [?_,?_,?_,?_,?_,?_,?_,?_,?_,?_,?_] [3,6,9,10] (fun w'=>Blk 0 w' Y [.int .i64 kd,.int .u64 key,.int .u64 val,.int .i64 lv]) (Ord3.Stage fun κs=>[Env w (boxI Y [.int .i64 kd,.int .u64 key,.int .u64 val,.int .i64 lv]::[]),fun w'=>∃ A c,κs.getD 0 undef=.slice A 1 c/\Env w (byI (.slice A 1 c) [b1]::boxI Y [.int .i64 kd,.int .u64 key,.int .u64 val,.int .i64 lv]::[]) w',fun w'=>∃ A c,κs.getD 1 undef=.slice A 9 c/\Env w (byI (.slice A 9 c) ([b1]++wordL key)::boxI Y [.int .i64 kd,.int .u64 key,.int .u64 val,.int .i64 lv]::[]) w',fun w'=>∃ A c,κs.getD 2 undef=.slice A 17 c/\Env w (byI (.slice A 17 c) ([b1]++wordL key++wordL val)::boxI Y [.int .i64 kd,.int .u64 key,.int .u64 val,.int .i64 lv]::[]) w',fun w'=>∃ A c,κs.getD 3 undef=.slice A 17 c/\Env w (byI (.slice A 17 c) ([b1]++wordL key++wordL val)::boxI Y [.int .i64 kd,.int .u64 key,.int .u64 val,.int .i64 lv]::[]) w']) (by kernel_rfl) (by kernel_rfl) (by kernel_rfl) (hE.drew.get 0 rfl) ⟨_,rfl,hE.drew⟩ (fun hT=>?_);rotate_left 11;have hT9:=zH hT;clear hT
 repeat ((first
  | (focus (refine Ord3.in_value (v:=?_) hT9.o (by decide) ?_ (by rfl) ?_ ?_; rotate_left 2; (intro w5 hS; have r0:=Blk.rule hS; go_simp<;>rfl); rotate_right; (focus rfl)))
  | (focus (refine Ord3.in_off hT9.o (by decide) ?_ (by rfl) ?_; (focus rfl))));try simp only [Act.put,zA,zZ,zS])
 refine Ord3.in_turn (fun u=>∃ A c,u=.slice A 1 c) _ ⟨none,0,rfl⟩ hT9.o rfl (by decide) (by rfl) ?_ (Or.inl rfl) (by rfl) ?_ ?_
 ·rfl
 ·rintro w7 hC7 ⟨P7,hP7,hA7⟩;cases hP7;have hE8:=hA7.addB [b1] w7.heap.size rfl (by simp);go_simp;simp only [Ord3.Lands];rw [HW1.out];exact ⟨⟨_,_,rfl⟩,hE8.get 1 rfl,_,rfl,_,_,rfl,hE8⟩
 rintro _ ⟨A8,c8,rfl⟩
 try simp only [Act.put,zA,zZ,zS]
 repeat ((first
  | (focus (refine Ord3.in_value (v:=?_) hT9.o (by decide) ?_ (by rfl) ?_ ?_; rotate_left 2; (intro w5 hS; have r0:=Blk.rule hS; go_simp<;>rfl); rotate_right; (focus rfl)))
  | (focus (refine Ord3.in_off hT9.o (by decide) ?_ (by rfl) ?_; (focus rfl))));try simp only [Act.put,zA,zZ,zS])
 refine Ord3.in_turn (fun u=>∃ A c,u=.slice A 9 c) _ ⟨none,0,rfl⟩ hT9.o rfl (by decide) (by rfl) ?_ (Or.inr ⟨_,3,[],rfl,by kernel_rfl,by kernel_rfl,rfl⟩) (by rfl) ?_ ?_
 ·rfl
 ·rintro w7 hC7 ⟨P7,hP7,hA7⟩;cases hP7;obtain ⟨A7,c7,he,hA7⟩:=hA7;cases he;go_simp;simp only [Ord3.Lands];have hp:=put_o (zs:=[b1]) (A:=A8) (c:=c8) 0 key HK.out rfl (by simp) hA7;rw [List.length_singleton] at hp;refine hp.mono ?_;rintro o w8 ⟨A6,c6,rfl,hX8⟩;exact ⟨_,rfl,⟨_,_,rfl⟩,hX8.get 1 rfl,_,rfl,_,_,rfl,hX8⟩
 rintro _ ⟨A9,c9,rfl⟩
 try simp only [Act.put,zA,zZ,zS]
 repeat ((first
  | (focus (refine Ord3.in_value (v:=?_) hT9.o (by decide) ?_ (by rfl) ?_ ?_; rotate_left 2; (intro w5 hS; have r0:=Blk.rule hS; go_simp<;>rfl); rotate_right; (focus rfl)))
  | (focus (refine Ord3.in_off hT9.o (by decide) ?_ (by rfl) ?_; (focus rfl))));try simp only [Act.put,zA,zZ,zS])
 refine Ord3.in_turn (fun u=>∃ A c,u=.slice A 17 c) _ ⟨none,0,rfl⟩ hT9.o rfl (by decide) (by rfl) ?_ (Or.inr ⟨_,6,[],rfl,by kernel_rfl,by kernel_rfl,rfl⟩) (by rfl) ?_ ?_
 ·rfl
 ·rintro w7 hC7 ⟨P7,hP7,hA7⟩;cases hP7;obtain ⟨A7,c7,he,hA7⟩:=hA7;cases he;go_simp;simp only [Ord3.Lands];have hp:=put_o (zs:=[b1]++wordL key) (A:=A9) (c:=c9) 0 val HV.out (by simp [wordL_length]) (by simp [wordL_length]) hA7;have hl9:([b1]++wordL key).length=9:=by simp [wordL_length]
  rw [hl9] at hp;refine hp.mono ?_;rintro o w8 ⟨A6,c6,rfl,hX8⟩;exact ⟨_,rfl,⟨_,_,rfl⟩,hX8.get 1 rfl,_,rfl,_,_,rfl,hX8⟩
 rintro _ ⟨A6,c6,rfl⟩
 try simp only [Act.put,zA,zZ,zS]
 repeat ((first
  | (focus (refine Ord3.in_value (v:=?_) hT9.o (by decide) ?_ (by rfl) ?_ ?_; rotate_left 2; (intro w5 hS; have r0:=Blk.rule hS; go_simp<;>rfl); rotate_right; (focus rfl)))
  | (focus (refine Ord3.in_off hT9.o (by decide) ?_ (by rfl) ?_; (focus rfl))));try simp only [Act.put,zA,zZ,zS])
 refine Ord3.in_turn (fun u=>∃ A c,u=.slice A 17 c) _ ⟨none,0,rfl⟩ hT9.o rfl (by decide) (by rfl) ?_ (Or.inr ⟨_,9,[],rfl,by kernel_rfl,by kernel_rfl,rfl⟩) (by rfl) ?_ ?_
 ·rfl
 ·rintro w7 hC7 ⟨P7,hP7,hA7⟩;cases hP7;obtain ⟨A7,c7,he,hA7⟩:=hA7;cases he;go_simp;simp only [Ord3.Lands];exact ⟨⟨_,_,rfl⟩,hC7,_,rfl,_,_,rfl,hA7⟩
 rintro _ ⟨A0,c0,rfl⟩
 try simp only [Act.put,zA,zZ,zS]
 refine Ord3.in_nil rfl ?_;rintro w9 hC9 ⟨P9,hP9,hA9⟩;cases hP9;obtain ⟨A7,c7,he,hA9⟩:=hA9;cases he;clear hT9 hC9 hE;have r0:=hA9.rule 1 rfl;have hl17:([b1]++wordL key++wordL val).length=17:=by simp [wordL_length]
 obtain ⟨l,hl⟩:∃ l,[b1]++wordL key++wordL val=l:=⟨_,rfl⟩;have hop:opL kd key val lv=l++[b2]:=by rw [HO.out,<- hl]; simp
 rw [hl] at hA9 hl17;have HOP:=zH hop;clear hop hl HO;have hE9:=hA9.box w9.heap.size rfl [.int .u8 (b2.toNat:Int)] 5;obtain ⟨A5,c5,w5,hrun,hE10⟩:=hE9.appendK (l:=l) (xs:=[b2]) encB_len (by decide) encB_one 1 (v:=.slice A0 17 c0) rfl 140 140 Tryz.underlying140 rfl infoB 1 (Blk.rowK (enc:=encB) (k:=1) encB_len (l:=[b2]) (show Blk 0 _ _ (flatK encB [b2]) from hE9.get 0 rfl)) (fun h=>by cases h) (by unfold maxLen; simp; omega) (by simp; omega);simp only [zS,zZ,List.length_singleton,hl17] at hrun hE10;have hcv:=conv_b hE10 1 (l:=l++[b2]) (by simp [hl17]) (by simp) rfl;simp only [Nat.reduceAdd] at hcv hrun;have HRUN:=zH hrun;have hw2:=HW2.out;clear hrun hE9 hA9;go_wp2_with (first | (at_builtin; refine wpList_append_run rfl _ _ 140 rfl HRUN.out rfl rfl ?_));exact bodyPost_ret (v:=.tuple #[.string ⟨(l++[b2]).toArray⟩,.int .i64 0]) (by simp [results,results21,go_sem]) rfl ⟨by rw [HOP.out],hE10.below⟩
end
theorem Env.put4c {w0 w:World} {L:List Item} (h:Env w0 L w) (i:Nat) {B:Nat} {a b c d:Value} (hi:L[i]?=some (boxI B [a,b,c,d])) (u v t x:Value) :
  Env w0 (L.set i (boxI B [u,v,t,x])) ((((w.setCell ⟨B,0,none⟩ u).setCell ⟨B,1,none⟩ v).setCell ⟨B,2,none⟩ t).setCell ⟨B,3,none⟩ x):=by
 have hl:i < L.length:=(List.getElem?_eq_some_iff.1 hi).1;have h1:=h.put i hi (j:=0) (by simp) u;have h2:=h1.put i (by rw [List.getElem?_set_self hl]) (j:=1) (by simp) v;have h3:=h2.put i (by rw [List.getElem?_set_self (by simpa using hl)]) (j:=2) (by simp) t;have h4:=h3.put i (by rw [List.getElem?_set_self (by simpa using hl)]) (j:=3) (by simp) x
 simpa using h4
structure Rw where
 (A:Option Addr)
 (cap:Nat)
 (ds:List Dd)
instance:Inhabited Rw:=⟨⟨none,0,[]⟩⟩
section
variable {w0 w:World} {L:List Item}
theorem ansNo_o (er val:Int) (dn:Bool) (h:byB er=false) (w:World) :
  Calls prog 23 #[.agg #[.int .i64 er,.bool dn,.int .u64 val]] w fun e w'=>e=.returned (.tuple #[.string ⟨#[]⟩,.int .i64 3])/\Below w.heap.size w w':=by
 have hF:=(Fr.start w).push w.heap.size rfl [.int .i64 er,.bool dn,.int .u64 val] 57;have r:=hF.rule 0 rfl;have h1:=fun v=>isByte_any er v;rw [h] at h1;have H1:=zH h1;clear h h1;go_enter func23,ntmps23;go_wp2_with (first | (with_reducible refine (H1.out _).mono ?_; rintro e w1 ⟨rfl,rfl⟩));exact bodyPost_ret (by simp [results,results23,go_sem]) rfl ⟨rfl,hF.below⟩
theorem ansYes_o (er val:Int) (dn:Bool) (h1:byB er=true) (hv:InU val) (w:World) :
  Calls prog 23 #[.agg #[.int .i64 er,.bool dn,.int .u64 val]] w fun e w'=>e=.returned (.tuple #[.string ⟨(ansL er dn val).toArray⟩,.int .i64 0])/\Below w.heap.size w w':=by
 have hE:=(Env.start w).box w.heap.size rfl [.int .i64 er,.bool dn,.int .u64 val] 57;have r:=hE.rule 0 rfl;have i1:=fun v=>isByte_any er v;rw [h1] at i1;have H1:=zH i1;have hw1:IntKind.u8.wrap er=((UInt8.ofNat er.toNat).toNat:Int):=by
  have:0<=er/\er<=255:=by simpa [byB] using h1
  rw [toNat_ofNat _ (by omega),wrap_u8_small (by omega) (by omega)]; omega
 have HV:=zH hv;obtain ⟨b1,hb1⟩:∃ b,UInt8.ofNat er.toNat=b:=⟨_,rfl⟩;rw [hb1] at hw1;have HO:Hid (ansL er dn val=[b1,UInt8.ofNat dn.toNat]++wordL val):=zH (by unfold ansL; rw [hb1]; rfl);clear i1 h1 hv hb1;go_enter func23,ntmps23
 go_upto_region 3 with (first | (with_reducible refine (H1.out _).mono ?_; rintro e w1 ⟨rfl,rfl⟩))
 generalize w.alloc _=w2 at *;generalize w.heap.size=Y at *
 go_upto_region 4 with fail
 clear r;cases dn
 ·have r0:=hE.rule 0 rfl;have hyl:Y < w2.heap.size:=((hE.2.2 _ (List.mem_singleton.2 rfl)).2 Y rfl).2
  go_upto_region 6 with fail
  have hE8:=hE.addB [b1,0] w2.heap.size rfl (by simp);have hal:(w2.alloc (.cells #[.int .u8 (b1.toNat:Int),.int .u8 0] 5))=w2.alloc (.cells (([b1,0]:List UInt8).map fun b=>Value.int .u8 (b.toNat:Int)).toArray 5):=rfl;rw [hal];generalize w2.alloc _=w3 at *;generalize w2.heap.size=Z at *;have r:=hE8.rule 1 rfl;have hp:=put_o (zs:=[b1,0]) 0 val HV.out rfl (by simp) hE8;have hl2:([b1,0]:List UInt8).length=2:=rfl;rw [hl2] at hp;have HP:=zH hp;clear hp hE8;go_wp2_with fail;refine HP.out.mono ?_;rintro o w5 ⟨A5,c5,rfl,hE9⟩;have hcv:=conv_b hE9 0 (l:=[b1,0]++wordL val) (by simp [wordL_length]) (by simp) rfl;simp only [Nat.reduceAdd] at hcv;go_wp2_with fail;exact bodyPost_ret (v:=.tuple #[.string ⟨([b1,0]++wordL val).toArray⟩,.int .i64 0]) (by simp [results,results23,go_sem]) rfl ⟨by rw [HO.out]; rfl,hE9.below⟩
 ·have r0:=hE.rule 0 rfl;have hyl:Y < w2.heap.size:=((hE.2.2 _ (List.mem_singleton.2 rfl)).2 Y rfl).2
  go_upto_region 6 with fail
  have hE8:=hE.addB [b1,1] w2.heap.size rfl (by simp);have hal:(w2.alloc (.cells #[.int .u8 (b1.toNat:Int),.int .u8 1] 5))=w2.alloc (.cells (([b1,1]:List UInt8).map fun b=>Value.int .u8 (b.toNat:Int)).toArray 5):=rfl;rw [hal];generalize w2.alloc _=w3 at *;generalize w2.heap.size=Z at *;have r:=hE8.rule 1 rfl;have hp:=put_o (zs:=[b1,1]) 0 val HV.out rfl (by simp) hE8;have hl2:([b1,1]:List UInt8).length=2:=rfl;rw [hl2] at hp;have HP:=zH hp;clear hp hE8;go_wp2_with fail;refine HP.out.mono ?_;rintro o w5 ⟨A5,c5,rfl,hE9⟩;have hcv:=conv_b hE9 0 (l:=[b1,1]++wordL val) (by simp [wordL_length]) (by simp) rfl;simp only [Nat.reduceAdd] at hcv;go_wp2_with fail;exact bodyPost_ret (v:=.tuple #[.string ⟨([b1,1]++wordL val).toArray⟩,.int .i64 0]) (by simp [results,results23,go_sem]) rfl ⟨by rw [HO.out]; rfl,hE9.below⟩
theorem parseNo_o (l:List UInt8) (h:l.length≠18) (hl:l.length<=1000) (w:World) :
  Calls prog 25 #[.string ⟨l.toArray⟩] w fun e w'=>e=.returned (.tuple #[.agg #[.int .i64 0,.int .u64 0,.int .u64 0,.int .i64 0],.int .i64 4])/\Below w.heap.size w w':=by
 have hb:(((l.length:Nat):Int) != 18)=true:=by simp; omega
 clear h;go_enter func25,ntmps25;go_wp2_with fail;exact bodyPost_ret (by simp [results,results25,go_sem]) rfl ⟨rfl,(Below.refl _ _).alloc (Nat.le_refl _) _⟩
theorem parseYes_o (l:List UInt8) (h:l.length=18) (w:World) :
  Calls prog 25 #[.string ⟨l.toArray⟩] w fun e w'=>e=.returned (.tuple #[.agg #[.int .i64 ((l.getD 0 0).toNat:Int),.int .u64 (numN (subL l 1):Int),.int .u64 (numN (subL l 9):Int),.int .i64 ((l.getD 17 0).toNat:Int)],.int .i64 0])/\Below w.heap.size w w':=by
 have hb:(((l.length:Nat):Int) != 18)=false:=by rw [h]; rfl
 have HG1:Hid (∀ v,Calls prog 64 #[.string ⟨l.toArray⟩,.int .i64 1] v fun e w'=>e=.returned (.int .u64 (numN (subL l 1):Int))/\w'=v):=zH fun v=>get_o l 1 (by omega) (by omega) v;have HG9:Hid (∀ v,Calls prog 64 #[.string ⟨l.toArray⟩,.int .i64 9] v fun e w'=>e=.returned (.int .u64 (numN (subL l 9):Int))/\w'=v):=zH fun v=>get_o l 9 (by omega) (by omega) v;go_enter func25,ntmps25;have hE:=(Env.start w).box w.heap.size rfl [.int .i64 0,.int .u64 0,.int .u64 0,.int .i64 0] 51;have hi0:0 < l.length:=by omega
 have hi17:17 < l.length:=by omega
 have g0:({ data:=l.toArray }:ByteArray)[0]'(by simp [ByteArray.size]; omega)=l.getD 0 0:=by
  simp [ByteArray.getElem_eq_getElem_data,List.getD_eq_getElem?_getD,hi0]
 have g17:({ data:=l.toArray }:ByteArray)[17]'(by simp [ByteArray.size]; omega)=l.getD 17 0:=by
  simp [ByteArray.getElem_eq_getElem_data,List.getD_eq_getElem?_getD,hi17]
 go_wp2_with fail;generalize w.alloc _=w2 at *;generalize w.heap.size=Y at *;refine Ord.wc [11] (fun v=>True) (fun k w'=>Env w [boxI Y (if k=0 then [.int .i64 0,.int .u64 0,.int .u64 0,.int .i64 0] else [.int .i64 ((l.getD 0 0).toNat:Int),.int .u64 (numN (subL l 1):Int),.int .u64 (numN (subL l 9):Int),.int .i64 ((l.getD 17 0).toNat:Int)])] w') trivial hE.drew fun hT9=>?_
 repeat ((first
  | (refine Ord.cv ?_ hT9.o ?_ ?_; rotate_left; (intro w5 hS; skip; go_simp<;>rfl))
  | (refine Ord.co hT9.o ?_)
  | (refine Ord.cc ?_ ?_ ?_ hT9.o ?_ ?_ ?_; rotate_left 3; (intro w5 hS; skip; go_simp; constructor<;>rfl); (intro w5 hS; (first | (with_reducible refine (HG1.out _).mono ?_; rintro e w6 ⟨rfl,rfl⟩; constructor; rfl; exact ⟨trivial,fun _ h=>h⟩) | (with_reducible refine (HG9.out _).mono ?_; rintro e w6 ⟨rfl,rfl⟩; constructor; rfl; exact ⟨trivial,fun _ h=>h⟩)))));try simp only [Act.put,zA,zZ,zS])
 refine Ord.ch_turn (v:=undef) 0 hT9.o rfl (by decide) (Or.inl rfl) (by rfl) ?_ ?_
 ·rintro w5 hC5 hA5;simp only [if_true] at hA5;have rr:=hA5.rule 0 rfl;have ff:=hA5.thaw 0 rfl;have f0:=ff 0 (by simp);have f1:=ff 1 (by simp);have f2:=ff 2 (by simp);have f3:=ff 3 (by simp);go_simp;simp only [Ord.LandsIn];have e0:IntKind.i64.wrap ((l[0]'hi0).toNat:Int)=((l[0]'hi0).toNat:Int):=by
   have:=(l[0]'hi0).toNat_lt;rw [wrap_i]; exact w64 ((l[0]'hi0).toNat:Int) (by omega)
  have e17:IntKind.i64.wrap ((l[17]'hi17).toNat:Int)=((l[17]'hi17).toNat:Int):=by
   have:=(l[17]'hi17).toNat_lt;rw [wrap_i]; exact w64 ((l[17]'hi17).toNat:Int) (by omega)
  have hE6:=hA5.put4c 0 rfl (.int .i64 ((l[0]'hi0).toNat:Int)) (.int .u64 (numN (subL l 1):Int)) (.int .u64 (numN (subL l 9):Int)) (.int .i64 ((l[17]'hi17).toNat:Int));rw [e0,e17];exact ⟨trivial,hE6⟩
 try simp only [Act.put,zA,zZ,zS]
 repeat ((first
  | (refine Ord.cv ?_ hT9.o ?_ ?_; rotate_left; (intro w5 hS; skip; go_simp<;>rfl))
  | (refine Ord.co hT9.o ?_));try simp only [Act.put,zA,zZ,zS])
 refine Ord.InText.nil fun w5 hS=>?_;clear hT9;obtain ⟨hC9,hA9⟩:=Ord.chain_end hS;clear hS;simp only [List.length_cons,List.length_nil,Nat.zero_add,Nat.one_ne_zero,if_false] at hA9;have r:=hA9.rule 0 rfl;have hb9:=hA9.below;clear hC9 hE hA9 HG1 HG9;go_wp2_with fail;exact bodyPost_ret (by simp [results,results25,go_sem,r]) rfl ⟨rfl,hb9⟩
end
section
variable {w0 w:World} {L:List Item}
theorem parseANo_o (l:List UInt8) (h:l.length≠10\/1 < (l.getD 1 0).toNat) (hl:l.length<=1000) (w:World) :
  Calls prog 26 #[.string ⟨l.toArray⟩] w fun e w'=>e=.returned (.tuple #[.agg #[.int .i64 0,.bool false,.int .u64 0],.int .i64 4])/\Below w.heap.size w w':=by
 by_cases h10:l.length=10
 ·have hb:(((l.length:Nat):Int) != 10)=false:=by rw [h10]; rfl
  have hi1:1 < l.length:=by omega
  have hg:l.getD 1 0=l[1]'hi1:=by simp [List.getD_eq_getElem?_getD,hi1]
  have hx:1 < (l[1]'hi1).toNat:=by rw [<- hg]; rcases h with h | h; (exact absurd h10 h); exact h
  have hs1:1 < ({ data:=l.toArray }:ByteArray).size:=by simp [ByteArray.size]; omega
  have hga:({ data:=l.toArray }:ByteArray)[1]'hs1=l[1]'hi1:=by simp [ByteArray.getElem_eq_getElem_data]
  have hb2:decide ((1:Int) < (((({ data:=l.toArray }:ByteArray)[1]'hs1).toNat:Nat):Int))=true:=by rw [hga]; simp; omega
  clear h hg hx hga;go_enter func26,ntmps26;go_wp2_with fail;exact bodyPost_ret (by simp [results,results26,go_sem]) rfl ⟨rfl,(Below.refl _ _).alloc (Nat.le_refl _) _⟩
 ·have hb:(((l.length:Nat):Int) != 10)=true:=by simp; omega
  clear h h10;go_enter func26,ntmps26;go_wp2_with fail;exact bodyPost_ret (by simp [results,results26,go_sem]) rfl ⟨rfl,(Below.refl _ _).alloc (Nat.le_refl _) _⟩
theorem parseAYes_o (l:List UInt8) (h:l.length=10) (h1:(l.getD 1 0).toNat<=1) (w:World) :
  Calls prog 26 #[.string ⟨l.toArray⟩] w fun e w'=>e=.returned (.tuple #[.agg #[.int .i64 ((l.getD 0 0).toNat:Int),.bool (decide (((l.getD 1 0).toNat:Int)=1)),.int .u64 (numN (subL l 2):Int)],.int .i64 0])/\Below w.heap.size w w':=by
 have hb:(((l.length:Nat):Int) != 10)=false:=by rw [h]; rfl
 have HG2:Hid (∀ v,Calls prog 64 #[.string ⟨l.toArray⟩,.int .i64 2] v fun e w'=>e=.returned (.int .u64 (numN (subL l 2):Int))/\w'=v):=zH fun v=>get_o l 2 (by omega) (by omega) v;have hi0:0 < l.length:=by omega
 have hi1:1 < l.length:=by omega
 have hg1:l.getD 1 0=l[1]'hi1:=by simp [List.getD_eq_getElem?_getD,hi1]
 have hg0:l.getD 0 0=l[0]'hi0:=by simp [List.getD_eq_getElem?_getD,hi0]
 rw [hg1] at h1 ⊢;rw [hg0];have hs1:1 < ({ data:=l.toArray }:ByteArray).size:=by simp [ByteArray.size]; omega
 have hga:({ data:=l.toArray }:ByteArray)[1]'hs1=l[1]'hi1:=by simp [ByteArray.getElem_eq_getElem_data]
 have hb2:decide ((1:Int) < (((({ data:=l.toArray }:ByteArray)[1]'hs1).toNat:Nat):Int))=false:=by rw [hga]; simp; omega
 have hE:=(Env.start w).box w.heap.size rfl [.int .i64 0,.bool false,.int .u64 0] 57;obtain ⟨B,hB⟩:∃ B,decide ((((l[1]'hi1).toNat:Nat):Int)=1)=B:=⟨_,rfl⟩;have hB2:((((l[1]'hi1).toNat:Nat):Int)==1)=B:=by rw [<- hB]; rfl
 rw [hB];have hs0:0 < ({ data:=l.toArray }:ByteArray).size:=by simp [ByteArray.size]; omega
 have hga0:({ data:=l.toArray }:ByteArray)[0]'hs0=l[0]'hi0:=by simp [ByteArray.getElem_eq_getElem_data]
 have HGA:=zH hga;have HGA0:=zH hga0;clear hg0 hg1 h1 hga hga0;go_enter func26,ntmps26;go_wp2_with fail;generalize w.alloc _=w2 at *;generalize w.heap.size=Y at *;refine Ord.wc [9] (fun v=>True) (fun k w'=>Env w [boxI Y (if k=0 then [.int .i64 0,.bool false,.int .u64 0] else [.int .i64 ((l[0]'hi0).toNat:Int),.bool B,.int .u64 (numN (subL l 2):Int)])] w') trivial hE.drew fun hT9=>?_
 repeat ((first
  | (refine Ord.cv ?_ hT9.o ?_ ?_; rotate_left; (intro w5 hS; skip; go_simp<;>rfl))
  | (refine Ord.co hT9.o ?_)
  | (refine Ord.cc ?_ ?_ ?_ hT9.o ?_ ?_ ?_; rotate_left 3; (intro w5 hS; skip; go_simp; constructor<;>rfl); (intro w5 hS; (first | (with_reducible refine (HG2.out _).mono ?_; rintro e w6 ⟨rfl,rfl⟩; constructor; rfl; exact ⟨trivial,fun _ h=>h⟩)))));try simp only [Act.put,zA,zZ,zS])
 refine Ord.ch_turn (v:=undef) 0 hT9.o rfl (by decide) (Or.inl rfl) (by rfl) ?_ ?_
 ·rintro w5 hC5 hA5;simp only [if_true] at hA5;have rr:=hA5.rule 0 rfl;have ff:=hA5.thaw 0 rfl;have f0:=ff 0 (by simp);have f1:=ff 1 (by simp);have f2:=ff 2 (by simp);go_simp;simp only [Ord.LandsIn];have e0:IntKind.i64.wrap ((l[0]'hi0).toNat:Int)=((l[0]'hi0).toNat:Int):=by
   have:=(l[0]'hi0).toNat_lt;rw [wrap_i]; exact w64 ((l[0]'hi0).toNat:Int) (by omega)
  have hE6:=hA5.put3 0 rfl (.int .i64 ((l[0]'hi0).toNat:Int)) (.bool B) (.int .u64 (numN (subL l 2):Int));rw [HGA.out,HGA0.out,e0,hB2];exact ⟨trivial,hE6⟩
 try simp only [Act.put,zA,zZ,zS]
 repeat ((first
  | (refine Ord.cv ?_ hT9.o ?_ ?_; rotate_left; (intro w5 hS; skip; go_simp<;>rfl))
  | (refine Ord.co hT9.o ?_));try simp only [Act.put,zA,zZ,zS])
 refine Ord.InText.nil fun w5 hS=>?_;clear hT9;obtain ⟨hC9,hA9⟩:=Ord.chain_end hS;clear hS;simp only [List.length_cons,List.length_nil,Nat.zero_add,Nat.one_ne_zero,if_false] at hA9;have r:=hA9.rule 0 rfl;have hb9:=hA9.below;clear hC9 hE hA9 HG2;go_wp2_with fail;exact bodyPost_ret (by simp [results,results26,go_sem,r]) rfl ⟨rfl,hb9⟩
end
structure COk (C:Cf):Prop where
 (s:1<=C.s/\C.s<=8388607)
 (l:1<=C.l/\C.l<=1099511627775)
structure OkF (C:Cf) (f:Mem):Prop where
 (u:∀ x,InU (f x))
 (pool:slotI (f (2,0,0))<=C.s)
 (chain:∀ i,slotI (f (5,i,2))<=C.s)
 (ep:f (1,0,0)<=C.l)
structure OkT (C:Cf) (ds:List Dd) (B:Nat) (T:Th):Prop where
 (e:0<=T.e/\T.e<=C.l)
 (w:InU T.ah/\InU T.an/\InU T.ar)
 (hs:0<=T.hs/\T.hs<=C.s)
 (rs:0<=T.rs/\T.rs<=C.s)
 (ql:∀ x∈T.ql,1<=x.1/\x.1<=C.s/\x.2.2=0)
 (nd:T.nd<=ds.length)
 (len:T.ql.length+(ds.length - T.nd)<=B)
 (done:0<=T.done/\T.done<=B)
 (pc:T.pc=0\/T.pc=1\/T.pc=2\/T.pc=3\/T.pc=4)
 (p1:T.pc=1->T.hs=0)
 (nd1:T.pc≠0->1<=T.nd)
 (apc:T.pc=2->T.apc=1\/T.apc=2\/T.apc=3\/T.apc=4\/T.apc=5\/T.apc=6\/10<=T.apc)
 (low:T.pc=2->T.apc<=10->T.hs=0)
 (adv:T.pc=2->T.apc=1->T.e < C.l)
 (born:T.pc=2->T.apc=10->T.ql≠[])
 (pool:T.pc=2->4<=T.apc->T.apc<=6->1<=slotI T.ah/\slotI T.ah<=C.s/\verI T.ah < C.l)
 (an:slotI T.an<=C.s)
 (rpc:T.pc=3->T.rpc=0\/T.rpc=1)
 (rsp:T.pc=3->1<=T.rs)
 (re:0<=T.re/\T.re<=C.l)
 (gpc:T.gpc<=3)
 (give:T.pc=4->1<=T.gpc->T.ql≠[])
 (ghu:InU T.gh)
 (gh:slotI T.gh<=C.s)
 (gv:T.pc=4->2<=T.gpc->verI T.gh < C.l)
theorem no {a b:Nat} {P:Prop} (h:a=b) (hab:(a==b)=false):P:=by
 simp at hab;exact absurd h hab
theorem slot_next {x s S:Int} (h0:0<=S) (hs:s<=S):slotI (nextW x s)<=S:=by
 have h9:slotI 0=0:=by decide
 unfold nextW
 split
 ·rename_i h;have:=isS_parts h;have hv:=verI_in x
  split
  ·omega
  ·rw [slot_word (isL_mk this.1 this.2 (by omega) (by omega))];exact hs
 ·omega
theorem epI_of {x l:Int} (hx:InU x) (h:x<=l) (hl:l<=1099511627775):epI x=x/\0<=x:=by
 unfold InU at hx;unfold epI;rw [if_pos (by omega)];exact ⟨rfl,by omega⟩
theorem swf_at (f:Mem) (x y:Plc) (o v:Int):swf f x o v y=if y=x/\f x=o then v else f y:=by
 unfold swf upd
 by_cases h:f x=o
 ·rw [if_pos h]
  by_cases hy:y=x
  ·rw [if_pos hy,if_pos ⟨hy,h⟩]
  ·rw [if_neg hy,if_neg (fun h2=>hy h2.1)]
 ·rw [if_neg h,if_neg (fun h2=>h h2.2)]
theorem part_ne (ck e key val lv:Int) (k:Nat):((wordsA ck e key val lv).getD k (0,0)).1≠2:=by
 rw [List.getD_eq_getElem?_getD]
 rcases h:(wordsA ck e key val lv)[k]? with _ | ⟨a,b⟩
 ·simp
 ·have hm:(a,b)∈wordsA ck e key val lv:=List.mem_of_getElem? h;simp only [Option.getD_some];unfold wordsA at hm
  split at hm
  ·simp at hm
   rcases hm with ⟨rfl,rfl⟩ | ⟨rfl,rfl⟩ | ⟨rfl,rfl⟩ | ⟨rfl,rfl⟩<;>decide
  ·split at hm
   ·simp at hm
    rcases hm with ⟨rfl,rfl⟩ | ⟨rfl,rfl⟩ | ⟨rfl,rfl⟩ | ⟨rfl,rfl⟩ | ⟨rfl,rfl⟩<;>decide
   ·simp at hm
    rcases hm with ⟨rfl,rfl⟩ | ⟨rfl,rfl⟩ | ⟨rfl,rfl⟩<;>decide
section
variable {C:Cf} {ds:List Dd} {B:Nat} {T:Th} {f:Mem} {d:Dd}
theorem OkT.more (h:OkT C ds B T):OkT C ds (B+1) T :=
 { h with len:=by have:=h.len; omega,done:=by have:=h.done; constructor<;>omega }
theorem OkF.upd (h:OkF C f) {x:Plc} {v:Int} (h1:x≠(1,0,0)) (h2:x≠(2,0,0)) (h3:∀ i,x=(5,i,2)->slotI v<=C.s) (hu:∀ y,InU (Proofs.YtffncfmciockmaaGreatDoor.upd f x v y)):OkF C (Proofs.YtffncfmciockmaaGreatDoor.upd f x v):=by
 refine ⟨hu,?_,?_,?_⟩
 ·rw [upd_other f v (fun e=>h2 e.symm)]; exact h.pool
 ·intro i
  by_cases hx:(5,i,2)=x
  ·rw [<- hx,upd_same]; exact h3 i hx.symm
  ·rw [upd_other f v hx]; exact h.chain i
 ·rw [upd_other f v (fun e=>h1 e.symm)]; exact h.ep
theorem OkF.swp (h:OkF C f) {o v:Int} (hv:slotI v<=C.s) (hu:∀ y,InU (swf f (2,0,0) o v y)):OkF C (swf f (2,0,0) o v):=by
 refine ⟨hu,?_,?_,?_⟩
 ·rw [swf_at]; split
  ·exact hv
  ·exact h.pool
 ·intro i;rw [swf_at,if_neg (by simp)]; exact h.chain i
 ·rw [swf_at,if_neg (by simp)]; exact h.ep
theorem OkF.swe (h:OkF C f) {o v:Int} (hv:v<=C.l) (hu:∀ y,InU (swf f (1,0,0) o v y)):OkF C (swf f (1,0,0) o v):=by
 refine ⟨hu,?_,?_,?_⟩
 ·rw [swf_at,if_neg (by simp)]; exact h.pool
 ·intro i;rw [swf_at,if_neg (by simp)]; exact h.chain i
 ·rw [swf_at]; split
  ·exact hv
  ·exact h.ep
end
structure LnkF (C:Cf) (f:Mem):Prop where
 (root:slotI (f (4,0,0))<=C.s)
 (link:∀ i,slotI (f (5,i,7))<=C.s)
theorem LnkF.at9 {C:Cf} {f:Mem} (h:LnkF C f) {p:Plc} (hp:p=(4,0,0)\/∃ c,p=(5,c,7)):slotI (f p)<=C.s:=by
 rcases hp with rfl | ⟨c,rfl⟩
 ·exact h.root
 ·exact h.link c
theorem slot_word_le {m:Bool} {s e S:Int} (h0:0<=S) (hs:s<=S):slotI (wordI m s e)<=S:=by
 have hz:slotI 0=0:=by decide
 by_cases h:isL s e=true
 ·rw [slot_word h];exact hs
 ·have hw:wordI m s e=0:=by unfold wordI; rw [if_neg h]
  rw [hw,hz];exact h0
section
variable {C:Cf} {key e:Int} {L:Lm} {f:Mem}
theorem LaneOk.start (h0:0<=C.s):LaneOk C (L0 (4,0,0)):=by
 have hz:slotI 0=0:=by decide
 refine ⟨LmOk.start _,by show Wf (4,0,0); unfold Wf In64; simp,.inl rfl,fun h=>absurd h (by simp [L0]),fun h=>absurd h (by simp [L0]),?_,?_,?_⟩
 ·show slotI 0<=C.s; omega
 ·show slotI 0<=C.s; omega
 ·show (0:Int)<=C.s; omega
theorem LaneOk.come (h:LaneOk C L) {p:Plc} (hp:p=(4,0,0)\/∃ c,p=(5,c,7)) (hwf:Wf p) (h7:L.pc<=7) (h0:0<=C.s) {v:Int} (hv:InU v) (hvs:slotI v<=C.s) (hne:slotI v≠0):LaneOk C { L with p:=p,W:=v,X:=0,C:=slotI v,pc:=3 }:=by
 have hz:slotI 0=0:=by decide
 have hi:=slotI_in v;have hLp:LmOk { L with p:=p }:=⟨h.ok.pc,h.ok.v,h.ok.fd,h.ok.ft,h.ok.x,h.ok.c0,h.ok.W,h.ok.X,h.ok.C⟩;refine ⟨hLp.come h7 v hv,hwf,hp,fun h=>absurd h (by simp),fun _=>?_,hvs,?_,hvs⟩
 ·show 1<=slotI v; omega
 ·show slotI 0<=C.s; omega
theorem LaneOk.comeEnd (h:LaneOk C L) {p:Plc} (hp:p=(4,0,0)\/∃ c,p=(5,c,7)) (hwf:Wf p) (h7:L.pc<=7) (h0:0<=C.s) {v:Int} (hv:InU v) (hvs:slotI v<=C.s):SpotOk C { L with p:=p,W:=v,X:=0,C:=slotI v,pc:=3 }:=by
 have hz:slotI 0=0:=by decide
 refine ⟨hv,by show InU 0; simp [InU],hwf,hp,slotI_in v,fun hf=>?_,hvs,?_,hvs⟩
 ·have h9:L.fd=true:=hf;rw [h.ok.fd h7] at h9;exact absurd h9 (by decide)
 ·show slotI 0<=C.s; omega
theorem LaneOk.spot (h:LaneOk C L) (h6:6<=L.pc):SpotOk C L :=
 ⟨h.ok.W,h.ok.X,h.wf,h.at9,h.ok.C,fun _=>⟨h.c (by omega),h.x h6⟩,h.sw,h.sx,h.cs⟩
theorem cS_ne {v:Int} (h:cS v=0):slotI v≠0:=fun h0=>by rw [cS,if_pos h0] at h; exact absurd h (by decide)
theorem lane_keep (h:LaneOk C L) (hW:∀ x,InU (f x)) (hS:LnkF C f) (h0:0<=C.s):((laneM 0 key false e L f).1=0->LaneOk C (laneM 0 key false e L f).2.1)/\((laneM 0 key false e L f).1=1->SpotOk C (laneM 0 key false e L f).2.1):=by
 have hL:=h.ok;have HK:(laneM 0 key false e L f).1=0->LmOk (laneM 0 key false e L f).2.1:=fun h9=>(lane_ok hL hW h.wf (show (0:Int)<=0/\(0:Int)<=1000000 by omega) h9).1
 rcases hL.pc with hpc | hpc | hpc | hpc | hpc | hpc | hpc | hpc | hpc
 ·have hM:laneM 0 key false e L f=(0,{ L with W:=f L.p,pc:=2 },f):=by simp [laneM,hpc]
  rw [hM];refine ⟨fun h9=>⟨(by have h8:=HK (by rw [hM]); rw [hM] at h8; exact h8),h.wf,h.at9,fun h=>absurd h (by simp),fun h=>absurd h (by simp),hS.at9 h.at9,h.sx,h.cs⟩,fun h9=>absurd h9 (by simp)⟩
 ·by_cases hok:okB (f (1,0,0)) e=true
  ·by_cases hmk:markB L.W=true
   ·have hM:laneM 0 key false e L f=(2,L,f):=by simp [laneM,holdsM,hpc,hok,hmk]
    rw [hM];exact ⟨fun h=>absurd h (by simp),fun h=>absurd h (by simp)⟩
   ·have hM:laneM 0 key false e L f=(cS L.W,{ L with W:=L.W,X:=0,C:=slotI L.W,pc:=3 },f):=by simp [laneM,holdsM,hpc,hok,hmk,comeM_cS]
    rw [hM];exact ⟨fun h9=>h.come h.at9 h.wf (by omega) h0 hL.W h.sw (cS_ne h9),fun _=>h.comeEnd h.at9 h.wf (by omega) h0 hL.W h.sw⟩
  ·have hM:laneM 0 key false e L f=(2,L,f):=by simp [laneM,hpc,hok]
   rw [hM];exact ⟨fun h=>absurd h (by simp),fun h=>absurd h (by simp)⟩
 ·have hM:laneM 0 key false e L f=(0,{ L with X:=f (5,L.C,7),pc:=4 },f):=by simp [laneM,hpc]
  rw [hM];refine ⟨fun h9=>⟨(by have h8:=HK (by rw [hM]); rw [hM] at h8; exact h8),h.wf,h.at9,fun h=>absurd h (by simp),fun _=>h.c (by omega),h.sw,hS.link _,h.cs⟩,fun h9=>absurd h9 (by simp)⟩
 ·by_cases hok:okB (f (1,0,0)) e=true
  ·have hM:laneM 0 key false e L f=(0,{ L with pc:=if markB L.X then 5 else 6 },f):=by simp [laneM,holdsM,hpc,hok]
   rw [hM];refine ⟨fun h9=>⟨(by have h8:=HK (by rw [hM]); rw [hM] at h8; exact h8),h.wf,h.at9,fun h6=>?_,fun _=>h.c (by omega),h.sw,h.sx,h.cs⟩,fun h9=>absurd h9 (by simp)⟩;dsimp only at h6 ⊢;cases hm:markB L.X
   ·rfl
   ·rw [hm] at h6; exact absurd h6 (by decide)
  ·have hM:laneM 0 key false e L f=(2,L,f):=by simp [laneM,hpc,hok]
   rw [hM];exact ⟨fun h=>absurd h (by simp),fun h=>absurd h (by simp)⟩
 ·by_cases heq:f L.p=L.W
  ·have hM:laneM 0 key false e L f=(cS (wordI false (slotI L.X) e),{ L with W:=wordI false (slotI L.X) e,X:=0,C:=slotI (wordI false (slotI L.X) e),pc:=3 },swf f L.p L.W (wordI false (slotI L.X) e)):=by simp [laneM,hpc,heq,comeM_cS]
   rw [hM];have hle:=slot_word_le (m:=false) (e:=e) h0 h.sx;exact ⟨fun h9=>h.come h.at9 h.wf (by omega) h0 (wordI_in _ _ _) hle (cS_ne h9),fun _=>h.comeEnd h.at9 h.wf (by omega) h0 (wordI_in _ _ _) hle⟩
  ·have hM:laneM 0 key false e L f=(2,L,swf f L.p L.W (wordI false (slotI L.X) e)):=by simp [laneM,hpc,heq]
   rw [hM];exact ⟨fun h=>absurd h (by simp),fun h=>absurd h (by simp)⟩
 ·have hM:laneM 0 key false e L f=(0,{ L with K:=f (5,L.C,3),pc:=7 },f):=by simp [laneM,hpc]
  rw [hM];refine ⟨fun h9=>⟨(by have h8:=HK (by rw [hM]); rw [hM] at h8; exact h8),h.wf,h.at9,fun _=>h.x (by omega),fun _=>h.c (by omega),h.sw,h.sx,h.cs⟩,fun h9=>absurd h9 (by simp)⟩
 ·by_cases hok:okB (f (1,0,0)) e=true
  ·by_cases hlt:L.K < key
   ·have hM:laneM 0 key false e L f=(cS L.X,{ L with p:=(5,L.C,7),W:=L.X,X:=0,C:=slotI L.X,pc:=3 },f):=by simp [laneM,holdsM,hpc,hok,hlt,comeM_cS]
    rw [hM];have hwf:Wf (5,L.C,7):=wf_part hL.C (by omega);exact ⟨fun h9=>h.come (.inr ⟨_,rfl⟩) hwf (by omega) h0 hL.X h.sx (cS_ne h9),fun _=>h.comeEnd (.inr ⟨_,rfl⟩) hwf (by omega) h0 hL.X h.sx⟩
   ·by_cases heq:L.K=key
    ·have hM:laneM 0 key false e L f=(1,{ L with fd:=true },f):=by simp [laneM,holdsM,hpc,hok,heq]
     rw [hM];have hsp:=h.spot (by omega);exact ⟨fun h=>absurd h (by simp),fun _=>⟨hsp.W,hsp.X,hsp.wf,hsp.at9,hsp.Cr,fun _=>⟨h.c (by omega),h.x (by omega)⟩,hsp.sw,hsp.sx,hsp.cs⟩⟩
    ·have hM:laneM 0 key false e L f=(1,L,f):=by simp [laneM,holdsM,hpc,hok,hlt,heq]
     rw [hM];exact ⟨fun h=>absurd h (by simp),fun _=>h.spot (by omega)⟩
  ·have hM:laneM 0 key false e L f=(2,L,f):=by simp [laneM,hpc,hok]
   rw [hM];exact ⟨fun h=>absurd h (by simp),fun h=>absurd h (by simp)⟩
 ·have hM:laneM 0 key false e L f=(0,{ L with V:=f (5,L.C,4),pc:=9 },f):=by simp [laneM,hpc]
  rw [hM];refine ⟨fun h9=>⟨(by have h8:=HK (by rw [hM]); rw [hM] at h8; exact h8),h.wf,h.at9,fun _=>h.x (by omega),fun _=>h.c (by omega),h.sw,h.sx,h.cs⟩,fun h9=>absurd h9 (by simp)⟩
 ·by_cases hok:okB (f (1,0,0)) e=true
  ·have hM:laneM 0 key false e L f=(1,L,f):=by simp [laneM,holdsM,hpc,hok]
   rw [hM];exact ⟨fun h=>absurd h (by simp),fun _=>h.spot (by omega)⟩
  ·have hM:laneM 0 key false e L f=(2,L,f):=by simp [laneM,hpc,hok]
   rw [hM];exact ⟨fun h=>absurd h (by simp),fun h=>absurd h (by simp)⟩
theorem search_keep {on:Bool} {r:Int} (h:on=true->LaneOk C L) (hW:∀ x,InU (f x)) (hS:LnkF C f) (h0:0<=C.s):((searchM 0 key false ⟨on,L,e,r⟩ f).1=0->(searchM 0 key false ⟨on,L,e,r⟩ f).2.1.on=true->LaneOk C (searchM 0 key false ⟨on,L,e,r⟩ f).2.1.L)/\((searchM 0 key false ⟨on,L,e,r⟩ f).1=1->SpotOk C (searchM 0 key false ⟨on,L,e,r⟩ f).2.1.L):=by
 cases on
 ·exact ⟨fun _ _=>LaneOk.start h0,fun h=>absurd h (by simp [searchM])⟩
 ·have hk:=lane_keep (key:=key) (e:=e) (h rfl) hW hS h0;have hst:=lane_state 0 key false e L f;have hM:searchM 0 key false ⟨true,L,e,r⟩ f=(if (laneM 0 key false e L f).1=1 then 1 else 0,{ on:=decide ((laneM 0 key false e L f).1≠2),L:=(laneM 0 key false e L f).2.1,e:=e,r:=rollM e L f r },(laneM 0 key false e L f).2.2):=by unfold searchM; rw [if_pos rfl]
  rw [hM];refine ⟨fun h1 h2=>hk.1 ?_,fun h1=>hk.2 ?_⟩
  ·rcases hst with h9 | h9 | h9
   ·exact h9
   ·rw [h9] at h1; exact absurd h1 (by simp)
   ·rw [h9] at h2; exact absurd h2 (by simp)
  ·rcases hst with h9 | h9 | h9
   ·rw [h9] at h1; exact absurd h1 (by simp)
   ·exact h9
   ·rw [h9] at h1; exact absurd h1 (by simp)
end
theorem decP_adv {ql:List Trip} {e l:Int} (h:decP ql e l=1):e < l:=by
 rcases ql with _ | ⟨⟨x,y,z⟩,t⟩
 ·exact no h rfl
 ·simp only [decP] at h
  split at h
  ·exact absurd h (by decide)
  ·split at h
   ·exact absurd h (by decide)
   ·omega
theorem decP_born {ql:List Trip} {e l:Int} (h:decP ql e l=10):ql≠[]:=by
 rintro rfl;exact no h rfl
theorem lastS_in (k n:Nat):lastS k n=0\/lastS k n=1:=by
 unfold lastS
 split
 ·exact .inr rfl
 ·exact .inl rfl
theorem decS_in {ql:List Trip} {e l:Int}:(decP ql e l=0/\decS ql e l=4)\/(decP ql e l≠0/\decS ql e l=0):=by
 unfold decS
 by_cases h:decP ql e l=0
 ·exact .inl ⟨h,if_pos h⟩
 ·exact .inr ⟨h,if_neg h⟩
theorem ql_add {C:Cf} {l:List Trip} {x y:Int} (h:∀ z∈l,1<=z.1/\z.1<=C.s/\z.2.2=0) (h1:1<=x) (h2:x<=C.s):∀ z∈l++[(x,y,0)],1<=z.1/\z.1<=C.s/\z.2.2=0:=by
 intro z hz
 rcases List.mem_append.1 hz with hz | hz
 ·exact h z hz
 ·simp at hz;subst hz;exact ⟨h1,h2,rfl⟩
section
variable {C:Cf} {ds:List Dd} {B:Nat} {T:Th} {f:Mem} {d:Dd}
theorem al_cases (C:Cf) (d:Dd) (T:Th) (f:Mem) (hp:T.pc=2):actM C d T f=({ (allocM C d T f).2.1 with pc:=if (allocM C d T f).1=2 then 1 else if (allocM C d T f).1=0 then 2 else 0,done:=if (allocM C d T f).1=1 then T.done+1 else T.done,full:=(allocM C d T f).1==3 },(allocM C d T f).2.2):=by
 unfold actM;rw [if_neg (by omega),if_pos hp]
theorem act2_ok (hC:COk C) (hF:OkF C f) (hT:OkT C ds B T) (h2:T.pc=2) (hu:∀ x,InU ((actM C d T f).2 x)):OkF C (actM C d T f).2/\OkT C ds (B+1) (actM C d T f).1:=by
 have hp:T.pc≠0:=by omega
 have hm:=hT.more;have hs:=hC.s;have hfu:=hF.u;have hdone:=hT.done;rw [al_cases C d T f h2] at hu ⊢
 rcases hT.apc h2 with ha | ha | ha | ha | ha | ha | ha
 ·have hlow:=hT.low h2 (by omega);have hal:allocM C d T f=(2,T,swf f (1,0,0) T.e (T.e+1)):=by unfold allocM; rw [if_pos ha]
  rw [hal] at hu ⊢;exact ⟨hF.swe (by have:=hT.adv h2 ha; omega) hu,{ hm with pc:=.inr (.inl rfl),p1:=fun _=>hlow,nd1:=fun _=>hT.nd1 hp,apc:=fun h=>no h rfl,low:=fun h=>no h rfl,adv:=fun h=>no h rfl,born:=fun h=>no h rfl,pool:=fun h=>no h rfl,rpc:=fun h=>no h rfl,rsp:=fun h=>no h rfl,give:=fun h=>no h rfl,gv:=fun h=>no h rfl }⟩
 ·have hlow:=hT.low h2 (by omega)
  by_cases hx:C.s<=f (3,0,0)
  ·have hal:allocM C d T f=(0,{ T with apc:=3 },upd f (3,0,0) (IntKind.u64.wrap (f (3,0,0)+1))):=by unfold allocM; rw [if_neg (by omega),if_pos ha,if_pos hx]
   rw [hal] at hu ⊢;exact ⟨hF.upd (by simp) (by simp) (fun i h=>by simp at h) hu,{ hm with pc:=.inr (.inr (.inl rfl)),nd1:=fun _=>hT.nd1 hp,p1:=fun h=>no h rfl,rpc:=fun h=>no h rfl,rsp:=fun h=>no h rfl,give:=fun h=>no h rfl,gv:=fun h=>no h rfl,apc:=fun _=>.inr (.inr (.inl rfl)),low:=fun _ _=>hlow,adv:=fun _ h=>no h rfl,born:=fun _ h=>no h rfl,pool:=fun _ ha hb=>(by have ha':4<=(3:Nat):=ha; have hb':(3:Nat)<=6:=hb; omega) }⟩
  ·have hal:allocM C d T f=(decS (T.ql++[(f (3,0,0)+1,0,0)]) T.e C.l,{ T with ql:=T.ql++[(f (3,0,0)+1,0,0)],apc:=decP (T.ql++[(f (3,0,0)+1,0,0)]) T.e C.l },upd f (3,0,0) (IntKind.u64.wrap (f (3,0,0)+1))):=by unfold allocM; rw [if_neg (by omega),if_pos ha,if_neg hx]
   rw [hal] at hu ⊢;have hf3:0<=f (3,0,0):=(hfu _).1;refine ⟨hF.upd (by simp) (by simp) (fun i h=>by simp at h) hu,?_⟩;clear hu hal;have hq:=ql_add (y:=0) hT.ql (show 1<=f (3,0,0)+1 by omega) (by omega)
   rcases decS_in (ql:=T.ql++[(f (3,0,0)+1,0,0)]) (e:=T.e) (l:=C.l) with ⟨hD,hS⟩ | ⟨hD,hS⟩
   ·rw [hS];exact { hm with ql:=hq,len:=(by have:=hT.len; simp; omega),pc:=.inl rfl,nd1:=fun _=>hT.nd1 hp,p1:=fun h=>no h rfl,apc:=fun h=>no h rfl,low:=fun h=>no h rfl,adv:=fun h=>no h rfl,born:=fun h=>no h rfl,pool:=fun h=>no h rfl,rpc:=fun h=>no h rfl,rsp:=fun h=>no h rfl,give:=fun h=>no h rfl,gv:=fun h=>no h rfl }
   ·rw [hS];refine { hm with ql:=hq,len:=(by have:=hT.len; simp; omega),pc:=.inr (.inr (.inl rfl)),nd1:=fun _=>hT.nd1 hp,p1:=fun h=>no h rfl,rpc:=fun h=>no h rfl,rsp:=fun h=>no h rfl,give:=fun h=>no h rfl,gv:=fun h=>no h rfl,apc:=fun _=>?_,low:=fun _ _=>hlow,adv:=fun _ h=>decP_adv h,born:=fun _ h=>decP_born h,pool:=fun _ ha hb=>?_ }
    ·show decP (T.ql++[(f (3,0,0)+1,0,0)]) T.e C.l=1\/decP (T.ql++[(f (3,0,0)+1,0,0)]) T.e C.l=2\/decP (T.ql++[(f (3,0,0)+1,0,0)]) T.e C.l=3\/decP (T.ql++[(f (3,0,0)+1,0,0)]) T.e C.l=4\/decP (T.ql++[(f (3,0,0)+1,0,0)]) T.e C.l=5\/decP (T.ql++[(f (3,0,0)+1,0,0)]) T.e C.l=6\/10<=decP (T.ql++[(f (3,0,0)+1,0,0)]) T.e C.l
     rcases decP_in (T.ql++[(f (3,0,0)+1,0,0)]) T.e C.l with h | h | h | h<;>omega
    ·have ha':4<=decP (T.ql++[(f (3,0,0)+1,0,0)]) T.e C.l:=ha;have hb':decP (T.ql++[(f (3,0,0)+1,0,0)]) T.e C.l<=6:=hb
     rcases decP_in (T.ql++[(f (3,0,0)+1,0,0)]) T.e C.l with h | h | h | h<;>omega
 ·have hlow:=hT.low h2 (by omega);have hal:allocM C d T f=(poolS (f (2,0,0)) C.l,{ T with ah:=f (2,0,0),apc:=4 },f):=by unfold allocM; rw [if_neg (by omega),if_neg (by omega),if_pos ha]
  rw [hal] at hu ⊢;refine ⟨hF,?_⟩;have hw:InU (f (2,0,0))/\InU T.an/\InU T.ar:=⟨hfu _,hT.w.2⟩
  by_cases q1:slotI (f (2,0,0))=0
  ·rw [show poolS (f (2,0,0)) C.l=3 from if_pos q1];exact { hm with w:=hw,pc:=.inl rfl,nd1:=fun _=>hT.nd1 hp,p1:=fun h=>no h rfl,apc:=fun h=>no h rfl,low:=fun h=>no h rfl,adv:=fun h=>no h rfl,born:=fun h=>no h rfl,pool:=fun h=>no h rfl,rpc:=fun h=>no h rfl,rsp:=fun h=>no h rfl,give:=fun h=>no h rfl,gv:=fun h=>no h rfl }
  ·by_cases q2:C.l<=verI (f (2,0,0))
   ·rw [show poolS (f (2,0,0)) C.l=4 from (if_neg q1).trans (if_pos q2)];exact { hm with w:=hw,pc:=.inl rfl,nd1:=fun _=>hT.nd1 hp,p1:=fun h=>no h rfl,apc:=fun h=>no h rfl,low:=fun h=>no h rfl,adv:=fun h=>no h rfl,born:=fun h=>no h rfl,pool:=fun h=>no h rfl,rpc:=fun h=>no h rfl,rsp:=fun h=>no h rfl,give:=fun h=>no h rfl,gv:=fun h=>no h rfl }
   ·rw [show poolS (f (2,0,0)) C.l=0 from (if_neg q1).trans (if_neg q2)];exact { hm with w:=hw,pc:=.inr (.inr (.inl rfl)),nd1:=fun _=>hT.nd1 hp,p1:=fun h=>no h rfl,rpc:=fun h=>no h rfl,rsp:=fun h=>no h rfl,give:=fun h=>no h rfl,gv:=fun h=>no h rfl,apc:=fun _=>.inr (.inr (.inr (.inl rfl))),low:=fun _ _=>hlow,adv:=fun _ h=>no h rfl,born:=fun _ h=>no h rfl,pool:=fun _ _ _=>⟨(by have:=slotI_in (f (2,0,0)); show 1<=slotI (f (2,0,0)); omega),hF.pool,(by show verI (f (2,0,0)) < C.l; omega)⟩ }
 ·have hlow:=hT.low h2 (by omega);have hal:allocM C d T f=(0,{ T with an:=f (5,slotI T.ah,2),apc:=5 },f):=by unfold allocM; rw [if_neg (by omega),if_neg (by omega),if_neg (by omega),if_pos ha]
  rw [hal] at hu ⊢;exact ⟨hF,{ hm with w:=⟨hT.w.1,hfu _,hT.w.2.2⟩,an:=hF.chain _,pc:=.inr (.inr (.inl rfl)),nd1:=fun _=>hT.nd1 hp,p1:=fun h=>no h rfl,rpc:=fun h=>no h rfl,rsp:=fun h=>no h rfl,give:=fun h=>no h rfl,gv:=fun h=>no h rfl,apc:=fun _=>.inr (.inr (.inr (.inr (.inl rfl)))),low:=fun _ _=>hlow,adv:=fun _ h=>no h rfl,born:=fun _ h=>no h rfl,pool:=fun _ _ _=>hT.pool h2 (by omega) (by omega) }⟩
 ·have hlow:=hT.low h2 (by omega);have hal:allocM C d T f=(0,{ T with ar:=f (5,slotI T.ah,1),apc:=6 },f):=by unfold allocM; rw [if_neg (by omega),if_neg (by omega),if_neg (by omega),if_neg (by omega),if_pos ha]
  rw [hal] at hu ⊢;exact ⟨hF,{ hm with w:=⟨hT.w.1,hT.w.2.1,hfu _⟩,pc:=.inr (.inr (.inl rfl)),nd1:=fun _=>hT.nd1 hp,p1:=fun h=>no h rfl,rpc:=fun h=>no h rfl,rsp:=fun h=>no h rfl,give:=fun h=>no h rfl,gv:=fun h=>no h rfl,apc:=fun _=>.inr (.inr (.inr (.inr (.inr (.inl rfl))))),low:=fun _ _=>hlow,adv:=fun _ h=>no h rfl,born:=fun _ h=>no h rfl,pool:=fun _ _ _=>hT.pool h2 (by omega) (by omega) }⟩
 ·have hlow:=hT.low h2 (by omega);have hpl:=hT.pool h2 (by omega) (by omega)
  by_cases hx:f (2,0,0)=T.ah
  ·have hal:allocM C d T f=(decS (T.ql++[(slotI T.ah,epI T.ar,0)]) T.e C.l,{ T with ql:=T.ql++[(slotI T.ah,epI T.ar,0)],apc:=decP (T.ql++[(slotI T.ah,epI T.ar,0)]) T.e C.l },swf f (2,0,0) T.ah (nextW T.ah (slotI T.an))):=by unfold allocM; rw [if_neg (by omega),if_neg (by omega),if_neg (by omega),if_neg (by omega),if_neg (by omega),if_pos ha,if_pos hx]
   rw [hal] at hu ⊢;refine ⟨hF.swp (slot_next (by omega) hT.an) hu,?_⟩;clear hu hal;have hq:=ql_add (y:=epI T.ar) hT.ql hpl.1 hpl.2.1
   rcases decS_in (ql:=T.ql++[(slotI T.ah,epI T.ar,0)]) (e:=T.e) (l:=C.l) with ⟨hD,hS⟩ | ⟨hD,hS⟩
   ·rw [hS];exact { hm with ql:=hq,len:=(by have:=hT.len; simp; omega),pc:=.inl rfl,nd1:=fun _=>hT.nd1 hp,p1:=fun h=>no h rfl,apc:=fun h=>no h rfl,low:=fun h=>no h rfl,adv:=fun h=>no h rfl,born:=fun h=>no h rfl,pool:=fun h=>no h rfl,rpc:=fun h=>no h rfl,rsp:=fun h=>no h rfl,give:=fun h=>no h rfl,gv:=fun h=>no h rfl }
   ·rw [hS];refine { hm with ql:=hq,len:=(by have:=hT.len; simp; omega),pc:=.inr (.inr (.inl rfl)),nd1:=fun _=>hT.nd1 hp,p1:=fun h=>no h rfl,rpc:=fun h=>no h rfl,rsp:=fun h=>no h rfl,give:=fun h=>no h rfl,gv:=fun h=>no h rfl,apc:=fun _=>?_,low:=fun _ _=>hlow,adv:=fun _ h=>decP_adv h,born:=fun _ h=>decP_born h,pool:=fun _ ha hb=>?_ }
    ·show decP (T.ql++[(slotI T.ah,epI T.ar,0)]) T.e C.l=1\/decP (T.ql++[(slotI T.ah,epI T.ar,0)]) T.e C.l=2\/decP (T.ql++[(slotI T.ah,epI T.ar,0)]) T.e C.l=3\/decP (T.ql++[(slotI T.ah,epI T.ar,0)]) T.e C.l=4\/decP (T.ql++[(slotI T.ah,epI T.ar,0)]) T.e C.l=5\/decP (T.ql++[(slotI T.ah,epI T.ar,0)]) T.e C.l=6\/10<=decP (T.ql++[(slotI T.ah,epI T.ar,0)]) T.e C.l
     rcases decP_in (T.ql++[(slotI T.ah,epI T.ar,0)]) T.e C.l with h | h | h | h<;>omega
    ·have ha':4<=decP (T.ql++[(slotI T.ah,epI T.ar,0)]) T.e C.l:=ha;have hb':decP (T.ql++[(slotI T.ah,epI T.ar,0)]) T.e C.l<=6:=hb
     rcases decP_in (T.ql++[(slotI T.ah,epI T.ar,0)]) T.e C.l with h | h | h | h<;>omega
  ·have hal:allocM C d T f=(0,{ T with apc:=3 },swf f (2,0,0) T.ah (nextW T.ah (slotI T.an))):=by unfold allocM; rw [if_neg (by omega),if_neg (by omega),if_neg (by omega),if_neg (by omega),if_neg (by omega),if_pos ha,if_neg hx]
   rw [hal] at hu ⊢;exact ⟨hF.swp (slot_next (by omega) hT.an) hu,{ hm with pc:=.inr (.inr (.inl rfl)),nd1:=fun _=>hT.nd1 hp,p1:=fun h=>no h rfl,rpc:=fun h=>no h rfl,rsp:=fun h=>no h rfl,give:=fun h=>no h rfl,gv:=fun h=>no h rfl,apc:=fun _=>.inr (.inr (.inl rfl)),low:=fun _ _=>hlow,adv:=fun _ h=>no h rfl,born:=fun _ h=>no h rfl,pool:=fun _ ha hb=>(by have ha':4<=(3:Nat):=ha; have hb':(3:Nat)<=6:=hb; omega) }⟩
 ·by_cases h10:T.apc=10
  ·have hal:allocM C d T f=(lastS 0 (wordsA C.k T.e d.key d.val (IntKind.u64.wrap d.lv)).length,{ T with ql:=T.ql.tail,hs:=(T.ql.headD t0).1,apc:=11 },upd f (5,(T.ql.headD t0).1,((wordsA C.k T.e d.key d.val (IntKind.u64.wrap d.lv)).getD (T.apc - 10) (0,0)).1) ((wordsA C.k T.e d.key d.val (IntKind.u64.wrap d.lv)).getD (T.apc - 10) (0,0)).2):=by unfold allocM; rw [if_neg (by omega),if_neg (by omega),if_neg (by omega),if_neg (by omega),if_neg (by omega),if_neg (by omega)]; dsimp only; rw [if_pos h10]
   rw [hal] at hu ⊢;obtain ⟨x,t,hxt⟩:∃ x t,T.ql=x::t:=by
    rcases hq:T.ql with _ | ⟨x,t⟩
    ·exact absurd hq (hT.born h2 h10)
    ·exact ⟨x,t,rfl⟩
   have hpn:=part_ne C.k T.e d.key d.val (IntKind.u64.wrap d.lv) (T.apc - 10);refine ⟨hF.upd (by simp) (by simp) (fun i h=>by simp at h; exact absurd h.2 hpn) hu,?_⟩;have hxx:=hT.ql x (by rw [hxt]; simp);have hqt:∀ z∈T.ql.tail,1<=z.1/\z.1<=C.s/\z.2.2=0:=fun z hz=>hT.ql z (List.mem_of_mem_tail hz);have hhs:0<=(T.ql.headD t0).1/\(T.ql.headD t0).1<=C.s:=by rw [hxt]; exact ⟨by show 0<=x.1; omega,hxx.2.1⟩
   have hln:T.ql.tail.length+(ds.length - T.nd)<=B+1:=by have:=hT.len; simp; omega
   rcases lastS_in 0 (wordsA C.k T.e d.key d.val (IntKind.u64.wrap d.lv)).length with h | h<;>rw [h]
   ·exact { hm with hs:=hhs,ql:=hqt,len:=hln,pc:=.inr (.inr (.inl rfl)),nd1:=fun _=>hT.nd1 hp,p1:=fun h=>no h rfl,rpc:=fun h=>no h rfl,rsp:=fun h=>no h rfl,give:=fun h=>no h rfl,gv:=fun h=>no h rfl,apc:=fun _=>.inr (.inr (.inr (.inr (.inr (.inr (by show (10:Nat)<=11; decide)))))),low:=fun _ h=>absurd h (by show ¬ (11:Nat)<=10; decide),adv:=fun _ h=>no h rfl,born:=fun _ h=>no h rfl,pool:=fun _ ha hb=>(by have ha':4<=(11:Nat):=ha; have hb':(11:Nat)<=6:=hb; omega) }
   ·exact { hm with hs:=hhs,ql:=hqt,len:=hln,done:=(by show 0<=T.done+1/\T.done+1<=((B+1:Nat):Int); omega),pc:=.inl rfl,nd1:=fun _=>hT.nd1 hp,p1:=fun h=>no h rfl,apc:=fun h=>no h rfl,low:=fun h=>no h rfl,adv:=fun h=>no h rfl,born:=fun h=>no h rfl,pool:=fun h=>no h rfl,rpc:=fun h=>no h rfl,rsp:=fun h=>no h rfl,give:=fun h=>no h rfl,gv:=fun h=>no h rfl }
  ·have hal:allocM C d T f=(lastS (T.apc - 10) (wordsA C.k T.e d.key d.val (IntKind.u64.wrap d.lv)).length,{ T with apc:=T.apc+1 },upd f (5,T.hs,((wordsA C.k T.e d.key d.val (IntKind.u64.wrap d.lv)).getD (T.apc - 10) (0,0)).1) ((wordsA C.k T.e d.key d.val (IntKind.u64.wrap d.lv)).getD (T.apc - 10) (0,0)).2):=by unfold allocM; rw [if_neg (by omega),if_neg (by omega),if_neg (by omega),if_neg (by omega),if_neg (by omega),if_neg (by omega)]; dsimp only; rw [if_neg h10]
   rw [hal] at hu ⊢;have hpn:=part_ne C.k T.e d.key d.val (IntKind.u64.wrap d.lv) (T.apc - 10);refine ⟨hF.upd (by simp) (by simp) (fun i h=>by simp at h; exact absurd h.2 hpn) hu,?_⟩
   rcases lastS_in (T.apc - 10) (wordsA C.k T.e d.key d.val (IntKind.u64.wrap d.lv)).length with h | h<;>rw [h]
   ·exact { hm with pc:=.inr (.inr (.inl rfl)),nd1:=fun _=>hT.nd1 hp,p1:=fun h=>no h rfl,rpc:=fun h=>no h rfl,rsp:=fun h=>no h rfl,give:=fun h=>no h rfl,gv:=fun h=>no h rfl,apc:=fun _=>.inr (.inr (.inr (.inr (.inr (.inr (by show 10<=T.apc+1; omega)))))),low:=fun _ h=>(by have h':T.apc+1<=10:=h; omega),adv:=fun _ h=>(by have h':T.apc+1=1:=h; omega),born:=fun _ h=>(by have h':T.apc+1=10:=h; omega),pool:=fun _ ha hb=>(by have ha':4<=(T.apc+1:Nat):=ha; have hb':(T.apc+1:Nat)<=6:=hb; omega) }
   ·exact { hm with done:=(by show 0<=T.done+1/\T.done+1<=((B+1:Nat):Int); omega),pc:=.inl rfl,nd1:=fun _=>hT.nd1 hp,p1:=fun h=>no h rfl,apc:=fun h=>no h rfl,low:=fun h=>no h rfl,adv:=fun h=>no h rfl,born:=fun h=>no h rfl,pool:=fun h=>no h rfl,rpc:=fun h=>no h rfl,rsp:=fun h=>no h rfl,give:=fun h=>no h rfl,gv:=fun h=>no h rfl }
theorem act3_ok (hC:COk C) (hF:OkF C f) (hT:OkT C ds B T) (h3:T.pc=3) (hu:∀ x,InU ((actM C d T f).2 x)):OkF C (actM C d T f).2/\OkT C ds (B+1) (actM C d T f).1:=by
 have hp:T.pc≠0:=by omega
 have hm:=hT.more;have hs:=hC.s;have hact:actM C d T f=({ (retireM T f).2.1 with pc:=if (retireM T f).1=0 then 3 else 0,full:=false },(retireM T f).2.2):=by
  unfold actM;rw [if_neg (by omega),if_neg (by omega),if_pos h3]
 rw [hact] at hu ⊢
 rcases hT.rpc h3 with hr | hr
 ·have hal:retireM T f=(0,{ T with re:=f (1,0,0),rpc:=1 },f):=by unfold retireM; rw [if_pos hr]
  rw [hal] at hu ⊢;exact ⟨hF,{ hm with re:=⟨(hF.u _).1,hF.ep⟩,pc:=.inr (.inr (.inr (.inl rfl))),nd1:=fun _=>hT.nd1 hp,p1:=fun h=>no h rfl,apc:=fun h=>no h rfl,low:=fun h=>no h rfl,adv:=fun h=>no h rfl,born:=fun h=>no h rfl,pool:=fun h=>no h rfl,give:=fun h=>no h rfl,gv:=fun h=>no h rfl,rpc:=fun _=>.inr rfl,rsp:=fun _=>hT.rsp h3 }⟩
 ·have hal:retireM T f=(1,{ T with ql:=T.ql++[(T.rs,epI T.re,0)] },upd f (5,T.rs,1) T.re):=by unfold retireM; rw [if_neg (by omega)]
  rw [hal] at hu ⊢;exact ⟨hF.upd (by simp) (by simp) (fun i h=>by simp at h) hu,{ hm with ql:=ql_add hT.ql (hT.rsp h3) hT.rs.2,len:=(by have:=hT.len; simp; omega),pc:=.inl rfl,nd1:=fun _=>hT.nd1 hp,p1:=fun h=>no h rfl,apc:=fun h=>no h rfl,low:=fun h=>no h rfl,adv:=fun h=>no h rfl,born:=fun h=>no h rfl,pool:=fun h=>no h rfl,rpc:=fun h=>no h rfl,rsp:=fun h=>no h rfl,give:=fun h=>no h rfl,gv:=fun h=>no h rfl }⟩
end
structure KOk (C:Cf) (ds:List Dd) (B:Nat) (d:Dd) (K:Kt):Prop where
 (t:OkT C ds B K.T)
 (tp:K.T.pc=if K.pc=2 then 2 else if K.pc=7 then 3 else if K.pc=8 then 4 else 0)
 (pc:K.pc<=8)
 (da:1<=K.pc->K.pc<=7->K.err=0/\K.dn=false)
 (s1:K.pc=1->K.on=true->LaneOk C K.L)
 (s2:K.pc=6->K.on2=true->LaneOk C K.L2)
 (sp:3<=K.pc->K.pc<=7->SpotOk C K.L)
 (un:4<=K.pc->K.pc<=7->markB K.L.X=false/\1<=K.L.C/\d.ok=2)
 (ins:K.pc=2\/K.pc=3->d.ok=1)
 (lk:K.pc=3->K.T.hs≠0)
 (ho:K.T.hs≠0->(K.pc=1\/K.pc=2\/K.pc=3)/\d.ok=1)
 (kk:K.pc=2->K.T.apc<=10\/K.T.apc - 10 < (WD C d K.T).length)
 (nd:K.pc≠0->1<=K.T.nd)
section
variable {C:Cf} {ds:List Dd} {B:Nat} {T:Th} {d:Dd} {K:Kt} {f:Mem}
theorem OkT.idle (h:OkT C ds B T) {x:Int} {y:Bool} (hx:0<=x/\x<=B):OkT C ds B { T with pc:=0,done:=x,full:=y } :=
 { e:=h.e,w:=h.w,hs:=h.hs,rs:=h.rs,ql:=h.ql,nd:=h.nd,len:=h.len,done:=hx,pc:=.inl rfl,p1:=fun h=>no h rfl,nd1:=fun h=>absurd rfl h,apc:=fun h=>no h rfl,low:=fun h=>no h rfl,adv:=fun h=>no h rfl,born:=fun h=>no h rfl,pool:=fun h=>no h rfl,an:=h.an,rpc:=fun h=>no h rfl,rsp:=fun h=>no h rfl,re:=h.re,gpc:=h.gpc,give:=fun h=>no h rfl,ghu:=h.ghu,gh:=h.gh,gv:=fun h=>no h rfl }
theorem OkT.epoch (h:OkT C ds B T) (h0:T.pc=0) {x:Int} (hx:0<=x/\x<=C.l):OkT C ds B { T with e:=x } :=
 { e:=hx,w:=h.w,hs:=h.hs,rs:=h.rs,ql:=h.ql,nd:=h.nd,len:=h.len,done:=h.done,pc:=h.pc,p1:=h.p1,nd1:=h.nd1,apc:=h.apc,low:=h.low,adv:=fun h9=>no (h0.symm.trans h9) rfl,born:=h.born,pool:=h.pool,an:=h.an,rpc:=h.rpc,rsp:=h.rsp,re:=h.re,gpc:=h.gpc,give:=h.give,ghu:=h.ghu,gh:=h.gh,gv:=h.gv }
theorem OkT.same {T1:Th} (h:OkT C ds B T) (hp:T.pc=T1.pc) {x:Nat} {y:Int} {z:Bool} (he:T={ T1 with pc:=x,done:=y,full:=z }) (hd:0<=T1.done/\T1.done<=B):OkT C ds B T1:=by
 subst he;have hx:x=T1.pc:=hp;subst hx;exact { e:=h.e,w:=h.w,hs:=h.hs,rs:=h.rs,ql:=h.ql,nd:=h.nd,len:=h.len,done:=hd,pc:=h.pc,p1:=h.p1,nd1:=h.nd1,apc:=h.apc,low:=h.low,adv:=h.adv,born:=h.born,pool:=h.pool,an:=h.an,rpc:=h.rpc,rsp:=h.rsp,re:=h.re,gpc:=h.gpc,give:=h.give,ghu:=h.ghu,gh:=h.gh,gv:=h.gv }
theorem search_mem (key:Int) {on:Bool} {L:Lm} {e r:Int} (h:on=true->L.p=(4,0,0)\/∃ c,L.p=(5,c,7)) (f:Mem):(searchM 0 key false ⟨on,L,e,r⟩ f).2.2=f\/∃ p v,(p=(4,0,0)\/∃ c,p=(5,c,7))/\(searchM 0 key false ⟨on,L,e,r⟩ f).2.2=upd f p v/\v=wordI false (slotI L.X) e:=by
 cases on
 ·exact .inl rfl
 ·have hM:(searchM 0 key false ⟨true,L,e,r⟩ f).2.2=(laneM 0 key false e L f).2.2:=by unfold searchM; rw [if_pos rfl]
  rw [hM];unfold laneM
  repeat' split
  all_goals first
   | exact .inl rfl
   | (rename_i h9; refine .inr ⟨L.p,wordI false (slotI L.X) e,h rfl,?_,rfl⟩; show swf f L.p L.W _=_; unfold swf; rw [if_pos h9])
   | (rename_i h9; refine .inl ?_; show swf f L.p L.W _=_; unfold swf; rw [if_neg h9])
theorem LnkF.upd {p:Plc} {v:Int} (h:LnkF C f) (hv:slotI v<=C.s):LnkF C (upd f p v):=by
 refine ⟨?_,fun i=>?_⟩
 ·by_cases hp:p=(4,0,0)
  ·subst hp; rw [upd_same]; exact hv
  ·rw [upd_other f v (fun e=>hp e.symm)]; exact h.root
 ·by_cases hp:p=(5,i,7)
  ·subst hp; rw [upd_same]; exact hv
  ·rw [upd_other f v (fun e=>hp e.symm)]; exact h.link i
theorem LnkF.updo {p:Plc} {v:Int} (h:LnkF C f) (h1:p≠(4,0,0)) (h2:∀ i,p≠(5,i,7)):LnkF C (Go.Proofs.YtffncfmciockmaaGreatDoor.upd f p v):=by
 refine ⟨?_,fun i=>?_⟩
 ·rw [upd_other f v (fun e=>h1 e.symm)]; exact h.root
 ·rw [upd_other f v (fun e=>h2 i e.symm)]; exact h.link i
theorem LnkF.swf {p:Plc} {o v:Int} (h:LnkF C f) (hv:slotI v<=C.s):LnkF C (swf f p o v):=by
 unfold Go.Proofs.YtffncfmciockmaaGreatDoor.swf
 split
 ·exact h.upd hv
 ·exact h
theorem OkF.updL {p:Plc} {v:Int} (h:OkF C f) (hp:p=(4,0,0)\/∃ c,p=(5,c,7)) (hu:∀ x,InU (Go.Proofs.YtffncfmciockmaaGreatDoor.upd f p v x)):OkF C (Go.Proofs.YtffncfmciockmaaGreatDoor.upd f p v):=by
 have h1:p≠(2,0,0):=by rcases hp with rfl | ⟨c,rfl⟩<;>simp
 have h2:∀ i,p≠(5,i,2):=by intro i; rcases hp with rfl | ⟨c,rfl⟩<;>simp
 have h3:p≠(1,0,0):=by rcases hp with rfl | ⟨c,rfl⟩<;>simp
 refine ⟨hu,?_,fun i=>?_,?_⟩
 ·rw [upd_other f v (fun e=>h1 e.symm)]; exact h.pool
 ·rw [upd_other f v (fun e=>h2 i e.symm)]; exact h.chain i
 ·rw [upd_other f v (fun e=>h3 e.symm)]; exact h.ep
theorem OkF.swfL {p:Plc} {o v:Int} (h:OkF C f) (hp:p=(4,0,0)\/∃ c,p=(5,c,7)) (hu:∀ x,InU (Go.Proofs.YtffncfmciockmaaGreatDoor.swf f p o v x)):OkF C (Go.Proofs.YtffncfmciockmaaGreatDoor.swf f p o v):=by
 unfold Go.Proofs.YtffncfmciockmaaGreatDoor.swf at hu ⊢
 split
 ·rename_i h9;rw [if_pos h9] at hu;exact h.updL hp hu
 ·exact h
end
theorem part_ne7 (ck e key val lv:Int) (k:Nat):((wordsA ck e key val lv).getD k (0,0)).1≠7:=by
 rw [List.getD_eq_getElem?_getD]
 rcases h:(wordsA ck e key val lv)[k]? with _ | ⟨a,b⟩
 ·simp
 ·have hm:(a,b)∈wordsA ck e key val lv:=List.mem_of_getElem? h;simp only [Option.getD_some];unfold wordsA at hm
  split at hm
  ·simp at hm
   rcases hm with ⟨rfl,rfl⟩ | ⟨rfl,rfl⟩ | ⟨rfl,rfl⟩ | ⟨rfl,rfl⟩<;>decide
  ·split at hm
   ·simp at hm
    rcases hm with ⟨rfl,rfl⟩ | ⟨rfl,rfl⟩ | ⟨rfl,rfl⟩ | ⟨rfl,rfl⟩ | ⟨rfl,rfl⟩<;>decide
   ·simp at hm
    rcases hm with ⟨rfl,rfl⟩ | ⟨rfl,rfl⟩ | ⟨rfl,rfl⟩<;>decide
section
variable {C:Cf} {ds:List Dd} {B:Nat} {T:Th} {d:Dd} {K:Kt} {f:Mem}
theorem LnkF.swfo {p:Plc} {o v:Int} (h:LnkF C f) (h1:p≠(4,0,0)) (h2:∀ i,p≠(5,i,7)):LnkF C (Go.Proofs.YtffncfmciockmaaGreatDoor.swf f p o v):=by
 unfold Go.Proofs.YtffncfmciockmaaGreatDoor.swf
 split
 ·exact h.updo h1 h2
 ·exact h
theorem allocM_lnk (h:LnkF C f):LnkF C (allocM C d T f).2.2:=by
 unfold allocM;dsimp only
 repeat' split
 all_goals first
  | exact h
  | exact h.updo (by simp) (fun i h9=>part_ne7 _ _ _ _ _ _ (congrArg (fun p:Plc=>p.2.2) h9))
  | exact h.updo (by simp) (by simp)
  | exact h.swfo (by simp) (by simp)
theorem retireM_lnk (h:LnkF C f):LnkF C (retireM T f).2.2:=by
 unfold retireM
 split
 ·exact h
 ·exact h.updo (by simp) (by simp)
theorem allocM_kk (h:T.apc<=10\/T.apc - 10 < (WD C d T).length) (h0:(allocM C d T f).1=0):(allocM C d T f).2.1.apc<=10\/(allocM C d T f).2.1.apc - 10 < (WD C d (allocM C d T f).2.1).length:=by
 have hl:=WD_len C d T;have hd:=fun q=>decP_in q T.e C.l;have he:WD C d (allocM C d T f).2.1=WD C d T:=by unfold WD; rw [(allocM_keep C d T f).1]
 rw [he]
 revert h0
 unfold allocM;dsimp only
 repeat' split
 all_goals intro h0
 all_goals dsimp only at h0 ⊢
 all_goals first
  | omega
  | (left; rcases hd (T.ql++[(f (3,0,0)+1,0,0)]) with h9 | h9 | h9 | h9<;>omega)
  | (left; rcases hd (T.ql++[(slotI T.ah,epI T.ar,0)]) with h9 | h9 | h9 | h9<;>omega)
  | (right; have h8:(WD C d T).length=(wordsA C.k T.e d.key d.val (IntKind.u64.wrap d.lv)).length:=rfl; unfold lastS at h0; split at h0<;>omega)
theorem allocM_hs (h:T.apc<=10->T.hs=0) (h0:(allocM C d T f).1=3\/(allocM C d T f).1=4\/(allocM C d T f).1=2):(allocM C d T f).2.1.hs=0:=by
 revert h0
 unfold allocM;dsimp only
 repeat' split
 all_goals intro h0
 all_goals dsimp only at h0 ⊢
 all_goals first
  | exact h (by omega)
  | (exfalso; unfold lastS at h0; split at h0<;>omega)
theorem retireM_keep:(retireM T f).2.1.hs=T.hs/\(retireM T f).2.1.nd=T.nd/\(retireM T f).2.1.done=T.done/\(retireM T f).2.1.full=T.full/\(retireM T f).2.1.pc=T.pc/\((retireM T f).1=0\/(retireM T f).1=1):=by
 unfold retireM
 split<;>simp
theorem OkT.noH (h:OkT C ds B T) (h0:T.pc=0) (hC:COk C):OkT C ds B { T with hs:=0 } :=
 { h with hs:=(by have:=hC.s; show (0:Int)<=0/\(0:Int)<=C.s; omega),p1:=fun _=>rfl,low:=fun _ _=>rfl }
theorem OkT.drop (h:OkT C ds B T) (h0:T.pc=0) (hC:COk C):OkT C ds (B+1) { T with ql:=dropQ T.hs T.ql,hs:=0 }:=by
 have hm:=h.more;have h64:=h.hs;refine { hm with hs:=(by have:=hC.s; show (0:Int)<=0/\(0:Int)<=C.s; omega),p1:=fun _=>rfl,low:=fun _ _=>rfl,ql:=?_,len:=?_,born:=fun h9=>no (h0.symm.trans h9) rfl,give:=fun h9=>no (h0.symm.trans h9) rfl }
 ·show ∀ x∈dropQ T.hs T.ql,_;unfold dropQ
  split
  ·exact h.ql
  ·exact ql_add h.ql (by omega) h64.2
 ·have:=h.len;show (dropQ T.hs T.ql).length+(ds.length - T.nd)<=B+1;unfold dropQ
  split
  ·omega
  ·simp; omega
theorem OkT.alloc (h:OkT C ds B T) (hh:T.hs=0) (hn:1<=T.nd) (hC:COk C) (hD:decP T.ql T.e C.l≠0):OkT C ds B { T with pc:=2,apc:=decP T.ql T.e C.l,ah:=0,an:=0,ar:=0 }:=by
 have hz:slotI 0=0:=by decide
 have hu0:InU 0:=by unfold InU; omega
 have hs:=hC.s;refine { h with w:=⟨hu0,hu0,hu0⟩,an:=(by show slotI 0<=C.s; omega),pc:=.inr (.inr (.inl rfl)),nd1:=fun _=>hn,p1:=fun h=>no h rfl,rpc:=fun h=>no h rfl,rsp:=fun h=>no h rfl,give:=fun h=>no h rfl,gv:=fun h=>no h rfl,apc:=fun _=>?_,low:=fun _ _=>hh,adv:=fun _ h=>decP_adv h,born:=fun _ h=>decP_born h,pool:=fun _ ha hb=>?_ }
 ·show decP T.ql T.e C.l=1\/decP T.ql T.e C.l=2\/decP T.ql T.e C.l=3\/decP T.ql T.e C.l=4\/decP T.ql T.e C.l=5\/decP T.ql T.e C.l=6\/10<=decP T.ql T.e C.l
  rcases decP_in T.ql T.e C.l with h | h | h | h<;>omega
 ·have ha':4<=decP T.ql T.e C.l:=ha;have hb':decP T.ql T.e C.l<=6:=hb
  rcases decP_in T.ql T.e C.l with h | h | h | h<;>omega
theorem OkT.retire (h:OkT C ds B T) (hn:1<=T.nd) (hC:COk C) {c:Int} (h1:1<=c) (h2:c<=C.s):OkT C ds B { T with pc:=3,rs:=c,rpc:=0,re:=0 } :=
 { h with rs:=⟨Int.le_trans (by decide) h1,h2⟩,re:=(by have:=hC.l; show (0:Int)<=0/\(0:Int)<=C.l; omega),pc:=.inr (.inr (.inr (.inl rfl))),nd1:=fun _=>hn,p1:=fun h=>no h rfl,apc:=fun h=>no h rfl,low:=fun h=>no h rfl,adv:=fun h=>no h rfl,born:=fun h=>no h rfl,pool:=fun h=>no h rfl,rpc:=fun _=>.inl rfl,rsp:=fun _=>h1,give:=fun h=>no h rfl,gv:=fun h=>no h rfl }
theorem OkT.begin4 (h:OkT C ds B T) (hlt:T.nd < ds.length) (hC:COk C):OkT C ds B { T with pc:=4,nd:=T.nd+1,gpc:=0,gh:=0,gg:=0 }:=by
 have hl:=h.len;have hs:=hC.s;exact { h with nd:=hlt,len:=(by show T.ql.length+(ds.length - (T.nd+1))<=B; omega),pc:=.inr (.inr (.inr (.inr rfl))),nd1:=fun _=>Nat.le_add_left 1 T.nd,p1:=fun h=>no h rfl,apc:=fun h=>no h rfl,low:=fun h=>no h rfl,adv:=fun h=>no h rfl,born:=fun h=>no h rfl,pool:=fun h=>no h rfl,rpc:=fun h=>no h rfl,rsp:=fun h=>no h rfl,gpc:=Nat.zero_le 3,ghu:=(by show InU 0; unfold InU; omega),gh:=(by show slotI 0<=C.s; rw [show slotI 0=0 from by decide]; omega),give:=fun _ h=>(Nat.not_succ_le_zero _ h).elim,gv:=fun _ h=>(Nat.not_succ_le_zero _ h).elim }
theorem OkT.begin0 (h:OkT C ds B T) (hlt:T.nd < ds.length):OkT C ds B { T with nd:=T.nd+1 }:=by
 have hl:=h.len;exact { h with nd:=hlt,len:=(by show T.ql.length+(ds.length - (T.nd+1))<=B; omega),nd1:=fun _=>Nat.le_add_left 1 T.nd }
theorem KOk.fin {on laid on2 dn:Bool} {L L2:Lm} {err r:Int} (h:OkT C ds B T) (h0:T.pc=0) (hh:T.hs=0):KOk C ds B d ⟨T,0,on,L,laid,on2,L2,err,dn,r⟩ where
 t:=h
 tp:=h0
 pc:=Nat.zero_le 8
 da:=fun h9=>absurd h9 (by show ¬ 1<=0; decide)
 s1:=fun h9=>no h9 rfl
 s2:=fun h9=>no h9 rfl
 sp:=fun h9=>absurd h9 (by show ¬ 3<=0; decide)
 un:=fun h9=>absurd h9 (by show ¬ 4<=0; decide)
 ins:=fun h9=>by rcases h9 with h9 | h9<;>exact no h9 rfl
 lk:=fun h9=>no h9 rfl
 ho:=fun h9=>absurd hh h9
 kk:=fun h9=>no h9 rfl
 nd:=fun h9=>absurd rfl h9
theorem KOk.find {laid on2:Bool} {L2:Lm} {r:Int} (h:OkT C ds B T) (h0:T.pc=0) (hh:T.hs≠0->d.ok=1) (hn:1<=T.nd) (on:Bool) (L:Lm) (hL:on=true->LaneOk C L):KOk C ds B d ⟨T,1,on,L,laid,on2,L2,0,false,r⟩ where
 t:=h
 tp:=h0
 pc:=by show 1<=8; decide
 da:=fun _ _=>⟨rfl,rfl⟩
 s1:=fun _ h=>hL h
 s2:=fun h9=>no h9 rfl
 sp:=fun h9=>absurd h9 (by show ¬ 3<=1; decide)
 un:=fun h9=>absurd h9 (by show ¬ 4<=1; decide)
 ins:=fun h9=>by rcases h9 with h9 | h9<;>exact no h9 rfl
 lk:=fun h9=>no h9 rfl
 ho:=fun h9=>⟨.inl rfl,hh h9⟩
 kk:=fun h9=>no h9 rfl
 nd:=fun _=>hn
end
end
end Go.Proofs.YtffncfmciockmaaGreatDoor
