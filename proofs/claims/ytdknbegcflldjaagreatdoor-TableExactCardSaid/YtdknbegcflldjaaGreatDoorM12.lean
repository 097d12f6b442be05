/- What is proved on the way to the statement, part 12: contracts of the functions, among other things in memory. -/
import Derived.Test.YtdknbegcflldjaaGreatDoorM11

open _root_.Go.Proofs.Tryz
set_option maxRecDepth 100000
set_option maxHeartbeats 25600000
namespace Go.Proofs.YtdknbegcflldjaaGreatDoor
section
open Go.RowKit Go.Maps
section
variable {w0 w:World} {R L:List Item} {thr c u q dn dc nd:Nat} {dA:Option Addr} {s b h l e r hs hi st:Int} {busy:Bool} {po pq pg ph:Value} {ds:List Dd}
theorem beginNo_b (hlt:¬ nd < dn) (hE:Env w0 (boxI thr (thk c u dA dn dc nd busy po pq pg ph st)::L) w) :
  Calls prog 38 #[.pointer (some ⟨thr,0,none⟩)] w fun o w'=>o=.returned (.bool false)/\Env w0 (boxI thr (thk c u dA dn dc nd busy po pq pg ph st)::L) w':=by
 have hb1:decide (((dn:Nat):Int)<=(nd:Int))=true:=by simp; omega
 have hb2:decide ((nd:Int) < ((dn:Nat):Int))=false:=by simp; omega
 have hb3:((dn:Nat):Int)<=(nd:Int):=by omega
 unfold thk at hE ⊢;clear hlt;go_enter func38,ntmps38;go_wp2_with fail;refine wp_text (S:=(Env w0 (boxI thr [.pointer (some ⟨c,0,none⟩),.pointer (some ⟨u,0,none⟩),.slice dA dn dc,.int .i64 (nd:Int),.bool busy,po,pq,pg,ph,.int .i64 st]::L))) (by kernel_rfl) (by kernel_rfl) hE.drew (fun hT=>?_);have hT9:=zH hT;clear hT
 repeat ((first
  | (refine text_value (v:=?_) hT9.o (by rfl) ?_ ?_; rotate_left; (intro w5 hS; have r:=hS.rule 0 rfl; go_simp<;>rfl))
  | (refine text_off hT9.o (by rfl) ?_)
  | (refine text_call (v:=?_) (f:=?_) (args:=?_) hT9.o (by rfl) ?_ ?_ ?_; rotate_left 3; (intro w5 hS; have r:=hS.rule 0 rfl; go_simp; constructor<;>rfl); (intro w5 hS; (first | fail))));try simp only [Act.put,zA,zZ,zS])
 refine InText.nil fun w5 hS5=>?_;clear hT9;clear hE;go_wp2_with fail;go_ret;exact ⟨rfl,hS5⟩
theorem beginYes_b (i:Nat) {rt:Int} (hd:OsAt w0 R dA ds) (hR:∀ a∈R,a∈L) (hdn:dn=ds.length) (hlt:nd < ds.length) (hdl:ds.length<=1000) {d:Dd} (hdd:ds.getD nd default=d) (h8:d.ok≠8) (hk:InU d.key) (hrt:bkI 2 s b h l d.key=rt) (h3:opI 2 s b h l d.ok d.key d.val d.lv=0) (hm:L[i]?=some (coreI c 2 s b h l e r hs hi q)) (hE:Env w0 (boxI thr (thk c u dA dn dc nd busy po pq pg ph st)::L) w) :
  Calls prog 38 #[.pointer (some ⟨thr,0,none⟩)] w fun o w'=>o=.returned (.bool true)/\∃ o9 b1 b2 sb q9,Env w0 (boxI q9 (rtC d.ok d.key d.val d.lv 0 none none none none 0 false 0)::boxI o9 (opT c d.ok d.key d.val d.lv rt (cvP b1 b2) 0 (.pointer (some ⟨sb,0,none⟩)) 0 false 0)::boxI b1 [mvL 132 sb]::boxI b2 [mvL 133 o9]::boxI sb (srC c rt d.key true (.pointer none))::boxI thr (thk c u dA dn dc (nd+1) true (.pointer (some ⟨o9,0,none⟩)) (.pointer (some ⟨q9,0,none⟩)) (.pointer none) ph st)::L) w':=by
 obtain ⟨kk,kd,key,val,lv⟩:=d;dsimp only at h8 h3 hk hrt ⊢;subst hrt;have hb1:decide (((dn:Nat):Int)<=(nd:Int))=false:=by simp; omega
 have hb2:decide ((nd:Int) < ((dn:Nat):Int))=true:=by simp; omega
 have hb3:(nd:Int) < ((dn:Nat):Int):=by omega
 have hb4:¬ ((dn:Nat):Int)<=(nd:Int):=by omega
 have hge1:(0:Int)<=(nd:Int):=by omega
 have hk8:(kd==8)=false:=by simpa using h8
 obtain ⟨nd1,hnd1⟩:∃ z:Int,z=(nd:Int)+1:=⟨_,rfl⟩;have hw1:wrap64 ((nd:Int)+1)=nd1:=by rw [hnd1]; exact w64 _ (by omega)
 rw [<- hnd1];obtain ⟨g,off,rfl,hc⟩:=rowO hd nd hlt;rw [hdd] at hc;unfold encOp at hc;dsimp only at hc;have HC:=zH hc;have HR:=zH hR;have HNEW:=zH fun (P:List Item) (v:World) (hv:Env w0 (P++L) v)=>newYes_t (c:=c) (e:=e) (r:=r) (hs:=hs) (hi:=hi) (q:=q) (s:=s) (b:=b) (h:=h) (l:=l) (P.length+i) kd key val lv hk h8 h3 (by rw [List.getElem?_append_right (by omega)]; rw [Nat.add_sub_cancel_left]; exact hm) hv;unfold thk at hE ⊢;generalize bkI 2 s b h l key=rt at HNEW ⊢;clear hlt hc hd hdd hdl hdn hR hm h8 h3 hk hnd1;go_enter func38,ntmps38;go_wp2_with fail;refine wp_text (S:=(Env w0 (boxI thr [.pointer (some ⟨c,0,none⟩),.pointer (some ⟨u,0,none⟩),.slice (some ⟨g,off,none⟩) dn dc,.int .i64 (nd:Int),.bool busy,po,pq,pg,ph,.int .i64 st]::L))) (by kernel_rfl) (by kernel_rfl) hE.drew (fun hT=>?_);have hT9:=zH hT;clear hT
 repeat ((first
  | (refine text_value (v:=?_) hT9.o (by rfl) ?_ ?_; rotate_left; (intro w5 hS; have r:=hS.rule 0 rfl; go_simp<;>rfl))
  | (refine text_off hT9.o (by rfl) ?_)
  | (refine text_call (v:=?_) (f:=?_) (args:=?_) hT9.o (by rfl) ?_ ?_ ?_; rotate_left 3; (intro w5 hS; have r:=hS.rule 0 rfl; go_simp; constructor<;>rfl); (intro w5 hS; (first | fail))));try simp only [Act.put,zA,zZ,zS])
 refine InText.nil fun w5 hS5=>?_;clear hT9;clear hE;go_wp2_with fail;refine OrdF.wp_float [?_,?_,?_,?_,?_,?_,?_,?_,?_,?_,OrdF.Ptr,?_] [11] 10 (fun v=>KR w0 R v/\Blk 0 v thr [.pointer (some ⟨c,0,none⟩),.pointer (some ⟨u,0,none⟩),.slice (some ⟨g,off,none⟩) dn dc,.int .i64 (nd:Int),.bool busy,po,pq,pg,ph,.int .i64 st]) (OrdF.AF w0 [.int .i64 0,.int .u64 0,.int .u64 0,.int .i64 0] (OrdF.Sta [fun N9 zs=>N9=(boxI thr [.pointer (some ⟨c,0,none⟩),.pointer (some ⟨u,0,none⟩),.slice (some ⟨g,off,none⟩) dn dc,.int .i64 (nd:Int),.bool busy,po,pq,pg,ph,.int .i64 st]::L)/\zs=[.int .i64 0,.int .u64 0,.int .u64 0,.int .i64 0],fun N9 zs=>N9=(boxI thr [.pointer (some ⟨c,0,none⟩),.pointer (some ⟨u,0,none⟩),.slice (some ⟨g,off,none⟩) dn dc,.int .i64 (nd:Int),.bool busy,po,pq,pg,ph,.int .i64 st]::L)/\zs=[.int .i64 kd,.int .u64 key,.int .u64 val,.int .i64 lv]])) (by kernel_rfl) (by kernel_rfl) (by kernel_rfl) ⟨hS5.drew.kr (fun a ha=>by simp [HR.out a ha]),hS5.drew.get 0 rfl⟩ ⟨_,_,⟨_,rfl,rfl,rfl⟩,.inl ⟨rfl,rfl,hS5.drew⟩⟩ (fun hT=>?_);rotate_left 11;have hT9:=zH hT;clear hT
 repeat ((first
  | (focus (refine OrdF.in_value (v:=?_) hT9.o (by decide) (by decide) ?_ (by rfl) ?_ ?_; rotate_left 2; (intro w5 hS; have r:=hS.2.rule; have rc9:=HC.out _ hS.1; have c0:=rc9 0 _ rfl; have c1:=rc9 1 _ rfl; have c2:=rc9 2 _ rfl; have c3:=rc9 3 _ rfl; clear rc9; simp only [Nat.add_zero] at c0; go_simp<;>rfl); rotate_right; (focus rfl)))
  | (focus (refine OrdF.in_off hT9.o (by decide) (by decide) ?_ (by rfl) ?_; (focus rfl))));try simp only [Act.put,zA,zZ,zS])
 refine OrdF.in_float OrdF.Ptr (.pointer (some ⟨0,0,none⟩)) ⟨0,rfl⟩ hT9.o rfl (by decide) ?_ (by rfl) ?_ ?_
 ·rfl
 ·intro w5 κs5 hC5 hA5;go_simp;simp only [Ord3.Lands];exact ⟨⟨_,rfl⟩,⟨hC5.1.more _,hC5.2.more _⟩,hA5.up _⟩
 rintro _ ⟨Z,rfl⟩
 try simp only [Act.put,zA,zZ,zS]
 refine OrdF.in_turn_late (by kernel_rfl) (by decide) (by decide) (fun u=>u=undef) (undef) rfl hT9.o rfl (by decide) (by rfl) ?_ (.inl rfl) (by rfl) ?_ ?_
 ·rfl
 ·rintro w5 hC5 ⟨M5,z5,⟨P5,hP5,hM5⟩,⟨hn5,_⟩ | ⟨n5,hn5,hE5⟩⟩
  ·cases hn5
  cases hn5;cases hP5;obtain ⟨rfl,rfl⟩:=hM5;have r:=hE5.rule 0 rfl; have ff:=hE5.thaw 0 rfl; have f0:=ff 0 (by simp); have f1:=ff 1 (by simp); have f2:=ff 2 (by simp); have f3:=ff 3 (by simp); clear ff;go_simp;have hE6:=hE5.put4c 0 rfl (.int .i64 kd) (.int .u64 key) (.int .u64 val) (.int .i64 lv); exact ⟨rfl,⟨hE6.kr (fun a ha=>by simp [HR.out a ha]),hE6.get 1 rfl⟩,_,_,⟨_,rfl,rfl,rfl⟩,.inr ⟨_,rfl,hE6⟩⟩
 rintro _ rfl
 try simp only [Act.put,zA,zZ,zS]
 refine OrdF.in_nil rfl (by decide) (by decide) ?_;rintro w5 hC5 ⟨M5,z5,⟨P5,hP5,hM5⟩,⟨hn5,_⟩ | ⟨n5,hn5,hE5⟩⟩
 ·cases hn5
 cases hn5;cases hP5;obtain ⟨rfl,rfl⟩:=hM5;clear hT9;clear hC5 hS5;have rt:=hE5.rule 1 rfl;have ff:=hE5.thaw 1 rfl;have f3:=ff 3 (by simp);have f4:=ff 4 (by simp);have f5:=ff 5 (by simp);have f7:=ff 7 (by simp);have rZ:=hE5.rule 0 rfl
 go_upto_region 11 with fail
 have hE6:=(((hE5.put 1 rfl (j:=3) (by simp) (.int .i64 nd1)).put 1 rfl (j:=4) (by simp) (.bool true)).put 1 rfl (j:=5) (by simp) (.pointer none)).put 1 rfl (j:=7) (by simp) (.pointer none);simp only [zS,zZ] at hE6;generalize World.setCell _ _ _=w9 at *;replace hE6:Env w0 (boxI Z [.int .i64 kd,.int .u64 key,.int .u64 val,.int .i64 lv]::boxI thr [.pointer (some ⟨c,0,none⟩),.pointer (some ⟨u,0,none⟩),.slice (some ⟨g,off,none⟩) dn dc,.int .i64 nd1,.bool true,.pointer none,pq,.pointer none,ph,.int .i64 st]::L) w9:=hE6;clear hE5 rt ff f3 f4 f5 f7 rZ;refine Ord3.wp_chain [?_,?_,?_,?_,?_,?_,?_,?_,?_,?_] [6,9] (fun v=>Blk 0 v Z [.int .i64 kd,.int .u64 key,.int .u64 val,.int .i64 lv]/\v.cell? ⟨thr,0,none⟩=some (.pointer (some ⟨c,0,none⟩))) (Ord3.Stage fun κs=>[Env w0 (boxI Z [.int .i64 kd,.int .u64 key,.int .u64 val,.int .i64 lv]::boxI thr [.pointer (some ⟨c,0,none⟩),.pointer (some ⟨u,0,none⟩),.slice (some ⟨g,off,none⟩) dn dc,.int .i64 nd1,.bool true,.pointer none,pq,.pointer none,ph,.int .i64 st]::L),fun v=>∃ o9,κs.getD 0 undef=.pointer (some ⟨o9,0,none⟩)/\∃ b1 b2 sb,Env w0 (boxI o9 (opT c kd key val lv rt (cvP b1 b2) 0 (.pointer (some ⟨sb,0,none⟩)) 0 false 0)::boxI b1 [mvL 132 sb]::boxI b2 [mvL 133 o9]::boxI sb (srC c rt key true (.pointer none))::boxI Z [.int .i64 kd,.int .u64 key,.int .u64 val,.int .i64 lv]::boxI thr [.pointer (some ⟨c,0,none⟩),.pointer (some ⟨u,0,none⟩),.slice (some ⟨g,off,none⟩) dn dc,.int .i64 nd1,.bool true,.pointer none,pq,.pointer none,ph,.int .i64 st]::L) v,fun v=>∃ o9,κs.getD 0 undef=.pointer (some ⟨o9,0,none⟩)/\∃ b1 b2 sb,Env w0 (boxI o9 (opT c kd key val lv rt (cvP b1 b2) 0 (.pointer (some ⟨sb,0,none⟩)) 0 false 0)::boxI b1 [mvL 132 sb]::boxI b2 [mvL 133 o9]::boxI sb (srC c rt key true (.pointer none))::boxI Z [.int .i64 kd,.int .u64 key,.int .u64 val,.int .i64 lv]::boxI thr [.pointer (some ⟨c,0,none⟩),.pointer (some ⟨u,0,none⟩),.slice (some ⟨g,off,none⟩) dn dc,.int .i64 nd1,.bool true,(.pointer (some ⟨o9,0,none⟩)),pq,.pointer none,ph,.int .i64 st]::L) v]) (by kernel_rfl) (by kernel_rfl) (by kernel_rfl) ⟨hE6.drew.get 0 rfl,hE6.drew.rule 1 rfl 0⟩ ⟨_,rfl,hE6.drew⟩ (fun hT=>?_);rotate_left 10;have hT9:=zH hT;clear hT
 repeat ((first
  | (focus (refine Ord3.in_value (v:=?_) hT9.o (by decide) ?_ (by rfl) ?_ ?_; rotate_left 2; (intro w5 hS; have r0:=Blk.rule hS.1; have r1:=hS.2; go_simp<;>rfl); rotate_right; (focus rfl)))
  | (focus (refine Ord3.in_off hT9.o (by decide) ?_ (by rfl) ?_; (focus rfl))));try simp only [Act.put,zA,zZ,zS])
 refine Ord3.in_turn (fun u=>∃ z,u=.pointer (some ⟨z,0,none⟩)) _ ⟨0,rfl⟩ hT9.o rfl (by decide) (by rfl) ?_ (Or.inl rfl) (by rfl) ?_ ?_
 ·rfl
 ·rintro v7 hC7 ⟨P7,hP7,hA7⟩;cases hP7;go_simp;simp only [Ord3.Lands];refine (HNEW.out [_,_] v7 hA7).mono ?_;rintro o v8 ⟨o9,b1,b2,sb,rfl,hX8⟩;exact ⟨_,rfl,⟨_,rfl⟩,⟨hX8.get 4 rfl,hX8.rule 5 rfl 0⟩,_,rfl,o9,rfl,b1,b2,sb,hX8⟩
 rintro _ ⟨x8,rfl⟩
 try simp only [Act.put,zA,zZ,zS]
 repeat ((first
  | (focus (refine Ord3.in_value (v:=?_) hT9.o (by decide) ?_ (by rfl) ?_ ?_; rotate_left 2; (intro w5 hS; have r0:=Blk.rule hS.1; have r1:=hS.2; go_simp<;>rfl); rotate_right; (focus rfl)))
  | (focus (refine Ord3.in_off hT9.o (by decide) ?_ (by rfl) ?_; (focus rfl))));try simp only [Act.put,zA,zZ,zS])
 refine Ord3.in_turn (fun u=>u=undef) _ rfl hT9.o rfl (by decide) (by rfl) ?_ (Or.inr ⟨_,6,[],rfl,by kernel_rfl,by kernel_rfl,rfl⟩) (by rfl) ?_ ?_
 ·rfl
 ·rintro v7 hC7 ⟨P7,hP7,hA7⟩;cases hP7;obtain ⟨o9,he,b1,b2,sb,hA7⟩:=hA7;cases he;have ft:=hA7.thaw 5 rfl 5 (by simp);have rt:=hA7.rule 5 rfl;go_simp;simp only [Ord3.Lands];have hX9:=hA7.put 5 rfl (j:=5) (by simp) (.pointer (some ⟨x8,0,none⟩))
  first | exact ⟨rfl,⟨hX9.get 4 rfl,hX9.rule 5 rfl 0⟩,_,rfl,x8,rfl,b1,b2,sb,hX9⟩ | exact ⟨trivial,⟨hX9.get 4 rfl,hX9.rule 5 rfl 0⟩,_,rfl,x8,rfl,b1,b2,sb,hX9⟩
 rintro _ rfl
 try simp only [Act.put,zA,zZ,zS]
 refine Ord3.in_nil rfl ?_;rintro v9 hC9 ⟨P9,hP9,hA9⟩;cases hP9;obtain ⟨o9,he,b1,b2,sb,hA9⟩:=hA9;cases he;clear hT9 hC9 hE6;have rt:=hA9.rule 5 rfl;have rZ:=hA9.rule 4 rfl;have hB9:=hA9.box v9.heap.size rfl (rtC kd key val lv 0 none none none none 0 false 0) 150;have rt8:=hB9.rule 6 rfl;have fu:=hB9.thaw 6 rfl 6 (by simp);have hQ9:=hB9.put 6 rfl (j:=6) (by simp) (.pointer (some ⟨v9.heap.size,0,none⟩));unfold rtC at rt8 fu;clear hA9 hB9;go_wp2_with fail;go_ret;refine ⟨rfl,x8,b1,b2,sb,v9.heap.size,?_⟩;have hF:=hQ9.perm (show List.Perm _ (boxI Z [.int .i64 kd,.int .u64 key,.int .u64 val,.int .i64 lv]::_) from List.perm_middle (l₁:=[_,_,_,_,_]));exact hF.sub (.cons _ (List.Sublist.refl _))
theorem beginGive_b (hd:OsAt w0 R dA ds) (hR:∀ a∈R,a∈L) (hdn:dn=ds.length) (hlt:nd < ds.length) (hdl:ds.length<=1000) {d:Dd} (hdd:ds.getD nd default=d) (h8:d.ok=8) (hE:Env w0 (boxI thr (thk c u dA dn dc nd busy po pq pg ph st)::L) w) :
  Calls prog 38 #[.pointer (some ⟨thr,0,none⟩)] w fun o w'=>o=.returned (.bool true)/\∃ x y,Env w0 (boxI y (rgv 0 0 0)::boxI x (gvv c (nxG x 0) 0 0)::boxI thr (thk c u dA dn dc (nd+1) true (.pointer none) pq (.pointer (some ⟨x,0,none⟩)) (.pointer (some ⟨y,0,none⟩)) st)::L) w':=by
 obtain ⟨kk,kd,key,val,lv⟩:=d;dsimp only at h8 ⊢;subst h8;have hb1:decide (((dn:Nat):Int)<=(nd:Int))=false:=by simp; omega
 have hb2:decide ((nd:Int) < ((dn:Nat):Int))=true:=by simp; omega
 have hb3:(nd:Int) < ((dn:Nat):Int):=by omega
 have hb4:¬ ((dn:Nat):Int)<=(nd:Int):=by omega
 have hge1:(0:Int)<=(nd:Int):=by omega
 obtain ⟨nd1,hnd1⟩:∃ z:Int,z=(nd:Int)+1:=⟨_,rfl⟩;have hw1:wrap64 ((nd:Int)+1)=nd1:=by rw [hnd1]; exact w64 _ (by omega)
 rw [<- hnd1];obtain ⟨g,off,rfl,hc⟩:=rowO hd nd hlt;rw [hdd] at hc;unfold encOp at hc;dsimp only at hc;have HC:=zH hc;have HR:=zH hR;unfold thk at hE ⊢;clear hlt hc hd hdd hdl hdn hR hnd1;go_enter func38,ntmps38;go_wp2_with fail;refine wp_text (S:=(Env w0 (boxI thr [.pointer (some ⟨c,0,none⟩),.pointer (some ⟨u,0,none⟩),.slice (some ⟨g,off,none⟩) dn dc,.int .i64 (nd:Int),.bool busy,po,pq,pg,ph,.int .i64 st]::L))) (by kernel_rfl) (by kernel_rfl) hE.drew (fun hT=>?_);have hT9:=zH hT;clear hT
 repeat ((first
  | (refine text_value (v:=?_) hT9.o (by rfl) ?_ ?_; rotate_left; (intro w5 hS; have r:=hS.rule 0 rfl; go_simp<;>rfl))
  | (refine text_off hT9.o (by rfl) ?_)
  | (refine text_call (v:=?_) (f:=?_) (args:=?_) hT9.o (by rfl) ?_ ?_ ?_; rotate_left 3; (intro w5 hS; have r:=hS.rule 0 rfl; go_simp; constructor<;>rfl); (intro w5 hS; (first | fail))));try simp only [Act.put,zA,zZ,zS])
 refine InText.nil fun w5 hS5=>?_;clear hT9;clear hE;go_wp2_with fail;refine OrdF.wp_float [?_,?_,?_,?_,?_,?_,?_,?_,?_,?_,OrdF.Ptr,?_] [11] 10 (fun v=>KR w0 R v/\Blk 0 v thr [.pointer (some ⟨c,0,none⟩),.pointer (some ⟨u,0,none⟩),.slice (some ⟨g,off,none⟩) dn dc,.int .i64 (nd:Int),.bool busy,po,pq,pg,ph,.int .i64 st]) (OrdF.AF w0 [.int .i64 0,.int .u64 0,.int .u64 0,.int .i64 0] (OrdF.Sta [fun N9 zs=>N9=(boxI thr [.pointer (some ⟨c,0,none⟩),.pointer (some ⟨u,0,none⟩),.slice (some ⟨g,off,none⟩) dn dc,.int .i64 (nd:Int),.bool busy,po,pq,pg,ph,.int .i64 st]::L)/\zs=[.int .i64 0,.int .u64 0,.int .u64 0,.int .i64 0],fun N9 zs=>N9=(boxI thr [.pointer (some ⟨c,0,none⟩),.pointer (some ⟨u,0,none⟩),.slice (some ⟨g,off,none⟩) dn dc,.int .i64 (nd:Int),.bool busy,po,pq,pg,ph,.int .i64 st]::L)/\zs=[Value.int .i64 8,.int .u64 key,.int .u64 val,.int .i64 lv]])) (by kernel_rfl) (by kernel_rfl) (by kernel_rfl) ⟨hS5.drew.kr (fun a ha=>by simp [HR.out a ha]),hS5.drew.get 0 rfl⟩ ⟨_,_,⟨_,rfl,rfl,rfl⟩,.inl ⟨rfl,rfl,hS5.drew⟩⟩ (fun hT=>?_);rotate_left 11;have hT9:=zH hT;clear hT
 repeat ((first
  | (focus (refine OrdF.in_value (v:=?_) hT9.o (by decide) (by decide) ?_ (by rfl) ?_ ?_; rotate_left 2; (intro w5 hS; have r:=hS.2.rule; have rc9:=HC.out _ hS.1; have c0:=rc9 0 _ rfl; have c1:=rc9 1 _ rfl; have c2:=rc9 2 _ rfl; have c3:=rc9 3 _ rfl; clear rc9; simp only [Nat.add_zero] at c0; go_simp<;>rfl); rotate_right; (focus rfl)))
  | (focus (refine OrdF.in_off hT9.o (by decide) (by decide) ?_ (by rfl) ?_; (focus rfl))));try simp only [Act.put,zA,zZ,zS])
 refine OrdF.in_float OrdF.Ptr (.pointer (some ⟨0,0,none⟩)) ⟨0,rfl⟩ hT9.o rfl (by decide) ?_ (by rfl) ?_ ?_
 ·rfl
 ·intro w5 κs5 hC5 hA5;go_simp;simp only [Ord3.Lands];exact ⟨⟨_,rfl⟩,⟨hC5.1.more _,hC5.2.more _⟩,hA5.up _⟩
 rintro _ ⟨Z,rfl⟩
 try simp only [Act.put,zA,zZ,zS]
 refine OrdF.in_turn_late (by kernel_rfl) (by decide) (by decide) (fun u=>u=undef) (undef) rfl hT9.o rfl (by decide) (by rfl) ?_ (.inl rfl) (by rfl) ?_ ?_
 ·rfl
 ·rintro w5 hC5 ⟨M5,z5,⟨P5,hP5,hM5⟩,⟨hn5,_⟩ | ⟨n5,hn5,hE5⟩⟩
  ·cases hn5
  cases hn5;cases hP5;obtain ⟨rfl,rfl⟩:=hM5;have r:=hE5.rule 0 rfl; have ff:=hE5.thaw 0 rfl; have f0:=ff 0 (by simp); have f1:=ff 1 (by simp); have f2:=ff 2 (by simp); have f3:=ff 3 (by simp); clear ff;go_simp;have hE6:=hE5.put4c 0 rfl (Value.int .i64 8) (.int .u64 key) (.int .u64 val) (.int .i64 lv); exact ⟨rfl,⟨hE6.kr (fun a ha=>by simp [HR.out a ha]),hE6.get 1 rfl⟩,_,_,⟨_,rfl,rfl,rfl⟩,.inr ⟨_,rfl,hE6⟩⟩
 rintro _ rfl
 try simp only [Act.put,zA,zZ,zS]
 refine OrdF.in_nil rfl (by decide) (by decide) ?_;rintro w5 hC5 ⟨M5,z5,⟨P5,hP5,hM5⟩,⟨hn5,_⟩ | ⟨n5,hn5,hE5⟩⟩
 ·cases hn5
 cases hn5;cases hP5;obtain ⟨rfl,rfl⟩:=hM5;clear hT9;clear hC5 hS5;have rt:=hE5.rule 1 rfl;have ff:=hE5.thaw 1 rfl;have f3:=ff 3 (by simp);have f4:=ff 4 (by simp);have f5:=ff 5 (by simp);have f7:=ff 7 (by simp);have rZ:=hE5.rule 0 rfl
 go_upto_region 9 with fail
 have hE6:=(((hE5.put 1 rfl (j:=3) (by simp) (.int .i64 nd1)).put 1 rfl (j:=4) (by simp) (.bool true)).put 1 rfl (j:=5) (by simp) (.pointer none)).put 1 rfl (j:=7) (by simp) (.pointer none);simp only [zS,zZ] at hE6;generalize World.setCell _ _ _=w9 at *;replace hE6:Env w0 (boxI Z [Value.int .i64 8,.int .u64 key,.int .u64 val,.int .i64 lv]::boxI thr [.pointer (some ⟨c,0,none⟩),.pointer (some ⟨u,0,none⟩),.slice (some ⟨g,off,none⟩) dn dc,.int .i64 nd1,.bool true,.pointer none,pq,.pointer none,ph,.int .i64 st]::L) w9:=hE6;clear hE5 rt ff f3 f4 f5 f7 rZ;have HXX:=zH (new_g (c:=c) hE6);have rt0:=hE6.rule 1 rfl;clear hE6;go_wp2_with fail;refine HXX.out.mono ?_;rintro o w8 ⟨x8,rfl,hE8⟩;clear rt0 HXX;have rt:=hE8.rule 2 rfl;have ft:=hE8.thaw 2 rfl 7 (by simp);have hP9:=hE8.put 2 rfl (j:=7) (by simp) (.pointer (some ⟨x8,0,none⟩));have rt9:=hP9.rule 2 rfl;have hB9:=hP9.box w8.heap.size (by simp) (rgv 0 0 0) 141;have rt8:=hB9.rule 3 rfl;have fu:=hB9.thaw 3 rfl 8 (by simp);have hQ9:=hB9.put 3 rfl (j:=8) (by simp) (.pointer (some ⟨w8.heap.size,0,none⟩));unfold rgv at rt8 fu;clear hE8 hP9 hB9;go_wp2_with fail;go_ret;refine ⟨rfl,x8,w8.heap.size,?_⟩;exact hQ9.sub (.cons_cons _ (.cons_cons _ (.cons _ (List.Sublist.refl _))))
end
section
variable {w0 w:World} {L:List Item} {thr c u p m o9 q9 dn dc:Nat} {nd:Int} {dA:Option Addr} {st s:Int} {ph:Value} {Q1 Q2:List Item->Prop}
def Ended (L:List Item) (c o9 q9:Nat):Prop:=∃ (i j:Nat) (kd key val lv:Int) (rt:Int) (nx:Value) (s9:Int) (sp:Value) (pc:Int) (ps pa pl pu:Option Addr) (er:Int) (dn9:Bool) (vl:Int),L[i]?=some (boxI o9 (opT c kd key val lv rt nx s9 sp er dn9 vl))/\L[j]?=some (boxI q9 (rtC kd key val lv pc ps pa pl pu er dn9 vl))
theorem stepOp_b (hE:Env w0 (boxI thr (thk c u dA dn dc nd true (.pointer (some ⟨o9,0,none⟩)) (.pointer (some ⟨q9,0,none⟩)) (.pointer none) ph st)::L) w)
  (hO:∀ v,Env w0 (boxI thr (thk c u dA dn dc nd true (.pointer (some ⟨o9,0,none⟩)) (.pointer (some ⟨q9,0,none⟩)) (.pointer none) ph 0)::L) v->Calls prog 33 #[.pointer (some ⟨o9,0,none⟩),.iface 26 (.pointer (some ⟨p,0,none⟩))] v fun e v'=>e=.returned (.int .i64 s)/\∃ L1,Q1 L1/\Env w0 (boxI thr (thk c u dA dn dc nd true (.pointer (some ⟨o9,0,none⟩)) (.pointer (some ⟨q9,0,none⟩)) (.pointer none) ph 0)::L1) v')
  (hQ:∀ L1 v,Q1 L1->Env w0 (boxI thr (thk c u dA dn dc nd true (.pointer (some ⟨o9,0,none⟩)) (.pointer (some ⟨q9,0,none⟩)) (.pointer none) ph s)::L1) v->Calls prog 71 #[.pointer (some ⟨q9,0,none⟩),.pointer (some ⟨u,0,none⟩),.pointer (some ⟨m,0,none⟩)] v fun e v'=>e=.returned (.int .i64 s)/\∃ L2,Q2 L2/\Env w0 (boxI thr (thk c u dA dn dc nd true (.pointer (some ⟨o9,0,none⟩)) (.pointer (some ⟨q9,0,none⟩)) (.pointer none) ph s)::L2) v')
  (hA:∀ L2,Q2 L2->s≠0->Ended L2 c o9 q9) :
  Calls prog 28 #[.pointer (some ⟨thr,0,none⟩),.pointer (some ⟨p,0,none⟩),.pointer (some ⟨m,0,none⟩)] w fun o w'=>o=.returned (.bool true)/\∃ L2,Q2 L2/\Env w0 (boxI thr (thk c u dA dn dc nd (decide (s=0)) (.pointer (some ⟨o9,0,none⟩)) (.pointer (some ⟨q9,0,none⟩)) (.pointer none) ph s)::L2) w':=by
 have HO:=zH hO;have HQ:=zH hQ;have HA:=zH hA;clear hO hQ hA;unfold thk at *;have r0:=hE.rule 0 rfl;have f9:=hE.thaw 0 rfl 9 (by simp);have hE1:=hE.put 0 rfl (j:=9) (by simp) (.int .i64 0);have r1:=hE1.rule 0 rfl;clear hE;refine gen_post fun PP HPP=>?_;go_enter func28,ntmps28;go_wp2_with fail;refine (HO.out _ hE1).mono ?_;rintro e v ⟨rfl,L1,hq1,hE2⟩;clear r0 f9 r1 hE1;have r0:=hE2.rule 0 rfl;have f9:=hE2.thaw 0 rfl 9 (by simp);have hE3:=hE2.put 0 rfl (j:=9) (by simp) (.int .i64 s);have HQ1:=zH hq1;clear hE2 hq1
 go_upto_region 9 with fail
 clear r0 f9;generalize World.setCell _ _ _=v1 at *;replace hE3:Env w0 (boxI thr [.pointer (some ⟨c,0,none⟩),.pointer (some ⟨u,0,none⟩),.slice dA dn dc,.int .i64 nd,.bool true,.pointer (some ⟨o9,0,none⟩),.pointer (some ⟨q9,0,none⟩),.pointer none,ph,.int .i64 s]::L1) v1:=hE3;refine Ord.wc [9] (fun v=>Blk 0 v thr [.pointer (some ⟨c,0,none⟩),.pointer (some ⟨u,0,none⟩),.slice dA dn dc,.int .i64 nd,.bool true,.pointer (some ⟨o9,0,none⟩),.pointer (some ⟨q9,0,none⟩),.pointer none,ph,.int .i64 s]) (fun k v=>if k=0 then Env w0 (boxI thr [.pointer (some ⟨c,0,none⟩),.pointer (some ⟨u,0,none⟩),.slice dA dn dc,.int .i64 nd,.bool true,.pointer (some ⟨o9,0,none⟩),.pointer (some ⟨q9,0,none⟩),.pointer none,ph,.int .i64 s]::L1) v else ∃ L2,Q2 L2/\Env w0 (boxI thr [.pointer (some ⟨c,0,none⟩),.pointer (some ⟨u,0,none⟩),.slice dA dn dc,.int .i64 nd,.bool true,.pointer (some ⟨o9,0,none⟩),.pointer (some ⟨q9,0,none⟩),.pointer none,ph,.int .i64 s]::L2) v) (hE3.drew.get 0 rfl) (by rw [if_pos rfl]; exact hE3.drew) fun hT9=>?_
 repeat ((first
  | (refine Ord.cv ?_ hT9.o ?_ ?_; rotate_left; (intro w5 hS; have r:=Blk.rule hS; go_simp<;>rfl))
  | (refine Ord.co hT9.o ?_));try simp only [Act.put,zA,zZ,zS])
 refine Ord.ch_turn (v:=.int .i64 s) 0 hT9.o rfl (by decide) (Or.inl rfl) (by rfl) ?_ ?_
 ·rintro w5 hC5 hA5;rw [if_pos rfl] at hA5;go_simp;simp only [Ord.LandsIn];refine (HQ.out L1 w5 HQ1.out hA5).mono ?_;rintro e w6 ⟨rfl,L2,h2,h5⟩;exact ⟨rfl,h5.get 0 rfl,L2,h2,h5⟩
 try simp only [Act.put,zA,zZ,zS]
 repeat ((first
  | (refine Ord.cv ?_ hT9.o ?_ ?_; rotate_left; (intro w5 hS; skip; go_simp<;>rfl))
  | (refine Ord.co hT9.o ?_));try simp only [Act.put,zA,zZ,zS])
 refine Ord.InText.nil fun w5 hS=>?_;clear hT9;obtain ⟨hC9,hA9⟩:=Ord.chain_end hS;clear hS;rw [if_neg (by decide)] at hA9;obtain ⟨L2,hq2,hE4⟩:=hA9;clear hC9 hE3;have HQ2:=zH hq2;have HA2:=zH fun h=>HA.out L2 hq2 h;clear hq2 HO HQ HA HQ1;have r0:=hE4.rule 0 rfl;have b9:(s != s)=false:=by simp
 by_cases hs:s=0
 ·subst hs;have HE:=zH hE4;clear hE4;go_wp2_with fail
  (try go_ret)
  exact HPP.out _ _ ⟨rfl,L2,HQ2.out,HE.out⟩
 ·have b8:(s==0)=false:=by simpa using hs
  obtain ⟨i,j,kd,key,val,lv,rt,nx,s9,sp,pc,ps,pa,pl,pu,er,dn9,vl,h1,h2⟩:=HA2.out hs;have hd:decide (s=0)=false:=by simpa using hs
  rw [hd] at HPP;have f4:=hE4.thaw 0 rfl 4 (by simp);have hE5:=hE4.put 0 rfl (j:=4) (by simp) (.bool false);clear hE4 hs hd HA2;have H1:=zH h1;have H2:=zH h2;clear h1 h2
  go_upto_region 15 with fail
  clear r0 f4;generalize World.setCell _ _ _=v2 at *;replace hE5:Env w0 (boxI thr [.pointer (some ⟨c,0,none⟩),.pointer (some ⟨u,0,none⟩),.slice dA dn dc,.int .i64 nd,.bool false,.pointer (some ⟨o9,0,none⟩),.pointer (some ⟨q9,0,none⟩),.pointer none,ph,.int .i64 s]::L2) v2:=hE5;have HANS:=zH fun (v:World) (hv:Env w0 (boxI thr [.pointer (some ⟨c,0,none⟩),.pointer (some ⟨u,0,none⟩),.slice dA dn dc,.int .i64 nd,.bool false,.pointer (some ⟨o9,0,none⟩),.pointer (some ⟨q9,0,none⟩),.pointer none,ph,.int .i64 s]::L2) v)=>answer_t (hv.get (i+1) H1.out);have HRQ:=zH fun (v:World) (hv:Env w0 (boxI thr [.pointer (some ⟨c,0,none⟩),.pointer (some ⟨u,0,none⟩),.slice dA dn dc,.int .i64 nd,.bool false,.pointer (some ⟨o9,0,none⟩),.pointer (some ⟨q9,0,none⟩),.pointer none,ph,.int .i64 s]::L2) v)=>(show ∀ k,v.cell? ⟨q9,k,none⟩=[Value.int .i64 kd,.int .u64 key,.int .u64 val,.int .i64 lv,.int .i64 pc,.pointer ps,.pointer pa,.pointer pl,.pointer pu,.int .i64 er,.bool dn9,.int .u64 vl][k]? from hv.rule (j+1) H2.out);clear H1 H2;refine wp_text (S:=(Env w0 (boxI thr [.pointer (some ⟨c,0,none⟩),.pointer (some ⟨u,0,none⟩),.slice dA dn dc,.int .i64 nd,.bool false,.pointer (some ⟨o9,0,none⟩),.pointer (some ⟨q9,0,none⟩),.pointer none,ph,.int .i64 s]::L2))) (by kernel_rfl) (by kernel_rfl) hE5.drew (fun hT=>?_);have hT9:=zH hT;clear hT
  repeat ((first
   | (refine text_value (v:=?_) hT9.o (by rfl) ?_ ?_; rotate_left; (intro w5 hS; have r:=hS.rule 0 rfl; have rq:=HRQ.out _ hS; go_simp<;>rfl))
   | (refine text_off hT9.o (by rfl) ?_)
   | (refine text_call (v:=?_) (f:=?_) (args:=?_) hT9.o (by rfl) ?_ ?_ ?_; rotate_left 3; (intro w5 hS; have r:=hS.rule 0 rfl; have rq:=HRQ.out _ hS; go_simp; constructor<;>rfl); (intro w5 hS; (first | (with_reducible refine kp (HANS.out _ hS) ?_ ?_; rfl; exact fun w6 hb5=>hS.over hb5)))));try simp only [Act.put,zA,zZ,zS])
  refine InText.nil fun w5 hS5=>?_;clear hT9;clear hE5;go_wp2_with fail
  (try go_ret)
  exact HPP.out _ _ ⟨rfl,L2,HQ2.out,hS5⟩
end
structure LaneOk (C:Cf) (L:Lm):Prop where
 (ok:LmOk L)
 (wf:Wf L.p)
 (at9:(∃ r,L.p=(4,0,r))\/∃ c,L.p=(5,c,7))
 (x:6<=L.pc->markB L.X=false)
 (c:3<=L.pc->1<=L.C)
 (sw:slotI L.W<=C.s)
 (sx:slotI L.X<=C.s)
 (cs:L.C<=C.s)
structure SpotOk (C:Cf) (L:Lm):Prop where
 (W:InU L.W)
 (X:InU L.X)
 (wf:Wf L.p)
 (at9:(∃ r,L.p=(4,0,r))\/∃ c,L.p=(5,c,7))
 (Cr:0<=L.C/\L.C<=8388607)
 (fd:L.fd=true->1<=L.C/\markB L.X=false)
 (sw:slotI L.W<=C.s)
 (sx:slotI L.X<=C.s)
 (cs:L.C<=C.s)
def SIt (c sb:Nat) (k key:Int) (vs:Bool) (on:Bool) (L:Lm) (s:Int) (sub:List Item):Prop :=
 (on=false/\s=0/\(sub=[boxI sb (srC c k key vs (.pointer none))]\/∃ a L' nx wd B1 B2,sub=[boxI sb (srC c k key vs (.pointer (some ⟨a,0,none⟩))),boxI a (laneV c 0 key vs nx 2 wd (pfS 2 L') (pvS 2 L') L'),B1,B2])) \/
 (on=true/\∃ a nx wd B1 B2,(s=0->NxOk a L.pc nx B1 B2/\(L.pc=7->wd=L.K)/\(L.pc=9->wd=L.V))/\sub=[boxI sb (srC c k key vs (.pointer (some ⟨a,0,none⟩))),boxI a (laneV c 0 key vs nx s wd (pfS s L) (pvS s L) L),B1,B2])
section
variable {w0 w:World} {R sub:List Item} {sb:Nat} {S:ST} {k key s e r:Int} {vs:Bool} {on:Bool} {L:Lm} {T:Sm}
theorem SIt.toR (h:SIt S.c sb k key vs on L s sub) (he:S.ce=e) (hr:S.cr=r) (hE:Env w0 (sub++LT S R) w):SrchR w0 R sb k key vs S s ⟨on,L,e,r⟩ w:=by
 rcases h with ⟨rfl,rfl,rfl | ⟨a,L',nx,wd,B1,B2,rfl⟩⟩ | ⟨rfl,a,nx,wd,B1,B2,hn,rfl⟩
 ·exact ⟨he,hr,.inl ⟨rfl,rfl,.inl hE⟩⟩
 ·exact ⟨he,hr,.inl ⟨rfl,rfl,.inr ⟨a,L',nx,wd,B1,B2,fun h=>absurd h (by decide),hE.perm (List.perm_middle (l₁:=[_,_,_,_,_,_,_])).symm⟩⟩⟩
 ·exact ⟨he,hr,.inr ⟨rfl,a,nx,wd,B1,B2,hn,hE.perm (List.perm_middle (l₁:=[_,_,_,_,_,_,_])).symm⟩⟩
theorem SrchR.toI (h:SrchR w0 R sb k key vs S s T w):∃ sub,SIt S.c sb k key vs T.on T.L s sub/\Env w0 (sub++LT S R) w:=by
 obtain ⟨-,-,⟨hoff,rfl,hE | ⟨a,L',nx,wd,B1,B2,-,hE⟩⟩ | ⟨hon,a,nx,wd,B1,B2,hn,hE⟩⟩:=h
 ·exact ⟨_,.inl ⟨hoff,rfl,.inl rfl⟩,hE⟩
 ·exact ⟨[_,_,B1,B2],.inl ⟨hoff,rfl,.inr ⟨a,L',nx,wd,B1,B2,rfl⟩⟩,hE.perm (List.perm_middle (l₁:=[_,_,_,_,_,_,_]))⟩
 ·exact ⟨[_,_,B1,B2],.inr ⟨hon,a,nx,wd,B1,B2,hn,rfl⟩,hE.perm (List.perm_middle (l₁:=[_,_,_,_,_,_,_]))⟩
end
def SPK (C:Cf) (X:Tm) (V:Wm) (K:Kt) (f:Mem) (G:Nat->Prop) (qc:Cnt) (n:Nat):ST:=SP C { X with cr:=K.r } V K.T f G qc n
section
variable {w0 w:World} {R sub:List Item} {C:Cf} {X:Tm} {V:Wm} {f:Mem} {G:Nat->Prop} {qc:Cnt} {n sb:Nat} {k key:Int} {vs:Bool} {on:Bool} {L:Lm} {T:Th} {r:Int}
theorem search_I (hT:on=true->LaneOk C L) (hg:Glo w0) (hn:n < maxLen) (hS:SIt X.c sb k key vs on L 0 sub) (hE:Env w0 (sub++LT (SP C { X with cr:=r } V T f G qc n) R) w) :
  Calls prog 132 #[.pointer (some ⟨sb,0,none⟩),.iface 26 (.pointer (some ⟨V.p,0,none⟩))] w fun o w'=>o=.returned (.int .i64 (searchM k key vs ⟨on,L,T.e,r⟩ f).1)/\∃ G' qc' n' sub',Nx n qc n' qc'/\SIt X.c sb k key vs (searchM k key vs ⟨on,L,T.e,r⟩ f).2.1.on (searchM k key vs ⟨on,L,T.e,r⟩ f).2.1.L (searchM k key vs ⟨on,L,T.e,r⟩ f).1 sub'/\Env w0 (sub'++LT (SP C { X with cr:=(searchM k key vs ⟨on,L,T.e,r⟩ f).2.1.r } V { T with e:=(searchM k key vs ⟨on,L,T.e,r⟩ f).2.1.e } (searchM k key vs ⟨on,L,T.e,r⟩ f).2.2 G' qc' n') R) w':=by
 have hR:=hS.toR (S:=SP C { X with cr:=r } V T f G qc n) (e:=T.e) (r:=r) rfl rfl hE;refine (search_l (S:=SP C { X with cr:=r } V T f G qc n) (T:=⟨on,L,T.e,r⟩) (fun h=>⟨(hT h).ok,(hT h).wf⟩) hg hn hR).mono ?_;rintro o w1 ⟨rfl,G',hR'⟩;have hR2:=hR';obtain ⟨sub',hS',hE'⟩:=hR'.toI;refine ⟨rfl,(searchS key vs (SP C { X with cr:=r } V T f G qc n) ⟨on,L,T.e,r⟩ G').G,(searchS key vs (SP C { X with cr:=r } V T f G qc n) ⟨on,L,T.e,r⟩ G').qc,(searchS key vs (SP C { X with cr:=r } V T f G qc n) ⟨on,L,T.e,r⟩ G').m,sub',⟨?_,?_⟩,?_,?_⟩
 ·unfold searchS;cases on
  ·exact Nat.le_succ n
  ·show (laneS 0 key vs (SP C { X with cr:=r } V T f G qc n) L G').m<=n+1;unfold laneS;dsimp only
   split
   ·exact Nat.le_refl _
   ·exact Nat.le_succ n
 ·unfold searchS;cases on
  ·exact Or.inl ⟨rfl,rfl,rfl,rfl⟩
  ·show One qc (laneS 0 key vs (SP C { X with cr:=r } V T f G qc n) L G').qc;unfold laneS laneQ;dsimp only
   split
   ·unfold swq
    first | exact Or.inr (Or.inr (Or.inl ⟨rfl,rfl,rfl,rfl⟩)) | (split<;>exact Or.inr (Or.inr (Or.inl ⟨rfl,rfl,rfl,rfl⟩)))
   ·exact Or.inl ⟨rfl,rfl,rfl,rfl⟩
 ·cases on<;>exact hS'
 ·cases on<;>exact hE'
end
structure COk (C:Cf):Prop where
 (s:1<=C.s/\C.s<=8388607)
 (l:1<=C.l/\C.l<=1099511627775)
structure OkF (C:Cf) (f:Mem):Prop where
 (u:∀ x,InU (f x))
 (pool:slotI (f (2,0,0))<=C.s)
 (chain:∀ i,slotI (f (5,i,2))<=C.s)
 (ep:f (1,0,0)<=C.l)
structure OkT (C:Cf) (ds:List Dd) (B:Nat) (T:Th):Prop where
 (e:0<=T.e/\T.e<=C.l)
 (w:InU T.ah/\InU T.an/\InU T.ar)
 (hs:0<=T.hs/\T.hs<=C.s)
 (rs:0<=T.rs/\T.rs<=C.s)
 (ql:∀ x∈T.ql,1<=x.1/\x.1<=C.s/\x.2.2=0)
 (nd:T.nd<=ds.length)
 (len:T.ql.length+(ds.length - T.nd)<=B)
 (done:0<=T.done/\T.done<=B)
 (pc:T.pc=0\/T.pc=1\/T.pc=2\/T.pc=3\/T.pc=4)
 (p1:T.pc=1->T.hs=0)
 (nd1:T.pc≠0->1<=T.nd)
 (apc:T.pc=2->T.apc=1\/T.apc=2\/T.apc=3\/T.apc=4\/T.apc=5\/T.apc=6\/10<=T.apc)
 (low:T.pc=2->T.apc<=10->T.hs=0)
 (adv:T.pc=2->T.apc=1->T.e < C.l)
 (born:T.pc=2->T.apc=10->T.ql≠[])
 (pool:T.pc=2->4<=T.apc->T.apc<=6->1<=slotI T.ah/\slotI T.ah<=C.s/\verI T.ah < C.l)
 (an:slotI T.an<=C.s)
 (rpc:T.pc=3->T.rpc=0\/T.rpc=1)
 (rsp:T.pc=3->1<=T.rs)
 (re:0<=T.re/\T.re<=C.l)
 (gpc:T.gpc<=3)
 (give:T.pc=4->1<=T.gpc->T.ql≠[])
 (ghu:InU T.gh)
 (gh:slotI T.gh<=C.s)
 (gv:T.pc=4->2<=T.gpc->verI T.gh < C.l)
theorem no {a b:Nat} {P:Prop} (h:a=b) (hab:(a==b)=false):P:=by
 simp at hab;exact absurd h hab
theorem slot_next {x s S:Int} (h0:0<=S) (hs:s<=S):slotI (nextW x s)<=S:=by
 have h9:slotI 0=0:=by decide
 unfold nextW
 split
 ·rename_i h;have:=isS_parts h;have hv:=verI_in x
  split
  ·omega
  ·rw [slot_word (isL_mk this.1 this.2 (by omega) (by omega))];exact hs
 ·omega
theorem slot_link {s S:Int} (h0:0<=S) (hs:s<=S):slotI (wordI false s 0)<=S:=by
 have h9:slotI 0=0:=by decide
 by_cases h:isL s 0=true
 ·rw [slot_word h]; exact hs
 ·rw [wordI_no (by simpa using h)]; omega
theorem epI_of {x l:Int} (hx:InU x) (h:x<=l) (hl:l<=1099511627775):epI x=x/\0<=x:=by
 unfold InU at hx;unfold epI;rw [if_pos (by omega)];exact ⟨rfl,by omega⟩
theorem swf_at (f:Mem) (x y:Plc) (o v:Int):swf f x o v y=if y=x/\f x=o then v else f y:=by
 unfold swf upd
 by_cases h:f x=o
 ·rw [if_pos h]
  by_cases hy:y=x
  ·rw [if_pos hy,if_pos ⟨hy,h⟩]
  ·rw [if_neg hy,if_neg (fun h2=>hy h2.1)]
 ·rw [if_neg h,if_neg (fun h2=>h h2.2)]
theorem part_ne (ck e key val lv:Int) (k:Nat):((wordsA ck e key val lv).getD k (0,0)).1≠2:=by
 rw [List.getD_eq_getElem?_getD]
 rcases h:(wordsA ck e key val lv)[k]? with _ | ⟨a,b⟩
 ·simp
 ·have hm:(a,b)∈wordsA ck e key val lv:=List.mem_of_getElem? h;simp only [Option.getD_some];unfold wordsA at hm
  split at hm
  ·simp at hm
   rcases hm with ⟨rfl,rfl⟩ | ⟨rfl,rfl⟩ | ⟨rfl,rfl⟩ | ⟨rfl,rfl⟩<;>decide
  ·split at hm
   ·simp at hm
    rcases hm with ⟨rfl,rfl⟩ | ⟨rfl,rfl⟩ | ⟨rfl,rfl⟩ | ⟨rfl,rfl⟩ | ⟨rfl,rfl⟩<;>decide
   ·simp at hm
    rcases hm with ⟨rfl,rfl⟩ | ⟨rfl,rfl⟩ | ⟨rfl,rfl⟩<;>decide
section
variable {C:Cf} {ds:List Dd} {B:Nat} {T:Th} {f:Mem} {d:Dd}
theorem OkT.more (h:OkT C ds B T):OkT C ds (B+1) T :=
 { h with len:=by have:=h.len; omega,done:=by have:=h.done; constructor<;>omega }
theorem OkF.upd (h:OkF C f) {x:Plc} {v:Int} (h1:x≠(1,0,0)) (h2:x≠(2,0,0)) (h3:∀ i,x=(5,i,2)->slotI v<=C.s) (hu:∀ y,InU (Proofs.YtdknbegcflldjaaGreatDoor.upd f x v y)):OkF C (Proofs.YtdknbegcflldjaaGreatDoor.upd f x v):=by
 refine ⟨hu,?_,?_,?_⟩
 ·rw [upd_other f v (fun e=>h2 e.symm)]; exact h.pool
 ·intro i
  by_cases hx:(5,i,2)=x
  ·rw [<- hx,upd_same]; exact h3 i hx.symm
  ·rw [upd_other f v hx]; exact h.chain i
 ·rw [upd_other f v (fun e=>h1 e.symm)]; exact h.ep
theorem OkF.swp (h:OkF C f) {o v:Int} (hv:slotI v<=C.s) (hu:∀ y,InU (swf f (2,0,0) o v y)):OkF C (swf f (2,0,0) o v):=by
 refine ⟨hu,?_,?_,?_⟩
 ·rw [swf_at]; split
  ·exact hv
  ·exact h.pool
 ·intro i;rw [swf_at,if_neg (by simp)]; exact h.chain i
 ·rw [swf_at,if_neg (by simp)]; exact h.ep
theorem OkF.swe (h:OkF C f) {o v:Int} (hv:v<=C.l) (hu:∀ y,InU (swf f (1,0,0) o v y)):OkF C (swf f (1,0,0) o v):=by
 refine ⟨hu,?_,?_,?_⟩
 ·rw [swf_at,if_neg (by simp)]; exact h.pool
 ·intro i;rw [swf_at,if_neg (by simp)]; exact h.chain i
 ·rw [swf_at]; split
  ·exact hv
  ·exact h.ep
end
structure LnkF (C:Cf) (f:Mem):Prop where
 (root:∀ r,slotI (f (4,0,r))<=C.s)
 (link:∀ i,slotI (f (5,i,7))<=C.s)
theorem LnkF.at9 {C:Cf} {f:Mem} (h:LnkF C f) {p:Plc} (hp:(∃ r,p=(4,0,r))\/∃ c,p=(5,c,7)):slotI (f p)<=C.s:=by
 rcases hp with ⟨r,rfl⟩ | ⟨c,rfl⟩
 ·exact h.root r
 ·exact h.link c
theorem slot_word_le {m:Bool} {s e S:Int} (h0:0<=S) (hs:s<=S):slotI (wordI m s e)<=S:=by
 have hz:slotI 0=0:=by decide
 by_cases h:isL s e=true
 ·rw [slot_word h];exact hs
 ·have hw:wordI m s e=0:=by unfold wordI; rw [if_neg h]
  rw [hw,hz];exact h0
section
variable {C:Cf} {k key e:Int} {vs:Bool} {L:Lm} {f:Mem}
theorem LaneOk.start {k:Int} (hk:In64 k) (h0:0<=C.s):LaneOk C (L0 (4,0,k)):=by
 have hz:slotI 0=0:=by decide
 refine ⟨LmOk.start _,by show Wf (4,0,k); exact ⟨(show In64 4 by unfold In64; omega),(show In64 0 by unfold In64; omega),hk⟩,.inl ⟨k,rfl⟩,fun h=>absurd h (by simp [L0]),fun h=>absurd h (by simp [L0]),?_,?_,?_⟩
 ·show slotI 0<=C.s; omega
 ·show slotI 0<=C.s; omega
 ·show (0:Int)<=C.s; omega
theorem LaneOk.come (h:LaneOk C L) {p:Plc} (hp:(∃ r,p=(4,0,r))\/∃ c,p=(5,c,7)) (hwf:Wf p) (h7:L.pc<=7) (h0:0<=C.s) {v:Int} (hv:InU v) (hvs:slotI v<=C.s) (hne:slotI v≠0):LaneOk C { L with p:=p,W:=v,X:=0,C:=slotI v,pc:=3 }:=by
 have hz:slotI 0=0:=by decide
 have hi:=slotI_in v;have hLp:LmOk { L with p:=p }:=⟨h.ok.pc,h.ok.v,h.ok.fd,h.ok.ft,h.ok.x,h.ok.c0,h.ok.W,h.ok.X,h.ok.C⟩;refine ⟨hLp.come h7 v hv,hwf,hp,fun h=>absurd h (by simp),fun _=>?_,hvs,?_,hvs⟩
 ·show 1<=slotI v; omega
 ·show slotI 0<=C.s; omega
theorem LaneOk.comeEnd (h:LaneOk C L) {p:Plc} (hp:(∃ r,p=(4,0,r))\/∃ c,p=(5,c,7)) (hwf:Wf p) (h7:L.pc<=7) (h0:0<=C.s) {v:Int} (hv:InU v) (hvs:slotI v<=C.s):SpotOk C { L with p:=p,W:=v,X:=0,C:=slotI v,pc:=3 }:=by
 have hz:slotI 0=0:=by decide
 refine ⟨hv,by show InU 0; simp [InU],hwf,hp,slotI_in v,fun hf=>?_,hvs,?_,hvs⟩
 ·have h9:L.fd=true:=hf;rw [h.ok.fd h7] at h9;exact absurd h9 (by decide)
 ·show slotI 0<=C.s; omega
theorem LaneOk.spot (h:LaneOk C L) (h6:6<=L.pc):SpotOk C L :=
 ⟨h.ok.W,h.ok.X,h.wf,h.at9,h.ok.C,fun _=>⟨h.c (by omega),h.x h6⟩,h.sw,h.sx,h.cs⟩
theorem cS_ne {v:Int} (h:cS v=0):slotI v≠0:=fun h0=>by rw [cS,if_pos h0] at h; exact absurd h (by decide)
theorem lane_keep (h:LaneOk C L) (hW:∀ x,InU (f x)) (hS:LnkF C f) (h0:0<=C.s):((laneM 0 key vs e L f).1=0->LaneOk C (laneM 0 key vs e L f).2.1)/\((laneM 0 key vs e L f).1=1->SpotOk C (laneM 0 key vs e L f).2.1):=by
 have hL:=h.ok;have HK:(laneM 0 key vs e L f).1=0->LmOk (laneM 0 key vs e L f).2.1:=fun h9=>(lane_ok hL hW h.wf (show (0:Int)<=0/\(0:Int)<=1000000 by omega) h9).1
 rcases hL.pc with hpc | hpc | hpc | hpc | hpc | hpc | hpc | hpc | hpc
 ·have hM:laneM 0 key vs e L f=(0,{ L with W:=f L.p,pc:=2 },f):=by simp [laneM,hpc]
  rw [hM];refine ⟨fun h9=>⟨(by have h8:=HK (by rw [hM]); rw [hM] at h8; exact h8),h.wf,h.at9,fun h=>absurd h (by simp),fun h=>absurd h (by simp),hS.at9 h.at9,h.sx,h.cs⟩,fun h9=>absurd h9 (by simp)⟩
 ·by_cases hok:okB (f (1,0,0)) e=true
  ·by_cases hmk:markB L.W=true
   ·have hM:laneM 0 key vs e L f=(2,L,f):=by simp [laneM,holdsM,hpc,hok,hmk]
    rw [hM];exact ⟨fun h=>absurd h (by simp),fun h=>absurd h (by simp)⟩
   ·have hM:laneM 0 key vs e L f=(cS L.W,{ L with W:=L.W,X:=0,C:=slotI L.W,pc:=3 },f):=by simp [laneM,holdsM,hpc,hok,hmk,comeM_cS]
    rw [hM];exact ⟨fun h9=>h.come h.at9 h.wf (by omega) h0 hL.W h.sw (cS_ne h9),fun _=>h.comeEnd h.at9 h.wf (by omega) h0 hL.W h.sw⟩
  ·have hM:laneM 0 key vs e L f=(2,L,f):=by simp [laneM,hpc,hok]
   rw [hM];exact ⟨fun h=>absurd h (by simp),fun h=>absurd h (by simp)⟩
 ·have hM:laneM 0 key vs e L f=(0,{ L with X:=f (5,L.C,7),pc:=4 },f):=by simp [laneM,hpc]
  rw [hM];refine ⟨fun h9=>⟨(by have h8:=HK (by rw [hM]); rw [hM] at h8; exact h8),h.wf,h.at9,fun h=>absurd h (by simp),fun _=>h.c (by omega),h.sw,hS.link _,h.cs⟩,fun h9=>absurd h9 (by simp)⟩
 ·by_cases hok:okB (f (1,0,0)) e=true
  ·have hM:laneM 0 key vs e L f=(0,{ L with pc:=if markB L.X then 5 else 6 },f):=by simp [laneM,holdsM,hpc,hok]
   rw [hM];refine ⟨fun h9=>⟨(by have h8:=HK (by rw [hM]); rw [hM] at h8; exact h8),h.wf,h.at9,fun h6=>?_,fun _=>h.c (by omega),h.sw,h.sx,h.cs⟩,fun h9=>absurd h9 (by simp)⟩;dsimp only at h6 ⊢;cases hm:markB L.X
   ·rfl
   ·rw [hm] at h6; exact absurd h6 (by decide)
  ·have hM:laneM 0 key vs e L f=(2,L,f):=by simp [laneM,hpc,hok]
   rw [hM];exact ⟨fun h=>absurd h (by simp),fun h=>absurd h (by simp)⟩
 ·by_cases heq:f L.p=L.W
  ·have hM:laneM 0 key vs e L f=(cS (wordI false (slotI L.X) e),{ L with W:=wordI false (slotI L.X) e,X:=0,C:=slotI (wordI false (slotI L.X) e),pc:=3 },swf f L.p L.W (wordI false (slotI L.X) e)):=by simp [laneM,hpc,heq,comeM_cS]
   rw [hM];have hle:=slot_word_le (m:=false) (e:=e) h0 h.sx;exact ⟨fun h9=>h.come h.at9 h.wf (by omega) h0 (wordI_in _ _ _) hle (cS_ne h9),fun _=>h.comeEnd h.at9 h.wf (by omega) h0 (wordI_in _ _ _) hle⟩
  ·have hM:laneM 0 key vs e L f=(2,L,swf f L.p L.W (wordI false (slotI L.X) e)):=by simp [laneM,hpc,heq]
   rw [hM];exact ⟨fun h=>absurd h (by simp),fun h=>absurd h (by simp)⟩
 ·have hM:laneM 0 key vs e L f=(0,{ L with K:=f (5,L.C,3),pc:=7 },f):=by simp [laneM,hpc]
  rw [hM];refine ⟨fun h9=>⟨(by have h8:=HK (by rw [hM]); rw [hM] at h8; exact h8),h.wf,h.at9,fun _=>h.x (by omega),fun _=>h.c (by omega),h.sw,h.sx,h.cs⟩,fun h9=>absurd h9 (by simp)⟩
 ·by_cases hok:okB (f (1,0,0)) e=true
  ·by_cases hlt:L.K < key
   ·have hM:laneM 0 key vs e L f=(cS L.X,{ L with p:=(5,L.C,7),W:=L.X,X:=0,C:=slotI L.X,pc:=3 },f):=by simp [laneM,holdsM,hpc,hok,hlt,comeM_cS]
    rw [hM];have hwf:Wf (5,L.C,7):=wf_part hL.C (by omega);exact ⟨fun h9=>h.come (.inr ⟨_,rfl⟩) hwf (by omega) h0 hL.X h.sx (cS_ne h9),fun _=>h.comeEnd (.inr ⟨_,rfl⟩) hwf (by omega) h0 hL.X h.sx⟩
   ·by_cases heq:L.K=key
    ·cases vs;rotate_left
     ·have hM:laneM 0 key true e L f=(0,{ L with fd:=true,pc:=8 },f):=by simp [laneM,holdsM,hpc,hok,heq]
      rw [hM];exact ⟨fun h9=>⟨(by have h8:=HK (by rw [hM]); rw [hM] at h8; exact h8),h.wf,h.at9,fun _=>h.x (by omega),fun _=>h.c (by omega),h.sw,h.sx,h.cs⟩,fun h9=>absurd h9 (by simp)⟩
     have hM:laneM 0 key false e L f=(1,{ L with fd:=true },f):=by simp [laneM,holdsM,hpc,hok,heq]
     rw [hM];have hsp:=h.spot (by omega);exact ⟨fun h=>absurd h (by simp),fun _=>⟨hsp.W,hsp.X,hsp.wf,hsp.at9,hsp.Cr,fun _=>⟨h.c (by omega),h.x (by omega)⟩,hsp.sw,hsp.sx,hsp.cs⟩⟩
    ·have hM:laneM 0 key vs e L f=(1,L,f):=by simp [laneM,holdsM,hpc,hok,hlt,heq]
     rw [hM];exact ⟨fun h=>absurd h (by simp),fun _=>h.spot (by omega)⟩
  ·have hM:laneM 0 key vs e L f=(2,L,f):=by simp [laneM,hpc,hok]
   rw [hM];exact ⟨fun h=>absurd h (by simp),fun h=>absurd h (by simp)⟩
 ·have hM:laneM 0 key vs e L f=(0,{ L with V:=f (5,L.C,4),pc:=9 },f):=by simp [laneM,hpc]
  rw [hM];refine ⟨fun h9=>⟨(by have h8:=HK (by rw [hM]); rw [hM] at h8; exact h8),h.wf,h.at9,fun _=>h.x (by omega),fun _=>h.c (by omega),h.sw,h.sx,h.cs⟩,fun h9=>absurd h9 (by simp)⟩
 ·by_cases hok:okB (f (1,0,0)) e=true
  ·have hM:laneM 0 key vs e L f=(1,L,f):=by simp [laneM,holdsM,hpc,hok]
   rw [hM];exact ⟨fun h=>absurd h (by simp),fun _=>h.spot (by omega)⟩
  ·have hM:laneM 0 key vs e L f=(2,L,f):=by simp [laneM,hpc,hok]
   rw [hM];exact ⟨fun h=>absurd h (by simp),fun h=>absurd h (by simp)⟩
theorem search_keep {on:Bool} {r:Int} (hk9:In64 k) (h:on=true->LaneOk C L) (hW:∀ x,InU (f x)) (hS:LnkF C f) (h0:0<=C.s):((searchM k key vs ⟨on,L,e,r⟩ f).1=0->(searchM k key vs ⟨on,L,e,r⟩ f).2.1.on=true->LaneOk C (searchM k key vs ⟨on,L,e,r⟩ f).2.1.L)/\((searchM k key vs ⟨on,L,e,r⟩ f).1=1->SpotOk C (searchM k key vs ⟨on,L,e,r⟩ f).2.1.L):=by
 cases on
 ·exact ⟨fun _ _=>LaneOk.start hk9 h0,fun h=>absurd h (by simp [searchM])⟩
 ·have hk:=lane_keep (key:=key) (vs:=vs) (e:=e) (h rfl) hW hS h0;have hst:=lane_state 0 key vs e L f;have hM:searchM k key vs ⟨true,L,e,r⟩ f=(if (laneM 0 key vs e L f).1=1 then 1 else 0,{ on:=decide ((laneM 0 key vs e L f).1≠2),L:=(laneM 0 key vs e L f).2.1,e:=e,r:=rollM e L f r },(laneM 0 key vs e L f).2.2):=by unfold searchM; rw [if_pos rfl]
  rw [hM];refine ⟨fun h1 h2=>hk.1 ?_,fun h1=>hk.2 ?_⟩
  ·rcases hst with h9 | h9 | h9
   ·exact h9
   ·rw [h9] at h1; exact absurd h1 (by simp)
   ·rw [h9] at h2; exact absurd h2 (by simp)
  ·rcases hst with h9 | h9 | h9
   ·rw [h9] at h1; exact absurd h1 (by simp)
   ·exact h9
   ·rw [h9] at h1; exact absurd h1 (by simp)
end
theorem decP_adv {ql:List Trip} {e l:Int} (h:decP ql e l=1):e < l:=by
 rcases ql with _ | ⟨⟨x,y,z⟩,t⟩
 ·exact no h rfl
 ·simp only [decP] at h
  split at h
  ·exact absurd h (by decide)
  ·split at h
   ·exact absurd h (by decide)
   ·omega
theorem decP_born {ql:List Trip} {e l:Int} (h:decP ql e l=10):ql≠[]:=by
 rintro rfl;exact no h rfl
theorem lastS_in (k n:Nat):lastS k n=0\/lastS k n=1:=by
 unfold lastS
 split
 ·exact .inr rfl
 ·exact .inl rfl
theorem decS_in {ql:List Trip} {e l:Int}:(decP ql e l=0/\decS ql e l=4)\/(decP ql e l≠0/\decS ql e l=0):=by
 unfold decS
 by_cases h:decP ql e l=0
 ·exact .inl ⟨h,if_pos h⟩
 ·exact .inr ⟨h,if_neg h⟩
theorem gdS_in (ql:List Trip):(ql=[]/\gdS ql=1)\/(ql≠[]/\gdS ql=0):=by
 rcases ql with _ | ⟨x,t⟩
 ·exact .inl ⟨rfl,rfl⟩
 ·exact .inr ⟨by simp,rfl⟩
theorem ql_add {C:Cf} {l:List Trip} {x y:Int} (h:∀ z∈l,1<=z.1/\z.1<=C.s/\z.2.2=0) (h1:1<=x) (h2:x<=C.s):∀ z∈l++[(x,y,0)],1<=z.1/\z.1<=C.s/\z.2.2=0:=by
 intro z hz
 rcases List.mem_append.1 hz with hz | hz
 ·exact h z hz
 ·simp at hz;subst hz;exact ⟨h1,h2,rfl⟩
section
variable {C:Cf} {ds:List Dd} {B:Nat} {T:Th} {f:Mem} {d:Dd}
theorem al_cases (C:Cf) (d:Dd) (T:Th) (f:Mem) (hp:T.pc=2):actM C d T f=({ (allocM C d T f).2.1 with pc:=if (allocM C d T f).1=2 then 1 else if (allocM C d T f).1=0 then 2 else 0,done:=if (allocM C d T f).1=1 then T.done+1 else T.done,full:=(allocM C d T f).1==3 },(allocM C d T f).2.2):=by
 unfold actM;rw [if_neg (by omega),if_pos hp]
theorem act2_ok (hC:COk C) (hF:OkF C f) (hT:OkT C ds B T) (h2:T.pc=2) (hu:∀ x,InU ((actM C d T f).2 x)):OkF C (actM C d T f).2/\OkT C ds (B+1) (actM C d T f).1:=by
 have hp:T.pc≠0:=by omega
 have hm:=hT.more;have hs:=hC.s;have hfu:=hF.u;have hdone:=hT.done;rw [al_cases C d T f h2] at hu ⊢
 rcases hT.apc h2 with ha | ha | ha | ha | ha | ha | ha
 ·have hlow:=hT.low h2 (by omega);have hal:allocM C d T f=(2,T,swf f (1,0,0) T.e (T.e+1)):=by unfold allocM; rw [if_pos ha]
  rw [hal] at hu ⊢;exact ⟨hF.swe (by have:=hT.adv h2 ha; omega) hu,{ hm with pc:=.inr (.inl rfl),p1:=fun _=>hlow,nd1:=fun _=>hT.nd1 hp,apc:=fun h=>no h rfl,low:=fun h=>no h rfl,adv:=fun h=>no h rfl,born:=fun h=>no h rfl,pool:=fun h=>no h rfl,rpc:=fun h=>no h rfl,rsp:=fun h=>no h rfl,give:=fun h=>no h rfl,gv:=fun h=>no h rfl }⟩
 ·have hlow:=hT.low h2 (by omega)
  by_cases hx:C.s<=f (3,0,0)
  ·have hal:allocM C d T f=(0,{ T with apc:=3 },upd f (3,0,0) (IntKind.u64.wrap (f (3,0,0)+1))):=by unfold allocM; rw [if_neg (by omega),if_pos ha,if_pos hx]
   rw [hal] at hu ⊢;exact ⟨hF.upd (by simp) (by simp) (fun i h=>by simp at h) hu,{ hm with pc:=.inr (.inr (.inl rfl)),nd1:=fun _=>hT.nd1 hp,p1:=fun h=>no h rfl,rpc:=fun h=>no h rfl,rsp:=fun h=>no h rfl,give:=fun h=>no h rfl,gv:=fun h=>no h rfl,apc:=fun _=>.inr (.inr (.inl rfl)),low:=fun _ _=>hlow,adv:=fun _ h=>no h rfl,born:=fun _ h=>no h rfl,pool:=fun _ ha hb=>(by have ha':4<=(3:Nat):=ha; have hb':(3:Nat)<=6:=hb; omega) }⟩
  ·have hal:allocM C d T f=(decS (T.ql++[(f (3,0,0)+1,0,0)]) T.e C.l,{ T with ql:=T.ql++[(f (3,0,0)+1,0,0)],apc:=decP (T.ql++[(f (3,0,0)+1,0,0)]) T.e C.l },upd f (3,0,0) (IntKind.u64.wrap (f (3,0,0)+1))):=by unfold allocM; rw [if_neg (by omega),if_pos ha,if_neg hx]
   rw [hal] at hu ⊢;have hf3:0<=f (3,0,0):=(hfu _).1;refine ⟨hF.upd (by simp) (by simp) (fun i h=>by simp at h) hu,?_⟩;clear hu hal;have hq:=ql_add (y:=0) hT.ql (show 1<=f (3,0,0)+1 by omega) (by omega)
   rcases decS_in (ql:=T.ql++[(f (3,0,0)+1,0,0)]) (e:=T.e) (l:=C.l) with ⟨hD,hS⟩ | ⟨hD,hS⟩
   ·rw [hS];exact { hm with ql:=hq,len:=(by have:=hT.len; simp; omega),pc:=.inl rfl,nd1:=fun _=>hT.nd1 hp,p1:=fun h=>no h rfl,apc:=fun h=>no h rfl,low:=fun h=>no h rfl,adv:=fun h=>no h rfl,born:=fun h=>no h rfl,pool:=fun h=>no h rfl,rpc:=fun h=>no h rfl,rsp:=fun h=>no h rfl,give:=fun h=>no h rfl,gv:=fun h=>no h rfl }
   ·rw [hS];refine { hm with ql:=hq,len:=(by have:=hT.len; simp; omega),pc:=.inr (.inr (.inl rfl)),nd1:=fun _=>hT.nd1 hp,p1:=fun h=>no h rfl,rpc:=fun h=>no h rfl,rsp:=fun h=>no h rfl,give:=fun h=>no h rfl,gv:=fun h=>no h rfl,apc:=fun _=>?_,low:=fun _ _=>hlow,adv:=fun _ h=>decP_adv h,born:=fun _ h=>decP_born h,pool:=fun _ ha hb=>?_ }
    ·show decP (T.ql++[(f (3,0,0)+1,0,0)]) T.e C.l=1\/decP (T.ql++[(f (3,0,0)+1,0,0)]) T.e C.l=2\/decP (T.ql++[(f (3,0,0)+1,0,0)]) T.e C.l=3\/decP (T.ql++[(f (3,0,0)+1,0,0)]) T.e C.l=4\/decP (T.ql++[(f (3,0,0)+1,0,0)]) T.e C.l=5\/decP (T.ql++[(f (3,0,0)+1,0,0)]) T.e C.l=6\/10<=decP (T.ql++[(f (3,0,0)+1,0,0)]) T.e C.l
     rcases decP_in (T.ql++[(f (3,0,0)+1,0,0)]) T.e C.l with h | h | h | h<;>omega
    ·have ha':4<=decP (T.ql++[(f (3,0,0)+1,0,0)]) T.e C.l:=ha;have hb':decP (T.ql++[(f (3,0,0)+1,0,0)]) T.e C.l<=6:=hb
     rcases decP_in (T.ql++[(f (3,0,0)+1,0,0)]) T.e C.l with h | h | h | h<;>omega
 ·have hlow:=hT.low h2 (by omega);have hal:allocM C d T f=(poolS (f (2,0,0)) C.l,{ T with ah:=f (2,0,0),apc:=4 },f):=by unfold allocM; rw [if_neg (by omega),if_neg (by omega),if_pos ha]
  rw [hal] at hu ⊢;refine ⟨hF,?_⟩;have hw:InU (f (2,0,0))/\InU T.an/\InU T.ar:=⟨hfu _,hT.w.2⟩
  by_cases q1:slotI (f (2,0,0))=0
  ·rw [show poolS (f (2,0,0)) C.l=3 from if_pos q1];exact { hm with w:=hw,pc:=.inl rfl,nd1:=fun _=>hT.nd1 hp,p1:=fun h=>no h rfl,apc:=fun h=>no h rfl,low:=fun h=>no h rfl,adv:=fun h=>no h rfl,born:=fun h=>no h rfl,pool:=fun h=>no h rfl,rpc:=fun h=>no h rfl,rsp:=fun h=>no h rfl,give:=fun h=>no h rfl,gv:=fun h=>no h rfl }
  ·by_cases q2:C.l<=verI (f (2,0,0))
   ·rw [show poolS (f (2,0,0)) C.l=4 from (if_neg q1).trans (if_pos q2)];exact { hm with w:=hw,pc:=.inl rfl,nd1:=fun _=>hT.nd1 hp,p1:=fun h=>no h rfl,apc:=fun h=>no h rfl,low:=fun h=>no h rfl,adv:=fun h=>no h rfl,born:=fun h=>no h rfl,pool:=fun h=>no h rfl,rpc:=fun h=>no h rfl,rsp:=fun h=>no h rfl,give:=fun h=>no h rfl,gv:=fun h=>no h rfl }
   ·rw [show poolS (f (2,0,0)) C.l=0 from (if_neg q1).trans (if_neg q2)];exact { hm with w:=hw,pc:=.inr (.inr (.inl rfl)),nd1:=fun _=>hT.nd1 hp,p1:=fun h=>no h rfl,rpc:=fun h=>no h rfl,rsp:=fun h=>no h rfl,give:=fun h=>no h rfl,gv:=fun h=>no h rfl,apc:=fun _=>.inr (.inr (.inr (.inl rfl))),low:=fun _ _=>hlow,adv:=fun _ h=>no h rfl,born:=fun _ h=>no h rfl,pool:=fun _ _ _=>⟨(by have:=slotI_in (f (2,0,0)); show 1<=slotI (f (2,0,0)); omega),hF.pool,(by show verI (f (2,0,0)) < C.l; omega)⟩ }
 ·have hlow:=hT.low h2 (by omega);have hal:allocM C d T f=(0,{ T with an:=f (5,slotI T.ah,2),apc:=5 },f):=by unfold allocM; rw [if_neg (by omega),if_neg (by omega),if_neg (by omega),if_pos ha]
  rw [hal] at hu ⊢;exact ⟨hF,{ hm with w:=⟨hT.w.1,hfu _,hT.w.2.2⟩,an:=hF.chain _,pc:=.inr (.inr (.inl rfl)),nd1:=fun _=>hT.nd1 hp,p1:=fun h=>no h rfl,rpc:=fun h=>no h rfl,rsp:=fun h=>no h rfl,give:=fun h=>no h rfl,gv:=fun h=>no h rfl,apc:=fun _=>.inr (.inr (.inr (.inr (.inl rfl)))),low:=fun _ _=>hlow,adv:=fun _ h=>no h rfl,born:=fun _ h=>no h rfl,pool:=fun _ _ _=>hT.pool h2 (by omega) (by omega) }⟩
 ·have hlow:=hT.low h2 (by omega);have hal:allocM C d T f=(0,{ T with ar:=f (5,slotI T.ah,1),apc:=6 },f):=by unfold allocM; rw [if_neg (by omega),if_neg (by omega),if_neg (by omega),if_neg (by omega),if_pos ha]
  rw [hal] at hu ⊢;exact ⟨hF,{ hm with w:=⟨hT.w.1,hT.w.2.1,hfu _⟩,pc:=.inr (.inr (.inl rfl)),nd1:=fun _=>hT.nd1 hp,p1:=fun h=>no h rfl,rpc:=fun h=>no h rfl,rsp:=fun h=>no h rfl,give:=fun h=>no h rfl,gv:=fun h=>no h rfl,apc:=fun _=>.inr (.inr (.inr (.inr (.inr (.inl rfl))))),low:=fun _ _=>hlow,adv:=fun _ h=>no h rfl,born:=fun _ h=>no h rfl,pool:=fun _ _ _=>hT.pool h2 (by omega) (by omega) }⟩
 ·have hlow:=hT.low h2 (by omega);have hpl:=hT.pool h2 (by omega) (by omega)
  by_cases hx:f (2,0,0)=T.ah
  ·have hal:allocM C d T f=(decS (T.ql++[(slotI T.ah,epI T.ar,0)]) T.e C.l,{ T with ql:=T.ql++[(slotI T.ah,epI T.ar,0)],apc:=decP (T.ql++[(slotI T.ah,epI T.ar,0)]) T.e C.l },swf f (2,0,0) T.ah (nextW T.ah (slotI T.an))):=by unfold allocM; rw [if_neg (by omega),if_neg (by omega),if_neg (by omega),if_neg (by omega),if_neg (by omega),if_pos ha,if_pos hx]
   rw [hal] at hu ⊢;refine ⟨hF.swp (slot_next (by omega) hT.an) hu,?_⟩;clear hu hal;have hq:=ql_add (y:=epI T.ar) hT.ql hpl.1 hpl.2.1
   rcases decS_in (ql:=T.ql++[(slotI T.ah,epI T.ar,0)]) (e:=T.e) (l:=C.l) with ⟨hD,hS⟩ | ⟨hD,hS⟩
   ·rw [hS];exact { hm with ql:=hq,len:=(by have:=hT.len; simp; omega),pc:=.inl rfl,nd1:=fun _=>hT.nd1 hp,p1:=fun h=>no h rfl,apc:=fun h=>no h rfl,low:=fun h=>no h rfl,adv:=fun h=>no h rfl,born:=fun h=>no h rfl,pool:=fun h=>no h rfl,rpc:=fun h=>no h rfl,rsp:=fun h=>no h rfl,give:=fun h=>no h rfl,gv:=fun h=>no h rfl }
   ·rw [hS];refine { hm with ql:=hq,len:=(by have:=hT.len; simp; omega),pc:=.inr (.inr (.inl rfl)),nd1:=fun _=>hT.nd1 hp,p1:=fun h=>no h rfl,rpc:=fun h=>no h rfl,rsp:=fun h=>no h rfl,give:=fun h=>no h rfl,gv:=fun h=>no h rfl,apc:=fun _=>?_,low:=fun _ _=>hlow,adv:=fun _ h=>decP_adv h,born:=fun _ h=>decP_born h,pool:=fun _ ha hb=>?_ }
    ·show decP (T.ql++[(slotI T.ah,epI T.ar,0)]) T.e C.l=1\/decP (T.ql++[(slotI T.ah,epI T.ar,0)]) T.e C.l=2\/decP (T.ql++[(slotI T.ah,epI T.ar,0)]) T.e C.l=3\/decP (T.ql++[(slotI T.ah,epI T.ar,0)]) T.e C.l=4\/decP (T.ql++[(slotI T.ah,epI T.ar,0)]) T.e C.l=5\/decP (T.ql++[(slotI T.ah,epI T.ar,0)]) T.e C.l=6\/10<=decP (T.ql++[(slotI T.ah,epI T.ar,0)]) T.e C.l
     rcases decP_in (T.ql++[(slotI T.ah,epI T.ar,0)]) T.e C.l with h | h | h | h<;>omega
    ·have ha':4<=decP (T.ql++[(slotI T.ah,epI T.ar,0)]) T.e C.l:=ha;have hb':decP (T.ql++[(slotI T.ah,epI T.ar,0)]) T.e C.l<=6:=hb
     rcases decP_in (T.ql++[(slotI T.ah,epI T.ar,0)]) T.e C.l with h | h | h | h<;>omega
  ·have hal:allocM C d T f=(0,{ T with apc:=3 },swf f (2,0,0) T.ah (nextW T.ah (slotI T.an))):=by unfold allocM; rw [if_neg (by omega),if_neg (by omega),if_neg (by omega),if_neg (by omega),if_neg (by omega),if_pos ha,if_neg hx]
   rw [hal] at hu ⊢;exact ⟨hF.swp (slot_next (by omega) hT.an) hu,{ hm with pc:=.inr (.inr (.inl rfl)),nd1:=fun _=>hT.nd1 hp,p1:=fun h=>no h rfl,rpc:=fun h=>no h rfl,rsp:=fun h=>no h rfl,give:=fun h=>no h rfl,gv:=fun h=>no h rfl,apc:=fun _=>.inr (.inr (.inl rfl)),low:=fun _ _=>hlow,adv:=fun _ h=>no h rfl,born:=fun _ h=>no h rfl,pool:=fun _ ha hb=>(by have ha':4<=(3:Nat):=ha; have hb':(3:Nat)<=6:=hb; omega) }⟩
 ·by_cases h10:T.apc=10
  ·have hal:allocM C d T f=(lastS 0 (wordsA C.k T.e d.key d.val (IntKind.u64.wrap d.lv)).length,{ T with ql:=T.ql.tail,hs:=(T.ql.headD t0).1,apc:=11 },upd f (5,(T.ql.headD t0).1,((wordsA C.k T.e d.key d.val (IntKind.u64.wrap d.lv)).getD (T.apc - 10) (0,0)).1) ((wordsA C.k T.e d.key d.val (IntKind.u64.wrap d.lv)).getD (T.apc - 10) (0,0)).2):=by unfold allocM; rw [if_neg (by omega),if_neg (by omega),if_neg (by omega),if_neg (by omega),if_neg (by omega),if_neg (by omega)]; dsimp only; rw [if_pos h10]
   rw [hal] at hu ⊢;obtain ⟨x,t,hxt⟩:∃ x t,T.ql=x::t:=by
    rcases hq:T.ql with _ | ⟨x,t⟩
    ·exact absurd hq (hT.born h2 h10)
    ·exact ⟨x,t,rfl⟩
   have hpn:=part_ne C.k T.e d.key d.val (IntKind.u64.wrap d.lv) (T.apc - 10);refine ⟨hF.upd (by simp) (by simp) (fun i h=>by simp at h; exact absurd h.2 hpn) hu,?_⟩;have hxx:=hT.ql x (by rw [hxt]; simp);have hqt:∀ z∈T.ql.tail,1<=z.1/\z.1<=C.s/\z.2.2=0:=fun z hz=>hT.ql z (List.mem_of_mem_tail hz);have hhs:0<=(T.ql.headD t0).1/\(T.ql.headD t0).1<=C.s:=by rw [hxt]; exact ⟨by show 0<=x.1; omega,hxx.2.1⟩
   have hln:T.ql.tail.length+(ds.length - T.nd)<=B+1:=by have:=hT.len; simp; omega
   rcases lastS_in 0 (wordsA C.k T.e d.key d.val (IntKind.u64.wrap d.lv)).length with h | h<;>rw [h]
   ·exact { hm with hs:=hhs,ql:=hqt,len:=hln,pc:=.inr (.inr (.inl rfl)),nd1:=fun _=>hT.nd1 hp,p1:=fun h=>no h rfl,rpc:=fun h=>no h rfl,rsp:=fun h=>no h rfl,give:=fun h=>no h rfl,gv:=fun h=>no h rfl,apc:=fun _=>.inr (.inr (.inr (.inr (.inr (.inr (by show (10:Nat)<=11; decide)))))),low:=fun _ h=>absurd h (by show ¬ (11:Nat)<=10; decide),adv:=fun _ h=>no h rfl,born:=fun _ h=>no h rfl,pool:=fun _ ha hb=>(by have ha':4<=(11:Nat):=ha; have hb':(11:Nat)<=6:=hb; omega) }
   ·exact { hm with hs:=hhs,ql:=hqt,len:=hln,done:=(by show 0<=T.done+1/\T.done+1<=((B+1:Nat):Int); omega),pc:=.inl rfl,nd1:=fun _=>hT.nd1 hp,p1:=fun h=>no h rfl,apc:=fun h=>no h rfl,low:=fun h=>no h rfl,adv:=fun h=>no h rfl,born:=fun h=>no h rfl,pool:=fun h=>no h rfl,rpc:=fun h=>no h rfl,rsp:=fun h=>no h rfl,give:=fun h=>no h rfl,gv:=fun h=>no h rfl }
  ·have hal:allocM C d T f=(lastS (T.apc - 10) (wordsA C.k T.e d.key d.val (IntKind.u64.wrap d.lv)).length,{ T with apc:=T.apc+1 },upd f (5,T.hs,((wordsA C.k T.e d.key d.val (IntKind.u64.wrap d.lv)).getD (T.apc - 10) (0,0)).1) ((wordsA C.k T.e d.key d.val (IntKind.u64.wrap d.lv)).getD (T.apc - 10) (0,0)).2):=by unfold allocM; rw [if_neg (by omega),if_neg (by omega),if_neg (by omega),if_neg (by omega),if_neg (by omega),if_neg (by omega)]; dsimp only; rw [if_neg h10]
   rw [hal] at hu ⊢;have hpn:=part_ne C.k T.e d.key d.val (IntKind.u64.wrap d.lv) (T.apc - 10);refine ⟨hF.upd (by simp) (by simp) (fun i h=>by simp at h; exact absurd h.2 hpn) hu,?_⟩
   rcases lastS_in (T.apc - 10) (wordsA C.k T.e d.key d.val (IntKind.u64.wrap d.lv)).length with h | h<;>rw [h]
   ·exact { hm with pc:=.inr (.inr (.inl rfl)),nd1:=fun _=>hT.nd1 hp,p1:=fun h=>no h rfl,rpc:=fun h=>no h rfl,rsp:=fun h=>no h rfl,give:=fun h=>no h rfl,gv:=fun h=>no h rfl,apc:=fun _=>.inr (.inr (.inr (.inr (.inr (.inr (by show 10<=T.apc+1; omega)))))),low:=fun _ h=>(by have h':T.apc+1<=10:=h; omega),adv:=fun _ h=>(by have h':T.apc+1=1:=h; omega),born:=fun _ h=>(by have h':T.apc+1=10:=h; omega),pool:=fun _ ha hb=>(by have ha':4<=(T.apc+1:Nat):=ha; have hb':(T.apc+1:Nat)<=6:=hb; omega) }
   ·exact { hm with done:=(by show 0<=T.done+1/\T.done+1<=((B+1:Nat):Int); omega),pc:=.inl rfl,nd1:=fun _=>hT.nd1 hp,p1:=fun h=>no h rfl,apc:=fun h=>no h rfl,low:=fun h=>no h rfl,adv:=fun h=>no h rfl,born:=fun h=>no h rfl,pool:=fun h=>no h rfl,rpc:=fun h=>no h rfl,rsp:=fun h=>no h rfl,give:=fun h=>no h rfl,gv:=fun h=>no h rfl }
theorem act3_ok (hC:COk C) (hF:OkF C f) (hT:OkT C ds B T) (h3:T.pc=3) (hu:∀ x,InU ((actM C d T f).2 x)):OkF C (actM C d T f).2/\OkT C ds (B+1) (actM C d T f).1:=by
 have hp:T.pc≠0:=by omega
 have hm:=hT.more;have hs:=hC.s;have hact:actM C d T f=({ (retireM T f).2.1 with pc:=if (retireM T f).1=0 then 3 else 0,full:=false },(retireM T f).2.2):=by
  unfold actM;rw [if_neg (by omega),if_neg (by omega),if_pos h3]
 rw [hact] at hu ⊢
 rcases hT.rpc h3 with hr | hr
 ·have hal:retireM T f=(0,{ T with re:=f (1,0,0),rpc:=1 },f):=by unfold retireM; rw [if_pos hr]
  rw [hal] at hu ⊢;exact ⟨hF,{ hm with re:=⟨(hF.u _).1,hF.ep⟩,pc:=.inr (.inr (.inr (.inl rfl))),nd1:=fun _=>hT.nd1 hp,p1:=fun h=>no h rfl,apc:=fun h=>no h rfl,low:=fun h=>no h rfl,adv:=fun h=>no h rfl,born:=fun h=>no h rfl,pool:=fun h=>no h rfl,give:=fun h=>no h rfl,gv:=fun h=>no h rfl,rpc:=fun _=>.inr rfl,rsp:=fun _=>hT.rsp h3 }⟩
 ·have hal:retireM T f=(1,{ T with ql:=T.ql++[(T.rs,epI T.re,0)] },upd f (5,T.rs,1) T.re):=by unfold retireM; rw [if_neg (by omega)]
  rw [hal] at hu ⊢;exact ⟨hF.upd (by simp) (by simp) (fun i h=>by simp at h) hu,{ hm with ql:=ql_add hT.ql (hT.rsp h3) hT.rs.2,len:=(by have:=hT.len; simp; omega),pc:=.inl rfl,nd1:=fun _=>hT.nd1 hp,p1:=fun h=>no h rfl,apc:=fun h=>no h rfl,low:=fun h=>no h rfl,adv:=fun h=>no h rfl,born:=fun h=>no h rfl,pool:=fun h=>no h rfl,rpc:=fun h=>no h rfl,rsp:=fun h=>no h rfl,give:=fun h=>no h rfl,gv:=fun h=>no h rfl }⟩
theorem act4_ok (hC:COk C) (hF:OkF C f) (hT:OkT C ds B T) (h4:T.pc=4) (hu:∀ x,InU ((actM C d T f).2 x)):OkF C (actM C d T f).2/\OkT C ds (B+1) (actM C d T f).1:=by
 have hp:T.pc≠0:=by omega
 have hm:=hT.more;have hs:=hC.s;have hact:actM C d T f=({ (giveM C T f).2.1 with pc:=if (giveM C T f).1=0 then 4 else 0,full:=false },(giveM C T f).2.2):=by
  unfold actM;rw [if_neg (by omega),if_neg (by omega),if_neg (by omega)]
 rw [hact] at hu ⊢;have he:=epI_of (hF.u (1,0,0)) hF.ep hC.l.2;have he9:0<=epI (f (1,0,0))/\epI (f (1,0,0))<=C.l:=by rw [he.1]; exact ⟨he.2,hF.ep⟩
 rcases (show T.gpc=0\/T.gpc=1\/T.gpc=2\/T.gpc=3 by have:=hT.gpc; omega) with hr | hr | hr | hr
 ·have hal:giveM C T f=(gdS T.ql,{ T with e:=epI (f (1,0,0)),gpc:=1 },f):=by unfold giveM; rw [if_pos hr]
  rw [hal] at hu ⊢;refine ⟨hF,?_⟩
  rcases gdS_in T.ql with ⟨hq,hS⟩ | ⟨hq,hS⟩<;>rw [hS]
  ·exact { hm with e:=he9,gpc:=(by show (1:Nat)<=3; decide),pc:=.inl rfl,nd1:=fun _=>hT.nd1 hp,p1:=fun h=>no h rfl,apc:=fun h=>no h rfl,low:=fun h=>no h rfl,adv:=fun h=>no h rfl,born:=fun h=>no h rfl,pool:=fun h=>no h rfl,rpc:=fun h=>no h rfl,rsp:=fun h=>no h rfl,give:=fun h=>no h rfl,gv:=fun h=>no h rfl }
  ·exact { hm with e:=he9,gpc:=(by show (1:Nat)<=3; decide),pc:=.inr (.inr (.inr (.inr rfl))),nd1:=fun _=>hT.nd1 hp,p1:=fun h=>no h rfl,apc:=fun h=>no h rfl,low:=fun h=>no h rfl,adv:=fun h=>no h rfl,born:=fun h=>no h rfl,pool:=fun h=>no h rfl,rpc:=fun h=>no h rfl,rsp:=fun h=>no h rfl,give:=fun _ _=>hq,gv:=fun _ h=>absurd h (by show ¬ (2:Nat)<=1; decide) }
 ·have hal:giveM C T f=(poolG (f (2,0,0)) C.l,{ T with gh:=f (2,0,0),gpc:=2 },f):=by unfold giveM; rw [if_neg (by omega),if_pos hr]
  rw [hal] at hu ⊢;refine ⟨hF,?_⟩
  by_cases hx:C.l<=verI (f (2,0,0))
  ·rw [show poolG (f (2,0,0)) C.l=4 from if_pos hx];exact { hm with gpc:=(by show (2:Nat)<=3; decide),ghu:=hF.u _,gh:=hF.pool,pc:=.inl rfl,nd1:=fun _=>hT.nd1 hp,p1:=fun h=>no h rfl,apc:=fun h=>no h rfl,low:=fun h=>no h rfl,adv:=fun h=>no h rfl,born:=fun h=>no h rfl,pool:=fun h=>no h rfl,rpc:=fun h=>no h rfl,rsp:=fun h=>no h rfl,give:=fun h=>no h rfl,gv:=fun h=>no h rfl }
  ·rw [show poolG (f (2,0,0)) C.l=0 from if_neg hx];exact { hm with gpc:=(by show (2:Nat)<=3; decide),ghu:=hF.u _,gh:=hF.pool,pc:=.inr (.inr (.inr (.inr rfl))),nd1:=fun _=>hT.nd1 hp,p1:=fun h=>no h rfl,apc:=fun h=>no h rfl,low:=fun h=>no h rfl,adv:=fun h=>no h rfl,born:=fun h=>no h rfl,pool:=fun h=>no h rfl,rpc:=fun h=>no h rfl,rsp:=fun h=>no h rfl,give:=fun _ _=>hT.give h4 (by omega),gv:=fun _ _=>(by show verI (f (2,0,0)) < C.l; omega) }
 ·have hal:giveM C T f=(0,{ T with gpc:=3 },upd f (5,(T.ql.headD t0).1,2) (wordI false (slotI T.gh) 0)):=by unfold giveM; rw [if_neg (by omega),if_neg (by omega),if_pos hr]
  rw [hal] at hu ⊢;exact ⟨hF.upd (by simp) (by simp) (fun i _=>slot_link (by omega) hT.gh) hu,{ hm with gpc:=(by show (3:Nat)<=3; decide),pc:=.inr (.inr (.inr (.inr rfl))),nd1:=fun _=>hT.nd1 hp,p1:=fun h=>no h rfl,apc:=fun h=>no h rfl,low:=fun h=>no h rfl,adv:=fun h=>no h rfl,born:=fun h=>no h rfl,pool:=fun h=>no h rfl,rpc:=fun h=>no h rfl,rsp:=fun h=>no h rfl,give:=fun _ _=>hT.give h4 (by omega),gv:=fun _ _=>hT.gv h4 (by omega) }⟩
 ·obtain ⟨x,t,hxt⟩:∃ x t,T.ql=x::t:=by
   rcases hq:T.ql with _ | ⟨x,t⟩
   ·exact absurd hq (hT.give h4 (by omega))
   ·exact ⟨x,t,rfl⟩
  have hxx:=hT.ql x (by rw [hxt]; simp);have hhd:(T.ql.headD t0).1<=C.s:=by rw [hxt]; exact hxx.2.1
  by_cases hx:f (2,0,0)=T.gh
  ·have hal:giveM C T f=(gdS T.ql.tail,{ T with ql:=T.ql.tail,gg:=wrap64 (T.gg+1),gpc:=1 },swf f (2,0,0) T.gh (nextW T.gh (T.ql.headD t0).1)):=by unfold giveM; rw [if_neg (by omega),if_neg (by omega),if_neg (by omega),if_pos hx]
   rw [hal] at hu ⊢;refine ⟨hF.swp (slot_next (by omega) hhd) hu,?_⟩;have hqt:∀ z∈T.ql.tail,1<=z.1/\z.1<=C.s/\z.2.2=0:=fun z hz=>hT.ql z (List.mem_of_mem_tail hz);have hln:T.ql.tail.length+(ds.length - T.nd)<=B+1:=by have:=hT.len; simp; omega
   rcases gdS_in T.ql.tail with ⟨hq,hS⟩ | ⟨hq,hS⟩<;>rw [hS]
   ·exact { hm with ql:=hqt,len:=hln,gpc:=(by show (1:Nat)<=3; decide),pc:=.inl rfl,nd1:=fun _=>hT.nd1 hp,p1:=fun h=>no h rfl,apc:=fun h=>no h rfl,low:=fun h=>no h rfl,adv:=fun h=>no h rfl,born:=fun h=>no h rfl,pool:=fun h=>no h rfl,rpc:=fun h=>no h rfl,rsp:=fun h=>no h rfl,give:=fun h=>no h rfl,gv:=fun h=>no h rfl }
   ·exact { hm with ql:=hqt,len:=hln,gpc:=(by show (1:Nat)<=3; decide),pc:=.inr (.inr (.inr (.inr rfl))),nd1:=fun _=>hT.nd1 hp,p1:=fun h=>no h rfl,apc:=fun h=>no h rfl,low:=fun h=>no h rfl,adv:=fun h=>no h rfl,born:=fun h=>no h rfl,pool:=fun h=>no h rfl,rpc:=fun h=>no h rfl,rsp:=fun h=>no h rfl,give:=fun _ _=>hq,gv:=fun _ h=>absurd h (by show ¬ (2:Nat)<=1; decide) }
  ·have hal:giveM C T f=(0,{ T with gpc:=1 },swf f (2,0,0) T.gh (nextW T.gh (T.ql.headD t0).1)):=by unfold giveM; rw [if_neg (by omega),if_neg (by omega),if_neg (by omega),if_neg hx]
   rw [hal] at hu ⊢;exact ⟨hF.swp (slot_next (by omega) hhd) hu,{ hm with gpc:=(by show (1:Nat)<=3; decide),pc:=.inr (.inr (.inr (.inr rfl))),nd1:=fun _=>hT.nd1 hp,p1:=fun h=>no h rfl,apc:=fun h=>no h rfl,low:=fun h=>no h rfl,adv:=fun h=>no h rfl,born:=fun h=>no h rfl,pool:=fun h=>no h rfl,rpc:=fun h=>no h rfl,rsp:=fun h=>no h rfl,give:=fun _ _=>hT.give h4 (by omega),gv:=fun _ h=>absurd h (by show ¬ (2:Nat)<=1; decide) }⟩
end
section
variable {w0 w:World} {R:List Item} {o sb a:Nat} {S:ST} {key val lv rt:Int} {nx lnx:Value} {er st x y z W C X wd vl pv:Int} {dn pf:Bool}
theorem store_t (hh:S.hs≠0) (hhs:In64 S.hs) (hX:InU X) (hg:Glo w0) (hm:S.m < maxLen) (hE:Env w0 (boxI o (opT S.c 4 key val lv rt nx 0 (.pointer (some ⟨sb,0,none⟩)) er dn vl)::boxI sb (srC S.c rt key true (.pointer (some ⟨a,0,none⟩)))::boxI a (laneC S.c 0 key true lnx st x y z W C X wd pf pv)::LT S R) w) :
  Calls prog 243 #[.pointer (some ⟨o,0,none⟩),.iface 26 (.pointer (some ⟨S.p,0,none⟩))] w fun r w'=>r=.returned (.int .i64 0)/\∃ G' b1 b2 u,Env w0 (boxI o (opT S.c 4 key val lv rt (cvP b1 b2) 0 (.pointer (some ⟨sb,0,none⟩)) er dn vl)::boxI b1 [mvL 224 u]::boxI b2 [mvL 244 o]::boxI u (ukC S.c x y z W C X rt key S.hs (mvL 260 u) 0)::boxI sb (srC S.c rt key true (.pointer (some ⟨a,0,none⟩)))::boxI a (laneC S.c 0 key true lnx st x y z W C X wd pf pv)::LT { S with G:=G',f:=upd S.f (5,S.hs,7) (wordI false (slotI X) S.ce),qc:={ S.qc with s:=wrap64 (S.qc.s+1) },m:=S.m+1 } R) w':=by
 have hmf:=makeF;have hah:=ahead_store;have HWF:Hid (Wf (5,S.hs,7)):=zH (by unfold Wf; exact ⟨by show In64 5; unfold In64; omega,hhs,by show In64 7; unfold In64; omega⟩);have HLE:=zH fun (v:World) (hv:Below w0.heap.size w0 v)=>lead_c X 0 false v hX (hg.keep' hv);have hqi:InU (wordI false (slotI X) S.ce):=wordI_in _ _ _;have hto:=fun (v:World) (hv:Below w0.heap.size w0 v) (hb:Blk 0 v S.c (crv S.ck S.cs S.cb S.ch S.cl S.ce S.cr S.hs 0 S.q))=>to_c (slotI X) 0 (hg.keep' hv) hb;have HLK:Hid (∀ v,Calls prog 55 #[.int .i64 S.hs,.int .i64 0] v fun e w'=>e=.returned (.agg #[.int .i64 5,.int .i64 S.hs,.int .i64 7])/\Below v.heap.size v w'):=zH fun v=>by
  have:=link_any S.hs 0 v
  rwa [show wrap64 (7+0)=7 by rw [w64 _ (by omega)]; rfl] at this
 obtain ⟨s,hs⟩:∃ s,slotI X=s:=⟨_,rfl⟩;rw [hs] at hqi ⊢;simp only [hs] at HLE hto;clear hs;obtain ⟨q,hq⟩:∃ q,wordI false s S.ce=q:=⟨_,rfl⟩;rw [hq] at hqi ⊢;simp only [hq] at hto;have HQI:=zH hqi;have HTO:=zH hto;have r:=hE.rule 0 rfl;unfold opT at r;clear hq hqi hto hhs hX hg hh;go_enter func243,ntmps243;go_wp2_with fail;refine (held_c (hE.get 3 rfl)).mono ?_;rintro o1 w1 ⟨rfl,hb1⟩;have hE2:=(hE.over hb1).box w1.heap.size rfl [.int .i64 S.hs,.int .i64 0] 136;clear hb1 hE r;go_wp2_with fail;generalize w1.alloc _=w2 at *;generalize w1.heap.size=Z at *;obtain ⟨L2,hL2⟩:∃ L2,boxI o (opT S.c 4 key val lv rt nx 0 (.pointer (some ⟨sb,0,none⟩)) er dn vl)::boxI sb (srC S.c rt key true (.pointer (some ⟨a,0,none⟩)))::boxI a (laneC S.c 0 key true lnx st x y z W C X wd pf pv)::LT S R=L2:=⟨_,rfl⟩;rw [hL2] at hE2;have HL2:=zH hL2;clear hL2;refine Ord3.wp_chain [?_,?_,?_,?_,?_,?_,?_,?_] [6,7] (fun v=>Blk 0 v Z [.int .i64 S.hs,.int .i64 0]) (Ord3.Stage fun κs=>[Env w0 (boxI Z [.int .i64 S.hs,.int .i64 0]::L2),fun v=>∃ q,κs.getD 0 undef=.pointer (some ⟨q,0,none⟩)/\Env w0 (boxI q [.int .i64 0,.int .i64 0,.int .i64 0,.int .i64 0]::boxI Z [.int .i64 S.hs,.int .i64 0]::L2) v,fun v=>∃ q,κs.getD 0 undef=.pointer (some ⟨q,0,none⟩)/\Env w0 (boxI q [.int .i64 5,.int .i64 S.hs,.int .i64 7,.int .i64 0]::boxI Z [.int .i64 S.hs,.int .i64 0]::L2) v]) (by kernel_rfl) (by kernel_rfl) (by kernel_rfl) (hE2.drew.get 0 rfl) ⟨_,rfl,hE2.drew⟩ (fun hT=>?_);rotate_left 8;have hT9:=zH hT;clear hT
 repeat ((first
  | (focus (refine Ord3.in_value (v:=?_) hT9.o (by decide) ?_ (by rfl) ?_ ?_; rotate_left 2; (intro w5 hS; have r1:=Blk.rule hS; go_simp<;>rfl); rotate_right; (focus rfl)))
  | (focus (refine Ord3.in_off hT9.o (by decide) ?_ (by rfl) ?_; (focus rfl)))
  | (focus (refine Ord3.in_call (v:=?_) (f:=?_) (args:=?_) hT9.o (by decide) ?_ (by rfl) ?_ ?_ ?_; rotate_left 4; (intro w5 hS; have r1:=Blk.rule hS; go_simp; constructor<;>rfl); (intro w5 hS; (first | (with_reducible refine kp (HLK.out _) ?_ ?_; rfl; exact fun w6 hb6=>⟨hS.under hb6,fun us h=>Ord3.Stage.three h (fun h=>h.over hb6) (fun h=>h.elim fun q h=>⟨q,h.1,h.2.over hb6⟩) (fun h=>h.elim fun q h=>⟨q,h.1,h.2.over hb6⟩)⟩))); rotate_right; (focus rfl))));try simp only [Act.put,zA,zZ,zS])
 refine Ord3.in_turn (fun u=>∃ q,u=.pointer (some ⟨q,0,none⟩)) _ ⟨0,rfl⟩ hT9.o rfl (by decide) (by rfl) ?_ (Or.inl rfl) (by rfl) ?_ ?_
 ·rfl
 ·rintro w7 hC7 ⟨P7,hP7,hA7⟩;cases hP7;have hE8:=hA7.box w7.heap.size rfl [.int .i64 0,.int .i64 0,.int .i64 0,.int .i64 0] 185;go_simp;simp only [Ord3.Lands];exact ⟨⟨_,rfl⟩,hE8.get 1 rfl,_,rfl,_,rfl,hE8⟩
 rintro _ ⟨q9,rfl⟩
 try simp only [Act.put,zA,zZ,zS]
 refine Ord3.in_turn (fun u=>u=undef) undef rfl hT9.o rfl (by decide) (by rfl) ?_ (Or.inr ⟨_,6,[],rfl,by kernel_rfl,by kernel_rfl,rfl⟩) (by rfl) ?_ ?_
 ·rfl
 ·rintro w7 hC7 ⟨P7,hP7,hA7⟩;cases hP7;obtain ⟨q8,he,hA7⟩:=hA7;cases he;have r:=hA7.rule 0 rfl;have f0:=hA7.thaw 0 rfl 0 (by simp);have f1:=hA7.thaw 0 rfl 1 (by simp);have f2:=hA7.thaw 0 rfl 2 (by simp);have f3:=hA7.thaw 0 rfl 3 (by simp);go_simp;simp only [Ord3.Lands];have hP:=(((hA7.put 0 rfl (j:=0) (by simp) (.int .i64 5)).put 0 rfl (j:=1) (by simp) (.int .i64 S.hs)).put 0 rfl (j:=2) (by simp) (.int .i64 7)).put 0 rfl (j:=3) (by simp) (.int .i64 0);exact ⟨trivial,hP.get 1 rfl,_,rfl,q9,rfl,hP⟩
 rintro _ rfl
 try simp only [Act.put,zA,zZ,zS]
 refine Ord3.in_nil rfl ?_;rintro w9 hC9 ⟨P9,hP9,hA9⟩;cases hP9;obtain ⟨q8,he,hA9⟩:=hA9;cases he;clear hT9 hC9 hE2 HLK;rw [<- HL2.out] at hA9;clear HL2;go_wp2_with fail;refine Ord.wc [14] (fun v=>Below w0.heap.size w0 v/\Blk 0 v o (opT S.c 4 key val lv rt nx 0 (.pointer (some ⟨sb,0,none⟩)) er dn vl)/\Blk 0 v sb (srC S.c rt key true (.pointer (some ⟨a,0,none⟩)))/\Blk 0 v a (laneC S.c 0 key true lnx st x y z W C X wd pf pv)/\Blk 0 v S.c (crv S.ck S.cs S.cb S.ch S.cl S.ce S.cr S.hs 0 S.q)/\Blk 0 v q9 [.int .i64 5,.int .i64 S.hs,.int .i64 7,.int .i64 0]) (fun k w'=>∃ G5,Env w0 (boxI q9 [.int .i64 5,.int .i64 S.hs,.int .i64 7,.int .i64 0]::boxI Z [.int .i64 S.hs,.int .i64 0]::boxI o (opT S.c 4 key val lv rt nx 0 (.pointer (some ⟨sb,0,none⟩)) er dn vl)::boxI sb (srC S.c rt key true (.pointer (some ⟨a,0,none⟩)))::boxI a (laneC S.c 0 key true lnx st x y z W C X wd pf pv)::LT (if k=0 then S else { S with G:=G5,f:=upd S.f (5,S.hs,7) q,qc:={ S.qc with s:=wrap64 (S.qc.s+1) },m:=S.m+1 }) R) w') ⟨hA9.drew.below,hA9.drew.get 2 rfl,hA9.drew.get 3 rfl,hA9.drew.get 4 rfl,hA9.drew.get 5 rfl,hA9.drew.get 0 rfl⟩ ⟨S.G,hA9.drew⟩ fun hT9=>?_
 repeat ((first
  | (refine Ord.cv ?_ hT9.o ?_ ?_; rotate_left; (intro w5 hS; have r:=hS.2.1.rule; have r1:=hS.2.2.2.2.2.rule; unfold opT at r; go_simp<;>rfl))
  | (refine Ord.co hT9.o ?_)
  | (refine Ord.cc ?_ ?_ ?_ hT9.o ?_ ?_ ?_; rotate_left 3; (intro w5 hS; have r:=hS.2.1.rule; have r1:=hS.2.2.2.2.2.rule; unfold opT at r; go_simp; constructor<;>rfl); (intro w5 hS; (first | (with_reducible refine (lane_b hS.2.1 hS.2.2.1).mono ?_; rintro e w6 ⟨rfl,rfl⟩; constructor; rfl; exact ⟨hS,fun _ h=>h⟩) | (with_reducible refine kp (out_g hS.2.2.2.1) ?_ ?_; rfl; exact fun w6 hb6=>⟨⟨hS.1.trans (hb6.mono hS.1.size),hS.2.1.under hb6,hS.2.2.1.under hb6,hS.2.2.2.1.under hb6,hS.2.2.2.2.1.under hb6,hS.2.2.2.2.2.under hb6⟩,fun k h=>h.elim fun G5 h=>⟨G5,h.over hb6⟩⟩) | (with_reducible refine kp (HLE.out _ hS.1) ?_ ?_; rfl; exact fun w6 hb6=>⟨⟨hS.1.trans (hb6.mono hS.1.size),hS.2.1.under hb6,hS.2.2.1.under hb6,hS.2.2.2.1.under hb6,hS.2.2.2.2.1.under hb6,hS.2.2.2.2.2.under hb6⟩,fun k h=>h.elim fun G5 h=>⟨G5,h.over hb6⟩⟩) | (with_reducible refine kp (HTO.out _ hS.1 hS.2.2.2.2.1) ?_ ?_; rfl; exact fun w6 hb6=>⟨⟨hS.1.trans (hb6.mono hS.1.size),hS.2.1.under hb6,hS.2.2.1.under hb6,hS.2.2.2.1.under hb6,hS.2.2.2.2.1.under hb6,hS.2.2.2.2.2.under hb6⟩,fun k h=>h.elim fun G5 h=>⟨G5,h.over hb6⟩⟩)))));try simp only [Act.put,zA,zZ,zS])
 refine Ord.ch_turn (v:=.tuple #[]) 0 hT9.o rfl (by decide) (Or.inl rfl) (by rfl) ?_ ?_
 ·rintro w5 hC5 ⟨G5,hA5⟩;simp only [if_true] at hA5;go_simp;rw [method_store];simp only [Result.andThen_ok];go_simp;simp only [Ord.LandsIn];refine (store_w 5 S.hs 7 0 q 0 false HWF.out HQI.out hm 7 8 (by decide) hA5 rfl rfl).mono ?_;rintro e w6 ⟨rfl,G6,hE6⟩;exact ⟨rfl,⟨hE6.below,hE6.get 2 rfl,hE6.get 3 rfl,hE6.get 4 rfl,hE6.get 5 rfl,hE6.get 0 rfl⟩,G6,hE6⟩
 try simp only [Act.put,zA,zZ,zS]
 repeat ((first
  | (refine Ord.cv ?_ hT9.o ?_ ?_; rotate_left; (intro w5 hS; skip; go_simp<;>rfl))
  | (refine Ord.co hT9.o ?_));try simp only [Act.put,zA,zZ,zS])
 refine Ord.InText.nil fun w5 hS=>?_;clear hT9;obtain ⟨hC9,hB9⟩:=Ord.chain_end hS;clear hS;obtain ⟨G9,hB9⟩:=hB9;simp only [List.length_cons,List.length_nil,Nat.zero_add,Nat.one_ne_zero,if_false] at hB9;clear hC9 hA9 HTO HLE;have r2:=hB9.rule 1 rfl;obtain ⟨S2,hS2⟩:∃ S2:ST,{ S with G:=G9,f:=upd S.f (5,S.hs,7) q,qc:={ S.qc with s:=wrap64 (S.qc.s+1) },m:=S.m+1 }=S2:=⟨_,rfl⟩;rw [hS2] at hB9;have hc2:S.c=S2.c:=by rw [<- hS2]
 rw [hc2] at hB9;have HS2:=zH hS2;clear hS2;have hB8:=hB9.sub (.cons _ (.cons _ (List.Sublist.refl _)));clear hB9;have HC2:=zH hc2;clear hc2;go_wp2_with fail;refine (unlink_t S.hs hB8).mono ?_;rintro e w4 ⟨rfl,b1,b2,u,hE5⟩;go_wp2_with fail;go_ret;rw [<- HC2.out,<- HS2.out] at hE5;exact ⟨rfl,G9,b1,b2,u,hE5⟩
end
section
variable {w0 w:World} {L:List Item} {l c:Nat} {b1 b2:Nat} {x y z W C X k key to:Int}
theorem step_u (F p:Nat) (u:Value) (q:Value) (Y:Nat) (hx:∀ (ar:Array Value) (v:World),(callFunc F ar).run prog v=.ok (.enter F ar) v) (hy:∀ (ar:Array Value) (v:World),(callFunc Y ar).run prog v=.ok (.enter Y ar) v) (Q:Int->World->Prop)
  (hE:Env w0 (boxI l (ukC c x y z W C X k key to (cvP b1 b2) 0)::boxI b1 [mvL F p]::L) w)
  (hc:Calls prog F #[.pointer (some ⟨p,0,none⟩),u] w fun e w1=>∃ s,e=.returned (.int .i64 s)/\(s=0->Q 0 w1)/\(s≠0->w1.cell? ⟨b2,0,none⟩=some (.func (.func Y) #[q] #[])/\Calls prog Y #[q,.int .i64 s] w1 fun e2 w2=>∃ s2,e2=.returned (.int .i64 s2)/\Q s2 w2)) :
  Calls prog 224 #[.pointer (some ⟨l,0,none⟩),u] w fun e w'=>∃ s,e=.returned (.int .i64 s)/\Q s w':=by
 have HST:=zH (stepP_r (o:=17) F hx (.pointer (some ⟨p,0,none⟩)) u q Y hy b1 b2 Q (hE.rule 0 rfl 17) (hE.rule 0 rfl 18) (hE.rule 1 rfl 0) hc);clear hc hE;go_enter func224,ntmps224;go_wp2_with fail;refine HST.out.mono ?_;rintro e w1 ⟨s,rfl,hQ⟩;go_wp2_with fail;go_ret;exact ⟨s,rfl,hQ⟩
theorem stepMv_u (F:Nat) (u:Value) (hx:∀ (ar:Array Value) (v:World),(callFunc F ar).run prog v=.ok (.enter F ar) v) (Q:Ending->World->Prop)
  (hE:Env w0 (boxI l (ukC c x y z W C X k key to (mvL F l) 0)::L) w)
  (hc:Calls prog F #[.pointer (some ⟨l,0,none⟩),u] w fun e w'=>∃ s,e=.returned (.int .i64 s)/\Q (.returned (.int .i64 s)) w') :
  Calls prog 224 #[.pointer (some ⟨l,0,none⟩),u] w Q:=by
 have HST:=zH (stepMv_r (o:=17) F hx (.pointer (some ⟨l,0,none⟩)) u (fun o w'=>∃ s,o=.returned (.int .i64 s)/\Q (.returned (.int .i64 s)) w') (hE.rule 0 rfl 17) (hE.rule 0 rfl 18) (hc.mono fun e w' ⟨s,he,hq⟩=>⟨s,he,s,rfl,hq⟩));clear hc hE;go_enter func224,ntmps224;go_wp2_with fail;refine HST.out.mono ?_;rintro e w1 ⟨s,rfl,hQ⟩;go_wp2_with fail;exact hQ
theorem stepMv_k (F:Nat) (u:Value) (hx:∀ (ar:Array Value) (v:World),(callFunc F ar).run prog v=.ok (.enter F ar) v) (Q:Ending->World->Prop)
  (hE:Env w0 (boxI l (lkC c x y z W C X (mvL F l) 0)::L) w)
  (hc:Calls prog F #[.pointer (some ⟨l,0,none⟩),u] w fun e w'=>∃ s,e=.returned (.int .i64 s)/\Q (.returned (.int .i64 s)) w') :
  Calls prog 213 #[.pointer (some ⟨l,0,none⟩),u] w Q:=by
 have HST:=zH (stepMv_r (o:=13) F hx (.pointer (some ⟨l,0,none⟩)) u (fun o w'=>∃ s,o=.returned (.int .i64 s)/\Q (.returned (.int .i64 s)) w') (hE.rule 0 rfl 13) (hE.rule 0 rfl 14) (hc.mono fun e w' ⟨s,he,hq⟩=>⟨s,he,s,rfl,hq⟩));clear hc hE;go_enter func213,ntmps213;go_wp2_with fail;refine HST.out.mono ?_;rintro e w1 ⟨s,rfl,hQ⟩;go_wp2_with fail;exact hQ
end
abbrev srT (c sb a:Nat) (rt key:Int):Item:=boxI sb (srC c rt key true (.pointer (some ⟨a,0,none⟩)))
abbrev lnT (c a:Nat) (key:Int) (lnx:Value) (wd:Int) (L:Lm):Item:=boxI a (laneC c 0 key true lnx 1 L.p.1 L.p.2.1 L.p.2.2 L.W L.C L.X wd L.fd L.V)
def PSub (C:Cf) (c o:Nat) (d:Dd) (K:Kt) (sp:Value) (F Y:Value) (sub:List Item):Prop :=
 (K.pc=1/\∃ sb,sp=.pointer (some ⟨sb,0,none⟩)/\F=mvL 132 sb/\Y=mvL 133 o/\SIt c sb (rtM C d) d.key true K.on K.L 0 sub) \/
 (K.pc=2/\∃ a left s gl,F=mvL 251 a/\Y=cmV c d.ok d.key d.val d.lv o 6 84 208/\LeftIs C d K.T left s gl/\sub=boxI a (avD c a d K.T left s)::gl) \/
 (K.pc=3/\∃ l,F=mvL 213 l/\Y=mvL 214 o/\sub=[boxI l (lkC c K.L.p.1 K.L.p.2.1 K.L.p.2.2 K.L.W K.L.C K.L.X (mvL (if K.laid then 277 else 247) l) 0)]) \/
 ((K.pc=4\/K.pc=5)/\∃ l sb a lnx wd,sp=.pointer (some ⟨sb,0,none⟩)/\F=mvL 224 l/\Y=mvL 244 o/\sub=[boxI l (ukC c K.L.p.1 K.L.p.2.1 K.L.p.2.2 K.L.W K.L.C K.L.X (rtM C d) d.key K.to (mvL (if K.pc=4 then 260 else 287) l) 0),srT c sb a (rtM C d) d.key,lnT c a d.key lnx wd K.L]) \/
 (K.pc=6/\∃ l sb a lnx wd b3 b4 s2 sub2,sp=.pointer (some ⟨sb,0,none⟩)/\F=mvL 224 l/\Y=mvL 244 o/\SIt c s2 (rtM C d) d.key false K.on2 K.L2 0 sub2/\sub=boxI l (ukC c K.L.p.1 K.L.p.2.1 K.L.p.2.2 K.L.W K.L.C K.L.X (rtM C d) d.key K.to (cvP b3 b4) 0)::srT c sb a (rtM C d) d.key::lnT c a d.key lnx wd K.L::boxI b3 [mvL 132 s2]::boxI b4 [mvL 305 l]::sub2) \/
 (K.pc=7/\∃ l sb a lnx wd b3 b4 r,sp=.pointer (some ⟨sb,0,none⟩)/\F=mvL 224 l/\Y=mvL 244 o/\sub=[boxI l (ukC c K.L.p.1 K.L.p.2.1 K.L.p.2.2 K.L.W K.L.C K.L.X (rtM C d) d.key K.to (cvP b3 b4) 0),srT c sb a (rtM C d) d.key,lnT c a d.key lnx wd K.L,boxI b3 [mvL 322 r],boxI b4 [mvE l 17],boxI r (rtv c (nxR r K.T.rpc) K.T.rs K.T.re)])
def PM (C:Cf) (c:Nat) (d:Dd) (K:Kt) (o:Nat) (ps:List Item):Prop :=
 (∃ b1 b2 F Y sp sub,ps=boxI o (opT c d.ok d.key d.val d.lv (rtM C d) (cvP b1 b2) 0 sp 0 false 0)::boxI b1 [F]::boxI b2 [Y]::sub/\PSub C c o d K sp F Y sub) \/
 (K.pc=9/\d.ok=4/\∃ sb a lnx wd,ps=[boxI o (opT c d.ok d.key d.val d.lv (rtM C d) (mvL 243 o) 0 (.pointer (some ⟨sb,0,none⟩)) 0 false 0),srT c sb a (rtM C d) d.key,lnT c a d.key lnx wd K.L])
def OutP (w0:World) (R:List Item) (C:Cf) (X:Tm) (V:Wm) (d:Dd) (o n:Nat) (qc:Cnt) (q:Int × Kt × Mem) (s:Int) (w':World):Prop :=
 s=q.1/\∃ F' k' G' qc' n' ps',Nx n qc n' qc'/\(q.1=0->PM C X.c d q.2.1 o ps')/\(q.1≠0->∃ nx sp,ps'=[boxI o (opT X.c d.ok d.key d.val d.lv (rtM C d) nx q.1 sp q.2.1.err q.2.1.dn q.2.1.vl)])/\Env w0 (ps'++LT (SPK C { X with F:=F',kq:=k' } V q.2.1 q.2.2 G' qc' n') R) w'
theorem OutP.fin {w0 w:World} {R:List Item} {C:Cf} {X:Tm} {V:Wm} {d:Dd} {o n n':Nat} {K:Kt} {f:Mem} {G:Nat->Prop} {qc qc0:Cnt} {F:Nat->Prop} {k:Nat} {nx sp:Value} {s:Int} (hs:s≠0) (hn:Nx n qc0 n' qc) (hE:Env w0 (boxI o (opT X.c d.ok d.key d.val d.lv (rtM C d) nx s sp K.err K.dn K.vl)::LT (SPK C { X with F:=F,kq:=k } V K f G qc n') R) w):OutP w0 R C X V d o n qc0 (s,K,f) s w :=
 ⟨rfl,F,k,G,qc,n',[_],hn,fun h=>absurd h hs,fun _=>⟨nx,sp,rfl⟩,hE⟩
theorem OutP.go {w0 w:World} {R sub:List Item} {C:Cf} {X:Tm} {V:Wm} {d:Dd} {o n n' b1 b2:Nat} {K:Kt} {f:Mem} {G:Nat->Prop} {qc qc0:Cnt} {F:Nat->Prop} {k:Nat} {sp F9 Y:Value} (hn:Nx n qc0 n' qc) (hp:PSub C X.c o d K sp F9 Y sub) (hE:Env w0 (boxI o (opT X.c d.ok d.key d.val d.lv (rtM C d) (cvP b1 b2) 0 sp 0 false 0)::boxI b1 [F9]::boxI b2 [Y]::(sub++LT (SPK C { X with F:=F,kq:=k } V K f G qc n') R)) w):OutP w0 R C X V d o n qc0 (0,K,f) 0 w :=
 ⟨rfl,F,k,G,qc,n',boxI o _::boxI b1 _::boxI b2 _::sub,hn,fun _=>.inl ⟨b1,b2,F9,Y,sp,sub,rfl,hp⟩,fun h=>absurd rfl h,hE⟩
theorem OutP.row {w0 w:World} {R:List Item} {C:Cf} {X:Tm} {V:Wm} {d:Dd} {o n n' sb a:Nat} {lnx:Value} {wd:Int} {K:Kt} {f:Mem} {G:Nat->Prop} {qc qc0:Cnt} {F:Nat->Prop} {k:Nat} (hn:Nx n qc0 n' qc) (hp:K.pc=9) (hd:d.ok=4) (hE:Env w0 (boxI o (opT X.c d.ok d.key d.val d.lv (rtM C d) (mvL 243 o) 0 (.pointer (some ⟨sb,0,none⟩)) 0 false 0)::srT X.c sb a (rtM C d) d.key::lnT X.c a d.key lnx wd K.L::LT (SPK C { X with F:=F,kq:=k } V K f G qc n') R) w):OutP w0 R C X V d o n qc0 (0,K,f) 0 w :=
 ⟨rfl,F,k,G,qc,n',[_,_,_],hn,fun _=>.inr ⟨hp,hd,sb,a,lnx,wd,rfl⟩,fun h=>absurd rfl h,hE⟩
theorem search_state (k key:Int) (vs:Bool) (T:Sm) (f:Mem):(searchM k key vs T f).1=0\/((searchM k key vs T f).1=1/\(searchM k key vs T f).2.1.on=true):=by
 unfold searchM
 by_cases h:T.on=true
 ·rw [if_pos h];dsimp only
  by_cases h1:(laneM 0 key vs T.e T.L f).1=1
  ·rw [if_pos h1];exact .inr ⟨rfl,by rw [h1]; decide⟩
  ·rw [if_neg h1];exact .inl rfl
 ·rw [if_neg h];exact .inl rfl
theorem rest_perm (a b c:Item) (S:ST) (sub R:List Item):(a::b::c::(sub++LT S R)).Perm (sub++LT S (a::b::c::R)):=perm_of fun z=>by
 simp only [LT,List.count_append,List.count_cons];omega
section
variable {w0 w:World} {R sub:List Item} {C:Cf} {X:Tm} {V:Wm} {K:Kt} {d:Dd} {f:Mem} {G:Nat->Prop} {qc:Cnt} {n o sb b1 b2:Nat}
theorem found_p (K':Kt) (hX:InU K'.L.X) (hd1:K'.err=0/\K'.dn=false/\K'.vl=0) (hl:K'.T.ql.length+1<=1000000) (hg:Glo w0) (a:Nat) (lnx:Value) (wd:Int) {w1:World} {n1:Nat} {qc0:Cnt} (hn1:Nx n qc0 n1 qc)
  (hE:Env w0 (boxI o (opT X.c d.ok d.key d.val d.lv (rtM C d) (cvP b1 b2) 0 (.pointer (some ⟨sb,0,none⟩)) 0 false 0)::srT X.c sb a (rtM C d) d.key::lnT X.c a d.key lnx wd K'.L::LT (SPK C X V K' f G qc n1) R) w1) (u:Int) :
  Calls prog 133 #[.pointer (some ⟨o,0,none⟩),.int .i64 u] w1 fun e2 w2=>∃ s2,e2=.returned (.int .i64 s2)/\OutP w0 R C X V d o n qc0 ((foundM C d K').1,(foundM C d K').2,f) s2 w2:=by
 obtain ⟨hd1,hd2,hd3⟩:=hd1;obtain ⟨kk,ok,key,val,lv⟩:=d;obtain ⟨T',pc',on',L',laid',on2',L2',err',dn',r',to',vl'⟩:=K';dsimp only at hd1 hd2 hd3 hX hl;subst hd1;subst hd2;subst hd3;generalize hrt:rtM C ⟨kk,ok,key,val,lv⟩=rt at *;cases hfd:L'.fd
 ·have hE9:Env w0 (boxI o (opT X.c ok key val lv rt (cvP b1 b2) 0 (.pointer (some ⟨sb,0,none⟩)) 0 false 0)::boxI sb (srC X.c rt key true (.pointer (some ⟨a,0,none⟩)))::boxI a (laneC X.c 0 key true lnx 1 L'.p.1 L'.p.2.1 L'.p.2.2 L'.W L'.C L'.X wd false L'.V)::LT (SPK C X V ⟨T',pc',on',L',laid',on2',L2',0,false,r',to',0⟩ f G qc n1) R) w1:=by dsimp only [lnT] at hE; rw [hfd] at hE; exact hE
  clear hE;refine searchedNo_t (S:=SPK C X V ⟨T',pc',on',L',laid',on2',L2',0,false,r',to',0⟩ f G qc n1) u _ hE9 ?_
  by_cases h45:ok=4\/ok=5
  ·by_cases hh:T'.hs=0
   ·by_cases hdp:decP T'.ql T'.e C.l=0
    ·have hM:foundM C ⟨kk,ok,key,val,lv⟩ ⟨T',pc',on',L',laid',on2',L2',0,false,r',to',0⟩=(1,⟨T',pc',on',L',laid',on2',L2',7,false,r',to',0⟩):=by simp [foundM,takeM,hfd,h45,hh,hdp]
     rw [hM];refine (missedLate_t (S:=SPK C X V ⟨T',pc',on',L',laid',on2',L2',0,false,r',to',0⟩ f G qc n1) h45 hh hdp hE9).mono ?_;rintro e w2 ⟨rfl,hE2⟩;subst hrt;exact ⟨1,rfl,OutP.fin (F:=X.F) (k:=X.kq) (show (1:Int)≠0 by decide) hn1 hE2⟩
    ·have hM:foundM C ⟨kk,ok,key,val,lv⟩ ⟨T',pc',on',L',laid',on2',L2',0,false,r',to',0⟩=(0,⟨{ T' with pc:=2,apc:=decP T'.ql T'.e C.l,ah:=0,an:=0,ar:=0 },2,on',L',laid',on2',L2',0,false,r',to',0⟩):=by simp [foundM,takeM,hfd,h45,hh,hdp]
     rw [hM];refine (missedAlloc_t (S:=SPK C X V ⟨T',pc',on',L',laid',on2',L2',0,false,r',to',0⟩ f G qc n1) h45 hh hdp hE9).mono ?_;rintro e w2 ⟨rfl,c1,c2,l,hE2⟩;have hlow:decP T'.ql T'.e C.l<=10:=by rcases decP_in T'.ql T'.e C.l with h9 | h9 | h9 | h9<;>omega
     subst hrt;exact ⟨0,rfl,OutP.go (F:=X.F) (k:=X.kq) (sub:=[_]) hn1 (.inr (.inl ⟨rfl,l,.slice none 0 0,0,[],rfl,rfl,LeftIs.low hlow,rfl⟩)) hE2⟩
   ·have hM:foundM C ⟨kk,ok,key,val,lv⟩ ⟨T',pc',on',L',laid',on2',L2',0,false,r',to',0⟩=(0,⟨T',3,on',L',false,on2',L2',0,false,r',to',0⟩):=by simp [foundM,hfd,h45,hh]
    rw [hM];refine (missedLink_t (S:=SPK C X V ⟨T',pc',on',L',laid',on2',L2',0,false,r',to',0⟩ f G qc n1) h45 hh hE9).mono ?_;rintro e w2 ⟨rfl,c1,c2,l,hE2⟩;subst hrt;exact ⟨0,rfl,OutP.go (F:=X.F) (k:=X.kq) (sub:=[_]) hn1 (.inr (.inr (.inl ⟨rfl,l,rfl,rfl,rfl⟩))) hE2⟩
  ·have h4:ok≠4:=fun h=>h45 (.inl h);have h5:ok≠5:=fun h=>h45 (.inr h);have hM:foundM C ⟨kk,ok,key,val,lv⟩ ⟨T',pc',on',L',laid',on2',L2',0,false,r',to',0⟩=(1,⟨T',pc',on',L',laid',on2',L2',0,false,r',to',0⟩):=by simp [foundM,hfd,h4,h5]
   rw [hM];refine (missedNo_t (S:=SPK C X V ⟨T',pc',on',L',laid',on2',L2',0,false,r',to',0⟩ f G qc n1) h4 h5 hE9).mono ?_;rintro e w2 ⟨rfl,hE2⟩;subst hrt;exact ⟨1,rfl,OutP.fin (F:=X.F) (k:=X.kq) (show (1:Int)≠0 by decide) hn1 hE2⟩
 ·have hE9:Env w0 (boxI o (opT X.c ok key val lv rt (cvP b1 b2) 0 (.pointer (some ⟨sb,0,none⟩)) 0 false 0)::boxI sb (srC X.c rt key true (.pointer (some ⟨a,0,none⟩)))::boxI a (laneC X.c 0 key true lnx 1 L'.p.1 L'.p.2.1 L'.p.2.2 L'.W L'.C L'.X wd true L'.V)::LT (SPK C X V ⟨T',pc',on',L',laid',on2',L2',0,false,r',to',0⟩ f G qc n1) R) w1:=by dsimp only [lnT] at hE; rw [hfd] at hE; exact hE
  clear hE;have hln:lnT X.c a key lnx wd L'=boxI a (laneC X.c 0 key true lnx 1 L'.p.1 L'.p.2.1 L'.p.2.2 L'.W L'.C L'.X wd true L'.V):=by dsimp only [lnT]; rw [hfd]
  refine searchedYes_t (S:=SPK C X V ⟨T',pc',on',L',laid',on2',L2',0,false,r',to',0⟩ f G qc n1) u _ hE9 ?_
  by_cases h4:ok=4
  ·subst h4
   by_cases hh:T'.hs=0
   ·by_cases hdp:decP T'.ql T'.e C.l=0
    ·have hM:foundM C ⟨kk,4,key,val,lv⟩ ⟨T',pc',on',L',laid',on2',L2',0,false,r',to',0⟩=(1,⟨T',pc',on',L',laid',on2',L2',7,false,r',to',0⟩):=by simp [foundM,takeM,hfd,hh,hdp]
     rw [hM];refine (foundPutLate_t (S:=SPK C X V ⟨T',pc',on',L',laid',on2',L2',0,false,r',to',0⟩ f G qc n1) hh hdp hE9).mono ?_;rintro e w2 ⟨rfl,hE2⟩;subst hrt;exact ⟨1,rfl,OutP.fin (F:=X.F) (k:=X.kq) (show (1:Int)≠0 by decide) hn1 hE2⟩
    ·have hM:foundM C ⟨kk,4,key,val,lv⟩ ⟨T',pc',on',L',laid',on2',L2',0,false,r',to',0⟩=(0,⟨{ T' with pc:=2,apc:=decP T'.ql T'.e C.l,ah:=0,an:=0,ar:=0 },2,on',L',laid',on2',L2',0,false,r',to',0⟩):=by simp [foundM,takeM,hfd,hh,hdp]
     rw [hM];refine (foundPutAlloc_t (S:=SPK C X V ⟨T',pc',on',L',laid',on2',L2',0,false,r',to',0⟩ f G qc n1) hh hdp hE9).mono ?_;rintro e w2 ⟨rfl,c1,c2,l,hE2⟩;have hlow:decP T'.ql T'.e C.l<=10:=by rcases decP_in T'.ql T'.e C.l with h9 | h9 | h9 | h9<;>omega
     subst hrt;exact ⟨0,rfl,OutP.go (F:=X.F) (k:=X.kq) (sub:=[_]) hn1 (.inr (.inl ⟨rfl,l,.slice none 0 0,0,[],rfl,rfl,LeftIs.low hlow,rfl⟩)) hE2⟩
   ·have hM:foundM C ⟨kk,4,key,val,lv⟩ ⟨T',pc',on',L',laid',on2',L2',0,false,r',to',0⟩=(0,⟨T',9,on',L',laid',on2',L2',0,false,r',to',0⟩):=by simp [foundM,hfd,hh]
    rw [hM];refine (foundPutHeld_t (S:=SPK C X V ⟨T',pc',on',L',laid',on2',L2',0,false,r',to',0⟩ f G qc n1) hh hE9).mono ?_;rintro e w2 ⟨rfl,hE2⟩;subst hrt;rw [show (SPK C X V ⟨T',pc',on',L',laid',on2',L2',0,false,r',to',0⟩ f G qc n1).c=X.c from rfl,<- hln] at hE2;exact ⟨0,rfl,OutP.row (F:=X.F) (k:=X.kq) hn1 rfl rfl hE2⟩
  ·by_cases h6:ok=6
   ·subst h6;have hM:foundM C ⟨kk,6,key,val,lv⟩ ⟨T',pc',on',L',laid',on2',L2',0,false,r',to',0⟩=(0,⟨T',4,on',L',laid',on2',L2',0,false,r',slotI L'.X,0⟩):=by simp [foundM,hfd]
    rw [hM];refine (foundRem_t (S:=SPK C X V ⟨T',pc',on',L',laid',on2',L2',0,false,r',to',0⟩ f G qc n1) hX hg hE9).mono ?_;rintro e w2 ⟨rfl,c1,c2,l,hE2⟩;subst hrt;rw [show (SPK C X V ⟨T',pc',on',L',laid',on2',L2',0,false,r',to',0⟩ f G qc n1).c=X.c from rfl,<- hln] at hE2;exact ⟨0,rfl,OutP.go (F:=X.F) (k:=X.kq) (sub:=[_,_,_]) hn1 (.inr (.inr (.inr (.inl ⟨.inl rfl,l,sb,a,lnx,wd,rfl,rfl,rfl,rfl⟩)))) hE2⟩
   ·by_cases h5:ok=5
    ·subst h5;have hM:foundM C ⟨kk,5,key,val,lv⟩ ⟨T',pc',on',L',laid',on2',L2',0,false,r',to',0⟩=(1,⟨{ T' with ql:=dropQ T'.hs T'.ql,hs:=0 },pc',on',L',laid',on2',L2',0,false,r',to',L'.V⟩):=by simp [foundM,hfd]
     rw [hM];refine (foundAdd_t (S:=SPK C X V ⟨T',pc',on',L',laid',on2',L2',0,false,r',to',0⟩ f G qc n1) (Nat.le_trans hl (by decide)) hE9).mono ?_;rintro e w2 ⟨rfl,F',k',hE2⟩;subst hrt;exact ⟨1,rfl,OutP.fin (F:=F') (k:=k') (show (1:Int)≠0 by decide) hn1 hE2⟩
    ·have hM:foundM C ⟨kk,ok,key,val,lv⟩ ⟨T',pc',on',L',laid',on2',L2',0,false,r',to',0⟩=(1,⟨T',pc',on',L',laid',on2',L2',0,true,r',to',L'.V⟩):=by simp [foundM,hfd,h4,h5,h6]
     rw [hM];refine (foundGet_t (S:=SPK C X V ⟨T',pc',on',L',laid',on2',L2',0,false,r',to',0⟩ f G qc n1) h4 h5 h6 hE9).mono ?_;rintro e w2 ⟨rfl,hE2⟩;subst hrt;exact ⟨1,rfl,OutP.fin (F:=X.F) (k:=X.kq) (show (1:Int)≠0 by decide) hn1 hE2⟩
theorem op1_p (hpc:K.pc=1) (hon:K.on=true->LaneOk C K.L) (hsp:(searchM (rtM C d) d.key true ⟨K.on,K.L,K.T.e,K.r⟩ f).1=1->InU (searchM (rtM C d) d.key true ⟨K.on,K.L,K.T.e,K.r⟩ f).2.1.L.X) (hda:K.err=0/\K.dn=false/\K.vl=0) (hl:K.T.ql.length+1<=1000000) (hg:Glo w0) (hn:n < maxLen) (hS:SIt X.c sb (rtM C d) d.key true K.on K.L 0 sub)
  (hE:Env w0 (boxI o (opT X.c d.ok d.key d.val d.lv (rtM C d) (cvP b1 b2) 0 (.pointer (some ⟨sb,0,none⟩)) 0 false 0)::boxI b1 [mvL 132 sb]::boxI b2 [mvL 133 o]::(sub++LT (SPK C X V K f G qc n) R)) w) :
  Calls prog 33 #[.pointer (some ⟨o,0,none⟩),.iface 26 (.pointer (some ⟨V.p,0,none⟩))] w fun e w'=>∃ s,e=.returned (.int .i64 s)/\OutP w0 R C X V d o n qc (opM C d K f) s w':=by
 have hM:opM C d K f=if (searchM (rtM C d) d.key true ⟨K.on,K.L,K.T.e,K.r⟩ f).1=1 then ((foundM C d { K with on:=(searchM (rtM C d) d.key true ⟨K.on,K.L,K.T.e,K.r⟩ f).2.1.on,L:=(searchM (rtM C d) d.key true ⟨K.on,K.L,K.T.e,K.r⟩ f).2.1.L,r:=(searchM (rtM C d) d.key true ⟨K.on,K.L,K.T.e,K.r⟩ f).2.1.r,T:={ K.T with e:=(searchM (rtM C d) d.key true ⟨K.on,K.L,K.T.e,K.r⟩ f).2.1.e } }).1,(foundM C d { K with on:=(searchM (rtM C d) d.key true ⟨K.on,K.L,K.T.e,K.r⟩ f).2.1.on,L:=(searchM (rtM C d) d.key true ⟨K.on,K.L,K.T.e,K.r⟩ f).2.1.L,r:=(searchM (rtM C d) d.key true ⟨K.on,K.L,K.T.e,K.r⟩ f).2.1.r,T:={ K.T with e:=(searchM (rtM C d) d.key true ⟨K.on,K.L,K.T.e,K.r⟩ f).2.1.e } }).2,(searchM (rtM C d) d.key true ⟨K.on,K.L,K.T.e,K.r⟩ f).2.2) else (0,{ K with on:=(searchM (rtM C d) d.key true ⟨K.on,K.L,K.T.e,K.r⟩ f).2.1.on,L:=(searchM (rtM C d) d.key true ⟨K.on,K.L,K.T.e,K.r⟩ f).2.1.L,r:=(searchM (rtM C d) d.key true ⟨K.on,K.L,K.T.e,K.r⟩ f).2.1.r,T:={ K.T with e:=(searchM (rtM C d) d.key true ⟨K.on,K.L,K.T.e,K.r⟩ f).2.1.e } },(searchM (rtM C d) d.key true ⟨K.on,K.L,K.T.e,K.r⟩ f).2.2):=by
  unfold opM;rw [if_pos hpc]
 rw [hM];refine step_tV 132 sb 133 (.pointer (some ⟨o,0,none⟩)) _ (fun _ _=>by kernel_rfl) (fun _ _=>by kernel_rfl) _ hE ?_;refine (search_I (C:=C) (X:=X) (V:=V) (T:=K.T) (r:=K.r) hon hg hn hS (hE.perm (rest_perm _ _ _ _ _ _))).mono ?_;rintro e w1 ⟨rfl,G',qc',n',sub',hn',hS',hE'⟩;have hst:=search_state (rtM C d) d.key true ⟨K.on,K.L,K.T.e,K.r⟩ f;generalize searchM (rtM C d) d.key true ⟨K.on,K.L,K.T.e,K.r⟩ f=q at *;obtain ⟨q1,⟨on',L',e',r'⟩,f'⟩:=q;dsimp only at hst hS' hE' hsp ⊢;have hE2:=hE'.perm (rest_perm _ _ _ _ _ _).symm;refine ⟨q1,rfl,fun h0=>?_,fun h0=>?_⟩
 ·subst h0;rw [if_neg (by decide)];exact OutP.go (F:=X.F) (k:=X.kq) hn' (.inl ⟨hpc,sb,rfl,rfl,rfl,hS'⟩) hE2
 ·rcases hst with h9 | ⟨h9,h8⟩
  ·exact absurd h9 h0
  ·subst h9;subst h8;rw [if_pos rfl]
   rcases hS' with ⟨h7,-⟩ | ⟨-,a,nx,wd,B1,B2,-,rfl⟩
   ·exact absurd h7 (by decide)
   ·refine ⟨hE2.rule 2 rfl 0,?_⟩;have hE3:=hE2.sub (L':=boxI o (opT X.c d.ok d.key d.val d.lv (rtM C d) (cvP b1 b2) 0 (.pointer (some ⟨sb,0,none⟩)) 0 false 0)::boxI sb (srC X.c (rtM C d) d.key true (.pointer (some ⟨a,0,none⟩)))::boxI a (laneV X.c 0 d.key true nx 1 wd (pfS 1 L') (pvS 1 L') L')::LT (SP C { X with cr:=r' } V { K.T with e:=e' } f' G' qc' n') R) (.cons_cons _ (.cons _ (.cons _ (.cons_cons _ (.cons_cons _ (.cons _ (.cons _ (List.Sublist.refl _))))))));exact found_p (C:=C) (X:=X) (V:=V) (d:=d) (f:=f') (G:=G') (qc:=qc') (n:=n) { K with on:=true,L:=L',r:=r',T:={ K.T with e:=e' } } (hsp rfl) hda hl hg a nx wd hn' hE3 1
end
structure KOk (C:Cf) (ds:List Dd) (B:Nat) (d:Dd) (K:Kt):Prop where
 (t:OkT C ds B K.T)
 (tp:K.T.pc=if K.pc=2 then 2 else if K.pc=7 then 3 else if K.pc=8 then 4 else 0)
 (pc:K.pc<=9)
 (da:1<=K.pc->K.pc≠8->K.err=0/\K.dn=false/\K.vl=0)
 (s1:K.pc=1->K.on=true->LaneOk C K.L)
 (s2:K.pc=6->K.on2=true->LaneOk C K.L2)
 (sp:3<=K.pc->K.pc≠8->SpotOk C K.L)
 (un:4<=K.pc->K.pc≠8->markB K.L.X=false/\1<=K.L.C)
 (to:4<=K.pc->K.pc<=7->K.to<=C.s)
 (ins:K.pc=2\/K.pc=3->d.ok=4\/d.ok=5)
 (pu:K.pc=9->d.ok=4)
 (lk:K.pc=3\/K.pc=9->K.T.hs≠0)
 (ho:K.T.hs≠0->(K.pc=1\/K.pc=2\/K.pc=3\/K.pc=9\/(K.pc=4/\K.to=K.T.hs))/\(d.ok=4\/d.ok=5))
 (kk:K.pc=2->K.T.apc<=10\/K.T.apc - 10 < (WD C d K.T).length)
 (nd:K.pc≠0->1<=K.T.nd)
section
variable {C:Cf} {ds:List Dd} {B:Nat} {T:Th} {d:Dd} {K:Kt} {f:Mem}
theorem OkT.idle (h:OkT C ds B T) {x:Int} {y:Bool} (hx:0<=x/\x<=B):OkT C ds B { T with pc:=0,done:=x,full:=y } :=
 { e:=h.e,w:=h.w,hs:=h.hs,rs:=h.rs,ql:=h.ql,nd:=h.nd,len:=h.len,done:=hx,pc:=.inl rfl,p1:=fun h=>no h rfl,nd1:=fun h=>absurd rfl h,apc:=fun h=>no h rfl,low:=fun h=>no h rfl,adv:=fun h=>no h rfl,born:=fun h=>no h rfl,pool:=fun h=>no h rfl,an:=h.an,rpc:=fun h=>no h rfl,rsp:=fun h=>no h rfl,re:=h.re,gpc:=h.gpc,give:=fun h=>no h rfl,ghu:=h.ghu,gh:=h.gh,gv:=fun h=>no h rfl }
theorem OkT.epoch (h:OkT C ds B T) (h0:T.pc=0) {x:Int} (hx:0<=x/\x<=C.l):OkT C ds B { T with e:=x } :=
 { e:=hx,w:=h.w,hs:=h.hs,rs:=h.rs,ql:=h.ql,nd:=h.nd,len:=h.len,done:=h.done,pc:=h.pc,p1:=h.p1,nd1:=h.nd1,apc:=h.apc,low:=h.low,adv:=fun h9=>no (h0.symm.trans h9) rfl,born:=h.born,pool:=h.pool,an:=h.an,rpc:=h.rpc,rsp:=h.rsp,re:=h.re,gpc:=h.gpc,give:=h.give,ghu:=h.ghu,gh:=h.gh,gv:=h.gv }
theorem OkT.same {T1:Th} (h:OkT C ds B T) (hp:T.pc=T1.pc) {x:Nat} {y:Int} {z:Bool} (he:T={ T1 with pc:=x,done:=y,full:=z }) (hd:0<=T1.done/\T1.done<=B):OkT C ds B T1:=by
 subst he;have hx:x=T1.pc:=hp;subst hx;exact { e:=h.e,w:=h.w,hs:=h.hs,rs:=h.rs,ql:=h.ql,nd:=h.nd,len:=h.len,done:=hd,pc:=h.pc,p1:=h.p1,nd1:=h.nd1,apc:=h.apc,low:=h.low,adv:=h.adv,born:=h.born,pool:=h.pool,an:=h.an,rpc:=h.rpc,rsp:=h.rsp,re:=h.re,gpc:=h.gpc,give:=h.give,ghu:=h.ghu,gh:=h.gh,gv:=h.gv }
theorem search_mem (k key:Int) (vs:Bool) {on:Bool} {L:Lm} {e r:Int} (h:on=true->(∃ r,L.p=(4,0,r))\/∃ c,L.p=(5,c,7)) (f:Mem):(searchM k key vs ⟨on,L,e,r⟩ f).2.2=f\/∃ p v,((∃ r,p=(4,0,r))\/∃ c,p=(5,c,7))/\(searchM k key vs ⟨on,L,e,r⟩ f).2.2=upd f p v/\v=wordI false (slotI L.X) e:=by
 cases on
 ·exact .inl rfl
 ·have hM:(searchM k key vs ⟨true,L,e,r⟩ f).2.2=(laneM 0 key vs e L f).2.2:=by unfold searchM; rw [if_pos rfl]
  rw [hM];unfold laneM
  repeat' split
  all_goals first
   | exact .inl rfl
   | (rename_i h9; refine .inr ⟨L.p,wordI false (slotI L.X) e,h rfl,?_,rfl⟩; show swf f L.p L.W _=_; unfold swf; rw [if_pos h9])
   | (rename_i h9; refine .inl ?_; show swf f L.p L.W _=_; unfold swf; rw [if_neg h9])
theorem LnkF.upd {p:Plc} {v:Int} (h:LnkF C f) (hv:slotI v<=C.s):LnkF C (upd f p v):=by
 refine ⟨fun r=>?_,fun i=>?_⟩
 ·by_cases hp:p=(4,0,r)
  ·subst hp; rw [upd_same]; exact hv
  ·rw [upd_other f v (fun e=>hp e.symm)]; exact h.root r
 ·by_cases hp:p=(5,i,7)
  ·subst hp; rw [upd_same]; exact hv
  ·rw [upd_other f v (fun e=>hp e.symm)]; exact h.link i
theorem LnkF.updo {p:Plc} {v:Int} (h:LnkF C f) (h1:∀ r,p≠(4,0,r)) (h2:∀ i,p≠(5,i,7)):LnkF C (Go.Proofs.YtdknbegcflldjaaGreatDoor.upd f p v):=by
 refine ⟨fun r=>?_,fun i=>?_⟩
 ·rw [upd_other f v (fun e=>h1 r e.symm)]; exact h.root r
 ·rw [upd_other f v (fun e=>h2 i e.symm)]; exact h.link i
theorem LnkF.swf {p:Plc} {o v:Int} (h:LnkF C f) (hv:slotI v<=C.s):LnkF C (swf f p o v):=by
 unfold Go.Proofs.YtdknbegcflldjaaGreatDoor.swf
 split
 ·exact h.upd hv
 ·exact h
theorem OkF.updL {p:Plc} {v:Int} (h:OkF C f) (hp:(∃ r,p=(4,0,r))\/∃ c,p=(5,c,7)) (hu:∀ x,InU (Go.Proofs.YtdknbegcflldjaaGreatDoor.upd f p v x)):OkF C (Go.Proofs.YtdknbegcflldjaaGreatDoor.upd f p v):=by
 have h1:p≠(2,0,0):=by rcases hp with ⟨r,rfl⟩ | ⟨c,rfl⟩<;>simp
 have h2:∀ i,p≠(5,i,2):=by intro i; rcases hp with ⟨r,rfl⟩ | ⟨c,rfl⟩<;>simp
 have h3:p≠(1,0,0):=by rcases hp with ⟨r,rfl⟩ | ⟨c,rfl⟩<;>simp
 refine ⟨hu,?_,fun i=>?_,?_⟩
 ·rw [upd_other f v (fun e=>h1 e.symm)]; exact h.pool
 ·rw [upd_other f v (fun e=>h2 i e.symm)]; exact h.chain i
 ·rw [upd_other f v (fun e=>h3 e.symm)]; exact h.ep
theorem OkF.swfL {p:Plc} {o v:Int} (h:OkF C f) (hp:(∃ r,p=(4,0,r))\/∃ c,p=(5,c,7)) (hu:∀ x,InU (Go.Proofs.YtdknbegcflldjaaGreatDoor.swf f p o v x)):OkF C (Go.Proofs.YtdknbegcflldjaaGreatDoor.swf f p o v):=by
 unfold Go.Proofs.YtdknbegcflldjaaGreatDoor.swf at hu ⊢
 split
 ·rename_i h9;rw [if_pos h9] at hu;exact h.updL hp hu
 ·exact h
end
end
end Go.Proofs.YtdknbegcflldjaaGreatDoor
