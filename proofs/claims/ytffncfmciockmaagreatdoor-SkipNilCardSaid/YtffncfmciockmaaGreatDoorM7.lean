/- What is proved on the way to the statement, part 7: contracts of the functions, among other things in memory. -/
import Derived.Test.YtffncfmciockmaaGreatDoorM6

open _root_.Go.Proofs.Tryz
set_option maxRecDepth 100000
set_option maxHeartbeats 25600000
namespace Go.Proofs.YtffncfmciockmaaGreatDoor
section
open Go.RowKit Go.Maps
def fdC (c:Nat) (key:Int) (nx:Value) (st:Int) (g h:Nat) (lv:Int):List Value:=[.pointer (some ⟨c,0,none⟩),.int .u64 key,nx,.int .i64 st,.slice (some ⟨g,0,none⟩) h h,.int .i64 lv]
section
variable {w0 w:World} {L:List Item} {fb g h c:Nat} {key:Int} {nx:Value} {st:Int} {ps:List Value} {l0:Int}
theorem along_f (lv:Nat) (hlt:lv < h) (hh:h<=1000) (hps:ps.length=h) (x y z:Int) (hE:Env w0 (boxI fb (fdC c key nx st g h l0)::boxI g ps::L) w) :
  Calls prog 174 #[.pointer (some ⟨fb,0,none⟩),.int .i64 (lv:Int),.agg #[.int .i64 x,.int .i64 y,.int .i64 z,.int .i64 0]] w fun o w'=>o=.returned (.int .i64 0)/\∃ b1 b2 a,Env w0 (boxI b1 [mvL 206 a]::boxI b2 [mvL 207 fb]::boxI a (laneC c lv key false (mvL 234 a) 0 x y z 0 0 0 0 false 0)::boxI fb (fdC c key (cvP b1 b2) st g h lv)::boxI g (ps.set lv (.pointer (some ⟨a,0,none⟩)))::L) w':=by
 have hmf:=makeF;have hE1:=hE.box w.heap.size rfl [.int .i64 x,.int .i64 y,.int .i64 z,.int .i64 0] 150;have r:=hE1.rule 1 rfl;unfold fdC at r;have f5:=hE1.thaw 1 rfl 5 (by simp [fdC]);have hP:=hE1.put 1 rfl (j:=5) (by simp [fdC]) (.int .i64 lv);replace hP:Env w0 (boxI w.heap.size [.int .i64 x,.int .i64 y,.int .i64 z,.int .i64 0]::boxI fb (fdC c key nx st g h lv)::boxI g ps::L) _:=hP;have hlti:(lv:Int) < (h:Int):=by omega
 have hhi:(h:Int)<=1000:=by omega
 have hge:∃ u,ps[lv]?=some u:=⟨_,List.getElem?_eq_getElem (by omega)⟩;obtain ⟨u,hu⟩:=hge;have HU:=zH hu;have HPS:Hid (lv < ps.length):=zH (by omega);clear hE hE1 hps hu;go_enter func174,ntmps174;go_wp2_with fail;generalize World.setCell _ _ _=w2 at *;generalize w.heap.size=Y at *;clear r f5;refine Ord3.wp_chain [?_,?_,?_,?_,?_,?_,?_,?_,?_,?_,?_,?_,?_,?_,?_,?_,?_,?_] [15,17] (fun w'=>Blk 0 w' Y [.int .i64 x,.int .i64 y,.int .i64 z,.int .i64 0]/\Blk 0 w' fb (fdC c key nx st g h lv)) (Ord3.Stage fun κs=>[Env w0 (boxI Y [.int .i64 x,.int .i64 y,.int .i64 z,.int .i64 0]::boxI fb (fdC c key nx st g h lv)::boxI g ps::L),fun w'=>∃ a,κs.getD 0 undef=.pointer (some ⟨a,0,none⟩)/\Env w0 (boxI a (laneC c lv key false (mvL 234 a) 0 x y z 0 0 0 0 false 0)::boxI Y [.int .i64 x,.int .i64 y,.int .i64 z,.int .i64 0]::boxI fb (fdC c key nx st g h lv)::boxI g ps::L) w',fun w'=>∃ a,Env w0 (boxI a (laneC c lv key false (mvL 234 a) 0 x y z 0 0 0 0 false 0)::boxI Y [.int .i64 x,.int .i64 y,.int .i64 z,.int .i64 0]::boxI fb (fdC c key nx st g h lv)::boxI g (ps.set lv (.pointer (some ⟨a,0,none⟩)))::L) w']) (by kernel_rfl) (by kernel_rfl) (by kernel_rfl) ⟨hP.drew.get 0 rfl,hP.drew.get 1 rfl⟩ ⟨_,rfl,hP.drew⟩ (fun hT=>?_);rotate_left 18;have hT9:=zH hT;clear hT
 repeat ((first
  | (focus (refine Ord3.in_value (v:=?_) hT9.o (by decide) ?_ (by rfl) ?_ ?_; rotate_left 2; (intro w5 hS; have r0:=Blk.rule hS.1; have r1:=Blk.rule hS.2; unfold fdC at r1; go_simp<;>rfl); rotate_right; (focus rfl)))
  | (focus (refine Ord3.in_off hT9.o (by decide) ?_ (by rfl) ?_; (focus rfl))));try simp only [Act.put,zA,zZ,zS])
 refine Ord3.in_turn (fun u=>∃ q,u=.pointer (some ⟨q,0,none⟩)) _ ⟨0,rfl⟩ hT9.o rfl (by decide) (by rfl) ?_ (Or.inl rfl) (by rfl) ?_ ?_
 ·rfl
 ·rintro w7 hC7 ⟨P7,hP7,hA7⟩;cases hP7;go_simp;simp only [Ord3.Lands];refine (new_l c x y z lv key false hA7).mono ?_;rintro o8 w8 ⟨r8,rfl,hE8⟩;exact ⟨_,rfl,⟨r8,rfl⟩,⟨hE8.get 1 rfl,hE8.get 2 rfl⟩,_,rfl,r8,rfl,hE8⟩
 rintro _ ⟨r9,rfl⟩
 try simp only [Act.put,zA,zZ,zS]
 repeat ((first
  | (focus (refine Ord3.in_value (v:=?_) hT9.o (by decide) ?_ (by rfl) ?_ ?_; rotate_left 2; (intro w5 hS; have r0:=Blk.rule hS.1; have r1:=Blk.rule hS.2; unfold fdC at r1; go_simp<;>rfl); rotate_right; (focus rfl)))
  | (focus (refine Ord3.in_off hT9.o (by decide) ?_ (by rfl) ?_; (focus rfl))));try simp only [Act.put,zA,zZ,zS])
 refine Ord3.in_turn (fun u=>u=undef) _ rfl hT9.o rfl (by decide) (by rfl) ?_ (Or.inr ⟨_,15,[],rfl,by kernel_rfl,by kernel_rfl,rfl⟩) (by rfl) ?_ ?_
 ·rfl
 ·rintro w7 hC7 ⟨P7,hP7,hA7⟩;cases hP7;obtain ⟨a8,he,hA7⟩:=hA7;cases he;have r:=(hA7.rule 3 rfl lv).trans HU.out;have g3:=hA7.thaw 3 rfl lv HPS.out;go_simp;simp only [Ord3.Lands];have h9:=hA7.put 3 rfl (j:=lv) HPS.out (.pointer (some ⟨r9,0,none⟩));exact ⟨trivial,⟨h9.get 1 rfl,h9.get 2 rfl⟩,_,rfl,r9,h9⟩
 rintro _ rfl
 try simp only [Act.put,zA,zZ,zS]
 refine Ord3.in_nil rfl ?_;rintro w9 hC9 ⟨P9,hP9,hA9⟩;cases hP9;obtain ⟨a,hA9⟩:=hA9;clear hT9 hC9 hP;have HGT:Hid (∀ v,Blk 0 v g (ps.set lv (.pointer (some ⟨a,0,none⟩)))->v.cell? ⟨g,lv,none⟩=some (.pointer (some ⟨a,0,none⟩))):=zH fun v hv=>by
  rw [hv.rule lv,List.getElem?_set_self HPS.out]
 have hA9:=hA9.sub (L':=boxI a (laneC c lv key false (mvL 234 a) 0 x y z 0 0 0 0 false 0)::boxI fb (fdC c key nx st g h lv)::boxI g (ps.set lv (.pointer (some ⟨a,0,none⟩)))::L) (.cons_cons _ (.cons _ (List.Sublist.refl _)));go_wp2_with fail;refine Ord3.wp_chain [?_,?_,?_,?_,?_,?_,?_,?_,?_,?_,?_,?_,?_,?_,?_] [13] (fun w'=>(∃ nx9,Blk 0 w' fb (fdC c key nx9 st g h lv))/\Blk 0 w' g (ps.set lv (.pointer (some ⟨a,0,none⟩)))) (Ord3.Stage fun κs=>[Env w0 (boxI a (laneC c lv key false (mvL 234 a) 0 x y z 0 0 0 0 false 0)::boxI fb (fdC c key nx st g h lv)::boxI g (ps.set lv (.pointer (some ⟨a,0,none⟩)))::L),fun w'=>∃ b1 b2,Env w0 (boxI b1 [mvL 206 a]::boxI b2 [mvL 207 fb]::boxI a (laneC c lv key false (mvL 234 a) 0 x y z 0 0 0 0 false 0)::boxI fb (fdC c key (cvP b1 b2) st g h lv)::boxI g (ps.set lv (.pointer (some ⟨a,0,none⟩)))::L) w']) (by kernel_rfl) (by kernel_rfl) (by kernel_rfl) ⟨⟨nx,hA9.drew.get 1 rfl⟩,hA9.drew.get 2 rfl⟩ ⟨_,rfl,hA9.drew⟩ (fun hT=>?_);rotate_left 15;have hT9:=zH hT;clear hT
 repeat ((first
  | (focus (refine Ord3.in_value (v:=?_) hT9.o (by decide) ?_ (by rfl) ?_ ?_; rotate_left 2; (intro w5 hS; obtain ⟨⟨nx9,hS9⟩,hS8⟩:=hS; have r1:=Blk.rule hS9; have r2:=HGT.out _ hS8; unfold fdC at r1; go_simp<;>rfl); rotate_right; (focus rfl)))
  | (focus (refine Ord3.in_off hT9.o (by decide) ?_ (by rfl) ?_; (focus rfl))));try simp only [Act.put,zA,zZ,zS])
 refine Ord3.in_turn (fun u=>u=.int .i64 0) _ rfl hT9.o rfl (by decide) (by rfl) ?_ (Or.inl rfl) (by rfl) ?_ ?_
 ·rfl
 ·rintro w7 hC7 ⟨P7,hP7,hA7⟩;cases hP7;go_simp;simp only [Ord3.Lands];refine (play_r (o:=2) 1 _ _ _ _ _ _ (by simp [fdC]) hA7 rfl).mono ?_;rintro o8 w8 ⟨rfl,b1,b2,hE8⟩;exact ⟨_,rfl,rfl,⟨⟨_,hE8.get 3 rfl⟩,hE8.get 4 rfl⟩,_,rfl,b1,b2,hE8⟩
 rintro _ rfl
 try simp only [Act.put,zA,zZ,zS]
 repeat ((first
  | (focus (refine Ord3.in_value (v:=?_) hT9.o (by decide) ?_ (by rfl) ?_ ?_; rotate_left 2; (intro w5 hS; skip; go_simp<;>rfl); rotate_right; (focus rfl)))
  | (focus (refine Ord3.in_off hT9.o (by decide) ?_ (by rfl) ?_; (focus rfl))));try simp only [Act.put,zA,zZ,zS])
 refine Ord3.in_nil rfl ?_;rintro w9 hC9 ⟨P9,hP9,hA9⟩;cases hP9;obtain ⟨b1,b2,hA9⟩:=hA9;clear hT9 hC9;go_wp2_with fail;go_ret;exact ⟨rfl,b1,b2,a,hA9⟩
end
section
variable {w0 w:World} {L:List Item} {fb g h c a:Nat} {key:Int} {nx lx:Value} {st s W C X wd pv x y z:Int} {pf:Bool} {ps:List Value}
theorem belowRoot_f (lv:Nat) (h1:1<=lv) (hlt:lv < h) (hh:h<=1000) (hga:ps[lv]?=some (.pointer (some ⟨a,0,none⟩))) (i:Nat) (hi:L[i]?=some (boxI a (laneC c lv key false lx s 4 0 lv W C X wd pf pv))) (hE:Env w0 (boxI fb (fdC c key nx st g h lv)::boxI g ps::L) w) :
  Calls prog 235 #[.pointer (some ⟨fb,0,none⟩)] w fun o w'=>o=.returned (.agg #[.int .i64 4,.int .i64 0,.int .i64 ((lv:Int) - 1),.int .i64 0])/\Env w0 (boxI fb (fdC c key nx st g h lv)::boxI g ps::L) w':=by
 have hE1:=hE.box w.heap.size rfl [.int .i64 0,.int .i64 0,.int .i64 0,.int .i64 0] 150;obtain ⟨LL,hLL⟩:∃ LL,boxI w.heap.size [.int .i64 0,.int .i64 0,.int .i64 0,.int .i64 0]::boxI fb (fdC c key nx st g h lv)::boxI g ps::L=LL:=⟨_,rfl⟩;have hl3:LL[i+3]?=some (boxI a (laneC c lv key false lx s 4 0 lv W C X wd pf pv)):=by rw [<- hLL]; exact hi
 have HC:Hid (∀ v,Env w0 LL v->Blk 0 v fb (fdC c key nx st g h lv)/\v.cell? ⟨g,lv,none⟩=some (.pointer (some ⟨a,0,none⟩))):=zH fun v hv=>by
  subst hLL;exact ⟨hv.get 1 rfl,(hv.rule 2 rfl lv).trans hga⟩
 have HAT:=zH fun (v:World) (hv:Env w0 LL v)=>at_g (hv.get (i+3) hl3);have hlti:(lv:Int) < (h:Int):=by omega
 have hhi:(h:Int)<=1000:=by omega
 have hw1:wrap64 ((lv:Int) - 1)=(lv:Int) - 1:=w64 _ (by omega);have hw2:IntKind.i64.wrap ((lv:Int) - 1)=(lv:Int) - 1:=by rw [wrap_i]; exact hw1
 have HLL:=zH hLL;rw [hLL] at hE1;clear hE hl3 hi hga hLL;go_enter func235,ntmps235;go_wp2_with fail;generalize w.alloc _=w2 at *;generalize w.heap.size=Y at *;refine OrdF.wp_float [?_,?_,?_,?_,?_,?_,?_,?_,?_,?_,?_,OrdF.Ptr,?_] [12] 11 (fun v=>Env w0 LL v) (OrdF.AF w0 [.int .i64 0,.int .i64 0,.int .i64 0,.int .i64 0] (OrdF.Sta [fun N zs=>N=LL/\zs=[.int .i64 0,.int .i64 0,.int .i64 0,.int .i64 0],fun N zs=>N=LL/\zs=[.int .i64 4,.int .i64 0,.int .i64 lv,.int .i64 0]])) (by kernel_rfl) (by kernel_rfl) (by kernel_rfl) hE1.drew ⟨_,_,⟨_,rfl,rfl,rfl⟩,.inl ⟨rfl,rfl,hE1.drew⟩⟩ (fun hT=>?_);rotate_left 12;have hT9:=zH hT;clear hT
 repeat ((first
  | (focus (refine OrdF.in_value (v:=?_) hT9.o (by decide) (by decide) ?_ (by rfl) ?_ ?_; rotate_left 2; (intro w5 hS; obtain ⟨q1,r2⟩:=HC.out _ hS; have r1:=q1.rule; unfold fdC at r1; go_simp<;>rfl); rotate_right; (focus rfl)))
  | (focus (refine OrdF.in_off hT9.o (by decide) (by decide) ?_ (by rfl) ?_; (focus rfl))));try simp only [Act.put,zA,zZ,zS])
 focus (refine OrdF.in_call (v:=.agg #[.int .i64 4,.int .i64 0,.int .i64 lv,.int .i64 0]) (f:=?_) (args:=?_) hT9.o (by decide) (by decide) ?_ (by rfl) ?_ ?_ ?_; rotate_left 2; (focus rfl); (intro w5 hS; skip; go_simp; constructor<;>rfl); (intro w5 hS; refine (HAT.out _ hS).mono ?_; rintro e w6 ⟨rfl,hb6⟩; exact ⟨rfl,hS.over hb6,fun _ _ h=>AF_over h hb6⟩); (try simp only [Act.put,zA,zZ,zS]))
 repeat ((first
  | (focus (refine OrdF.in_value (v:=?_) hT9.o (by decide) (by decide) ?_ (by rfl) ?_ ?_; rotate_left 2; (intro w5 hS; skip; go_simp<;>rfl); rotate_right; (focus rfl)))
  | (focus (refine OrdF.in_off hT9.o (by decide) (by decide) ?_ (by rfl) ?_; (focus rfl))));try simp only [Act.put,zA,zZ,zS])
 refine OrdF.in_float OrdF.Ptr (.pointer (some ⟨0,0,none⟩)) ⟨0,rfl⟩ hT9.o rfl (by decide) ?_ (by rfl) ?_ ?_
 ·rfl
 ·intro w5 κs5 hC5 hA5;go_simp;simp only [Ord3.Lands];exact ⟨⟨_,rfl⟩,hC5.over ((Below.refl _ _).alloc (Nat.le_refl _) _),hA5.up _⟩
 rintro _ ⟨V,rfl⟩
 try simp only [Act.put,zA,zZ,zS]
 refine OrdF.in_turn_late (by kernel_rfl) (by decide) (by decide) (fun u=>u=undef) (undef) rfl hT9.o rfl (by decide) (by rfl) ?_ (.inl rfl) (by rfl) ?_ ?_
 ·rfl
 ·rintro w5 hC5 ⟨M5,z5,⟨P5,hP5,hM5⟩,⟨hn5,_⟩ | ⟨n5,hn5,hE5⟩⟩
  ·cases hn5
  cases hn5;cases hP5;obtain ⟨rfl,rfl⟩:=hM5;have r:=hE5.rule 0 rfl; have ff:=hE5.thaw 0 rfl; have f0:=ff 0 (by simp); have f1:=ff 1 (by simp); have f2:=ff 2 (by simp); have f3:=ff 3 (by simp); clear ff;go_simp;have hE6:=(((hE5.put 0 rfl (j:=0) (by simp) (.int .i64 4)).put 0 rfl (j:=1) (by simp) (.int .i64 0)).put 0 rfl (j:=2) (by simp) (.int .i64 lv)).put 0 rfl (j:=3) (by simp) (.int .i64 0); exact ⟨rfl,hE6.sub (.cons _ (List.Sublist.refl _)),_,_,⟨_,rfl,rfl,rfl⟩,.inr ⟨_,rfl,hE6⟩⟩
 rintro _ rfl
 try simp only [Act.put,zA,zZ,zS]
 refine OrdF.in_nil rfl (by decide) (by decide) ?_;rintro w5 hC5 ⟨M5,z5,⟨P5,hP5,hM5⟩,⟨hn5,_⟩ | ⟨n5,hn5,hE5⟩⟩
 ·cases hn5
 cases hn5;cases hP5;obtain ⟨rfl,rfl⟩:=hM5;clear hT9;have h9:=HLL.out;subst h9;clear HAT hE1 hC5 HLL;go_wp2_with fail;refine wp_text (S:=(Env w0 (boxI V [.int .i64 4,.int .i64 0,.int .i64 lv,.int .i64 0]::boxI Y [.int .i64 0,.int .i64 0,.int .i64 0,.int .i64 0]::boxI fb (fdC c key nx st g h lv)::boxI g ps::L))) (by kernel_rfl) (by kernel_rfl) hE5.drew (fun hT=>?_);have hT9:=zH hT;clear hT
 repeat ((first
  | (refine text_value (v:=?_) hT9.o (by rfl) ?_ ?_; rotate_left; (intro w5 hS; have r0:=hS.rule 0 rfl; have r1:=hS.rule 2 rfl; unfold fdC at r1; go_simp<;>rfl))
  | (refine text_off hT9.o (by rfl) ?_)
  | (refine text_call (v:=?_) (f:=?_) (args:=?_) hT9.o (by rfl) ?_ ?_ ?_; rotate_left 3; (intro w5 hS; have r0:=hS.rule 0 rfl; have r1:=hS.rule 2 rfl; unfold fdC at r1; go_simp; constructor<;>rfl); (intro w5 hS; (first | (with_reducible refine kp (root_any _ _) ?_ ?_; rfl; exact fun w6 hb5=>hS.over hb5)))));try simp only [Act.put,zA,zZ,zS])
 refine InText.nil fun w5 hS5=>?_;clear hT9;clear hE5;have hE6:=hS5.sub (L':=boxI Y [.int .i64 0,.int .i64 0,.int .i64 0,.int .i64 0]::boxI fb (fdC c key nx st g h lv)::boxI g ps::L) (.cons _ (List.Sublist.refl _));clear hS5;have r1:=hE6.rule 1 rfl;unfold fdC at r1;go_wp2_with fail;refine (root_any _ _).mono ?_;rintro o w7 ⟨rfl,hb⟩;replace hE6:=hE6.over hb;clear hb r1;have r0:=hE6.rule 0 rfl;have ff:=hE6.thaw 0 rfl;have f0:=ff 0 (by simp);have f1:=ff 1 (by simp);have f2:=ff 2 (by simp);have f3:=ff 3 (by simp);clear ff;have hE7:=(((hE6.put 0 rfl (j:=0) (by simp) (.int .i64 4)).put 0 rfl (j:=1) (by simp) (.int .i64 0)).put 0 rfl (j:=2) (by simp) (.int .i64 ((lv:Int) - 1))).put 0 rfl (j:=3) (by simp) (.int .i64 0);have q:=hE7.rule 0 rfl;go_wp2_with fail;exact bodyPost_ret (v:=.agg #[.int .i64 4,.int .i64 0,.int .i64 ((lv:Int) - 1),.int .i64 0]) (by simp [results,results235,go_sem,q]) rfl ⟨rfl,hE7.sub (.cons _ (List.Sublist.refl _))⟩
theorem belowLink_f (lv:Nat) (h1:1<=lv) (hlt:lv < h) (hh:h<=1000) (sl:Int) (hga:ps[lv]?=some (.pointer (some ⟨a,0,none⟩))) (i:Nat) (hi:L[i]?=some (boxI a (laneC c lv key false lx s 5 sl (7+(lv:Int)) W C X wd pf pv))) (hE:Env w0 (boxI fb (fdC c key nx st g h lv)::boxI g ps::L) w) :
  Calls prog 235 #[.pointer (some ⟨fb,0,none⟩)] w fun o w'=>o=.returned (.agg #[.int .i64 5,.int .i64 sl,.int .i64 (7+(lv:Int) - 1),.int .i64 0])/\Env w0 (boxI fb (fdC c key nx st g h lv)::boxI g ps::L) w':=by
 have hE1:=hE.box w.heap.size rfl [.int .i64 0,.int .i64 0,.int .i64 0,.int .i64 0] 150;obtain ⟨LL,hLL⟩:∃ LL,boxI w.heap.size [.int .i64 0,.int .i64 0,.int .i64 0,.int .i64 0]::boxI fb (fdC c key nx st g h lv)::boxI g ps::L=LL:=⟨_,rfl⟩;have hl3:LL[i+3]?=some (boxI a (laneC c lv key false lx s 5 sl (7+(lv:Int)) W C X wd pf pv)):=by rw [<- hLL]; exact hi
 have HC:Hid (∀ v,Env w0 LL v->Blk 0 v fb (fdC c key nx st g h lv)/\v.cell? ⟨g,lv,none⟩=some (.pointer (some ⟨a,0,none⟩))):=zH fun v hv=>by
  subst hLL;exact ⟨hv.get 1 rfl,(hv.rule 2 rfl lv).trans hga⟩
 have HAT:=zH fun (v:World) (hv:Env w0 LL v)=>at_g (hv.get (i+3) hl3);have hlti:(lv:Int) < (h:Int):=by omega
 have hhi:(h:Int)<=1000:=by omega
 have hw1:wrap64 ((lv:Int) - 1)=(lv:Int) - 1:=w64 _ (by omega);have hw2:IntKind.i64.wrap ((lv:Int) - 1)=(lv:Int) - 1:=by rw [wrap_i]; exact hw1
 have HLK:=zH fun (v:World)=>(show Calls prog 209 #[.int .i64 sl,.int .i64 ((lv:Int) - 1)] v fun e w'=>e=.returned (.agg #[.int .i64 5,.int .i64 sl,.int .i64 (7+(lv:Int) - 1)])/\Below v.heap.size v w' by
  have h9:=link_any sl ((lv:Int) - 1) v
  rwa [show wrap64 (7+((lv:Int) - 1))=7+(lv:Int) - 1 by rw [w64 _ (by omega)]; omega] at h9)
 obtain ⟨zz,hzz⟩:∃ zz,7+(lv:Int) - 1=zz:=⟨_,rfl⟩;obtain ⟨zt,hzt⟩:∃ zt,7+(lv:Int)=zt:=⟨_,rfl⟩;rw [hzz] at HLK ⊢;rw [hzt] at HAT;have HLL:=zH hLL;rw [hLL] at hE1;clear hE hl3 hi hga hLL hzz hzt;go_enter func235,ntmps235;go_wp2_with fail;generalize w.alloc _=w2 at *;generalize w.heap.size=Y at *;refine OrdF.wp_float [?_,?_,?_,?_,?_,?_,?_,?_,?_,?_,?_,OrdF.Ptr,?_] [12] 11 (fun v=>Env w0 LL v) (OrdF.AF w0 [.int .i64 0,.int .i64 0,.int .i64 0,.int .i64 0] (OrdF.Sta [fun N zs=>N=LL/\zs=[.int .i64 0,.int .i64 0,.int .i64 0,.int .i64 0],fun N zs=>N=LL/\zs=[.int .i64 5,.int .i64 sl,.int .i64 zt,.int .i64 0]])) (by kernel_rfl) (by kernel_rfl) (by kernel_rfl) hE1.drew ⟨_,_,⟨_,rfl,rfl,rfl⟩,.inl ⟨rfl,rfl,hE1.drew⟩⟩ (fun hT=>?_);rotate_left 12;have hT9:=zH hT;clear hT
 repeat ((first
  | (focus (refine OrdF.in_value (v:=?_) hT9.o (by decide) (by decide) ?_ (by rfl) ?_ ?_; rotate_left 2; (intro w5 hS; obtain ⟨q1,r2⟩:=HC.out _ hS; have r1:=q1.rule; unfold fdC at r1; go_simp<;>rfl); rotate_right; (focus rfl)))
  | (focus (refine OrdF.in_off hT9.o (by decide) (by decide) ?_ (by rfl) ?_; (focus rfl))));try simp only [Act.put,zA,zZ,zS])
 focus (refine OrdF.in_call (v:=.agg #[.int .i64 5,.int .i64 sl,.int .i64 zt,.int .i64 0]) (f:=?_) (args:=?_) hT9.o (by decide) (by decide) ?_ (by rfl) ?_ ?_ ?_; rotate_left 2; (focus rfl); (intro w5 hS; skip; go_simp; constructor<;>rfl); (intro w5 hS; refine (HAT.out _ hS).mono ?_; rintro e w6 ⟨rfl,hb6⟩; exact ⟨rfl,hS.over hb6,fun _ _ h=>AF_over h hb6⟩); (try simp only [Act.put,zA,zZ,zS]))
 repeat ((first
  | (focus (refine OrdF.in_value (v:=?_) hT9.o (by decide) (by decide) ?_ (by rfl) ?_ ?_; rotate_left 2; (intro w5 hS; skip; go_simp<;>rfl); rotate_right; (focus rfl)))
  | (focus (refine OrdF.in_off hT9.o (by decide) (by decide) ?_ (by rfl) ?_; (focus rfl))));try simp only [Act.put,zA,zZ,zS])
 refine OrdF.in_float OrdF.Ptr (.pointer (some ⟨0,0,none⟩)) ⟨0,rfl⟩ hT9.o rfl (by decide) ?_ (by rfl) ?_ ?_
 ·rfl
 ·intro w5 κs5 hC5 hA5;go_simp;simp only [Ord3.Lands];exact ⟨⟨_,rfl⟩,hC5.over ((Below.refl _ _).alloc (Nat.le_refl _) _),hA5.up _⟩
 rintro _ ⟨V,rfl⟩
 try simp only [Act.put,zA,zZ,zS]
 refine OrdF.in_turn_late (by kernel_rfl) (by decide) (by decide) (fun u=>u=undef) (undef) rfl hT9.o rfl (by decide) (by rfl) ?_ (.inl rfl) (by rfl) ?_ ?_
 ·rfl
 ·rintro w5 hC5 ⟨M5,z5,⟨P5,hP5,hM5⟩,⟨hn5,_⟩ | ⟨n5,hn5,hE5⟩⟩
  ·cases hn5
  cases hn5;cases hP5;obtain ⟨rfl,rfl⟩:=hM5;have r:=hE5.rule 0 rfl; have ff:=hE5.thaw 0 rfl; have f0:=ff 0 (by simp); have f1:=ff 1 (by simp); have f2:=ff 2 (by simp); have f3:=ff 3 (by simp); clear ff;go_simp;have hE6:=(((hE5.put 0 rfl (j:=0) (by simp) (.int .i64 5)).put 0 rfl (j:=1) (by simp) (.int .i64 sl)).put 0 rfl (j:=2) (by simp) (.int .i64 zt)).put 0 rfl (j:=3) (by simp) (.int .i64 0); exact ⟨rfl,hE6.sub (.cons _ (List.Sublist.refl _)),_,_,⟨_,rfl,rfl,rfl⟩,.inr ⟨_,rfl,hE6⟩⟩
 rintro _ rfl
 try simp only [Act.put,zA,zZ,zS]
 refine OrdF.in_nil rfl (by decide) (by decide) ?_;rintro w5 hC5 ⟨M5,z5,⟨P5,hP5,hM5⟩,⟨hn5,_⟩ | ⟨n5,hn5,hE5⟩⟩
 ·cases hn5
 cases hn5;cases hP5;obtain ⟨rfl,rfl⟩:=hM5;clear hT9;have h9:=HLL.out;subst h9;clear HAT hE1 hC5 HLL;go_wp2_with fail;refine wp_text (S:=(Env w0 (boxI V [.int .i64 5,.int .i64 sl,.int .i64 zt,.int .i64 0]::boxI Y [.int .i64 0,.int .i64 0,.int .i64 0,.int .i64 0]::boxI fb (fdC c key nx st g h lv)::boxI g ps::L))) (by kernel_rfl) (by kernel_rfl) hE5.drew (fun hT=>?_);have hT9:=zH hT;clear hT
 repeat ((first
  | (refine text_value (v:=?_) hT9.o (by rfl) ?_ ?_; rotate_left; (intro w5 hS; have r0:=hS.rule 0 rfl; have r1:=hS.rule 2 rfl; unfold fdC at r1; go_simp<;>rfl))
  | (refine text_off hT9.o (by rfl) ?_)
  | (refine text_call (v:=?_) (f:=?_) (args:=?_) hT9.o (by rfl) ?_ ?_ ?_; rotate_left 3; (intro w5 hS; have r0:=hS.rule 0 rfl; have r1:=hS.rule 2 rfl; unfold fdC at r1; go_simp; constructor<;>rfl); (intro w5 hS; (first | (with_reducible refine kp (root_any _ _) ?_ ?_; rfl; exact fun w6 hb5=>hS.over hb5)))));try simp only [Act.put,zA,zZ,zS])
 refine InText.nil fun w5 hS5=>?_;clear hT9;clear hE5;go_wp2_with fail;refine Ord.wc [12] (fun v=>Env w0 (boxI V [.int .i64 5,.int .i64 sl,.int .i64 zt,.int .i64 0]::boxI fb (fdC c key nx st g h lv)::boxI g ps::L) v) (fun k w'=>Env w0 (boxI Y (if k=0 then [.int .i64 0,.int .i64 0,.int .i64 0,.int .i64 0] else [.int .i64 5,.int .i64 sl,.int .i64 zz,.int .i64 0])::boxI V [.int .i64 5,.int .i64 sl,.int .i64 zt,.int .i64 0]::boxI fb (fdC c key nx st g h lv)::boxI g ps::L) w') (hS5.drew.sub (.cons_cons _ (.cons _ (List.Sublist.refl _)))) (hS5.drew.perm (List.Perm.swap _ _ _)) fun hT9=>?_
 repeat ((first
  | (refine Ord.cv ?_ hT9.o ?_ ?_; rotate_left; (intro w5 hS; have r0:=hS.rule 0 rfl; have r1:=hS.rule 1 rfl; unfold fdC at r1; go_simp<;>rfl))
  | (refine Ord.co hT9.o ?_)
  | (refine Ord.cc ?_ ?_ ?_ hT9.o ?_ ?_ ?_; rotate_left 3; (intro w5 hS; have r0:=hS.rule 0 rfl; have r1:=hS.rule 1 rfl; unfold fdC at r1; go_simp; constructor<;>rfl); (intro w5 hS; (first | (with_reducible refine kp (HLK.out _) ?_ ?_; rfl; exact fun w6 hb6=>⟨hS.over hb6,fun _ h=>h.over hb6⟩)))));try simp only [Act.put,zA,zZ,zS])
 refine Ord.ch_turn (v:=undef) 0 hT9.o rfl (by decide) (Or.inl rfl) (by rfl) ?_ ?_
 ·rintro w5 hC5 hA5;simp only [if_true] at hA5;have r0:=hA5.rule 0 rfl;have ff:=hA5.thaw 0 rfl;have f0:=ff 0 (by simp);have f1:=ff 1 (by simp);have f2:=ff 2 (by simp);have f3:=ff 3 (by simp);clear ff;go_simp;have hE7:=(((hA5.put 0 rfl (j:=0) (by simp) (.int .i64 5)).put 0 rfl (j:=1) (by simp) (.int .i64 sl)).put 0 rfl (j:=2) (by simp) (.int .i64 zz)).put 0 rfl (j:=3) (by simp) (.int .i64 0);exact ⟨rfl,hE7.sub (.cons _ (List.Sublist.refl _)),hE7⟩
 try simp only [Act.put,zA,zZ,zS]
 repeat ((first
  | (refine Ord.cv ?_ hT9.o ?_ ?_; rotate_left; (intro w5 hS; skip; go_simp<;>rfl))
  | (refine Ord.co hT9.o ?_));try simp only [Act.put,zA,zZ,zS])
 refine Ord.InText.nil fun w5 hS=>?_;clear hT9;obtain ⟨hC9,hA9⟩:=Ord.chain_end hS;clear hS;simp only [List.length_cons,List.length_nil,Nat.zero_add,Nat.one_ne_zero,if_false] at hA9;have q:=hA9.rule 0 rfl
 go_wp2
 exact bodyPost_ret (v:=.agg #[.int .i64 5,.int .i64 sl,.int .i64 zz,.int .i64 0]) (by simp [results,results235,go_sem,q]) rfl ⟨rfl,hA9.sub (.cons _ (.cons _ (List.Sublist.refl _)))⟩
end
end
end Go.Proofs.YtffncfmciockmaaGreatDoor
namespace Go.Proofs.YtffncfmciockmaaGreatDoor.Ord
section
open Go
section
variable {P:Program} {ops:Array Oper} {Q:Exit->Act->World->Prop} {md:Region.Mode} {C:World->Prop} {A:Nat->World->Prop} {ps:List Nat}
theorem ch2_earlyp (m:Nat) (path:List Nat) {p:Nat} {k:Nat} {o:Oper} {rest:List Oper} {a:Act} {v:Value} (hf:textFits md ops=true) (hk:k ∉ ps) (hp:ps[m]?=some p) (hpath:hangsPath md ops (p::path)=true) (hlast:(p::path).getLast?=some k) (hkn:k < ops.size) (hw:Region.wanted o (yielded ops a.tmps)=true)
  (hv:∀ w j,j<=m->C w->A j w->(execOp a.eval o).run P w=.ok (.value v) w)
  (h:InText P md ops Q (Chain2 md ops ps C A) (k+1) rest (a.put o.dst v)):InText P md ops Q (Chain2 md ops ps C A) k (o::rest) a :=
 InText.cons hf (Or.inl ⟨hw,fun l w hr hS=>by
  obtain ⟨hc,hS⟩:=hS;have hS':=hS;obtain ⟨hs,hC,j,hj,hl,hA⟩:=hS;have hjm:j<=m:=by
   rcases Nat.lt_or_ge m j with hlt | hge
   ·exfalso
    have h1:=hl m p hp;have h2:l.getD p false=true:=by rw [h1.2]; simpa using hlt
    have h0:l.getD k true=false:=(mem_ready.1 hr).1;have h4:=hc.path path p hpath h2 k hlast;rw [Array.getD_eq_getD_getElem?] at h4 h0;have hkl:k < l.size:=by rw [hs]; exact hkn
    simp [hkl] at h4 h0;rw [h0] at h4;cases h4
   ·exact hge
  rw [hv w j hjm hC hA];exact ⟨rfl,hc.set hr,chain_set hk hS' hC fun _ h=>h⟩⟩) h
end
end
end Go.Proofs.YtffncfmciockmaaGreatDoor.Ord
namespace Go.Proofs.YtffncfmciockmaaGreatDoor
section
open Go.RowKit Go.Maps
def dnI (c:Nat) (key:Int) (L:Nat->Lm) (D:Nat->Nat × Value × Int) (l:Nat):Item:=boxI (D l).1 (laneV c l key false (D l).2.1 1 (D l).2.2 (pfS 1 (L l)) (pvS 1 (L l)) (L l))
def dnL (c:Nat) (key:Int) (L:Nat->Lm) (D:Nat->Nat × Value × Int):Nat->Nat->List Item
 | _,0=>[]
 | lv,n+1=>dnI c key L D (lv+1)::dnL c key L D (lv+1) n
theorem dnL_congr {c:Nat} {key:Int} {L L':Nat->Lm} {D D':Nat->Nat × Value × Int}:∀ (n lv:Nat),(∀ l,lv < l->L l=L' l/\D l=D' l)->dnL c key L D lv n=dnL c key L' D' lv n
 | 0,_,_=>rfl
 | n+1,lv,h=>by
  have h1:=h (lv+1) (by omega);show dnI _ _ _ _ _::_=dnI _ _ _ _ _::_;rw [dnL_congr n (lv+1) fun l hl=>h l (by omega)];unfold dnI;rw [h1.1,h1.2]
def FindR (w0:World) (R:List Item) (fb h:Nat) (key:Int) (S:ST) (s:Int) (F:Fm) (w:World):Prop :=
 S.ce=F.e/\S.cr=F.r/\((F.on=false/\s=0/\∃ g ps l0,ps.length=h/\Env w0 (boxI fb (fdC S.c key (mvL 151 fb) 0 g h l0)::boxI g ps::LT S R) w) \/
  (F.on=true/\F.lv < h/\∃ g ps a D b1 b2 nx,ps.length=h/\ps[F.lv]?=some (.pointer (some ⟨a,0,none⟩))/\(∀ l,F.lv < l->l < h->ps[l]?=some (.pointer (some ⟨(D l).1,0,none⟩)))/\(s=0->nx=cvP b1 b2) /\
    LaneR w0 (boxI b1 [mvL 206 a]::boxI b2 [mvL 207 fb]::boxI fb (fdC S.c key nx s g h F.lv)::boxI g ps::(dnL S.c key F.L D F.lv (h - 1 - F.lv)++R)) a F.lv key false S s (F.L F.lv) w))
def downS (key:Int) (S:ST) (F:Fm) (G:Nat->Prop):ST:=if F.on then laneS F.lv key false S (F.L F.lv) G else { S with ce:=epI (S.f (1,0,0)),qc:={ S.qc with l:=wrap64 (S.qc.l+1) } }
section
variable {w0 w:World} {R L:List Item} {fb g h c:Nat} {S:ST} {key:Int} {ps:List Value} {l0:Int} {F:Fm} {nx:Value} {st:Int}
theorem stepMv_f (X:Nat) (u:Value) (hx:∀ (ar:Array Value) (v:World),(callFunc X ar).run prog v=.ok (.enter X ar) v) (Q:Ending->World->Prop)
  (hE:Env w0 (boxI fb (fdC c key (mvL X fb) 0 g h l0)::L) w)
  (hc:Calls prog X #[.pointer (some ⟨fb,0,none⟩),u] w fun e w'=>∃ s,e=.returned (.int .i64 s)/\Q (.returned (.int .i64 s)) w') :
  Calls prog 131 #[.pointer (some ⟨fb,0,none⟩),u] w Q:=by
 have HST:=zH (stepMv_r (o:=2) X hx (.pointer (some ⟨fb,0,none⟩)) u (fun e w'=>∃ s,e=.returned (.int .i64 s)/\Q (.returned (.int .i64 s)) w') (hE.rule 0 rfl 2) (hE.rule 0 rfl 3) (hc.mono fun e w' ⟨s,he,hq⟩=>⟨s,he,s,rfl,hq⟩));clear hc hE;go_enter func131,ntmps131;go_wp2_with fail;refine HST.out.mono ?_;rintro e w1 ⟨s,rfl,hQ⟩;go_wp2_with fail;exact hQ
theorem stepP_f (a b1 b2:Nat) (u:Value) (Q:Int->World->Prop)
  (hE:Env w0 (boxI fb (fdC c key (cvP b1 b2) 0 g h l0)::boxI b1 [mvL 206 a]::L) w)
  (hc:Calls prog 206 #[.pointer (some ⟨a,0,none⟩),u] w fun e w1=>∃ s,e=.returned (.int .i64 s)/\(s=0->Q 0 w1)/\(s≠0->w1.cell? ⟨b2,0,none⟩=some (mvL 207 fb)/\Calls prog 207 #[.pointer (some ⟨fb,0,none⟩),.int .i64 s] w1 fun e2 w2=>∃ s2,e2=.returned (.int .i64 s2)/\Q s2 w2)) :
  Calls prog 131 #[.pointer (some ⟨fb,0,none⟩),u] w fun e w'=>∃ s,e=.returned (.int .i64 s)/\Q s w':=by
 have HST:=zH (stepP_r (o:=2) 206 (fun _ _=>by kernel_rfl) (.pointer (some ⟨a,0,none⟩)) u (.pointer (some ⟨fb,0,none⟩)) 207 (fun _ _=>by kernel_rfl) b1 b2 Q (hE.rule 0 rfl 2) (hE.rule 0 rfl 3) (hE.rule 1 rfl 0) hc);clear hc hE;go_enter func131,ntmps131;go_wp2_with fail;refine HST.out.mono ?_;rintro e w1 ⟨s,rfl,hQ⟩;go_wp2_with fail;go_ret;exact ⟨s,rfl,hQ⟩
theorem check_f (t:Nat) (hh2:t+1<=1000) (hps:ps.length=t+1) (hE:Env w0 (boxI fb (fdC S.c key nx st g (t+1) l0)::boxI g ps::LT S R) w) :
  Calls prog 151 #[.pointer (some ⟨fb,0,none⟩),.iface 28 (.pointer (some ⟨S.p,0,none⟩))] w fun o w'=>o=.returned (.int .i64 0)/\∃ b1 b2 a,Env w0 (boxI b1 [mvL 206 a]::boxI b2 [mvL 207 fb]::boxI a (laneC S.c t key false (mvL 234 a) 0 4 0 t 0 0 0 0 false 0)::boxI fb (fdC S.c key (cvP b1 b2) st g (t+1) t)::boxI g (ps.set t (.pointer (some ⟨a,0,none⟩)))::LT { S with ce:=epI (S.f (1,0,0)),qc:={ S.qc with l:=wrap64 (S.qc.l+1) } } R) w':=by
 have hc:=check_w _ (rfl:S.f (1,0,0)=S.f (1,0,0)) 2 4 5 (by decide) (by decide) hE rfl rfl rfl;simp only [zS,zZ] at hc;have HC:=zH hc;have hw1:wrap64 ((t:Int)+1 - 1)=(t:Int):=by rw [w64 _ (by omega)]; omega
 have hw2:wrap64 (((t+1:Nat):Int) - 1)=(t:Int):=by rw [w64 _ (by omega)]; omega
 have hw3:wrap64 (t:Int)=(t:Int):=w64 _ (by omega);clear hc;have r:=hE.rule 0 rfl;unfold fdC at r;go_enter func151,ntmps151;go_wp2_with fail;refine HC.out.mono ?_;rintro o w1 ⟨rfl,hE1⟩;replace hE1:Env w0 (boxI fb (fdC S.c key nx st g (t+1) l0)::boxI g ps::LT { S with ce:=epI (S.f (1,0,0)),qc:={ S.qc with l:=wrap64 (S.qc.l+1) } } R) w1:=hE1;clear HC hE r;generalize hS1:({ S with ce:=epI (S.f (1,0,0)),qc:={ S.qc with l:=wrap64 (S.qc.l+1) } }:ST)=S1 at *;have HS1:=zH hS1;clear hS1;have r:=hE1.rule 0 rfl;unfold fdC at r;go_wp2_with fail;refine (root_any _ _).mono ?_;rintro o w2 ⟨rfl,hb⟩;replace hE1:=hE1.over hb;clear hb r;go_wp2_with fail;refine (along_f t (by omega) hh2 hps 4 0 t hE1).mono ?_;rintro o w3 ⟨rfl,b1,b2,a,hE3⟩;go_wp2_with fail;go_ret;have h9:=HS1.out;subst h9;exact ⟨rfl,b1,b2,a,hE3⟩
theorem endedAgain_f (hE:Env w0 (boxI fb (fdC c key nx st g h l0)::L) w) :
  Calls prog 207 #[.pointer (some ⟨fb,0,none⟩),.int .i64 2] w fun o w'=>o=.returned (.int .i64 0)/\Env w0 (boxI fb (fdC c key (mvL 151 fb) st g h l0)::L) w':=by
 have hmf:=makeF;have HGO:=zH (goOn_r (o:=2) 0 (.func 151) #[.pointer (some ⟨fb,0,none⟩)] #[] (by simp [fdC]) hE rfl);clear hE;go_enter func207,ntmps207;go_wp2_with fail;refine HGO.out.mono ?_;rintro o w1 ⟨rfl,hE1⟩;go_wp2_with fail;go_ret;exact ⟨rfl,hE1⟩
theorem endedDone_f (hE:Env w0 (boxI fb (fdC c key nx st g h 0)::L) w) :
  Calls prog 207 #[.pointer (some ⟨fb,0,none⟩),.int .i64 1] w fun o w'=>o=.returned (.int .i64 1)/\Env w0 (boxI fb (fdC c key nx 1 g h 0)::L) w':=by
 have HEN:=zH (end_r (o:=2) 0 1 (by simp [fdC]) hE rfl);have r:=hE.rule 0 rfl;unfold fdC at r;clear hE;go_enter func207,ntmps207;go_wp2_with fail;refine HEN.out.mono ?_;rintro o w1 ⟨rfl,hE1⟩;go_wp2_with fail;go_ret;exact ⟨rfl,hE1⟩
theorem endedDown_f (t:Nat) (hlt:t+1 < h) (hh:h<=1000) (hps:ps.length=h) (a:Nat) (lx:Value) (x y z W C X wd:Int) (pf:Bool) (pv:Int) (hA:AtOk ((t+1:Nat):Int) (x,y,z)) (hga:ps[t+1]?=some (.pointer (some ⟨a,0,none⟩))) (i:Nat) (hi:L[i]?=some (boxI a (laneC c ((t+1:Nat):Int) key false lx 1 x y z W C X wd pf pv))) (hE:Env w0 (boxI fb (fdC c key nx st g h ((t+1:Nat):Int))::boxI g ps::L) w) :
  Calls prog 207 #[.pointer (some ⟨fb,0,none⟩),.int .i64 1] w fun o w'=>o=.returned (.int .i64 0)/\∃ b1 b2 a2,Env w0 (boxI b1 [mvL 206 a2]::boxI b2 [mvL 207 fb]::boxI a2 (laneC c t key false (mvL 234 a2) 0 x y (z - 1) 0 0 0 0 false 0)::boxI fb (fdC c key (cvP b1 b2) st g h t)::boxI g (ps.set t (.pointer (some ⟨a2,0,none⟩)))::L) w':=by
 have HB:Hid (∀ v,Env w0 (boxI fb (fdC c key nx st g h ((t+1:Nat):Int))::boxI g ps::L) v->Calls prog 235 #[.pointer (some ⟨fb,0,none⟩)] v fun o w'=>o=.returned (.agg #[.int .i64 x,.int .i64 y,.int .i64 (z - 1),.int .i64 0])/\Env w0 (boxI fb (fdC c key nx st g h ((t+1:Nat):Int))::boxI g ps::L) w'):=zH fun v hv=>by
  rcases hA with e | ⟨sl,-,-,e⟩
  ·simp only [Prod.mk.injEq] at e;obtain ⟨rfl,rfl,rfl⟩:=e;exact belowRoot_f (t+1) (by omega) hlt hh hga i hi hv
  ·simp only [Prod.mk.injEq] at e;obtain ⟨rfl,rfl,rfl⟩:=e;exact belowLink_f (t+1) (by omega) hlt hh y hga i hi hv
 have HAL:Hid (∀ v,Env w0 (boxI fb (fdC c key nx st g h ((t+1:Nat):Int))::boxI g ps::L) v->_):=zH fun v hv=>along_f t (show t < h by omega) hh hps x y (z - 1) hv;have hw1:IntKind.i64.wrap ((t:Int)+1 - 1)=(t:Int):=by rw [wrap_i,w64 _ (by omega)]; omega
 have hw2:IntKind.i64.wrap (((t+1:Nat):Int) - 1)=(t:Int):=by rw [wrap_i,w64 _ (by omega)]; omega
 have hw3:IntKind.i64.wrap (t:Int)=(t:Int):=by rw [wrap_i,w64 _ (by omega)]
 have hne:(((t+1:Nat):Int)==0)=false:=by simp; omega
 have hne2:((t:Int)+1==0)=false:=by simp; omega
 have HE:=zH hE;have r:=hE.rule 0 rfl;unfold fdC at r;obtain ⟨zz,hzz⟩:∃ zz,z - 1=zz:=⟨_,rfl⟩;simp only [hzz] at HB HAL ⊢;clear hE hi hga hA hzz;go_enter func207,ntmps207;go_wp2_with fail;refine Ord.wp_chain2 [7,8] (fun _=>True) (fun k w'=>if k<=1 then Env w0 (boxI fb (fdC c key nx st g h ((t+1:Nat):Int))::boxI g ps::L) w' else ∃ b1 b2 a2,Env w0 (boxI b1 [mvL 206 a2]::boxI b2 [mvL 207 fb]::boxI a2 (laneC c t key false (mvL 234 a2) 0 x y zz 0 0 0 0 false 0)::boxI fb (fdC c key (cvP b1 b2) st g h t)::boxI g (ps.set t (.pointer (some ⟨a2,0,none⟩)))::L) w') (by kernel_rfl) (by kernel_rfl) (by kernel_rfl) trivial HE.out.drew (fun hT=>?_);have hT9:=zH hT;clear hT
 repeat (refine Ord.ch2_value (v:=?_) hT9.o (by decide) (by rfl) ?_ ?_; rotate_left; (intro w5 hS; skip; go_simp<;>rfl); (try simp only [Act.put,zA,zZ,zS]))
 refine Ord.ch2_earlyp 1 [5,4] hT9.o (by decide) (by rfl) (by kernel_rfl) (by rfl) (by decide) (by rfl) (v:=.int .i64 ((t:Int)+1)) ?_ ?_
 ·intro w5 j hj _ hA;rw [if_pos hj] at hA;have r:=hA.rule 0 rfl;unfold fdC at r;go_simp<;>rfl
 try simp only [Act.put,zA,zZ,zS]
 repeat (refine Ord.ch2_value (v:=?_) hT9.o (by decide) (by rfl) ?_ ?_; rotate_left; (intro w5 hS; skip; go_simp<;>rfl); (try simp only [Act.put,zA,zZ,zS]))
 refine Ord.ch2_turn 0 hT9.o (by rfl) (by decide) (Or.inl rfl) (by rfl) (v:=.agg #[.int .i64 x,.int .i64 y,.int .i64 zz,.int .i64 0]) ?_ ?_
 ·intro w5 _ hA;rw [if_pos (by decide)] at hA;go_simp;simp only [Ord.LandsIn];refine (HB.out _ hA).mono ?_;rintro o w6 ⟨rfl,hE6⟩;exact ⟨rfl,hE6⟩
 try simp only [Act.put,zA,zZ,zS]
 repeat (refine Ord.ch2_value (v:=?_) hT9.o (by decide) (by rfl) ?_ ?_; rotate_left; (intro w5 hS; skip; go_simp<;>rfl); (try simp only [Act.put,zA,zZ,zS]))
 refine Ord.ch2_turn 1 hT9.o (by rfl) (by decide) (Or.inr ⟨_,rfl,by kernel_rfl⟩) (by rfl) (v:=.int .i64 0) ?_ ?_
 ·intro w5 _ hA;rw [if_pos (by decide)] at hA;go_simp;simp only [Ord.LandsIn];refine (HAL.out _ hA).mono ?_;rintro o w6 ⟨rfl,b1,b2,a2,hE6⟩;exact ⟨rfl,b1,b2,a2,hE6⟩
 try simp only [Act.put,zA,zZ,zS]
 repeat (refine Ord.ch2_value (v:=?_) hT9.o (by decide) (by rfl) ?_ ?_; rotate_left; (intro w5 hS; skip; go_simp<;>rfl); (try simp only [Act.put,zA,zZ,zS]))
 refine Ord.InText.nil fun w5 hS=>?_;clear hT9;obtain ⟨hC,hA⟩:=Ord.chain2_end hS;clear hS;rw [if_neg (by decide)] at hA;obtain ⟨b1,b2,a2,hA⟩:=hA;clear hC HB HAL HE r;go_wp2_with fail;go_ret;exact ⟨rfl,b1,b2,a2,hA⟩
end
section
variable {w0 w:World} {R:List Item} {fb h:Nat} {S:ST} {key:Int} {F:Fm}
theorem down_l (hh:1<=h) (hh2:h<=1000) (hF:FmOk h F) (hg:Glo w0) (hm:S.m < maxLen) (hR:FindR w0 R fb h key S 0 F w) :
  Calls prog 131 #[.pointer (some ⟨fb,0,none⟩),.iface 28 (.pointer (some ⟨S.p,0,none⟩))] w fun o w'=>∃ s,o=.returned (.int .i64 s)/\s=(downM h key F S.f).1/\∃ G',FindR w0 R fb h key (downS key S F G') s (downM h key F S.f).2.1 w':=by
 obtain ⟨he,hr,⟨hoff,-,g,ps,l0,hps,hE⟩ | ⟨hon,hlt,g,ps,a,D,b1,b2,nx,hps,hpa,hpd,hnx,hL⟩⟩:=hR
 ·obtain ⟨t,rfl⟩:∃ t,h=t+1:=⟨h - 1,by omega⟩;have hM:downM (t+1) key F S.f=(0,{ F with on:=true,lv:=t,L:=setN F.L t (L0 (4,0,(t:Int))),e:=epI (S.f (1,0,0)) },S.f):=by unfold downM; rw [hoff]; rfl
  have hS:∀ G,downS key S F G={ S with ce:=epI (S.f (1,0,0)),qc:={ S.qc with l:=wrap64 (S.qc.l+1) } }:=fun G=>by unfold downS; rw [hoff]; rfl
  rw [hM];refine (stepMv_f 151 _ (fun _ _=>by kernel_rfl) _ hE ((check_f t hh2 hps hE).mono ?_));rintro o w1 ⟨rfl,b1,b2,a,hE1⟩;refine ⟨0,rfl,0,rfl,rfl,S.G,?_⟩;rw [hS];refine ⟨rfl,hr,.inr ⟨rfl,Nat.lt_succ_self t,g,ps.set t (.pointer (some ⟨a,0,none⟩)),a,fun _=>(0,undef,0),b1,b2,cvP b1 b2,by rw [List.length_set]; exact hps,by show (ps.set t _)[t]?=_; rw [List.getElem?_set_self (by omega)],fun l h1 h2=>?_,fun _=>rfl,?_⟩⟩
  ·exact absurd h2 (by have:t < l:=h1; omega)
  ·refine ⟨mvL (fnL 0) a,0,noI,noI,fun _=>?_,?_⟩
   ·have e9:(setN F.L t (L0 (4,0,(t:Int))) t)=L0 (4,0,(t:Int)):=setN_same _ _ _;show NxOk a (setN F.L t _ t).pc _ _ _/\((setN F.L t _ t).pc=7->_)/\((setN F.L t _ t).pc=9->_);rw [e9];exact ⟨⟨fun _=>rfl,fun h=>absurd h (by simp [L0,isVal])⟩,fun h=>absurd h (by simp [L0]),fun h=>absurd h (by simp [L0])⟩
   ·have e9:(setN F.L t (L0 (4,0,(t:Int))) t)=L0 (4,0,(t:Int)):=setN_same _ _ _;show Env w0 (boxI a (laneV S.c t key false (mvL (fnL 0) a) 0 0 (pfS 0 (setN F.L t (L0 (4,0,(t:Int))) t)) (pvS 0 (setN F.L t (L0 (4,0,(t:Int))) t)) (setN F.L t (L0 (4,0,(t:Int))) t))::noI::noI::LT _ (boxI b1 _::boxI b2 _::boxI fb (fdC S.c key (cvP b1 b2) 0 g (t+1) t)::boxI g _::(dnL _ _ _ _ t (t+1 - 1 - t)++R))) w1;rw [e9,show t+1 - 1 - t=0 by omega];have hE2:Env w0 (boxI b1 [mvL 206 a]::boxI b2 [mvL 207 fb]::boxI a (laneV S.c t key false (mvL (fnL 0) a) 0 0 (pfS 0 (L0 (4,0,(t:Int)))) (pvS 0 (L0 (4,0,(t:Int)))) (L0 (4,0,(t:Int))))::boxI fb (fdC S.c key (cvP b1 b2) 0 g (t+1) t)::boxI g (ps.set t (.pointer (some ⟨a,0,none⟩)))::LT { S with ce:=epI (S.f (1,0,0)),qc:={ S.qc with l:=wrap64 (S.qc.l+1) } } R) w1:=hE1;refine Env.none2 (hE2.perm (perm_of fun z=>?_));simp only [dnL,LT,List.nil_append,List.count_cons];omega
 ·obtain ⟨hlt',hLm,hA⟩:=hF hon;have hlv:(0:Int)<=(F.lv:Int)/\(F.lv:Int)<=1000000:=by omega
  have hst:=lane_l hLm hlv (hA.wf (by omega)) hg hm hL;have hsl:=lane_state F.lv key false S.ce (F.L F.lv) S.f;have hat:AtOk F.lv (laneM F.lv key false S.ce (F.L F.lv) S.f).2.1.p:=hA.lane hLm.C;have hM:downM h key F S.f=(if (laneM F.lv key false S.ce (F.L F.lv) S.f).1=1/\F.lv=0 then 1 else 0,
   (if (laneM F.lv key false S.ce (F.L F.lv) S.f).1=2 then { F with on:=false,r:=rollM S.ce (F.L F.lv) S.f S.cr }
     else if (laneM F.lv key false S.ce (F.L F.lv) S.f).1=1/\F.lv≠0 then
      { F with lv:=F.lv - 1,L:=setN (setN F.L F.lv (laneM F.lv key false S.ce (F.L F.lv) S.f).2.1) (F.lv - 1) (L0 (belowP (laneM F.lv key false S.ce (F.L F.lv) S.f).2.1.p)),r:=rollM S.ce (F.L F.lv) S.f S.cr }
     else { F with L:=setN F.L F.lv (laneM F.lv key false S.ce (F.L F.lv) S.f).2.1,r:=rollM S.ce (F.L F.lv) S.f S.cr }),
   (laneM F.lv key false S.ce (F.L F.lv) S.f).2.2):=by unfold downM; rw [if_pos hon,he,hr]
  have hS:∀ G,downS key S F G=laneS F.lv key false S (F.L F.lv) G:=fun G=>by unfold downS; rw [if_pos hon]
  have hce:∀ G,(laneS F.lv key false S (F.L F.lv) G).ce=S.ce/\(laneS F.lv key false S (F.L F.lv) G).cr=rollM S.ce (F.L F.lv) S.f S.cr/\(laneS F.lv key false S (F.L F.lv) G).c=S.c/\(laneS F.lv key false S (F.L F.lv) G).p=S.p:=fun G=>⟨rfl,rfl,rfl,rfl⟩;obtain ⟨ny,wd,B1,B2,-,hE⟩:=hL;obtain rfl:=hnx rfl;have hE0:=hE.perm (L':=boxI fb (fdC S.c key (cvP b1 b2) 0 g h F.lv)::boxI b1 [mvL 206 a]::(boxI a (laneV S.c F.lv key false ny 0 wd (pfS 0 (F.L F.lv)) (pvS 0 (F.L F.lv)) (F.L F.lv))::B1::B2::LT S (boxI b2 [mvL 207 fb]::boxI g ps::(dnL S.c key F.L D F.lv (h - 1 - F.lv)++R)))) (perm_of fun z=>by
   simp only [LT,List.count_cons,List.count_append];omega)
  rw [hM];simp only [hS];refine stepP_f a b1 b2 _ (fun s w'=>s=_/\∃ G',FindR w0 R fb h key (laneS F.lv key false S (F.L F.lv) G') s _ w') hE0 ?_;refine hst.mono ?_;rintro o w1 ⟨rfl,G',hL'⟩;obtain ⟨ce1,ce2,ce3,ce4⟩:=hce G';obtain ⟨S',hS'⟩:∃ S',laneS F.lv key false S (F.L F.lv) G'=S':=⟨_,rfl⟩;rw [hS'] at hL' ce1 ce2 ce3 ce4;generalize laneM F.lv key false S.ce (F.L F.lv) S.f=q at *;generalize rollM S.ce (F.L F.lv) S.f S.cr=ro at *;obtain ⟨q1,Lq,fq⟩:=q;dsimp only at hsl hat hL' ⊢;clear hM hS hce hst hE0 hE;refine ⟨q1,rfl,fun h0=>?_,fun h0=>?_⟩
  ·subst h0;rw [if_neg (by simp),if_neg (by decide),if_neg (by simp)];refine ⟨rfl,G',?_⟩;rw [hS'];have hcg:dnL S'.c key (setN F.L F.lv Lq) D F.lv (h - 1 - F.lv)=dnL S.c key F.L D F.lv (h - 1 - F.lv):=by
    rw [ce3];exact dnL_congr _ _ fun l hl=>⟨setN_other _ _ (by omega),rfl⟩
   refine ⟨ce1.trans he,ce2,.inr ⟨hon,hlt,g,ps,a,D,b1,b2,cvP b1 b2,hps,hpa,hpd,fun _=>rfl,?_⟩⟩;show LaneR w0 (_::_::boxI fb (fdC S'.c key _ 0 g h F.lv)::_::(dnL S'.c key (setN F.L F.lv Lq) D F.lv (h - 1 - F.lv)++R)) a F.lv key false S' 0 (setN F.L F.lv Lq F.lv) w1;rw [hcg,setN_same,ce3];exact hL'
  ·obtain ⟨ny2,wd2,B3,B4,-,hE'⟩:=hL';refine ⟨(hE'.perm (L':=boxI b2 [mvL 207 fb]::(boxI a (laneV S'.c F.lv key false ny2 q1 wd2 (pfS q1 Lq) (pvS q1 Lq) Lq)::B3::B4::LT S' (boxI b1 [mvL 206 a]::boxI fb (fdC S.c key (cvP b1 b2) 0 g h F.lv)::boxI g ps::(dnL S.c key F.L D F.lv (h - 1 - F.lv)++R)))) (perm_of fun z=>by
    simp only [LT,List.count_cons,List.count_append];omega)).rule 0 rfl 0,?_⟩
   have hE2:=hE'.perm (L':=boxI fb (fdC S.c key (cvP b1 b2) 0 g h F.lv)::boxI g ps::(boxI a (laneV S'.c F.lv key false ny2 q1 wd2 (pfS q1 Lq) (pvS q1 Lq) Lq)::B3::B4::LT S' (boxI b1 [mvL 206 a]::boxI b2 [mvL 207 fb]::(dnL S.c key F.L D F.lv (h - 1 - F.lv)++R)))) (perm_of fun z=>by
    simp only [LT,List.count_cons,List.count_append];omega)
   clear hE'
   rcases hsl with h1 | h1 | h1
   ·exact absurd h1 h0
   ·subst h1
    by_cases hl0:F.lv=0
    ·rw [hl0,show ((0:Nat):Int)=0 from rfl] at hE2;refine (endedDone_f hE2).mono ?_;rintro o w2 ⟨rfl,hE3⟩;refine ⟨1,rfl,?_⟩;rw [if_pos ⟨rfl,hl0⟩,if_neg (by decide),if_neg (fun hx=>hx.2 hl0)];refine ⟨rfl,G',?_⟩;rw [hS'];have hcg:dnL S'.c key (setN F.L F.lv Lq) D F.lv (h - 1 - F.lv)=dnL S.c key F.L D F.lv (h - 1 - F.lv):=by
      rw [ce3];exact dnL_congr _ _ fun l hl=>⟨setN_other _ _ (by omega),rfl⟩
     refine ⟨ce1.trans he,ce2,.inr ⟨hon,hlt,g,ps,a,D,b1,b2,cvP b1 b2,hps,hpa,hpd,fun _=>rfl,?_⟩⟩;show LaneR w0 (_::_::boxI fb (fdC S'.c key _ 1 g h F.lv)::_::(dnL S'.c key (setN F.L F.lv Lq) D F.lv (h - 1 - F.lv)++R)) a F.lv key false S' 1 (setN F.L F.lv Lq F.lv) w2;rw [hcg,setN_same,ce3,hl0,show ((0:Nat):Int)=0 from rfl];refine ⟨ny2,wd2,B3,B4,fun hx=>absurd hx (by decide),hE3.perm (perm_of fun z=>?_)⟩;simp only [LT,List.count_cons,List.count_append,hl0];omega
    ·obtain ⟨t,ht⟩:∃ t,F.lv=t+1:=⟨F.lv - 1,by omega⟩;rw [ht] at hE2 hat hlt hpa;refine (endedDown_f t hlt hh2 hps a ny2 Lq.p.1 Lq.p.2.1 Lq.p.2.2 Lq.W Lq.C Lq.X wd2 (pfS 1 Lq) (pvS 1 Lq) hat hpa 0 (by rw [ce3]; rfl) hE2).mono ?_;rintro o w2 ⟨rfl,b3,b4,a2,hE3⟩;refine ⟨0,rfl,?_⟩;rw [if_neg (fun hx=>hl0 hx.2),if_neg (by decide),if_pos ⟨rfl,hl0⟩];refine ⟨rfl,G',?_⟩;rw [hS'];have ht1:F.lv - 1=t:=by omega
     have hcg:dnL S'.c key (setN (setN F.L F.lv Lq) t (L0 (belowP Lq.p))) (setN D (t+1) (a,ny2,wd2)) t (h - 1 - t)=boxI a (laneV S'.c ((t+1:Nat):Int) key false ny2 1 wd2 (pfS 1 Lq) (pvS 1 Lq) Lq)::dnL S.c key F.L D F.lv (h - 1 - F.lv):=by
      rw [show h - 1 - t=(h - 1 - F.lv)+1 by omega];show dnI _ _ _ _ (t+1)::dnL _ _ _ _ (t+1) _=_;rw [<- ht,ce3]
      congr 1
      ·unfold dnI;rw [setN_same,setN_other _ _ (show F.lv≠t by omega),setN_same]
      ·exact dnL_congr _ _ fun l hl=>⟨by rw [setN_other _ _ (show l≠t by omega),setN_other _ _ (show l≠F.lv by omega)],setN_other _ _ (show l≠F.lv by omega)⟩
     refine ⟨ce1.trans he,ce2,.inr ⟨hon,?_,g,ps.set t (.pointer (some ⟨a2,0,none⟩)),a2,setN D (t+1) (a,ny2,wd2),b3,b4,cvP b3 b4,by rw [List.length_set]; exact hps,?_,?_,fun _=>rfl,?_⟩⟩
     ·show F.lv - 1 < h;omega
     ·show (ps.set t _)[F.lv - 1]?=_;rw [ht1,List.getElem?_set_self (by omega)]
     ·show ∀ l,F.lv - 1 < l->l < h->(ps.set t _)[l]?=_;rw [ht1];intro l hl1 hl2;rw [List.getElem?_set_ne (by omega)]
      by_cases hlt1:l=t+1
      ·subst hlt1;rw [setN_same];exact hpa
      ·rw [setN_other _ _ hlt1];exact hpd l (by omega) hl2
     ·show LaneR w0 (_::_::boxI fb (fdC S'.c key _ 0 g h ((F.lv - 1:Nat):Int))::_::(dnL S'.c key (setN (setN F.L F.lv Lq) (F.lv - 1) (L0 (belowP Lq.p))) (setN D (t+1) (a,ny2,wd2)) (F.lv - 1) (h - 1 - (F.lv - 1))++R)) a2 ((F.lv - 1:Nat):Int) key false S' 0 (setN (setN F.L F.lv Lq) (F.lv - 1) (L0 (belowP Lq.p)) (F.lv - 1)) w2;rw [ht1,hcg,setN_same];refine ⟨mvL (fnL 0) a2,0,noI,noI,fun _=>⟨⟨fun _=>rfl,fun h=>absurd h (by simp [L0,isVal])⟩,fun h=>absurd h (by simp [L0]),fun h=>absurd h (by simp [L0])⟩,?_⟩;have hE4:Env w0 (boxI b3 [mvL 206 a2]::boxI b4 [mvL 207 fb]::boxI a2 (laneV S'.c t key false (mvL (fnL 0) a2) 0 0 (pfS 0 (L0 (belowP Lq.p))) (pvS 0 (L0 (belowP Lq.p))) (L0 (belowP Lq.p)))::boxI fb (fdC S'.c key (cvP b3 b4) 0 g h t)::boxI g (ps.set t (.pointer (some ⟨a2,0,none⟩)))::(boxI a (laneV S'.c ((t+1:Nat):Int) key false ny2 1 wd2 (pfS 1 Lq) (pvS 1 Lq) Lq)::LT S' (dnL S.c key F.L D F.lv (h - 1 - F.lv)++R))) w2:=by
       have h9:=hE3.perm (L':=(boxI b3 [mvL 206 a2]::boxI b4 [mvL 207 fb]::boxI a2 (laneC S.c t key false (mvL 234 a2) 0 Lq.p.1 Lq.p.2.1 (Lq.p.2.2 - 1) 0 0 0 0 false 0)::boxI fb (fdC S.c key (cvP b3 b4) 0 g h t)::boxI g (ps.set t (.pointer (some ⟨a2,0,none⟩)))::(boxI a (laneV S'.c ((t+1:Nat):Int) key false ny2 1 wd2 (pfS 1 Lq) (pvS 1 Lq) Lq)::LT S' (dnL S.c key F.L D (t+1) (h - 1 - (t+1))++R)))++[B3,B4,boxI b1 [mvL 206 a],boxI b2 [mvL 207 fb]]) (perm_of fun z=>by
        simp only [LT,List.count_cons,List.count_append,List.count_nil,List.cons_append];omega)
       rw [ht,ce3];rw [ce3] at h9;exact h9.sub (List.sublist_append_left _ _)
      refine Env.none2 (hE4.perm (perm_of fun z=>?_));simp only [LT,List.count_cons,List.count_append];omega
   ·subst h1;refine (endedAgain_f hE2).mono ?_;rintro o w2 ⟨rfl,hE3⟩;refine ⟨0,rfl,?_⟩;rw [if_neg (fun hx=>absurd hx.1 (by decide)),if_pos rfl];refine ⟨rfl,G',?_⟩;rw [hS'];refine ⟨ce1.trans he,ce2,.inl ⟨rfl,rfl,g,ps,F.lv,hps,?_⟩⟩;rw [ce3];have h9:=hE3.perm (L':=(boxI fb (fdC S.c key (mvL 151 fb) 0 g h F.lv)::boxI g ps::LT S' R)++(boxI a (laneV S'.c F.lv key false ny2 2 wd2 (pfS 2 Lq) (pvS 2 Lq) Lq)::B3::B4::boxI b1 [mvL 206 a]::boxI b2 [mvL 207 fb]::dnL S.c key F.L D F.lv (h - 1 - F.lv))) (perm_of fun z=>by
     simp only [LT,List.count_cons,List.count_append,List.cons_append];omega)
    exact h9.sub (List.sublist_append_left _ _)
end
end
section
open Go.RowKit
theorem madeI (z:Value) (hz:z.cells=#[z]) (n:Nat):madeCells z.cells (n * 1)=(List.replicate n z).toArray:=by
 apply Array.ext
 ·simp [size_madeCells]
 ·intro i h1 h2;simp only [madeCells,hz,Array.getElem_map,Array.getElem_range,List.getElem_toArray,List.getElem_replicate,List.size_toArray,List.length_cons,List.length_nil];simp [Nat.mod_one]
theorem run_makeI {P:Program} (z:Value) (hz:z.cells=#[z]) (t e:TypeId) (ht:P.underlying t=some (.slice e)) (hinfo:(P.info? e).map (fun i=>(i.zero,i.size,i.bytes))=some (some z,1,8))
  (kl kc:IntKind) (n:Nat) (hn:n<=1099511627776) (w:World) :
  (Instr.makeSlice t (.int kl (n:Int)) (.int kc (n:Int))).run P w=.ok (.slice (some ⟨w.heap.size,0,none⟩) n n) (w.alloc (.cells (List.replicate n z).toArray e)):=by
 obtain ⟨i,hi,hzz⟩:=Option.map_eq_some_iff.1 hinfo;simp only [Prod.mk.injEq] at hzz;obtain ⟨hz0,hs,hb⟩:=hzz;have hr:=run_make (P:=P) w t e i z ht hi hz0 kl kc n n (by omega) (Int.le_refl _) (by rw [hb]; omega) (by omega);simp only [Int.toNat_natCast,hs,madeI z hz] at hr;exact hr
theorem wpList_makeI {P:Program} (w:World) {ops:Array Oper} {rest:List Oper} {o:Oper} {a:Act} {Q:Exit->Act->World->Prop}
  (hg:o.guard=none) (l c:Operand) (t:TypeId) (hop:o.op=Op.makeSlice t l c) (z:Value) (hz:z.cells=#[z])
  (e:TypeId) (ht:P.underlying t=some (.slice e)) (hinfo:(P.info? e).map (fun i=>(i.zero,i.size,i.bytes))=some (some z,1,8))
  (kl kc:IntKind) (N M:Int) (n:Nat) (hl:a.eval l=.int kl N) (hc:a.eval c=.int kc M) (hN:N=(n:Int)) (hM:M=(n:Int)) (hn:n<=1099511627776)
  (hK:wpList P ops Q rest (a.put o.dst (.slice (some ⟨w.heap.size,0,none⟩) n n)) (w.alloc (.cells (List.replicate n z).toArray e))) :
  wpList P ops Q (o::rest) a w:=by
 refine wpList_plain hg fun K hK'=>?_;subst hN;subst hM;have hrun:=run_makeI (P:=P) z hz t e ht hinfo kl kc n hn w;unfold Oper.wp;simp [execOp,hop,hl,hc,hrun,Result.andThen];exact hK' _ _ hK
end
section
open Go.RowKit Go.Maps
theorem infoLn:(prog.info? 264).map (fun i=>(i.zero,i.size,i.bytes))=some (some (.pointer none),1,8):=by kernel_rfl
theorem kind_ofF (v:World) (a b c d e:Int):(Instr.field 23 (.agg #[.int .i64 a,.int .i64 b,.int .i64 c,.int .i64 d,.int .i64 e]) 0).run prog v=.ok (.int .i64 a) v:=by kernel_rfl
theorem height_ofF (v:World) (a b c d e:Int):(Instr.field 23 (.agg #[.int .i64 a,.int .i64 b,.int .i64 c,.int .i64 d,.int .i64 e]) 3).run prog v=.ok (.int .i64 d) v:=by kernel_rfl
section
variable {w0 w:World} {L:List Item} {c q:Nat} {k s b l e r hs hi:Int} {h:Nat}
theorem newYes_f (i:Nat) (key:Int) (hh:h<=1000) (hm:L[i]?=some (coreI c 3 s b h l e r hs hi q)) (hE:Env w0 L w) :
  Calls prog 130 #[.pointer (some ⟨c,0,none⟩),.int .u64 key] w fun o w'=>∃ fb g,o=.returned (.pointer (some ⟨fb,0,none⟩))/\Env w0 (boxI fb (fdC c key (mvL 151 fb) 0 g h 0)::boxI g (List.replicate h (.pointer none))::L) w':=by
 have hmf:=makeF;have hko:=kind_ofF;have hho:=height_ofF;have HCF:=zH fun (v:World) (hv:Env w0 L v)=>conf_c (hv.get i hm);have hh2:h<=1099511627776:=by omega
 clear hm;go_enter func130,ntmps130;go_wp2_with fail;refine (HCF.out _ hE).mono ?_;rintro o w1 ⟨rfl,hb⟩;replace hE:=hE.over hb;clear hb;go_wp2_with fail;refine (HCF.out _ hE).mono ?_;rintro o w2 ⟨rfl,hb⟩;replace hE:=hE.over hb;clear hb HCF;go_wp2_with (first | (refine wpList_makeI _ rfl _ _ _ rfl (.pointer none) rfl 264 rfl infoLn .i64 .i64 _ _ h rfl rfl rfl rfl hh2 ?_));have hE1:=hE.box w2.heap.size rfl (List.replicate h (.pointer none)) 264;have hE2:=hE1.box (w2.heap.size+1) (by simp) (fdC c key .nilFunc 0 w2.heap.size h 0) 236;have HGO:=zH (goOn_r (o:=2) 0 (.func 151) #[.pointer (some ⟨w2.heap.size+1,0,none⟩)] #[] (by simp [fdC]) hE2 rfl);clear hE hE1 hE2;go_wp2_with fail;refine HGO.out.mono ?_;rintro o w4 ⟨rfl,hE4⟩;go_wp2_with fail;go_ret;exact ⟨_,_,rfl,hE4⟩
end
section
variable {w:World} {fb g h c a:Nat} {key lv:Int} {nx lx:Value} {st s x y z W C X wd pv k0:Int} {pf:Bool}
theorem lane_f (k:Nat) (hk:k < h) (hh:h<=1000) (lp:Option Addr) (hb:Blk 0 w fb (fdC c key nx st g h lv)) (hc:w.cell? ⟨g,k,none⟩=some (.pointer lp)) :
  Calls prog 183 #[.pointer (some ⟨fb,0,none⟩),.int .i64 (k:Int)] w fun o w'=>o=.returned (.pointer lp)/\w'=w:=by
 have r:=hb.rule;unfold fdC at r;have h1:decide ((k:Int) < 0)=false:=by simp
 have h2:decide ((k:Int)>=(h:Int))=false:=by simp; omega
 have h3:(k:Int) < (h:Int):=by omega
 have h4:(h:Int)<=1000:=by omega
 go_enter func183,ntmps183
 go_wp2
 go_ret;exact ⟨rfl,rfl⟩
end
section
variable {w:World} {p:Option Addr} {k:Int} {lp:Option Addr}
theorem foundAt_any (b:Bool) (hl:Calls prog 183 #[.pointer p,.int .i64 k] w fun o w'=>o=.returned (.pointer lp)/\w'=w) (hf:Calls prog 188 #[.pointer lp] w fun o w'=>o=.returned (.bool b)/\w'=w) :
  Calls prog 158 #[.pointer p,.int .i64 k] w fun o w'=>o=.returned (.bool b)/\w'=w:=by
 have H1:=zH hl;have H2:=zH hf;clear hl hf;go_enter func158,ntmps158;go_wp2_with fail;refine H1.out.mono ?_;rintro o w1 ⟨rfl,rfl⟩;go_wp2_with fail;refine H2.out.mono ?_;rintro o w1 ⟨rfl,rfl⟩;go_wp2_with fail;go_ret;exact ⟨rfl,rfl⟩
theorem found_any (b:Bool) (hf:Calls prog 158 #[.pointer p,.int .i64 0] w fun o w'=>o=.returned (.bool b)/\w'=w) :
  Calls prog 135 #[.pointer p] w fun o w'=>o=.returned (.bool b)/\w'=w:=by
 have H2:=zH hf;clear hf;go_enter func135,ntmps135;go_wp2_with fail;refine H2.out.mono ?_;rintro o w1 ⟨rfl,rfl⟩;go_wp2_with fail;go_ret;exact ⟨rfl,rfl⟩
theorem atF_any (x y z d:Int) (hl:∀ v,Below w.heap.size w v->Calls prog 183 #[.pointer p,.int .i64 k] v fun o w'=>o=.returned (.pointer lp)/\w'=v) (hf:∀ v,Below w.heap.size w v->Calls prog 266 #[.pointer lp] v fun o w'=>o=.returned (.agg #[.int .i64 x,.int .i64 y,.int .i64 z,.int .i64 d])/\Below v.heap.size v w') :
  Calls prog 242 #[.pointer p,.int .i64 k] w fun o w'=>o=.returned (.agg #[.int .i64 x,.int .i64 y,.int .i64 z,.int .i64 d])/\Below w.heap.size w w':=by
 have H1:=zH hl;have H2:=zH hf;have hE:=(Env.start w).box w.heap.size rfl [.int .i64 0,.int .i64 0,.int .i64 0,.int .i64 0] 150;clear hl hf;go_enter func242,ntmps242;go_wp2_with fail;refine (H1.out _ hE.below).mono ?_;rintro o w1 ⟨rfl,rfl⟩;go_wp2_with fail;refine (H2.out _ hE.below).mono ?_;rintro o w1 ⟨rfl,hb⟩;replace hE:=hE.over hb;clear hb;have r0:=hE.rule 0 rfl;have ff:=hE.thaw 0 rfl;have f0:=ff 0 (by simp);have f1:=ff 1 (by simp);have f2:=ff 2 (by simp);have f3:=ff 3 (by simp);clear ff;have hE7:=(((hE.put 0 rfl (j:=0) (by simp) (.int .i64 x)).put 0 rfl (j:=1) (by simp) (.int .i64 y)).put 0 rfl (j:=2) (by simp) (.int .i64 z)).put 0 rfl (j:=3) (by simp) (.int .i64 d);have q:=hE7.rule 0 rfl;go_wp2_with fail;exact bodyPost_ret (v:=.agg #[.int .i64 x,.int .i64 y,.int .i64 z,.int .i64 d]) (by simp [results,results242,go_sem,q]) rfl ⟨rfl,hE7.below⟩
theorem intoF_any (v0 d:Int) (bb:Bool) (hl:∀ v,Below w.heap.size w v->Calls prog 183 #[.pointer p,.int .i64 k] v fun o w'=>o=.returned (.pointer lp)/\w'=v) (hf:∀ v,Below w.heap.size w v->Calls prog 241 #[.pointer lp] v fun o w'=>o=.returned (.agg #[.int .u64 v0,.int .i64 d,.bool bb])/\Below v.heap.size v w') :
  Calls prog 212 #[.pointer p,.int .i64 k] w fun o w'=>o=.returned (.agg #[.int .u64 v0,.int .i64 d,.bool bb])/\Below w.heap.size w w':=by
 have H1:=zH hl;have H2:=zH hf;have hE:=(Env.start w).box w.heap.size rfl [.int .u64 0,.int .i64 0,.bool false] 127;clear hl hf;go_enter func212,ntmps212;go_wp2_with fail;refine (H1.out _ hE.below).mono ?_;rintro o w1 ⟨rfl,rfl⟩;go_wp2_with fail;refine (H2.out _ hE.below).mono ?_;rintro o w1 ⟨rfl,hb⟩;replace hE:=hE.over hb;clear hb;have r0:=hE.rule 0 rfl;have ff:=hE.thaw 0 rfl;have f0:=ff 0 (by simp);have f1:=ff 1 (by simp);have f2:=ff 2 (by simp);clear ff;have hE7:=hE.put3 0 rfl (.int .u64 v0) (.int .i64 d) (.bool bb);have q:=hE7.rule 0 rfl;go_wp2_with fail;exact bodyPost_ret (v:=.agg #[.int .u64 v0,.int .i64 d,.bool bb]) (by simp [results,results212,go_sem,q]) rfl ⟨rfl,hE7.below⟩
theorem whoF_any (x d:Int) (hl:∀ v,Below w.heap.size w v->Calls prog 183 #[.pointer p,.int .i64 0] v fun o w'=>o=.returned (.pointer lp)/\w'=v) (hf:∀ v,Below w.heap.size w v->Calls prog 184 #[.pointer lp] v fun o w'=>o=.returned (.agg #[.int .i64 x,.int .i64 d])/\Below v.heap.size v w') :
  Calls prog 156 #[.pointer p] w fun o w'=>o=.returned (.agg #[.int .i64 x,.int .i64 d])/\Below w.heap.size w w':=by
 have H1:=zH hl;have H2:=zH hf;have hE:=(Env.start w).box w.heap.size rfl [.int .i64 0,.int .i64 0] 110;clear hl hf;go_enter func156,ntmps156;go_wp2_with fail;refine (H1.out _ hE.below).mono ?_;rintro o w1 ⟨rfl,rfl⟩;go_wp2_with fail;refine (H2.out _ hE.below).mono ?_;rintro o w1 ⟨rfl,hb⟩;replace hE:=hE.over hb;clear hb;have r0:=hE.rule 0 rfl;have ff:=hE.thaw 0 rfl;have f0:=ff 0 (by simp);have f1:=ff 1 (by simp);clear ff;have hE7:=(hE.put 0 rfl (j:=0) (by simp) (.int .i64 x)).put 0 rfl (j:=1) (by simp) (.int .i64 d);have q:=hE7.rule 0 rfl;go_wp2_with fail;exact bodyPost_ret (v:=.agg #[.int .i64 x,.int .i64 d]) (by simp [results,results156,go_sem,q]) rfl ⟨rfl,hE7.below⟩
end
def endL (c:Nat) (key:Int) (L:Nat->Lm) (D:Nat->Nat × Value × Int) (h:Nat):List Item:=dnI c key L D 0::dnL c key L D 0 (h - 1)
theorem dnL_mem {c:Nat} {key:Int} {L:Nat->Lm} {D:Nat->Nat × Value × Int}:∀ (n lv l:Nat),lv < l->l<=lv+n->dnI c key L D l∈dnL c key L D lv n
 | 0,lv,l,h1,h2=>absurd h2 (by omega)
 | n+1,lv,l,h1,h2=>by
  show _∈dnI _ _ _ _ (lv+1)::dnL _ _ _ _ (lv+1) n
  by_cases e:l=lv+1
  ·rw [e]; exact List.mem_cons_self ..
  ·exact List.mem_cons_of_mem _ (dnL_mem n (lv+1) l (by omega) (by omega))
theorem endL_mem {c:Nat} {key:Int} {L:Nat->Lm} {D:Nat->Nat × Value × Int} {h l:Nat} (hl:l < h):dnI c key L D l∈endL c key L D h:=by
 unfold endL
 by_cases e:l=0
 ·rw [e]; exact List.mem_cons_self ..
 ·exact List.mem_cons_of_mem _ (dnL_mem _ _ _ (by omega) (by omega))
section
variable {w0 w:World} {R X:List Item} {fb h g:Nat} {S:ST} {key:Int} {F:Fm} {c:Nat} {nx:Value} {ps:List Value} {L:Nat->Lm} {D:Nat->Nat × Value × Int}
theorem FindR.fin (hR:FindR w0 R fb h key S 1 F w) (h0:F.lv=0):∃ g ps D nx,(∀ l,l < h->ps[l]?=some (.pointer (some ⟨(D l).1,0,none⟩)))/\Env w0 (boxI fb (fdC S.c key nx 1 g h 0)::boxI g ps::(endL S.c key F.L D h++LT S R)) w:=by
 obtain ⟨-,-,⟨-,hx,-⟩ | ⟨hon,hlt,g,ps,a,D,b1,b2,nx,hps,hpa,hpd,-,ny,wd,B1,B2,-,hE⟩⟩:=hR
 ·exact absurd hx (by decide)
 ·rw [h0] at hlt hpa hpd hE;refine ⟨g,ps,setN D 0 (a,ny,wd),nx,fun l hl=>?_,?_⟩
  ·by_cases e:l=0
   ·rw [e,setN_same]; exact hpa
   ·rw [setN_other _ _ e]; exact hpd l (by omega) hl
  ·have hcg:endL S.c key F.L (setN D 0 (a,ny,wd)) h=boxI a (laneV S.c ((0:Nat):Int) key false ny 1 wd (pfS 1 (F.L 0)) (pvS 1 (F.L 0)) (F.L 0))::dnL S.c key F.L D 0 (h - 1 - 0):=by
    unfold endL
    congr 1
    exact dnL_congr _ _ fun l hl=>⟨rfl,setN_other _ _ (by omega)⟩
   rw [hcg];have h9:=hE.perm (L':=(boxI fb (fdC S.c key nx 1 g h ((0:Nat):Int))::boxI g ps::(boxI a (laneV S.c ((0:Nat):Int) key false ny 1 wd (pfS 1 (F.L 0)) (pvS 1 (F.L 0)) (F.L 0))::dnL S.c key F.L D 0 (h - 1 - 0)++LT S R))++[B1,B2,boxI b1 [mvL 206 a],boxI b2 [mvL 207 fb]]) (perm_of fun z=>by
    simp only [LT,List.count_cons,List.count_append,List.cons_append,List.count_nil];omega)
   exact h9.sub (List.sublist_append_left _ _)
end
structure Fd where
 fb:Nat
 g:Nat
 ps:List Value
 D:Nat->Nat × Value × Int
 nx:Value
def Fd.its (F:Fd) (c:Nat) (key:Int) (L:Nat->Lm) (h:Nat):List Item:=boxI F.fb (fdC c key F.nx 1 F.g h 0)::boxI F.g F.ps::endL c key L F.D h
def FdAt (F:Fd) (c:Nat) (key:Int) (L:Nat->Lm) (h:Nat) (v:World):Prop :=
 Blk 0 v F.fb (fdC c key F.nx 1 F.g h 0)/\Blk 0 v F.g F.ps/\∀ l,l < h->F.ps[l]?=some (.pointer (some ⟨(F.D l).1,0,none⟩))/\Blk 0 v (F.D l).1 (laneV c l key false (F.D l).2.1 1 (F.D l).2.2 (pfS 1 (L l)) (pvS 1 (L l)) (L l))
structure FdIn (F:Fd) (c:Nat) (key:Int) (L:Nat->Lm) (h:Nat) (R:List Item):Prop where
 its:∀ a∈F.its c key L h,a∈R
 ps:∀ l,l < h->F.ps[l]?=some (.pointer (some ⟨(F.D l).1,0,none⟩))
 hh:1<=h/\h<=1000
section
variable {F:Fd} {c h:Nat} {key:Int} {L:Nat->Lm} {R N:List Item} {w0 v v':World} {l:Nat}
theorem FdIn.more (hI:FdIn F c key L h R) (hs:∀ a∈R,a∈N):FdIn F c key L h N:=⟨fun a ha=>hs a (hI.its a ha),hI.ps,hI.hh⟩
theorem FdIn.at9 (hI:FdIn F c key L h R) (hE:Env w0 N v) (hs:∀ a∈R,a∈N):FdAt F c key L h v:=by
 have hm:∀ a∈F.its c key L h,a∈N:=fun a ha=>hs a (hI.its a ha);refine ⟨hE.mem (hm _ (List.mem_cons_self ..)),hE.mem (hm _ (List.mem_cons_of_mem _ (List.mem_cons_self ..))),fun l hl=>⟨hI.ps l hl,hE.mem (hm (dnI c key L F.D l) ?_)⟩⟩;exact List.mem_cons_of_mem _ (List.mem_cons_of_mem _ (endL_mem hl))
theorem FdAt.under (hF:FdAt F c key L h v) (hb:Below v.heap.size v v'):FdAt F c key L h v':=⟨hF.1.under hb,hF.2.1.under hb,fun l hl=>⟨(hF.2.2 l hl).1,(hF.2.2 l hl).2.under hb⟩⟩
theorem FdAt.facts (hF:FdAt F c key L h v) (hl:l < h):Blk 0 v F.fb (fdC c key F.nx 1 F.g h 0)/\v.cell? ⟨F.g,l,none⟩=some (.pointer (some ⟨(F.D l).1,0,none⟩))/\Blk 0 v (F.D l).1 (laneV c l key false (F.D l).2.1 1 (F.D l).2.2 (pfS 1 (L l)) (pvS 1 (L l)) (L l)) :=
 ⟨hF.1,(Blk.rule hF.2.1 l).trans (hF.2.2 l hl).1,(hF.2.2 l hl).2⟩
theorem fdFoundAt (hF:FdAt F c key L h v) (hh:h<=1000) (hl:l < h) :
  Calls prog 158 #[.pointer (some ⟨F.fb,0,none⟩),.int .i64 (l:Int)] v fun o w'=>o=.returned (.bool (L l).fd)/\w'=v:=by
 obtain ⟨h1,h2,h3⟩:=hF.facts hl;exact foundAt_any _ (lane_f l hl hh _ h1 h2) (found_g h3)
theorem fdFound (hF:FdAt F c key L h v) (hh:1<=h/\h<=1000) :
  Calls prog 135 #[.pointer (some ⟨F.fb,0,none⟩)] v fun o w'=>o=.returned (.bool (L 0).fd)/\w'=v:=found_any _ (fdFoundAt hF hh.2 (l:=0) hh.1)
theorem fdWhere (hF:FdAt F c key L h v) (hh:h<=1000) (hl:l < h) :
  Calls prog 242 #[.pointer (some ⟨F.fb,0,none⟩),.int .i64 (l:Int)] v fun o w'=>o=.returned (.agg #[.int .i64 (L l).p.1,.int .i64 (L l).p.2.1,.int .i64 (L l).p.2.2,.int .i64 0])/\Below v.heap.size v w':=by
 refine atF_any (lp:=some ⟨(F.D l).1,0,none⟩) _ _ _ _ (fun v hb=>?_) (fun v hb=>?_)
 ·obtain ⟨h1,h2,-⟩:=(hF.under hb).facts hl;exact lane_f l hl hh _ h1 h2
 ·obtain ⟨-,-,h3⟩:=(hF.under hb).facts hl;exact at_g h3
theorem fdInto (hF:FdAt F c key L h v) (hh:h<=1000) (hl:l < h) :
  Calls prog 212 #[.pointer (some ⟨F.fb,0,none⟩),.int .i64 (l:Int)] v fun o w'=>o=.returned (.agg #[.int .u64 (L l).W,.int .i64 0,.bool false])/\Below v.heap.size v w':=by
 refine intoF_any (lp:=some ⟨(F.D l).1,0,none⟩) _ _ _ (fun v hb=>?_) (fun v hb=>?_)
 ·obtain ⟨h1,h2,-⟩:=(hF.under hb).facts hl;exact lane_f l hl hh _ h1 h2
 ·obtain ⟨-,-,h3⟩:=(hF.under hb).facts hl;exact into_g h3
theorem fdWho (hF:FdAt F c key L h v) (hh:1<=h/\h<=1000) :
  Calls prog 156 #[.pointer (some ⟨F.fb,0,none⟩)] v fun o w'=>o=.returned (.agg #[.int .i64 (L 0).C,.int .i64 0])/\Below v.heap.size v w':=by
 refine whoF_any (lp:=some ⟨(F.D 0).1,0,none⟩) _ _ (fun v hb=>?_) (fun v hb=>?_)
 ·obtain ⟨h1,h2,-⟩:=(hF.under hb).facts (l:=0) hh.1;exact lane_f 0 hh.1 hh.2 _ h1 h2
 ·obtain ⟨-,-,h3⟩:=(hF.under hb).facts (l:=0) hh.1;exact who_g h3
end
end
section
open Go.RowKit
theorem marked_any (x s v:Int) (w:World) (hg:Glo w) (h0:0<=x) (h1:x<=18446744073709551615) :
  Calls prog 305 #[.int .u64 x,.int .i64 s,.int .i64 v] w fun e w'=>e=.returned (.int .u64 (markedW x s v))/\Below w.heap.size w w':=by
 cases h:markB x
 ·have hm:markedW x s v=wordI true s v:=by simp [markedW,h]
  have H:=zH h;have HM:=zH hm;clear h hm;go_enter func305,ntmps305;go_wp2_with fail;refine (isMarked_any x _ hg h0 h1).mono ?_;rintro e w1 ⟨rfl,hb⟩;rw [H.out];go_wp2_with fail;refine (word_any true s v _ (hg.keep' hb)).mono ?_;rintro e w2 ⟨rfl,hb2⟩;go_wp2_with fail;go_ret;exact ⟨ret_int HM.out.symm,hb.trans (hb2.mono (by have:=hb.size; omega))⟩
 ·have hm:markedW x s v=x:=by simp [markedW,h]
  have H:=zH h;have HM:=zH hm;clear h hm;go_enter func305,ntmps305;go_wp2_with fail;refine (isMarked_any x _ hg h0 h1).mono ?_;rintro e w1 ⟨rfl,hb⟩;rw [H.out];go_wp2_with fail;go_ret;exact ⟨ret_int HM.out.symm,hb⟩
end
section
open Go.RowKit Go.Maps
section
variable {w:World} {c q:Nat} {k s b h l e r hs hi:Int}
theorem markNew_c (v d2:Int) (t:Bool) (a d:Int) (hv:InU v) (hm:markB v=false) (hg:Glo w) (hb:Blk 0 w c (crv k s b h l e r hs hi q)) :
  Calls prog 293 #[.pointer (some ⟨c,0,none⟩),.agg #[.int .u64 v,.int .i64 d2,.bool t],.agg #[.int .i64 a,.int .i64 d]] w fun o w'=>o=.returned (.agg #[.int .u64 (wordI true a e),.int .i64 d,.bool false])/\Below w.heap.size w w':=by
 unfold InU at hv;have hmw:markedW v a e=wordI true a e:=by simp [markedW,hm]
 have HGB:Hid (∀ (x:World) (hx:Below w.heap.size w x),Calls prog 305 #[.int .u64 v,.int .i64 a,.int .i64 e] x fun o w'=>o=.returned (.int .u64 (wordI true a e))/\Below x.heap.size x w'):=zH fun x hx=>by
  rw [<- hmw]; exact marked_any v a e x (hg.keep' hx) hv.1 hv.2
 have HM:=zH hm;clear hm hmw;have hF:=(((Fr.start w).push w.heap.size rfl [.int .u64 v,.int .i64 d2,.bool t] 127).push (w.heap.size+1) (by simp) [.int .i64 a,.int .i64 d] 110).push (w.heap.size+1+1) (by simp) [.int .u64 0,.int .i64 0,.bool false] 127;have r:=hF.rule 2 rfl;have hg1:=hg.keep' hF.below;have hcl:=hb.1;have hb1:=hb.under hF.below;clear hb hg;go_enter func293,ntmps293;go_wp2_with fail;refine (isMarked_any v _ hg1 hv.1 hv.2).mono ?_;rintro o w1 ⟨rfl,hb⟩;rw [HM.out];replace hF:=hF.over hb;replace hb1:=hb1.under hb;clear hb r hg1;unfold crv at hb1;go_wp2_with fail;have hX:=hF.blk 2 rfl (by omega);have hY:=hF.blk 1 rfl (by omega);have hZ:=hF.blk 0 rfl (by omega);have hE:=hF.below;clear hF;refine Ord.wc [12] (fun w'=>Below w.heap.size w w'/\Blk 0 w' c [.int .i64 k,.int .i64 s,.int .i64 b,.int .i64 h,.int .i64 l,.int .i64 e,.int .i64 r,.int .i64 hs,.int .i64 hi,.pointer (some ⟨q,0,none⟩)]/\Blk 0 w' w.heap.size [.int .u64 v,.int .i64 d2,.bool t]/\Blk 0 w' (w.heap.size+1) [.int .i64 a,.int .i64 d]) (fun j w'=>Blk 0 w' (w.heap.size+1+1) (if j=0 then [.int .u64 0,.int .i64 0,.bool false] else [.int .u64 (wordI true a e),.int .i64 d,.bool false])) ⟨hE.drew,hb1.drew,hX.drew,hY.drew⟩ hZ.drew fun hT9=>?_
 repeat ((first
  | (refine Ord.cv ?_ hT9.o ?_ ?_; rotate_left; (intro w5 hS; have r1:=Blk.rule hS.2.1; have r2:=Blk.rule hS.2.2.1; have r3:=Blk.rule hS.2.2.2; go_simp<;>rfl))
  | (refine Ord.co hT9.o ?_)
  | (refine Ord.cc ?_ ?_ ?_ hT9.o ?_ ?_ ?_; rotate_left 3; (intro w5 hS; have r1:=Blk.rule hS.2.1; have r2:=Blk.rule hS.2.2.1; have r3:=Blk.rule hS.2.2.2; go_simp; constructor<;>rfl); (intro w5 hS; (first | (with_reducible refine kp (HGB.out _ hS.1) ?_ ?_; rfl; exact fun w6 hb6=>⟨⟨hS.1.trans (hb6.mono hS.1.size),hS.2.1.under hb6,hS.2.2.1.under hb6,hS.2.2.2.under hb6⟩,fun _ h=>h.under hb6⟩)))));try simp only [Act.put,zA,zZ,zS])
 refine Ord.ch_turn (v:=undef) 0 hT9.o rfl (by decide) (Or.inl rfl) (by rfl) ?_ ?_
 ·rintro w5 hS hA2;simp only [if_true] at hA2;have r:=hA2.rule;have f0:=hA2.thaw 0 (by simp);have f1:=hA2.thaw 1 (by simp);have f2:=hA2.thaw 2 (by simp);have hz:=hS.1.size;go_simp;refine ⟨rfl,⟨?_,?_,?_,?_⟩,?_⟩
  ·exact below_set (below_set (below_set hS.1 hz (by omega) _) (by simp; omega) (by omega) _) (by simp; omega) (by omega) _
  ·exact ((hS.2.1.off (by omega) _).off (by omega) _).off (by omega) _
  ·exact ((hS.2.2.1.off (by omega) _).off (by omega) _).off (by omega) _
  ·exact ((hS.2.2.2.off (by omega) _).off (by omega) _).off (by omega) _
  ·exact Blk.put3 hA2 _ _ _
 try simp only [Act.put,zA,zZ,zS]
 repeat ((first
  | (refine Ord.cv ?_ hT9.o ?_ ?_; rotate_left; (intro w5 hS; skip; go_simp<;>rfl))
  | (refine Ord.co hT9.o ?_));try simp only [Act.put,zA,zZ,zS])
 refine Ord.InText.nil fun w5 hS=>?_;clear hT9;obtain ⟨hC9,hA9⟩:=Ord.chain_end hS;clear hS;have q:=hA9.rule;simp only [show ¬ [12].length=0 by decide,if_false] at q
 go_wp2
 exact bodyPost_ret (v:=.agg #[.int .u64 (wordI true a e),.int .i64 d,.bool false]) (by simp [results,results293,go_sem,q]) rfl ⟨rfl,hC9.1⟩
end
def opS (c:Nat) (kd key val lv:Int) (nx:Value) (st:Int) (fp:Value) (n l t y:Int) (an:Bool) (er:Int) (dn:Bool):List Value :=
 [.pointer (some ⟨c,0,none⟩),.int .i64 kd,.int .u64 key,.int .u64 val,.int .i64 lv,nx,.int .i64 st,fp,.int .i64 n,.int .i64 0,.int .i64 l,.int .u64 t,.int .i64 0,.bool false,.int .u64 y,.int .i64 0,.bool false,.bool an,.int .i64 er,.bool dn,.int .u64 0]
def cvS (b1 b2:Nat):Value:=.func (.func 216) #[] #[.pointer (some ⟨b1,0,none⟩),.pointer (some ⟨b2,0,none⟩)]
theorem FdAt.off {F:Fd} {c h:Nat} {key:Int} {L:Nat->Lm} {w v:World} (h0:FdAt F c key L h w) (hF:FdAt F c key L h v) (i:Nat) (u:Value):FdAt F c key L h (v.setCell ⟨w.heap.size,i,none⟩ u) :=
 ⟨hF.1.off (by have:=h0.1.1; omega) _,hF.2.1.off (by have:=h0.2.1.1; omega) _,fun l hl=>⟨(hF.2.2 l hl).1,(hF.2.2 l hl).2.off (by have:=(h0.2.2 l hl).2.1; omega) _⟩⟩
theorem FdAt.drew {F:Fd} {c h:Nat} {key:Int} {L:Nat->Lm} {v:World} (hF:FdAt F c key L h v):FdAt F c key L h v.drew:=hF
section
variable {w0 w:World} {R M:List Item} {o c:Nat} {kd key val lv:Int} {nx fp:Value} {er st n l t y:Int} {an dn:Bool} {k s b h9 l9 e r hs hi:Int} {q h:Nat}
theorem seek_s (Y:Nat) (i:Nat) (hh:h<=1000) (hm:M[i]?=some (coreI c 3 s b h l9 e r hs hi q)) (hE:Env w0 (boxI o (opS c kd key val lv nx 0 fp n l t y an er dn)::M) w) :
  Calls prog 99 #[.pointer (some ⟨o,0,none⟩),mvL Y o] w fun r w'=>r=.returned (.int .i64 0)/\∃ b1 b2 fb g,Env w0 (boxI o (opS c kd key val lv (cvP b1 b2) 0 (.pointer (some ⟨fb,0,none⟩)) n l t y an er dn)::boxI b1 [mvL 131 fb]::boxI b2 [mvL Y o]::boxI fb (fdC c key (mvL 151 fb) 0 g h 0)::boxI g (List.replicate h (.pointer none))::M) w':=by
 have hmf:=makeF;have HNW:=zH fun (v:World) (hv:Env w0 (boxI o (opS c kd key val lv nx 0 fp n l t y an er dn)::M) v)=>newYes_f (i+1) key hh hm hv;clear hh hm;go_enter func99,ntmps99;go_wp2_with fail;refine Ord3.wp_chain [?_,?_,?_,?_,?_,?_,?_,?_,?_,?_,?_,?_,?_,?_] [10,13] (fun w'=>∃ sp9,Blk 0 w' o (opS c kd key val lv nx 0 sp9 n l t y an er dn)) (Ord3.Stage fun κs=>[Env w0 (boxI o (opS c kd key val lv nx 0 fp n l t y an er dn)::M),fun w'=>∃ fb,κs.getD 0 undef=.pointer (some ⟨fb,0,none⟩)/\∃ g,Env w0 (boxI fb (fdC c key (mvL 151 fb) 0 g h 0)::boxI g (List.replicate h (.pointer none))::boxI o (opS c kd key val lv nx 0 fp n l t y an er dn)::M) w',fun w'=>∃ fb g,Env w0 (boxI fb (fdC c key (mvL 151 fb) 0 g h 0)::boxI g (List.replicate h (.pointer none))::boxI o (opS c kd key val lv nx 0 (.pointer (some ⟨fb,0,none⟩)) n l t y an er dn)::M) w']) (by kernel_rfl) (by kernel_rfl) (by kernel_rfl) ⟨fp,hE.drew.get 0 rfl⟩ ⟨_,rfl,hE.drew⟩ (fun hT=>?_);rotate_left 14;have hT9:=zH hT;clear hT
 repeat ((first
  | (focus (refine Ord3.in_value (v:=?_) hT9.o (by decide) ?_ (by rfl) ?_ ?_; rotate_left 2; (intro w5 hS; obtain ⟨sp9,hS9⟩:=hS; have r1:=Blk.rule hS9; unfold opS at r1; go_simp<;>rfl); rotate_right; (focus rfl)))
  | (focus (refine Ord3.in_off hT9.o (by decide) ?_ (by rfl) ?_; (focus rfl))));try simp only [Act.put,zA,zZ,zS])
 refine Ord3.in_turn (fun u=>∃ q,u=.pointer (some ⟨q,0,none⟩)) _ ⟨0,rfl⟩ hT9.o rfl (by decide) (by rfl) ?_ (Or.inl rfl) (by rfl) ?_ ?_
 ·rfl
 ·rintro w7 hC7 ⟨P7,hP7,hA7⟩;cases hP7;go_simp;simp only [Ord3.Lands];refine (HNW.out _ hA7).mono ?_;rintro o8 w8 ⟨fb8,g8,rfl,hE8⟩;exact ⟨_,rfl,⟨fb8,rfl⟩,⟨fp,hE8.get 2 rfl⟩,_,rfl,fb8,rfl,g8,hE8⟩
 rintro _ ⟨r9,rfl⟩
 try simp only [Act.put,zA,zZ,zS]
 repeat ((first
  | (focus (refine Ord3.in_value (v:=?_) hT9.o (by decide) ?_ (by rfl) ?_ ?_; rotate_left 2; (intro w5 hS; obtain ⟨sp9,hS9⟩:=hS; have r1:=Blk.rule hS9; unfold opS at r1; go_simp<;>rfl); rotate_right; (focus rfl)))
  | (focus (refine Ord3.in_off hT9.o (by decide) ?_ (by rfl) ?_; (focus rfl))));try simp only [Act.put,zA,zZ,zS])
 refine Ord3.in_turn (fun u=>u=undef) _ rfl hT9.o rfl (by decide) (by rfl) ?_ (Or.inr ⟨_,10,[],rfl,by kernel_rfl,by kernel_rfl,rfl⟩) (by rfl) ?_ ?_
 ·rfl
 ·rintro w7 hC7 ⟨P7,hP7,hA7⟩;cases hP7;obtain ⟨a8,he,g8,hA7⟩:=hA7;cases he;have r:=hA7.rule 2 rfl;unfold opS at r;have g:=hA7.thaw 2 rfl 7 (by simp [opS]);go_simp;simp only [Ord3.Lands];have h9:=hA7.put 2 rfl (j:=7) (by simp [opS]) (.pointer (some ⟨r9,0,none⟩));exact ⟨trivial,⟨_,h9.get 2 rfl⟩,_,rfl,r9,g8,h9⟩
 rintro _ rfl
 try simp only [Act.put,zA,zZ,zS]
 refine Ord3.in_nil rfl ?_;rintro w9 hC9 ⟨P9,hP9,hA9⟩;cases hP9;obtain ⟨fb,g,hA9⟩:=hA9;clear hT9 hC9 hE HNW;go_wp2_with fail;refine Ord3.wp_chain [?_,?_,?_,?_,?_,?_,?_,?_,?_,?_,?_] [9] (fun w'=>∃ nx9,Blk 0 w' o (opS c kd key val lv nx9 0 (.pointer (some ⟨fb,0,none⟩)) n l t y an er dn)) (Ord3.Stage fun κs=>[Env w0 (boxI fb (fdC c key (mvL 151 fb) 0 g h 0)::boxI g (List.replicate h (.pointer none))::boxI o (opS c kd key val lv nx 0 (.pointer (some ⟨fb,0,none⟩)) n l t y an er dn)::M),fun w'=>∃ b1 b2,Env w0 (boxI b1 [mvL 131 fb]::boxI b2 [mvL Y o]::boxI fb (fdC c key (mvL 151 fb) 0 g h 0)::boxI g (List.replicate h (.pointer none))::boxI o (opS c kd key val lv (cvP b1 b2) 0 (.pointer (some ⟨fb,0,none⟩)) n l t y an er dn)::M) w']) (by kernel_rfl) (by kernel_rfl) (by kernel_rfl) ⟨nx,hA9.drew.get 2 rfl⟩ ⟨_,rfl,hA9.drew⟩ (fun hT=>?_);rotate_left 11;have hT9:=zH hT;clear hT
 repeat ((first
  | (focus (refine Ord3.in_value (v:=?_) hT9.o (by decide) ?_ (by rfl) ?_ ?_; rotate_left 2; (intro w5 hS; obtain ⟨nx9,hS9⟩:=hS; have r1:=Blk.rule hS9; unfold opS at r1; go_simp<;>rfl); rotate_right; (focus rfl)))
  | (focus (refine Ord3.in_off hT9.o (by decide) ?_ (by rfl) ?_; (focus rfl))));try simp only [Act.put,zA,zZ,zS])
 refine Ord3.in_turn (fun u=>u=.int .i64 0) _ rfl hT9.o rfl (by decide) (by rfl) ?_ (Or.inl rfl) (by rfl) ?_ ?_
 ·rfl
 ·rintro w7 hC7 ⟨P7,hP7,hA7⟩;cases hP7;go_simp;simp only [Ord3.Lands];refine (play_r (o:=5) 2 _ _ _ _ _ _ (by simp [opS]) hA7 rfl).mono ?_;rintro o8 w8 ⟨rfl,b1,b2,hE8⟩;exact ⟨_,rfl,rfl,⟨_,hE8.get 4 rfl⟩,_,rfl,b1,b2,hE8⟩
 rintro _ rfl
 try simp only [Act.put,zA,zZ,zS]
 repeat ((first
  | (focus (refine Ord3.in_value (v:=?_) hT9.o (by decide) ?_ (by rfl) ?_ ?_; rotate_left 2; (intro w5 hS; skip; go_simp<;>rfl); rotate_right; (focus rfl)))
  | (focus (refine Ord3.in_off hT9.o (by decide) ?_ (by rfl) ?_; (focus rfl))));try simp only [Act.put,zA,zZ,zS])
 refine Ord3.in_nil rfl ?_;rintro w9 hC9 ⟨P9,hP9,hA9⟩;cases hP9;obtain ⟨b1,b2,hA9⟩:=hA9;clear hT9 hC9;go_wp2_with fail;go_ret;exact ⟨rfl,b1,b2,fb,g,hA9.perm (List.perm_middle (l₁:=[_,_,_,_]))⟩
theorem begin_s (i:Nat) (hh:h<=1000) (hm:M[i]?=some (coreI c 3 s b h l9 e r hs hi q)) (hE:Env w0 (boxI o (opS c kd key val lv nx 0 fp n l t y an er dn)::M) w) :
  Calls prog 54 #[.pointer (some ⟨o,0,none⟩)] w fun r w'=>r=.returned (.int .i64 0)/\∃ b1 b2 fb g,Env w0 (boxI o (opS c kd key val lv (cvP b1 b2) 0 (.pointer (some ⟨fb,0,none⟩)) n l t y an er dn)::boxI b1 [mvL 131 fb]::boxI b2 [mvL 100 o]::boxI fb (fdC c key (mvL 151 fb) 0 g h 0)::boxI g (List.replicate h (.pointer none))::M) w':=by
 have hmf:=makeF;have HS:=zH (seek_s 100 i hh hm hE);unfold mvL at HS;clear hE hm hh;go_enter func54,ntmps54;go_wp2_with fail;refine HS.out.mono ?_;rintro e w1 ⟨rfl,hX⟩;have HX:=zH hX;clear hX HS;go_wp2_with fail;go_ret;exact ⟨rfl,HX.out⟩
theorem over_s (e2:Int) (d2:Bool) (hE:Env w0 (boxI o (opS c kd key val lv nx st fp n l t y an er dn)::M) w) :
  Calls prog 134 #[.pointer (some ⟨o,0,none⟩),.agg #[.int .i64 e2,.bool d2,.int .u64 0]] w fun r w'=>r=.returned (.int .i64 1)/\Env w0 (boxI o (opS c kd key val lv nx 1 fp n l t y an e2 d2)::M) w':=by
 have hE1:=hE.box w.heap.size rfl [.int .i64 e2,.bool d2,.int .u64 0] 57;have r0:=hE1.rule 0 rfl;have r:=hE1.rule 1 rfl;unfold opS at r;have f:=hE1.thaw 1 rfl;have f0:=f 18 (by simp [opS]);have f1:=f 19 (by simp [opS]);have f2:=f 20 (by simp [opS]);clear f;have hP:=((hE1.put 1 rfl (j:=18) (by simp [opS]) (.int .i64 e2)).put 1 rfl (j:=19) (by simp [opS]) (.bool d2)).put 1 rfl (j:=20) (by simp [opS]) (.int .u64 0);have HEN:=zH (end_r (o:=5) 1 1 (by simp [opS]) hP rfl);clear hE hE1 hP;go_enter func134,ntmps134;go_wp2_with fail;refine HEN.out.mono ?_;rintro e w1 ⟨rfl,hE2⟩;go_wp2_with fail;go_ret;exact ⟨rfl,hE2.sub (.cons _ (List.Sublist.refl _))⟩
theorem changed_s (u:Int) (hE:Env w0 (boxI o (opS c kd key val lv nx st fp n l t y an er dn)::M) w) :
  Calls prog 291 #[.pointer (some ⟨o,0,none⟩),.int .i64 u] w fun r w'=>r=.returned (.int .i64 1)/\Env w0 (boxI o (opS c kd key val lv nx 1 fp n l t y an 0 true)::M) w':=by
 have HO:=zH (over_s 0 true hE);clear hE;go_enter func291,ntmps291;go_wp2_with fail;refine HO.out.mono ?_;rintro e w1 ⟨rfl,hE2⟩;go_wp2_with fail;go_ret;exact ⟨rfl,hE2⟩
theorem own_s (hlv:0<=l/\l<=1000000) (hb:Blk 0 w o (opS c kd key val lv nx st fp n l t y an er dn)):Calls prog 180 #[.pointer (some ⟨o,0,none⟩)] w fun e w'=>e=.returned (.agg #[.int .i64 5,.int .i64 n,.int .i64 (7+l),.int .i64 0])/\Below w.heap.size w w':=by
 have hal:=hb.1;have hX:=hb.more (.cells [.int .i64 0,.int .i64 0,.int .i64 0,.int .i64 0].toArray 150);have hZ:=Blk.new 0 w [.int .i64 0,.int .i64 0,.int .i64 0,.int .i64 0] 150;have hE:=(Below.refl w.heap.size w).alloc (Nat.le_refl _) (.cells [.int .i64 0,.int .i64 0,.int .i64 0,.int .i64 0].toArray 150);clear hb;have HLK:Hid (∀ v,Calls prog 209 #[.int .i64 n,.int .i64 l] v fun e w'=>e=.returned (.agg #[.int .i64 5,.int .i64 n,.int .i64 (7+l)])/\Below v.heap.size v w'):=zH fun v=>by
  have:=link_any n l v
  rwa [w64 (7+l) (by omega)] at this
 clear hlv;go_enter func180,ntmps180;go_wp2_with fail;refine Ord.wc [16] (fun w'=>Below w.heap.size w w'/\Blk 0 w' o (opS c kd key val lv nx st fp n l t y an er dn)) (fun j w'=>Blk 0 w' w.heap.size (if j=0 then [.int .i64 0,.int .i64 0,.int .i64 0,.int .i64 0] else [.int .i64 5,.int .i64 n,.int .i64 (7+l),.int .i64 0])) ⟨hE.drew,hX.drew⟩ hZ.drew fun hT9=>?_
 repeat ((first
  | (refine Ord.cv ?_ hT9.o ?_ ?_; rotate_left; (intro w5 hS; have r:=Blk.rule hS.2; unfold opS at r; go_simp<;>rfl))
  | (refine Ord.co hT9.o ?_)
  | (refine Ord.cc ?_ ?_ ?_ hT9.o ?_ ?_ ?_; rotate_left 3; (intro w5 hS; have r:=Blk.rule hS.2; unfold opS at r; go_simp; constructor<;>rfl); (intro w5 hS; (first | (with_reducible refine kp (HLK.out _) ?_ ?_; rfl; exact fun w6 hb6=>⟨⟨hS.1.trans (hb6.mono hS.1.size),hS.2.under hb6⟩,fun _ h=>h.under hb6⟩)))));try simp only [Act.put,zA,zZ,zS])
 refine Ord.ch_turn (v:=undef) 0 hT9.o rfl (by decide) (Or.inl rfl) (by rfl) ?_ ?_
 ·rintro w5 hS hA2;simp only [if_true] at hA2;have r:=hA2.rule;have f0:=hA2.thaw 0 (by simp);have f1:=hA2.thaw 1 (by simp);have f2:=hA2.thaw 2 (by simp);have f3:=hA2.thaw 3 (by simp);have hz:=hS.1.size;go_simp;refine ⟨rfl,⟨?_,?_⟩,?_⟩
  ·exact below_set (below_set (below_set (below_set hS.1 hz (by omega) _) (by simp; omega) (by omega) _) (by simp; omega) (by omega) _) (by simp; omega) (by omega) _
  ·exact (((hS.2.off (by omega) _).off (by omega) _).off (by omega) _).off (by omega) _
  ·exact (((hA2.set (i:=0) (by simp) _).set (i:=1) (by simp) _).set (i:=2) (by simp) _).set (i:=3) (by simp) _
 try simp only [Act.put,zA,zZ,zS]
 repeat ((first
  | (refine Ord.cv ?_ hT9.o ?_ ?_; rotate_left; (intro w5 hS; skip; go_simp<;>rfl))
  | (refine Ord.co hT9.o ?_));try simp only [Act.put,zA,zZ,zS])
 refine Ord.InText.nil fun w5 hS=>?_;clear hT9;obtain ⟨hC9,hA9⟩:=Ord.chain_end hS;clear hS;have q:=hA9.rule;simp only [show ¬ [16].length=0 by decide,if_false] at q
 go_wp2
 exact bodyPost_ret (v:=.agg #[.int .i64 5,.int .i64 n,.int .i64 (7+l),.int .i64 0]) (by simp [results,results180,go_sem,q]) rfl ⟨rfl,hC9.1⟩
theorem part_s (p9:Int) (hb:Blk 0 w o (opS c kd key val lv nx st fp n l t y an er dn)):Calls prog 185 #[.pointer (some ⟨o,0,none⟩),.int .i64 p9] w fun e w'=>e=.returned (.agg #[.int .i64 5,.int .i64 n,.int .i64 p9,.int .i64 0])/\Below w.heap.size w w':=by
 have hal:=hb.1;have hX:=hb.more (.cells [.int .i64 0,.int .i64 0,.int .i64 0,.int .i64 0].toArray 150);have hZ:=Blk.new 0 w [.int .i64 0,.int .i64 0,.int .i64 0,.int .i64 0] 150;have hE:=(Below.refl w.heap.size w).alloc (Nat.le_refl _) (.cells [.int .i64 0,.int .i64 0,.int .i64 0,.int .i64 0].toArray 150);clear hb;go_enter func185,ntmps185;go_wp2_with fail;refine Ord.wc [13] (fun w'=>Below w.heap.size w w'/\Blk 0 w' o (opS c kd key val lv nx st fp n l t y an er dn)) (fun j w'=>Blk 0 w' w.heap.size (if j=0 then [.int .i64 0,.int .i64 0,.int .i64 0,.int .i64 0] else [.int .i64 5,.int .i64 n,.int .i64 p9,.int .i64 0])) ⟨hE.drew,hX.drew⟩ hZ.drew fun hT9=>?_
 repeat ((first
  | (refine Ord.cv ?_ hT9.o ?_ ?_; rotate_left; (intro w5 hS; have r:=Blk.rule hS.2; unfold opS at r; go_simp<;>rfl))
  | (refine Ord.co hT9.o ?_)
  | (refine Ord.cc ?_ ?_ ?_ hT9.o ?_ ?_ ?_; rotate_left 3; (intro w5 hS; have r:=Blk.rule hS.2; unfold opS at r; go_simp; constructor<;>rfl); (intro w5 hS; (first | (with_reducible refine kp (placeOf_any _ _ _) ?_ ?_; rfl; exact fun w6 hb6=>⟨⟨hS.1.trans (hb6.mono hS.1.size),hS.2.under hb6⟩,fun _ h=>h.under hb6⟩)))));try simp only [Act.put,zA,zZ,zS])
 refine Ord.ch_turn (v:=undef) 0 hT9.o rfl (by decide) (Or.inl rfl) (by rfl) ?_ ?_
 ·rintro w5 hS hA2;simp only [if_true] at hA2;have r:=hA2.rule;have f0:=hA2.thaw 0 (by simp);have f1:=hA2.thaw 1 (by simp);have f2:=hA2.thaw 2 (by simp);have f3:=hA2.thaw 3 (by simp);have hz:=hS.1.size;go_simp;refine ⟨rfl,⟨?_,?_⟩,?_⟩
  ·exact below_set (below_set (below_set (below_set hS.1 hz (by omega) _) (by simp; omega) (by omega) _) (by simp; omega) (by omega) _) (by simp; omega) (by omega) _
  ·exact (((hS.2.off (by omega) _).off (by omega) _).off (by omega) _).off (by omega) _
  ·exact (((hA2.set (i:=0) (by simp) _).set (i:=1) (by simp) _).set (i:=2) (by simp) _).set (i:=3) (by simp) _
 try simp only [Act.put,zA,zZ,zS]
 repeat ((first
  | (refine Ord.cv ?_ hT9.o ?_ ?_; rotate_left; (intro w5 hS; skip; go_simp<;>rfl))
  | (refine Ord.co hT9.o ?_));try simp only [Act.put,zA,zZ,zS])
 refine Ord.InText.nil fun w5 hS=>?_;clear hT9;obtain ⟨hC9,hA9⟩:=Ord.chain_end hS;clear hS;have q:=hA9.rule;simp only [show ¬ [13].length=0 by decide,if_false] at q
 go_wp2
 exact bodyPost_ret (v:=.agg #[.int .i64 5,.int .i64 n,.int .i64 p9,.int .i64 0]) (by simp [results,results185,go_sem,q]) rfl ⟨rfl,hC9.1⟩
end
section
variable {w:World} {o c q h l8:Nat} {kd key val lv:Int} {nx:Value} {er st n t y:Int} {an dn:Bool} {ck cs cb ch cl ce cr hs:Int} {F:Fd} {L:Nat->Lm}
theorem ahead_s (hg:Glo w) (hh:h<=1000) (hl:l8 < h) (hW:InU (L l8).W) (hF:FdAt F c key L h w) (hc:Blk 0 w c (crv ck cs cb ch cl ce cr hs 0 q)) (hb:Blk 0 w o (opS c kd key val lv nx st (.pointer (some ⟨F.fb,0,none⟩)) n (l8:Int) t y an er dn)) :
  Calls prog 181 #[.pointer (some ⟨o,0,none⟩)] w fun e w'=>e=.returned (.agg #[.int .u64 (wordI false (slotI (L l8).W) ce),.int .i64 0,.bool false])/\Below w.heap.size w w':=by
 have hal:=hb.1;have hcl:=hc.1;have HF0:=zH hF;have HIN:=zH fun (v:World) (hv:FdAt F c key L h v)=>fdInto hv hh hl;have HLE:=zH fun (v:World) (hv:Below w.heap.size w v)=>lead_c (L l8).W 0 false v hW (hg.keep' hv);have hto:=fun (v:World) (hv:Below w.heap.size w v) (hb:Blk 0 v c (crv ck cs cb ch cl ce cr hs 0 q))=>to_c (slotI (L l8).W) 0 (hg.keep' hv) hb;obtain ⟨W,hW9⟩:∃ W,(L l8).W=W:=⟨_,rfl⟩;rw [hW9];simp only [hW9] at HIN HLE hto;obtain ⟨s,hs9⟩:∃ s,slotI W=s:=⟨_,rfl⟩;rw [hs9];simp only [hs9] at HLE hto;obtain ⟨x,hx9⟩:∃ x,wordI false s ce=x:=⟨_,rfl⟩;rw [hx9];simp only [hx9] at hto;have HTO:=zH hto;have hE:=(Below.refl w.heap.size w).alloc (Nat.le_refl _) (.cells [.int .u64 0,.int .i64 0,.bool false].toArray 127);have hX:=hb.under hE;have hXc:=hc.under hE;have hXF:=hF.under hE;have hZ:=Blk.new 0 w [.int .u64 0,.int .i64 0,.bool false] 127;clear hb hc hF hto hW9 hs9 hx9 hg hW hl hh;go_enter func181,ntmps181;go_wp2_with fail;refine Ord.wc [15] (fun w'=>Below w.heap.size w w'/\Blk 0 w' o (opS c kd key val lv nx st (.pointer (some ⟨F.fb,0,none⟩)) n (l8:Int) t y an er dn)/\Blk 0 w' c (crv ck cs cb ch cl ce cr hs 0 q)/\FdAt F c key L h w') (fun j w'=>Blk 0 w' w.heap.size (if j=0 then [.int .u64 0,.int .i64 0,.bool false] else [.int .u64 x,.int .i64 0,.bool false])) ⟨hE.drew,hX.drew,hXc.drew,hXF.drew⟩ hZ.drew fun hT9=>?_
 repeat ((first
  | (refine Ord.cv ?_ hT9.o ?_ ?_; rotate_left; (intro w5 hS; have r:=Blk.rule hS.2.1; unfold opS at r; go_simp<;>rfl))
  | (refine Ord.co hT9.o ?_)
  | (refine Ord.cc ?_ ?_ ?_ hT9.o ?_ ?_ ?_; rotate_left 3; (intro w5 hS; have r:=Blk.rule hS.2.1; unfold opS at r; go_simp; constructor<;>rfl); (intro w5 hS; (first | (with_reducible refine kp (HIN.out _ hS.2.2.2) ?_ ?_; rfl; exact fun w6 hb6=>⟨⟨hS.1.trans (hb6.mono hS.1.size),hS.2.1.under hb6,hS.2.2.1.under hb6,hS.2.2.2.under hb6⟩,fun _ h=>h.under hb6⟩) | (with_reducible refine kp (HLE.out _ hS.1) ?_ ?_; rfl; exact fun w6 hb6=>⟨⟨hS.1.trans (hb6.mono hS.1.size),hS.2.1.under hb6,hS.2.2.1.under hb6,hS.2.2.2.under hb6⟩,fun _ h=>h.under hb6⟩) | (with_reducible refine kp (HTO.out _ hS.1 hS.2.2.1) ?_ ?_; rfl; exact fun w6 hb6=>⟨⟨hS.1.trans (hb6.mono hS.1.size),hS.2.1.under hb6,hS.2.2.1.under hb6,hS.2.2.2.under hb6⟩,fun _ h=>h.under hb6⟩)))));try simp only [Act.put,zA,zZ,zS])
 refine Ord.ch_turn (v:=undef) 0 hT9.o rfl (by decide) (Or.inl rfl) (by rfl) ?_ ?_
 ·rintro w5 hS hA2;simp only [if_true] at hA2;have r:=hA2.rule;have f0:=hA2.thaw 0 (by simp);have f1:=hA2.thaw 1 (by simp);have f2:=hA2.thaw 2 (by simp);have hz:=hS.1.size;go_simp;refine ⟨rfl,⟨?_,?_,?_,?_⟩,?_⟩
  ·exact below_set (below_set (below_set hS.1 hz (by omega) _) (by simp; omega) (by omega) _) (by simp; omega) (by omega) _
  ·exact ((hS.2.1.off (by omega) _).off (by omega) _).off (by omega) _
  ·exact ((hS.2.2.1.off (by omega) _).off (by omega) _).off (by omega) _
  ·exact HF0.out.off (HF0.out.off (HF0.out.off hS.2.2.2 _ _) _ _) _ _
  ·exact ((hA2.set (i:=0) (by simp) _).set (i:=1) (by simp) _).set (i:=2) (by simp) _
 try simp only [Act.put,zA,zZ,zS]
 repeat ((first
  | (refine Ord.cv ?_ hT9.o ?_ ?_; rotate_left; (intro w5 hS; skip; go_simp<;>rfl))
  | (refine Ord.co hT9.o ?_));try simp only [Act.put,zA,zZ,zS])
 refine Ord.InText.nil fun w5 hS=>?_;clear hT9;obtain ⟨hC9,hA9⟩:=Ord.chain_end hS;clear hS;have q:=hA9.rule;simp only [show ¬ [15].length=0 by decide,if_false] at q
 go_wp2
 exact bodyPost_ret (v:=.agg #[.int .u64 x,.int .i64 0,.bool false]) (by simp [results,results181,go_sem,q]) rfl ⟨rfl,hC9.1⟩
end
end
end Go.Proofs.YtffncfmciockmaaGreatDoor
