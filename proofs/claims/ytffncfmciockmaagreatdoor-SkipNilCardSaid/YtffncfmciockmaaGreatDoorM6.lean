/- What is proved on the way to the statement, part 6: contracts of the functions, among other things in memory. -/
import Derived.Test.YtffncfmciockmaaGreatDoorM5
import Derived.LoopIn
import Derived.Shelf.SlSortCmp.Insertion
import Derived.Sort.Statements

open _root_.Go.Proofs.Tryz
set_option maxRecDepth 100000
set_option maxHeartbeats 25600000
namespace Go.Proofs.YtffncfmciockmaaGreatDoor
section
open Go.RowKit Go.Maps
section
variable {w0 w:World} {L:List Item} {c q kq:Nat} {F:Nat->Prop} {ql:List Trip} {k s b h l e r hs hi:Int}
theorem takeNo_c (hh:hs=0) (hb:Blk 0 w c (crv k s b h l e r hs hi q)) :
  Calls prog 176 #[.pointer (some ⟨c,0,none⟩)] w fun o w'=>o=.returned (.tuple #[.agg #[.int .i64 hs,.int .i64 hi],.bool false])/\Below w.heap.size w w':=by
 have hF:=(Fr.start w).push w.heap.size rfl [.int .i64 0,.int .i64 0] 110;have hb1:=hb.under hF.below;have hn:(hs != 0)=false:=by simpa using hh
 clear hb hh;go_enter func176,ntmps176;go_wp2_with fail;refine (held_c hb1).mono ?_;rintro o w1 ⟨rfl,hb⟩;rw [hn];replace hF:=hF.over hb;clear hb hb1;replace hF:=hF.push w1.heap.size rfl [.int .i64 hs,.int .i64 hi] 110;have hlt:=hF.lt 1 rfl;have hX:=hF.blk 1 rfl (by omega);have hZ:=hF.blk 0 rfl (by have:=hF.below.size; have:=hF.lt 1 rfl; simp at this; omega);have hE:=hF.below;clear hF
 go_upto_region 2 with fail
 generalize w1.alloc _=w2 at *;generalize w1.heap.size=Y at *;have r0:=hX.rule;have r1:=hZ.rule;have f0:=hX.thaw 0 (by simp);have f1:=hX.thaw 1 (by simp);go_wp2_with fail;have q:=((hX.set (i:=0) (by simp) (.int .i64 hs)).set (i:=1) (by simp) (.int .i64 hi)).rule;exact bodyPost_ret (v:=.tuple #[.agg #[.int .i64 hs,.int .i64 hi],.bool false]) (by simp [results,results176,go_sem,q]) rfl ⟨rfl,below_set (below_set hE (by omega) (Nat.le_refl _) _) (by simp; omega) (Nat.le_refl _) _⟩
theorem takeYes_c (hh:hs≠0) (m:Nat) (hE:Env w0 L w) (hm:L[m]?=some (coreI c k s b h l e r hs hi q)) :
  Calls prog 176 #[.pointer (some ⟨c,0,none⟩)] w fun o w'=>o=.returned (.tuple #[.agg #[.int .i64 hs,.int .i64 hi],.bool true])/\Env w0 (L.set m (coreI c k s b h l e r 0 0 q)) w':=by
 have hn:(hs != 0)=true:=by simpa using hh
 have hml:m < L.length:=(List.getElem?_eq_some_iff.1 hm).1;have hE1:=hE.box w.heap.size rfl [.int .i64 0,.int .i64 0] 110;have hm1:(boxI w.heap.size [.int .i64 0,.int .i64 0]::L)[m+1]?=some (coreI c k s b h l e r hs hi q):=hm;clear hE hh;go_enter func176,ntmps176;go_wp2_with fail;refine (held_c (hE1.get (m+1) hm1)).mono ?_;rintro o w1 ⟨rfl,hb⟩;rw [hn];replace hE1:=(hE1.over hb).box w1.heap.size rfl [.int .i64 hs,.int .i64 hi] 110;clear hb;generalize w.heap.size=X at *
 go_upto_region 2 with fail
 generalize w1.alloc _=w2 at *;generalize w1.heap.size=Y at *;have hm2:(boxI Y [.int .i64 hs,.int .i64 hi]::boxI X [.int .i64 0,.int .i64 0]::L)[m+2]?=some (coreI c k s b h l e r hs hi q):=hm;have rc:=hE1.rule (m+2) hm2;unfold crv at rc;have ff:=hE1.thaw (m+2) hm2;have f7:=ff 7 (by simp [crv]);have f8:=ff 8 (by simp [crv]);clear ff
 go_upto_region 4 with fail
 have hE2:=hE1.put (m+2) hm2 (j:=7) (by simp [crv]) (.int .i64 0);have hE3:=hE2.put (m+2) (by rw [List.getElem?_set_self (by simpa using hml)]) (j:=8) (by simp [crv]) (.int .i64 0);rw [List.set_set] at hE3;generalize World.setCell (World.setCell w2 ⟨c,7,none⟩ _) ⟨c,8,none⟩ _=w3 at *;replace hE3:Env w0 (boxI Y [.int .i64 hs,.int .i64 hi]::boxI X [.int .i64 0,.int .i64 0]::L.set m (coreI c k s b h l e r 0 0 q)) w3:=hE3;have r0:=hE3.rule 0 rfl;have r1:=hE3.rule 1 rfl;have ff:=hE3.thaw 1 rfl;have f0:=ff 0 (by simp);have f1:=ff 1 (by simp);clear ff;clear rc f7 f8;go_wp2_with fail;have hE4:=(hE3.put 1 rfl (j:=0) (by simp) (.int .i64 hs)).put 1 rfl (j:=1) (by simp) (.int .i64 hi);have q:=hE4.rule 1 rfl;exact bodyPost_ret (v:=.tuple #[.agg #[.int .i64 hs,.int .i64 hi],.bool true]) (by simp [results,results176,go_sem,q]) rfl ⟨rfl,hE4.sub (.cons _ (.cons _ (List.Sublist.refl _)))⟩
theorem dropNo_c (hh:hs=0) (hb:Blk 0 w c (crv k s b h l e r hs hi q)) :
  Calls prog 152 #[.pointer (some ⟨c,0,none⟩)] w fun o w'=>o=.returned (.tuple #[])/\Below w.heap.size w w':=by
 go_enter func152,ntmps152;go_wp2_with fail;refine (takeNo_c hh hb).mono ?_;rintro o w1 ⟨rfl,hb1⟩;clear hh hb;go_wp2_with fail
 go_end0
 exact ⟨rfl,hb1.alloc hb1.size _⟩
theorem dropYes_c (hh:hs≠0) (m n:Nat) (hnm:n≠m) (hE:Env w0 L w) (hm:L[m]?=some (coreI c k s b h l e r hs hi q)) (hn:L[n]?=some (queueI q F ql kq)) (hl:ql.length+1<=1048576) :
  Calls prog 152 #[.pointer (some ⟨c,0,none⟩)] w fun o w'=>o=.returned (.tuple #[])/\∃ k' F',Rm kq (ql.length+1) k'/\Env w0 ((L.set m (coreI c k s b h l e r 0 0 q)).set n (queueI q F' (ql++[(hs,0,hi)]) k')) w':=by
 have hml:m < L.length:=(List.getElem?_eq_some_iff.1 hm).1;have hn1:=wset (b:=coreI c k s b h l e r 0 0 q) hnm.symm hn;have hm1:(L.set m (coreI c k s b h l e r 0 0 q))[m]?=some (coreI c k s b h l e r 0 0 q):=by rw [List.getElem?_set_self hml]
 have HT:=zH (takeYes_c hh m hE hm);clear hh hE hm hn;generalize L.set m (coreI c k s b h l e r 0 0 q)=M at *;go_enter func152,ntmps152;go_wp2_with fail;refine HT.out.mono ?_;rintro o w1 ⟨rfl,hE1⟩;clear HT;replace hE1:=hE1.box w1.heap.size rfl [.int .i64 hs,.int .i64 hi] 110;go_wp2_with fail;generalize w1.alloc _=w2 at *;generalize w1.heap.size=Y at *;have hn2:(boxI Y [.int .i64 hs,.int .i64 hi]::M)[n+1]?=some (queueI q F ql kq):=hn1;have hm2:(boxI Y [.int .i64 hs,.int .i64 hi]::M)[m+1]?=some (coreI c k s b h l e r 0 0 q):=hm1;refine Ord3.wp_chain [?_,?_,?_,?_,?_,?_,?_,?_,?_,?_,?_] [9,10] (fun w'=>Blk 0 w' c [.int .i64 k,.int .i64 s,.int .i64 b,.int .i64 h,.int .i64 l,.int .i64 e,.int .i64 r,.int .i64 0,.int .i64 0,.pointer (some ⟨q,0,none⟩)]/\Blk 0 w' Y [.int .i64 hs,.int .i64 hi]) (Ord3.Stage fun κs=>[Env w0 (boxI Y [.int .i64 hs,.int .i64 hi]::M),fun w'=>∃ z,κs.getD 0 undef=.slice (some ⟨z,0,none⟩) 1 1/\Env w0 (boxI z [.int .i64 hs,.int .i64 0,.int .i64 hi]::boxI Y [.int .i64 hs,.int .i64 hi]::M) w',fun w'=>∃ k',Rm kq (ql.length+1) k'/\∃ F' z,Env w0 (boxI z [.int .i64 hs,.int .i64 0,.int .i64 hi]::boxI Y [.int .i64 hs,.int .i64 hi]::M.set n (queueI q F' (ql++[(hs,0,hi)]) k')) w']) (by kernel_rfl) (by kernel_rfl) (by kernel_rfl) ⟨hE1.drew.get (m+1) hm2,hE1.drew.get 0 rfl⟩ ⟨_,rfl,hE1.drew⟩ (fun hT=>?_);rotate_left 11;have hT9:=zH hT;clear hT
 repeat ((first
  | (focus (refine Ord3.in_value (v:=?_) hT9.o (by decide) ?_ (by rfl) ?_ ?_; rotate_left 2; (intro w5 hS; have r1:=Blk.rule hS.1; have r2:=Blk.rule hS.2; go_simp<;>rfl); rotate_right; (focus rfl)))
  | (focus (refine Ord3.in_off hT9.o (by decide) ?_ (by rfl) ?_; (focus rfl))));try simp only [Act.put,zA,zZ,zS])
 refine Ord3.in_turn (fun u=>∃ z,u=.slice (some ⟨z,0,none⟩) 1 1) _ ⟨0,rfl⟩ hT9.o rfl (by decide) (by rfl) ?_ (Or.inl rfl) (by rfl) ?_ ?_
 ·rfl
 ·rintro w7 hC7 ⟨P7,hP7,hA7⟩;cases hP7;go_simp;simp only [Ord3.Lands];have hE8:=hA7.box w7.heap.size rfl [.int .i64 hs,.int .i64 0,.int .i64 hi] 114;exact ⟨⟨_,rfl⟩,⟨hE8.get (m+2) hm1,hE8.get 1 rfl⟩,_,rfl,w7.heap.size,rfl,hE8⟩
 rintro _ ⟨z9,rfl⟩
 try simp only [Act.put,zA,zZ,zS]
 refine Ord3.in_turn (fun u=>u=.int .i64 0) _ rfl hT9.o rfl (by decide) (by rfl) ?_ (Or.inr ⟨_,9,[],rfl,by kernel_rfl,by kernel_rfl,rfl⟩) (by rfl) ?_ ?_
 ·rfl
 ·rintro w7 hC7 ⟨P7,hP7,hA7⟩;cases hP7;obtain ⟨z8,he,hA7⟩:=hA7;cases he;go_simp;simp only [Ord3.Lands];have hA:Row3 w7 (some ⟨z9,0,none⟩) [(hs,0,hi)]:=Blk.row3 (l:=[(hs,0,hi)]) (hA7.get 0 rfl);refine (push_any (l:=ql) (xs:=[(hs,0,hi)]) (A:=some ⟨z9,0,none⟩) (cap:=1) (by simp; omega) hA (fun _ b hb hFb=>?_) (hA7.queue (n+2) hn1)).mono ?_
  ·obtain ⟨off,he⟩:=hb;cases he;exact (hA7.off (i:=0) (j:=n+2) rfl hn1 (by omega)) z9 rfl hFb
  rintro o w8 ⟨rfl,k8,F8,hrm,hQ8,hs8⟩;have hE8:=hA7.turnQ (n+2) hn1 hQ8 hs8;simp only [zS,zZ] at hE8;have hm8:=wset (b:=queueI q F8 (ql++[(hs,0,hi)]) k8) hnm hm1;exact ⟨_,rfl,rfl,⟨hE8.get (m+2) hm8,hE8.get 1 rfl⟩,_,rfl,k8,by simpa using hrm,F8,z9,hE8⟩
 rintro _ rfl
 try simp only [Act.put,zA,zZ,zS]
 refine Ord3.in_nil rfl ?_;rintro w9 hC9 ⟨P9,hP9,hA9⟩;cases hP9;obtain ⟨k8,hrm,F8,z8,hA9⟩:=hA9;clear hT9 hC9;go_wp2_with fail
 go_end0
 exact ⟨rfl,k8,F8,hrm,hA9.sub (.cons _ (.cons _ (List.Sublist.refl _)))⟩
end
structure Tm where
 (thr c q u:Nat)
 (F:Nat->Prop)
 (kq:Nat)
 (A:Option Addr)
 (rc:Nat)
 (N cr ro:Int)
 (dA:Option Addr)
 (dn dc:Nat)
 (pa pb pr pq pg ph:Value)
structure Wm where
 (p cc m:Nat)
 (G FU:Nat->Prop)
 (qc:Cnt)
 (n:Nat)
 (ml:List OneR)
def rtv (c:Nat) (nx:Value × Value) (s e:Int):List Value:=[.pointer (some ⟨c,0,none⟩),nx.1,nx.2,.int .i64 s,.int .i64 0,.int .u64 e,.int .i64 0,.bool false]
def fnR (pc:Nat):Nat:=if pc=0 then 310 else 314
def nxR (a pc:Nat):Value × Value:=(mvL (fnR pc) a,.int .i64 0)
theorem enters_fnR (pc:Nat) (ar:Array Value) (v:World):(callFunc (fnR pc) ar).run prog v=.ok (.enter (fnR pc) ar) v:=by
 unfold fnR
 split
 all_goals kernel_rfl
section
variable {w0 w:World} {R:List Item} {a:Nat} {S:ST} {nx:Value × Value} {s e:Int}
theorem step_r (pc:Nat) (u:Value) (Q:Ending->World->Prop) (hE:Env w0 (boxI a (rtv S.c nx s e)::LT S R) w) (hnx:nx=nxR a pc)
  (hc:Calls prog (fnR pc) #[.pointer (some ⟨a,0,none⟩),u] w fun e w'=>∃ s,e=.returned (.int .i64 s)/\Q (.returned (.int .i64 s)) w') :
  Calls prog 304 #[.pointer (some ⟨a,0,none⟩),u] w Q:=by
 have hn:w.cell? ⟨a,1,none⟩=some (.func (.func (fnR pc)) #[.pointer (some ⟨a,0,none⟩)] #[]):=by
  have:=hE.rule 0 rfl 1;rw [this,show (rtv S.c nx s e)[1]?=some nx.1 from rfl,hnx];rfl
 have hs0:w.cell? ⟨a,1+1,none⟩=some (.int .i64 0):=by
  have:=hE.rule 0 rfl 2;rw [this,show (rtv S.c nx s e)[2]?=some nx.2 from rfl,hnx];rfl
 have hst:=stepMv_r (o:=1) (fnR pc) (enters_fnR pc) (.pointer (some ⟨a,0,none⟩)) u (fun o w'=>∃ s,o=.returned (.int .i64 s)/\Q (.returned (.int .i64 s)) w') hn hs0 (hc.mono fun e w' ⟨s,he,hq⟩=>⟨s,he,s,rfl,hq⟩);have HST:=zH hst;clear hst hc;go_enter func304,ntmps304;go_wp2_with fail;refine HST.out.mono ?_;rintro o w1 ⟨s,rfl,hQ⟩;go_wp2_with fail;exact hQ
theorem step_ry {st:Int} {Y:World->Prop} (pc:Nat) (u:Value) (hE:Env w0 (boxI a (rtv S.c nx s e)::LT S R) w) (hnx:nx=nxR a pc)
  (hc:Calls prog (fnR pc) #[.pointer (some ⟨a,0,none⟩),u] w fun o w'=>o=.returned (.int .i64 st)/\Y w') :
  Calls prog 304 #[.pointer (some ⟨a,0,none⟩),u] w fun o w'=>o=.returned (.int .i64 st)/\Y w' :=
 step_r pc u _ hE hnx (hc.mono fun _ _ h=>⟨st,h.1,rfl,h.2⟩)
theorem new_r (d:Int) {L:List Item} {c:Nat} (hE:Env w0 L w) :
  Calls prog 303 #[.pointer (some ⟨c,0,none⟩),.agg #[.int .i64 d,.int .i64 0]] w fun o w'=>∃ a,o=.returned (.pointer (some ⟨a,0,none⟩))/\Env w0 (boxI a (rtv c (nxR a 0) d 0)::L) w':=by
 have hmf:=makeF;have hE0:=hE.box w.heap.size rfl [.int .i64 d,.int .i64 0] 110;have hE1:=hE0.box (w.heap.size+1) (by simp) (rtv c (.nilFunc,.int .i64 0) d 0) 336;have r0:=hE0.rule 0 rfl;have hgo:=goOn_m (fn:=.func 310) (fs:=#[.pointer (some ⟨w.heap.size+1,0,none⟩)]) (cs:=#[]) 0 (by simp [rtv]) rfl hE1 rfl;have HGO:=zH hgo;clear hE hE0 hE1 hgo;go_enter func303,ntmps303;go_wp2_with fail;refine HGO.out.mono ?_;rintro o w1 ⟨rfl,hE2⟩;go_wp2_with fail;go_ret;exact ⟨_,rfl,hE2.sub (.cons_cons _ (.cons _ (List.Sublist.refl _)))⟩
theorem loadEpoch_r (x:Int) (hfx:S.f (1,0,0)=x) (hz:Hid (nx.2=.int .i64 0)) (hE:Env w0 (boxI a (rtv S.c nx s e)::LT S R) w) :
  Calls prog 310 #[.pointer (some ⟨a,0,none⟩),.iface 28 (.pointer (some ⟨S.p,0,none⟩))] w fun o w'=>o=.returned (.int .i64 0)/\Env w0 (boxI a (rtv S.c (nxR a 1) s x)::LT { S with qc:={ S.qc with l:=wrap64 (S.qc.l+1) } } R) w':=by
 have hmf:=makeF;have hah:=ahead_load;have HX:=zH hfx;clear hfx;go_enter func310,ntmps310;go_wp2_with fail;refine Ord.wc [7,10] (fun _=>True) (fun k w'=>Env w0 (pick3 (boxI a (rtv S.c nx s e)::LT S R) (boxI a (rtv S.c nx s e)::LT { S with qc:={ S.qc with l:=wrap64 (S.qc.l+1) } } R) (boxI a (rtv S.c nx s x)::LT { S with qc:={ S.qc with l:=wrap64 (S.qc.l+1) } } R) k) w') trivial hE.drew fun hT9=>?_
 repeat ((first
  | (refine Ord.cv ?_ hT9.o ?_ ?_; rotate_left; (intro w5 hS; skip; go_simp<;>rfl))
  | (refine Ord.co hT9.o ?_)
  | (refine Ord.cc ?_ ?_ ?_ hT9.o ?_ ?_ ?_; rotate_left 3; (intro w5 hS; skip; go_simp; constructor<;>rfl); (intro w5 hS; (first | (with_reducible refine kp (epoch_any _) ?_ ?_; rfl; exact fun w6 hb6=>⟨trivial,fun k h=>h.over hb6⟩) | (with_reducible refine kp (shared_any _ _ _ _) ?_ ?_; rfl; exact fun w6 hb6=>⟨trivial,fun k h=>h.over hb6⟩)))));try simp only [Act.put,zA,zZ,zS])
 refine Ord.ch_turn (v:=.agg #[.int .u64 x,.int .i64 0,.bool false]) 0 hT9.o rfl (by decide) (Or.inl rfl) (by rfl) ?_ ?_
 ·rintro w5 hC5 hA5;replace hA5:Env w0 (boxI a (rtv S.c nx s e)::LT S R) w5:=hA5;go_simp;rw [method_load];simp only [Result.andThen_ok];go_simp;simp only [Ord.LandsIn];have hl:=load_w 1 0 0 0 (by unfold Wf In64; simp) 3 4 (by decide) hA5 rfl rfl;rw [HX.out] at hl;refine hl.mono ?_;rintro e w6 ⟨rfl,hE6⟩;exact ⟨rfl,hE6⟩
 try simp only [Act.put,zA,zZ,zS]
 repeat ((first
  | (refine Ord.cv ?_ hT9.o ?_ ?_; rotate_left; (intro w5 hS; skip; go_simp<;>rfl))
  | (refine Ord.co hT9.o ?_));try simp only [Act.put,zA,zZ,zS])
 refine Ord.ch_turn (v:=undef) 1 hT9.o rfl (by decide) (Or.inr ⟨_,rfl,by kernel_rfl⟩) (by rfl) ?_ ?_
 ·rintro w5 hC5 hA5;replace hA5:Env w0 (boxI a (rtv S.c nx s e)::LT { S with qc:={ S.qc with l:=wrap64 (S.qc.l+1) } } R) w5:=hA5;have r:=hA5.rule 0 rfl;unfold rtv at r;have f6:=hA5.thaw 0 rfl 5 (by simp [rtv]);have f7:=hA5.thaw 0 rfl 6 (by simp [rtv]);have f8:=hA5.thaw 0 rfl 7 (by simp [rtv]);go_simp;have h9:=((hA5.put 0 rfl (j:=5) (by simp [rtv]) (.int .u64 x)).put 0 rfl (j:=6) (by simp [rtv]) (.int .i64 0)).put 0 rfl (j:=7) (by simp [rtv]) (.bool false);exact ⟨rfl,h9⟩
 try simp only [Act.put,zA,zZ,zS]
 repeat ((first
  | (refine Ord.cv ?_ hT9.o ?_ ?_; rotate_left; (intro w5 hS; skip; go_simp<;>rfl))
  | (refine Ord.co hT9.o ?_));try simp only [Act.put,zA,zZ,zS])
 refine Ord.InText.nil fun w5 hS=>?_;clear hT9;obtain ⟨hC9,hA9⟩:=Ord.chain_end hS;clear hS;replace hA9:Env w0 (boxI a (rtv S.c nx s x)::LT { S with qc:={ S.qc with l:=wrap64 (S.qc.l+1) } } R) w5:=hA9;have r:=hA9.rule 0 rfl;unfold rtv at r;go_wp2_with fail;refine (goOn_m 0 _ _ _ (by simp [rtv]) (by exact congrArg some hz.out) hA9 rfl).mono ?_;rintro o w7 ⟨rfl,hE7⟩;go_wp2_with fail;go_ret;exact ⟨rfl,hE7⟩
theorem store_r (he:InU e) (hs:In64 s) (hm:S.m < maxLen) (hl:S.ql.length+1<=1048576) (hE:Env w0 (boxI a (rtv S.c nx s e)::LT S R) w) :
  Calls prog 314 #[.pointer (some ⟨a,0,none⟩),.iface 28 (.pointer (some ⟨S.p,0,none⟩))] w fun o w'=>o=.returned (.int .i64 1)/\∃ k' F' G',Rm S.kq (S.ql.length+1) k'/\Env w0 (LT { S with G:=G',f:=upd S.f (5,s,1) e,qc:={ S.qc with s:=wrap64 (S.qc.s+1) },m:=S.m+1,ql:=S.ql++[(s,epI e,0)],kq:=k',F:=F' } R) w':=by
 have hmf:=makeF;have hah:=ahead_store;have HWF:Hid (Wf (5,s,1)):=zH (by unfold Wf; exact ⟨by unfold In64; simp,hs,by unfold In64; simp⟩);have HIE:=zH he;clear he hs;go_enter func314,ntmps314;go_wp2_with fail;refine Ord.wc [13] (fun v=>Blk 0 v a (rtv S.c nx s e)) (fun k w'=>∃ G5,Env w0 (boxI a (rtv S.c nx s e)::LT (if k=0 then S else { S with G:=G5,f:=upd S.f (5,s,1) e,qc:={ S.qc with s:=wrap64 (S.qc.s+1) },m:=S.m+1 }) R) w') (hE.drew.get 0 rfl) ⟨S.G,hE.drew⟩ fun hT9=>?_
 repeat ((first
  | (refine Ord.cv ?_ hT9.o ?_ ?_; rotate_left; (intro w5 hS; have r:=hS.rule; unfold rtv at r; go_simp<;>rfl))
  | (refine Ord.co hT9.o ?_)
  | (refine Ord.cc ?_ ?_ ?_ hT9.o ?_ ?_ ?_; rotate_left 3; (intro w5 hS; have r:=hS.rule; unfold rtv at r; go_simp; constructor<;>rfl); (intro w5 hS; (first | (with_reducible refine kp (part_any _ _ _ _) ?_ ?_; rfl; exact fun w6 hb6=>⟨hS.under hb6,fun k h=>h.elim fun G5 h=>⟨G5,h.over hb6⟩⟩)))));try simp only [Act.put,zA,zZ,zS])
 refine Ord.ch_turn (v:=.tuple #[]) 0 hT9.o rfl (by decide) (Or.inl rfl) (by rfl) ?_ ?_
 ·rintro w5 hC5 ⟨G5,hA5⟩;simp only [if_true] at hA5;go_simp;rw [method_store];simp only [Result.andThen_ok];go_simp;simp only [Ord.LandsIn];refine (store_w 5 s 1 0 e 0 false HWF.out HIE.out hm 3 4 (by decide) hA5 rfl rfl).mono ?_;rintro e w6 ⟨rfl,G6,hE6⟩;exact ⟨rfl,hE6.get 0 rfl,G6,hE6⟩
 try simp only [Act.put,zA,zZ,zS]
 repeat ((first
  | (refine Ord.cv ?_ hT9.o ?_ ?_; rotate_left; (intro w5 hS; skip; go_simp<;>rfl))
  | (refine Ord.co hT9.o ?_));try simp only [Act.put,zA,zZ,zS])
 refine Ord.InText.nil fun w5 hS=>?_;clear hT9;obtain ⟨hC9,hA9⟩:=Ord.chain_end hS;clear hS;obtain ⟨G9,hA9⟩:=hA9;simp only [List.length_cons,List.length_nil,Nat.zero_add,Nat.one_ne_zero,if_false] at hA9;clear hC9 hE;go_wp2_with fail;refine Ord3.wp_chain [?_,?_,?_,?_,?_,?_,?_,?_,?_,?_,?_,?_,?_,?_,?_,?_,?_,?_,?_,?_,?_,?_,?_,?_] [22,23] (fun w'=>Blk 0 w' a (rtv S.c nx s e)/\Blk 0 w' S.c (crv S.ck S.cs S.cb S.ch S.cl S.ce S.cr S.hs 0 S.q)) (Ord3.Stage fun κs=>[Env w0 (boxI a (rtv S.c nx s e)::LT { S with G:=G9,f:=upd S.f (5,s,1) e,qc:={ S.qc with s:=wrap64 (S.qc.s+1) },m:=S.m+1 } R),fun w'=>∃ z,κs.getD 0 undef=.slice (some ⟨z,0,none⟩) 1 1/\Env w0 (boxI z [.int .i64 s,.int .i64 (epI e),.int .i64 0]::boxI a (rtv S.c nx s e)::LT { S with G:=G9,f:=upd S.f (5,s,1) e,qc:={ S.qc with s:=wrap64 (S.qc.s+1) },m:=S.m+1 } R) w',fun w'=>∃ k',Rm S.kq (S.ql.length+1) k'/\∃ F' z,Env w0 (boxI z [.int .i64 s,.int .i64 (epI e),.int .i64 0]::boxI a (rtv S.c nx s e)::LT { S with G:=G9,f:=upd S.f (5,s,1) e,qc:={ S.qc with s:=wrap64 (S.qc.s+1) },m:=S.m+1,ql:=S.ql++[(s,epI e,0)],kq:=k',F:=F' } R) w']) (by kernel_rfl) (by kernel_rfl) (by kernel_rfl) ⟨hA9.drew.get 0 rfl,hA9.drew.get 1 rfl⟩ ⟨_,rfl,hA9.drew⟩ (fun hT=>?_);rotate_left 24;have hT9:=zH hT;clear hT
 repeat ((first
  | (focus (refine Ord3.in_value (v:=?_) hT9.o (by decide) ?_ (by rfl) ?_ ?_; rotate_left 2; (intro w5 hS; have r1:=Blk.rule hS.1; unfold rtv at r1; go_simp<;>rfl); rotate_right; (focus rfl)))
  | (focus (refine Ord3.in_off hT9.o (by decide) ?_ (by rfl) ?_; (focus rfl)))
  | (focus (refine Ord3.in_call (v:=?_) (f:=?_) (args:=?_) hT9.o (by decide) ?_ (by rfl) ?_ ?_ ?_; rotate_left 4; (intro w5 hS; have r1:=Blk.rule hS.1; unfold rtv at r1; go_simp; constructor<;>rfl); (intro w5 hS; (first | (with_reducible refine (queue_c hS.2).mono ?_; rintro o w6 ⟨rfl,rfl⟩; constructor; rfl; exact ⟨hS,fun _ h=>h⟩) | (with_reducible refine kp (epochOf_any _ _ _ HIE.out _) ?_ ?_; rfl; exact fun w6 hb6=>⟨⟨hS.1.under hb6,hS.2.under hb6⟩,fun κs h=>Ord3.Stage.three h (fun h=>h.over hb6) (fun h=>h.elim fun z h=>⟨z,h.1,h.2.over hb6⟩) (fun h=>h.elim fun k h=>⟨k,h.1,h.2.elim fun F h=>⟨F,h.elim fun z h=>⟨z,h.over hb6⟩⟩⟩)⟩))); rotate_right; (focus rfl))));try simp only [Act.put,zA,zZ,zS])
 refine Ord3.in_turn (fun u=>∃ z,u=.slice (some ⟨z,0,none⟩) 1 1) _ ⟨0,rfl⟩ hT9.o rfl (by decide) (by rfl) ?_ (Or.inl rfl) (by rfl) ?_ ?_
 ·rfl
 ·rintro w7 hC7 ⟨P7,hP7,hA7⟩;cases hP7;go_simp;simp only [Ord3.Lands];have hE8:=hA7.box w7.heap.size rfl [.int .i64 s,.int .i64 (epI e),.int .i64 0] 114;exact ⟨⟨_,rfl⟩,⟨hE8.get 1 rfl,hE8.get 2 rfl⟩,_,rfl,w7.heap.size,rfl,hE8⟩
 rintro _ ⟨z9,rfl⟩
 try simp only [Act.put,zA,zZ,zS]
 refine Ord3.in_turn (fun u=>u=.int .i64 0) _ rfl hT9.o rfl (by decide) (by rfl) ?_ (Or.inr ⟨_,22,[],rfl,by kernel_rfl,by kernel_rfl,rfl⟩) (by rfl) ?_ ?_
 ·rfl
 ·rintro w7 hC7 ⟨P7,hP7,hA7⟩;cases hP7;obtain ⟨z8,he,hA7⟩:=hA7;cases he;go_simp;simp only [Ord3.Lands];have hA:Row3 w7 (some ⟨z9,0,none⟩) [(s,epI e,0)]:=Blk.row3 (l:=[(s,epI e,0)]) (hA7.get 0 rfl);refine (push_any (l:=S.ql) (xs:=[(s,epI e,0)]) (A:=some ⟨z9,0,none⟩) (cap:=1) (by simp; omega) hA (fun _ b hb hFb=>?_) (hA7.queue 3 rfl)).mono ?_
  ·obtain ⟨off,he⟩:=hb;cases he;exact (hA7.off (i:=0) (j:=3) rfl rfl (by omega)) z9 rfl hFb
  rintro o w8 ⟨rfl,k8,F8,hrm,hQ8,hs8⟩;have hE8:=hA7.turnQ 3 rfl hQ8 hs8;exact ⟨_,rfl,rfl,⟨hE8.get 1 rfl,hE8.get 2 rfl⟩,_,rfl,k8,by simpa using hrm,F8,z9,hE8⟩
 rintro _ rfl
 try simp only [Act.put,zA,zZ,zS]
 refine Ord3.in_nil rfl ?_;rintro w9 hC9 ⟨P9,hP9,hA8⟩;cases hP9;obtain ⟨k8,hrm,F8,z8,hA8⟩:=hA8;clear hT9 hC9 hA9;have hE9:=hA8.sub (.cons _ (List.Sublist.refl _));have r:=hE9.rule 0 rfl;unfold rtv at r;go_wp2_with fail;refine (end_m 0 1 (by simp [rtv]) hE9 rfl).mono ?_;rintro o w10 ⟨rfl,nx',hE10⟩;go_wp2_with fail;go_ret;exact ⟨rfl,k8,F8,G9,hrm,hE10.sub (.cons _ (List.Sublist.refl _))⟩
end
instance:Inhabited Dd:=⟨⟨0,0,0,0,0⟩⟩
end
section
open Go.RowKit
theorem born_w (v:Value) (m:Int) (w:World):Calls prog 335 #[v,.int .i64 m] w fun e w'=>e=.returned (.int .i64 0)/\w'=w:=by
 go_enter func335,ntmps335
 go_wp2
 go_ret;exact ⟨rfl,rfl⟩
end
section
open Go.RowKit Go.Maps
section
variable {w0 w:World} {R:List Item} {a:Nat} {S:ST} {M:MA}
theorem store_a (g o N C:Nat) (part word:Int) (hC:N+1<=C) (hpt:In64 part) (hwd:InU word) (hms:In64 M.s) (hm:S.m < maxLen) (hleft:M.left=.slice (some ⟨g,o,none⟩) (N+1) C) {xs:List Value} (h0:xs[o]?=some (.int .i64 part)) (h1:xs[o+1]?=some (.int .u64 word)) (hE:Env w0 (boxI a (av S.c M)::LT S (lieI g xs::R)) w) :
  Calls prog 272 #[.pointer (some ⟨a,0,none⟩),.iface 28 (.pointer (some ⟨S.p,0,none⟩))] w fun u w'=>u=.returned (.int .i64 (if N=0 then 1 else 0))/\∃ nx left G',(N≠0->nx=M.nx/\left=.slice (some ⟨g,o+2,none⟩) N (C - 1))/\Env w0 (boxI a (av S.c { M with nx:=nx,left:=left })::LT { S with G:=G',f:=upd S.f (5,M.s,part) word,qc:={ S.qc with s:=wrap64 (S.qc.s+1) },m:=S.m+1 } (lieI g xs::R)) w':=by
 have hmf:=makeF;have hah:=ahead_store;have HWF:Hid (Wf (5,M.s,part)):=zH (by unfold Wf; exact ⟨by unfold In64; omega,hms,hpt⟩);have HWD:=zH hwd;have r:=hE.rule 0 rfl;unfold av at r;simp only [hleft] at r;have c0:=hE.lies 5 rfl o _ h0;have c1:=hE.lies 5 rfl (o+1) _ h1;have hlt:(0:Int) < ((N+1:Nat):Int):=by omega
 clear hpt hwd hms;go_enter func272,ntmps272;go_wp2_with fail;have hE1:=(hE.box w.heap.size rfl [.int .i64 part,.int .u64 word] 330).perm (L':=boxI a (av S.c M)::LT S (boxI w.heap.size [.int .i64 part,.int .u64 word]::lieI g xs::R)) (List.perm_middle (l₁:=[boxI a (av S.c M),_,_,_,_])).symm;clear r c0 c1 hE;generalize w.alloc _=w1 at *;generalize w.heap.size=Y at *;refine Ord.wc [14] (fun v=>Blk 0 v a (av S.c M)/\Blk 0 v Y [.int .i64 part,.int .u64 word]) (fun k w'=>∃ G5,Env w0 (boxI a (av S.c M)::LT (if k=0 then S else { S with G:=G5,f:=upd S.f (5,M.s,part) word,qc:={ S.qc with s:=wrap64 (S.qc.s+1) },m:=S.m+1 }) (boxI Y [.int .i64 part,.int .u64 word]::lieI g xs::R)) w') ⟨hE1.drew.get 0 rfl,hE1.drew.get 5 rfl⟩ ⟨S.G,hE1.drew⟩ fun hT9=>?_
 repeat ((first
  | (refine Ord.cv ?_ hT9.o ?_ ?_; rotate_left; (intro w5 hS; have r:=hS.1.rule; have r1:=hS.2.rule; unfold av at r; go_simp<;>rfl))
  | (refine Ord.co hT9.o ?_)
  | (refine Ord.cc ?_ ?_ ?_ hT9.o ?_ ?_ ?_; rotate_left 3; (intro w5 hS; have r:=hS.1.rule; have r1:=hS.2.rule; unfold av at r; go_simp; constructor<;>rfl); (intro w5 hS; (first | (with_reducible refine kp (part_any _ _ _ _) ?_ ?_; rfl; exact fun w6 hb6=>⟨⟨hS.1.under hb6,hS.2.under hb6⟩,fun k h=>h.elim fun G5 h=>⟨G5,h.over hb6⟩⟩)))));try simp only [Act.put,zA,zZ,zS])
 refine Ord.ch_turn (v:=.tuple #[]) 0 hT9.o rfl (by decide) (Or.inl rfl) (by rfl) ?_ ?_
 ·rintro w5 hC5 ⟨G5,hA5⟩;simp only [if_true] at hA5;go_simp;rw [method_store];simp only [Result.andThen_ok];go_simp;simp only [Ord.LandsIn];refine (store_w 5 M.s part 0 word 0 false HWF.out HWD.out hm 3 4 (by decide) hA5 rfl rfl).mono ?_;rintro e w6 ⟨rfl,G6,hE6⟩;exact ⟨rfl,⟨hE6.get 0 rfl,hE6.get 5 rfl⟩,G6,hE6⟩
 try simp only [Act.put,zA,zZ,zS]
 repeat ((first
  | (refine Ord.cv ?_ hT9.o ?_ ?_; rotate_left; (intro w5 hS; skip; go_simp<;>rfl))
  | (refine Ord.co hT9.o ?_));try simp only [Act.put,zA,zZ,zS])
 refine Ord.InText.nil fun w5 hS=>?_;clear hT9;obtain ⟨hC9,hA9⟩:=Ord.chain_end hS;clear hS;obtain ⟨G9,hA9⟩:=hA9;simp only [List.length_cons,List.length_nil,Nat.zero_add,Nat.one_ne_zero,if_false] at hA9;replace hA9:=hA9.sub (L':=boxI a (av S.c M)::LT { S with G:=G9,f:=upd S.f (5,M.s,part) word,qc:={ S.qc with s:=wrap64 (S.qc.s+1) },m:=S.m+1 } (lieI g xs::R)) (.cons_cons _ (.cons_cons _ (.cons_cons _ (.cons_cons _ (.cons_cons _ (.cons _ (List.Sublist.refl _)))))));clear hC9 hE1;have r:=hA9.rule 0 rfl;unfold av at r;simp only [hleft] at r;have f:=hA9.thaw 0 rfl 18 (by simp [av]);have hP:=fun v=>hA9.put 0 rfl (j:=18) (by simp [av]) v;obtain _ | C:=C
 ·omega
 obtain _ | N:=N
 ·obtain _ | C:=C
  ·go_wp2_with fail;refine (end_m 0 1 (by simp [av]) (hP _) rfl).mono ?_;rintro o w7 ⟨rfl,nx,hE7⟩;go_wp2_with fail;go_ret
   first | exact ⟨rfl,nx,_,G9,fun h=>absurd rfl h,hE7⟩ | exact ⟨rfl,nx,_,G9,hE7⟩ | exact ⟨rfl,nx.1,nx.2,_,G9,hE7⟩ | exact ⟨rfl,nx.1,nx.2,_,G9,fun h=>absurd rfl h,hE7⟩
  ·go_wp2_with fail;refine (end_m 0 1 (by simp [av]) (hP _) rfl).mono ?_;rintro o w7 ⟨rfl,nx,hE7⟩;go_wp2_with fail;go_ret
   first | exact ⟨rfl,nx,_,G9,fun h=>absurd rfl h,hE7⟩ | exact ⟨rfl,nx,_,G9,hE7⟩ | exact ⟨rfl,nx.1,nx.2,_,G9,hE7⟩ | exact ⟨rfl,nx.1,nx.2,_,G9,fun h=>absurd rfl h,hE7⟩
 ·obtain _ | C:=C
  ·omega
  ·go_wp2_with fail;go_ret
   first | exact ⟨rfl,M.nx,_,⟨rfl,rfl⟩,G9,hP _⟩ | exact ⟨rfl,M.nx.1,M.nx.2,_,⟨rfl,rfl⟩,G9,hP _⟩
theorem method_born (k p:Nat) (w:World):(method (k+1) 28 (.pointer (some ⟨p,0,none⟩)) "Born").run prog w=.ok (335,.pointer (some ⟨p,0,none⟩)) w:=by kernel_rfl
theorem birth_a (x y:Int) (t:List Trip) (hql:S.ql=(x,y,0)::t) (hx:1<=x/\x<=S.cs) (hcs:S.cs<=9223372036854775806) (hhs:S.hs=0) (he:0<=S.ce/\S.ce<=9223372036854775807) (hm:S.m < maxLen) (hz:Hid (M.nx.2=.int .i64 0)) (hE:Env w0 (boxI a (av S.c M)::LT S R) w) :
  Calls prog 238 #[.pointer (some ⟨a,0,none⟩),.iface 28 (.pointer (some ⟨S.p,0,none⟩))] w fun u w'=>u=.returned (.int .i64 0)/\∃ g c G',(wordsA S.ck S.ce M.key M.val (IntKind.u64.wrap M.lv)).length<=c/\Env w0 (boxI a (av S.c { M with nx:=nxA a 11,s:=x,left:=.slice (some ⟨g,2,none⟩) ((wordsA S.ck S.ce M.key M.val (IntKind.u64.wrap M.lv)).length - 1) (c - 1) })::LT { S with ql:=t,hs:=x,G:=G',f:=upd S.f (5,x,0) S.ce,qc:={ S.qc with s:=wrap64 (S.qc.s+1) },m:=S.m+1 } (lieI g (flat2 (wordsA S.ck S.ce M.key M.val (IntKind.u64.wrap M.lv)))::R)) w':=by
 have hmf:=makeF;have hmb:=method_born;have r:=hE.rule 0 rfl;unfold av at r;have hQ:=hE.queue 2 rfl;rw [hql] at hQ;go_enter func238,ntmps238;go_wp2_with fail;refine (queue_c (hE.get 1 rfl)).mono ?_;rintro o w1 ⟨rfl,rfl⟩;go_wp2_with fail;refine (head_any x y 0 hQ).mono ?_;rintro o w2 ⟨rfl,hb⟩;have hE1:=((hE.over hb).box w2.heap.size rfl [.int .i64 x,.int .i64 y,.int .i64 0] 114).perm (L':=boxI a (av S.c M)::LT S (boxI w2.heap.size [.int .i64 x,.int .i64 y,.int .i64 0]::R)) (List.perm_middle (l₁:=[boxI a (av S.c M),_,_,_,_])).symm;clear r hb hQ hE;simp only [tv];go_wp2_with fail;generalize w2.alloc _=w3 at *;generalize w2.heap.size=Y at *;refine Ord.wc [10] (fun v=>Blk 0 v Y [.int .i64 x,.int .i64 y,.int .i64 0]) (fun k w'=>Env w0 (boxI a (av S.c (if k=0 then M else { M with s:=x }))::LT S (boxI Y [.int .i64 x,.int .i64 y,.int .i64 0]::R)) w') (hE1.drew.get 5 rfl) hE1.drew fun hT9=>?_
 repeat ((first
  | (refine Ord.cv ?_ hT9.o ?_ ?_; rotate_left; (intro w5 hS; have r:=hS.rule; go_simp<;>rfl))
  | (refine Ord.co hT9.o ?_)
  | (refine Ord.cc ?_ ?_ ?_ hT9.o ?_ ?_ ?_; rotate_left 3; (intro w5 hS; have r:=hS.rule; go_simp; constructor<;>rfl); (intro w5 hS; (first | (with_reducible refine (born_w _ _ _).mono ?_; rintro e w6 ⟨rfl,rfl⟩; constructor; rfl; exact ⟨hS,fun k h=>h⟩)))));try simp only [Act.put,zA,zZ,zS])
 refine Ord.ch_turn (v:=undef) 0 hT9.o rfl (by decide) (Or.inl rfl) (by rfl) ?_ ?_
 ·rintro w5 hC5 hA5;simp only [if_true] at hA5;have r:=hA5.rule 0 rfl;unfold av at r;have f6:=hA5.thaw 0 rfl 16 (by simp [av]);have f7:=hA5.thaw 0 rfl 17 (by simp [av]);go_simp;have h9:=(hA5.put 0 rfl (j:=16) (by simp [av]) (.int .i64 x)).put 0 rfl (j:=17) (by simp [av]) (.int .i64 0);replace h9:Env w0 (boxI a (av S.c { M with s:=x })::LT S (boxI Y [.int .i64 x,.int .i64 y,.int .i64 0]::R)) _:=h9;exact ⟨rfl,h9.get 5 rfl,h9⟩
 try simp only [Act.put,zA,zZ,zS]
 repeat ((first
  | (refine Ord.cv ?_ hT9.o ?_ ?_; rotate_left; (intro w5 hS; skip; go_simp<;>rfl))
  | (refine Ord.co hT9.o ?_));try simp only [Act.put,zA,zZ,zS])
 refine Ord.InText.nil fun w5 hS=>?_;clear hT9;obtain ⟨hC9,hA9⟩:=Ord.chain_end hS;clear hS;simp only [List.length_cons,List.length_nil,Nat.zero_add,Nat.one_ne_zero,if_false] at hA9;clear hC9 hE1;replace hA9:=hA9.sub (L':=boxI a (av S.c { M with s:=x })::LT S R) (.cons_cons _ (.cons_cons _ (.cons_cons _ (.cons_cons _ (.cons_cons _ (.cons _ (List.Sublist.refl _)))))));have hQ:=hA9.queue 2 rfl;rw [hql] at hQ;go_wp2_with fail;refine (pop_any x y 0 hQ).mono ?_;rintro o w6 ⟨rfl,hQ6,hs6⟩;have hE6:Env w0 (boxI a (av S.c { M with s:=x })::LT { S with ql:=t } R) w6:=hA9.turnQ 2 rfl hQ6 hs6;clear hQ hQ6 hs6 hA9;go_wp2_with fail;refine Ord.wc [9] (fun v=>Blk 0 v a (av S.c { M with s:=x })) (fun k w'=>Env w0 (boxI a (av S.c { M with s:=x })::LT (if k=0 then { S with ql:=t } else { S with ql:=t,hs:=x }) R) w') (hE6.drew.get 0 rfl) hE6.drew fun hT9=>?_
 repeat ((first
  | (refine Ord.cv ?_ hT9.o ?_ ?_; rotate_left; (intro w5 hS; have r:=hS.rule; unfold av at r; go_simp<;>rfl))
  | (refine Ord.co hT9.o ?_)
  | (refine Ord.cc ?_ ?_ ?_ hT9.o ?_ ?_ ?_; rotate_left 3; (intro w5 hS; have r:=hS.rule; unfold av at r; go_simp; constructor<;>rfl); (intro w5 hS; (first | fail))));try simp only [Act.put,zA,zZ,zS])
 refine Ord.ch_turn (v:=.int .i64 0) 0 hT9.o rfl (by decide) (Or.inl rfl) (by rfl) ?_ ?_
 ·rintro w5 hC5 hA5;simp only [if_true] at hA5;go_simp;simp only [Ord.LandsIn];refine (holdYes_c x 0 hhs hx 1 hA5 rfl).mono ?_;rintro e w6 ⟨rfl,hE7⟩;exact ⟨rfl,hE7.get 0 rfl,hE7⟩
 try simp only [Act.put,zA,zZ,zS]
 repeat ((first
  | (refine Ord.cv ?_ hT9.o ?_ ?_; rotate_left; (intro w5 hS; skip; go_simp<;>rfl))
  | (refine Ord.co hT9.o ?_));try simp only [Act.put,zA,zZ,zS])
 refine Ord.InText.nil fun w5 hS=>?_;clear hT9;obtain ⟨hC9,hA9⟩:=Ord.chain_end hS;clear hS;simp only [List.length_cons,List.length_nil,Nat.zero_add,Nat.one_ne_zero,if_false] at hA9;clear hC9 hE6;have r:=hA9.rule 0 rfl;unfold av at r;go_wp2_with fail;refine (words_a (S:={ S with ql:=t,hs:=x }) (M:={ M with s:=x }) he hA9).mono ?_;rintro o w7 ⟨g,c,rfl,hgc,hE7⟩;replace hE7:=hE7.perm (L':=boxI a (av S.c { M with s:=x })::LT { S with ql:=t,hs:=x } (lieI g (flat2 (wordsA S.ck S.ce M.key M.val (IntKind.u64.wrap M.lv)))::R)) (List.perm_middle (l₁:=[boxI a (av S.c { M with s:=x }),_,_,_,_])).symm;clear r hA9;have hle:3<=(wordsA S.ck S.ce M.key M.val (IntKind.u64.wrap M.lv)).length:=by unfold wordsA; simp
 have h0:(flat2 (wordsA S.ck S.ce M.key M.val (IntKind.u64.wrap M.lv)))[0]?=some (.int .i64 0):=by simp [wordsA,flat2]
 have h1:(flat2 (wordsA S.ck S.ce M.key M.val (IntKind.u64.wrap M.lv)))[0+1]?=some (.int .u64 S.ce):=by simp [wordsA,flat2]
 generalize hWW:wordsA S.ck S.ce M.key M.val (IntKind.u64.wrap M.lv)=W at *;have HWW:=zH hWW;clear hWW;obtain ⟨N,hN⟩:∃ N,W.length=N+1:=⟨W.length - 1,by omega⟩;have HN:=zH hN;rw [hN] at hgc hle ⊢;simp only [hN];have hN0:N≠0:=by omega
 clear hN hle;have r:=hE7.rule 0 rfl;unfold av at r;have f6:=hE7.thaw 0 rfl 18 (by simp [av]);have h7:=hE7.put 0 rfl (j:=18) (by simp [av]) (.slice (some ⟨g,0,none⟩) (N+1) c);have hgo:=goOn_m (fn:=.func 272) (fs:=#[.pointer (some ⟨a,0,none⟩)]) (cs:=#[]) 0 (by simp [av]) (by exact congrArg some hz.out) h7 rfl;have HGO:=zH hgo;clear hgo h7;go_wp2_with fail;refine HGO.out.mono ?_;rintro o w9 ⟨rfl,h8⟩;replace h8:Env w0 (boxI a (av S.c { M with nx:=nxA a 11,s:=x,left:=.slice (some ⟨g,0,none⟩) (N+1) c })::LT { S with ql:=t,hs:=x } (lieI g (flat2 W)::R)) _:=h8;clear HGO f6 r hE7;have hst:=store_a (S:={ S with ql:=t,hs:=x }) (M:={ M with nx:=nxA a 11,s:=x,left:=.slice (some ⟨g,0,none⟩) (N+1) c }) g 0 N c 0 S.ce hgc (by unfold In64; omega) (by unfold InU; omega) (by unfold In64; dsimp only; omega) hm rfl h0 h1 h8;have HST:=zH hst;clear hst h8 he hx hcs;go_wp2_with fail;refine HST.out.mono ?_;rintro o w8 ⟨rfl,nx,left,G',hnl,hE8⟩;obtain ⟨rfl,rfl⟩:=hnl hN0;rw [if_neg hN0];go_wp2_with fail;go_ret;rw [HWW.out,HN.out];exact ⟨rfl,g,c,G',hgc,hE8⟩
end
theorem enters_fn (pc:Nat) (ar:Array Value) (v:World):(callFunc (fnA pc) ar).run prog v=.ok (.enter (fnA pc) ar) v:=by
 unfold fnA
 repeat' split
 all_goals kernel_rfl
section
variable {w0 w:World} {R:List Item} {a:Nat} {S:ST} {M:MA}
theorem step_a (pc:Nat) (u:Value) (Q:Ending->World->Prop) (hE:Env w0 (boxI a (av S.c M)::LT S R) w) (hnx:M.nx=nxA a pc)
  (hc:Calls prog (fnA pc) #[.pointer (some ⟨a,0,none⟩),u] w fun e w'=>∃ s,e=.returned (.int .i64 s)/\Q (.returned (.int .i64 s)) w') :
  Calls prog 179 #[.pointer (some ⟨a,0,none⟩),u] w Q:=by
 have hn:w.cell? ⟨a,1,none⟩=some (.func (.func (fnA pc)) #[.pointer (some ⟨a,0,none⟩)] #[]):=by
  have:=hE.rule 0 rfl 1;rw [this,show (av S.c M)[1]?=some M.nx.1 from rfl,hnx];rfl
 have hs0:w.cell? ⟨a,1+1,none⟩=some (.int .i64 0):=by
  have:=hE.rule 0 rfl 2;rw [this,show (av S.c M)[2]?=some M.nx.2 from rfl,hnx];rfl
 have hst:=stepMv_r (o:=1) (fnA pc) (enters_fn pc) (.pointer (some ⟨a,0,none⟩)) u (fun o w'=>∃ s,o=.returned (.int .i64 s)/\Q (.returned (.int .i64 s)) w') hn hs0 (hc.mono fun e w' ⟨s,he,hq⟩=>⟨s,he,s,rfl,hq⟩);have HST:=zH hst;clear hst hc;go_enter func179,ntmps179;go_wp2_with fail;refine HST.out.mono ?_;rintro o w1 ⟨s,rfl,hQ⟩;go_wp2_with fail;exact hQ
theorem step_ay {st:Int} {Y:World->Prop} (pc:Nat) (u:Value) (hE:Env w0 (boxI a (av S.c M)::LT S R) w) (hnx:M.nx=nxA a pc)
  (hc:Calls prog (fnA pc) #[.pointer (some ⟨a,0,none⟩),u] w fun o w'=>o=.returned (.int .i64 st)/\Y w') :
  Calls prog 179 #[.pointer (some ⟨a,0,none⟩),u] w fun o w'=>o=.returned (.int .i64 st)/\Y w' :=
 step_a pc u _ hE hnx (hc.mono fun _ _ h=>⟨st,h.1,rfl,h.2⟩)
theorem new_a (k key val lv:Int) (hh:S.hs=0) (hE:Env w0 (LT S R) w) :
  Calls prog 177 #[.pointer (some ⟨S.c,0,none⟩),.agg #[.int .i64 k,.int .u64 key,.int .u64 val,.int .i64 lv]] w fun o w'=>(decP S.ql S.ce S.cl=0/\o=.returned (.tuple #[.pointer none,.int .i64 4])/\Env w0 (LT S R) w')\/(decP S.ql S.ce S.cl≠0/\∃ a,o=.returned (.tuple #[.pointer (some ⟨a,0,none⟩),.int .i64 0])/\Env w0 (boxI a (av S.c { nx:=nxA a (decP S.ql S.ce S.cl),left:=.slice none 0 0,k:=k,key:=key,val:=val,lv:=lv,h:=0,n:=0,r:=0,s:=0 })::LT S R) w'):=by
 have hE1:=hE.box w.heap.size rfl [.int .i64 k,.int .u64 key,.int .u64 val,.int .i64 lv] 51;have hb:(S.hs != 0)=false:=by simpa using hh
 clear hE;go_enter func177,ntmps177;go_wp2_with fail;refine (held_c (hE1.get 1 rfl)).mono ?_;rintro o w1 ⟨rfl,hb1⟩;rw [hb];have hE2:=(hE1.over hb1).more (.cells [.int .i64 0,.int .i64 0].toArray 110);clear hb1 hE1;have r0:=hE2.rule 0 rfl;go_wp2_with fail;have hE3:=(hE2.box (w1.heap.size+1) (by simp) (av S.c { nx:=(.nilFunc,.int .i64 0),left:=.slice none 0 0,k:=k,key:=key,val:=val,lv:=lv,h:=0,n:=0,r:=0,s:=0 }) 283).sub (L':=boxI (w1.heap.size+1) (av S.c { nx:=(.nilFunc,.int .i64 0),left:=.slice none 0 0,k:=k,key:=key,val:=val,lv:=lv,h:=0,n:=0,r:=0,s:=0 })::LT S R) (.cons_cons _ (.cons _ (List.Sublist.refl _)));refine (decide_a (zH rfl) hE3).mono ?_;rintro o w2 ⟨rfl,nx,hnx,hE4⟩;clear r0 hE2 hE3
 by_cases hd:decP S.ql S.ce S.cl=0
 ·have hds:decS S.ql S.ce S.cl=4:=by unfold decS; rw [if_pos hd]
  rw [hds];have HD:=zH hd;clear hd hds hnx;go_wp2_with fail
  go_ret2
  exact .inl ⟨HD.out,rfl,hE4.sub (.cons _ (List.Sublist.refl _))⟩
 ·have hds:decS S.ql S.ce S.cl=0:=by unfold decS; rw [if_neg hd]
  rw [hds];have HD:=zH hd;have HNX:=zH (hnx hd);clear hd hds hnx;go_wp2_with fail
  go_ret2
  rw [HNX.out] at hE4;exact .inr ⟨HD.out,_,rfl,hE4⟩
end
def SP (C:Cf) (X:Tm) (V:Wm) (T:Th) (f:Plc->Int) (G:Nat->Prop) (qc:Cnt) (n:Nat):ST:={ c:=X.c,q:=X.q,p:=V.p,cc:=V.cc,ck:=C.k,cs:=C.s,cb:=C.b,ch:=C.h,cl:=C.l,ce:=T.e,cr:=X.cr,hs:=T.hs,F:=X.F,ql:=T.ql,kq:=X.kq,G:=G,f:=f,qc:=qc,m:=n }
def WD (C:Cf) (d:Dd) (T:Th):List (Int × Int):=wordsA C.k T.e d.key d.val (IntKind.u64.wrap d.lv)
def maD (a:Nat) (d:Dd) (T:Th) (left:Value) (s:Int):MA:={ nx:=nxA a T.apc,left:=left,k:=d.ok,key:=d.key,val:=d.val,lv:=d.lv,h:=T.ah,n:=T.an,r:=T.ar,s:=s }
def avD (c a:Nat) (d:Dd) (T:Th) (left:Value) (s:Int):List Value:=av c (maD a d T left s)
def LeftIs (C:Cf) (d:Dd) (T:Th) (left:Value) (s:Int) (gl:List Item):Prop :=
 if T.apc<=10 then gl=[] else ∃ g c9 N,gl=[lieI g (flat2 (WD C d T))]/\s=T.hs/\left=.slice (some ⟨g,2 * (T.apc - 10),none⟩) (N+1) c9/\N+1<=c9/\(WD C d T).length=(T.apc - 10)+(N+1)
structure RowOk (C:Cf) (T:Th) (n:Nat):Prop where
 (he:0<=T.e/\T.e<=9223372036854775807)
 (hn:n < maxLen)
 (hl:T.ql.length+1<=1000000)
 (hs:0<=C.s/\C.s<=9223372036854775806)
 (hw:InU T.ah/\InU T.an/\InU T.ar)
 (apc:T.apc=1\/T.apc=2\/T.apc=3\/T.apc=4\/T.apc=5\/T.apc=6\/10<=T.apc)
 (born:T.apc=10->T.hs=0/\∃ x y t,T.ql=(x,y,0)::t/\1<=x/\x<=C.s)
 (hh:In64 T.hs)
theorem flat2_at (l:List (Int × Int)) (k:Nat) {a b:Int} (h:l[k]?=some (a,b)):(flat2 l)[2 * k]?=some (.int .i64 a)/\(flat2 l)[2 * k+1]?=some (.int .u64 b):=by
 induction l generalizing k with
 | nil=>simp at h
 | cons p r ih =>
  cases k with
  | zero =>
   simp at h;subst h;simp [flat2]
  | succ k =>
   have h':r[k]?=some (a,b):=by simpa using h
   have:=ih k h';have e1:2 * (k+1)=2 * k+1+1:=by omega
   rw [e1]
   simpa [flat2] using this
theorem WD_in {C:Cf} {d:Dd} {T:Th} (he:0<=T.e/\T.e<=9223372036854775807) (hd:InU d.key/\InU d.val) {k:Nat} {a b:Int} (h:(WD C d T)[k]?=some (a,b)):In64 a/\InU b:=by
 have hm:(a,b)∈WD C d T:=List.mem_of_getElem? h;have hw:InU (IntKind.u64.wrap d.lv):=by rw [IntKind.wrap_u64]; unfold InU; omega
 unfold WD wordsA at hm;have h0:InU 0:=by unfold InU; omega
 have h1:InU T.e:=by unfold InU; omega
 split at hm
 ·simp at hm
  rcases hm with ⟨rfl,rfl⟩ | ⟨rfl,rfl⟩ | ⟨rfl,rfl⟩ | ⟨rfl,rfl⟩<;>exact ⟨by unfold In64; omega,by first | exact h1 | exact h0 | exact hd.1 | exact hd.2⟩
 ·split at hm
  ·simp at hm
   rcases hm with ⟨rfl,rfl⟩ | ⟨rfl,rfl⟩ | ⟨rfl,rfl⟩ | ⟨rfl,rfl⟩ | ⟨rfl,rfl⟩<;>exact ⟨by unfold In64; omega,by first | exact h1 | exact h0 | exact hd.1 | exact hw⟩
  ·simp at hm
   rcases hm with ⟨rfl,rfl⟩ | ⟨rfl,rfl⟩ | ⟨rfl,rfl⟩<;>exact ⟨by unfold In64; omega,by first | exact h1 | exact h0 | exact hd.1⟩
theorem decP_in (ql:List Trip) (e l:Int):decP ql e l=0\/decP ql e l=1\/decP ql e l=2\/decP ql e l=10:=by
 rcases ql with _ | ⟨⟨x,y,z⟩,t⟩
 ·exact .inr (.inr (.inl rfl))
 ·simp only [decP]
  split
  ·simp
  ·split<;>simp
theorem fnA_store {pc:Nat} (h:11<=pc):fnA pc=272:=by
 unfold fnA;rw [if_neg (by omega),if_neg (by omega),if_neg (by omega),if_neg (by omega),if_neg (by omega),if_neg (by omega),if_neg (by omega)]
theorem LeftIs.of {C:Cf} {d:Dd} {T:Th} {left:Value} {s:Int} (h:T.apc<=10):LeftIs C d T left s []:=by unfold LeftIs; rw [if_pos h]
theorem WD_len (C:Cf) (d:Dd) (T:Th):3<=(WD C d T).length/\(WD C d T).length<=5:=by
 unfold WD;rw [wordsA_len]
 split
 ·omega
 ·split<;>omega
section
variable {w0 w:World} {R:List Item} {C:Cf} {d:Dd} {X:Tm} {V:Wm} {T:Th} {f:Plc->Int} {G:Nat->Prop} {qc:Cnt} {n a:Nat} {left:Value} {s:Int} {gl:List Item}
theorem alPx (hg:Glo w0) (hk:RowOk C T n) (hd:InU d.key/\InU d.val) (hlf:LeftIs C d T left s gl) (hE:Env w0 (boxI a (avD X.c a d T left s)::LT (SP C X V T f G qc n) (gl++R)) w) :
  Calls prog 179 #[.pointer (some ⟨a,0,none⟩),.iface 28 (.pointer (some ⟨V.p,0,none⟩))] w fun o w'=>o=.returned (.int .i64 (allocM C d T f).1)/\∃ (F':Nat->Prop) (k':Nat) (G':Nat->Prop) (qc':Cnt) (n':Nat),Nx n qc n' qc'/\(((allocM C d T f).1=0/\∃ left' s' gl',LeftIs C d (allocM C d T f).2.1 left' s' gl'/\Env w0 (boxI a (avD X.c a d (allocM C d T f).2.1 left' s')::LT (SP C { X with F:=F',kq:=k' } V (allocM C d T f).2.1 (allocM C d T f).2.2 G' qc' n') (gl'++R)) w')\/((allocM C d T f).1≠0/\Env w0 (LT (SP C { X with F:=F',kq:=k' } V (allocM C d T f).2.1 (allocM C d T f).2.2 G' qc' n') R) w')):=by
 have drop:∀ {S:ST} {y:Item} {w':World},Env w0 (y::LT S R) w'->Env w0 (LT S R) w':=fun h=>h.sub (.cons _ (List.Sublist.refl _));have hfu:∀ x,InU (f x):=fun x=>(hE.cell 4 rfl).words.1 x
 rcases hk.apc with h1 | h1 | h1 | h1 | h1 | h1 | h1
 ·have hgl:gl=[]:=by unfold LeftIs at hlf; rw [if_pos (by omega)] at hlf; exact hlf
  subst hgl;have hal:allocM C d T f=(2,T,swf f (1,0,0) T.e (T.e+1)):=by unfold allocM; rw [if_pos h1]
  rw [hal];refine (step_ay (S:=SP C X V T f G qc n) (M:=maD a d T left s) 1 _ hE (by simp [maD,h1]) (advance_a (S:=SP C X V T f G qc n) (M:=maD a d T left s) hk.he hk.hn hE)).mono ?_;rintro o w1 ⟨rfl,nx,G',hE1⟩;exact ⟨rfl,X.F,X.kq,G',_,n+1,⟨Nat.le_refl _,(by first | exact Or.inl ⟨rfl,rfl,rfl,rfl⟩ | exact Or.inr (Or.inl ⟨rfl,rfl,rfl,rfl⟩) | exact Or.inr (Or.inr (Or.inl ⟨rfl,rfl,rfl,rfl⟩)) | exact Or.inr (Or.inr (Or.inr ⟨rfl,rfl,rfl,rfl⟩)))⟩,.inr ⟨show (2:Int)≠0 by decide,drop hE1⟩⟩
 ·have hgl:gl=[]:=by unfold LeftIs at hlf; rw [if_pos (by omega)] at hlf; exact hlf
  subst hgl
  by_cases hx:C.s<=f (3,0,0)
  ·have hal:allocM C d T f=(0,{ T with apc:=3 },upd f (3,0,0) (IntKind.u64.wrap (f (3,0,0)+1))):=by unfold allocM; rw [if_neg (by omega),if_pos h1,if_pos hx]
   rw [hal];refine (step_ay (S:=SP C X V T f G qc n) (M:=maD a d T left s) 2 _ hE (by simp [maD,h1]) (freshNo_a (S:=SP C X V T f G qc n) (M:=maD a d T left s) _ rfl (hfu _).1 hx hk.hs hk.hn (zH rfl) hE)).mono ?_;rintro o w1 ⟨rfl,G',hE1⟩;exact ⟨rfl,X.F,X.kq,G',_,n+1,⟨Nat.le_refl _,(by first | exact Or.inl ⟨rfl,rfl,rfl,rfl⟩ | exact Or.inr (Or.inl ⟨rfl,rfl,rfl,rfl⟩) | exact Or.inr (Or.inr (Or.inl ⟨rfl,rfl,rfl,rfl⟩)) | exact Or.inr (Or.inr (Or.inr ⟨rfl,rfl,rfl,rfl⟩)))⟩,.inl ⟨rfl,left,s,[],.of (show (3:Nat)<=10 by decide),hE1⟩⟩
  ·have hal:allocM C d T f=(decS (T.ql++[(f (3,0,0)+1,0,0)]) T.e C.l,{ T with ql:=T.ql++[(f (3,0,0)+1,0,0)],apc:=decP (T.ql++[(f (3,0,0)+1,0,0)]) T.e C.l },upd f (3,0,0) (IntKind.u64.wrap (f (3,0,0)+1))):=by unfold allocM; rw [if_neg (by omega),if_pos h1,if_neg hx]
   rw [hal];refine (step_ay (S:=SP C X V T f G qc n) (M:=maD a d T left s) 2 _ hE (by simp [maD,h1]) (freshYes_a (S:=SP C X V T f G qc n) (M:=maD a d T left s) _ rfl (Nat.le_trans hk.hl (by decide)) (hfu _).1 (show f (3,0,0) < C.s by omega) hk.hs.2 hk.hn (zH rfl) hE)).mono ?_;rintro o w1 ⟨rfl,nx,k',F',G',hnx,-,hE1⟩;have hin:=decP_in (T.ql++[(f (3,0,0)+1,0,0)]) T.e C.l
   by_cases hz:decP (T.ql++[(f (3,0,0)+1,0,0)]) T.e C.l=0
   ·exact ⟨rfl,F',k',G',_,n+1,⟨Nat.le_refl _,(by first | exact Or.inl ⟨rfl,rfl,rfl,rfl⟩ | exact Or.inr (Or.inl ⟨rfl,rfl,rfl,rfl⟩) | exact Or.inr (Or.inr (Or.inl ⟨rfl,rfl,rfl,rfl⟩)) | exact Or.inr (Or.inr (Or.inr ⟨rfl,rfl,rfl,rfl⟩)))⟩,.inr ⟨show decS (T.ql++[(f (3,0,0)+1,0,0)]) T.e C.l≠0 by unfold decS; rw [if_pos hz]; decide,drop hE1⟩⟩
   ·have hnx:=hnx hz;subst hnx;exact ⟨rfl,F',k',G',_,n+1,⟨Nat.le_refl _,(by first | exact Or.inl ⟨rfl,rfl,rfl,rfl⟩ | exact Or.inr (Or.inl ⟨rfl,rfl,rfl,rfl⟩) | exact Or.inr (Or.inr (Or.inl ⟨rfl,rfl,rfl,rfl⟩)) | exact Or.inr (Or.inr (Or.inr ⟨rfl,rfl,rfl,rfl⟩)))⟩,.inl ⟨show decS (T.ql++[(f (3,0,0)+1,0,0)]) T.e C.l=0 by unfold decS; rw [if_neg hz],left,s,[],.of (show decP (T.ql++[(f (3,0,0)+1,0,0)]) T.e C.l<=10 by omega),hE1⟩⟩
 ·have hgl:gl=[]:=by unfold LeftIs at hlf; rw [if_pos (by omega)] at hlf; exact hlf
  subst hgl;have hal:allocM C d T f=(poolS (f (2,0,0)) C.l,{ T with ah:=f (2,0,0),apc:=4 },f):=by unfold allocM; rw [if_neg (by omega),if_neg (by omega),if_pos h1]
  rw [hal];refine (step_ay (S:=SP C X V T f G qc n) (M:=maD a d T left s) 3 _ hE (by simp [maD,h1]) (loadPool_a (S:=SP C X V T f G qc n) (M:=maD a d T left s) _ rfl hg (zH rfl) hE)).mono ?_;rintro o w1 ⟨rfl,nx,hnx,hE1⟩
  by_cases hz:poolS (f (2,0,0)) C.l=0
  ·have hnx:=hnx hz;subst hnx;exact ⟨rfl,X.F,X.kq,G,_,n,⟨by omega,(by first | exact Or.inl ⟨rfl,rfl,rfl,rfl⟩ | exact Or.inr (Or.inl ⟨rfl,rfl,rfl,rfl⟩) | exact Or.inr (Or.inr (Or.inl ⟨rfl,rfl,rfl,rfl⟩)) | exact Or.inr (Or.inr (Or.inr ⟨rfl,rfl,rfl,rfl⟩)))⟩,.inl ⟨hz,left,s,[],.of (show (4:Nat)<=10 by decide),hE1⟩⟩
  ·exact ⟨rfl,X.F,X.kq,G,_,n,⟨by omega,(by first | exact Or.inl ⟨rfl,rfl,rfl,rfl⟩ | exact Or.inr (Or.inl ⟨rfl,rfl,rfl,rfl⟩) | exact Or.inr (Or.inr (Or.inl ⟨rfl,rfl,rfl,rfl⟩)) | exact Or.inr (Or.inr (Or.inr ⟨rfl,rfl,rfl,rfl⟩)))⟩,.inr ⟨hz,drop hE1⟩⟩
 ·have hgl:gl=[]:=by unfold LeftIs at hlf; rw [if_pos (by omega)] at hlf; exact hlf
  subst hgl;have hal:allocM C d T f=(0,{ T with an:=f (5,slotI T.ah,2),apc:=5 },f):=by unfold allocM; rw [if_neg (by omega),if_neg (by omega),if_neg (by omega),if_pos h1]
  rw [hal];refine (step_ay (S:=SP C X V T f G qc n) (M:=maD a d T left s) 4 _ hE (by simp [maD,h1]) (loadChain_a (S:=SP C X V T f G qc n) (M:=maD a d T left s) _ rfl hk.hw.1 hg (zH rfl) hE)).mono ?_;rintro o w1 ⟨rfl,hE1⟩;exact ⟨rfl,X.F,X.kq,G,_,n,⟨by omega,(by first | exact Or.inl ⟨rfl,rfl,rfl,rfl⟩ | exact Or.inr (Or.inl ⟨rfl,rfl,rfl,rfl⟩) | exact Or.inr (Or.inr (Or.inl ⟨rfl,rfl,rfl,rfl⟩)) | exact Or.inr (Or.inr (Or.inr ⟨rfl,rfl,rfl,rfl⟩)))⟩,.inl ⟨rfl,left,s,[],.of (show (5:Nat)<=10 by decide),hE1⟩⟩
 ·have hgl:gl=[]:=by unfold LeftIs at hlf; rw [if_pos (by omega)] at hlf; exact hlf
  subst hgl;have hal:allocM C d T f=(0,{ T with ar:=f (5,slotI T.ah,1),apc:=6 },f):=by unfold allocM; rw [if_neg (by omega),if_neg (by omega),if_neg (by omega),if_neg (by omega),if_pos h1]
  rw [hal];refine (step_ay (S:=SP C X V T f G qc n) (M:=maD a d T left s) 5 _ hE (by simp [maD,h1]) (loadRetired_a (S:=SP C X V T f G qc n) (M:=maD a d T left s) _ rfl hk.hw.1 hg (zH rfl) hE)).mono ?_;rintro o w1 ⟨rfl,hE1⟩;exact ⟨rfl,X.F,X.kq,G,_,n,⟨by omega,(by first | exact Or.inl ⟨rfl,rfl,rfl,rfl⟩ | exact Or.inr (Or.inl ⟨rfl,rfl,rfl,rfl⟩) | exact Or.inr (Or.inr (Or.inl ⟨rfl,rfl,rfl,rfl⟩)) | exact Or.inr (Or.inr (Or.inr ⟨rfl,rfl,rfl,rfl⟩)))⟩,.inl ⟨rfl,left,s,[],.of (show (6:Nat)<=10 by decide),hE1⟩⟩
 ·have hgl:gl=[]:=by unfold LeftIs at hlf; rw [if_pos (by omega)] at hlf; exact hlf
  subst hgl
  by_cases hx:f (2,0,0)=T.ah
  ·have hal:allocM C d T f=(decS (T.ql++[(slotI T.ah,epI T.ar,0)]) T.e C.l,{ T with ql:=T.ql++[(slotI T.ah,epI T.ar,0)],apc:=decP (T.ql++[(slotI T.ah,epI T.ar,0)]) T.e C.l },swf f (2,0,0) T.ah (nextW T.ah (slotI T.an))):=by unfold allocM; rw [if_neg (by omega),if_neg (by omega),if_neg (by omega),if_neg (by omega),if_neg (by omega),if_pos h1,if_pos hx]
   rw [hal];refine (step_ay (S:=SP C X V T f G qc n) (M:=maD a d T left s) 6 _ hE (by simp [maD,h1]) (takeYes_a (S:=SP C X V T f G qc n) (M:=maD a d T left s) hx hk.hw.2.2 (Nat.le_trans hk.hl (by decide)) hk.hw.1 hk.hw.2.1 hg hk.hn (zH rfl) hE)).mono ?_;rintro o w1 ⟨rfl,nx,k',F',G',hnx,-,hE1⟩;have hin:=decP_in (T.ql++[(slotI T.ah,epI T.ar,0)]) T.e C.l
   by_cases hz:decP (T.ql++[(slotI T.ah,epI T.ar,0)]) T.e C.l=0
   ·exact ⟨rfl,F',k',G',_,n+1,⟨Nat.le_refl _,(by first | exact Or.inl ⟨rfl,rfl,rfl,rfl⟩ | exact Or.inr (Or.inl ⟨rfl,rfl,rfl,rfl⟩) | exact Or.inr (Or.inr (Or.inl ⟨rfl,rfl,rfl,rfl⟩)) | exact Or.inr (Or.inr (Or.inr ⟨rfl,rfl,rfl,rfl⟩)))⟩,.inr ⟨show decS (T.ql++[(slotI T.ah,epI T.ar,0)]) T.e C.l≠0 by unfold decS; rw [if_pos hz]; decide,drop hE1⟩⟩
   ·have hnx:=hnx hz;subst hnx;exact ⟨rfl,F',k',G',_,n+1,⟨Nat.le_refl _,(by first | exact Or.inl ⟨rfl,rfl,rfl,rfl⟩ | exact Or.inr (Or.inl ⟨rfl,rfl,rfl,rfl⟩) | exact Or.inr (Or.inr (Or.inl ⟨rfl,rfl,rfl,rfl⟩)) | exact Or.inr (Or.inr (Or.inr ⟨rfl,rfl,rfl,rfl⟩)))⟩,.inl ⟨show decS (T.ql++[(slotI T.ah,epI T.ar,0)]) T.e C.l=0 by unfold decS; rw [if_neg hz],left,s,[],.of (show decP (T.ql++[(slotI T.ah,epI T.ar,0)]) T.e C.l<=10 by omega),hE1⟩⟩
  ·have hal:allocM C d T f=(0,{ T with apc:=3 },swf f (2,0,0) T.ah (nextW T.ah (slotI T.an))):=by unfold allocM; rw [if_neg (by omega),if_neg (by omega),if_neg (by omega),if_neg (by omega),if_neg (by omega),if_pos h1,if_neg hx]
   rw [hal];refine (step_ay (S:=SP C X V T f G qc n) (M:=maD a d T left s) 6 _ hE (by simp [maD,h1]) (takeNo_a (S:=SP C X V T f G qc n) (M:=maD a d T left s) _ rfl hx hk.hw.1 hk.hw.2.1 hg hk.hn (zH rfl) hE)).mono ?_;rintro o w1 ⟨rfl,G',hE1⟩;exact ⟨rfl,X.F,X.kq,G',_,n+1,⟨Nat.le_refl _,(by first | exact Or.inl ⟨rfl,rfl,rfl,rfl⟩ | exact Or.inr (Or.inl ⟨rfl,rfl,rfl,rfl⟩) | exact Or.inr (Or.inr (Or.inl ⟨rfl,rfl,rfl,rfl⟩)) | exact Or.inr (Or.inr (Or.inr ⟨rfl,rfl,rfl,rfl⟩)))⟩,.inl ⟨rfl,left,s,[],.of (show (3:Nat)<=10 by decide),hE1⟩⟩
 ·obtain ⟨hl3,hl5⟩:=WD_len C d T
  by_cases h10:T.apc=10
  ·have hgl:gl=[]:=by unfold LeftIs at hlf; rw [if_pos (by omega)] at hlf; exact hlf
   subst hgl;obtain ⟨hhs,x,y,t,hql,hx1,hx2⟩:=hk.born h10;have hal:allocM C d T f=(lastS 0 (WD C d T).length,{ T with ql:=t,hs:=x,apc:=11 },upd f (5,x,0) T.e):=by
    unfold allocM;rw [if_neg (by omega),if_neg (by omega),if_neg (by omega),if_neg (by omega),if_neg (by omega),if_neg (by omega)];simp only [h10,hql,if_true,List.tail_cons,List.headD_cons];rfl
   have hls:lastS 0 (WD C d T).length=0:=by unfold lastS; rw [if_neg (by omega)]
   rw [hal,hls];refine (step_ay (S:=SP C X V T f G qc n) (M:=maD a d T left s) 10 _ hE (by simp [maD,h10]) (birth_a (S:=SP C X V T f G qc n) (M:=maD a d T left s) x y t hql ⟨hx1,hx2⟩ hk.hs.2 hhs hk.he hk.hn (zH rfl) hE)).mono ?_;rintro o w1 ⟨rfl,g,c,G',hgc,hE1⟩;obtain ⟨N,hN⟩:∃ N,(WD C d T).length=N+2:=⟨(WD C d T).length - 2,by omega⟩;have hgc2:N+2<=c:=by rw [<- hN]; exact hgc
   have hli:LeftIs C d { T with ql:=t,hs:=x,apc:=11 } (.slice (some ⟨g,2,none⟩) ((WD C d T).length - 1) (c - 1)) x [lieI g (flat2 (WD C d T))]:=by
    unfold LeftIs;rw [if_neg (show ¬ (11:Nat)<=10 by decide)];refine ⟨g,c - 1,N,rfl,rfl,?_,by omega,?_⟩
    ·rw [hN];rfl
    ·show (WD C d T).length=(11 - 10)+(N+1);omega
   exact ⟨rfl,X.F,X.kq,G',_,n+1,⟨Nat.le_refl _,(by first | exact Or.inl ⟨rfl,rfl,rfl,rfl⟩ | exact Or.inr (Or.inl ⟨rfl,rfl,rfl,rfl⟩) | exact Or.inr (Or.inr (Or.inl ⟨rfl,rfl,rfl,rfl⟩)) | exact Or.inr (Or.inr (Or.inr ⟨rfl,rfl,rfl,rfl⟩)))⟩,.inl ⟨rfl,_,x,_,hli,hE1⟩⟩
  ·have h11:11<=T.apc:=by omega
   unfold LeftIs at hlf;rw [if_neg (by omega)] at hlf;obtain ⟨g,c9,N,rfl,rfl,rfl,hc9,hlen⟩:=hlf;obtain ⟨k,hk10⟩:∃ k,T.apc=10+k:=⟨T.apc - 10,by omega⟩;have hkk:T.apc - 10=k:=by omega
   rw [hkk] at hlen hE;obtain ⟨⟨part,word⟩,hpw⟩:∃ pw,(WD C d T)[k]?=some pw:=⟨_,List.getElem?_eq_getElem (by omega)⟩;obtain ⟨hp64,hwu⟩:=WD_in hk.he hd hpw;obtain ⟨hc0,hc1⟩:=flat2_at _ _ hpw;have hal:allocM C d T f=(lastS k (WD C d T).length,{ T with apc:=T.apc+1 },upd f (5,T.hs,part) word):=by
    unfold allocM;rw [if_neg (by omega),if_neg (by omega),if_neg (by omega),if_neg (by omega),if_neg (by omega),if_neg (by omega)];have hg:(wordsA C.k T.e d.key d.val (IntKind.u64.wrap d.lv)).getD k (0,0)=(part,word):=by
     have h9:(wordsA C.k T.e d.key d.val (IntKind.u64.wrap d.lv))[k]?=some (part,word):=hpw;rw [List.getD_eq_getElem?_getD,h9];rfl
    simp only [hkk,hg];rw [if_neg (by omega)];rfl
   have hst:=store_a (S:=SP C X V T f G qc n) (M:={ nx:=nxA a T.apc,left:=.slice (some ⟨g,2 * k,none⟩) (N+1) c9,k:=d.ok,key:=d.key,val:=d.val,lv:=d.lv,h:=T.ah,n:=T.an,r:=T.ar,s:=T.hs }) g (2 * k) N c9 part word hc9 hp64 hwu hk.hh hk.hn rfl hc0 hc1 hE;rw [<- fnA_store h11] at hst;rw [hal];have hls:lastS k (WD C d T).length=if N=0 then 1 else 0:=by
    unfold lastS
    by_cases hN:N=0
    ·rw [if_pos hN,if_pos (by omega)]
    ·rw [if_neg hN,if_neg (by omega)]
   rw [hls];refine (step_ay (S:=SP C X V T f G qc n) T.apc _ hE rfl hst).mono ?_;rintro o w1 ⟨rfl,nx,left,G',hnl,hE1⟩
   by_cases hN:N=0
   ·rw [if_pos hN];exact ⟨rfl,X.F,X.kq,G',_,n+1,⟨Nat.le_refl _,(by first | exact Or.inl ⟨rfl,rfl,rfl,rfl⟩ | exact Or.inr (Or.inl ⟨rfl,rfl,rfl,rfl⟩) | exact Or.inr (Or.inr (Or.inl ⟨rfl,rfl,rfl,rfl⟩)) | exact Or.inr (Or.inr (Or.inr ⟨rfl,rfl,rfl,rfl⟩)))⟩,.inr ⟨show (1:Int)≠0 by decide,hE1.sub (.cons _ (.cons_cons _ (.cons_cons _ (.cons_cons _ (.cons_cons _ (.cons _ (List.Sublist.refl _)))))))⟩⟩
   ·obtain ⟨rfl,rfl⟩:=hnl hN;rw [if_neg hN];obtain ⟨M,rfl⟩:∃ M,N=M+1:=⟨N - 1,by omega⟩;have hli:LeftIs C d { T with apc:=T.apc+1 } (.slice (some ⟨g,2 * k+2,none⟩) (M+1) (c9 - 1)) T.hs [lieI g (flat2 (WD C d T))]:=by
     unfold LeftIs;rw [if_neg (show ¬ T.apc+1<=10 by omega)];refine ⟨g,c9 - 1,M,rfl,rfl,?_,by omega,?_⟩
     ·show _=Value.slice (some ⟨g,2 * (T.apc+1 - 10),none⟩) (M+1) (c9 - 1);rw [show 2 * (T.apc+1 - 10)=2 * k+2 by omega]
     ·show (WD C d T).length=(T.apc+1 - 10)+(M+1);omega
    have hnx:nxA a T.apc=nxA a (T.apc+1):=by
     unfold nxA;rw [fnA_store h11,fnA_store (by omega)]
    have hE2:Env w0 (boxI a (avD X.c a d { T with apc:=T.apc+1 } (.slice (some ⟨g,2 * k+2,none⟩) (M+1) (c9 - 1)) T.hs)::LT (SP C X V { T with apc:=T.apc+1 } (upd f (5,T.hs,part) word) G' { qc with s:=wrap64 (qc.s+1) } (n+1)) ([lieI g (flat2 (WD C d T))]++R)) w1:=by
     unfold avD maD;rw [<- hnx];exact hE1
    exact ⟨rfl,X.F,X.kq,G',_,n+1,⟨Nat.le_refl _,(by first | exact Or.inl ⟨rfl,rfl,rfl,rfl⟩ | exact Or.inr (Or.inl ⟨rfl,rfl,rfl,rfl⟩) | exact Or.inr (Or.inr (Or.inl ⟨rfl,rfl,rfl,rfl⟩)) | exact Or.inr (Or.inr (Or.inr ⟨rfl,rfl,rfl,rfl⟩)))⟩,.inl ⟨rfl,_,T.hs,_,hli,hE2⟩⟩
end
structure COk (C:Cf):Prop where
 (s:1<=C.s/\C.s<=8388607)
 (l:1<=C.l/\C.l<=1099511627775)
structure OkF (C:Cf) (f:Mem):Prop where
 (u:∀ x,InU (f x))
 (pool:slotI (f (2,0,0))<=C.s)
 (chain:∀ i,slotI (f (5,i,2))<=C.s)
 (ep:f (1,0,0)<=C.l)
structure OkT (C:Cf) (ds:List Dd) (B:Nat) (T:Th):Prop where
 (e:0<=T.e/\T.e<=C.l)
 (w:InU T.ah/\InU T.an/\InU T.ar)
 (hs:0<=T.hs/\T.hs<=C.s)
 (rs:0<=T.rs/\T.rs<=C.s)
 (ql:∀ x∈T.ql,1<=x.1/\x.1<=C.s/\x.2.2=0)
 (nd:T.nd<=ds.length)
 (len:T.ql.length+(ds.length - T.nd)<=B)
 (done:0<=T.done/\T.done<=B)
 (pc:T.pc=0\/T.pc=1\/T.pc=2\/T.pc=3\/T.pc=4)
 (p1:T.pc=1->T.hs=0)
 (nd1:T.pc≠0->1<=T.nd)
 (apc:T.pc=2->T.apc=1\/T.apc=2\/T.apc=3\/T.apc=4\/T.apc=5\/T.apc=6\/10<=T.apc)
 (low:T.pc=2->T.apc<=10->T.hs=0)
 (adv:T.pc=2->T.apc=1->T.e < C.l)
 (born:T.pc=2->T.apc=10->T.ql≠[])
 (pool:T.pc=2->4<=T.apc->T.apc<=6->1<=slotI T.ah/\slotI T.ah<=C.s/\verI T.ah < C.l)
 (an:slotI T.an<=C.s)
 (rpc:T.pc=3->T.rpc=0\/T.rpc=1)
 (rsp:T.pc=3->1<=T.rs)
 (re:0<=T.re/\T.re<=C.l)
 (gpc:T.gpc<=3)
 (give:T.pc=4->1<=T.gpc->T.ql≠[])
 (ghu:InU T.gh)
 (gh:slotI T.gh<=C.s)
 (gv:T.pc=4->2<=T.gpc->verI T.gh < C.l)
theorem no {a b:Nat} {P:Prop} (h:a=b) (hab:(a==b)=false):P:=by
 simp at hab;exact absurd h hab
theorem slot_next {x s S:Int} (h0:0<=S) (hs:s<=S):slotI (nextW x s)<=S:=by
 have h9:slotI 0=0:=by decide
 unfold nextW
 split
 ·rename_i h;have:=isS_parts h;have hv:=verI_in x
  split
  ·omega
  ·rw [slot_word (isL_mk this.1 this.2 (by omega) (by omega))];exact hs
 ·omega
theorem swf_at (f:Mem) (x y:Plc) (o v:Int):swf f x o v y=if y=x/\f x=o then v else f y:=by
 unfold swf upd
 by_cases h:f x=o
 ·rw [if_pos h]
  by_cases hy:y=x
  ·rw [if_pos hy,if_pos ⟨hy,h⟩]
  ·rw [if_neg hy,if_neg (fun h2=>hy h2.1)]
 ·rw [if_neg h,if_neg (fun h2=>h h2.2)]
theorem part_ne (ck e key val lv:Int) (k:Nat):((wordsA ck e key val lv).getD k (0,0)).1≠2:=by
 rw [List.getD_eq_getElem?_getD]
 rcases h:(wordsA ck e key val lv)[k]? with _ | ⟨a,b⟩
 ·simp
 ·have hm:(a,b)∈wordsA ck e key val lv:=List.mem_of_getElem? h;simp only [Option.getD_some];unfold wordsA at hm
  split at hm
  ·simp at hm
   rcases hm with ⟨rfl,rfl⟩ | ⟨rfl,rfl⟩ | ⟨rfl,rfl⟩ | ⟨rfl,rfl⟩<;>decide
  ·split at hm
   ·simp at hm
    rcases hm with ⟨rfl,rfl⟩ | ⟨rfl,rfl⟩ | ⟨rfl,rfl⟩ | ⟨rfl,rfl⟩ | ⟨rfl,rfl⟩<;>decide
   ·simp at hm
    rcases hm with ⟨rfl,rfl⟩ | ⟨rfl,rfl⟩ | ⟨rfl,rfl⟩<;>decide
section
variable {C:Cf} {ds:List Dd} {B:Nat} {T:Th} {f:Mem} {d:Dd}
theorem OkT.more (h:OkT C ds B T):OkT C ds (B+1) T :=
 { h with len:=by have:=h.len; omega,done:=by have:=h.done; constructor<;>omega }
theorem OkF.upd (h:OkF C f) {x:Plc} {v:Int} (h1:x≠(1,0,0)) (h2:x≠(2,0,0)) (h3:∀ i,x=(5,i,2)->slotI v<=C.s) (hu:∀ y,InU (Proofs.YtffncfmciockmaaGreatDoor.upd f x v y)):OkF C (Proofs.YtffncfmciockmaaGreatDoor.upd f x v):=by
 refine ⟨hu,?_,?_,?_⟩
 ·rw [upd_other f v (fun e=>h2 e.symm)]; exact h.pool
 ·intro i
  by_cases hx:(5,i,2)=x
  ·rw [<- hx,upd_same]; exact h3 i hx.symm
  ·rw [upd_other f v hx]; exact h.chain i
 ·rw [upd_other f v (fun e=>h1 e.symm)]; exact h.ep
theorem OkF.swp (h:OkF C f) {o v:Int} (hv:slotI v<=C.s) (hu:∀ y,InU (swf f (2,0,0) o v y)):OkF C (swf f (2,0,0) o v):=by
 refine ⟨hu,?_,?_,?_⟩
 ·rw [swf_at]; split
  ·exact hv
  ·exact h.pool
 ·intro i;rw [swf_at,if_neg (by simp)]; exact h.chain i
 ·rw [swf_at,if_neg (by simp)]; exact h.ep
theorem OkF.swe (h:OkF C f) {o v:Int} (hv:v<=C.l) (hu:∀ y,InU (swf f (1,0,0) o v y)):OkF C (swf f (1,0,0) o v):=by
 refine ⟨hu,?_,?_,?_⟩
 ·rw [swf_at,if_neg (by simp)]; exact h.pool
 ·intro i;rw [swf_at,if_neg (by simp)]; exact h.chain i
 ·rw [swf_at]; split
  ·exact hv
  ·exact h.ep
end
structure LaneOk (C:Cf) (lv:Int) (L:Lm):Prop where
 (ok:LmOk L)
 (wf:Wf L.p)
 (at9:AtOk lv L.p)
 (x:6<=L.pc->markB L.X=false)
 (c:3<=L.pc->1<=L.C)
 (sw:slotI L.W<=C.s)
 (sx:slotI L.X<=C.s)
 (cs:L.C<=C.s)
structure SpotOk (C:Cf) (lv:Int) (L:Lm):Prop where
 (W:InU L.W)
 (X:InU L.X)
 (wf:Wf L.p)
 (at9:AtOk lv L.p)
 (Cr:0<=L.C/\L.C<=8388607)
 (fd:L.fd=true->1<=L.C/\markB L.X=false)
 (sw:slotI L.W<=C.s)
 (sx:slotI L.X<=C.s)
 (cs:L.C<=C.s)
structure LnkF (C:Cf) (f:Mem):Prop where
 (root:∀ r,slotI (f (4,0,r))<=C.s)
 (link:∀ i l,0<=l->slotI (f (5,i,7+l))<=C.s)
theorem LnkF.at9 {C:Cf} {f:Mem} (h:LnkF C f) {p:Plc} {lv:Int} (h0:0<=lv) (hp:AtOk lv p):slotI (f p)<=C.s:=by
 rcases hp with rfl | ⟨c,-,-,rfl⟩
 ·exact h.root _
 ·exact h.link c lv h0
theorem slot_word_le {m:Bool} {s e S:Int} (h0:0<=S) (hs:s<=S):slotI (wordI m s e)<=S:=by
 have hz:slotI 0=0:=by decide
 by_cases h:isL s e=true
 ·rw [slot_word h];exact hs
 ·have hw:wordI m s e=0:=by unfold wordI; rw [if_neg h]
  rw [hw,hz];exact h0
section
variable {C:Cf} {lv key e:Int} {vs:Bool} {L:Lm} {f:Mem}
theorem LaneOk.start {p:Plc} (hp:AtOk lv p) (hlv:0<=lv/\lv<=1000000) (h0:0<=C.s):LaneOk C lv (L0 p):=by
 have hz:slotI 0=0:=by decide
 refine ⟨LmOk.start _,hp.wf (by omega),hp,fun h=>absurd h (by simp [L0]),fun h=>absurd h (by simp [L0]),?_,?_,?_⟩
 ·show slotI 0<=C.s; omega
 ·show slotI 0<=C.s; omega
 ·show (0:Int)<=C.s; omega
theorem LaneOk.come (h:LaneOk C lv L) {p:Plc} (hp:AtOk lv p) (hwf:Wf p) (h7:L.pc<=7) (h0:0<=C.s) {v:Int} (hv:InU v) (hvs:slotI v<=C.s) (hne:slotI v≠0):LaneOk C lv { L with p:=p,W:=v,X:=0,C:=slotI v,pc:=3 }:=by
 have hz:slotI 0=0:=by decide
 have hi:=slotI_in v;have hLp:LmOk { L with p:=p }:=⟨h.ok.pc,h.ok.v,h.ok.fd,h.ok.ft,h.ok.x,h.ok.c0,h.ok.W,h.ok.X,h.ok.C⟩;refine ⟨hLp.come h7 v hv,hwf,hp,fun h=>absurd h (by simp),fun _=>?_,hvs,?_,hvs⟩
 ·show 1<=slotI v; omega
 ·show slotI 0<=C.s; omega
theorem LaneOk.comeEnd (h:LaneOk C lv L) {p:Plc} (hp:AtOk lv p) (hwf:Wf p) (h7:L.pc<=7) (h0:0<=C.s) {v:Int} (hv:InU v) (hvs:slotI v<=C.s):SpotOk C lv { L with p:=p,W:=v,X:=0,C:=slotI v,pc:=3 }:=by
 have hz:slotI 0=0:=by decide
 refine ⟨hv,by show InU 0; simp [InU],hwf,hp,slotI_in v,fun hf=>?_,hvs,?_,hvs⟩
 ·have h9:L.fd=true:=hf;rw [h.ok.fd h7] at h9;exact absurd h9 (by decide)
 ·show slotI 0<=C.s; omega
theorem LaneOk.spot (h:LaneOk C lv L) (h6:6<=L.pc):SpotOk C lv L :=
 ⟨h.ok.W,h.ok.X,h.wf,h.at9,h.ok.C,fun _=>⟨h.c (by omega),h.x h6⟩,h.sw,h.sx,h.cs⟩
theorem cS_ne {v:Int} (h:cS v=0):slotI v≠0:=fun h0=>by rw [cS,if_pos h0] at h; exact absurd h (by decide)
theorem lane_keep (hlv:0<=lv/\lv<=1000000) (h:LaneOk C lv L) (hW:∀ x,InU (f x)) (hS:LnkF C f) (h0:0<=C.s):((laneM lv key vs e L f).1=0->LaneOk C lv (laneM lv key vs e L f).2.1)/\((laneM lv key vs e L f).1=1->SpotOk C lv (laneM lv key vs e L f).2.1):=by
 have hL:=h.ok;have HK:(laneM lv key vs e L f).1=0->LmOk (laneM lv key vs e L f).2.1:=fun h9=>(lane_ok hL hW h.wf hlv h9).1
 rcases hL.pc with hpc | hpc | hpc | hpc | hpc | hpc | hpc | hpc | hpc
 ·have hM:laneM lv key vs e L f=(0,{ L with W:=f L.p,pc:=2 },f):=by simp [laneM,hpc]
  rw [hM];refine ⟨fun h9=>⟨(by have h8:=HK (by rw [hM]); rw [hM] at h8; exact h8),h.wf,h.at9,fun h=>absurd h (by simp),fun h=>absurd h (by simp),hS.at9 hlv.1 h.at9,h.sx,h.cs⟩,fun h9=>absurd h9 (by simp)⟩
 ·by_cases hok:okB (f (1,0,0)) e=true
  ·by_cases hmk:markB L.W=true
   ·have hM:laneM lv key vs e L f=(2,L,f):=by simp [laneM,holdsM,hpc,hok,hmk]
    rw [hM];exact ⟨fun h=>absurd h (by simp),fun h=>absurd h (by simp)⟩
   ·have hM:laneM lv key vs e L f=(cS L.W,{ L with W:=L.W,X:=0,C:=slotI L.W,pc:=3 },f):=by simp [laneM,holdsM,hpc,hok,hmk,comeM_cS]
    rw [hM];exact ⟨fun h9=>h.come h.at9 h.wf (by omega) h0 hL.W h.sw (cS_ne h9),fun _=>h.comeEnd h.at9 h.wf (by omega) h0 hL.W h.sw⟩
  ·have hM:laneM lv key vs e L f=(2,L,f):=by simp [laneM,hpc,hok]
   rw [hM];exact ⟨fun h=>absurd h (by simp),fun h=>absurd h (by simp)⟩
 ·have hM:laneM lv key vs e L f=(0,{ L with X:=f (5,L.C,7+lv),pc:=4 },f):=by simp [laneM,hpc]
  rw [hM];refine ⟨fun h9=>⟨(by have h8:=HK (by rw [hM]); rw [hM] at h8; exact h8),h.wf,h.at9,fun h=>absurd h (by simp),fun _=>h.c (by omega),h.sw,hS.link _ _ hlv.1,h.cs⟩,fun h9=>absurd h9 (by simp)⟩
 ·by_cases hok:okB (f (1,0,0)) e=true
  ·have hM:laneM lv key vs e L f=(0,{ L with pc:=if markB L.X then 5 else 6 },f):=by simp [laneM,holdsM,hpc,hok]
   rw [hM];refine ⟨fun h9=>⟨(by have h8:=HK (by rw [hM]); rw [hM] at h8; exact h8),h.wf,h.at9,fun h6=>?_,fun _=>h.c (by omega),h.sw,h.sx,h.cs⟩,fun h9=>absurd h9 (by simp)⟩;dsimp only at h6 ⊢;cases hm:markB L.X
   ·rfl
   ·rw [hm] at h6; exact absurd h6 (by decide)
  ·have hM:laneM lv key vs e L f=(2,L,f):=by simp [laneM,hpc,hok]
   rw [hM];exact ⟨fun h=>absurd h (by simp),fun h=>absurd h (by simp)⟩
 ·by_cases heq:f L.p=L.W
  ·have hM:laneM lv key vs e L f=(cS (wordI false (slotI L.X) e),{ L with W:=wordI false (slotI L.X) e,X:=0,C:=slotI (wordI false (slotI L.X) e),pc:=3 },swf f L.p L.W (wordI false (slotI L.X) e)):=by simp [laneM,hpc,heq,comeM_cS]
   rw [hM];have hle:=slot_word_le (m:=false) (e:=e) h0 h.sx;exact ⟨fun h9=>h.come h.at9 h.wf (by omega) h0 (wordI_in _ _ _) hle (cS_ne h9),fun _=>h.comeEnd h.at9 h.wf (by omega) h0 (wordI_in _ _ _) hle⟩
  ·have hM:laneM lv key vs e L f=(2,L,swf f L.p L.W (wordI false (slotI L.X) e)):=by simp [laneM,hpc,heq]
   rw [hM];exact ⟨fun h=>absurd h (by simp),fun h=>absurd h (by simp)⟩
 ·have hM:laneM lv key vs e L f=(0,{ L with K:=f (5,L.C,3),pc:=7 },f):=by simp [laneM,hpc]
  rw [hM];refine ⟨fun h9=>⟨(by have h8:=HK (by rw [hM]); rw [hM] at h8; exact h8),h.wf,h.at9,fun _=>h.x (by omega),fun _=>h.c (by omega),h.sw,h.sx,h.cs⟩,fun h9=>absurd h9 (by simp)⟩
 ·by_cases hok:okB (f (1,0,0)) e=true
  ·by_cases hlt:L.K < key
   ·have hM:laneM lv key vs e L f=(cS L.X,{ L with p:=(5,L.C,7+lv),W:=L.X,X:=0,C:=slotI L.X,pc:=3 },f):=by simp [laneM,holdsM,hpc,hok,hlt,comeM_cS]
    rw [hM];have hwf:Wf (5,L.C,7+lv):=wf_part hL.C (by omega);exact ⟨fun h9=>h.come (.inr ⟨_,hL.C.1,hL.C.2,rfl⟩) hwf (by omega) h0 hL.X h.sx (cS_ne h9),fun _=>h.comeEnd (.inr ⟨_,hL.C.1,hL.C.2,rfl⟩) hwf (by omega) h0 hL.X h.sx⟩
   ·by_cases heq:L.K=key
    ·cases vs;rotate_left
     ·have hM:laneM lv key true e L f=(0,{ L with fd:=true,pc:=8 },f):=by simp [laneM,holdsM,hpc,hok,heq]
      rw [hM];exact ⟨fun h9=>⟨(by have h8:=HK (by rw [hM]); rw [hM] at h8; exact h8),h.wf,h.at9,fun _=>h.x (by omega),fun _=>h.c (by omega),h.sw,h.sx,h.cs⟩,fun h9=>absurd h9 (by simp)⟩
     have hM:laneM lv key false e L f=(1,{ L with fd:=true },f):=by simp [laneM,holdsM,hpc,hok,heq]
     rw [hM];have hsp:=h.spot (by omega);exact ⟨fun h=>absurd h (by simp),fun _=>⟨hsp.W,hsp.X,hsp.wf,hsp.at9,hsp.Cr,fun _=>⟨h.c (by omega),h.x (by omega)⟩,hsp.sw,hsp.sx,hsp.cs⟩⟩
    ·have hM:laneM lv key vs e L f=(1,L,f):=by simp [laneM,holdsM,hpc,hok,hlt,heq]
     rw [hM];exact ⟨fun h=>absurd h (by simp),fun _=>h.spot (by omega)⟩
  ·have hM:laneM lv key vs e L f=(2,L,f):=by simp [laneM,hpc,hok]
   rw [hM];exact ⟨fun h=>absurd h (by simp),fun h=>absurd h (by simp)⟩
 ·have hM:laneM lv key vs e L f=(0,{ L with V:=f (5,L.C,4),pc:=9 },f):=by simp [laneM,hpc]
  rw [hM];refine ⟨fun h9=>⟨(by have h8:=HK (by rw [hM]); rw [hM] at h8; exact h8),h.wf,h.at9,fun _=>h.x (by omega),fun _=>h.c (by omega),h.sw,h.sx,h.cs⟩,fun h9=>absurd h9 (by simp)⟩
 ·by_cases hok:okB (f (1,0,0)) e=true
  ·have hM:laneM lv key vs e L f=(1,L,f):=by simp [laneM,holdsM,hpc,hok]
   rw [hM];exact ⟨fun h=>absurd h (by simp),fun _=>h.spot (by omega)⟩
  ·have hM:laneM lv key vs e L f=(2,L,f):=by simp [laneM,hpc,hok]
   rw [hM];exact ⟨fun h=>absurd h (by simp),fun h=>absurd h (by simp)⟩
end
def FnOk (C:Cf) (h:Nat) (on:Bool) (fl:Nat) (L:Nat->Lm):Prop:=on=true->fl < h/\LaneOk C fl (L fl)/\∀ l,fl < l->l < h->SpotOk C l (L l)
section
variable {C:Cf} {h:Nat} {key e r:Int} {on:Bool} {fl:Nat} {L:Nat->Lm} {f:Mem}
theorem FnOk.fm (hF:FnOk C h on fl L):FmOk h ⟨on,fl,L,e,r⟩:=fun ho=>⟨(hF ho).1,(hF ho).2.1.ok,(hF ho).2.1.at9⟩
theorem down_keep (hh:1<=h) (hh2:h<=1000) (hF:FnOk C h on fl L) (hW:∀ x,InU (f x)) (hS:LnkF C f) (h0:0<=C.s) :
  ((downM h key ⟨on,fl,L,e,r⟩ f).1=0->FnOk C h (downM h key ⟨on,fl,L,e,r⟩ f).2.1.on (downM h key ⟨on,fl,L,e,r⟩ f).2.1.lv (downM h key ⟨on,fl,L,e,r⟩ f).2.1.L)/\((downM h key ⟨on,fl,L,e,r⟩ f).1=1->∀ l,l < h->SpotOk C l ((downM h key ⟨on,fl,L,e,r⟩ f).2.1.L l)):=by
 cases on
 ·have hM:downM h key ⟨false,fl,L,e,r⟩ f=(0,⟨true,h - 1,setN L (h - 1) (L0 (4,0,((h - 1:Nat):Int))),epI (f (1,0,0)),r⟩,f):=by unfold downM; rw [if_neg (by simp)]
  rw [hM];refine ⟨fun _ _=>⟨by show h - 1 < h; omega,?_,fun l h1 h2=>absurd h1 (by show ¬ h - 1 < l; omega)⟩,fun h9=>absurd h9 (by simp)⟩;show LaneOk C ((h - 1:Nat):Int) (setN (α:=Lm) _ _ _ (h - 1));rw [setN_same];exact LaneOk.start (.inl rfl) (by omega) h0
 ·obtain ⟨hlt,hL,hD⟩:=hF rfl;have hk:=lane_keep (key:=key) (vs:=false) (e:=e) (by omega) hL hW hS h0;have hat:AtOk fl (laneM fl key false e (L fl) f).2.1.p:=hL.at9.lane hL.ok.C;have hst:=lane_state fl key false e (L fl) f;have hM:downM h key ⟨true,fl,L,e,r⟩ f=(if (laneM fl key false e (L fl) f).1=1/\fl=0 then 1 else 0,
   (if (laneM fl key false e (L fl) f).1=2 then ⟨false,fl,L,e,rollM e (L fl) f r⟩
    else if (laneM fl key false e (L fl) f).1=1/\fl≠0 then
     ⟨true,fl - 1,setN (setN L fl (laneM fl key false e (L fl) f).2.1) (fl - 1) (L0 (belowP (laneM fl key false e (L fl) f).2.1.p)),e,rollM e (L fl) f r⟩
    else ⟨true,fl,setN L fl (laneM fl key false e (L fl) f).2.1,e,rollM e (L fl) f r⟩),
   (laneM fl key false e (L fl) f).2.2):=by unfold downM; rw [if_pos rfl]
  rw [hM];dsimp only;generalize laneM fl key false e (L fl) f=q at *;obtain ⟨q1,L',f'⟩:=q;dsimp only at hk hat hst ⊢
  rcases hst with h1 | h1 | h1
  ·subst h1;rw [if_neg (by simp),if_neg (by decide),if_neg (by simp)];refine ⟨fun _ _=>⟨hlt,?_,fun l h2 h3=>?_⟩,fun h9=>absurd h9 (by decide)⟩
   ·show LaneOk C _ (setN (α:=Lm) _ _ _ fl);rw [setN_same];exact hk.1 rfl
   ·have h4:fl < l:=h2;show SpotOk C _ (setN (α:=Lm) _ _ _ l);rw [setN_other _ _ (by omega)];exact hD l h4 h3
  ·subst h1;have hs:=hk.2 rfl
   by_cases hz:fl=0
   ·rw [if_pos ⟨rfl,hz⟩,if_neg (by decide),if_neg (by simp [hz])];refine ⟨fun h9=>absurd h9 (by decide),fun _ l h3=>?_⟩;show SpotOk C _ (setN (α:=Lm) _ _ _ l)
    by_cases h2:l=fl
    ·subst h2;rw [setN_same];exact hs
    ·rw [setN_other _ _ h2];exact hD l (by omega) h3
   ·rw [if_neg (by simp [hz]),if_neg (by decide),if_pos ⟨rfl,hz⟩];have e1:((fl - 1:Nat):Int)=(fl:Int) - 1:=by omega
    refine ⟨fun _ _=>⟨by show fl - 1 < h; omega,?_,fun l h2 h3=>?_⟩,fun h9=>absurd h9 (by decide)⟩
    ·show LaneOk C ((fl - 1:Nat):Int) (setN (α:=Lm) _ _ _ (fl - 1));rw [setN_same];refine LaneOk.start ?_ (by omega) h0;show AtOk ((fl - 1:Nat):Int) _;rw [e1];exact hat.below
    ·have h4:fl - 1 < l:=h2;show SpotOk C _ (setN (α:=Lm) _ _ _ l);rw [setN_other _ _ (by omega)]
     by_cases h5:l=fl
     ·subst h5;rw [setN_same];exact hs
     ·rw [setN_other _ _ h5];exact hD l (by omega) h3
  ·subst h1;rw [if_neg (by simp),if_pos rfl];exact ⟨fun _ h9=>absurd h9 (by simp),fun h9=>absurd h9 (by decide)⟩
end
theorem decP_adv {ql:List Trip} {e l:Int} (h:decP ql e l=1):e < l:=by
 rcases ql with _ | ⟨⟨x,y,z⟩,t⟩
 ·exact no h rfl
 ·simp only [decP] at h
  split at h
  ·exact absurd h (by decide)
  ·split at h
   ·exact absurd h (by decide)
   ·omega
theorem decP_born {ql:List Trip} {e l:Int} (h:decP ql e l=10):ql≠[]:=by
 rintro rfl;exact no h rfl
theorem lastS_in (k n:Nat):lastS k n=0\/lastS k n=1:=by
 unfold lastS
 split
 ·exact .inr rfl
 ·exact .inl rfl
theorem decS_in {ql:List Trip} {e l:Int}:(decP ql e l=0/\decS ql e l=4)\/(decP ql e l≠0/\decS ql e l=0):=by
 unfold decS
 by_cases h:decP ql e l=0
 ·exact .inl ⟨h,if_pos h⟩
 ·exact .inr ⟨h,if_neg h⟩
theorem ql_add {C:Cf} {l:List Trip} {x y:Int} (h:∀ z∈l,1<=z.1/\z.1<=C.s/\z.2.2=0) (h1:1<=x) (h2:x<=C.s):∀ z∈l++[(x,y,0)],1<=z.1/\z.1<=C.s/\z.2.2=0:=by
 intro z hz
 rcases List.mem_append.1 hz with hz | hz
 ·exact h z hz
 ·simp at hz;subst hz;exact ⟨h1,h2,rfl⟩
section
variable {C:Cf} {ds:List Dd} {B:Nat} {T:Th} {f:Mem} {d:Dd}
theorem al_cases (C:Cf) (d:Dd) (T:Th) (f:Mem) (hp:T.pc=2):actM C d T f=({ (allocM C d T f).2.1 with pc:=if (allocM C d T f).1=2 then 1 else if (allocM C d T f).1=0 then 2 else 0,done:=if (allocM C d T f).1=1 then T.done+1 else T.done,full:=(allocM C d T f).1==3 },(allocM C d T f).2.2):=by
 unfold actM;rw [if_neg (by omega),if_pos hp]
theorem act2_ok (hC:COk C) (hF:OkF C f) (hT:OkT C ds B T) (h2:T.pc=2) (hu:∀ x,InU ((actM C d T f).2 x)):OkF C (actM C d T f).2/\OkT C ds (B+1) (actM C d T f).1:=by
 have hp:T.pc≠0:=by omega
 have hm:=hT.more;have hs:=hC.s;have hfu:=hF.u;have hdone:=hT.done;rw [al_cases C d T f h2] at hu ⊢
 rcases hT.apc h2 with ha | ha | ha | ha | ha | ha | ha
 ·have hlow:=hT.low h2 (by omega);have hal:allocM C d T f=(2,T,swf f (1,0,0) T.e (T.e+1)):=by unfold allocM; rw [if_pos ha]
  rw [hal] at hu ⊢;exact ⟨hF.swe (by have:=hT.adv h2 ha; omega) hu,{ hm with pc:=.inr (.inl rfl),p1:=fun _=>hlow,nd1:=fun _=>hT.nd1 hp,apc:=fun h=>no h rfl,low:=fun h=>no h rfl,adv:=fun h=>no h rfl,born:=fun h=>no h rfl,pool:=fun h=>no h rfl,rpc:=fun h=>no h rfl,rsp:=fun h=>no h rfl,give:=fun h=>no h rfl,gv:=fun h=>no h rfl }⟩
 ·have hlow:=hT.low h2 (by omega)
  by_cases hx:C.s<=f (3,0,0)
  ·have hal:allocM C d T f=(0,{ T with apc:=3 },upd f (3,0,0) (IntKind.u64.wrap (f (3,0,0)+1))):=by unfold allocM; rw [if_neg (by omega),if_pos ha,if_pos hx]
   rw [hal] at hu ⊢;exact ⟨hF.upd (by simp) (by simp) (fun i h=>by simp at h) hu,{ hm with pc:=.inr (.inr (.inl rfl)),nd1:=fun _=>hT.nd1 hp,p1:=fun h=>no h rfl,rpc:=fun h=>no h rfl,rsp:=fun h=>no h rfl,give:=fun h=>no h rfl,gv:=fun h=>no h rfl,apc:=fun _=>.inr (.inr (.inl rfl)),low:=fun _ _=>hlow,adv:=fun _ h=>no h rfl,born:=fun _ h=>no h rfl,pool:=fun _ ha hb=>(by have ha':4<=(3:Nat):=ha; have hb':(3:Nat)<=6:=hb; omega) }⟩
  ·have hal:allocM C d T f=(decS (T.ql++[(f (3,0,0)+1,0,0)]) T.e C.l,{ T with ql:=T.ql++[(f (3,0,0)+1,0,0)],apc:=decP (T.ql++[(f (3,0,0)+1,0,0)]) T.e C.l },upd f (3,0,0) (IntKind.u64.wrap (f (3,0,0)+1))):=by unfold allocM; rw [if_neg (by omega),if_pos ha,if_neg hx]
   rw [hal] at hu ⊢;have hf3:0<=f (3,0,0):=(hfu _).1;refine ⟨hF.upd (by simp) (by simp) (fun i h=>by simp at h) hu,?_⟩;clear hu hal;have hq:=ql_add (y:=0) hT.ql (show 1<=f (3,0,0)+1 by omega) (by omega)
   rcases decS_in (ql:=T.ql++[(f (3,0,0)+1,0,0)]) (e:=T.e) (l:=C.l) with ⟨hD,hS⟩ | ⟨hD,hS⟩
   ·rw [hS];exact { hm with ql:=hq,len:=(by have:=hT.len; simp; omega),pc:=.inl rfl,nd1:=fun _=>hT.nd1 hp,p1:=fun h=>no h rfl,apc:=fun h=>no h rfl,low:=fun h=>no h rfl,adv:=fun h=>no h rfl,born:=fun h=>no h rfl,pool:=fun h=>no h rfl,rpc:=fun h=>no h rfl,rsp:=fun h=>no h rfl,give:=fun h=>no h rfl,gv:=fun h=>no h rfl }
   ·rw [hS];refine { hm with ql:=hq,len:=(by have:=hT.len; simp; omega),pc:=.inr (.inr (.inl rfl)),nd1:=fun _=>hT.nd1 hp,p1:=fun h=>no h rfl,rpc:=fun h=>no h rfl,rsp:=fun h=>no h rfl,give:=fun h=>no h rfl,gv:=fun h=>no h rfl,apc:=fun _=>?_,low:=fun _ _=>hlow,adv:=fun _ h=>decP_adv h,born:=fun _ h=>decP_born h,pool:=fun _ ha hb=>?_ }
    ·show decP (T.ql++[(f (3,0,0)+1,0,0)]) T.e C.l=1\/decP (T.ql++[(f (3,0,0)+1,0,0)]) T.e C.l=2\/decP (T.ql++[(f (3,0,0)+1,0,0)]) T.e C.l=3\/decP (T.ql++[(f (3,0,0)+1,0,0)]) T.e C.l=4\/decP (T.ql++[(f (3,0,0)+1,0,0)]) T.e C.l=5\/decP (T.ql++[(f (3,0,0)+1,0,0)]) T.e C.l=6\/10<=decP (T.ql++[(f (3,0,0)+1,0,0)]) T.e C.l
     rcases decP_in (T.ql++[(f (3,0,0)+1,0,0)]) T.e C.l with h | h | h | h<;>omega
    ·have ha':4<=decP (T.ql++[(f (3,0,0)+1,0,0)]) T.e C.l:=ha;have hb':decP (T.ql++[(f (3,0,0)+1,0,0)]) T.e C.l<=6:=hb
     rcases decP_in (T.ql++[(f (3,0,0)+1,0,0)]) T.e C.l with h | h | h | h<;>omega
 ·have hlow:=hT.low h2 (by omega);have hal:allocM C d T f=(poolS (f (2,0,0)) C.l,{ T with ah:=f (2,0,0),apc:=4 },f):=by unfold allocM; rw [if_neg (by omega),if_neg (by omega),if_pos ha]
  rw [hal] at hu ⊢;refine ⟨hF,?_⟩;have hw:InU (f (2,0,0))/\InU T.an/\InU T.ar:=⟨hfu _,hT.w.2⟩
  by_cases q1:slotI (f (2,0,0))=0
  ·rw [show poolS (f (2,0,0)) C.l=3 from if_pos q1];exact { hm with w:=hw,pc:=.inl rfl,nd1:=fun _=>hT.nd1 hp,p1:=fun h=>no h rfl,apc:=fun h=>no h rfl,low:=fun h=>no h rfl,adv:=fun h=>no h rfl,born:=fun h=>no h rfl,pool:=fun h=>no h rfl,rpc:=fun h=>no h rfl,rsp:=fun h=>no h rfl,give:=fun h=>no h rfl,gv:=fun h=>no h rfl }
  ·by_cases q2:C.l<=verI (f (2,0,0))
   ·rw [show poolS (f (2,0,0)) C.l=4 from (if_neg q1).trans (if_pos q2)];exact { hm with w:=hw,pc:=.inl rfl,nd1:=fun _=>hT.nd1 hp,p1:=fun h=>no h rfl,apc:=fun h=>no h rfl,low:=fun h=>no h rfl,adv:=fun h=>no h rfl,born:=fun h=>no h rfl,pool:=fun h=>no h rfl,rpc:=fun h=>no h rfl,rsp:=fun h=>no h rfl,give:=fun h=>no h rfl,gv:=fun h=>no h rfl }
   ·rw [show poolS (f (2,0,0)) C.l=0 from (if_neg q1).trans (if_neg q2)];exact { hm with w:=hw,pc:=.inr (.inr (.inl rfl)),nd1:=fun _=>hT.nd1 hp,p1:=fun h=>no h rfl,rpc:=fun h=>no h rfl,rsp:=fun h=>no h rfl,give:=fun h=>no h rfl,gv:=fun h=>no h rfl,apc:=fun _=>.inr (.inr (.inr (.inl rfl))),low:=fun _ _=>hlow,adv:=fun _ h=>no h rfl,born:=fun _ h=>no h rfl,pool:=fun _ _ _=>⟨(by have:=slotI_in (f (2,0,0)); show 1<=slotI (f (2,0,0)); omega),hF.pool,(by show verI (f (2,0,0)) < C.l; omega)⟩ }
 ·have hlow:=hT.low h2 (by omega);have hal:allocM C d T f=(0,{ T with an:=f (5,slotI T.ah,2),apc:=5 },f):=by unfold allocM; rw [if_neg (by omega),if_neg (by omega),if_neg (by omega),if_pos ha]
  rw [hal] at hu ⊢;exact ⟨hF,{ hm with w:=⟨hT.w.1,hfu _,hT.w.2.2⟩,an:=hF.chain _,pc:=.inr (.inr (.inl rfl)),nd1:=fun _=>hT.nd1 hp,p1:=fun h=>no h rfl,rpc:=fun h=>no h rfl,rsp:=fun h=>no h rfl,give:=fun h=>no h rfl,gv:=fun h=>no h rfl,apc:=fun _=>.inr (.inr (.inr (.inr (.inl rfl)))),low:=fun _ _=>hlow,adv:=fun _ h=>no h rfl,born:=fun _ h=>no h rfl,pool:=fun _ _ _=>hT.pool h2 (by omega) (by omega) }⟩
 ·have hlow:=hT.low h2 (by omega);have hal:allocM C d T f=(0,{ T with ar:=f (5,slotI T.ah,1),apc:=6 },f):=by unfold allocM; rw [if_neg (by omega),if_neg (by omega),if_neg (by omega),if_neg (by omega),if_pos ha]
  rw [hal] at hu ⊢;exact ⟨hF,{ hm with w:=⟨hT.w.1,hT.w.2.1,hfu _⟩,pc:=.inr (.inr (.inl rfl)),nd1:=fun _=>hT.nd1 hp,p1:=fun h=>no h rfl,rpc:=fun h=>no h rfl,rsp:=fun h=>no h rfl,give:=fun h=>no h rfl,gv:=fun h=>no h rfl,apc:=fun _=>.inr (.inr (.inr (.inr (.inr (.inl rfl))))),low:=fun _ _=>hlow,adv:=fun _ h=>no h rfl,born:=fun _ h=>no h rfl,pool:=fun _ _ _=>hT.pool h2 (by omega) (by omega) }⟩
 ·have hlow:=hT.low h2 (by omega);have hpl:=hT.pool h2 (by omega) (by omega)
  by_cases hx:f (2,0,0)=T.ah
  ·have hal:allocM C d T f=(decS (T.ql++[(slotI T.ah,epI T.ar,0)]) T.e C.l,{ T with ql:=T.ql++[(slotI T.ah,epI T.ar,0)],apc:=decP (T.ql++[(slotI T.ah,epI T.ar,0)]) T.e C.l },swf f (2,0,0) T.ah (nextW T.ah (slotI T.an))):=by unfold allocM; rw [if_neg (by omega),if_neg (by omega),if_neg (by omega),if_neg (by omega),if_neg (by omega),if_pos ha,if_pos hx]
   rw [hal] at hu ⊢;refine ⟨hF.swp (slot_next (by omega) hT.an) hu,?_⟩;clear hu hal;have hq:=ql_add (y:=epI T.ar) hT.ql hpl.1 hpl.2.1
   rcases decS_in (ql:=T.ql++[(slotI T.ah,epI T.ar,0)]) (e:=T.e) (l:=C.l) with ⟨hD,hS⟩ | ⟨hD,hS⟩
   ·rw [hS];exact { hm with ql:=hq,len:=(by have:=hT.len; simp; omega),pc:=.inl rfl,nd1:=fun _=>hT.nd1 hp,p1:=fun h=>no h rfl,apc:=fun h=>no h rfl,low:=fun h=>no h rfl,adv:=fun h=>no h rfl,born:=fun h=>no h rfl,pool:=fun h=>no h rfl,rpc:=fun h=>no h rfl,rsp:=fun h=>no h rfl,give:=fun h=>no h rfl,gv:=fun h=>no h rfl }
   ·rw [hS];refine { hm with ql:=hq,len:=(by have:=hT.len; simp; omega),pc:=.inr (.inr (.inl rfl)),nd1:=fun _=>hT.nd1 hp,p1:=fun h=>no h rfl,rpc:=fun h=>no h rfl,rsp:=fun h=>no h rfl,give:=fun h=>no h rfl,gv:=fun h=>no h rfl,apc:=fun _=>?_,low:=fun _ _=>hlow,adv:=fun _ h=>decP_adv h,born:=fun _ h=>decP_born h,pool:=fun _ ha hb=>?_ }
    ·show decP (T.ql++[(slotI T.ah,epI T.ar,0)]) T.e C.l=1\/decP (T.ql++[(slotI T.ah,epI T.ar,0)]) T.e C.l=2\/decP (T.ql++[(slotI T.ah,epI T.ar,0)]) T.e C.l=3\/decP (T.ql++[(slotI T.ah,epI T.ar,0)]) T.e C.l=4\/decP (T.ql++[(slotI T.ah,epI T.ar,0)]) T.e C.l=5\/decP (T.ql++[(slotI T.ah,epI T.ar,0)]) T.e C.l=6\/10<=decP (T.ql++[(slotI T.ah,epI T.ar,0)]) T.e C.l
     rcases decP_in (T.ql++[(slotI T.ah,epI T.ar,0)]) T.e C.l with h | h | h | h<;>omega
    ·have ha':4<=decP (T.ql++[(slotI T.ah,epI T.ar,0)]) T.e C.l:=ha;have hb':decP (T.ql++[(slotI T.ah,epI T.ar,0)]) T.e C.l<=6:=hb
     rcases decP_in (T.ql++[(slotI T.ah,epI T.ar,0)]) T.e C.l with h | h | h | h<;>omega
  ·have hal:allocM C d T f=(0,{ T with apc:=3 },swf f (2,0,0) T.ah (nextW T.ah (slotI T.an))):=by unfold allocM; rw [if_neg (by omega),if_neg (by omega),if_neg (by omega),if_neg (by omega),if_neg (by omega),if_pos ha,if_neg hx]
   rw [hal] at hu ⊢;exact ⟨hF.swp (slot_next (by omega) hT.an) hu,{ hm with pc:=.inr (.inr (.inl rfl)),nd1:=fun _=>hT.nd1 hp,p1:=fun h=>no h rfl,rpc:=fun h=>no h rfl,rsp:=fun h=>no h rfl,give:=fun h=>no h rfl,gv:=fun h=>no h rfl,apc:=fun _=>.inr (.inr (.inl rfl)),low:=fun _ _=>hlow,adv:=fun _ h=>no h rfl,born:=fun _ h=>no h rfl,pool:=fun _ ha hb=>(by have ha':4<=(3:Nat):=ha; have hb':(3:Nat)<=6:=hb; omega) }⟩
 ·by_cases h10:T.apc=10
  ·have hal:allocM C d T f=(lastS 0 (wordsA C.k T.e d.key d.val (IntKind.u64.wrap d.lv)).length,{ T with ql:=T.ql.tail,hs:=(T.ql.headD t0).1,apc:=11 },upd f (5,(T.ql.headD t0).1,((wordsA C.k T.e d.key d.val (IntKind.u64.wrap d.lv)).getD (T.apc - 10) (0,0)).1) ((wordsA C.k T.e d.key d.val (IntKind.u64.wrap d.lv)).getD (T.apc - 10) (0,0)).2):=by unfold allocM; rw [if_neg (by omega),if_neg (by omega),if_neg (by omega),if_neg (by omega),if_neg (by omega),if_neg (by omega)]; dsimp only; rw [if_pos h10]
   rw [hal] at hu ⊢;obtain ⟨x,t,hxt⟩:∃ x t,T.ql=x::t:=by
    rcases hq:T.ql with _ | ⟨x,t⟩
    ·exact absurd hq (hT.born h2 h10)
    ·exact ⟨x,t,rfl⟩
   have hpn:=part_ne C.k T.e d.key d.val (IntKind.u64.wrap d.lv) (T.apc - 10);refine ⟨hF.upd (by simp) (by simp) (fun i h=>by simp at h; exact absurd h.2 hpn) hu,?_⟩;have hxx:=hT.ql x (by rw [hxt]; simp);have hqt:∀ z∈T.ql.tail,1<=z.1/\z.1<=C.s/\z.2.2=0:=fun z hz=>hT.ql z (List.mem_of_mem_tail hz);have hhs:0<=(T.ql.headD t0).1/\(T.ql.headD t0).1<=C.s:=by rw [hxt]; exact ⟨by show 0<=x.1; omega,hxx.2.1⟩
   have hln:T.ql.tail.length+(ds.length - T.nd)<=B+1:=by have:=hT.len; simp; omega
   rcases lastS_in 0 (wordsA C.k T.e d.key d.val (IntKind.u64.wrap d.lv)).length with h | h<;>rw [h]
   ·exact { hm with hs:=hhs,ql:=hqt,len:=hln,pc:=.inr (.inr (.inl rfl)),nd1:=fun _=>hT.nd1 hp,p1:=fun h=>no h rfl,rpc:=fun h=>no h rfl,rsp:=fun h=>no h rfl,give:=fun h=>no h rfl,gv:=fun h=>no h rfl,apc:=fun _=>.inr (.inr (.inr (.inr (.inr (.inr (by show (10:Nat)<=11; decide)))))),low:=fun _ h=>absurd h (by show ¬ (11:Nat)<=10; decide),adv:=fun _ h=>no h rfl,born:=fun _ h=>no h rfl,pool:=fun _ ha hb=>(by have ha':4<=(11:Nat):=ha; have hb':(11:Nat)<=6:=hb; omega) }
   ·exact { hm with hs:=hhs,ql:=hqt,len:=hln,done:=(by show 0<=T.done+1/\T.done+1<=((B+1:Nat):Int); omega),pc:=.inl rfl,nd1:=fun _=>hT.nd1 hp,p1:=fun h=>no h rfl,apc:=fun h=>no h rfl,low:=fun h=>no h rfl,adv:=fun h=>no h rfl,born:=fun h=>no h rfl,pool:=fun h=>no h rfl,rpc:=fun h=>no h rfl,rsp:=fun h=>no h rfl,give:=fun h=>no h rfl,gv:=fun h=>no h rfl }
  ·have hal:allocM C d T f=(lastS (T.apc - 10) (wordsA C.k T.e d.key d.val (IntKind.u64.wrap d.lv)).length,{ T with apc:=T.apc+1 },upd f (5,T.hs,((wordsA C.k T.e d.key d.val (IntKind.u64.wrap d.lv)).getD (T.apc - 10) (0,0)).1) ((wordsA C.k T.e d.key d.val (IntKind.u64.wrap d.lv)).getD (T.apc - 10) (0,0)).2):=by unfold allocM; rw [if_neg (by omega),if_neg (by omega),if_neg (by omega),if_neg (by omega),if_neg (by omega),if_neg (by omega)]; dsimp only; rw [if_neg h10]
   rw [hal] at hu ⊢;have hpn:=part_ne C.k T.e d.key d.val (IntKind.u64.wrap d.lv) (T.apc - 10);refine ⟨hF.upd (by simp) (by simp) (fun i h=>by simp at h; exact absurd h.2 hpn) hu,?_⟩
   rcases lastS_in (T.apc - 10) (wordsA C.k T.e d.key d.val (IntKind.u64.wrap d.lv)).length with h | h<;>rw [h]
   ·exact { hm with pc:=.inr (.inr (.inl rfl)),nd1:=fun _=>hT.nd1 hp,p1:=fun h=>no h rfl,rpc:=fun h=>no h rfl,rsp:=fun h=>no h rfl,give:=fun h=>no h rfl,gv:=fun h=>no h rfl,apc:=fun _=>.inr (.inr (.inr (.inr (.inr (.inr (by show 10<=T.apc+1; omega)))))),low:=fun _ h=>(by have h':T.apc+1<=10:=h; omega),adv:=fun _ h=>(by have h':T.apc+1=1:=h; omega),born:=fun _ h=>(by have h':T.apc+1=10:=h; omega),pool:=fun _ ha hb=>(by have ha':4<=(T.apc+1:Nat):=ha; have hb':(T.apc+1:Nat)<=6:=hb; omega) }
   ·exact { hm with done:=(by show 0<=T.done+1/\T.done+1<=((B+1:Nat):Int); omega),pc:=.inl rfl,nd1:=fun _=>hT.nd1 hp,p1:=fun h=>no h rfl,apc:=fun h=>no h rfl,low:=fun h=>no h rfl,adv:=fun h=>no h rfl,born:=fun h=>no h rfl,pool:=fun h=>no h rfl,rpc:=fun h=>no h rfl,rsp:=fun h=>no h rfl,give:=fun h=>no h rfl,gv:=fun h=>no h rfl }
theorem act3_ok (hC:COk C) (hF:OkF C f) (hT:OkT C ds B T) (h3:T.pc=3) (hu:∀ x,InU ((actM C d T f).2 x)):OkF C (actM C d T f).2/\OkT C ds (B+1) (actM C d T f).1:=by
 have hp:T.pc≠0:=by omega
 have hm:=hT.more;have hs:=hC.s;have hact:actM C d T f=({ (retireM T f).2.1 with pc:=if (retireM T f).1=0 then 3 else 0,full:=false },(retireM T f).2.2):=by
  unfold actM;rw [if_neg (by omega),if_neg (by omega),if_pos h3]
 rw [hact] at hu ⊢
 rcases hT.rpc h3 with hr | hr
 ·have hal:retireM T f=(0,{ T with re:=f (1,0,0),rpc:=1 },f):=by unfold retireM; rw [if_pos hr]
  rw [hal] at hu ⊢;exact ⟨hF,{ hm with re:=⟨(hF.u _).1,hF.ep⟩,pc:=.inr (.inr (.inr (.inl rfl))),nd1:=fun _=>hT.nd1 hp,p1:=fun h=>no h rfl,apc:=fun h=>no h rfl,low:=fun h=>no h rfl,adv:=fun h=>no h rfl,born:=fun h=>no h rfl,pool:=fun h=>no h rfl,give:=fun h=>no h rfl,gv:=fun h=>no h rfl,rpc:=fun _=>.inr rfl,rsp:=fun _=>hT.rsp h3 }⟩
 ·have hal:retireM T f=(1,{ T with ql:=T.ql++[(T.rs,epI T.re,0)] },upd f (5,T.rs,1) T.re):=by unfold retireM; rw [if_neg (by omega)]
  rw [hal] at hu ⊢;exact ⟨hF.upd (by simp) (by simp) (fun i h=>by simp at h) hu,{ hm with ql:=ql_add hT.ql (hT.rsp h3) hT.rs.2,len:=(by have:=hT.len; simp; omega),pc:=.inl rfl,nd1:=fun _=>hT.nd1 hp,p1:=fun h=>no h rfl,apc:=fun h=>no h rfl,low:=fun h=>no h rfl,adv:=fun h=>no h rfl,born:=fun h=>no h rfl,pool:=fun h=>no h rfl,rpc:=fun h=>no h rfl,rsp:=fun h=>no h rfl,give:=fun h=>no h rfl,gv:=fun h=>no h rfl }⟩
end
end
section
open Go.RowKit Go.Maps Go.Shelf Go.Sort
attribute [local go_sem] Oper.semAt_some
end
section
open Go.RowKit Go.Maps
def bv (t:Cnt):List Value:=[.int .i64 t.l,.int .i64 t.s,.int .i64 t.w,.int .i64 t.f,.int .i64 t.a]
theorem perm_of {L L':List Item} (h:∀ [BEq Item] [LawfulBEq Item] (z:Item),L.count z=L'.count z):L.Perm L':=by
 classical
 exact List.perm_iff_count.2 fun z=>h z
theorem Env.mem {w0 w:World} {L:List Item} (h:Env w0 L w) {a:Item} (ha:a∈L):a.says w:=(h.2.2 a ha).1
theorem gen_post {P:Program} {g:FuncId} {args:Array Value} {w:World} {Q:Ending->World->Prop} (h:∀ PP:Ending->World->Prop,Hid (∀ o w',Q o w'->PP o w')->Calls P g args w PP):Calls P g args w Q:=h Q (zH fun _ _ h=>h)
theorem allocM_keep (C:Cf) (d:Dd) (T:Th) (f:Mem):(allocM C d T f).2.1.e=T.e/\(allocM C d T f).2.1.nd=T.nd/\(allocM C d T f).2.1.pc=T.pc/\(allocM C d T f).2.1.rs=T.rs/\(allocM C d T f).2.1.rpc=T.rpc/\(allocM C d T f).2.1.re=T.re/\(allocM C d T f).2.1.gpc=T.gpc/\(allocM C d T f).2.1.gh=T.gh/\(allocM C d T f).2.1.gg=T.gg/\(allocM C d T f).2.1.done=T.done/\(allocM C d T f).2.1.full=T.full:=by
 unfold allocM
 repeat' split
 all_goals exact ⟨rfl,rfl,rfl,rfl,rfl,rfl,rfl,rfl,rfl,rfl,rfl⟩
theorem allocM_state (C:Cf) (d:Dd) (T:Th) (f:Mem):(allocM C d T f).1=0\/(allocM C d T f).1=1\/(allocM C d T f).1=2\/(allocM C d T f).1=3\/(allocM C d T f).1=4:=by
 unfold allocM decS poolS lastS
 repeat' split
 all_goals first | exact .inl rfl | exact .inr (.inl rfl) | exact .inr (.inr (.inl rfl)) | exact .inr (.inr (.inr (.inl rfl))) | exact .inr (.inr (.inr (.inr rfl))) | (dsimp only; repeat' split)<;>simp
section
variable {w0 w:World} {L:List Item}
theorem new_l (c:Nat) (x y z lv key:Int) (vs:Bool) (hE:Env w0 L w) :
  Calls prog 205 #[.pointer (some ⟨c,0,none⟩),.agg #[.int .i64 x,.int .i64 y,.int .i64 z,.int .i64 0],.int .i64 lv,.int .u64 key,.bool vs] w fun o w'=>∃ a,o=.returned (.pointer (some ⟨a,0,none⟩))/\Env w0 (boxI a (laneC c lv key vs (mvL 234 a) 0 x y z 0 0 0 0 false 0)::L) w':=by
 have hmf:=makeF;have hE1:=hE.box w.heap.size rfl [.int .i64 x,.int .i64 y,.int .i64 z,.int .i64 0] 150;have r0:=hE1.rule 0 rfl;have hE2:=hE1.box (w.heap.size+1) (by simp) (laneC c lv key vs .nilFunc 0 x y z 0 0 0 0 false 0) 289;have HGO:=zH (goOn_l 0 (.func 234) #[.pointer (some ⟨w.heap.size+1,0,none⟩)] #[] (by simp [laneC]) hE2 rfl);clear hE hE1 hE2;go_enter func205,ntmps205;go_wp2_with fail;refine HGO.out.mono ?_;rintro o w1 ⟨rfl,hE3⟩;go_wp2_with fail;go_ret;exact ⟨_,rfl,hE3.sub (.cons_cons _ (.cons _ (List.Sublist.refl _)))⟩
end
section
variable {w:World} {a c:Nat} {lv key:Int} {vs:Bool} {nx:Value} {st x y z W C X wd:Int} {pf:Bool} {pv:Int}
theorem found_g (hb:Blk 0 w a (laneC c lv key vs nx st x y z W C X wd pf pv)):Calls prog 188 #[.pointer (some ⟨a,0,none⟩)] w fun o w'=>o=.returned (.bool pf)/\w'=w:=by
 have r1:=hb.rule;unfold laneC at r1;go_enter func188,ntmps188
 go_wp2
 go_ret;exact ⟨rfl,rfl⟩
theorem who_g (hb:Blk 0 w a (laneC c lv key vs nx st x y z W C X wd pf pv)):Calls prog 184 #[.pointer (some ⟨a,0,none⟩)] w fun o w'=>o=.returned (.agg #[.int .i64 C,.int .i64 0])/\Below w.heap.size w w':=by
 have r1:=cell_more hb.1 hb.rule;unfold laneC at r1;go_enter func184,ntmps184
 go_wp2
 exact bodyPost_ret (v:=.agg #[.int .i64 C,.int .i64 0]) (by simp [results,results184,go_sem]) rfl ⟨rfl,(Below.refl _ _).alloc (Nat.le_refl _) _⟩
theorem at_g (hb:Blk 0 w a (laneC c lv key vs nx st x y z W C X wd pf pv)):Calls prog 266 #[.pointer (some ⟨a,0,none⟩)] w fun o w'=>o=.returned (.agg #[.int .i64 x,.int .i64 y,.int .i64 z,.int .i64 0])/\Below w.heap.size w w':=by
 have r1:=cell_more hb.1 hb.rule;unfold laneC at r1;go_enter func266,ntmps266
 go_wp2
 exact bodyPost_ret (v:=.agg #[.int .i64 x,.int .i64 y,.int .i64 z,.int .i64 0]) (by simp [results,results266,go_sem]) rfl ⟨rfl,(Below.refl _ _).alloc (Nat.le_refl _) _⟩
theorem into_g (hb:Blk 0 w a (laneC c lv key vs nx st x y z W C X wd pf pv)):Calls prog 241 #[.pointer (some ⟨a,0,none⟩)] w fun o w'=>o=.returned (.agg #[.int .u64 W,.int .i64 0,.bool false])/\Below w.heap.size w w':=by
 have r1:=cell_more hb.1 hb.rule;unfold laneC at r1;go_enter func241,ntmps241
 go_wp2
 exact bodyPost_ret (v:=.agg #[.int .u64 W,.int .i64 0,.bool false]) (by simp [results,results241,go_sem]) rfl ⟨rfl,(Below.refl _ _).alloc (Nat.le_refl _) _⟩
end
def cvP (b1 b2:Nat):Value:=.func (.func 139) #[] #[.pointer (some ⟨b1,0,none⟩),.pointer (some ⟨b2,0,none⟩)]
section
variable {w0 w:World} {L:List Item} {a o:Nat} {vs:List Value}
theorem play_r (m:Nat) (fn1 fn2:Fn) (fs1 cs1 fs2 cs2:Array Value) (hv:o < vs.length) (hE:Env w0 L w) (hm:L[m]?=some (boxI a vs)) :
  Calls prog 104 #[.pointer (some ⟨a,o,none⟩),.func fn1 fs1 cs1,.func fn2 fs2 cs2] w fun r w'=>r=.returned (.int .i64 0)/\∃ b1 b2,Env w0 (boxI b1 [.func fn1 fs1 cs1]::boxI b2 [.func fn2 fs2 cs2]::L.set m (boxI a (vs.set o (cvP b1 b2)))) w':=by
 have hmf:=makeF;have hE1:=(hE.box w.heap.size rfl [.func fn1 fs1 cs1] 122).box (w.heap.size+1) (by simp) [.func fn2 fs2 cs2] 189;have HGO:=zH (goOn_r (o:=o) (m+2) (.func 139) #[] #[.pointer (some ⟨w.heap.size,0,none⟩),.pointer (some ⟨w.heap.size+1,0,none⟩)] hv hE1 hm);clear hE hE1 hv hm;go_enter func104,ntmps104;go_wp2_with fail;refine HGO.out.mono ?_;rintro e w1 ⟨rfl,hE2⟩;go_wp2_with fail;go_ret;exact ⟨rfl,_,_,hE2.perm (List.Perm.swap _ _ _)⟩
theorem play1_r (X:Nat) (hx:∀ (ar:Array Value) (v:World),(callFunc X ar).run prog v=.ok (.enter X ar) v) (p u q:Value) (Y:Nat) (hy:∀ (ar:Array Value) (v:World),(callFunc Y ar).run prog v=.ok (.enter Y ar) v) (b1 b2:Nat) (Q:Int->World->Prop) (h1:w.cell? ⟨b1,0,none⟩=some (.func (.func X) #[p] #[]))
  (hc:Calls prog X #[p,u] w fun e w1=>∃ s,e=.returned (.int .i64 s)/\(s=0->Q 0 w1)/\(s≠0->w1.cell? ⟨b2,0,none⟩=some (.func (.func Y) #[q] #[])/\Calls prog Y #[q,.int .i64 s] w1 fun e2 w2=>∃ s2,e2=.returned (.int .i64 s2)/\Q s2 w2)) :
  Calls prog 139 #[u,.pointer (some ⟨b1,0,none⟩),.pointer (some ⟨b2,0,none⟩)] w fun e w'=>∃ s,e=.returned (.int .i64 s)/\Q s w':=by
 have HC:=zH hc;clear hc;go_enter func139,ntmps139;go_wp2_with fail;refine HC.out.mono ?_;rintro e w1 ⟨s,rfl,h0,hn⟩
 by_cases hs:s=0
 ·subst hs;have hq:=h0 rfl;clear h0 hn HC;go_wp2_with fail;go_ret;exact ⟨0,rfl,hq⟩
 ·obtain ⟨hb2,hcc⟩:=hn hs;have hsb:(s==0)=false:=by simpa using hs
  have HCC:=zH hcc;clear h0 hn HC hcc;go_wp2_with fail;refine HCC.out.mono ?_;rintro e2 w2 ⟨s2,rfl,hq⟩;go_wp2_with fail;go_ret;exact ⟨s2,rfl,hq⟩
theorem stepP_r (X:Nat) (hx:∀ (ar:Array Value) (v:World),(callFunc X ar).run prog v=.ok (.enter X ar) v) (p u q:Value) (Y:Nat) (hy:∀ (ar:Array Value) (v:World),(callFunc Y ar).run prog v=.ok (.enter Y ar) v) (b1 b2:Nat) (Q:Int->World->Prop) (hn:w.cell? ⟨a,o,none⟩=some (cvP b1 b2)) (hs:w.cell? ⟨a,o+1,none⟩=some (.int .i64 0)) (h1:w.cell? ⟨b1,0,none⟩=some (.func (.func X) #[p] #[]))
  (hc:Calls prog X #[p,u] w fun e w1=>∃ s,e=.returned (.int .i64 s)/\(s=0->Q 0 w1)/\(s≠0->w1.cell? ⟨b2,0,none⟩=some (.func (.func Y) #[q] #[])/\Calls prog Y #[q,.int .i64 s] w1 fun e2 w2=>∃ s2,e2=.returned (.int .i64 s2)/\Q s2 w2)) :
  Calls prog 55 #[.pointer (some ⟨a,o,none⟩),u] w fun e w'=>∃ s,e=.returned (.int .i64 s)/\Q s w' :=
 stepCv_r 139 b1 b2 (fun _ _=>by kernel_rfl) u _ hn hs ((play1_r X hx p u q Y hy b1 b2 Q h1 hc).mono fun e w' ⟨s,he,hq⟩=>⟨s,he,s,rfl,hq⟩)
end
end
end Go.Proofs.YtffncfmciockmaaGreatDoor
