/- What is proved on the way to the statement, part 7: contracts of the functions, among other things in memory. -/
import Derived.Test.YtffncfmciockmaaGreatDoorO6
import Derived.Shelf.SlSortCmp.Insertion
import Derived.Sort.Statements

open _root_.Go.Proofs.Tryz
set_option maxRecDepth 100000
set_option maxHeartbeats 25600000
namespace Go.Proofs.YtffncfmciockmaaGreatDoor
section
open Go.RowKit Go.Maps
section
variable {w0 w:World} {R:List Item} {a:Nat} {S:ST} {M:MA}
theorem store_a (g o N C:Nat) (part word:Int) (hC:N+1<=C) (hpt:In64 part) (hwd:InU word) (hms:In64 M.s) (hm:S.m < maxLen) (hleft:M.left=.slice (some ⟨g,o,none⟩) (N+1) C) {xs:List Value} (h0:xs[o]?=some (.int .i64 part)) (h1:xs[o+1]?=some (.int .u64 word)) (hE:Env w0 (boxI a (av S.c M)::LT S (lieI g xs::R)) w) :
  Calls prog 272 #[.pointer (some ⟨a,0,none⟩),.iface 28 (.pointer (some ⟨S.p,0,none⟩))] w fun u w'=>u=.returned (.int .i64 (if N=0 then 1 else 0))/\∃ nx left G',(N≠0->nx=M.nx/\left=.slice (some ⟨g,o+2,none⟩) N (C - 1))/\Env w0 (boxI a (av S.c { M with nx:=nx,left:=left })::LT { S with G:=G',f:=upd S.f (5,M.s,part) word,qc:={ S.qc with s:=wrap64 (S.qc.s+1) },m:=S.m+1 } (lieI g xs::R)) w':=by
 have hmf:=makeF;have hah:=ahead_store;have HWF:Hid (Wf (5,M.s,part)):=zH (by unfold Wf; exact ⟨by unfold In64; omega,hms,hpt⟩);have HWD:=zH hwd;have r:=hE.rule 0 rfl;unfold av at r;simp only [hleft] at r;have c0:=hE.lies 5 rfl o _ h0;have c1:=hE.lies 5 rfl (o+1) _ h1;have hlt:(0:Int) < ((N+1:Nat):Int):=by omega
 clear hpt hwd hms;go_enter func272,ntmps272;go_wp2_with fail;have hE1:=(hE.box w.heap.size rfl [.int .i64 part,.int .u64 word] 330).perm (L':=boxI a (av S.c M)::LT S (boxI w.heap.size [.int .i64 part,.int .u64 word]::lieI g xs::R)) (List.perm_middle (l₁:=[boxI a (av S.c M),_,_,_,_])).symm;clear r c0 c1 hE;generalize w.alloc _=w1 at *;generalize w.heap.size=Y at *;refine Ord.wc [14] (fun v=>Blk 0 v a (av S.c M)/\Blk 0 v Y [.int .i64 part,.int .u64 word]) (fun k w'=>∃ G5,Env w0 (boxI a (av S.c M)::LT (if k=0 then S else { S with G:=G5,f:=upd S.f (5,M.s,part) word,qc:={ S.qc with s:=wrap64 (S.qc.s+1) },m:=S.m+1 }) (boxI Y [.int .i64 part,.int .u64 word]::lieI g xs::R)) w') ⟨hE1.drew.get 0 rfl,hE1.drew.get 5 rfl⟩ ⟨S.G,hE1.drew⟩ fun hT9=>?_
 repeat ((first
  | (refine Ord.cv ?_ hT9.o ?_ ?_; rotate_left; (intro w5 hS; have r:=hS.1.rule; have r1:=hS.2.rule; unfold av at r; go_simp<;>rfl))
  | (refine Ord.co hT9.o ?_)
  | (refine Ord.cc ?_ ?_ ?_ hT9.o ?_ ?_ ?_; rotate_left 3; (intro w5 hS; have r:=hS.1.rule; have r1:=hS.2.rule; unfold av at r; go_simp; constructor<;>rfl); (intro w5 hS; (first | (with_reducible refine kp (part_any _ _ _ _) ?_ ?_; rfl; exact fun w6 hb6=>⟨⟨hS.1.under hb6,hS.2.under hb6⟩,fun k h=>h.elim fun G5 h=>⟨G5,h.over hb6⟩⟩)))));try simp only [Act.put,zA,zZ,zS])
 refine Ord.ch_turn (v:=.tuple #[]) 0 hT9.o rfl (by decide) (Or.inl rfl) (by rfl) ?_ ?_
 ·rintro w5 hC5 ⟨G5,hA5⟩;simp only [if_true] at hA5;go_simp;rw [method_store];simp only [Result.andThen_ok];go_simp;simp only [Ord.LandsIn];refine (store_w 5 M.s part 0 word 0 false HWF.out HWD.out hm 3 4 (by decide) hA5 rfl rfl).mono ?_;rintro e w6 ⟨rfl,G6,hE6⟩;exact ⟨rfl,⟨hE6.get 0 rfl,hE6.get 5 rfl⟩,G6,hE6⟩
 try simp only [Act.put,zA,zZ,zS]
 repeat ((first
  | (refine Ord.cv ?_ hT9.o ?_ ?_; rotate_left; (intro w5 hS; skip; go_simp<;>rfl))
  | (refine Ord.co hT9.o ?_));try simp only [Act.put,zA,zZ,zS])
 refine Ord.InText.nil fun w5 hS=>?_;clear hT9;obtain ⟨hC9,hA9⟩:=Ord.chain_end hS;clear hS;obtain ⟨G9,hA9⟩:=hA9;simp only [List.length_cons,List.length_nil,Nat.zero_add,Nat.one_ne_zero,if_false] at hA9;replace hA9:=hA9.sub (L':=boxI a (av S.c M)::LT { S with G:=G9,f:=upd S.f (5,M.s,part) word,qc:={ S.qc with s:=wrap64 (S.qc.s+1) },m:=S.m+1 } (lieI g xs::R)) (.cons_cons _ (.cons_cons _ (.cons_cons _ (.cons_cons _ (.cons_cons _ (.cons _ (List.Sublist.refl _)))))));clear hC9 hE1;have r:=hA9.rule 0 rfl;unfold av at r;simp only [hleft] at r;have f:=hA9.thaw 0 rfl 18 (by simp [av]);have hP:=fun v=>hA9.put 0 rfl (j:=18) (by simp [av]) v;obtain _ | C:=C
 ·omega
 obtain _ | N:=N
 ·obtain _ | C:=C
  ·go_wp2_with fail;refine (end_m 0 1 (by simp [av]) (hP _) rfl).mono ?_;rintro o w7 ⟨rfl,nx,hE7⟩;go_wp2_with fail;go_ret
   first | exact ⟨rfl,nx,_,G9,fun h=>absurd rfl h,hE7⟩ | exact ⟨rfl,nx,_,G9,hE7⟩ | exact ⟨rfl,nx.1,nx.2,_,G9,hE7⟩ | exact ⟨rfl,nx.1,nx.2,_,G9,fun h=>absurd rfl h,hE7⟩
  ·go_wp2_with fail;refine (end_m 0 1 (by simp [av]) (hP _) rfl).mono ?_;rintro o w7 ⟨rfl,nx,hE7⟩;go_wp2_with fail;go_ret
   first | exact ⟨rfl,nx,_,G9,fun h=>absurd rfl h,hE7⟩ | exact ⟨rfl,nx,_,G9,hE7⟩ | exact ⟨rfl,nx.1,nx.2,_,G9,hE7⟩ | exact ⟨rfl,nx.1,nx.2,_,G9,fun h=>absurd rfl h,hE7⟩
 ·obtain _ | C:=C
  ·omega
  ·go_wp2_with fail;go_ret
   first | exact ⟨rfl,M.nx,_,⟨rfl,rfl⟩,G9,hP _⟩ | exact ⟨rfl,M.nx.1,M.nx.2,_,⟨rfl,rfl⟩,G9,hP _⟩
theorem method_born (k p:Nat) (w:World):(method (k+1) 28 (.pointer (some ⟨p,0,none⟩)) "Born").run prog w=.ok (335,.pointer (some ⟨p,0,none⟩)) w:=by kernel_rfl
theorem birth_a (x y:Int) (t:List Trip) (hql:S.ql=(x,y,0)::t) (hx:1<=x/\x<=S.cs) (hcs:S.cs<=9223372036854775806) (hhs:S.hs=0) (he:0<=S.ce/\S.ce<=9223372036854775807) (hm:S.m < maxLen) (hz:Hid (M.nx.2=.int .i64 0)) (hE:Env w0 (boxI a (av S.c M)::LT S R) w) :
  Calls prog 238 #[.pointer (some ⟨a,0,none⟩),.iface 28 (.pointer (some ⟨S.p,0,none⟩))] w fun u w'=>u=.returned (.int .i64 0)/\∃ g c G',(wordsA S.ck S.ce M.key M.val (IntKind.u64.wrap M.lv)).length<=c/\Env w0 (boxI a (av S.c { M with nx:=nxA a 11,s:=x,left:=.slice (some ⟨g,2,none⟩) ((wordsA S.ck S.ce M.key M.val (IntKind.u64.wrap M.lv)).length - 1) (c - 1) })::LT { S with ql:=t,hs:=x,G:=G',f:=upd S.f (5,x,0) S.ce,qc:={ S.qc with s:=wrap64 (S.qc.s+1) },m:=S.m+1 } (lieI g (flat2 (wordsA S.ck S.ce M.key M.val (IntKind.u64.wrap M.lv)))::R)) w':=by
 have hmf:=makeF;have hmb:=method_born;have r:=hE.rule 0 rfl;unfold av at r;have hQ:=hE.queue 2 rfl;rw [hql] at hQ;go_enter func238,ntmps238;go_wp2_with fail;refine (queue_c (hE.get 1 rfl)).mono ?_;rintro o w1 ⟨rfl,rfl⟩;go_wp2_with fail;refine (head_any x y 0 hQ).mono ?_;rintro o w2 ⟨rfl,hb⟩;have hE1:=((hE.over hb).box w2.heap.size rfl [.int .i64 x,.int .i64 y,.int .i64 0] 114).perm (L':=boxI a (av S.c M)::LT S (boxI w2.heap.size [.int .i64 x,.int .i64 y,.int .i64 0]::R)) (List.perm_middle (l₁:=[boxI a (av S.c M),_,_,_,_])).symm;clear r hb hQ hE;simp only [tv];go_wp2_with fail;generalize w2.alloc _=w3 at *;generalize w2.heap.size=Y at *;refine Ord.wc [10] (fun v=>Blk 0 v Y [.int .i64 x,.int .i64 y,.int .i64 0]) (fun k w'=>Env w0 (boxI a (av S.c (if k=0 then M else { M with s:=x }))::LT S (boxI Y [.int .i64 x,.int .i64 y,.int .i64 0]::R)) w') (hE1.drew.get 5 rfl) hE1.drew fun hT9=>?_
 repeat ((first
  | (refine Ord.cv ?_ hT9.o ?_ ?_; rotate_left; (intro w5 hS; have r:=hS.rule; go_simp<;>rfl))
  | (refine Ord.co hT9.o ?_)
  | (refine Ord.cc ?_ ?_ ?_ hT9.o ?_ ?_ ?_; rotate_left 3; (intro w5 hS; have r:=hS.rule; go_simp; constructor<;>rfl); (intro w5 hS; (first | (with_reducible refine (born_w _ _ _).mono ?_; rintro e w6 ⟨rfl,rfl⟩; constructor; rfl; exact ⟨hS,fun k h=>h⟩)))));try simp only [Act.put,zA,zZ,zS])
 refine Ord.ch_turn (v:=undef) 0 hT9.o rfl (by decide) (Or.inl rfl) (by rfl) ?_ ?_
 ·rintro w5 hC5 hA5;simp only [if_true] at hA5;have r:=hA5.rule 0 rfl;unfold av at r;have f6:=hA5.thaw 0 rfl 16 (by simp [av]);have f7:=hA5.thaw 0 rfl 17 (by simp [av]);go_simp;have h9:=(hA5.put 0 rfl (j:=16) (by simp [av]) (.int .i64 x)).put 0 rfl (j:=17) (by simp [av]) (.int .i64 0);replace h9:Env w0 (boxI a (av S.c { M with s:=x })::LT S (boxI Y [.int .i64 x,.int .i64 y,.int .i64 0]::R)) _:=h9;exact ⟨rfl,h9.get 5 rfl,h9⟩
 try simp only [Act.put,zA,zZ,zS]
 repeat ((first
  | (refine Ord.cv ?_ hT9.o ?_ ?_; rotate_left; (intro w5 hS; skip; go_simp<;>rfl))
  | (refine Ord.co hT9.o ?_));try simp only [Act.put,zA,zZ,zS])
 refine Ord.InText.nil fun w5 hS=>?_;clear hT9;obtain ⟨hC9,hA9⟩:=Ord.chain_end hS;clear hS;simp only [List.length_cons,List.length_nil,Nat.zero_add,Nat.one_ne_zero,if_false] at hA9;clear hC9 hE1;replace hA9:=hA9.sub (L':=boxI a (av S.c { M with s:=x })::LT S R) (.cons_cons _ (.cons_cons _ (.cons_cons _ (.cons_cons _ (.cons_cons _ (.cons _ (List.Sublist.refl _)))))));have hQ:=hA9.queue 2 rfl;rw [hql] at hQ;go_wp2_with fail;refine (pop_any x y 0 hQ).mono ?_;rintro o w6 ⟨rfl,hQ6,hs6⟩;have hE6:Env w0 (boxI a (av S.c { M with s:=x })::LT { S with ql:=t } R) w6:=hA9.turnQ 2 rfl hQ6 hs6;clear hQ hQ6 hs6 hA9;go_wp2_with fail;refine Ord.wc [9] (fun v=>Blk 0 v a (av S.c { M with s:=x })) (fun k w'=>Env w0 (boxI a (av S.c { M with s:=x })::LT (if k=0 then { S with ql:=t } else { S with ql:=t,hs:=x }) R) w') (hE6.drew.get 0 rfl) hE6.drew fun hT9=>?_
 repeat ((first
  | (refine Ord.cv ?_ hT9.o ?_ ?_; rotate_left; (intro w5 hS; have r:=hS.rule; unfold av at r; go_simp<;>rfl))
  | (refine Ord.co hT9.o ?_)
  | (refine Ord.cc ?_ ?_ ?_ hT9.o ?_ ?_ ?_; rotate_left 3; (intro w5 hS; have r:=hS.rule; unfold av at r; go_simp; constructor<;>rfl); (intro w5 hS; (first | fail))));try simp only [Act.put,zA,zZ,zS])
 refine Ord.ch_turn (v:=.int .i64 0) 0 hT9.o rfl (by decide) (Or.inl rfl) (by rfl) ?_ ?_
 ·rintro w5 hC5 hA5;simp only [if_true] at hA5;go_simp;simp only [Ord.LandsIn];refine (holdYes_c x 0 hhs hx 1 hA5 rfl).mono ?_;rintro e w6 ⟨rfl,hE7⟩;exact ⟨rfl,hE7.get 0 rfl,hE7⟩
 try simp only [Act.put,zA,zZ,zS]
 repeat ((first
  | (refine Ord.cv ?_ hT9.o ?_ ?_; rotate_left; (intro w5 hS; skip; go_simp<;>rfl))
  | (refine Ord.co hT9.o ?_));try simp only [Act.put,zA,zZ,zS])
 refine Ord.InText.nil fun w5 hS=>?_;clear hT9;obtain ⟨hC9,hA9⟩:=Ord.chain_end hS;clear hS;simp only [List.length_cons,List.length_nil,Nat.zero_add,Nat.one_ne_zero,if_false] at hA9;clear hC9 hE6;have r:=hA9.rule 0 rfl;unfold av at r;go_wp2_with fail;refine (words_a (S:={ S with ql:=t,hs:=x }) (M:={ M with s:=x }) he hA9).mono ?_;rintro o w7 ⟨g,c,rfl,hgc,hE7⟩;replace hE7:=hE7.perm (L':=boxI a (av S.c { M with s:=x })::LT { S with ql:=t,hs:=x } (lieI g (flat2 (wordsA S.ck S.ce M.key M.val (IntKind.u64.wrap M.lv)))::R)) (List.perm_middle (l₁:=[boxI a (av S.c { M with s:=x }),_,_,_,_])).symm;clear r hA9;have hle:3<=(wordsA S.ck S.ce M.key M.val (IntKind.u64.wrap M.lv)).length:=by unfold wordsA; simp
 have h0:(flat2 (wordsA S.ck S.ce M.key M.val (IntKind.u64.wrap M.lv)))[0]?=some (.int .i64 0):=by simp [wordsA,flat2]
 have h1:(flat2 (wordsA S.ck S.ce M.key M.val (IntKind.u64.wrap M.lv)))[0+1]?=some (.int .u64 S.ce):=by simp [wordsA,flat2]
 generalize hWW:wordsA S.ck S.ce M.key M.val (IntKind.u64.wrap M.lv)=W at *;have HWW:=zH hWW;clear hWW;obtain ⟨N,hN⟩:∃ N,W.length=N+1:=⟨W.length - 1,by omega⟩;have HN:=zH hN;rw [hN] at hgc hle ⊢;simp only [hN];have hN0:N≠0:=by omega
 clear hN hle;have r:=hE7.rule 0 rfl;unfold av at r;have f6:=hE7.thaw 0 rfl 18 (by simp [av]);have h7:=hE7.put 0 rfl (j:=18) (by simp [av]) (.slice (some ⟨g,0,none⟩) (N+1) c);have hgo:=goOn_m (fn:=.func 272) (fs:=#[.pointer (some ⟨a,0,none⟩)]) (cs:=#[]) 0 (by simp [av]) (by exact congrArg some hz.out) h7 rfl;have HGO:=zH hgo;clear hgo h7;go_wp2_with fail;refine HGO.out.mono ?_;rintro o w9 ⟨rfl,h8⟩;replace h8:Env w0 (boxI a (av S.c { M with nx:=nxA a 11,s:=x,left:=.slice (some ⟨g,0,none⟩) (N+1) c })::LT { S with ql:=t,hs:=x } (lieI g (flat2 W)::R)) _:=h8;clear HGO f6 r hE7;have hst:=store_a (S:={ S with ql:=t,hs:=x }) (M:={ M with nx:=nxA a 11,s:=x,left:=.slice (some ⟨g,0,none⟩) (N+1) c }) g 0 N c 0 S.ce hgc (by unfold In64; omega) (by unfold InU; omega) (by unfold In64; dsimp only; omega) hm rfl h0 h1 h8;have HST:=zH hst;clear hst h8 he hx hcs;go_wp2_with fail;refine HST.out.mono ?_;rintro o w8 ⟨rfl,nx,left,G',hnl,hE8⟩;obtain ⟨rfl,rfl⟩:=hnl hN0;rw [if_neg hN0];go_wp2_with fail;go_ret;rw [HWW.out,HN.out];exact ⟨rfl,g,c,G',hgc,hE8⟩
end
def SP (C:Cf) (X:Tm) (V:Wm) (T:Th) (f:Plc->Int) (G:Nat->Prop) (qc:Cnt) (n:Nat):ST:={ c:=X.c,q:=X.q,p:=V.p,cc:=V.cc,ck:=C.k,cs:=C.s,cb:=C.b,ch:=C.h,cl:=C.l,ce:=T.e,cr:=X.cr,hs:=T.hs,F:=X.F,ql:=T.ql,kq:=X.kq,G:=G,f:=f,qc:=qc,m:=n }
def WD (C:Cf) (d:Dd) (T:Th):List (Int × Int):=wordsA C.k T.e d.key d.val (IntKind.u64.wrap d.lv)
def maD (a:Nat) (d:Dd) (T:Th) (left:Value) (s:Int):MA:={ nx:=nxA a T.apc,left:=left,k:=d.ok,key:=d.key,val:=d.val,lv:=d.lv,h:=T.ah,n:=T.an,r:=T.ar,s:=s }
def avD (c a:Nat) (d:Dd) (T:Th) (left:Value) (s:Int):List Value:=av c (maD a d T left s)
def LeftIs (C:Cf) (d:Dd) (T:Th) (left:Value) (s:Int) (gl:List Item):Prop :=
 if T.apc<=10 then gl=[] else ∃ g c9 N,gl=[lieI g (flat2 (WD C d T))]/\s=T.hs/\left=.slice (some ⟨g,2 * (T.apc - 10),none⟩) (N+1) c9/\N+1<=c9/\(WD C d T).length=(T.apc - 10)+(N+1)
structure RowOk (C:Cf) (T:Th) (n:Nat):Prop where
 (he:0<=T.e/\T.e<=9223372036854775807)
 (hn:n < maxLen)
 (hl:T.ql.length+1<=1000000)
 (hs:0<=C.s/\C.s<=9223372036854775806)
 (hw:InU T.ah/\InU T.an/\InU T.ar)
 (apc:T.apc=1\/T.apc=2\/T.apc=3\/T.apc=4\/T.apc=5\/T.apc=6\/10<=T.apc)
 (born:T.apc=10->T.hs=0/\∃ x y t,T.ql=(x,y,0)::t/\1<=x/\x<=C.s)
 (hh:In64 T.hs)
theorem flat2_at (l:List (Int × Int)) (k:Nat) {a b:Int} (h:l[k]?=some (a,b)):(flat2 l)[2 * k]?=some (.int .i64 a)/\(flat2 l)[2 * k+1]?=some (.int .u64 b):=by
 induction l generalizing k with
 | nil=>simp at h
 | cons p r ih =>
  cases k with
  | zero =>
   simp at h;subst h;simp [flat2]
  | succ k =>
   have h':r[k]?=some (a,b):=by simpa using h
   have:=ih k h';have e1:2 * (k+1)=2 * k+1+1:=by omega
   rw [e1]
   simpa [flat2] using this
theorem WD_in {C:Cf} {d:Dd} {T:Th} (he:0<=T.e/\T.e<=9223372036854775807) (hd:InU d.key/\InU d.val) {k:Nat} {a b:Int} (h:(WD C d T)[k]?=some (a,b)):In64 a/\InU b:=by
 have hm:(a,b)∈WD C d T:=List.mem_of_getElem? h;have hw:InU (IntKind.u64.wrap d.lv):=by rw [IntKind.wrap_u64]; unfold InU; omega
 unfold WD wordsA at hm;have h0:InU 0:=by unfold InU; omega
 have h1:InU T.e:=by unfold InU; omega
 split at hm
 ·simp at hm
  rcases hm with ⟨rfl,rfl⟩ | ⟨rfl,rfl⟩ | ⟨rfl,rfl⟩ | ⟨rfl,rfl⟩<;>exact ⟨by unfold In64; omega,by first | exact h1 | exact h0 | exact hd.1 | exact hd.2⟩
 ·split at hm
  ·simp at hm
   rcases hm with ⟨rfl,rfl⟩ | ⟨rfl,rfl⟩ | ⟨rfl,rfl⟩ | ⟨rfl,rfl⟩ | ⟨rfl,rfl⟩<;>exact ⟨by unfold In64; omega,by first | exact h1 | exact h0 | exact hd.1 | exact hw⟩
  ·simp at hm
   rcases hm with ⟨rfl,rfl⟩ | ⟨rfl,rfl⟩ | ⟨rfl,rfl⟩<;>exact ⟨by unfold In64; omega,by first | exact h1 | exact h0 | exact hd.1⟩
theorem decP_in (ql:List Trip) (e l:Int):decP ql e l=0\/decP ql e l=1\/decP ql e l=2\/decP ql e l=10:=by
 rcases ql with _ | ⟨⟨x,y,z⟩,t⟩
 ·exact .inr (.inr (.inl rfl))
 ·simp only [decP]
  split
  ·simp
  ·split<;>simp
theorem fnA_store {pc:Nat} (h:11<=pc):fnA pc=272:=by
 unfold fnA;rw [if_neg (by omega),if_neg (by omega),if_neg (by omega),if_neg (by omega),if_neg (by omega),if_neg (by omega),if_neg (by omega)]
theorem LeftIs.low {C:Cf} {d:Dd} {T:Th} (h:T.apc<=10):LeftIs C d T (.slice none 0 0) 0 []:=by unfold LeftIs; rw [if_pos h]
theorem LeftIs.of {C:Cf} {d:Dd} {T:Th} {left:Value} {s:Int} (h:T.apc<=10):LeftIs C d T left s []:=by unfold LeftIs; rw [if_pos h]
theorem WD_len (C:Cf) (d:Dd) (T:Th):3<=(WD C d T).length/\(WD C d T).length<=5:=by
 unfold WD;rw [wordsA_len]
 split
 ·omega
 ·split<;>omega
section
variable {w0 w:World} {R:List Item} {C:Cf} {d:Dd} {X:Tm} {V:Wm} {T:Th} {f:Plc->Int} {G:Nat->Prop} {qc:Cnt} {n a:Nat} {left:Value} {s:Int} {gl:List Item}
theorem alPx (hg:Glo w0) (hk:RowOk C T n) (hd:InU d.key/\InU d.val) (hlf:LeftIs C d T left s gl) (hE:Env w0 (boxI a (avD X.c a d T left s)::LT (SP C X V T f G qc n) (gl++R)) w) :
  Calls prog 179 #[.pointer (some ⟨a,0,none⟩),.iface 28 (.pointer (some ⟨V.p,0,none⟩))] w fun o w'=>o=.returned (.int .i64 (allocM C d T f).1)/\∃ (F':Nat->Prop) (k':Nat) (G':Nat->Prop) (qc':Cnt) (n':Nat),Nx n qc n' qc'/\(((allocM C d T f).1=0/\∃ left' s' gl',LeftIs C d (allocM C d T f).2.1 left' s' gl'/\Env w0 (boxI a (avD X.c a d (allocM C d T f).2.1 left' s')::LT (SP C { X with F:=F',kq:=k' } V (allocM C d T f).2.1 (allocM C d T f).2.2 G' qc' n') (gl'++R)) w')\/((allocM C d T f).1≠0/\Env w0 (LT (SP C { X with F:=F',kq:=k' } V (allocM C d T f).2.1 (allocM C d T f).2.2 G' qc' n') R) w')):=by
 have drop:∀ {S:ST} {y:Item} {w':World},Env w0 (y::LT S R) w'->Env w0 (LT S R) w':=fun h=>h.sub (.cons _ (List.Sublist.refl _));have hfu:∀ x,InU (f x):=fun x=>(hE.cell 4 rfl).words.1 x
 rcases hk.apc with h1 | h1 | h1 | h1 | h1 | h1 | h1
 ·have hgl:gl=[]:=by unfold LeftIs at hlf; rw [if_pos (by omega)] at hlf; exact hlf
  subst hgl;have hal:allocM C d T f=(2,T,swf f (1,0,0) T.e (T.e+1)):=by unfold allocM; rw [if_pos h1]
  rw [hal];refine (step_ay (S:=SP C X V T f G qc n) (M:=maD a d T left s) 1 _ hE (by simp [maD,h1]) (advance_a (S:=SP C X V T f G qc n) (M:=maD a d T left s) hk.he hk.hn hE)).mono ?_;rintro o w1 ⟨rfl,nx,G',hE1⟩;exact ⟨rfl,X.F,X.kq,G',_,n+1,⟨Nat.le_refl _,(by first | exact Or.inl ⟨rfl,rfl,rfl,rfl⟩ | exact Or.inr (Or.inl ⟨rfl,rfl,rfl,rfl⟩) | exact Or.inr (Or.inr (Or.inl ⟨rfl,rfl,rfl,rfl⟩)) | exact Or.inr (Or.inr (Or.inr ⟨rfl,rfl,rfl,rfl⟩)))⟩,.inr ⟨show (2:Int)≠0 by decide,drop hE1⟩⟩
 ·have hgl:gl=[]:=by unfold LeftIs at hlf; rw [if_pos (by omega)] at hlf; exact hlf
  subst hgl
  by_cases hx:C.s<=f (3,0,0)
  ·have hal:allocM C d T f=(0,{ T with apc:=3 },upd f (3,0,0) (IntKind.u64.wrap (f (3,0,0)+1))):=by unfold allocM; rw [if_neg (by omega),if_pos h1,if_pos hx]
   rw [hal];refine (step_ay (S:=SP C X V T f G qc n) (M:=maD a d T left s) 2 _ hE (by simp [maD,h1]) (freshNo_a (S:=SP C X V T f G qc n) (M:=maD a d T left s) _ rfl (hfu _).1 hx hk.hs hk.hn (zH rfl) hE)).mono ?_;rintro o w1 ⟨rfl,G',hE1⟩;exact ⟨rfl,X.F,X.kq,G',_,n+1,⟨Nat.le_refl _,(by first | exact Or.inl ⟨rfl,rfl,rfl,rfl⟩ | exact Or.inr (Or.inl ⟨rfl,rfl,rfl,rfl⟩) | exact Or.inr (Or.inr (Or.inl ⟨rfl,rfl,rfl,rfl⟩)) | exact Or.inr (Or.inr (Or.inr ⟨rfl,rfl,rfl,rfl⟩)))⟩,.inl ⟨rfl,left,s,[],.of (show (3:Nat)<=10 by decide),hE1⟩⟩
  ·have hal:allocM C d T f=(decS (T.ql++[(f (3,0,0)+1,0,0)]) T.e C.l,{ T with ql:=T.ql++[(f (3,0,0)+1,0,0)],apc:=decP (T.ql++[(f (3,0,0)+1,0,0)]) T.e C.l },upd f (3,0,0) (IntKind.u64.wrap (f (3,0,0)+1))):=by unfold allocM; rw [if_neg (by omega),if_pos h1,if_neg hx]
   rw [hal];refine (step_ay (S:=SP C X V T f G qc n) (M:=maD a d T left s) 2 _ hE (by simp [maD,h1]) (freshYes_a (S:=SP C X V T f G qc n) (M:=maD a d T left s) _ rfl (Nat.le_trans hk.hl (by decide)) (hfu _).1 (show f (3,0,0) < C.s by omega) hk.hs.2 hk.hn (zH rfl) hE)).mono ?_;rintro o w1 ⟨rfl,nx,k',F',G',hnx,-,hE1⟩;have hin:=decP_in (T.ql++[(f (3,0,0)+1,0,0)]) T.e C.l
   by_cases hz:decP (T.ql++[(f (3,0,0)+1,0,0)]) T.e C.l=0
   ·exact ⟨rfl,F',k',G',_,n+1,⟨Nat.le_refl _,(by first | exact Or.inl ⟨rfl,rfl,rfl,rfl⟩ | exact Or.inr (Or.inl ⟨rfl,rfl,rfl,rfl⟩) | exact Or.inr (Or.inr (Or.inl ⟨rfl,rfl,rfl,rfl⟩)) | exact Or.inr (Or.inr (Or.inr ⟨rfl,rfl,rfl,rfl⟩)))⟩,.inr ⟨show decS (T.ql++[(f (3,0,0)+1,0,0)]) T.e C.l≠0 by unfold decS; rw [if_pos hz]; decide,drop hE1⟩⟩
   ·have hnx:=hnx hz;subst hnx;exact ⟨rfl,F',k',G',_,n+1,⟨Nat.le_refl _,(by first | exact Or.inl ⟨rfl,rfl,rfl,rfl⟩ | exact Or.inr (Or.inl ⟨rfl,rfl,rfl,rfl⟩) | exact Or.inr (Or.inr (Or.inl ⟨rfl,rfl,rfl,rfl⟩)) | exact Or.inr (Or.inr (Or.inr ⟨rfl,rfl,rfl,rfl⟩)))⟩,.inl ⟨show decS (T.ql++[(f (3,0,0)+1,0,0)]) T.e C.l=0 by unfold decS; rw [if_neg hz],left,s,[],.of (show decP (T.ql++[(f (3,0,0)+1,0,0)]) T.e C.l<=10 by omega),hE1⟩⟩
 ·have hgl:gl=[]:=by unfold LeftIs at hlf; rw [if_pos (by omega)] at hlf; exact hlf
  subst hgl;have hal:allocM C d T f=(poolS (f (2,0,0)) C.l,{ T with ah:=f (2,0,0),apc:=4 },f):=by unfold allocM; rw [if_neg (by omega),if_neg (by omega),if_pos h1]
  rw [hal];refine (step_ay (S:=SP C X V T f G qc n) (M:=maD a d T left s) 3 _ hE (by simp [maD,h1]) (loadPool_a (S:=SP C X V T f G qc n) (M:=maD a d T left s) _ rfl hg (zH rfl) hE)).mono ?_;rintro o w1 ⟨rfl,nx,hnx,hE1⟩
  by_cases hz:poolS (f (2,0,0)) C.l=0
  ·have hnx:=hnx hz;subst hnx;exact ⟨rfl,X.F,X.kq,G,_,n,⟨by omega,(by first | exact Or.inl ⟨rfl,rfl,rfl,rfl⟩ | exact Or.inr (Or.inl ⟨rfl,rfl,rfl,rfl⟩) | exact Or.inr (Or.inr (Or.inl ⟨rfl,rfl,rfl,rfl⟩)) | exact Or.inr (Or.inr (Or.inr ⟨rfl,rfl,rfl,rfl⟩)))⟩,.inl ⟨hz,left,s,[],.of (show (4:Nat)<=10 by decide),hE1⟩⟩
  ·exact ⟨rfl,X.F,X.kq,G,_,n,⟨by omega,(by first | exact Or.inl ⟨rfl,rfl,rfl,rfl⟩ | exact Or.inr (Or.inl ⟨rfl,rfl,rfl,rfl⟩) | exact Or.inr (Or.inr (Or.inl ⟨rfl,rfl,rfl,rfl⟩)) | exact Or.inr (Or.inr (Or.inr ⟨rfl,rfl,rfl,rfl⟩)))⟩,.inr ⟨hz,drop hE1⟩⟩
 ·have hgl:gl=[]:=by unfold LeftIs at hlf; rw [if_pos (by omega)] at hlf; exact hlf
  subst hgl;have hal:allocM C d T f=(0,{ T with an:=f (5,slotI T.ah,2),apc:=5 },f):=by unfold allocM; rw [if_neg (by omega),if_neg (by omega),if_neg (by omega),if_pos h1]
  rw [hal];refine (step_ay (S:=SP C X V T f G qc n) (M:=maD a d T left s) 4 _ hE (by simp [maD,h1]) (loadChain_a (S:=SP C X V T f G qc n) (M:=maD a d T left s) _ rfl hk.hw.1 hg (zH rfl) hE)).mono ?_;rintro o w1 ⟨rfl,hE1⟩;exact ⟨rfl,X.F,X.kq,G,_,n,⟨by omega,(by first | exact Or.inl ⟨rfl,rfl,rfl,rfl⟩ | exact Or.inr (Or.inl ⟨rfl,rfl,rfl,rfl⟩) | exact Or.inr (Or.inr (Or.inl ⟨rfl,rfl,rfl,rfl⟩)) | exact Or.inr (Or.inr (Or.inr ⟨rfl,rfl,rfl,rfl⟩)))⟩,.inl ⟨rfl,left,s,[],.of (show (5:Nat)<=10 by decide),hE1⟩⟩
 ·have hgl:gl=[]:=by unfold LeftIs at hlf; rw [if_pos (by omega)] at hlf; exact hlf
  subst hgl;have hal:allocM C d T f=(0,{ T with ar:=f (5,slotI T.ah,1),apc:=6 },f):=by unfold allocM; rw [if_neg (by omega),if_neg (by omega),if_neg (by omega),if_neg (by omega),if_pos h1]
  rw [hal];refine (step_ay (S:=SP C X V T f G qc n) (M:=maD a d T left s) 5 _ hE (by simp [maD,h1]) (loadRetired_a (S:=SP C X V T f G qc n) (M:=maD a d T left s) _ rfl hk.hw.1 hg (zH rfl) hE)).mono ?_;rintro o w1 ⟨rfl,hE1⟩;exact ⟨rfl,X.F,X.kq,G,_,n,⟨by omega,(by first | exact Or.inl ⟨rfl,rfl,rfl,rfl⟩ | exact Or.inr (Or.inl ⟨rfl,rfl,rfl,rfl⟩) | exact Or.inr (Or.inr (Or.inl ⟨rfl,rfl,rfl,rfl⟩)) | exact Or.inr (Or.inr (Or.inr ⟨rfl,rfl,rfl,rfl⟩)))⟩,.inl ⟨rfl,left,s,[],.of (show (6:Nat)<=10 by decide),hE1⟩⟩
 ·have hgl:gl=[]:=by unfold LeftIs at hlf; rw [if_pos (by omega)] at hlf; exact hlf
  subst hgl
  by_cases hx:f (2,0,0)=T.ah
  ·have hal:allocM C d T f=(decS (T.ql++[(slotI T.ah,epI T.ar,0)]) T.e C.l,{ T with ql:=T.ql++[(slotI T.ah,epI T.ar,0)],apc:=decP (T.ql++[(slotI T.ah,epI T.ar,0)]) T.e C.l },swf f (2,0,0) T.ah (nextW T.ah (slotI T.an))):=by unfold allocM; rw [if_neg (by omega),if_neg (by omega),if_neg (by omega),if_neg (by omega),if_neg (by omega),if_pos h1,if_pos hx]
   rw [hal];refine (step_ay (S:=SP C X V T f G qc n) (M:=maD a d T left s) 6 _ hE (by simp [maD,h1]) (takeYes_a (S:=SP C X V T f G qc n) (M:=maD a d T left s) hx hk.hw.2.2 (Nat.le_trans hk.hl (by decide)) hk.hw.1 hk.hw.2.1 hg hk.hn (zH rfl) hE)).mono ?_;rintro o w1 ⟨rfl,nx,k',F',G',hnx,-,hE1⟩;have hin:=decP_in (T.ql++[(slotI T.ah,epI T.ar,0)]) T.e C.l
   by_cases hz:decP (T.ql++[(slotI T.ah,epI T.ar,0)]) T.e C.l=0
   ·exact ⟨rfl,F',k',G',_,n+1,⟨Nat.le_refl _,(by first | exact Or.inl ⟨rfl,rfl,rfl,rfl⟩ | exact Or.inr (Or.inl ⟨rfl,rfl,rfl,rfl⟩) | exact Or.inr (Or.inr (Or.inl ⟨rfl,rfl,rfl,rfl⟩)) | exact Or.inr (Or.inr (Or.inr ⟨rfl,rfl,rfl,rfl⟩)))⟩,.inr ⟨show decS (T.ql++[(slotI T.ah,epI T.ar,0)]) T.e C.l≠0 by unfold decS; rw [if_pos hz]; decide,drop hE1⟩⟩
   ·have hnx:=hnx hz;subst hnx;exact ⟨rfl,F',k',G',_,n+1,⟨Nat.le_refl _,(by first | exact Or.inl ⟨rfl,rfl,rfl,rfl⟩ | exact Or.inr (Or.inl ⟨rfl,rfl,rfl,rfl⟩) | exact Or.inr (Or.inr (Or.inl ⟨rfl,rfl,rfl,rfl⟩)) | exact Or.inr (Or.inr (Or.inr ⟨rfl,rfl,rfl,rfl⟩)))⟩,.inl ⟨show decS (T.ql++[(slotI T.ah,epI T.ar,0)]) T.e C.l=0 by unfold decS; rw [if_neg hz],left,s,[],.of (show decP (T.ql++[(slotI T.ah,epI T.ar,0)]) T.e C.l<=10 by omega),hE1⟩⟩
  ·have hal:allocM C d T f=(0,{ T with apc:=3 },swf f (2,0,0) T.ah (nextW T.ah (slotI T.an))):=by unfold allocM; rw [if_neg (by omega),if_neg (by omega),if_neg (by omega),if_neg (by omega),if_neg (by omega),if_pos h1,if_neg hx]
   rw [hal];refine (step_ay (S:=SP C X V T f G qc n) (M:=maD a d T left s) 6 _ hE (by simp [maD,h1]) (takeNo_a (S:=SP C X V T f G qc n) (M:=maD a d T left s) _ rfl hx hk.hw.1 hk.hw.2.1 hg hk.hn (zH rfl) hE)).mono ?_;rintro o w1 ⟨rfl,G',hE1⟩;exact ⟨rfl,X.F,X.kq,G',_,n+1,⟨Nat.le_refl _,(by first | exact Or.inl ⟨rfl,rfl,rfl,rfl⟩ | exact Or.inr (Or.inl ⟨rfl,rfl,rfl,rfl⟩) | exact Or.inr (Or.inr (Or.inl ⟨rfl,rfl,rfl,rfl⟩)) | exact Or.inr (Or.inr (Or.inr ⟨rfl,rfl,rfl,rfl⟩)))⟩,.inl ⟨rfl,left,s,[],.of (show (3:Nat)<=10 by decide),hE1⟩⟩
 ·obtain ⟨hl3,hl5⟩:=WD_len C d T
  by_cases h10:T.apc=10
  ·have hgl:gl=[]:=by unfold LeftIs at hlf; rw [if_pos (by omega)] at hlf; exact hlf
   subst hgl;obtain ⟨hhs,x,y,t,hql,hx1,hx2⟩:=hk.born h10;have hal:allocM C d T f=(lastS 0 (WD C d T).length,{ T with ql:=t,hs:=x,apc:=11 },upd f (5,x,0) T.e):=by
    unfold allocM;rw [if_neg (by omega),if_neg (by omega),if_neg (by omega),if_neg (by omega),if_neg (by omega),if_neg (by omega)];simp only [h10,hql,if_true,List.tail_cons,List.headD_cons];rfl
   have hls:lastS 0 (WD C d T).length=0:=by unfold lastS; rw [if_neg (by omega)]
   rw [hal,hls];refine (step_ay (S:=SP C X V T f G qc n) (M:=maD a d T left s) 10 _ hE (by simp [maD,h10]) (birth_a (S:=SP C X V T f G qc n) (M:=maD a d T left s) x y t hql ⟨hx1,hx2⟩ hk.hs.2 hhs hk.he hk.hn (zH rfl) hE)).mono ?_;rintro o w1 ⟨rfl,g,c,G',hgc,hE1⟩;obtain ⟨N,hN⟩:∃ N,(WD C d T).length=N+2:=⟨(WD C d T).length - 2,by omega⟩;have hgc2:N+2<=c:=by rw [<- hN]; exact hgc
   have hli:LeftIs C d { T with ql:=t,hs:=x,apc:=11 } (.slice (some ⟨g,2,none⟩) ((WD C d T).length - 1) (c - 1)) x [lieI g (flat2 (WD C d T))]:=by
    unfold LeftIs;rw [if_neg (show ¬ (11:Nat)<=10 by decide)];refine ⟨g,c - 1,N,rfl,rfl,?_,by omega,?_⟩
    ·rw [hN];rfl
    ·show (WD C d T).length=(11 - 10)+(N+1);omega
   exact ⟨rfl,X.F,X.kq,G',_,n+1,⟨Nat.le_refl _,(by first | exact Or.inl ⟨rfl,rfl,rfl,rfl⟩ | exact Or.inr (Or.inl ⟨rfl,rfl,rfl,rfl⟩) | exact Or.inr (Or.inr (Or.inl ⟨rfl,rfl,rfl,rfl⟩)) | exact Or.inr (Or.inr (Or.inr ⟨rfl,rfl,rfl,rfl⟩)))⟩,.inl ⟨rfl,_,x,_,hli,hE1⟩⟩
  ·have h11:11<=T.apc:=by omega
   unfold LeftIs at hlf;rw [if_neg (by omega)] at hlf;obtain ⟨g,c9,N,rfl,rfl,rfl,hc9,hlen⟩:=hlf;obtain ⟨k,hk10⟩:∃ k,T.apc=10+k:=⟨T.apc - 10,by omega⟩;have hkk:T.apc - 10=k:=by omega
   rw [hkk] at hlen hE;obtain ⟨⟨part,word⟩,hpw⟩:∃ pw,(WD C d T)[k]?=some pw:=⟨_,List.getElem?_eq_getElem (by omega)⟩;obtain ⟨hp64,hwu⟩:=WD_in hk.he hd hpw;obtain ⟨hc0,hc1⟩:=flat2_at _ _ hpw;have hal:allocM C d T f=(lastS k (WD C d T).length,{ T with apc:=T.apc+1 },upd f (5,T.hs,part) word):=by
    unfold allocM;rw [if_neg (by omega),if_neg (by omega),if_neg (by omega),if_neg (by omega),if_neg (by omega),if_neg (by omega)];have hg:(wordsA C.k T.e d.key d.val (IntKind.u64.wrap d.lv)).getD k (0,0)=(part,word):=by
     have h9:(wordsA C.k T.e d.key d.val (IntKind.u64.wrap d.lv))[k]?=some (part,word):=hpw;rw [List.getD_eq_getElem?_getD,h9];rfl
    simp only [hkk,hg];rw [if_neg (by omega)];rfl
   have hst:=store_a (S:=SP C X V T f G qc n) (M:={ nx:=nxA a T.apc,left:=.slice (some ⟨g,2 * k,none⟩) (N+1) c9,k:=d.ok,key:=d.key,val:=d.val,lv:=d.lv,h:=T.ah,n:=T.an,r:=T.ar,s:=T.hs }) g (2 * k) N c9 part word hc9 hp64 hwu hk.hh hk.hn rfl hc0 hc1 hE;rw [<- fnA_store h11] at hst;rw [hal];have hls:lastS k (WD C d T).length=if N=0 then 1 else 0:=by
    unfold lastS
    by_cases hN:N=0
    ·rw [if_pos hN,if_pos (by omega)]
    ·rw [if_neg hN,if_neg (by omega)]
   rw [hls];refine (step_ay (S:=SP C X V T f G qc n) T.apc _ hE rfl hst).mono ?_;rintro o w1 ⟨rfl,nx,left,G',hnl,hE1⟩
   by_cases hN:N=0
   ·rw [if_pos hN];exact ⟨rfl,X.F,X.kq,G',_,n+1,⟨Nat.le_refl _,(by first | exact Or.inl ⟨rfl,rfl,rfl,rfl⟩ | exact Or.inr (Or.inl ⟨rfl,rfl,rfl,rfl⟩) | exact Or.inr (Or.inr (Or.inl ⟨rfl,rfl,rfl,rfl⟩)) | exact Or.inr (Or.inr (Or.inr ⟨rfl,rfl,rfl,rfl⟩)))⟩,.inr ⟨show (1:Int)≠0 by decide,hE1.sub (.cons _ (.cons_cons _ (.cons_cons _ (.cons_cons _ (.cons_cons _ (.cons _ (List.Sublist.refl _)))))))⟩⟩
   ·obtain ⟨rfl,rfl⟩:=hnl hN;rw [if_neg hN];obtain ⟨M,rfl⟩:∃ M,N=M+1:=⟨N - 1,by omega⟩;have hli:LeftIs C d { T with apc:=T.apc+1 } (.slice (some ⟨g,2 * k+2,none⟩) (M+1) (c9 - 1)) T.hs [lieI g (flat2 (WD C d T))]:=by
     unfold LeftIs;rw [if_neg (show ¬ T.apc+1<=10 by omega)];refine ⟨g,c9 - 1,M,rfl,rfl,?_,by omega,?_⟩
     ·show _=Value.slice (some ⟨g,2 * (T.apc+1 - 10),none⟩) (M+1) (c9 - 1);rw [show 2 * (T.apc+1 - 10)=2 * k+2 by omega]
     ·show (WD C d T).length=(T.apc+1 - 10)+(M+1);omega
    have hnx:nxA a T.apc=nxA a (T.apc+1):=by
     unfold nxA;rw [fnA_store h11,fnA_store (by omega)]
    have hE2:Env w0 (boxI a (avD X.c a d { T with apc:=T.apc+1 } (.slice (some ⟨g,2 * k+2,none⟩) (M+1) (c9 - 1)) T.hs)::LT (SP C X V { T with apc:=T.apc+1 } (upd f (5,T.hs,part) word) G' { qc with s:=wrap64 (qc.s+1) } (n+1)) ([lieI g (flat2 (WD C d T))]++R)) w1:=by
     unfold avD maD;rw [<- hnx];exact hE1
    exact ⟨rfl,X.F,X.kq,G',_,n+1,⟨Nat.le_refl _,(by first | exact Or.inl ⟨rfl,rfl,rfl,rfl⟩ | exact Or.inr (Or.inl ⟨rfl,rfl,rfl,rfl⟩) | exact Or.inr (Or.inr (Or.inl ⟨rfl,rfl,rfl,rfl⟩)) | exact Or.inr (Or.inr (Or.inr ⟨rfl,rfl,rfl,rfl⟩)))⟩,.inl ⟨rfl,_,T.hs,_,hli,hE2⟩⟩
end
end
section
open Go.RowKit Go.Maps Go.Shelf Go.Sort
attribute [local go_sem] Oper.semAt_some
end
section
open Go.RowKit Go.Maps
def bv (t:Cnt):List Value:=[.int .i64 t.l,.int .i64 t.s,.int .i64 t.w,.int .i64 t.f,.int .i64 t.a]
theorem perm_of {L L':List Item} (h:∀ [BEq Item] [LawfulBEq Item] (z:Item),L.count z=L'.count z):L.Perm L':=by
 classical
 exact List.perm_iff_count.2 fun z=>h z
theorem allocM_keep (C:Cf) (d:Dd) (T:Th) (f:Mem):(allocM C d T f).2.1.e=T.e/\(allocM C d T f).2.1.nd=T.nd/\(allocM C d T f).2.1.pc=T.pc/\(allocM C d T f).2.1.rs=T.rs/\(allocM C d T f).2.1.rpc=T.rpc/\(allocM C d T f).2.1.re=T.re/\(allocM C d T f).2.1.gpc=T.gpc/\(allocM C d T f).2.1.gh=T.gh/\(allocM C d T f).2.1.gg=T.gg/\(allocM C d T f).2.1.done=T.done/\(allocM C d T f).2.1.full=T.full:=by
 unfold allocM
 repeat' split
 all_goals exact ⟨rfl,rfl,rfl,rfl,rfl,rfl,rfl,rfl,rfl,rfl,rfl⟩
theorem allocM_state (C:Cf) (d:Dd) (T:Th) (f:Mem):(allocM C d T f).1=0\/(allocM C d T f).1=1\/(allocM C d T f).1=2\/(allocM C d T f).1=3\/(allocM C d T f).1=4:=by
 unfold allocM decS poolS lastS
 repeat' split
 all_goals first | exact .inl rfl | exact .inr (.inl rfl) | exact .inr (.inr (.inl rfl)) | exact .inr (.inr (.inr (.inl rfl))) | exact .inr (.inr (.inr (.inr rfl))) | (dsimp only; repeat' split)<;>simp
section
variable {w0 w:World} {R:List Item} {C:Cf} {d:Dd} {X:Tm} {V:Wm} {T:Th} {f:Plc->Int} {G FU:Nat->Prop} {qc:Cnt} {n r b:Nat} {ml:List OneR}
theorem rePx (hn:n < maxLen) (hl:T.ql.length+1<=1000000) (he:InU T.re) (hs:In64 T.rs) (hE:Env w0 (boxI r (rtv X.c (nxR r T.rpc) T.rs T.re)::LT (SP C X V T f G qc n) R) w) :
  Calls prog 304 #[.pointer (some ⟨r,0,none⟩),.iface 28 (.pointer (some ⟨V.p,0,none⟩))] w fun o w'=>o=.returned (.int .i64 (retireM T f).1)/\∃ (F':Nat->Prop) (k':Nat) (G':Nat->Prop) (qc':Cnt) (n':Nat),Nx n qc n' qc'/\(((retireM T f).1=0/\Env w0 (boxI r (rtv X.c (nxR r (retireM T f).2.1.rpc) (retireM T f).2.1.rs (retireM T f).2.1.re)::LT (SP C { X with F:=F',kq:=k' } V (retireM T f).2.1 (retireM T f).2.2 G' qc' n') R) w')\/((retireM T f).1≠0/\Env w0 (LT (SP C { X with F:=F',kq:=k' } V (retireM T f).2.1 (retireM T f).2.2 G' qc' n') R) w')):=by
 by_cases h0:T.rpc=0
 ·have hal:retireM T f=(0,{ T with re:=f (1,0,0),rpc:=1 },f):=by unfold retireM; rw [if_pos h0]
  rw [hal];rw [h0] at hE;refine (step_ry (S:=SP C X V T f G qc n) 0 _ hE rfl (loadEpoch_r (S:=SP C X V T f G qc n) _ rfl (zH rfl) hE)).mono ?_;rintro o w1 ⟨rfl,hE1⟩;exact ⟨rfl,X.F,X.kq,G,_,n,⟨by omega,(by first | exact Or.inl ⟨rfl,rfl,rfl,rfl⟩ | exact Or.inr (Or.inl ⟨rfl,rfl,rfl,rfl⟩) | exact Or.inr (Or.inr (Or.inl ⟨rfl,rfl,rfl,rfl⟩)) | exact Or.inr (Or.inr (Or.inr ⟨rfl,rfl,rfl,rfl⟩)))⟩,.inl ⟨rfl,hE1⟩⟩
 ·have hal:retireM T f=(1,{ T with ql:=T.ql++[(T.rs,epI T.re,0)] },upd f (5,T.rs,1) T.re):=by unfold retireM; rw [if_neg h0]
  rw [hal];have hnx:nxR r T.rpc=nxR r 1:=by unfold nxR fnR; rw [if_neg h0,if_neg (by decide)]
  rw [hnx] at hE;refine (step_ry (S:=SP C X V T f G qc n) 1 _ hE rfl (store_r (S:=SP C X V T f G qc n) he hs hn (Nat.le_trans hl (by decide)) hE)).mono ?_;rintro o w1 ⟨rfl,k',F',G',-,hE1⟩;exact ⟨rfl,F',k',G',_,n+1,⟨Nat.le_refl _,(by first | exact Or.inl ⟨rfl,rfl,rfl,rfl⟩ | exact Or.inr (Or.inl ⟨rfl,rfl,rfl,rfl⟩) | exact Or.inr (Or.inr (Or.inl ⟨rfl,rfl,rfl,rfl⟩)) | exact Or.inr (Or.inr (Or.inr ⟨rfl,rfl,rfl,rfl⟩)))⟩,.inr ⟨show (1:Int)≠0 by decide,hE1⟩⟩
end
structure LaneOk (C:Cf) (L:Lm):Prop where
 (ok:LmOk L)
 (wf:Wf L.p)
 (at9:L.p=(4,0,0)\/∃ c,L.p=(5,c,7))
 (x:6<=L.pc->markB L.X=false)
 (c:3<=L.pc->1<=L.C)
 (sw:slotI L.W<=C.s)
 (sx:slotI L.X<=C.s)
 (cs:L.C<=C.s)
structure SpotOk (C:Cf) (L:Lm):Prop where
 (W:InU L.W)
 (X:InU L.X)
 (wf:Wf L.p)
 (at9:L.p=(4,0,0)\/∃ c,L.p=(5,c,7))
 (Cr:0<=L.C/\L.C<=8388607)
 (fd:L.fd=true->1<=L.C/\markB L.X=false)
 (sw:slotI L.W<=C.s)
 (sx:slotI L.X<=C.s)
 (cs:L.C<=C.s)
def SIt (c sb:Nat) (key:Int) (on:Bool) (L:Lm) (s:Int) (sub:List Item):Prop :=
 (on=false/\s=0/\(sub=[boxI sb (srC c 0 key false (.pointer none))]\/∃ a L' nx wd B1 B2,sub=[boxI sb (srC c 0 key false (.pointer (some ⟨a,0,none⟩))),boxI a (laneV c 0 key false nx 2 wd (pfS 2 L') (pvS 2 L') L'),B1,B2])) \/
 (on=true/\∃ a nx wd B1 B2,(s=0->NxOk a L.pc nx B1 B2/\(L.pc=7->wd=L.K)/\(L.pc=9->wd=L.V))/\sub=[boxI sb (srC c 0 key false (.pointer (some ⟨a,0,none⟩))),boxI a (laneV c 0 key false nx s wd (pfS s L) (pvS s L) L),B1,B2])
section
variable {w0 w:World} {R sub:List Item} {sb:Nat} {S:ST} {key s e r:Int} {on:Bool} {L:Lm} {T:Sm}
theorem SIt.toR (h:SIt S.c sb key on L s sub) (he:S.ce=e) (hr:S.cr=r) (hE:Env w0 (sub++LT S R) w):SrchR w0 R sb 0 key false S s ⟨on,L,e,r⟩ w:=by
 rcases h with ⟨rfl,rfl,rfl | ⟨a,L',nx,wd,B1,B2,rfl⟩⟩ | ⟨rfl,a,nx,wd,B1,B2,hn,rfl⟩
 ·exact ⟨he,hr,.inl ⟨rfl,rfl,.inl hE⟩⟩
 ·exact ⟨he,hr,.inl ⟨rfl,rfl,.inr ⟨a,L',nx,wd,B1,B2,fun h=>absurd h (by decide),hE.perm (List.perm_middle (l₁:=[_,_,_,_,_,_,_])).symm⟩⟩⟩
 ·exact ⟨he,hr,.inr ⟨rfl,a,nx,wd,B1,B2,hn,hE.perm (List.perm_middle (l₁:=[_,_,_,_,_,_,_])).symm⟩⟩
theorem SrchR.toI (h:SrchR w0 R sb 0 key false S s T w):∃ sub,SIt S.c sb key T.on T.L s sub/\Env w0 (sub++LT S R) w:=by
 obtain ⟨-,-,⟨hoff,rfl,hE | ⟨a,L',nx,wd,B1,B2,-,hE⟩⟩ | ⟨hon,a,nx,wd,B1,B2,hn,hE⟩⟩:=h
 ·exact ⟨_,.inl ⟨hoff,rfl,.inl rfl⟩,hE⟩
 ·exact ⟨[_,_,B1,B2],.inl ⟨hoff,rfl,.inr ⟨a,L',nx,wd,B1,B2,rfl⟩⟩,hE.perm (List.perm_middle (l₁:=[_,_,_,_,_,_,_]))⟩
 ·exact ⟨[_,_,B1,B2],.inr ⟨hon,a,nx,wd,B1,B2,hn,rfl⟩,hE.perm (List.perm_middle (l₁:=[_,_,_,_,_,_,_]))⟩
end
def SPK (C:Cf) (X:Tm) (V:Wm) (K:Kt) (f:Mem) (G:Nat->Prop) (qc:Cnt) (n:Nat):ST:=SP C { X with cr:=K.r } V K.T f G qc n
section
variable {w0 w:World} {R sub:List Item} {C:Cf} {X:Tm} {V:Wm} {f:Mem} {G:Nat->Prop} {qc:Cnt} {n sb:Nat} {key:Int} {on:Bool} {L:Lm} {T:Th} {r:Int}
theorem search_I (hT:on=true->LaneOk C L) (hg:Glo w0) (hn:n < maxLen) (hS:SIt X.c sb key on L 0 sub) (hE:Env w0 (sub++LT (SP C { X with cr:=r } V T f G qc n) R) w) :
  Calls prog 190 #[.pointer (some ⟨sb,0,none⟩),.iface 28 (.pointer (some ⟨V.p,0,none⟩))] w fun o w'=>o=.returned (.int .i64 (searchM 0 key false ⟨on,L,T.e,r⟩ f).1)/\∃ G' qc' n' sub',Nx n qc n' qc'/\SIt X.c sb key (searchM 0 key false ⟨on,L,T.e,r⟩ f).2.1.on (searchM 0 key false ⟨on,L,T.e,r⟩ f).2.1.L (searchM 0 key false ⟨on,L,T.e,r⟩ f).1 sub'/\Env w0 (sub'++LT (SP C { X with cr:=(searchM 0 key false ⟨on,L,T.e,r⟩ f).2.1.r } V { T with e:=(searchM 0 key false ⟨on,L,T.e,r⟩ f).2.1.e } (searchM 0 key false ⟨on,L,T.e,r⟩ f).2.2 G' qc' n') R) w':=by
 have hR:=hS.toR (S:=SP C { X with cr:=r } V T f G qc n) (e:=T.e) (r:=r) rfl rfl hE;refine (search_l (S:=SP C { X with cr:=r } V T f G qc n) (T:=⟨on,L,T.e,r⟩) (fun h=>⟨(hT h).ok,(hT h).wf⟩) hg hn hR).mono ?_;rintro o w1 ⟨rfl,G',hR'⟩;have hR2:=hR';obtain ⟨sub',hS',hE'⟩:=hR'.toI;refine ⟨rfl,(searchS key false (SP C { X with cr:=r } V T f G qc n) ⟨on,L,T.e,r⟩ G').G,(searchS key false (SP C { X with cr:=r } V T f G qc n) ⟨on,L,T.e,r⟩ G').qc,(searchS key false (SP C { X with cr:=r } V T f G qc n) ⟨on,L,T.e,r⟩ G').m,sub',⟨?_,?_⟩,?_,?_⟩
 ·unfold searchS;cases on
  ·exact Nat.le_succ n
  ·show (laneS 0 key false (SP C { X with cr:=r } V T f G qc n) L G').m<=n+1;unfold laneS;dsimp only
   split
   ·exact Nat.le_refl _
   ·exact Nat.le_succ n
 ·unfold searchS;cases on
  ·exact Or.inl ⟨rfl,rfl,rfl,rfl⟩
  ·show One qc (laneS 0 key false (SP C { X with cr:=r } V T f G qc n) L G').qc;unfold laneS laneQ;dsimp only
   split
   ·unfold swq
    first | exact Or.inr (Or.inr (Or.inl ⟨rfl,rfl,rfl,rfl⟩)) | (split<;>exact Or.inr (Or.inr (Or.inl ⟨rfl,rfl,rfl,rfl⟩)))
   ·exact Or.inl ⟨rfl,rfl,rfl,rfl⟩
 ·cases on<;>exact hS'
 ·cases on<;>exact hE'
end
section
variable {w0 w:World} {L:List Item} {o l c:Nat} {kd key val lv:Int} {sp:Value} {er:Int} {dn:Bool} {b1 b2:Nat} {x y z W C X k to:Int}
theorem step_oV (F p Y:Nat) (y9 u:Value) (hx:∀ (ar:Array Value) (v:World),(callFunc F ar).run prog v=.ok (.enter F ar) v) (hy:∀ (ar:Array Value) (v:World),(callFunc Y ar).run prog v=.ok (.enter Y ar) v) (Q:Int->World->Prop)
  (hE:Env w0 (boxI o (opC c kd key val lv (cvP b1 b2) 0 sp er dn)::boxI b1 [mvL F p]::boxI b2 [.func (.func Y) #[y9] #[]]::L) w)
  (hc:Calls prog F #[.pointer (some ⟨p,0,none⟩),u] w fun e w1=>∃ s,e=.returned (.int .i64 s)/\(s=0->Q 0 w1)/\(s≠0->w1.cell? ⟨b2,0,none⟩=some (.func (.func Y) #[y9] #[])/\Calls prog Y #[y9,.int .i64 s] w1 fun e2 w2=>∃ s2,e2=.returned (.int .i64 s2)/\Q s2 w2)) :
  Calls prog 350 #[.pointer (some ⟨o,0,none⟩),u] w fun e w'=>∃ s,e=.returned (.int .i64 s)/\Q s w':=by
 have HST:=zH (stepP_r (o:=5) F hx (.pointer (some ⟨p,0,none⟩)) u y9 Y hy b1 b2 Q (hE.rule 0 rfl 5) (hE.rule 0 rfl 6) (hE.rule 1 rfl 0) hc);clear hc hE;go_enter func350,ntmps350;go_wp2_with fail;refine HST.out.mono ?_;rintro e w1 ⟨s,rfl,hQ⟩;go_wp2_with fail;go_ret;exact ⟨s,rfl,hQ⟩
theorem step_o (F p Y:Nat) (u:Value) (hx:∀ (ar:Array Value) (v:World),(callFunc F ar).run prog v=.ok (.enter F ar) v) (hy:∀ (ar:Array Value) (v:World),(callFunc Y ar).run prog v=.ok (.enter Y ar) v) (Q:Int->World->Prop)
  (hE:Env w0 (boxI o (opC c kd key val lv (cvP b1 b2) 0 sp er dn)::boxI b1 [mvL F p]::boxI b2 [mvL Y o]::L) w)
  (hc:Calls prog F #[.pointer (some ⟨p,0,none⟩),u] w fun e w1=>∃ s,e=.returned (.int .i64 s)/\(s=0->Q 0 w1)/\(s≠0->w1.cell? ⟨b2,0,none⟩=some (mvL Y o)/\Calls prog Y #[.pointer (some ⟨o,0,none⟩),.int .i64 s] w1 fun e2 w2=>∃ s2,e2=.returned (.int .i64 s2)/\Q s2 w2)) :
  Calls prog 350 #[.pointer (some ⟨o,0,none⟩),u] w fun e w'=>∃ s,e=.returned (.int .i64 s)/\Q s w' :=
 step_oV F p Y (.pointer (some ⟨o,0,none⟩)) u hx hy Q hE hc
theorem step_u (F p:Nat) (u:Value) (q:Value) (Y:Nat) (hx:∀ (ar:Array Value) (v:World),(callFunc F ar).run prog v=.ok (.enter F ar) v) (hy:∀ (ar:Array Value) (v:World),(callFunc Y ar).run prog v=.ok (.enter Y ar) v) (Q:Int->World->Prop)
  (hE:Env w0 (boxI l (ukC c x y z W C X k key to (cvP b1 b2) 0)::boxI b1 [mvL F p]::L) w)
  (hc:Calls prog F #[.pointer (some ⟨p,0,none⟩),u] w fun e w1=>∃ s,e=.returned (.int .i64 s)/\(s=0->Q 0 w1)/\(s≠0->w1.cell? ⟨b2,0,none⟩=some (.func (.func Y) #[q] #[])/\Calls prog Y #[q,.int .i64 s] w1 fun e2 w2=>∃ s2,e2=.returned (.int .i64 s2)/\Q s2 w2)) :
  Calls prog 252 #[.pointer (some ⟨l,0,none⟩),u] w fun e w'=>∃ s,e=.returned (.int .i64 s)/\Q s w':=by
 have HST:=zH (stepP_r (o:=17) F hx (.pointer (some ⟨p,0,none⟩)) u q Y hy b1 b2 Q (hE.rule 0 rfl 17) (hE.rule 0 rfl 18) (hE.rule 1 rfl 0) hc);clear hc hE;go_enter func252,ntmps252;go_wp2_with fail;refine HST.out.mono ?_;rintro e w1 ⟨s,rfl,hQ⟩;go_wp2_with fail;go_ret;exact ⟨s,rfl,hQ⟩
theorem stepMv_u (F:Nat) (u:Value) (hx:∀ (ar:Array Value) (v:World),(callFunc F ar).run prog v=.ok (.enter F ar) v) (Q:Ending->World->Prop)
  (hE:Env w0 (boxI l (ukC c x y z W C X k key to (mvL F l) 0)::L) w)
  (hc:Calls prog F #[.pointer (some ⟨l,0,none⟩),u] w fun e w'=>∃ s,e=.returned (.int .i64 s)/\Q (.returned (.int .i64 s)) w') :
  Calls prog 252 #[.pointer (some ⟨l,0,none⟩),u] w Q:=by
 have HST:=zH (stepMv_r (o:=17) F hx (.pointer (some ⟨l,0,none⟩)) u (fun o w'=>∃ s,o=.returned (.int .i64 s)/\Q (.returned (.int .i64 s)) w') (hE.rule 0 rfl 17) (hE.rule 0 rfl 18) (hc.mono fun e w' ⟨s,he,hq⟩=>⟨s,he,s,rfl,hq⟩));clear hc hE;go_enter func252,ntmps252;go_wp2_with fail;refine HST.out.mono ?_;rintro e w1 ⟨s,rfl,hQ⟩;go_wp2_with fail;exact hQ
theorem stepMv_k (F:Nat) (u:Value) (hx:∀ (ar:Array Value) (v:World),(callFunc F ar).run prog v=.ok (.enter F ar) v) (Q:Ending->World->Prop)
  (hE:Env w0 (boxI l (lkC c x y z W C X (mvL F l) 0)::L) w)
  (hc:Calls prog F #[.pointer (some ⟨l,0,none⟩),u] w fun e w'=>∃ s,e=.returned (.int .i64 s)/\Q (.returned (.int .i64 s)) w') :
  Calls prog 248 #[.pointer (some ⟨l,0,none⟩),u] w Q:=by
 have HST:=zH (stepMv_r (o:=13) F hx (.pointer (some ⟨l,0,none⟩)) u (fun o w'=>∃ s,o=.returned (.int .i64 s)/\Q (.returned (.int .i64 s)) w') (hE.rule 0 rfl 13) (hE.rule 0 rfl 14) (hc.mono fun e w' ⟨s,he,hq⟩=>⟨s,he,s,rfl,hq⟩));clear hc hE;go_enter func248,ntmps248;go_wp2_with fail;refine HST.out.mono ?_;rintro e w1 ⟨s,rfl,hQ⟩;go_wp2_with fail;exact hQ
end
def PSub (C:Cf) (c o:Nat) (d:Dd) (K:Kt) (sp:Value) (F Y:Value) (sub:List Item):Prop :=
 (K.pc=1/\∃ sb,sp=.pointer (some ⟨sb,0,none⟩)/\F=mvL 190 sb/\Y=mvL 191 o/\SIt c sb d.key K.on K.L 0 sub) \/
 (K.pc=2/\∃ a left s gl,F=mvL 179 a/\Y=cmV c d.ok d.key d.val d.lv o 5 159 223/\LeftIs C d K.T left s gl/\sub=boxI a (avD c a d K.T left s)::gl) \/
 (K.pc=3/\∃ l,F=mvL 248 l/\Y=mvL 249 o/\sub=[boxI l (lkC c K.L.p.1 K.L.p.2.1 K.L.p.2.2 K.L.W K.L.C K.L.X (mvL (if K.laid then 296 else 280) l) 0)]) \/
 ((K.pc=4\/K.pc=5)/\∃ l,F=mvL 252 l/\Y=mvL 249 o/\sub=[boxI l (ukC c K.L.p.1 K.L.p.2.1 K.L.p.2.2 K.L.W K.L.C K.L.X 0 d.key (slotI K.L.X) (mvL (if K.pc=4 then 281 else 297) l) 0)]) \/
 (K.pc=6/\∃ l b3 b4 s2 sub2,F=mvL 252 l/\Y=mvL 249 o/\SIt c s2 d.key K.on2 K.L2 0 sub2/\sub=boxI l (ukC c K.L.p.1 K.L.p.2.1 K.L.p.2.2 K.L.W K.L.C K.L.X 0 d.key (slotI K.L.X) (cvP b3 b4) 0)::boxI b3 [mvL 190 s2]::boxI b4 [mvL 306 l]::sub2) \/
 (K.pc=7/\∃ l b3 b4 r,F=mvL 252 l/\Y=mvL 249 o/\sub=[boxI l (ukC c K.L.p.1 K.L.p.2.1 K.L.p.2.2 K.L.W K.L.C K.L.X 0 d.key (slotI K.L.X) (cvP b3 b4) 0),boxI b3 [mvL 304 r],boxI b4 [mvE l 17],boxI r (rtv c (nxR r K.T.rpc) K.T.rs K.T.re)])
def PM (C:Cf) (c:Nat) (d:Dd) (K:Kt) (o:Nat) (ps:List Item):Prop :=
 ∃ b1 b2 F Y sp sub,ps=boxI o (opC c d.ok d.key d.val d.lv (cvP b1 b2) 0 sp 0 false)::boxI b1 [F]::boxI b2 [Y]::sub/\PSub C c o d K sp F Y sub
def OutP (w0:World) (R:List Item) (C:Cf) (X:Tm) (V:Wm) (d:Dd) (o n:Nat) (qc:Cnt) (q:Int × Kt × Mem) (s:Int) (w':World):Prop :=
 s=q.1/\∃ F' k' G' qc' n' ps',Nx n qc n' qc'/\(q.1=0->PM C X.c d q.2.1 o ps')/\(q.1≠0->∃ nx sp,ps'=[boxI o (opC X.c d.ok d.key d.val d.lv nx q.1 sp q.2.1.err q.2.1.dn)])/\Env w0 (ps'++LT (SPK C { X with F:=F',kq:=k' } V q.2.1 q.2.2 G' qc' n') R) w'
theorem OutP.fin {w0 w:World} {R:List Item} {C:Cf} {X:Tm} {V:Wm} {d:Dd} {o n n':Nat} {K:Kt} {f:Mem} {G:Nat->Prop} {qc qc0:Cnt} {F:Nat->Prop} {k:Nat} {nx sp:Value} {s:Int} (hs:s≠0) (hn:Nx n qc0 n' qc) (hE:Env w0 (boxI o (opC X.c d.ok d.key d.val d.lv nx s sp K.err K.dn)::LT (SPK C { X with F:=F,kq:=k } V K f G qc n') R) w):OutP w0 R C X V d o n qc0 (s,K,f) s w :=
 ⟨rfl,F,k,G,qc,n',[_],hn,fun h=>absurd h hs,fun _=>⟨nx,sp,rfl⟩,hE⟩
theorem OutP.go {w0 w:World} {R sub:List Item} {C:Cf} {X:Tm} {V:Wm} {d:Dd} {o n n' b1 b2:Nat} {K:Kt} {f:Mem} {G:Nat->Prop} {qc qc0:Cnt} {F:Nat->Prop} {k:Nat} {sp F9 Y:Value} (hn:Nx n qc0 n' qc) (hp:PSub C X.c o d K sp F9 Y sub) (hE:Env w0 (boxI o (opC X.c d.ok d.key d.val d.lv (cvP b1 b2) 0 sp 0 false)::boxI b1 [F9]::boxI b2 [Y]::(sub++LT (SPK C { X with F:=F,kq:=k } V K f G qc n') R)) w):OutP w0 R C X V d o n qc0 (0,K,f) 0 w :=
 ⟨rfl,F,k,G,qc,n',boxI o _::boxI b1 _::boxI b2 _::sub,hn,fun _=>⟨b1,b2,F9,Y,sp,sub,rfl,hp⟩,fun h=>absurd rfl h,hE⟩
theorem search_state (k key:Int) (vs:Bool) (T:Sm) (f:Mem):(searchM k key vs T f).1=0\/((searchM k key vs T f).1=1/\(searchM k key vs T f).2.1.on=true):=by
 unfold searchM
 by_cases h:T.on=true
 ·rw [if_pos h];dsimp only
  by_cases h1:(laneM 0 key vs T.e T.L f).1=1
  ·rw [if_pos h1];exact .inr ⟨rfl,by rw [h1]; decide⟩
  ·rw [if_neg h1];exact .inl rfl
 ·rw [if_neg h];exact .inl rfl
theorem rest_perm (a b c:Item) (S:ST) (sub R:List Item):(a::b::c::(sub++LT S R)).Perm (sub++LT S (a::b::c::R)):=perm_of fun z=>by
 simp only [LT,List.count_append,List.count_cons];omega
section
variable {w0 w:World} {R sub:List Item} {C:Cf} {X:Tm} {V:Wm} {K:Kt} {d:Dd} {f:Mem} {G:Nat->Prop} {qc:Cnt} {n o sb b1 b2:Nat}
theorem found_p (K':Kt) (hX:InU K'.L.X) (hd1:(K'.err=0/\K'.dn=false)) (hl:K'.T.ql.length+1<=1000000) (hg:Glo w0) (a:Nat) (lnx:Value) (wd pv:Int) {w1:World} {n1:Nat} {qc0:Cnt} (hn1:Nx n qc0 n1 qc)
  (hE:Env w0 (boxI o (opC X.c d.ok d.key d.val d.lv (cvP b1 b2) 0 (.pointer (some ⟨sb,0,none⟩)) 0 false)::boxI sb (srC X.c 0 d.key false (.pointer (some ⟨a,0,none⟩)))::boxI a (laneC X.c 0 d.key false lnx 1 K'.L.p.1 K'.L.p.2.1 K'.L.p.2.2 K'.L.W K'.L.C K'.L.X wd K'.L.fd pv)::LT (SPK C X V K' f G qc n1) R) w1) (u:Int) :
  Calls prog 191 #[.pointer (some ⟨o,0,none⟩),.int .i64 u] w1 fun e2 w2=>∃ s2,e2=.returned (.int .i64 s2)/\OutP w0 R C X V d o n qc0 ((foundM C d K').1,(foundM C d K').2,f) s2 w2:=by
 obtain ⟨hd1,hd2⟩:=hd1;obtain ⟨kk,ok,key,val,lv⟩:=d;obtain ⟨T',pc',on',L',laid',on2',L2',err',dn',r'⟩:=K';dsimp only at hd1 hd2 hX hl;subst hd1;subst hd2
 by_cases h1:ok=1
 ·subst h1;cases hfd:L'.fd
  ·replace hE:Env w0 (boxI o (opC X.c 1 key val lv (cvP b1 b2) 0 (.pointer (some ⟨sb,0,none⟩)) 0 false)::boxI sb (srC X.c 0 key false (.pointer (some ⟨a,0,none⟩)))::boxI a (laneC X.c 0 key false lnx 1 L'.p.1 L'.p.2.1 L'.p.2.2 L'.W L'.C L'.X wd false pv)::LT (SPK C X V ⟨T',pc',on',L',laid',on2',L2',0,false,r'⟩ f G qc n1) R) w1:=by dsimp only at hE; rw [hfd] at hE; exact hE
   by_cases hh:T'.hs=0
   ·by_cases hdp:decP T'.ql T'.e C.l=0
    ·have hM:foundM C ⟨kk,1,key,val,lv⟩ ⟨T',pc',on',L',laid',on2',L2',0,false,r'⟩=(1,⟨T',pc',on',L',laid',on2',L2',7,false,r'⟩):=by unfold foundM; rw [if_pos rfl]; dsimp only; rw [hfd,if_neg (by decide),if_pos hh,if_pos hdp]
     rw [hM];refine (seaInsLate_o (S:=SPK C X V ⟨T',pc',on',L',laid',on2',L2',0,false,r'⟩ f G qc n1) u hh hdp hE).mono ?_;rintro e w2 ⟨rfl,hE2⟩;exact ⟨1,rfl,OutP.fin (F:=X.F) (k:=X.kq) (show (1:Int)≠0 by decide) hn1 hE2⟩
    ·have hM:foundM C ⟨kk,1,key,val,lv⟩ ⟨T',pc',on',L',laid',on2',L2',0,false,r'⟩=(0,⟨{ T' with pc:=2,apc:=decP T'.ql T'.e C.l,ah:=0,an:=0,ar:=0 },2,on',L',laid',on2',L2',0,false,r'⟩):=by unfold foundM; rw [if_pos rfl]; dsimp only; rw [hfd,if_neg (by decide),if_pos hh,if_neg hdp]
     rw [hM];refine (seaInsAlloc_o (S:=SPK C X V ⟨T',pc',on',L',laid',on2',L2',0,false,r'⟩ f G qc n1) u hh hdp hE).mono ?_;rintro e w2 ⟨rfl,c1,c2,l,hE2⟩;have hlow:decP T'.ql T'.e C.l<=10:=by rcases decP_in T'.ql T'.e C.l with h9 | h9 | h9 | h9<;>omega
     exact ⟨0,rfl,OutP.go (F:=X.F) (k:=X.kq) (sub:=[_]) hn1 (.inr (.inl ⟨rfl,l,.slice none 0 0,0,[],rfl,rfl,LeftIs.low hlow,rfl⟩)) hE2⟩
   ·have hM:foundM C ⟨kk,1,key,val,lv⟩ ⟨T',pc',on',L',laid',on2',L2',0,false,r'⟩=(0,⟨T',3,on',L',false,on2',L2',0,false,r'⟩):=by unfold foundM; rw [if_pos rfl]; dsimp only; rw [hfd,if_neg (by decide),if_neg hh]
    rw [hM];refine (seaInsLink_o (S:=SPK C X V ⟨T',pc',on',L',laid',on2',L2',0,false,r'⟩ f G qc n1) u hh hE).mono ?_;rintro e w2 ⟨rfl,c1,c2,l,hE2⟩;exact ⟨0,rfl,OutP.go (F:=X.F) (k:=X.kq) (sub:=[_]) hn1 (.inr (.inr (.inl ⟨rfl,l,rfl,rfl,rfl⟩))) hE2⟩
  ·replace hE:Env w0 (boxI o (opC X.c 1 key val lv (cvP b1 b2) 0 (.pointer (some ⟨sb,0,none⟩)) 0 false)::boxI sb (srC X.c 0 key false (.pointer (some ⟨a,0,none⟩)))::boxI a (laneC X.c 0 key false lnx 1 L'.p.1 L'.p.2.1 L'.p.2.2 L'.W L'.C L'.X wd true pv)::LT (SPK C X V ⟨T',pc',on',L',laid',on2',L2',0,false,r'⟩ f G qc n1) R) w1:=by dsimp only at hE; rw [hfd] at hE; exact hE
   have hM:foundM C ⟨kk,1,key,val,lv⟩ ⟨T',pc',on',L',laid',on2',L2',0,false,r'⟩=(1,⟨{ T' with ql:=dropQ T'.hs T'.ql,hs:=0 },pc',on',L',laid',on2',L2',0,false,r'⟩):=by unfold foundM; rw [if_pos rfl]; dsimp only; rw [hfd,if_pos rfl]
   rw [hM];refine (seaInsFound_o (S:=SPK C X V ⟨T',pc',on',L',laid',on2',L2',0,false,r'⟩ f G qc n1) u (Nat.le_trans hl (by decide)) hE).mono ?_;rintro e w2 ⟨rfl,F',k',hE2⟩;exact ⟨1,rfl,OutP.fin (F:=F') (k:=k') (show (1:Int)≠0 by decide) hn1 hE2⟩
 ·by_cases h2:ok=2
  ·subst h2;cases hfd:L'.fd
   ·replace hE:Env w0 (boxI o (opC X.c 2 key val lv (cvP b1 b2) 0 (.pointer (some ⟨sb,0,none⟩)) 0 false)::boxI sb (srC X.c 0 key false (.pointer (some ⟨a,0,none⟩)))::boxI a (laneC X.c 0 key false lnx 1 L'.p.1 L'.p.2.1 L'.p.2.2 L'.W L'.C L'.X wd false pv)::LT (SPK C X V ⟨T',pc',on',L',laid',on2',L2',0,false,r'⟩ f G qc n1) R) w1:=by dsimp only at hE; rw [hfd] at hE; exact hE
    have hM:foundM C ⟨kk,2,key,val,lv⟩ ⟨T',pc',on',L',laid',on2',L2',0,false,r'⟩=(1,⟨T',pc',on',L',laid',on2',L2',0,false,r'⟩):=by unfold foundM; rw [if_neg h1]; dsimp only; rw [hfd,if_neg (by simp)]
    rw [hM];refine (seaDelNo_o u hE).mono ?_;rintro e w2 ⟨rfl,hE2⟩;exact ⟨1,rfl,OutP.fin (F:=X.F) (k:=X.kq) (show (1:Int)≠0 by decide) hn1 hE2⟩
   ·replace hE:Env w0 (boxI o (opC X.c 2 key val lv (cvP b1 b2) 0 (.pointer (some ⟨sb,0,none⟩)) 0 false)::boxI sb (srC X.c 0 key false (.pointer (some ⟨a,0,none⟩)))::boxI a (laneC X.c 0 key false lnx 1 L'.p.1 L'.p.2.1 L'.p.2.2 L'.W L'.C L'.X wd true pv)::LT (SPK C X V ⟨T',pc',on',L',laid',on2',L2',0,false,r'⟩ f G qc n1) R) w1:=by dsimp only at hE; rw [hfd] at hE; exact hE
    have hM:foundM C ⟨kk,2,key,val,lv⟩ ⟨T',pc',on',L',laid',on2',L2',0,false,r'⟩=(0,⟨T',4,on',L',laid',on2',L2',0,false,r'⟩):=by unfold foundM; rw [if_neg h1]; dsimp only; rw [hfd,if_pos ⟨rfl,rfl⟩]
    rw [hM];refine (seaDelYes_o u hX hg hE).mono ?_;rintro e w2 ⟨rfl,c1,c2,l,hE2⟩;exact ⟨0,rfl,OutP.go (F:=X.F) (k:=X.kq) (sub:=[_]) hn1 (.inr (.inr (.inr (.inl ⟨.inl rfl,l,rfl,rfl,rfl⟩)))) hE2⟩
  ·have hM:foundM C ⟨kk,ok,key,val,lv⟩ ⟨T',pc',on',L',laid',on2',L2',0,false,r'⟩=(1,⟨T',pc',on',L',laid',on2',L2',0,L'.fd,r'⟩):=by unfold foundM; rw [if_neg h1,if_neg (fun h=>h2 h.1)]
   rw [hM];refine (seaHas_o u h1 h2 hE).mono ?_;rintro e w2 ⟨rfl,hE2⟩;exact ⟨1,rfl,OutP.fin (F:=X.F) (k:=X.kq) (show (1:Int)≠0 by decide) hn1 hE2⟩
theorem op1_p (hpc:K.pc=1) (hon:K.on=true->LaneOk C K.L) (hsp:(searchM 0 d.key false ⟨K.on,K.L,K.T.e,K.r⟩ f).1=1->InU (searchM 0 d.key false ⟨K.on,K.L,K.T.e,K.r⟩ f).2.1.L.X) (hda:K.err=0/\K.dn=false) (hl:K.T.ql.length+1<=1000000) (hg:Glo w0) (hn:n < maxLen) (hS:SIt X.c sb d.key K.on K.L 0 sub)
  (hE:Env w0 (boxI o (opC X.c d.ok d.key d.val d.lv (cvP b1 b2) 0 (.pointer (some ⟨sb,0,none⟩)) 0 false)::boxI b1 [mvL 190 sb]::boxI b2 [mvL 191 o]::(sub++LT (SPK C X V K f G qc n) R)) w) :
  Calls prog 350 #[.pointer (some ⟨o,0,none⟩),.iface 28 (.pointer (some ⟨V.p,0,none⟩))] w fun e w'=>∃ s,e=.returned (.int .i64 s)/\OutP w0 R C X V d o n qc (opM C d K f) s w':=by
 have hM:opM C d K f=if (searchM 0 d.key false ⟨K.on,K.L,K.T.e,K.r⟩ f).1=1 then ((foundM C d { K with on:=(searchM 0 d.key false ⟨K.on,K.L,K.T.e,K.r⟩ f).2.1.on,L:=(searchM 0 d.key false ⟨K.on,K.L,K.T.e,K.r⟩ f).2.1.L,r:=(searchM 0 d.key false ⟨K.on,K.L,K.T.e,K.r⟩ f).2.1.r,T:={ K.T with e:=(searchM 0 d.key false ⟨K.on,K.L,K.T.e,K.r⟩ f).2.1.e } }).1,(foundM C d { K with on:=(searchM 0 d.key false ⟨K.on,K.L,K.T.e,K.r⟩ f).2.1.on,L:=(searchM 0 d.key false ⟨K.on,K.L,K.T.e,K.r⟩ f).2.1.L,r:=(searchM 0 d.key false ⟨K.on,K.L,K.T.e,K.r⟩ f).2.1.r,T:={ K.T with e:=(searchM 0 d.key false ⟨K.on,K.L,K.T.e,K.r⟩ f).2.1.e } }).2,(searchM 0 d.key false ⟨K.on,K.L,K.T.e,K.r⟩ f).2.2) else (0,{ K with on:=(searchM 0 d.key false ⟨K.on,K.L,K.T.e,K.r⟩ f).2.1.on,L:=(searchM 0 d.key false ⟨K.on,K.L,K.T.e,K.r⟩ f).2.1.L,r:=(searchM 0 d.key false ⟨K.on,K.L,K.T.e,K.r⟩ f).2.1.r,T:={ K.T with e:=(searchM 0 d.key false ⟨K.on,K.L,K.T.e,K.r⟩ f).2.1.e } },(searchM 0 d.key false ⟨K.on,K.L,K.T.e,K.r⟩ f).2.2):=by
  unfold opM;rw [if_pos hpc]
 rw [hM];refine step_o 190 sb 191 _ (fun _ _=>by kernel_rfl) (fun _ _=>by kernel_rfl) _ hE ?_;refine (search_I (C:=C) (X:=X) (V:=V) (T:=K.T) (r:=K.r) hon hg hn hS (hE.perm (rest_perm _ _ _ _ _ _))).mono ?_;rintro e w1 ⟨rfl,G',qc',n',sub',hn',hS',hE'⟩;have hst:=search_state 0 d.key false ⟨K.on,K.L,K.T.e,K.r⟩ f;generalize searchM 0 d.key false ⟨K.on,K.L,K.T.e,K.r⟩ f=q at *;obtain ⟨q1,⟨on',L',e',r'⟩,f'⟩:=q;dsimp only at hst hS' hE' hsp ⊢;have hE2:=hE'.perm (rest_perm _ _ _ _ _ _).symm;refine ⟨q1,rfl,fun h0=>?_,fun h0=>?_⟩
 ·subst h0;rw [if_neg (by decide)];exact OutP.go (F:=X.F) (k:=X.kq) hn' (.inl ⟨hpc,sb,rfl,rfl,rfl,hS'⟩) hE2
 ·rcases hst with h9 | ⟨h9,h8⟩
  ·exact absurd h9 h0
  ·subst h9;subst h8;rw [if_pos rfl]
   rcases hS' with ⟨h7,-⟩ | ⟨-,a,nx,wd,B1,B2,-,rfl⟩
   ·exact absurd h7 (by decide)
   ·refine ⟨hE2.rule 2 rfl 0,?_⟩;have hE3:=hE2.sub (L':=boxI o (opC X.c d.ok d.key d.val d.lv (cvP b1 b2) 0 (.pointer (some ⟨sb,0,none⟩)) 0 false)::boxI sb (srC X.c 0 d.key false (.pointer (some ⟨a,0,none⟩)))::boxI a (laneV X.c 0 d.key false nx 1 wd (pfS 1 L') (pvS 1 L') L')::LT (SP C { X with cr:=r' } V { K.T with e:=e' } f' G' qc' n') R) (.cons_cons _ (.cons _ (.cons _ (.cons_cons _ (.cons_cons _ (.cons _ (.cons _ (List.Sublist.refl _))))))));exact found_p (C:=C) (X:=X) (V:=V) (d:=d) (f:=f') (G:=G') (qc:=qc') (n:=n) { K with on:=true,L:=L',r:=r',T:={ K.T with e:=e' } } (hsp rfl) hda hl hg a nx wd _ hn' hE3 1
end
section
variable {w0 w:World} {R gl:List Item} {C:Cf} {X:Tm} {V:Wm} {K:Kt} {d:Dd} {f:Mem} {G:Nat->Prop} {qc:Cnt} {n o a l b1 b2:Nat} {left:Value} {s9:Int} {sp:Value}
theorem al_perm (x y z a:Item) (S:ST) (gl R:List Item):(x::y::z::((a::gl)++LT S R)).Perm (a::LT S (gl++(x::y::z::R))):=perm_of fun t=>by
 simp only [LT,List.count_append,List.count_cons];omega
theorem OutP.find {w':World} {K0:Kt} {n' c1 c2 sb:Nat} {F:Nat->Prop} {k:Nat} {G':Nat->Prop} {qc':Cnt} {f':Mem} (hda:K0.err=0/\K0.dn=false) (hn:Nx n qc n' qc') (hE:Env w0 (boxI o (opC X.c d.ok d.key d.val d.lv (cvP c1 c2) 0 (.pointer (some ⟨sb,0,none⟩)) 0 false)::boxI c1 [mvL 190 sb]::boxI c2 [mvL 191 o]::boxI sb (srC X.c 0 d.key false (.pointer none))::LT (SPK C { X with F:=F,kq:=k } V K0 f' G' qc' n') R) w'):OutP w0 R C X V d o n qc (0,findM K0,f') 0 w' :=
 OutP.go (F:=F) (k:=k) (sub:=[_]) hn (.inl ⟨rfl,sb,rfl,rfl,rfl,.inl ⟨rfl,rfl,.inl rfl⟩⟩) hE
theorem op2_p (hpc:K.pc=2) (hk:RowOk C K.T n) (hd:InU d.key/\InU d.val) (hda:K.err=0/\K.dn=false) (hg:Glo w0) (hlf:LeftIs C d K.T left s9 gl)
  (hE:Env w0 (boxI o (opC X.c d.ok d.key d.val d.lv (cvP b1 b2) 0 sp 0 false)::boxI b1 [mvL 179 a]::boxI b2 [cmV X.c d.ok d.key d.val d.lv o 5 159 223]::((boxI a (avD X.c a d K.T left s9)::gl)++LT (SPK C X V K f G qc n) R)) w) :
  Calls prog 350 #[.pointer (some ⟨o,0,none⟩),.iface 28 (.pointer (some ⟨V.p,0,none⟩))] w fun e w'=>∃ s,e=.returned (.int .i64 s)/\OutP w0 R C X V d o n qc (opM C d K f) s w':=by
 have hM:opM C d K f=if (allocM C d K.T f).1=0 then (0,{ K with T:=(allocM C d K.T f).2.1 },(allocM C d K.T f).2.2) else if (allocM C d K.T f).1=3 then (1,{ K with T:={ (allocM C d K.T f).2.1 with pc:=0 },err:=6 },(allocM C d K.T f).2.2) else if (allocM C d K.T f).1=4 then (1,{ K with T:={ (allocM C d K.T f).2.1 with pc:=0 },err:=7 },(allocM C d K.T f).2.2) else (0,findM { K with T:={ (allocM C d K.T f).2.1 with pc:=0 } },(allocM C d K.T f).2.2):=by
  unfold opM;rw [if_neg (by omega),if_pos hpc]
 rw [hM];refine step_oV 179 a 178 (ndV X.c d.ok d.key d.val d.lv o 5 159 223) _ (fun _ _=>by kernel_rfl) (fun _ _=>by kernel_rfl) _ hE ?_;refine (alPx (C:=C) (X:={ X with cr:=K.r }) (V:=V) (T:=K.T) (d:=d) hg hk hd hlf (hE.perm (al_perm _ _ _ _ _ _ _))).mono ?_;rintro e w1 ⟨rfl,F',k',G',qc',n',hn',hcase⟩;have hst:=allocM_state C d K.T f;generalize allocM C d K.T f=q at *;obtain ⟨q1,T',f'⟩:=q;dsimp only at hst hcase ⊢;refine ⟨q1,rfl,fun h0=>?_,fun h0=>?_⟩
 ·subst h0;rw [if_pos rfl]
  rcases hcase with ⟨-,left',s',gl',hlf',hE'⟩ | ⟨h9,-⟩
  ·exact OutP.go (F:=F') (k:=k') (sub:=_::gl') hn' (.inr (.inl ⟨hpc,a,left',s',gl',rfl,rfl,hlf',rfl⟩)) (hE'.perm (al_perm _ _ _ _ _ _ _).symm)
  ·exact absurd rfl h9
 ·rw [if_neg h0]
  rcases hcase with ⟨h9,-⟩ | ⟨-,hE'⟩
  ·exact absurd h9 h0
  have hE2:=hE'.perm (rest_perm (boxI o (opC X.c d.ok d.key d.val d.lv (cvP b1 b2) 0 sp 0 false)) (boxI b1 [mvL 179 a]) (boxI b2 [cmV X.c d.ok d.key d.val d.lv o 5 159 223]) _ [] R).symm;refine ⟨hE2.rule 2 rfl 0,?_⟩;have hE3:=hE2.sub (L':=boxI o (opC X.c d.ok d.key d.val d.lv (cvP b1 b2) 0 sp 0 false)::LT (SP C { { X with cr:=K.r } with F:=F',kq:=k' } V T' f' G' qc' n') R) (.cons_cons _ (.cons _ (.cons _ (List.Sublist.refl _))))
  rcases hst with h | h | h | h | h
  ·exact absurd h h0
  ·subst h;refine cameFind_n 1 (.inl rfl) (fun _ _=>by kernel_rfl) _ hE3 fun v hv=>(find_o hv).mono ?_;rintro e w2 ⟨rfl,c1,c2,sb,hE4⟩;exact ⟨0,rfl,OutP.find (K0:={ K with T:={ T' with pc:=0 } }) (F:=F') (k:=k') hda hn' hE4⟩
  ·subst h;refine cameFind_n 2 (.inr rfl) (fun _ _=>by kernel_rfl) _ hE3 fun v hv=>(find_o hv).mono ?_;rintro e w2 ⟨rfl,c1,c2,sb,hE4⟩;exact ⟨0,rfl,OutP.find (K0:={ K with T:={ T' with pc:=0 } }) (F:=F') (k:=k') hda hn' hE4⟩
  ·subst h;refine cameOver_n 3 (.inl rfl) (fun _ _=>by kernel_rfl) _ hE3 fun v hv=>(over_o (3+3) false hv).mono ?_;rintro e w2 ⟨rfl,hE4⟩;rw [if_pos rfl];have h5:opC X.c d.ok d.key d.val d.lv (cvP b1 b2) 1 sp (3+3) false=opC X.c d.ok d.key d.val d.lv (cvP b1 b2) 1 sp 6 K.dn:=by rw [hda.2]; rfl
   rw [h5] at hE4;exact ⟨1,rfl,OutP.fin (K:={ K with T:={ T' with pc:=0 },err:=6 }) (F:=F') (k:=k') (show (1:Int)≠0 by decide) hn' hE4⟩
  ·subst h;refine cameOver_n 4 (.inr rfl) (fun _ _=>by kernel_rfl) _ hE3 fun v hv=>(over_o (4+3) false hv).mono ?_;rintro e w2 ⟨rfl,hE4⟩;rw [if_neg (by decide),if_pos rfl];have h5:opC X.c d.ok d.key d.val d.lv (cvP b1 b2) 1 sp (4+3) false=opC X.c d.ok d.key d.val d.lv (cvP b1 b2) 1 sp 7 K.dn:=by rw [hda.2]; rfl
   rw [h5] at hE4;exact ⟨1,rfl,OutP.fin (K:={ K with T:={ T' with pc:=0 },err:=7 }) (F:=F') (k:=k') (show (1:Int)≠0 by decide) hn' hE4⟩
theorem op3_p (hpc:K.pc=3) (hh:K.T.hs≠0) (hhs:In64 K.T.hs) (hW:InU K.L.W) (hwf:Wf K.L.p) (hda:K.err=0/\K.dn=false) (hg:Glo w0) (hn:n < maxLen)
  (hE:Env w0 (boxI o (opC X.c d.ok d.key d.val d.lv (cvP b1 b2) 0 sp 0 false)::boxI b1 [mvL 248 l]::boxI b2 [mvL 249 o]::([boxI l (lkC X.c K.L.p.1 K.L.p.2.1 K.L.p.2.2 K.L.W K.L.C K.L.X (mvL (if K.laid then 296 else 280) l) 0)]++LT (SPK C X V K f G qc n) R)) w) :
  Calls prog 350 #[.pointer (some ⟨o,0,none⟩),.iface 28 (.pointer (some ⟨V.p,0,none⟩))] w fun e w'=>∃ s,e=.returned (.int .i64 s)/\OutP w0 R C X V d o n qc (opM C d K f) s w':=by
 refine step_o 248 l 249 _ (fun _ _=>by kernel_rfl) (fun _ _=>by kernel_rfl) _ hE ?_;have hE1:=hE.perm (rest_perm _ _ _ _ _ _);cases hl:K.laid
 ·rw [hl,if_neg (by decide)] at hE1;have hM:opM C d K f=(0,{ K with laid:=true },upd f (5,K.T.hs,7) (wordI false (slotI K.L.W) K.T.e)):=by
   unfold opM;rw [if_neg (by omega),if_neg (by omega),if_pos hpc,hl,if_neg (by decide)]
  rw [hM];refine stepMv_k 280 _ (fun _ _=>by kernel_rfl) _ hE1 ?_;refine (store_k (S:=SPK C X V K f G qc n) hh hhs hW hg hn hE1).mono ?_;rintro e w1 ⟨rfl,G',hE2⟩;refine ⟨0,rfl,0,rfl,fun _=>?_,fun h=>absurd rfl h⟩;refine OutP.go (K:={ K with laid:=true }) (F:=X.F) (k:=X.kq) (sub:=[_]) ⟨Nat.le_refl _,(by first | exact Or.inl ⟨rfl,rfl,rfl,rfl⟩ | exact Or.inr (Or.inl ⟨rfl,rfl,rfl,rfl⟩) | exact Or.inr (Or.inr (Or.inl ⟨rfl,rfl,rfl,rfl⟩)) | exact Or.inr (Or.inr (Or.inr ⟨rfl,rfl,rfl,rfl⟩)))⟩ (.inr (.inr (.inl ⟨hpc,l,rfl,rfl,rfl⟩))) (hE2.perm (rest_perm _ _ _ _ [_] _).symm)
 ·rw [hl,if_pos rfl] at hE1;refine stepMv_k 296 _ (fun _ _=>by kernel_rfl) _ hE1 ?_;refine (put_k (S:=SPK C X V K f G qc n) hh hwf hg hn hE1).mono ?_;rintro e w1 ⟨rfl,G',hE2⟩;refine ⟨_,rfl,_,rfl,fun h0=>?_,fun _=>?_⟩
  ·exfalso
   split at h0<;>exact absurd h0 (by decide)
  have hE3:=hE2.perm (rest_perm (boxI o (opC X.c d.ok d.key d.val d.lv (cvP b1 b2) 0 sp 0 false)) (boxI b1 [mvL 248 l]) (boxI b2 [mvL 249 o]) _ [] R).symm;refine ⟨hE3.rule 2 rfl 0,?_⟩
  by_cases heq:f K.L.p=K.L.W
  ·have heq':(SPK C X V K f G qc n).f (K.L.p.1,K.L.p.2.1,K.L.p.2.2)=K.L.W:=heq;have hM:opM C d K f=(1,{ K with T:={ K.T with hs:=0 },dn:=true },swf f K.L.p K.L.W (wordI false K.T.hs K.T.e)):=by
    unfold opM;rw [if_neg (by omega),if_neg (by omega),if_pos hpc,hl,if_pos rfl,if_pos heq]
   rw [hM,if_pos heq'];have hE4:=hE3.sub (L':=boxI o (opC X.c d.ok d.key d.val d.lv (cvP b1 b2) 0 sp 0 false)::LT _ R) (.cons_cons _ (.cons _ (.cons _ (List.Sublist.refl _))));refine (changedDone_o hE4).mono ?_;rintro e w2 ⟨rfl,hE5⟩;rw [if_pos heq'] at hE5;have h5:opC X.c d.ok d.key d.val d.lv (cvP b1 b2) 1 sp 0 true=opC X.c d.ok d.key d.val d.lv (cvP b1 b2) 1 sp K.err true:=by rw [hda.1]
   rw [h5] at hE5;exact ⟨1,rfl,OutP.fin (K:={ K with T:={ K.T with hs:=0 },dn:=true }) (F:=X.F) (k:=X.kq) (show (1:Int)≠0 by decide) ⟨Nat.le_refl _,(by first | exact Or.inl ⟨rfl,rfl,rfl,rfl⟩ | exact Or.inr (Or.inl ⟨rfl,rfl,rfl,rfl⟩) | exact Or.inr (Or.inr (Or.inl ⟨rfl,rfl,rfl,rfl⟩)) | exact Or.inr (Or.inr (Or.inr ⟨rfl,rfl,rfl,rfl⟩)))⟩ hE5⟩
  ·have heq':¬ (SPK C X V K f G qc n).f (K.L.p.1,K.L.p.2.1,K.L.p.2.2)=K.L.W:=heq;have hM:opM C d K f=(0,findM K,swf f K.L.p K.L.W (wordI false K.T.hs K.T.e)):=by
    unfold opM;rw [if_neg (by omega),if_neg (by omega),if_pos hpc,hl,if_pos rfl,if_neg heq]
   rw [hM,if_neg heq'];have hE4:=hE3.sub (L':=boxI o (opC X.c d.ok d.key d.val d.lv (cvP b1 b2) 0 sp 0 false)::LT _ R) (.cons_cons _ (.cons _ (.cons _ (List.Sublist.refl _))));refine (changedFind_o hE4).mono ?_;rintro e w2 ⟨rfl,c1,c2,sb,hE5⟩;rw [if_neg heq'] at hE5;exact ⟨0,rfl,OutP.find (K0:=K) (F:=X.F) (k:=X.kq) hda ⟨Nat.le_refl _,(by first | exact Or.inl ⟨rfl,rfl,rfl,rfl⟩ | exact Or.inr (Or.inl ⟨rfl,rfl,rfl,rfl⟩) | exact Or.inr (Or.inr (Or.inl ⟨rfl,rfl,rfl,rfl⟩)) | exact Or.inr (Or.inr (Or.inr ⟨rfl,rfl,rfl,rfl⟩)))⟩ hE5⟩
end
section
variable {w0 w:World} {R sub2:List Item} {C:Cf} {X:Tm} {V:Wm} {K:Kt} {d:Dd} {f:Mem} {G:Nat->Prop} {qc:Cnt} {n o l r s2 b1 b2 b3 b4:Nat} {sp:Value}
theorem op4_p (hpc:K.pc=4) (hX:InU K.L.X) (hmk:markB K.L.X=false) (hs0:K.T.hs=0) (hC:In64 K.L.C) (hda:K.err=0/\K.dn=false) (hg:Glo w0) (hn:n < maxLen)
  (hE:Env w0 (boxI o (opC X.c d.ok d.key d.val d.lv (cvP b1 b2) 0 sp 0 false)::boxI b1 [mvL 252 l]::boxI b2 [mvL 249 o]::([boxI l (ukC X.c K.L.p.1 K.L.p.2.1 K.L.p.2.2 K.L.W K.L.C K.L.X 0 d.key (slotI K.L.X) (mvL 281 l) 0)]++LT (SPK C X V K f G qc n) R)) w) :
  Calls prog 350 #[.pointer (some ⟨o,0,none⟩),.iface 28 (.pointer (some ⟨V.p,0,none⟩))] w fun e w'=>∃ s,e=.returned (.int .i64 s)/\OutP w0 R C X V d o n qc (opM C d K f) s w':=by
 refine step_o 252 l 249 _ (fun _ _=>by kernel_rfl) (fun _ _=>by kernel_rfl) _ hE ?_;have hE1:=hE.perm (rest_perm _ _ _ _ _ _);refine stepMv_u 281 _ (fun _ _=>by kernel_rfl) _ hE1 ?_;refine (mark_k (S:=SPK C X V K f G qc n) hX hmk hs0 hC hg hn hE1).mono ?_;rintro e w1 ⟨rfl,G',nx',hnx,hE2⟩
 by_cases heq:f (5,K.L.C,7)=K.L.X
 ·have heq':(SPK C X V K f G qc n).f (5,K.L.C,7)=K.L.X:=heq;have hM:opM C d K f=(0,{ K with pc:=5 },swf f (5,K.L.C,7) K.L.X (markM K.L.X K.T.e)):=by
   unfold opM;rw [if_neg (by omega),if_neg (by omega),if_neg (by omega),if_pos hpc,if_pos heq]
  rw [hM];rw [if_pos heq'] at hE2 ⊢;refine ⟨0,rfl,0,rfl,fun _=>?_,fun h=>absurd rfl h⟩;have hnx:=hnx heq';subst hnx;exact OutP.go (K:={ K with pc:=5 }) (F:=X.F) (k:=X.kq) (sub:=[_]) ⟨Nat.le_refl _,(by first | exact Or.inl ⟨rfl,rfl,rfl,rfl⟩ | exact Or.inr (Or.inl ⟨rfl,rfl,rfl,rfl⟩) | exact Or.inr (Or.inr (Or.inl ⟨rfl,rfl,rfl,rfl⟩)) | exact Or.inr (Or.inr (Or.inr ⟨rfl,rfl,rfl,rfl⟩)))⟩ (.inr (.inr (.inr (.inl ⟨.inr rfl,l,rfl,rfl,rfl⟩)))) (hE2.perm (rest_perm _ _ _ _ [_] _).symm)
 ·have heq':¬ (SPK C X V K f G qc n).f (5,K.L.C,7)=K.L.X:=heq;have hM:opM C d K f=(0,findM K,swf f (5,K.L.C,7) K.L.X (markM K.L.X K.T.e)):=by
   unfold opM;rw [if_neg (by omega),if_neg (by omega),if_neg (by omega),if_pos hpc,if_neg heq]
  rw [hM];rw [if_neg heq'] at hE2 ⊢;refine ⟨2,rfl,2,rfl,fun h=>absurd h (by decide),fun _=>?_⟩;have hE3:=hE2.perm (rest_perm (boxI o (opC X.c d.ok d.key d.val d.lv (cvP b1 b2) 0 sp 0 false)) (boxI b1 [mvL 252 l]) (boxI b2 [mvL 249 o]) _ [_] R).symm;refine ⟨hE3.rule 2 rfl 0,?_⟩;have hE4:=hE3.sub (L':=boxI o (opC X.c d.ok d.key d.val d.lv (cvP b1 b2) 0 sp 0 false)::LT _ R) (.cons_cons _ (.cons _ (.cons _ (.cons _ (List.Sublist.refl _)))));refine (changedFind_o hE4).mono ?_;rintro e w2 ⟨rfl,c1,c2,sb,hE5⟩;exact ⟨0,rfl,OutP.find (K0:=K) (F:=X.F) (k:=X.kq) hda ⟨Nat.le_refl _,(by first | exact Or.inl ⟨rfl,rfl,rfl,rfl⟩ | exact Or.inr (Or.inl ⟨rfl,rfl,rfl,rfl⟩) | exact Or.inr (Or.inr (Or.inl ⟨rfl,rfl,rfl,rfl⟩)) | exact Or.inr (Or.inr (Or.inr ⟨rfl,rfl,rfl,rfl⟩)))⟩ hE5⟩
theorem op5_p (hpc:K.pc=5) (hwf:Wf K.L.p) (hg:Glo w0) (hn:n < maxLen)
  (hE:Env w0 (boxI o (opC X.c d.ok d.key d.val d.lv (cvP b1 b2) 0 sp 0 false)::boxI b1 [mvL 252 l]::boxI b2 [mvL 249 o]::([boxI l (ukC X.c K.L.p.1 K.L.p.2.1 K.L.p.2.2 K.L.W K.L.C K.L.X 0 d.key (slotI K.L.X) (mvL 297 l) 0)]++LT (SPK C X V K f G qc n) R)) w) :
  Calls prog 350 #[.pointer (some ⟨o,0,none⟩),.iface 28 (.pointer (some ⟨V.p,0,none⟩))] w fun e w'=>∃ s,e=.returned (.int .i64 s)/\OutP w0 R C X V d o n qc (opM C d K f) s w':=by
 refine step_o 252 l 249 _ (fun _ _=>by kernel_rfl) (fun _ _=>by kernel_rfl) _ hE ?_;have hE1:=hE.perm (rest_perm _ _ _ _ _ _);refine stepMv_u 297 _ (fun _ _=>by kernel_rfl) _ hE1 ?_;refine (cut_k (S:=SPK C X V K f G qc n) hwf hg hn hE1).mono ?_;rintro e w1 ⟨rfl,G',b3,b4,hc⟩;refine ⟨0,rfl,0,rfl,fun _=>?_,fun h=>absurd rfl h⟩
 rcases hc with ⟨heq,r,hE2⟩ | ⟨heq,sb,hE2⟩
 ·have heq':f K.L.p=K.L.W:=heq;have hM:opM C d K f=(0,{ K with pc:=7,T:={ K.T with pc:=3,rs:=K.L.C,rpc:=0,re:=0 } },swf f K.L.p K.L.W (wordI false (slotI K.L.X) K.T.e)):=by
   unfold opM;rw [if_neg (by omega),if_neg (by omega),if_neg (by omega),if_neg (by omega),if_pos hpc,if_pos heq']
  rw [hM];exact OutP.go (K:={ K with pc:=7,T:={ K.T with pc:=3,rs:=K.L.C,rpc:=0,re:=0 } }) (F:=X.F) (k:=X.kq) (sub:=[_,_,_,_]) ⟨Nat.le_refl _,(by first | exact Or.inl ⟨rfl,rfl,rfl,rfl⟩ | exact Or.inr (Or.inl ⟨rfl,rfl,rfl,rfl⟩) | exact Or.inr (Or.inr (Or.inl ⟨rfl,rfl,rfl,rfl⟩)) | exact Or.inr (Or.inr (Or.inr ⟨rfl,rfl,rfl,rfl⟩)))⟩ (.inr (.inr (.inr (.inr (.inr ⟨rfl,l,b3,b4,r,rfl,rfl,rfl⟩))))) (hE2.perm (rest_perm _ _ _ _ [_,_,_,_] _).symm)
 ·have heq':¬ f K.L.p=K.L.W:=heq;have hM:opM C d K f=(0,{ K with pc:=6,on2:=false,L2:=L0 (4,0,0) },swf f K.L.p K.L.W (wordI false (slotI K.L.X) K.T.e)):=by
   unfold opM;rw [if_neg (by omega),if_neg (by omega),if_neg (by omega),if_neg (by omega),if_pos hpc,if_neg heq']
  rw [hM];exact OutP.go (K:={ K with pc:=6,on2:=false,L2:=L0 (4,0,0) }) (F:=X.F) (k:=X.kq) (sub:=[_,_,_,_]) ⟨Nat.le_refl _,(by first | exact Or.inl ⟨rfl,rfl,rfl,rfl⟩ | exact Or.inr (Or.inl ⟨rfl,rfl,rfl,rfl⟩) | exact Or.inr (Or.inr (Or.inl ⟨rfl,rfl,rfl,rfl⟩)) | exact Or.inr (Or.inr (Or.inr ⟨rfl,rfl,rfl,rfl⟩)))⟩ (.inr (.inr (.inr (.inr (.inl ⟨rfl,l,b3,b4,sb,[_],rfl,rfl,.inl ⟨rfl,rfl,.inl rfl⟩,rfl⟩))))) (hE2.perm (rest_perm _ _ _ _ [_,_,_,_] _).symm)
theorem op6_p (hpc:K.pc=6) (hon:K.on2=true->LaneOk C K.L2) (hg:Glo w0) (hn:n < maxLen) (hS:SIt X.c s2 d.key K.on2 K.L2 0 sub2)
  (hE:Env w0 (boxI o (opC X.c d.ok d.key d.val d.lv (cvP b1 b2) 0 sp 0 false)::boxI b1 [mvL 252 l]::boxI b2 [mvL 249 o]::((boxI l (ukC X.c K.L.p.1 K.L.p.2.1 K.L.p.2.2 K.L.W K.L.C K.L.X 0 d.key (slotI K.L.X) (cvP b3 b4) 0)::boxI b3 [mvL 190 s2]::boxI b4 [mvL 306 l]::sub2)++LT (SPK C X V K f G qc n) R)) w) :
  Calls prog 350 #[.pointer (some ⟨o,0,none⟩),.iface 28 (.pointer (some ⟨V.p,0,none⟩))] w fun e w'=>∃ s,e=.returned (.int .i64 s)/\OutP w0 R C X V d o n qc (opM C d K f) s w':=by
 have hM:opM C d K f=if (searchM 0 d.key false ⟨K.on2,K.L2,K.T.e,K.r⟩ f).1=1 then (0,{ K with on2:=(searchM 0 d.key false ⟨K.on2,K.L2,K.T.e,K.r⟩ f).2.1.on,L2:=(searchM 0 d.key false ⟨K.on2,K.L2,K.T.e,K.r⟩ f).2.1.L,r:=(searchM 0 d.key false ⟨K.on2,K.L2,K.T.e,K.r⟩ f).2.1.r,pc:=7,T:={ K.T with e:=(searchM 0 d.key false ⟨K.on2,K.L2,K.T.e,K.r⟩ f).2.1.e,pc:=3,rs:=K.L.C,rpc:=0,re:=0 } },(searchM 0 d.key false ⟨K.on2,K.L2,K.T.e,K.r⟩ f).2.2) else (0,{ K with on2:=(searchM 0 d.key false ⟨K.on2,K.L2,K.T.e,K.r⟩ f).2.1.on,L2:=(searchM 0 d.key false ⟨K.on2,K.L2,K.T.e,K.r⟩ f).2.1.L,r:=(searchM 0 d.key false ⟨K.on2,K.L2,K.T.e,K.r⟩ f).2.1.r,T:={ K.T with e:=(searchM 0 d.key false ⟨K.on2,K.L2,K.T.e,K.r⟩ f).2.1.e } },(searchM 0 d.key false ⟨K.on2,K.L2,K.T.e,K.r⟩ f).2.2):=by
  unfold opM;rw [if_neg (by omega),if_neg (by omega),if_neg (by omega),if_neg (by omega),if_neg (by omega),if_pos hpc]
 rw [hM];refine step_o 252 l 249 _ (fun _ _=>by kernel_rfl) (fun _ _=>by kernel_rfl) _ hE ?_;have hP1:(boxI o (opC X.c d.ok d.key d.val d.lv (cvP b1 b2) 0 sp 0 false)::boxI b1 [mvL 252 l]::boxI b2 [mvL 249 o]::((boxI l (ukC X.c K.L.p.1 K.L.p.2.1 K.L.p.2.2 K.L.W K.L.C K.L.X 0 d.key (slotI K.L.X) (cvP b3 b4) 0)::boxI b3 [mvL 190 s2]::boxI b4 [mvL 306 l]::sub2)++LT (SPK C X V K f G qc n) R)).Perm (boxI l (ukC X.c K.L.p.1 K.L.p.2.1 K.L.p.2.2 K.L.W K.L.C K.L.X 0 d.key (slotI K.L.X) (cvP b3 b4) 0)::boxI b3 [mvL 190 s2]::boxI b4 [mvL 306 l]::(sub2++LT (SPK C X V K f G qc n) (boxI o (opC X.c d.ok d.key d.val d.lv (cvP b1 b2) 0 sp 0 false)::boxI b1 [mvL 252 l]::boxI b2 [mvL 249 o]::R))):=rest_perm _ _ _ _ _ _;have hE1:=hE.perm hP1;refine (step_u 190 s2 _ (.pointer (some ⟨l,0,none⟩)) 306 (fun _ _=>by kernel_rfl) (fun _ _=>by kernel_rfl) (fun s w'=>s=0/\OutP w0 R C X V d o n qc _ 0 w') hE1 ?_).mono (fun e w' ⟨s,he,hs,hq⟩=>⟨s,he,fun _=>hq,fun h=>absurd hs h⟩);refine (search_I (C:=C) (X:=X) (V:=V) (T:=K.T) (r:=K.r) hon hg hn hS (hE1.perm (rest_perm _ _ _ _ _ _))).mono ?_;rintro e w1 ⟨rfl,G',qc',n',sub',hn',hS',hE'⟩;have hst:=search_state 0 d.key false ⟨K.on2,K.L2,K.T.e,K.r⟩ f;generalize searchM 0 d.key false ⟨K.on2,K.L2,K.T.e,K.r⟩ f=q at *;obtain ⟨q1,⟨on',L',e',r'⟩,f'⟩:=q;dsimp only at hst hS' hE' ⊢;have hE2:=hE'.perm (rest_perm _ _ _ _ _ _).symm;refine ⟨q1,rfl,fun h0=>⟨rfl,?_⟩,fun h0=>?_⟩
 ·subst h0;rw [if_neg (by decide)];exact OutP.go (K:={ K with on2:=on',L2:=L',r:=r',T:={ K.T with e:=e' } }) (F:=X.F) (k:=X.kq) (sub:=_::_::_::sub') hn' (.inr (.inr (.inr (.inr (.inl ⟨hpc,l,b3,b4,s2,sub',rfl,rfl,hS',rfl⟩))))) (hE2.perm (rest_perm _ _ _ _ (_::_::_::sub') _).symm)
 ·rcases hst with h9 | ⟨h9,h8⟩
  ·exact absurd h9 h0
  ·subst h9;rw [if_pos rfl];refine ⟨hE2.rule 2 rfl 0,?_⟩;have hE3:=hE2.sub (L':=boxI l (ukC X.c K.L.p.1 K.L.p.2.1 K.L.p.2.2 K.L.W K.L.C K.L.X 0 d.key (slotI K.L.X) (cvP b3 b4) 0)::LT (SP C { X with cr:=r' } V { K.T with e:=e' } f' G' qc' n') (boxI o (opC X.c d.ok d.key d.val d.lv (cvP b1 b2) 0 sp 0 false)::boxI b1 [mvL 252 l]::boxI b2 [mvL 249 o]::R)) (.cons_cons _ (.cons _ (.cons _ (List.sublist_append_right sub' _))));refine (retire_k (S:=SP C { X with cr:=r' } V { K.T with e:=e' } f' G' qc' n') 1 hE3).mono ?_;rintro e2 w2 ⟨rfl,c3,c4,r9,hE4⟩;refine ⟨0,rfl,rfl,?_⟩;exact OutP.go (K:={ K with on2:=on',L2:=L',r:=r',pc:=7,T:={ K.T with e:=e',pc:=3,rs:=K.L.C,rpc:=0,re:=0 } }) (F:=X.F) (k:=X.kq) (sub:=[_,_,_,_]) hn' (.inr (.inr (.inr (.inr (.inr ⟨rfl,l,c3,c4,r9,rfl,rfl,rfl⟩))))) (hE4.perm (rest_perm _ _ _ _ [_,_,_,_] _).symm)
theorem op7_p (hpc:K.pc=7) (hl:K.T.ql.length+1<=1000000) (he:InU K.T.re) (hs:In64 K.T.rs) (hr:K.T.rpc=0\/K.T.rpc=1) (hda:K.err=0/\K.dn=false) (hn:n < maxLen)
  (hE:Env w0 (boxI o (opC X.c d.ok d.key d.val d.lv (cvP b1 b2) 0 sp 0 false)::boxI b1 [mvL 252 l]::boxI b2 [mvL 249 o]::([boxI l (ukC X.c K.L.p.1 K.L.p.2.1 K.L.p.2.2 K.L.W K.L.C K.L.X 0 d.key (slotI K.L.X) (cvP b3 b4) 0),boxI b3 [mvL 304 r],boxI b4 [mvE l 17],boxI r (rtv X.c (nxR r K.T.rpc) K.T.rs K.T.re)]++LT (SPK C X V K f G qc n) R)) w) :
  Calls prog 350 #[.pointer (some ⟨o,0,none⟩),.iface 28 (.pointer (some ⟨V.p,0,none⟩))] w fun e w'=>∃ s,e=.returned (.int .i64 s)/\OutP w0 R C X V d o n qc (opM C d K f) s w':=by
 have hM:opM C d K f=if (retireM K.T f).1=0 then (0,{ K with T:=(retireM K.T f).2.1 },(retireM K.T f).2.2) else (1,{ K with T:={ (retireM K.T f).2.1 with pc:=0 },dn:=true },(retireM K.T f).2.2):=by
  unfold opM;rw [if_neg (by omega),if_neg (by omega),if_neg (by omega),if_neg (by omega),if_neg (by omega),if_neg (by omega)]
 rw [hM];refine step_o 252 l 249 _ (fun _ _=>by kernel_rfl) (fun _ _=>by kernel_rfl) _ hE ?_;have hE1:=hE.perm (rest_perm _ _ _ _ [_,_,_,_] _);refine (step_u 304 r _ (.pointer (some ⟨l,17,none⟩)) 140 (fun _ _=>by kernel_rfl) (fun _ _=>by kernel_rfl) (fun s w'=>(s=0->OutP w0 R C X V d o n qc _ 0 w')/\(s≠0->w'.cell? ⟨b2,0,none⟩=some (mvL 249 o)/\Calls prog 249 #[.pointer (some ⟨o,0,none⟩),.int .i64 s] w' fun e2 w2=>∃ s2,e2=.returned (.int .i64 s2)/\OutP w0 R C X V d o n qc _ s2 w2)) hE1 ?_).mono (fun e w' ⟨s,he,hq⟩=>⟨s,he,hq.1,hq.2⟩);have hE2:Env w0 (boxI r (rtv X.c (nxR r K.T.rpc) K.T.rs K.T.re)::LT (SP C { X with cr:=K.r } V K.T f G qc n) (boxI l (ukC X.c K.L.p.1 K.L.p.2.1 K.L.p.2.2 K.L.W K.L.C K.L.X 0 d.key (slotI K.L.X) (cvP b3 b4) 0)::boxI b3 [mvL 304 r]::boxI b4 [mvE l 17]::boxI o (opC X.c d.ok d.key d.val d.lv (cvP b1 b2) 0 sp 0 false)::boxI b1 [mvL 252 l]::boxI b2 [mvL 249 o]::R)) w:=hE1.perm (rest_perm _ _ _ _ [_] _);refine (rePx (C:=C) (X:={ X with cr:=K.r }) (V:=V) (T:=K.T) hn hl he hs hE2).mono ?_;rintro e w1 ⟨rfl,F',k',G',qc',n',hn',hcase⟩;have hrs:(retireM K.T f).1=0\/(retireM K.T f).1=1:=by
  unfold retireM
  split
  ·exact .inl rfl
  ·exact .inr rfl
 have hkeep:(retireM K.T f).2.1.rs=K.T.rs:=by
  unfold retireM
  split<;>rfl
 generalize retireM K.T f=q at *;obtain ⟨q1,T',f'⟩:=q;dsimp only at hrs hcase hkeep ⊢;refine ⟨q1,rfl,fun h0=>⟨fun _=>?_,fun h=>absurd rfl h⟩,fun h0=>?_⟩
 ·subst h0;rw [if_pos rfl]
  rcases hcase with ⟨-,hE'⟩ | ⟨h9,-⟩
  ·exact OutP.go (K:={ K with T:=T' }) (F:=F') (k:=k') (sub:=[_,_,_,_]) hn' (.inr (.inr (.inr (.inr (.inr ⟨hpc,l,b3,b4,r,rfl,rfl,rfl⟩))))) ((hE'.perm (rest_perm _ _ _ _ [_] _).symm).perm (rest_perm _ _ _ _ [_,_,_,_] _).symm)
  ·exact absurd rfl h9
 ·rcases hrs with h | h
  ·exact absurd h h0
  subst h
  rcases hcase with ⟨h9,-⟩ | ⟨-,hE'⟩
  ·exact absurd h9 (by decide)
  have hE3:=hE'.perm (L':=boxI l (ukC X.c K.L.p.1 K.L.p.2.1 K.L.p.2.2 K.L.W K.L.C K.L.X 0 d.key (slotI K.L.X) (cvP b3 b4) 0)::boxI b3 [mvL 304 r]::boxI b4 [mvE l 17]::boxI o (opC X.c d.ok d.key d.val d.lv (cvP b1 b2) 0 sp 0 false)::boxI b1 [mvL 252 l]::boxI b2 [mvL 249 o]::LT (SP C { { X with cr:=K.r } with F:=F',kq:=k' } V T' f' G' qc' n') R) (perm_of fun z=>by simp only [LT,List.count_cons]; omega);refine ⟨hE3.rule 2 rfl 0,?_⟩;refine (end_r (o:=17) 0 1 (by simp [ukC]) hE3 rfl).mono ?_;rintro e2 w2 ⟨rfl,hE4⟩;refine ⟨1,rfl,fun h=>absurd h (by decide),fun _=>⟨hE4.rule 5 rfl 0,?_⟩⟩;have hE5:=hE4.sub (L':=boxI o (opC X.c d.ok d.key d.val d.lv (cvP b1 b2) 0 sp 0 false)::LT (SP C { { X with cr:=K.r } with F:=F',kq:=k' } V T' f' G' qc' n') R) (.cons _ (.cons _ (.cons _ (.cons_cons _ (.cons _ (.cons _ (List.Sublist.refl _)))))));refine (changedDone_o hE5).mono ?_;rintro e3 w3 ⟨rfl,hE6⟩;rw [if_neg (by decide)];have h5:opC X.c d.ok d.key d.val d.lv (cvP b1 b2) 1 sp 0 true=opC X.c d.ok d.key d.val d.lv (cvP b1 b2) 1 sp K.err true:=by rw [hda.1]
  rw [h5] at hE6;exact ⟨1,rfl,OutP.fin (K:={ K with T:={ T' with pc:=0 },dn:=true }) (F:=F') (k:=k') (show (1:Int)≠0 by decide) hn' hE6⟩
structure KcOk (C:Cf) (d:Dd) (K:Kt) (f:Mem) (n:Nat):Prop where
 (pc:1<=K.pc/\K.pc<=7)
 (da:K.err=0/\K.dn=false)
 (dk:InU d.key/\InU d.val)
 (len:K.T.ql.length+1<=1000000)
 (hn:n < maxLen)
 (s1:K.pc=1->K.on=true->LaneOk C K.L)
 (sx:K.pc=1->(searchM 0 d.key false ⟨K.on,K.L,K.T.e,K.r⟩ f).1=1->InU (searchM 0 d.key false ⟨K.on,K.L,K.T.e,K.r⟩ f).2.1.L.X)
 (row:K.pc=2->RowOk C K.T n)
 (hs:In64 K.T.hs)
 (link:K.pc=3->K.T.hs≠0)
 (sp:3<=K.pc->SpotOk C K.L)
 (un:4<=K.pc->markB K.L.X=false/\K.T.hs=0)
 (s2:K.pc=6->K.on2=true->LaneOk C K.L2)
 (re:K.pc=7->InU K.T.re/\In64 K.T.rs/\(K.T.rpc=0\/K.T.rpc=1))
theorem op_p {ps:List Item} (h:KcOk C d K f n) (hg:Glo w0) (hM:PM C X.c d K o ps) (hE:Env w0 (ps++LT (SPK C X V K f G qc n) R) w) :
  Calls prog 350 #[.pointer (some ⟨o,0,none⟩),.iface 28 (.pointer (some ⟨V.p,0,none⟩))] w fun e w'=>∃ s,e=.returned (.int .i64 s)/\OutP w0 R C X V d o n qc (opM C d K f) s w':=by
 obtain ⟨b1,b2,F,Y,sp,sub,rfl,hp⟩:=hM
 rcases hp with ⟨hpc,sb,rfl,rfl,rfl,hS⟩ | ⟨hpc,a,left,s,gl,rfl,rfl,hlf,rfl⟩ | ⟨hpc,l,rfl,rfl,rfl⟩ | ⟨hpc,l,rfl,rfl,rfl⟩ | ⟨hpc,l,b3,b4,s2,sub2,rfl,rfl,hS,rfl⟩ | ⟨hpc,l,b3,b4,r,rfl,rfl,rfl⟩
 ·exact op1_p hpc (h.s1 hpc) (h.sx hpc) h.da h.len hg h.hn hS hE
 ·exact op2_p hpc (h.row hpc) h.dk h.da hg hlf hE
 ·exact op3_p hpc (h.link hpc) h.hs (h.sp (by omega)).W (h.sp (by omega)).wf h.da hg h.hn hE
 ·have hC:=(h.sp (by omega)).Cr
  rcases hpc with hpc | hpc
  ·rw [if_pos hpc] at hE;exact op4_p hpc (h.sp (by omega)).X (h.un (by omega)).1 (h.un (by omega)).2 (by unfold In64; omega) h.da hg h.hn hE
  ·rw [if_neg (by omega)] at hE;exact op5_p hpc (h.sp (by omega)).wf hg h.hn hE
 ·exact op6_p hpc (h.s2 hpc) hg h.hn hS hE
 ·obtain ⟨h1,h2,h3⟩:=h.re hpc;exact op7_p hpc h.len h1 h2 h3 h.da h.hn hE
end
end
section
open Go.RowKit
theorem isAsked_any (k o:Int) (w:World):Calls prog 56 #[.int .i64 k,.int .i64 o] w fun e w'=>e=.returned (.bool (askB k o))/\w=w':=by
 go_enter func56,ntmps56
 go_wp2
 all_goals
  go_ret
  (try go_light)
  (try simp only [bne_iff_ne,ne_eq,bne_eq_false_iff_eq,beq_iff_eq,beq_eq_false_iff_ne,Bool.or_eq_true,Bool.and_eq_true,decide_eq_true_eq,decide_eq_false_iff_not,Bool.or_eq_false_iff,Bool.not_eq_true',Bool.not_eq_false'] at *)
  refine ⟨ret_bool ?_,(by first | rfl | trivial)⟩;rw [Bool.eq_iff_iff];unfold askB
  split
  ·simp; try omega
  ·split
   ·simp; try omega
   ·simp; try omega
theorem hasVal_any (o:Int) (w:World):Calls prog 58 #[.int .i64 o] w fun e w'=>e=.returned (.bool (putB o))/\w=w':=by
 go_enter func58,ntmps58
 go_wp2
 all_goals
  go_ret;refine ⟨ret_bool (by rw [Bool.eq_iff_iff]; simp [putB]; try omega),rfl⟩
theorem isLevel_any (k s b h l o x v y:Int) (w:World):Calls prog 57 #[.agg #[.int .i64 k,.int .i64 s,.int .i64 b,.int .i64 h,.int .i64 l],.agg #[.int .i64 o,.int .u64 x,.int .u64 v,.int .i64 y]] w fun e w'=>e=.returned (.bool (lvlB k h o y))/\Below w.heap.size w w':=by
 have hF:=((Fr.start w).push w.heap.size rfl [.int .i64 k,.int .i64 s,.int .i64 b,.int .i64 h,.int .i64 l] 23).push (w.heap.size+1) (by simp) [.int .i64 o,.int .u64 x,.int .u64 v,.int .i64 y] 51;go_enter func57,ntmps57;go_wp2_with
  (with_reducible refine (within_any _ _ _ _).mono ?_; rintro e w1 ⟨rfl,rfl⟩)
 all_goals
  go_ret
  (try go_light)
  (try simp only [bne_iff_ne,ne_eq,bne_eq_false_iff_eq,beq_iff_eq,beq_eq_false_iff_ne,Bool.or_eq_true,Bool.and_eq_true,decide_eq_true_eq,decide_eq_false_iff_not,Bool.or_eq_false_iff,Bool.not_eq_true',Bool.not_eq_false'] at *)
  (try subst_vars)
  refine ⟨ret_bool ?_,hF.below⟩;unfold lvlB
  split
  ·first | rfl | (exfalso; omega)
  ·rw [Bool.eq_iff_iff]; simp; try omega
theorem isOp_any (k s b h l o x v y:Int) (w:World):Calls prog 18 #[.agg #[.int .i64 k,.int .i64 s,.int .i64 b,.int .i64 h,.int .i64 l],.agg #[.int .i64 o,.int .u64 x,.int .u64 v,.int .i64 y]] w fun e w'=>e=.returned (.int .i64 (opI k s b h l o x v y))/\Below w.heap.size w w':=by
 have hF:=((Fr.start w).push w.heap.size rfl [.int .i64 k,.int .i64 s,.int .i64 b,.int .i64 h,.int .i64 l] 23).push (w.heap.size+1) (by simp) [.int .i64 o,.int .u64 x,.int .u64 v,.int .i64 y] 51;have r:=hF.rule 0 rfl;have q:=hF.rule 1 rfl;go_enter func18,ntmps18;go_wp2_with (first
  |
   (with_reducible refine (isAsked_any _ _ _).mono ?_; rintro e w1 ⟨rfl,rfl⟩)
  |
   (with_reducible refine (hasVal_any _ _).mono ?_; rintro e w1 ⟨rfl,rfl⟩)
  |
   (with_reducible refine (check_any _ _ _ _ _ _).mono ?_; rintro e w1 ⟨rfl,hb⟩; replace hF:=hF.over hb; clear hb r q; have r:=hF.rule 0 rfl; have q:=hF.rule 1 rfl)
  |
   (with_reducible refine (isLevel_any _ _ _ _ _ _ _ _ _ _).mono ?_; rintro e w1 ⟨rfl,hb⟩; replace hF:=hF.over hb; clear hb r q; have r:=hF.rule 0 rfl; have q:=hF.rule 1 rfl)
  )
 all_goals
  go_ret
  (try go_light)
  (try simp only [bne_iff_ne,ne_eq,bne_eq_false_iff_eq,beq_iff_eq,beq_eq_false_iff_ne,Bool.or_eq_true,Bool.and_eq_true,decide_eq_true_eq,decide_eq_false_iff_not,Bool.or_eq_false_iff,Bool.not_eq_true',Bool.not_eq_false'] at *)
  refine ⟨ret_int ?_,hF.below⟩
  (try simp only [putB,decide_eq_true_eq] at *)
  by_cases h8:o=8
  ·subst h8;simp_all [opI,argB]
  ·simp [opI,argB, *]
   (try omega)
end
section
open Go.RowKit Go.Maps
theorem kind_ofC (v:World) (a b c d e:Int):(Instr.field 23 (.agg #[.int .i64 a,.int .i64 b,.int .i64 c,.int .i64 d,.int .i64 e]) 0).run prog v=.ok (.int .i64 a) v:=by kernel_rfl
section
variable {w0 w:World} {L:List Item} {c q:Nat} {k s b h l e r hs hi:Int}
theorem newYes_o (i:Nat) (kd key val lv:Int) (h2:kd≠8) (h3:opI 1 s b h l kd key val lv=0) (hm:L[i]?=some (coreI c 1 s b h l e r hs hi q)) (hE:Env w0 L w) :
  Calls prog 137 #[.pointer (some ⟨c,0,none⟩),.agg #[.int .i64 kd,.int .u64 key,.int .u64 val,.int .i64 lv]] w fun p w'=>∃ o b1 b2 sb,p=.returned (.pointer (some ⟨o,0,none⟩))/\Env w0 (boxI o (opC c kd key val lv (cvP b1 b2) 0 (.pointer (some ⟨sb,0,none⟩)) 0 false)::boxI b1 [mvL 190 sb]::boxI b2 [mvL 191 o]::boxI sb (srC c 0 key false (.pointer none))::L) w':=by
 have hko:=kind_ofC;have hE1:=hE.box w.heap.size rfl [.int .i64 kd,.int .u64 key,.int .u64 val,.int .i64 lv] 51;have hm1:(boxI w.heap.size [.int .i64 kd,.int .u64 key,.int .u64 val,.int .i64 lv]::L)[i+1]?=some (coreI c 1 s b h l e r hs hi q):=hm;have HCF:=zH fun (v:World) (hv:Env w0 (boxI w.heap.size [.int .i64 kd,.int .u64 key,.int .u64 val,.int .i64 lv]::L) v)=>conf_c (hv.get (i+1) hm1);have hIO:=fun v=>isOp_any 1 s b h l kd key val lv v;simp only [h3] at hIO;have HIO:=zH hIO;have b2:(kd==8)=false:=by simpa using h2
 clear hIO hE hm h2 h3;go_enter func137,ntmps137;go_wp2_with fail;generalize w.alloc _=w2 at *;generalize w.heap.size=Y at *;refine wp_text (S:=(Env w0 (boxI Y [.int .i64 kd,.int .u64 key,.int .u64 val,.int .i64 lv]::L))) (by kernel_rfl) (by kernel_rfl) hE1.drew (fun hT=>?_);have hT9:=zH hT;clear hT
 repeat ((first
  | (refine text_value (v:=?_) hT9.o (by rfl) ?_ ?_; rotate_left; (intro w5 hS; have r0:=hS.rule 0 rfl; go_simp<;>rfl))
  | (refine text_off hT9.o (by rfl) ?_)
  | (refine text_call (v:=?_) (f:=?_) (args:=?_) hT9.o (by rfl) ?_ ?_ ?_; rotate_left 3; (intro w5 hS; have r0:=hS.rule 0 rfl; go_simp; constructor<;>rfl); (intro w5 hS; (first | (with_reducible refine kp (HCF.out _ hS) ?_ ?_; rfl; exact fun w6 hb5=>hS.over hb5) | (with_reducible refine kp (HIO.out _) ?_ ?_; rfl; exact fun w6 hb5=>hS.over hb5)))));try simp only [Act.put,zA,zZ,zS])
 refine InText.nil fun w5 hS5=>?_;clear hT9;clear hE1;have r0:=hS5.rule 0 rfl;go_wp2_with fail;have hE6:=hS5.box w5.heap.size rfl (opC c kd key val lv .nilFunc 0 (.pointer none) 0 false) 242;refine (find_o hE6).mono ?_;rintro p w6 ⟨rfl,b1,b3,sb,hE7⟩;go_wp2_with fail;go_ret;exact ⟨_,b1,b3,sb,rfl,hE7.sub (.cons_cons _ (.cons_cons _ (.cons_cons _ (.cons_cons _ (.cons _ (List.Sublist.refl _))))))⟩
end
theorem answer_o {w:World} {o c:Nat} {kd key val lv st er:Int} {nx sp:Value} {dn:Bool} (hb:Blk 0 w o (opC c kd key val lv nx st sp er dn)):Calls prog 349 #[.pointer (some ⟨o,0,none⟩)] w fun p w'=>p=.returned (.agg #[.int .i64 er,.bool dn,.int .u64 0])/\Below w.heap.size w w':=by
 have r1:=cell_more hb.1 hb.rule;unfold opC at r1;go_enter func349,ntmps349
 go_wp2
 exact bodyPost_ret (v:=.agg #[.int .i64 er,.bool dn,.int .u64 0]) (by simp [results,results349,go_sem]) rfl ⟨rfl,(Below.refl _ _).alloc (Nat.le_refl _) _⟩
def opmC (kd key val lv:Int) (ask nx:Value) (st n:Int):List Value:=[.int .i64 kd,.int .u64 key,.int .u64 val,.int .i64 lv,ask,nx,.int .i64 st,.int .i64 n]
def askC (o:Nat):Value:=.iface 224 (.pointer (some ⟨o,0,none⟩))
def mvI (o:Nat):Value:=.func (.method "Step") #[askC o] #[]
theorem method_stepC (k p:Nat) (w:World):(method (k+1) 224 (.pointer (some ⟨p,0,none⟩)) "Step").run prog w=.ok (350,.pointer (some ⟨p,0,none⟩)) w:=by kernel_rfl
theorem method_answerC (k p:Nat) (w:World):(method (k+1) 224 (.pointer (some ⟨p,0,none⟩)) "Answer").run prog w=.ok (349,.pointer (some ⟨p,0,none⟩)) w:=by kernel_rfl
section
variable {w0 w:World} {L:List Item} {m o b1 b2:Nat} {kd key val lv n:Int} {ask nx:Value}
theorem play1_i (u q:Value) (Y:Nat) (hy:∀ (ar:Array Value) (v:World),(callFunc Y ar).run prog v=.ok (.enter Y ar) v) (b1 b2:Nat) (Q:Int->World->Prop) (h1:w.cell? ⟨b1,0,none⟩=some (mvI o))
  (hc:Calls prog 350 #[.pointer (some ⟨o,0,none⟩),u] w fun e w1=>∃ s,e=.returned (.int .i64 s)/\(s=0->Q 0 w1)/\(s≠0->w1.cell? ⟨b2,0,none⟩=some (.func (.func Y) #[q] #[])/\Calls prog Y #[q,.int .i64 s] w1 fun e2 w2=>∃ s2,e2=.returned (.int .i64 s2)/\Q s2 w2)) :
  Calls prog 139 #[u,.pointer (some ⟨b1,0,none⟩),.pointer (some ⟨b2,0,none⟩)] w fun e w'=>∃ s,e=.returned (.int .i64 s)/\Q s w':=by
 have HC:=zH hc;have hms:=method_stepC;unfold mvI askC at h1;clear hc;go_enter func139,ntmps139;go_wp2_with fail;refine HC.out.mono ?_;rintro e w1 ⟨s,rfl,h0,hn⟩
 by_cases hs:s=0
 ·subst hs;have hq:=h0 rfl;clear h0 hn HC;go_wp2_with fail;go_ret;exact ⟨0,rfl,hq⟩
 ·obtain ⟨hb2,hcc⟩:=hn hs;have hsb:(s==0)=false:=by simpa using hs
  have HCC:=zH hcc;clear h0 hn HC hcc;go_wp2_with fail;refine HCC.out.mono ?_;rintro e2 w2 ⟨s2,rfl,hq⟩;go_wp2_with fail;go_ret;exact ⟨s2,rfl,hq⟩
theorem over_m (i:Nat) (s:Int) (hi:L[i]?=some (boxI m (opmC kd key val lv ask nx 0 n))) (hE:Env w0 L w) :
  Calls prog 105 #[.pointer (some ⟨m,0,none⟩),.int .i64 s] w fun e w'=>e=.returned (.int .i64 1)/\Env w0 (L.set i (boxI m (opmC kd key val lv ask nx 1 n))) w':=by
 have HE:=zH (end_r (o:=5) i 1 (by simp [opmC]) hE hi);clear hE hi;go_enter func105,ntmps105;go_wp2_with fail;refine HE.out.mono ?_;rintro e w1 ⟨rfl,hE⟩;go_wp2_with fail;go_ret;exact ⟨rfl,hE⟩
theorem isOver_m (st:Int) (hb:Blk 0 w m (opmC kd key val lv ask nx st n)) :
  Calls prog 65 #[.pointer (some ⟨m,0,none⟩)] w fun e w'=>e=.returned (.bool (st != 0))/\w'=w:=by
 have r:=hb.rule;unfold opmC at r;have HS:=zH (state_r (a:=m) (o:=5) (w:=w) (s:=st) (hb.rule 6));clear hb;go_enter func65,ntmps65;go_wp2_with fail;refine HS.out.mono ?_;rintro e w1 ⟨rfl,rfl⟩;go_wp2_with fail;go_ret;exact ⟨rfl,rfl⟩
theorem step_m (u:Value) (P:Int->List Item->Prop) (hn:0<=n/\n<=1000000)
  (hE:Env w0 (boxI m (opmC kd key val lv ask (cvP b1 b2) 0 n)::boxI b1 [mvI o]::boxI b2 [mvL 105 m]::L) w)
  (hc:∀ v,Env w0 (boxI m (opmC kd key val lv ask (cvP b1 b2) 0 (n+1))::boxI b1 [mvI o]::boxI b2 [mvL 105 m]::L) v->Calls prog 350 #[.pointer (some ⟨o,0,none⟩),u] v fun e w1=>∃ s L',e=.returned (.int .i64 s)/\P s L'/\Env w0 (boxI m (opmC kd key val lv ask (cvP b1 b2) 0 (n+1))::boxI b1 [mvI o]::boxI b2 [mvL 105 m]::L') w1) :
  Calls prog 28 #[.pointer (some ⟨m,0,none⟩),u] w fun e w'=>∃ s L',e=.returned (.int .i64 (if s=0 then 0 else 1))/\P s L'/\Env w0 (boxI m (opmC kd key val lv ask (cvP b1 b2) (if s=0 then 0 else 1) (n+1))::boxI b1 [mvI o]::boxI b2 [mvL 105 m]::L') w':=by
 have HO:=zH (isOver_m 0 (hE.get 0 rfl));have r:=hE.rule 0 rfl;unfold opmC at r;have f7:=hE.thaw 0 rfl 7 (by simp [opmC]);have hadd:wrap64 (n+1)=n+1:=w64 _ (by omega);have hP:=hE.put 0 rfl (j:=7) (by simp [opmC]) (.int .i64 (n+1));replace hP:Env w0 (boxI m (opmC kd key val lv ask (cvP b1 b2) 0 (n+1))::boxI b1 [mvI o]::boxI b2 [mvL 105 m]::L) _:=hP;have HC:=zH hc;clear hE hc hn;go_enter func28,ntmps28;go_wp2_with fail;refine HO.out.mono ?_;rintro e w1 ⟨rfl,rfl⟩
 go_upto_region 5 with fail
 generalize World.setCell _ _ _=w2 at *;clear r f7 HO;have hst:=stepCv_r (a:=m) (o:=5) 139 b1 b2 (fun _ _=>by kernel_rfl) u (fun e w'=>∃ s L',e=.returned (.int .i64 (if s=0 then 0 else 1))/\P s L'/\Env w0 (boxI m (opmC kd key val lv ask (cvP b1 b2) (if s=0 then 0 else 1) (n+1))::boxI b1 [mvI o]::boxI b2 [mvL 105 m]::L') w') (hP.rule 0 rfl 5) (hP.rule 0 rfl 6)
  ((play1_i (o:=o) u (.pointer (some ⟨m,0,none⟩)) 105 (fun _ _=>by kernel_rfl) b1 b2 (fun s' w'=>∃ s L',s'=(if s=0 then 0 else 1)/\P s L'/\Env w0 (boxI m (opmC kd key val lv ask (cvP b1 b2) (if s=0 then 0 else 1) (n+1))::boxI b1 [mvI o]::boxI b2 [mvL 105 m]::L') w') (hP.rule 1 rfl 0)
    ((HC.out _ hP).mono fun e w1 ⟨s,L',he,hp,hE1⟩=>⟨s,he,fun h0=>⟨s,L',by rw [if_pos h0],hp,by rw [if_pos h0]; exact hE1⟩,fun h0=>⟨hE1.rule 2 rfl 0,(over_m 0 s rfl hE1).mono fun e2 w2 ⟨he2,hE2⟩=>⟨1,he2,s,L',by rw [if_neg h0],hp,by rw [if_neg h0]; exact hE2⟩⟩⟩)).mono fun e w1 ⟨s',he,s,L',hs,hp,hE1⟩=>⟨s',he,s,L',by rw [hs],hp,hE1⟩)
 have HST:=zH hst;clear hst hP HC;go_wp2_with fail;refine HST.out.mono ?_;rintro e w3 ⟨s,L',he,hp,hE⟩;obtain ⟨t9,ht⟩:∃ t9:Int,(if s=0 then (0:Int) else 1)=t9:=⟨_,rfl⟩;rw [ht] at he hE;subst he;have HT:=zH ht;clear HST ht;go_wp2_with fail;go_ret;exact ⟨s,L',by rw [HT.out]; rfl,hp,by rw [HT.out]; exact hE⟩
theorem answer_m {st er vl:Int} {dn:Bool} (hst:st≠0) (hE:Env w0 (boxI m (opmC kd key val lv (askC o) nx st n)::L) w)
  (hc:∀ v,Env w0 (boxI m (opmC kd key val lv (askC o) nx st n)::L) v->Calls prog 349 #[.pointer (some ⟨o,0,none⟩)] v fun p w'=>p=.returned (.agg #[.int .i64 er,.bool dn,.int .u64 vl])/\Below v.heap.size v w') :
  Calls prog 27 #[.pointer (some ⟨m,0,none⟩)] w fun p w'=>p=.returned (.tuple #[.agg #[.int .i64 er,.bool dn,.int .u64 vl],.bool true])/\Env w0 (boxI m (opmC kd key val lv (askC o) nx st n)::L) w':=by
 have hE1:=hE.box w.heap.size rfl [.int .i64 0,.bool false,.int .u64 0] 57;have hb1:(st != 0)=true:=by simpa using hst
 have hio:=isOver_m st (hE1.get 1 rfl);rw [hb1] at hio;have HO:=zH hio;have hma:=method_answerC;have HC:=zH hc;clear hE hc hio hst hb1;go_enter func27,ntmps27;go_wp2_with fail;refine HO.out.mono ?_;rintro e w1 ⟨rfl,rfl⟩;have r:=hE1.rule 1 rfl;unfold opmC askC at r;generalize w.alloc _=w2 at *;generalize w.heap.size=Z at *;go_wp2_with fail;refine (HC.out _ (hE1.sub (.cons _ (List.Sublist.refl _)))).mono ?_;rintro e w3 ⟨rfl,hb⟩;replace hE1:=hE1.over hb;have rr:=hE1.rule 0 rfl;have ff:=hE1.thaw 0 rfl;have f0:=ff 0 (by simp);have f1:=ff 1 (by simp);have f2:=ff 2 (by simp);have hE6:=hE1.put3 0 rfl (.int .i64 er) (.bool dn) (.int .u64 vl);clear hb r ff HC HO;go_wp2_with fail;generalize World.setCell _ _ _=w4 at *;have r:=hE6.rule 0 rfl;exact bodyPost_ret (by simp [results,results27,go_sem,r]) rfl ⟨rfl,hE6.sub (.cons _ (List.Sublist.refl _))⟩
theorem steps_m (hE:Env w0 (boxI m (opmC kd key val lv ask nx 1 n)::L) w) :
  Calls prog 30 #[.pointer (some ⟨m,0,none⟩)] w fun p w'=>p=.returned (.int .i64 n)/\w'=w:=by
 have r:=hE.rule 0 rfl;unfold opmC at r;clear hE;go_enter func30,ntmps30;go_wp2_with fail;go_ret;exact ⟨rfl,rfl⟩
end
end
end Go.Proofs.YtffncfmciockmaaGreatDoor
