/- What is proved on the way to the statement, part 10: contracts of the functions, among other things in memory. -/
import Derived.Test.YtleklonmmlfijaaGreatDoorQ9

open _root_.Go.Proofs.Tryz
set_option maxRecDepth 100000
set_option maxHeartbeats 25600000
namespace Go.Proofs.YtleklonmmlfijaaGreatDoor
section
open Go.RowKit Go.Maps
section
variable {w0 w:World} {R M:List Item} {o c h l8:Nat} {S:ST} {kd key val lv:Int} {nx fp:Value} {er st n l t y:Int} {an dn:Bool} {F:Fd} {L:Nat->Lm}
theorem EE (fn:Fn) (fs cs:Array Value) (hE:Env w0 (ae o (aw c kd key val lv nx 0 fp n l t y an er dn)::M) w) :
  Calls prog 158 #[zP o,.func fn fs cs] w fun o9 w'=>o9=.returned (zI 0)/\∃ b1 b2,Env w0 (ae o (aw c kd key val lv (qE b1 b2) 0 fp n l t y an er dn)::ae b1 [zP o]::ae b2 [.func fn fs cs]::M) w':=by
 have cf:=cg;have ag:=(hE.box w.heap.size rfl [zP o] 41).box (w.heap.size+1) (by simp) [.func fn fs cs] 121;have r0:=ag.rule 1 rfl;go_enter func158,ntmps158;go_wp2_with fail;refine (goOn_r (o:=5) 2 _ _ _ (by simp[aw]) ag rfl).mono ?_;rintro o9 w1 ⟨rfl,az⟩;go_wp2_with fail;go_ret;refine⟨rfl,w.heap.size,w.heap.size+1,?_⟩;exact az.perm (List.reverse_perm [_,_,_] |>.append_right M)
def pz (v q:Int):Nat:=if cO v then 201 else if v=q then 203 else 220
theorem EF (Y b1 b2:Nat) (hy:∀ (ar:Array Value) (v:World),(callFunc Y ar).run prog v=.ok (.enter Y ar) v) (Q:Int->World->Prop) (aG:okB (S.f (1,0,0)) S.ce=true) (hE:Env w0 (ae o (aw S.c kd key val lv nx 0 fp n l t y an er dn)::ae b1 [zP o]::ae b2 [mvL Y o]::LT S R) w)
  (hc:∀ v,Env w0 (ae o (aw S.c kd key val lv nx 0 fp n l t y an er dn)::LT { S with qc:={ S.qc with l:=wrap64 (S.qc.l+1) } } R) v->Calls prog Y #[zP o] v fun e w'=>∃ s,e=.returned (zI s)/\Q s w') :
  Calls prog 183 #[.iface 28 (zP S.p),zP b1,zP b2] w fun e w'=>∃ s,e=.returned (zI s)/\Q s w':=by
 have r0:=hE.rule 0 rfl;have r1:=hE.rule 1 rfl;unfold aw at r0;have sj:=xr (S.f (1,0,0)) rfl 3 5 6 (by decide) (by decide) hE rfl rfl rfl;rw[aG] at sj;have mX:=zH sj;have HC:=zH hc;clear sj hc hE aG;go_enter func183,ntmps183;go_wp2_with fail;refine mX.out.mono ?_;rintro e w1 ⟨rfl,ag⟩;simp only[zZ,zS,if_true] at ag;clear r0 r1 mX;have r2:=ag.rule 2 rfl;unfold mvL at r2;have az:=ag.sub (L':=ae o (aw S.c kd key val lv nx 0 fp n l t y an er dn)::LT { S with qc:={ S.qc with l:=wrap64 (S.qc.l+1) } } R) (.cons_cons _ (.cons _ (.cons _ (List.Sublist.refl _))));have gT:=zH (HC.out _ az);clear ag az HC;go_wp2_with fail;refine gT.out.mono ?_;rintro e w2 ⟨s,rfl,hq⟩;go_wp2_with fail;go_ret;exact⟨s,rfl,hq⟩
theorem EG (Y b1 b2:Nat) (aG:okB (S.f (1,0,0)) S.ce=false) (hh:h<=1000) (dH:S.ck=3) (bH:S.ch=(h:Int)) (hE:Env w0 (ae o (aw S.c kd key val lv nx 0 fp n l t y an er dn)::ae b1 [zP o]::ae b2 [mvL Y o]::LT S R) w) :
  Calls prog 183 #[.iface 28 (zP S.p),zP b1,zP b2] w fun e w'=>e=.returned (zI 0)/\∃ b1 b2 fb g,Env w0 (ae o (aw S.c kd key val lv (cvP b1 b2) 0 (zP fb) n l t y an er dn)::ae b1 [mvL 109 fb]::ae b2 [mvL 81 o]::ae fb (bq S.c key (mvL 124 fb) 0 g h 0)::ae g (List.replicate h (.pointer none))::LT { S with cr:=wrap64 (S.cr+1),qc:={ S.qc with l:=wrap64 (S.qc.l+1) } } R) w':=by
 have r0:=hE.rule 0 rfl;have r1:=hE.rule 1 rfl;unfold aw at r0;have sj:=xr (S.f (1,0,0)) rfl 3 5 6 (by decide) (by decide) hE rfl rfl rfl;rw[aG] at sj;have mX:=zH sj;have HH:=zH hh;have HC:=zH (And.intro dH bH);clear sj hE aG hh dH bH;go_enter func183,ntmps183;go_wp2_with fail;refine mX.out.mono ?_;rintro e w1 ⟨rfl,ag⟩;simp only[zZ,zS,Bool.false_eq_true,if_false] at ag;clear r0 r1 mX;have az:=ag.sub (L':=ae o (aw S.c kd key val lv nx 0 fp n l t y an er dn)::LT { S with cr:=wrap64 (S.cr+1),qc:={ S.qc with l:=wrap64 (S.qc.l+1) } } R) (.cons_cons _ (.cons _ (.cons _ (List.Sublist.refl _))));have dH:=HC.out.1;have bH:=HC.out.2;have r1:=ag.rule 1 rfl;have HB:=zH (sd (c:=S.c) (M:=LT { S with cr:=wrap64 (S.cr+1),qc:={ S.qc with l:=wrap64 (S.qc.l+1) } } R) 0 HH.out (show _=some (dy S.c 3 S.cs S.cb h S.cl S.ce (wrap64 (S.cr+1)) S.hs 0 S.q) by rw[<- dH,<- bH];rfl) az);clear ag az dH bH;go_wp2_with fail;refine HB.out.mono ?_;rintro e w2 ⟨rfl,hX⟩;have HX:=zH hX;clear hX HB;go_wp2_with fail;go_ret;exact⟨rfl,HX.out⟩
theorem Mp (v:Int) (br:S.f (5,n,5)=v) (aZ:Wf (5,n,5)) (hE:Env w0 (ae o (aw S.c kd key val lv nx 0 fp n l t y an er dn)::LT S R) w) :
  Calls prog 131 #[zP o,.iface 28 (zP S.p)] w fun e w'=>e=.returned (zI 0)/\∃ b1 b2,Env w0 (ae o (aw S.c kd key val lv (qE b1 b2) 0 fp n l v y an er dn)::ae b1 [zP o]::ae b2 [mvL 159 o]::LT { S with qc:={ S.qc with l:=wrap64 (S.qc.l+1) } } R) w':=by
 have cf:=cg;have eV:=l4;have rI:=qm;have HX:=zH br;have dQ:=zH aZ;have gU:=zH fun (v:World) (hv:∃ n8,ao 0 v o (aw S.c kd key val lv nx 0 fp n l n8 y an er dn))=>hv.elim fun n8 h=>Az 5 h;clear br aZ;go_enter func131,ntmps131;go_wp2_with fail;refine Ord.wc [7,10] (fun u=>Below w0.heap.size w0 u/\∃ n8,ao 0 u o (aw S.c kd key val lv nx 0 fp n l n8 y an er dn)) (fun k w'=>Env w0 (l6 (ae o (aw S.c kd key val lv nx 0 fp n l t y an er dn)::LT S R) (ae o (aw S.c kd key val lv nx 0 fp n l t y an er dn)::LT { S with qc:={ S.qc with l:=wrap64 (S.qc.l+1) } } R) (ae o (aw S.c kd key val lv nx 0 fp n l v y an er dn)::LT { S with qc:={ S.qc with l:=wrap64 (S.qc.l+1) } } R) k) w') ⟨hE.drew.below,t,hE.drew.get 0 rfl⟩ hE.drew fun af=>?_
 repeat ((first
  | (refine Ord.cv ?_ af.o ?_ ?_;rotate_left;(intro w5 hS;obtain⟨eo,n9,dz⟩:=hS;have r:=ao.rule dz;unfold aw at r;go_simp<;>rfl))
  | (refine Ord.co af.o ?_)
  | (refine Ord.cc ?_ ?_ ?_ af.o ?_ ?_ ?_;rotate_left 3;(intro w5 hS;obtain⟨eo,n9,dz⟩:=hS;have r:=ao.rule dz;unfold aw at r;go_simp;constructor<;>rfl);(intro w5 hS;(first | (with_reducible refine kp (gU.out _ hS.2) ?_ ?_;rfl;exact fun w6 aj=>⟨⟨hS.1.trans (aj.mono hS.1.size),hS.2.elim fun n8 h=>⟨n8,h.under aj⟩⟩,fun k h=>h.over aj⟩)))));try simp only[Act.put,zA,zZ,zS])
 refine Ord.ch_turn (v:=.agg #[zU v,zI 0,.bool false]) 0 af.o rfl (by decide) (Or.inl rfl) (by rfl) ?_ ?_
 ·rintro w5 aN au;replace au:Env w0 (ae o (aw S.c kd key val lv nx 0 fp n l t y an er dn)::LT S R) w5:=au;go_simp;rw[lB];simp only[Result.andThen_ok];go_simp;simp only[Ord.LandsIn];have hl:=lA 5 n 5 0 dQ.out 3 4 (by decide) au rfl rfl;rw[HX.out] at hl;refine hl.mono ?_;rintro e w6 ⟨rfl,aq⟩;exact⟨rfl,⟨aq.below,_,aq.get 0 rfl⟩,aq⟩
 try simp only[Act.put,zA,zZ,zS]
 repeat ((first
  | (refine Ord.cv ?_ af.o ?_ ?_;rotate_left;(intro w5 hS;skip;go_simp<;>rfl))
  | (refine Ord.co af.o ?_));try simp only[Act.put,zA,zZ,zS])
 refine Ord.ch_turn (v:=undef) 1 af.o rfl (by decide) (Or.inr ⟨_,rfl,by kernel_rfl⟩) (by rfl) ?_ ?_
 ·rintro w5 aN au;replace au:Env w0 (ae o (aw S.c kd key val lv nx 0 fp n l t y an er dn)::LT { S with qc:={ S.qc with l:=wrap64 (S.qc.l+1) } } R) w5:=au;have r:=au.rule 0 rfl;unfold aw at r;have g0:=au.thaw 0 rfl 11 (by simp[aw]);have g1:=au.thaw 0 rfl 12 (by simp[aw]);have g2:=au.thaw 0 rfl 13 (by simp[aw]);go_simp;have h9:=(((au.put 0 rfl (j:=11) (by simp[aw]) (zU v)).put 0 rfl (j:=12) (by simp[aw]) (zI 0)).put 0 rfl (j:=13) (by simp[aw]) (.bool false));replace h9:Env w0 (ae o (aw S.c kd key val lv nx 0 fp n l v y an er dn)::LT { S with qc:={ S.qc with l:=wrap64 (S.qc.l+1) } } R) _:=h9;exact⟨rfl,⟨h9.below,_,h9.get 0 rfl⟩,h9⟩
 try simp only[Act.put,zA,zZ,zS]
 repeat ((first
  | (refine Ord.cv ?_ af.o ?_ ?_;rotate_left;(intro w5 hS;skip;go_simp<;>rfl))
  | (refine Ord.co af.o ?_));try simp only[Act.put,zA,zZ,zS])
 refine Ord.InText.nil fun w5 hS=>?_;clear af;obtain⟨aL,ai⟩:=Ord.chain_end hS;clear hS;replace ai:Env w0 (ae o (aw S.c kd key val lv nx 0 fp n l v y an er dn)::LT { S with qc:={ S.qc with l:=wrap64 (S.qc.l+1) } } R) w5:=ai;clear hE aL;have r:=ai.rule 0 rfl;unfold aw at r;have mX:=zH (EE (.func 159) #[zP o] #[] ai);clear ai;go_wp2_with fail;refine mX.out.mono ?_;rintro e w6 ⟨rfl,b1,b2,aq⟩;clear mX;have AY:=zH aq;clear aq;go_wp2_with fail;go_ret;exact⟨rfl,b1,b2,AY.out⟩
theorem Mq (v:Int) (br:S.f (5,n,7+(l8:Int))=v) (aZ:Wf (5,n,7+(l8:Int))) (fX:l8<=1000) (hE:Env w0 (ae o (aw S.c kd key val lv nx 0 fp n (l8:Int) t y an er dn)::LT S R) w) :
  Calls prog 185 #[zP o,.iface 28 (zP S.p)] w fun e w'=>e=.returned (zI 0)/\∃ b1 b2,Env w0 (ae o (aw S.c kd key val lv (qE b1 b2) 0 fp n (l8:Int) t v an er dn)::ae b1 [zP o]::ae b2 [mvL 204 o]::LT { S with qc:={ S.qc with l:=wrap64 (S.qc.l+1) } } R) w':=by
 have cf:=cg;have eV:=l4;have rI:=qm;have HX:=zH br;have dQ:=zH aZ;have gU:=zH fun (v:World) (hv:∃ n8,ao 0 v o (aw S.c kd key val lv nx 0 fp n (l8:Int) t n8 an er dn))=>hv.elim fun n8 h=>qG (l:=(l8:Int)) (by omega) h;clear fX;clear br aZ;go_enter func185,ntmps185;go_wp2_with fail;refine Ord.wc [7,10] (fun u=>Below w0.heap.size w0 u/\∃ n8,ao 0 u o (aw S.c kd key val lv nx 0 fp n (l8:Int) t n8 an er dn)) (fun k w'=>Env w0 (l6 (ae o (aw S.c kd key val lv nx 0 fp n (l8:Int) t y an er dn)::LT S R) (ae o (aw S.c kd key val lv nx 0 fp n (l8:Int) t y an er dn)::LT { S with qc:={ S.qc with l:=wrap64 (S.qc.l+1) } } R) (ae o (aw S.c kd key val lv nx 0 fp n (l8:Int) t v an er dn)::LT { S with qc:={ S.qc with l:=wrap64 (S.qc.l+1) } } R) k) w') ⟨hE.drew.below,y,hE.drew.get 0 rfl⟩ hE.drew fun af=>?_
 repeat ((first
  | (refine Ord.cv ?_ af.o ?_ ?_;rotate_left;(intro w5 hS;obtain⟨eo,n9,dz⟩:=hS;have r:=ao.rule dz;unfold aw at r;go_simp<;>rfl))
  | (refine Ord.co af.o ?_)
  | (refine Ord.cc ?_ ?_ ?_ af.o ?_ ?_ ?_;rotate_left 3;(intro w5 hS;obtain⟨eo,n9,dz⟩:=hS;have r:=ao.rule dz;unfold aw at r;go_simp;constructor<;>rfl);(intro w5 hS;(first | (with_reducible refine kp (gU.out _ hS.2) ?_ ?_;rfl;exact fun w6 aj=>⟨⟨hS.1.trans (aj.mono hS.1.size),hS.2.elim fun n8 h=>⟨n8,h.under aj⟩⟩,fun k h=>h.over aj⟩)))));try simp only[Act.put,zA,zZ,zS])
 refine Ord.ch_turn (v:=.agg #[zU v,zI 0,.bool false]) 0 af.o rfl (by decide) (Or.inl rfl) (by rfl) ?_ ?_
 ·rintro w5 aN au;replace au:Env w0 (ae o (aw S.c kd key val lv nx 0 fp n (l8:Int) t y an er dn)::LT S R) w5:=au;go_simp;rw[lB];simp only[Result.andThen_ok];go_simp;simp only[Ord.LandsIn];have hl:=lA 5 n (7+(l8:Int)) 0 dQ.out 3 4 (by decide) au rfl rfl;rw[HX.out] at hl;refine hl.mono ?_;rintro e w6 ⟨rfl,aq⟩;exact⟨rfl,⟨aq.below,_,aq.get 0 rfl⟩,aq⟩
 try simp only[Act.put,zA,zZ,zS]
 repeat ((first
  | (refine Ord.cv ?_ af.o ?_ ?_;rotate_left;(intro w5 hS;skip;go_simp<;>rfl))
  | (refine Ord.co af.o ?_));try simp only[Act.put,zA,zZ,zS])
 refine Ord.ch_turn (v:=undef) 1 af.o rfl (by decide) (Or.inr ⟨_,rfl,by kernel_rfl⟩) (by rfl) ?_ ?_
 ·rintro w5 aN au;replace au:Env w0 (ae o (aw S.c kd key val lv nx 0 fp n (l8:Int) t y an er dn)::LT { S with qc:={ S.qc with l:=wrap64 (S.qc.l+1) } } R) w5:=au;have r:=au.rule 0 rfl;unfold aw at r;have g0:=au.thaw 0 rfl 14 (by simp[aw]);have g1:=au.thaw 0 rfl 15 (by simp[aw]);have g2:=au.thaw 0 rfl 16 (by simp[aw]);go_simp;have h9:=(((au.put 0 rfl (j:=14) (by simp[aw]) (zU v)).put 0 rfl (j:=15) (by simp[aw]) (zI 0)).put 0 rfl (j:=16) (by simp[aw]) (.bool false));replace h9:Env w0 (ae o (aw S.c kd key val lv nx 0 fp n (l8:Int) t v an er dn)::LT { S with qc:={ S.qc with l:=wrap64 (S.qc.l+1) } } R) _:=h9;exact⟨rfl,⟨h9.below,_,h9.get 0 rfl⟩,h9⟩
 try simp only[Act.put,zA,zZ,zS]
 repeat ((first
  | (refine Ord.cv ?_ af.o ?_ ?_;rotate_left;(intro w5 hS;skip;go_simp<;>rfl))
  | (refine Ord.co af.o ?_));try simp only[Act.put,zA,zZ,zS])
 refine Ord.InText.nil fun w5 hS=>?_;clear af;obtain⟨aL,ai⟩:=Ord.chain_end hS;clear hS;replace ai:Env w0 (ae o (aw S.c kd key val lv nx 0 fp n (l8:Int) t v an er dn)::LT { S with qc:={ S.qc with l:=wrap64 (S.qc.l+1) } } R) w5:=ai;clear hE aL;have r:=ai.rule 0 rfl;unfold aw at r;have mX:=zH (EE (.func 204) #[zP o] #[] ai);clear ai;go_wp2_with fail;refine mX.out.mono ?_;rintro e w6 ⟨rfl,b1,b2,aq⟩;clear mX;have AY:=zH aq;clear aq;go_wp2_with fail;go_ret;exact⟨rfl,b1,b2,AY.out⟩
theorem Mr (v:Int) (br:S.f (5,n,7+(l8:Int))=v) (aZ:Wf (5,n,7+(l8:Int))) (hv:aD v) (hg:bE w0) (fX:l8<=1000) (hl:l8 < h) (hW:aD (L l8).W) (hI:eK F S.c key L h R) (hE:Env w0 (ae o (aw S.c kd key val lv nx 0 (zP F.fb) n (l8:Int) t y an er dn)::LT S R) w) :
  Calls prog 202 #[zP o,.iface 28 (zP S.p)] w fun e w'=>e=.returned (zI 0)/\Env w0 (ae o (aw S.c kd key val lv (mvL (pz v (aP false (aA (L l8).W) S.ce)) o) 0 (zP F.fb) n (l8:Int) t v an er dn)::LT { S with qc:={ S.qc with l:=wrap64 (S.qc.l+1) } } R) w':=by
 have cf:=cg;have eV:=l4;have rI:=qm;have HX:=zH br;have dQ:=zH aZ;have gU:=zH fun (v:World) (hv:∃ n8,ao 0 v o (aw S.c kd key val lv nx 0 (zP F.fb) n (l8:Int) t n8 an er dn))=>hv.elim fun n8 h=>qG (l:=(l8:Int)) (by omega) h;have HI:=zH hI;have HG:=zH hg;have HL:=zH hl;have HW:=zH hW;have HV:=zH hv;clear fX hI hg hl hW hv;clear br aZ;refine ub fun PP fz=>?_;go_enter func202,ntmps202;go_wp2_with fail;refine Ord.wc [7,10] (fun u=>Below w0.heap.size w0 u/\∃ n8,ao 0 u o (aw S.c kd key val lv nx 0 (zP F.fb) n (l8:Int) t n8 an er dn)) (fun k w'=>Env w0 (l6 (ae o (aw S.c kd key val lv nx 0 (zP F.fb) n (l8:Int) t y an er dn)::LT S R) (ae o (aw S.c kd key val lv nx 0 (zP F.fb) n (l8:Int) t y an er dn)::LT { S with qc:={ S.qc with l:=wrap64 (S.qc.l+1) } } R) (ae o (aw S.c kd key val lv nx 0 (zP F.fb) n (l8:Int) t v an er dn)::LT { S with qc:={ S.qc with l:=wrap64 (S.qc.l+1) } } R) k) w') ⟨hE.drew.below,y,hE.drew.get 0 rfl⟩ hE.drew fun af=>?_
 repeat ((first
  | (refine Ord.cv ?_ af.o ?_ ?_;rotate_left;(intro w5 hS;obtain⟨eo,n9,dz⟩:=hS;have r:=ao.rule dz;unfold aw at r;go_simp<;>rfl))
  | (refine Ord.co af.o ?_)
  | (refine Ord.cc ?_ ?_ ?_ af.o ?_ ?_ ?_;rotate_left 3;(intro w5 hS;obtain⟨eo,n9,dz⟩:=hS;have r:=ao.rule dz;unfold aw at r;go_simp;constructor<;>rfl);(intro w5 hS;(first | (with_reducible refine kp (gU.out _ hS.2) ?_ ?_;rfl;exact fun w6 aj=>⟨⟨hS.1.trans (aj.mono hS.1.size),hS.2.elim fun n8 h=>⟨n8,h.under aj⟩⟩,fun k h=>h.over aj⟩)))));try simp only[Act.put,zA,zZ,zS])
 refine Ord.ch_turn (v:=.agg #[zU v,zI 0,.bool false]) 0 af.o rfl (by decide) (Or.inl rfl) (by rfl) ?_ ?_
 ·rintro w5 aN au;replace au:Env w0 (ae o (aw S.c kd key val lv nx 0 (zP F.fb) n (l8:Int) t y an er dn)::LT S R) w5:=au;go_simp;rw[lB];simp only[Result.andThen_ok];go_simp;simp only[Ord.LandsIn];have hl:=lA 5 n (7+(l8:Int)) 0 dQ.out 3 4 (by decide) au rfl rfl;rw[HX.out] at hl;refine hl.mono ?_;rintro e w6 ⟨rfl,aq⟩;exact⟨rfl,⟨aq.below,_,aq.get 0 rfl⟩,aq⟩
 try simp only[Act.put,zA,zZ,zS]
 repeat ((first
  | (refine Ord.cv ?_ af.o ?_ ?_;rotate_left;(intro w5 hS;skip;go_simp<;>rfl))
  | (refine Ord.co af.o ?_));try simp only[Act.put,zA,zZ,zS])
 refine Ord.ch_turn (v:=undef) 1 af.o rfl (by decide) (Or.inr ⟨_,rfl,by kernel_rfl⟩) (by rfl) ?_ ?_
 ·rintro w5 aN au;replace au:Env w0 (ae o (aw S.c kd key val lv nx 0 (zP F.fb) n (l8:Int) t y an er dn)::LT { S with qc:={ S.qc with l:=wrap64 (S.qc.l+1) } } R) w5:=au;have r:=au.rule 0 rfl;unfold aw at r;have g0:=au.thaw 0 rfl 14 (by simp[aw]);have g1:=au.thaw 0 rfl 15 (by simp[aw]);have g2:=au.thaw 0 rfl 16 (by simp[aw]);go_simp;have h9:=(((au.put 0 rfl (j:=14) (by simp[aw]) (zU v)).put 0 rfl (j:=15) (by simp[aw]) (zI 0)).put 0 rfl (j:=16) (by simp[aw]) (.bool false));replace h9:Env w0 (ae o (aw S.c kd key val lv nx 0 (zP F.fb) n (l8:Int) t v an er dn)::LT { S with qc:={ S.qc with l:=wrap64 (S.qc.l+1) } } R) _:=h9;exact⟨rfl,⟨h9.below,_,h9.get 0 rfl⟩,h9⟩
 try simp only[Act.put,zA,zZ,zS]
 repeat ((first
  | (refine Ord.cv ?_ af.o ?_ ?_;rotate_left;(intro w5 hS;skip;go_simp<;>rfl))
  | (refine Ord.co af.o ?_));try simp only[Act.put,zA,zZ,zS])
 refine Ord.InText.nil fun w5 hS=>?_;clear af;obtain⟨aL,ai⟩:=Ord.chain_end hS;clear hS;replace ai:Env w0 (ae o (aw S.c kd key val lv nx 0 (zP F.fb) n (l8:Int) t v an er dn)::LT { S with qc:={ S.qc with l:=wrap64 (S.qc.l+1) } } R) w5:=ai;clear hE aL;have r:=ai.rule 0 rfl;unfold aw at r;have EH:=HG.out.keep' ai.below;have fY:=zH (oh v w5 EH HV.out.1 HV.out.2);have mY:=zH fun (v9:World) (uf:Env w0 (ae o (aw S.c kd key val lv nx 0 (zP F.fb) n (l8:Int) t v an er dn)::LT { S with qc:={ S.qc with l:=wrap64 (S.qc.l+1) } } R) v9)=>xH (HG.out.keep' uf.below) HI.out.hh.2 HL.out HW.out (HI.out.at9 uf (fun a ha=>by simp[LT,ha])) (uf.get 1 rfl) (uf.get 0 rfl);clear EH;obtain⟨q,hq⟩:∃ q,aP false (aA (L l8).W) S.ce=q:=⟨_,rfl⟩;rw[hq] at fz;simp only[hq] at mY;clear hq;obtain⟨mk,bA⟩:∃ mk,cO v=mk:=⟨_,rfl⟩;rw[bA] at fY;have HM:=zH bA;clear bA;go_wp2_with fail;refine fY.out.mono ?_;rintro e w6 ⟨rfl,aj⟩;replace ai:=ai.over aj;clear aj fY r;cases mk
 ·have EI:=zH fun (v9:World) (uf:Env w0 (ae o (aw S.c kd key val lv nx 0 (zP F.fb) n (l8:Int) t v an er dn)::LT { S with qc:={ S.qc with l:=wrap64 (S.qc.l+1) } } R) v9)=>mY.out v9 uf;go_wp2_with fail
  by_cases ug:v=q
  ·have b1:(v==q)=true:=by simpa using ug
   have AZ:=zH ug;clear ug;refine cG (S:=(Env w0 (ae o (aw S.c kd key val lv nx 0 (zP F.fb) n (l8:Int) t v an er dn)::LT { S with qc:={ S.qc with l:=wrap64 (S.qc.l+1) } } R))) (by kernel_rfl) (by kernel_rfl) ai.drew (fun hT=>?_);have af:=zH hT;clear hT
   repeat ((first
    | (refine cH (v:=?_) af.o (by rfl) ?_ ?_;rotate_left;(intro w5 hS;have r:=hS.rule 0 rfl;unfold aw at r;go_simp<;>rfl))
    | (refine cI af.o (by rfl) ?_)
    | (refine cJ (v:=?_) (f:=?_) (args:=?_) af.o (by rfl) ?_ ?_ ?_;rotate_left 3;(intro w5 hS;have r:=hS.rule 0 rfl;unfold aw at r;go_simp;constructor<;>rfl);(intro w5 hS;(first | (with_reducible refine kp (EI.out _ hS) ?_ ?_;rfl;exact fun w6 dm=>hS.over dm)))));try simp only[Act.put,zA,zZ,zS])
   refine InText.nil fun w5 aK=>?_;clear af;clear ai;go_wp2_with fail;refine (goOn_r (o:=5) 0 _ _ _ (by simp[aw]) aK rfl).mono ?_;rintro e w7 ⟨rfl,aO⟩;go_wp2_with fail
   (try go_ret)
   exact fz.out _ _ ⟨rfl,by rw[show pz v q=203 by unfold pz;rw[HM.out,if_neg (by decide),if_pos AZ.out]];exact aO⟩
  ·have b1:(v==q)=false:=by simpa using ug
   have AZ:=zH ug;clear ug;refine cG (S:=(Env w0 (ae o (aw S.c kd key val lv nx 0 (zP F.fb) n (l8:Int) t v an er dn)::LT { S with qc:={ S.qc with l:=wrap64 (S.qc.l+1) } } R))) (by kernel_rfl) (by kernel_rfl) ai.drew (fun hT=>?_);have af:=zH hT;clear hT
   repeat ((first
    | (refine cH (v:=?_) af.o (by rfl) ?_ ?_;rotate_left;(intro w5 hS;have r:=hS.rule 0 rfl;unfold aw at r;go_simp<;>rfl))
    | (refine cI af.o (by rfl) ?_)
    | (refine cJ (v:=?_) (f:=?_) (args:=?_) af.o (by rfl) ?_ ?_ ?_;rotate_left 3;(intro w5 hS;have r:=hS.rule 0 rfl;unfold aw at r;go_simp;constructor<;>rfl);(intro w5 hS;(first | (with_reducible refine kp (EI.out _ hS) ?_ ?_;rfl;exact fun w6 dm=>hS.over dm)))));try simp only[Act.put,zA,zZ,zS])
   refine InText.nil fun w5 aK=>?_;clear af;clear ai;go_wp2_with fail;refine (goOn_r (o:=5) 0 _ _ _ (by simp[aw]) aK rfl).mono ?_;rintro e w7 ⟨rfl,aO⟩;go_wp2_with fail
   (try go_ret)
   exact fz.out _ _ ⟨rfl,by rw[show pz v q=220 by unfold pz;rw[HM.out,if_neg (by decide),if_neg AZ.out]];exact aO⟩
 ·go_wp2_with fail;refine (goOn_r (o:=5) 0 _ _ _ (by simp[aw]) ai rfl).mono ?_;rintro e w7 ⟨rfl,aO⟩;go_wp2_with fail
  (try go_ret)
  exact fz.out _ _ ⟨rfl,by rw[show pz v q=201 by unfold pz;rw[HM.out,if_pos rfl]];exact aO⟩
end
section
variable {w0 w:World} {R M:List Item} {o c h l8:Nat} {S:ST} {kd key val lv:Int} {nx fp:Value} {er st n l t y:Int} {an dn:Bool} {F:Fd} {L:Nat->Lm}
theorem Ms (aH:((l8+1:Nat):Int) < lv) (aZ:Wf (5,n,7+(l8:Int))) (hg:bE w0) (hm:S.m < maxLen) (fX:l8<=1000) (hl:l8 < h) (hW:aD (L l8).W) (hI:eK F S.c key L h R) (hE:Env w0 (ae o (aw S.c kd key val lv nx 0 (zP F.fb) n (l8:Int) t y an er dn)::LT S R) w) :
  Calls prog 129 #[zP o,.iface 28 (zP S.p)] w fun e w'=>e=.returned (zI 0)/\∃ G',Env w0 (ae o (aw S.c kd key val lv (mvL 129 o) 0 (zP F.fb) n ((l8+1:Nat):Int) t y an er dn)::LT { S with G:=G',f:=upd S.f (5,n,7+(l8:Int)) (aP false (aA (L l8).W) S.ce),qc:={ S.qc with s:=wrap64 (S.qc.s+1) },m:=S.m+1 } R) w':=by
 have cf:=cg;have eV:=ve;have gU:=zH fun (v:World) (hv:ao 0 v o (aw S.c kd key val lv nx 0 (zP F.fb) n (l8:Int) t y an er dn))=>qG (l:=(l8:Int)) (by omega) hv;have mZ:=fun (v:World) (hv:Below w0.heap.size w0 v/\ao 0 v o (aw S.c kd key val lv nx 0 (zP F.fb) n (l8:Int) t y an er dn)/\ao 0 v S.c (cT S.ck S.cs S.cb S.ch S.cl S.ce S.cr S.hs 0 S.q)/\fg F S.c key L h v)=>xH (hg.keep' hv.1) hI.hh.2 hl hW hv.2.2.2 hv.2.2.1 hv.2.1;have dR:aD (aP false (aA (L l8).W) S.ce):=kN _ _ _;obtain⟨q,hq⟩:∃ q,aP false (aA (L l8).W) S.ce=q:=⟨_,rfl⟩;rw[hq] at dR ⊢;simp only[hq] at mZ;have mY:=zH mZ;have gp:=zH dR;have HI:=zH hI;have dQ:=zH aZ;have pA:=zH aH;have sk:=zH fX;clear hq dR mZ hI aZ hW hl hg aH fX;go_enter func129,ntmps129;go_wp2_with fail;refine Ord.wc [8] (fun v=>Below w0.heap.size w0 v/\ao 0 v o (aw S.c kd key val lv nx 0 (zP F.fb) n (l8:Int) t y an er dn)/\ao 0 v S.c (cT S.ck S.cs S.cb S.ch S.cl S.ce S.cr S.hs 0 S.q)/\fg F S.c key L h v) (fun k w'=>∃ G5,Env w0 (ae o (aw S.c kd key val lv nx 0 (zP F.fb) n (l8:Int) t y an er dn)::LT (if k=0 then S else { S with G:=G5,f:=upd S.f (5,n,7+(l8:Int)) q,qc:={ S.qc with s:=wrap64 (S.qc.s+1) },m:=S.m+1 }) R) w') ⟨hE.drew.below,hE.drew.get 0 rfl,hE.drew.get 1 rfl,HI.out.at9 hE.drew (fun a ha=>by simp[LT,ha])⟩ ⟨S.G,hE.drew⟩ fun af=>?_
 repeat ((first
  | (refine Ord.cv ?_ af.o ?_ ?_;rotate_left;(intro w5 hS;have r:=ao.rule hS.2.1;unfold aw at r;go_simp<;>rfl))
  | (refine Ord.co af.o ?_)
  | (refine Ord.cc ?_ ?_ ?_ af.o ?_ ?_ ?_;rotate_left 3;(intro w5 hS;have r:=ao.rule hS.2.1;unfold aw at r;go_simp;constructor<;>rfl);(intro w5 hS;(first | (with_reducible refine kp (gU.out _ hS.2.1) ?_ ?_;rfl;exact fun w6 aj=>⟨⟨hS.1.trans (aj.mono hS.1.size),hS.2.1.under aj,hS.2.2.1.under aj,hS.2.2.2.under aj⟩,fun k h=>h.elim fun G5 h=>⟨G5,h.over aj⟩⟩) | (with_reducible refine kp (mY.out _ hS) ?_ ?_;rfl;exact fun w6 aj=>⟨⟨hS.1.trans (aj.mono hS.1.size),hS.2.1.under aj,hS.2.2.1.under aj,hS.2.2.2.under aj⟩,fun k h=>h.elim fun G5 h=>⟨G5,h.over aj⟩⟩)))));try simp only[Act.put,zA,zZ,zS])
 refine Ord.ch_turn (v:=.tuple #[]) 0 af.o rfl (by decide) (Or.inl rfl) (by rfl) ?_ ?_
 ·rintro w5 aN ⟨G5,au⟩;simp only[if_true] at au;go_simp;rw[tr];simp only[Result.andThen_ok];go_simp;simp only[Ord.LandsIn];refine (tq 5 n (7+(l8:Int)) 0 q 0 false dQ.out gp.out hm 3 4 (by decide) au rfl rfl).mono ?_;rintro e w6 ⟨rfl,G6,aq⟩;exact⟨rfl,⟨aq.below,aq.get 0 rfl,aq.get 1 rfl,HI.out.at9 aq (fun a ha=>by simp[LT,ha])⟩,G6,aq⟩
 try simp only[Act.put,zA,zZ,zS]
 repeat ((first
  | (refine Ord.cv ?_ af.o ?_ ?_;rotate_left;(intro w5 hS;skip;go_simp<;>rfl))
  | (refine Ord.co af.o ?_));try simp only[Act.put,zA,zZ,zS])
 refine Ord.InText.nil fun w5 hS=>?_;clear af;obtain⟨aL,ai⟩:=Ord.chain_end hS;clear hS;obtain⟨G9,ai⟩:=ai;simp only[List.length_cons,List.length_nil,Nat.zero_add,Nat.one_ne_zero,if_false] at ai;clear aL hE mY gU;have fX:=sk.out;have r0:=ai.rule 0 rfl;unfold aw at r0;have f9:=ai.thaw 0 rfl 10 (by simp[aw]);have hP:=ai.put 0 rfl (j:=10) (by simp[aw]) (zI ((l8:Int)+1));replace hP:Env w0 (ae o (aw S.c kd key val lv nx 0 (zP F.fb) n ((l8:Int)+1) t y an er dn)::LT { S with G:=G9,f:=upd S.f (5,n,7+(l8:Int)) q,qc:={ S.qc with s:=wrap64 (S.qc.s+1) },m:=S.m+1 } R) _:=hP;clear ai
 go_upto_region 3 with fail
 generalize World.setCell _ _ _=w9 at *;clear r0 f9;have b1:decide ((l8:Int)+1 < lv)=true:=by have:=pA.out;simp;omega
 have b2:(l8:Int)+1 < lv:=by have:=pA.out;omega
 refine cG (S:=(Env w0 (ae o (aw S.c kd key val lv nx 0 (zP F.fb) n ((l8:Int)+1) t y an er dn)::LT { S with G:=G9,f:=upd S.f (5,n,7+(l8:Int)) q,qc:={ S.qc with s:=wrap64 (S.qc.s+1) },m:=S.m+1 } R))) (by kernel_rfl) (by kernel_rfl) hP.drew (fun hT=>?_);have af:=zH hT;clear hT
 repeat ((first
  | (refine cH (v:=?_) af.o (by rfl) ?_ ?_;rotate_left;(intro w5 hS;have r:=hS.rule 0 rfl;unfold aw at r;go_simp<;>rfl))
  | (refine cI af.o (by rfl) ?_)
  | (refine cJ (v:=?_) (f:=?_) (args:=?_) af.o (by rfl) ?_ ?_ ?_;rotate_left 3;(intro w5 hS;have r:=hS.rule 0 rfl;unfold aw at r;go_simp;constructor<;>rfl);(intro w5 hS;(first | fail))));try simp only[Act.put,zA,zZ,zS])
 refine InText.nil fun w5 aK=>?_;clear af;clear hP;go_wp2_with fail;refine (goOn_r (o:=5) 0 _ _ _ (by simp[aw]) aK rfl).mono ?_;rintro e w7 ⟨rfl,aO⟩;go_wp2_with fail;go_ret;exact⟨rfl,G9,aO⟩
theorem Mt (aH:¬ ((l8+1:Nat):Int) < lv) (aZ:Wf (5,n,7+(l8:Int))) (hg:bE w0) (hm:S.m < maxLen) (fX:l8<=1000) (hl:l8 < h) (hW:aD (L l8).W) (hI:eK F S.c key L h R) (hE:Env w0 (ae o (aw S.c kd key val lv nx 0 (zP F.fb) n (l8:Int) t y an er dn)::LT S R) w) :
  Calls prog 129 #[zP o,.iface 28 (zP S.p)] w fun e w'=>e=.returned (zI 0)/\∃ G',Env w0 (ae o (aw S.c kd key val lv (mvL 154 o) 0 (zP F.fb) n 0 t y an er dn)::LT { S with G:=G',f:=upd S.f (5,n,7+(l8:Int)) (aP false (aA (L l8).W) S.ce),qc:={ S.qc with s:=wrap64 (S.qc.s+1) },m:=S.m+1 } R) w':=by
 have cf:=cg;have eV:=ve;have gU:=zH fun (v:World) (hv:ao 0 v o (aw S.c kd key val lv nx 0 (zP F.fb) n (l8:Int) t y an er dn))=>qG (l:=(l8:Int)) (by omega) hv;have mZ:=fun (v:World) (hv:Below w0.heap.size w0 v/\ao 0 v o (aw S.c kd key val lv nx 0 (zP F.fb) n (l8:Int) t y an er dn)/\ao 0 v S.c (cT S.ck S.cs S.cb S.ch S.cl S.ce S.cr S.hs 0 S.q)/\fg F S.c key L h v)=>xH (hg.keep' hv.1) hI.hh.2 hl hW hv.2.2.2 hv.2.2.1 hv.2.1;have dR:aD (aP false (aA (L l8).W) S.ce):=kN _ _ _;obtain⟨q,hq⟩:∃ q,aP false (aA (L l8).W) S.ce=q:=⟨_,rfl⟩;rw[hq] at dR ⊢;simp only[hq] at mZ;have mY:=zH mZ;have gp:=zH dR;have HI:=zH hI;have dQ:=zH aZ;have pA:=zH aH;have sk:=zH fX;clear hq dR mZ hI aZ hW hl hg aH fX;go_enter func129,ntmps129;go_wp2_with fail;refine Ord.wc [8] (fun v=>Below w0.heap.size w0 v/\ao 0 v o (aw S.c kd key val lv nx 0 (zP F.fb) n (l8:Int) t y an er dn)/\ao 0 v S.c (cT S.ck S.cs S.cb S.ch S.cl S.ce S.cr S.hs 0 S.q)/\fg F S.c key L h v) (fun k w'=>∃ G5,Env w0 (ae o (aw S.c kd key val lv nx 0 (zP F.fb) n (l8:Int) t y an er dn)::LT (if k=0 then S else { S with G:=G5,f:=upd S.f (5,n,7+(l8:Int)) q,qc:={ S.qc with s:=wrap64 (S.qc.s+1) },m:=S.m+1 }) R) w') ⟨hE.drew.below,hE.drew.get 0 rfl,hE.drew.get 1 rfl,HI.out.at9 hE.drew (fun a ha=>by simp[LT,ha])⟩ ⟨S.G,hE.drew⟩ fun af=>?_
 repeat ((first
  | (refine Ord.cv ?_ af.o ?_ ?_;rotate_left;(intro w5 hS;have r:=ao.rule hS.2.1;unfold aw at r;go_simp<;>rfl))
  | (refine Ord.co af.o ?_)
  | (refine Ord.cc ?_ ?_ ?_ af.o ?_ ?_ ?_;rotate_left 3;(intro w5 hS;have r:=ao.rule hS.2.1;unfold aw at r;go_simp;constructor<;>rfl);(intro w5 hS;(first | (with_reducible refine kp (gU.out _ hS.2.1) ?_ ?_;rfl;exact fun w6 aj=>⟨⟨hS.1.trans (aj.mono hS.1.size),hS.2.1.under aj,hS.2.2.1.under aj,hS.2.2.2.under aj⟩,fun k h=>h.elim fun G5 h=>⟨G5,h.over aj⟩⟩) | (with_reducible refine kp (mY.out _ hS) ?_ ?_;rfl;exact fun w6 aj=>⟨⟨hS.1.trans (aj.mono hS.1.size),hS.2.1.under aj,hS.2.2.1.under aj,hS.2.2.2.under aj⟩,fun k h=>h.elim fun G5 h=>⟨G5,h.over aj⟩⟩)))));try simp only[Act.put,zA,zZ,zS])
 refine Ord.ch_turn (v:=.tuple #[]) 0 af.o rfl (by decide) (Or.inl rfl) (by rfl) ?_ ?_
 ·rintro w5 aN ⟨G5,au⟩;simp only[if_true] at au;go_simp;rw[tr];simp only[Result.andThen_ok];go_simp;simp only[Ord.LandsIn];refine (tq 5 n (7+(l8:Int)) 0 q 0 false dQ.out gp.out hm 3 4 (by decide) au rfl rfl).mono ?_;rintro e w6 ⟨rfl,G6,aq⟩;exact⟨rfl,⟨aq.below,aq.get 0 rfl,aq.get 1 rfl,HI.out.at9 aq (fun a ha=>by simp[LT,ha])⟩,G6,aq⟩
 try simp only[Act.put,zA,zZ,zS]
 repeat ((first
  | (refine Ord.cv ?_ af.o ?_ ?_;rotate_left;(intro w5 hS;skip;go_simp<;>rfl))
  | (refine Ord.co af.o ?_));try simp only[Act.put,zA,zZ,zS])
 refine Ord.InText.nil fun w5 hS=>?_;clear af;obtain⟨aL,ai⟩:=Ord.chain_end hS;clear hS;obtain⟨G9,ai⟩:=ai;simp only[List.length_cons,List.length_nil,Nat.zero_add,Nat.one_ne_zero,if_false] at ai;clear aL hE mY gU;have fX:=sk.out;have r0:=ai.rule 0 rfl;unfold aw at r0;have f9:=ai.thaw 0 rfl 10 (by simp[aw]);have hP:=ai.put 0 rfl (j:=10) (by simp[aw]) (zI ((l8:Int)+1));replace hP:Env w0 (ae o (aw S.c kd key val lv nx 0 (zP F.fb) n ((l8:Int)+1) t y an er dn)::LT { S with G:=G9,f:=upd S.f (5,n,7+(l8:Int)) q,qc:={ S.qc with s:=wrap64 (S.qc.s+1) },m:=S.m+1 } R) _:=hP;clear ai
 go_upto_region 3 with fail
 generalize World.setCell _ _ _=w9 at *;clear r0 f9;have b1:decide ((l8:Int)+1 < lv)=false:=by have:=pA.out;simp;omega
 have b2:¬ (l8:Int)+1 < lv:=by have:=pA.out;omega
 refine cG (S:=(Env w0 (ae o (aw S.c kd key val lv nx 0 (zP F.fb) n ((l8:Int)+1) t y an er dn)::LT { S with G:=G9,f:=upd S.f (5,n,7+(l8:Int)) q,qc:={ S.qc with s:=wrap64 (S.qc.s+1) },m:=S.m+1 } R))) (by kernel_rfl) (by kernel_rfl) hP.drew (fun hT=>?_);have af:=zH hT;clear hT
 repeat ((first
  | (refine cH (v:=?_) af.o (by rfl) ?_ ?_;rotate_left;(intro w5 hS;have r:=hS.rule 0 rfl;unfold aw at r;go_simp<;>rfl))
  | (refine cI af.o (by rfl) ?_)
  | (refine cJ (v:=?_) (f:=?_) (args:=?_) af.o (by rfl) ?_ ?_ ?_;rotate_left 3;(intro w5 hS;have r:=hS.rule 0 rfl;unfold aw at r;go_simp;constructor<;>rfl);(intro w5 hS;(first | fail))));try simp only[Act.put,zA,zZ,zS])
 refine InText.nil fun w5 aK=>?_;clear af;clear hP;have r:=aK.rule 0 rfl;unfold aw at r;have f9:=aK.thaw 0 rfl 10 (by simp[aw]);have hQ:=aK.put 0 rfl (j:=10) (by simp[aw]) (zI 0);replace hQ:Env w0 (ae o (aw S.c kd key val lv nx 0 (zP F.fb) n 0 t y an er dn)::LT { S with G:=G9,f:=upd S.f (5,n,7+(l8:Int)) q,qc:={ S.qc with s:=wrap64 (S.qc.s+1) },m:=S.m+1 } R) _:=hQ;clear aK;go_wp2_with fail;refine (goOn_r (o:=5) 0 _ _ _ (by simp[aw]) hQ rfl).mono ?_;rintro e w7 ⟨rfl,aO⟩;go_wp2_with fail;go_ret;exact⟨rfl,G9,aO⟩
theorem Mu (aZ:Wf (5,n,7+(l8:Int))) (hg:bE w0) (hm:S.m < maxLen) (fX:l8<=1000) (hl:l8 < h) (hW:aD (L l8).W) (hI:eK F S.c key L h R) (hE:Env w0 (ae o (aw S.c kd key val lv nx 0 (zP F.fb) n (l8:Int) t y an er dn)::LT S R) w) :
  Calls prog 220 #[zP o,.iface 28 (zP S.p)] w fun e w'=>e=.returned (zI 0)/\∃ G',Env w0 (ae o (aw S.c kd key val lv (mvL (if S.f (5,n,7+(l8:Int))=y then 203 else 201) o) 0 (zP F.fb) n (l8:Int) t y an er dn)::LT { S with G:=G',f:=swf S.f (5,n,7+(l8:Int)) y (aP false (aA (L l8).W) S.ce),qc:=dE S.qc (decide (S.f (5,n,7+(l8:Int))=y)),m:=S.m+1 } R) w':=by
 have cf:=cg;have eV:=kQ;have gU:=zH fun (v:World) (hv:ao 0 v o (aw S.c kd key val lv nx 0 (zP F.fb) n (l8:Int) t y an er dn))=>qG (l:=(l8:Int)) (by omega) hv;have mZ:=fun (v:World) (hv:Below w0.heap.size w0 v/\ao 0 v o (aw S.c kd key val lv nx 0 (zP F.fb) n (l8:Int) t y an er dn)/\ao 0 v S.c (cT S.ck S.cs S.cb S.ch S.cl S.ce S.cr S.hs 0 S.q)/\fg F S.c key L h v)=>xH (hg.keep' hv.1) hI.hh.2 hl hW hv.2.2.2 hv.2.2.1 hv.2.1;have dR:aD (aP false (aA (L l8).W) S.ce):=kN _ _ _;obtain⟨q,hq⟩:∃ q,aP false (aA (L l8).W) S.ce=q:=⟨_,rfl⟩;rw[hq] at dR ⊢;simp only[hq] at mZ;have mY:=zH mZ;have gp:=zH dR;have HI:=zH hI;have dQ:=zH aZ;obtain⟨dd,hdd⟩:∃ dd,decide (S.f (5,n,7+(l8:Int))=y)=dd:=⟨_,rfl⟩;have j9:∀ (a b:Nat),(if S.f (5,n,7+(l8:Int))=y then a else b)=if dd then a else b:=fun a b=>by rw[<- hdd];by_cases h:S.f (5,n,7+(l8:Int))=y<;>simp[h]
 rw[j9,hdd];have dZ:=zH hdd;clear hdd j9;clear hq dR mZ hI aZ hW hl hg fX;go_enter func220,ntmps220;go_wp2_with fail;refine Ord.wc [12] (fun v=>Below w0.heap.size w0 v/\ao 0 v o (aw S.c kd key val lv nx 0 (zP F.fb) n (l8:Int) t y an er dn)/\ao 0 v S.c (cT S.ck S.cs S.cb S.ch S.cl S.ce S.cr S.hs 0 S.q)/\fg F S.c key L h v) (fun k w'=>∃ G5,Env w0 (ae o (aw S.c kd key val lv nx 0 (zP F.fb) n (l8:Int) t y an er dn)::LT (if k=0 then S else { S with G:=G5,f:=swf S.f (5,n,7+(l8:Int)) y q,qc:=dE S.qc dd,m:=S.m+1 }) R) w') ⟨hE.drew.below,hE.drew.get 0 rfl,hE.drew.get 1 rfl,HI.out.at9 hE.drew (fun a ha=>by simp[LT,ha])⟩ ⟨S.G,hE.drew⟩ fun af=>?_
 repeat ((first
  | (refine Ord.cv ?_ af.o ?_ ?_;rotate_left;(intro w5 hS;have r:=ao.rule hS.2.1;unfold aw at r;go_simp<;>rfl))
  | (refine Ord.co af.o ?_)
  | (refine Ord.cc ?_ ?_ ?_ af.o ?_ ?_ ?_;rotate_left 3;(intro w5 hS;have r:=ao.rule hS.2.1;unfold aw at r;go_simp;constructor<;>rfl);(intro w5 hS;(first | (with_reducible refine kp (gU.out _ hS.2.1) ?_ ?_;rfl;exact fun w6 aj=>⟨⟨hS.1.trans (aj.mono hS.1.size),hS.2.1.under aj,hS.2.2.1.under aj,hS.2.2.2.under aj⟩,fun k h=>h.elim fun G5 h=>⟨G5,h.over aj⟩⟩) | (with_reducible refine kp (mY.out _ hS) ?_ ?_;rfl;exact fun w6 aj=>⟨⟨hS.1.trans (aj.mono hS.1.size),hS.2.1.under aj,hS.2.2.1.under aj,hS.2.2.2.under aj⟩,fun k h=>h.elim fun G5 h=>⟨G5,h.over aj⟩⟩)))));try simp only[Act.put,zA,zZ,zS])
 refine Ord.ch_turn (v:=.bool dd) 0 af.o rfl (by decide) (Or.inl rfl) (by rfl) ?_ ?_
 ·rintro w5 aN ⟨G5,au⟩;simp only[if_true] at au;go_simp;rw[kP];simp only[Result.andThen_ok];go_simp;simp only[Ord.LandsIn];have bS:=kO 5 n (7+(l8:Int)) 0 y 0 q 0 false false dQ.out gp.out hm 3 4 (by decide) au rfl rfl;rw[dZ.out] at bS;refine bS.mono ?_;rintro e w6 ⟨rfl,G6,aq⟩;exact⟨rfl,⟨aq.below,aq.get 0 rfl,aq.get 1 rfl,HI.out.at9 aq (fun a ha=>by simp[LT,ha])⟩,G6,aq⟩
 try simp only[Act.put,zA,zZ,zS]
 repeat ((first
  | (refine Ord.cv ?_ af.o ?_ ?_;rotate_left;(intro w5 hS;skip;go_simp<;>rfl))
  | (refine Ord.co af.o ?_));try simp only[Act.put,zA,zZ,zS])
 refine Ord.InText.nil fun w5 hS=>?_;clear af;obtain⟨aL,ai⟩:=Ord.chain_end hS;clear hS;obtain⟨G9,ai⟩:=ai;simp only[List.length_cons,List.length_nil,Nat.zero_add,Nat.one_ne_zero,if_false] at ai;clear aL hE mY gU dZ;cases dd
 all_goals
  go_wp2_with fail;refine (goOn_r (o:=5) 0 _ _ _ (by simp[aw]) ai rfl).mono ?_;rintro e w7 ⟨rfl,aO⟩;go_wp2_with fail;go_ret;exact⟨rfl,G9,aO⟩
theorem Mv (heq:S.f (5,n,7+(l8:Int))≠y) (aZ:Wf (5,n,7+(l8:Int))) (hy:aD y) (bA:cO y=false) (hg:bE w0) (hm:S.m < maxLen) (fX:l8<=1000) (hE:Env w0 (ae o (aw S.c kd key val lv nx 0 fp n (l8:Int) t y an er dn)::LT S R) w) :
  Calls prog 222 #[zP o,.iface 28 (zP S.p)] w fun e w'=>e=.returned (zI 0)/\∃ G',Env w0 (ae o (aw S.c kd key val lv (mvL 185 o) 0 fp n (l8:Int) t y an er dn)::LT { S with G:=G',f:=swf S.f (5,n,7+(l8:Int)) y (aP true (aA y) S.ce),qc:=dE S.qc (decide (S.f (5,n,7+(l8:Int))=y)),m:=S.m+1 } R) w':=by
 have cf:=cg;have eV:=kQ;have gU:=zH fun (v:World) (hv:ao 0 v o (aw S.c kd key val lv nx 0 fp n (l8:Int) t y an er dn))=>qG (l:=(l8:Int)) (by omega) hv;have dF:=zH fun (v:World) (hv:Below w0.heap.size w0 v)=>kt y 0 false v hy (hg.keep' hv);have cP:=fun (v:World) (hv:Below w0.heap.size w0 v) (hb:ao 0 v S.c (cT S.ck S.cs S.cb S.ch S.cl S.ce S.cr S.hs 0 S.q))=>Ax y 0 false (aA y) 0 hy bA (hg.keep' hv) hb;have dR:aD (aP true (aA y) S.ce):=kN _ _ _;obtain⟨s,hs⟩:∃ s,aA y=s:=⟨_,rfl⟩;rw[hs] at dR ⊢;simp only[hs] at dF cP;obtain⟨q,hq⟩:∃ q,aP true s S.ce=q:=⟨_,rfl⟩;rw[hq] at dR ⊢;simp only[hq] at cP;have dT:=zH cP;have gp:=zH dR;have dQ:=zH aZ;have sk:=zH fX;have dZ:=zH (decide_eq_false heq);rw[decide_eq_false heq];clear heq;clear hs hq dR cP aZ hy bA hg fX;go_enter func222,ntmps222;go_wp2_with fail;refine Ord.wc [24] (fun v=>Below w0.heap.size w0 v/\ao 0 v o (aw S.c kd key val lv nx 0 fp n (l8:Int) t y an er dn)/\ao 0 v S.c (cT S.ck S.cs S.cb S.ch S.cl S.ce S.cr S.hs 0 S.q)) (fun k w'=>∃ G5,Env w0 (ae o (aw S.c kd key val lv nx 0 fp n (l8:Int) t y an er dn)::LT (if k=0 then S else { S with G:=G5,f:=swf S.f (5,n,7+(l8:Int)) y q,qc:=dE S.qc false,m:=S.m+1 }) R) w') ⟨hE.drew.below,hE.drew.get 0 rfl,hE.drew.get 1 rfl⟩ ⟨S.G,hE.drew⟩ fun af=>?_
 repeat ((first
  | (refine Ord.cv ?_ af.o ?_ ?_;rotate_left;(intro w5 hS;have r:=ao.rule hS.2.1;unfold aw at r;go_simp<;>rfl))
  | (refine Ord.co af.o ?_)
  | (refine Ord.cc ?_ ?_ ?_ af.o ?_ ?_ ?_;rotate_left 3;(intro w5 hS;have r:=ao.rule hS.2.1;unfold aw at r;go_simp;constructor<;>rfl);(intro w5 hS;(first | (with_reducible refine kp (gU.out _ hS.2.1) ?_ ?_;rfl;exact fun w6 aj=>⟨⟨hS.1.trans (aj.mono hS.1.size),hS.2.1.under aj,hS.2.2.under aj⟩,fun k h=>h.elim fun G5 h=>⟨G5,h.over aj⟩⟩) | (with_reducible refine kp (dF.out _ hS.1) ?_ ?_;rfl;exact fun w6 aj=>⟨⟨hS.1.trans (aj.mono hS.1.size),hS.2.1.under aj,hS.2.2.under aj⟩,fun k h=>h.elim fun G5 h=>⟨G5,h.over aj⟩⟩) | (with_reducible refine kp (dT.out _ hS.1 hS.2.2) ?_ ?_;rfl;exact fun w6 aj=>⟨⟨hS.1.trans (aj.mono hS.1.size),hS.2.1.under aj,hS.2.2.under aj⟩,fun k h=>h.elim fun G5 h=>⟨G5,h.over aj⟩⟩)))));try simp only[Act.put,zA,zZ,zS])
 refine Ord.ch_turn (v:=.bool false) 0 af.o rfl (by decide) (Or.inl rfl) (by rfl) ?_ ?_
 ·rintro w5 aN ⟨G5,au⟩;simp only[if_true] at au;go_simp;rw[kP];simp only[Result.andThen_ok];go_simp;simp only[Ord.LandsIn];have bS:=kO 5 n (7+(l8:Int)) 0 y 0 q 0 false false dQ.out gp.out hm 3 4 (by decide) au rfl rfl;rw[dZ.out] at bS;refine bS.mono ?_;rintro e w6 ⟨rfl,G6,aq⟩;exact⟨rfl,⟨aq.below,aq.get 0 rfl,aq.get 1 rfl⟩,G6,aq⟩
 try simp only[Act.put,zA,zZ,zS]
 repeat ((first
  | (refine Ord.cv ?_ af.o ?_ ?_;rotate_left;(intro w5 hS;skip;go_simp<;>rfl))
  | (refine Ord.co af.o ?_));try simp only[Act.put,zA,zZ,zS])
 refine Ord.InText.nil fun w5 hS=>?_;clear af;obtain⟨aL,ai⟩:=Ord.chain_end hS;clear hS;obtain⟨G9,ai⟩:=ai;simp only[List.length_cons,List.length_nil,Nat.zero_add,Nat.one_ne_zero,if_false] at ai;clear aL hE gU dF dT;have r:=ai.rule 0 rfl;unfold aw at r;go_wp2_with fail;refine (goOn_r (o:=5) 0 _ _ _ (by simp[aw]) ai rfl).mono ?_;rintro e w7 ⟨rfl,aO⟩;go_wp2_with fail;go_ret;exact⟨rfl,G9,aO⟩
theorem Mw (heq:S.f (5,n,7+(l8:Int))=y) (h0:l8=0) (aZ:Wf (5,n,7+(l8:Int))) (hy:aD y) (bA:cO y=false) (hg:bE w0) (hm:S.m < maxLen) (fX:l8<=1000) (hE:Env w0 (ae o (aw S.c kd key val lv nx 0 fp n (l8:Int) t y an er dn)::LT S R) w) :
  Calls prog 222 #[zP o,.iface 28 (zP S.p)] w fun e w'=>e=.returned (zI 0)/\∃ G',Env w0 (ae o (aw S.c kd key val lv (mvL 234 o) 0 fp n (l8:Int) t y an er dn)::LT { S with G:=G',f:=swf S.f (5,n,7+(l8:Int)) y (aP true (aA y) S.ce),qc:=dE S.qc (decide (S.f (5,n,7+(l8:Int))=y)),m:=S.m+1 } R) w':=by
 have cf:=cg;have eV:=kQ;have gU:=zH fun (v:World) (hv:ao 0 v o (aw S.c kd key val lv nx 0 fp n (l8:Int) t y an er dn))=>qG (l:=(l8:Int)) (by omega) hv;have dF:=zH fun (v:World) (hv:Below w0.heap.size w0 v)=>kt y 0 false v hy (hg.keep' hv);have cP:=fun (v:World) (hv:Below w0.heap.size w0 v) (hb:ao 0 v S.c (cT S.ck S.cs S.cb S.ch S.cl S.ce S.cr S.hs 0 S.q))=>Ax y 0 false (aA y) 0 hy bA (hg.keep' hv) hb;have dR:aD (aP true (aA y) S.ce):=kN _ _ _;obtain⟨s,hs⟩:∃ s,aA y=s:=⟨_,rfl⟩;rw[hs] at dR ⊢;simp only[hs] at dF cP;obtain⟨q,hq⟩:∃ q,aP true s S.ce=q:=⟨_,rfl⟩;rw[hq] at dR ⊢;simp only[hq] at cP;have dT:=zH cP;have gp:=zH dR;have dQ:=zH aZ;have sk:=zH fX;have dZ:=zH (decide_eq_true heq);rw[decide_eq_true heq];clear heq;have H0:=zH h0;clear h0;clear hs hq dR cP aZ hy bA hg fX;go_enter func222,ntmps222;go_wp2_with fail;refine Ord.wc [24] (fun v=>Below w0.heap.size w0 v/\ao 0 v o (aw S.c kd key val lv nx 0 fp n (l8:Int) t y an er dn)/\ao 0 v S.c (cT S.ck S.cs S.cb S.ch S.cl S.ce S.cr S.hs 0 S.q)) (fun k w'=>∃ G5,Env w0 (ae o (aw S.c kd key val lv nx 0 fp n (l8:Int) t y an er dn)::LT (if k=0 then S else { S with G:=G5,f:=swf S.f (5,n,7+(l8:Int)) y q,qc:=dE S.qc true,m:=S.m+1 }) R) w') ⟨hE.drew.below,hE.drew.get 0 rfl,hE.drew.get 1 rfl⟩ ⟨S.G,hE.drew⟩ fun af=>?_
 repeat ((first
  | (refine Ord.cv ?_ af.o ?_ ?_;rotate_left;(intro w5 hS;have r:=ao.rule hS.2.1;unfold aw at r;go_simp<;>rfl))
  | (refine Ord.co af.o ?_)
  | (refine Ord.cc ?_ ?_ ?_ af.o ?_ ?_ ?_;rotate_left 3;(intro w5 hS;have r:=ao.rule hS.2.1;unfold aw at r;go_simp;constructor<;>rfl);(intro w5 hS;(first | (with_reducible refine kp (gU.out _ hS.2.1) ?_ ?_;rfl;exact fun w6 aj=>⟨⟨hS.1.trans (aj.mono hS.1.size),hS.2.1.under aj,hS.2.2.under aj⟩,fun k h=>h.elim fun G5 h=>⟨G5,h.over aj⟩⟩) | (with_reducible refine kp (dF.out _ hS.1) ?_ ?_;rfl;exact fun w6 aj=>⟨⟨hS.1.trans (aj.mono hS.1.size),hS.2.1.under aj,hS.2.2.under aj⟩,fun k h=>h.elim fun G5 h=>⟨G5,h.over aj⟩⟩) | (with_reducible refine kp (dT.out _ hS.1 hS.2.2) ?_ ?_;rfl;exact fun w6 aj=>⟨⟨hS.1.trans (aj.mono hS.1.size),hS.2.1.under aj,hS.2.2.under aj⟩,fun k h=>h.elim fun G5 h=>⟨G5,h.over aj⟩⟩)))));try simp only[Act.put,zA,zZ,zS])
 refine Ord.ch_turn (v:=.bool true) 0 af.o rfl (by decide) (Or.inl rfl) (by rfl) ?_ ?_
 ·rintro w5 aN ⟨G5,au⟩;simp only[if_true] at au;go_simp;rw[kP];simp only[Result.andThen_ok];go_simp;simp only[Ord.LandsIn];have bS:=kO 5 n (7+(l8:Int)) 0 y 0 q 0 false false dQ.out gp.out hm 3 4 (by decide) au rfl rfl;rw[dZ.out] at bS;refine bS.mono ?_;rintro e w6 ⟨rfl,G6,aq⟩;exact⟨rfl,⟨aq.below,aq.get 0 rfl,aq.get 1 rfl⟩,G6,aq⟩
 try simp only[Act.put,zA,zZ,zS]
 repeat ((first
  | (refine Ord.cv ?_ af.o ?_ ?_;rotate_left;(intro w5 hS;skip;go_simp<;>rfl))
  | (refine Ord.co af.o ?_));try simp only[Act.put,zA,zZ,zS])
 refine Ord.InText.nil fun w5 hS=>?_;clear af;obtain⟨aL,ai⟩:=Ord.chain_end hS;clear hS;obtain⟨G9,ai⟩:=ai;simp only[List.length_cons,List.length_nil,Nat.zero_add,Nat.one_ne_zero,if_false] at ai;clear aL hE gU dF dT;have r:=ai.rule 0 rfl;unfold aw at r;have b0:((l8:Int)==0)=true:=by have:=H0.out;simp;omega
 go_wp2_with fail;refine (goOn_r (o:=5) 0 _ _ _ (by simp[aw]) ai rfl).mono ?_;rintro e w7 ⟨rfl,aO⟩;go_wp2_with fail;go_ret;exact⟨rfl,G9,aO⟩
theorem EJ (h0:1<=l8) (fX:l8<=1000) (hE:Env w0 (ae o (aw c kd key val lv nx 0 fp n (l8:Int) t y an er dn)::M) w) :
  Calls prog 223 #[zP o] w fun e w'=>e=.returned (zI 0)/\Env w0 (ae o (aw c kd key val lv (mvL 185 o) 0 fp n ((l8 - 1:Nat):Int) t y an er dn)::M) w':=by
 have cf:=cg;have hz:((l8 - 1:Nat):Int)=(l8:Int) - 1:=by omega
 rw[hz];have r:=hE.rule 0 rfl;unfold aw at r;have f9:=hE.thaw 0 rfl 10 (by simp[aw]);have hQ:=hE.put 0 rfl (j:=10) (by simp[aw]) (zI ((l8:Int) - 1));replace hQ:Env w0 (ae o (aw c kd key val lv nx 0 fp n ((l8:Int) - 1) t y an er dn)::M) _:=hQ;clear hE hz;go_enter func223,ntmps223;go_wp2_with fail;refine (goOn_r (o:=5) 0 _ _ _ (by simp[aw]) hQ rfl).mono ?_;rintro e w7 ⟨rfl,aO⟩;go_wp2_with fail;go_ret;exact⟨rfl,aO⟩
theorem Mx (heq:S.f (5,n,7+(l8:Int))=y) (h0:1<=l8) (aZ:Wf (5,n,7+(l8:Int))) (hy:aD y) (bA:cO y=false) (hg:bE w0) (hm:S.m < maxLen) (fX:l8<=1000) (hE:Env w0 (ae o (aw S.c kd key val lv nx 0 fp n (l8:Int) t y an er dn)::LT S R) w) :
  Calls prog 222 #[zP o,.iface 28 (zP S.p)] w fun e w'=>e=.returned (zI 0)/\∃ G',Env w0 (ae o (aw S.c kd key val lv (mvL 185 o) 0 fp n ((l8 - 1:Nat):Int) t y an er dn)::LT { S with G:=G',f:=swf S.f (5,n,7+(l8:Int)) y (aP true (aA y) S.ce),qc:=dE S.qc (decide (S.f (5,n,7+(l8:Int))=y)),m:=S.m+1 } R) w':=by
 have cf:=cg;have eV:=kQ;have gU:=zH fun (v:World) (hv:ao 0 v o (aw S.c kd key val lv nx 0 fp n (l8:Int) t y an er dn))=>qG (l:=(l8:Int)) (by omega) hv;have dF:=zH fun (v:World) (hv:Below w0.heap.size w0 v)=>kt y 0 false v hy (hg.keep' hv);have cP:=fun (v:World) (hv:Below w0.heap.size w0 v) (hb:ao 0 v S.c (cT S.ck S.cs S.cb S.ch S.cl S.ce S.cr S.hs 0 S.q))=>Ax y 0 false (aA y) 0 hy bA (hg.keep' hv) hb;have dR:aD (aP true (aA y) S.ce):=kN _ _ _;obtain⟨s,hs⟩:∃ s,aA y=s:=⟨_,rfl⟩;rw[hs] at dR ⊢;simp only[hs] at dF cP;obtain⟨q,hq⟩:∃ q,aP true s S.ce=q:=⟨_,rfl⟩;rw[hq] at dR ⊢;simp only[hq] at cP;have dT:=zH cP;have gp:=zH dR;have dQ:=zH aZ;have sk:=zH fX;have dZ:=zH (decide_eq_true heq);rw[decide_eq_true heq];clear heq;have H0:=zH h0;clear h0;clear hs hq dR cP aZ hy bA hg fX;go_enter func222,ntmps222;go_wp2_with fail;refine Ord.wc [24] (fun v=>Below w0.heap.size w0 v/\ao 0 v o (aw S.c kd key val lv nx 0 fp n (l8:Int) t y an er dn)/\ao 0 v S.c (cT S.ck S.cs S.cb S.ch S.cl S.ce S.cr S.hs 0 S.q)) (fun k w'=>∃ G5,Env w0 (ae o (aw S.c kd key val lv nx 0 fp n (l8:Int) t y an er dn)::LT (if k=0 then S else { S with G:=G5,f:=swf S.f (5,n,7+(l8:Int)) y q,qc:=dE S.qc true,m:=S.m+1 }) R) w') ⟨hE.drew.below,hE.drew.get 0 rfl,hE.drew.get 1 rfl⟩ ⟨S.G,hE.drew⟩ fun af=>?_
 repeat ((first
  | (refine Ord.cv ?_ af.o ?_ ?_;rotate_left;(intro w5 hS;have r:=ao.rule hS.2.1;unfold aw at r;go_simp<;>rfl))
  | (refine Ord.co af.o ?_)
  | (refine Ord.cc ?_ ?_ ?_ af.o ?_ ?_ ?_;rotate_left 3;(intro w5 hS;have r:=ao.rule hS.2.1;unfold aw at r;go_simp;constructor<;>rfl);(intro w5 hS;(first | (with_reducible refine kp (gU.out _ hS.2.1) ?_ ?_;rfl;exact fun w6 aj=>⟨⟨hS.1.trans (aj.mono hS.1.size),hS.2.1.under aj,hS.2.2.under aj⟩,fun k h=>h.elim fun G5 h=>⟨G5,h.over aj⟩⟩) | (with_reducible refine kp (dF.out _ hS.1) ?_ ?_;rfl;exact fun w6 aj=>⟨⟨hS.1.trans (aj.mono hS.1.size),hS.2.1.under aj,hS.2.2.under aj⟩,fun k h=>h.elim fun G5 h=>⟨G5,h.over aj⟩⟩) | (with_reducible refine kp (dT.out _ hS.1 hS.2.2) ?_ ?_;rfl;exact fun w6 aj=>⟨⟨hS.1.trans (aj.mono hS.1.size),hS.2.1.under aj,hS.2.2.under aj⟩,fun k h=>h.elim fun G5 h=>⟨G5,h.over aj⟩⟩)))));try simp only[Act.put,zA,zZ,zS])
 refine Ord.ch_turn (v:=.bool true) 0 af.o rfl (by decide) (Or.inl rfl) (by rfl) ?_ ?_
 ·rintro w5 aN ⟨G5,au⟩;simp only[if_true] at au;go_simp;rw[kP];simp only[Result.andThen_ok];go_simp;simp only[Ord.LandsIn];have bS:=kO 5 n (7+(l8:Int)) 0 y 0 q 0 false false dQ.out gp.out hm 3 4 (by decide) au rfl rfl;rw[dZ.out] at bS;refine bS.mono ?_;rintro e w6 ⟨rfl,G6,aq⟩;exact⟨rfl,⟨aq.below,aq.get 0 rfl,aq.get 1 rfl⟩,G6,aq⟩
 try simp only[Act.put,zA,zZ,zS]
 repeat ((first
  | (refine Ord.cv ?_ af.o ?_ ?_;rotate_left;(intro w5 hS;skip;go_simp<;>rfl))
  | (refine Ord.co af.o ?_));try simp only[Act.put,zA,zZ,zS])
 refine Ord.InText.nil fun w5 hS=>?_;clear af;obtain⟨aL,ai⟩:=Ord.chain_end hS;clear hS;obtain⟨G9,ai⟩:=ai;simp only[List.length_cons,List.length_nil,Nat.zero_add,Nat.one_ne_zero,if_false] at ai;clear aL hE gU dF dT;have r:=ai.rule 0 rfl;unfold aw at r;have b0:((l8:Int)==0)=false:=by have:=H0.out;simp;omega
 go_wp2_with fail;refine (EJ H0.out sk.out ai).mono ?_;rintro e w7 ⟨rfl,aO⟩;go_wp2_with fail;go_ret;exact⟨rfl,G9,aO⟩
end
section
variable {w0 w:World} {R M:List Item} {o c h l8:Nat} {S:ST} {kd key val lv:Int} {nx fp:Value} {er st n l t y:Int} {an dn:Bool} {F:Fd} {L:Nat->Lm}
theorem EK (x:Int) (hx:aD x) (heq:S.f (5,n,6)=0) (aZ:Wf (5,n,6)) (hm:S.m < maxLen) (hE:Env w0 (ae o (aw S.c kd key val lv nx 0 fp n l t y an er dn)::LT S R) w) :
  Calls prog 218 #[zP o,.iface 28 (zP S.p),zU x] w fun e w'=>e=.returned (zI 1)/\∃ G',Env w0 (ae o (aw S.c kd key val lv nx 1 fp n l t y an 0 true)::LT { S with G:=G',f:=swf S.f (5,n,6) 0 x,qc:=dE S.qc (decide (S.f (5,n,6)=0)),m:=S.m+1 } R) w':=by
 have cf:=cg;have eV:=kQ;have vA:=zH fun (v:World) (hv:ao 0 v o (aw S.c kd key val lv nx 0 fp n l t y an er dn))=>Az 6 hv;have dZ:=zH (decide_eq_true heq);rw[decide_eq_true heq];have dQ:=zH aZ;have HX:=zH hx;clear heq aZ hx;go_enter func218,ntmps218;go_wp2_with fail;refine Ord.wc [9] (fun v=>Below w0.heap.size w0 v/\ao 0 v o (aw S.c kd key val lv nx 0 fp n l t y an er dn)/\ao 0 v S.c (cT S.ck S.cs S.cb S.ch S.cl S.ce S.cr S.hs 0 S.q)) (fun k w'=>∃ G5,Env w0 (ae o (aw S.c kd key val lv nx 0 fp n l t y an er dn)::LT (if k=0 then S else { S with G:=G5,f:=swf S.f (5,n,6) 0 x,qc:=dE S.qc true,m:=S.m+1 }) R) w') ⟨hE.drew.below,hE.drew.get 0 rfl,hE.drew.get 1 rfl⟩ ⟨S.G,hE.drew⟩ fun af=>?_
 repeat ((first
  | (refine Ord.cv ?_ af.o ?_ ?_;rotate_left;(intro w5 hS;have r:=ao.rule hS.2.1;unfold aw at r;go_simp<;>rfl))
  | (refine Ord.co af.o ?_)
  | (refine Ord.cc ?_ ?_ ?_ af.o ?_ ?_ ?_;rotate_left 3;(intro w5 hS;have r:=ao.rule hS.2.1;unfold aw at r;go_simp;constructor<;>rfl);(intro w5 hS;(first | (with_reducible refine kp (vA.out _ hS.2.1) ?_ ?_;rfl;exact fun w6 aj=>⟨⟨hS.1.trans (aj.mono hS.1.size),hS.2.1.under aj,hS.2.2.under aj⟩,fun k h=>h.elim fun G5 h=>⟨G5,h.over aj⟩⟩)))));try simp only[Act.put,zA,zZ,zS])
 refine Ord.ch_turn (v:=.bool true) 0 af.o rfl (by decide) (Or.inl rfl) (by rfl) ?_ ?_
 ·rintro w5 aN ⟨G5,au⟩;simp only[if_true] at au;go_simp;rw[kP];simp only[Result.andThen_ok];go_simp;simp only[Ord.LandsIn];have bS:=kO 5 n 6 0 0 0 x 0 false false dQ.out HX.out hm 3 4 (by decide) au rfl rfl;rw[dZ.out] at bS;refine bS.mono ?_;rintro e w6 ⟨rfl,G6,aq⟩;exact⟨rfl,⟨aq.below,aq.get 0 rfl,aq.get 1 rfl⟩,G6,aq⟩
 try simp only[Act.put,zA,zZ,zS]
 repeat ((first
  | (refine Ord.cv ?_ af.o ?_ ?_;rotate_left;(intro w5 hS;skip;go_simp<;>rfl))
  | (refine Ord.co af.o ?_));try simp only[Act.put,zA,zZ,zS])
 refine Ord.InText.nil fun w5 hS=>?_;clear af;obtain⟨aL,ai⟩:=Ord.chain_end hS;clear hS;obtain⟨G9,ai⟩:=ai;simp only[List.length_cons,List.length_nil,Nat.zero_add,Nat.one_ne_zero,if_false] at ai;clear aL hE vA;have pB:=zH (Ek 1 ai);clear ai;go_wp2_with fail;refine pB.out.mono ?_;rintro e w7 ⟨rfl,aO⟩;go_wp2_with fail;go_ret;exact⟨rfl,G9,aO⟩
theorem EM (x:Int) (hx:aD x) (heq:S.f (5,n,6)≠0) (aZ:Wf (5,n,6)) (hm:S.m < maxLen) (hh:h<=1000) (dH:S.ck=3) (bH:S.ch=(h:Int)) (hE:Env w0 (ae o (aw S.c kd key val lv nx 0 fp n l t y an er dn)::LT S R) w) :
  Calls prog 218 #[zP o,.iface 28 (zP S.p),zU x] w fun e w'=>e=.returned (zI 0)/\∃ G' b1 b2 fb g,Env w0 (ae o (aw S.c kd key val lv (cvP b1 b2) 0 (zP fb) n l t y an er dn)::ae b1 [mvL 109 fb]::ae b2 [mvL 232 o]::ae fb (bq S.c key (mvL 124 fb) 0 g h 0)::ae g (List.replicate h (.pointer none))::LT { S with G:=G',f:=swf S.f (5,n,6) 0 x,qc:=dE S.qc (decide (S.f (5,n,6)=0)),m:=S.m+1 } R) w':=by
 have cf:=cg;have eV:=kQ;have vA:=zH fun (v:World) (hv:ao 0 v o (aw S.c kd key val lv nx 0 fp n l t y an er dn))=>Az 6 hv;have dZ:=zH (decide_eq_false heq);rw[decide_eq_false heq];have dQ:=zH aZ;have HX:=zH hx;have HH:=zH hh;have HC:=zH (And.intro dH bH);clear hh dH bH;clear heq aZ hx;go_enter func218,ntmps218;go_wp2_with fail;refine Ord.wc [9] (fun v=>Below w0.heap.size w0 v/\ao 0 v o (aw S.c kd key val lv nx 0 fp n l t y an er dn)/\ao 0 v S.c (cT S.ck S.cs S.cb S.ch S.cl S.ce S.cr S.hs 0 S.q)) (fun k w'=>∃ G5,Env w0 (ae o (aw S.c kd key val lv nx 0 fp n l t y an er dn)::LT (if k=0 then S else { S with G:=G5,f:=swf S.f (5,n,6) 0 x,qc:=dE S.qc false,m:=S.m+1 }) R) w') ⟨hE.drew.below,hE.drew.get 0 rfl,hE.drew.get 1 rfl⟩ ⟨S.G,hE.drew⟩ fun af=>?_
 repeat ((first
  | (refine Ord.cv ?_ af.o ?_ ?_;rotate_left;(intro w5 hS;have r:=ao.rule hS.2.1;unfold aw at r;go_simp<;>rfl))
  | (refine Ord.co af.o ?_)
  | (refine Ord.cc ?_ ?_ ?_ af.o ?_ ?_ ?_;rotate_left 3;(intro w5 hS;have r:=ao.rule hS.2.1;unfold aw at r;go_simp;constructor<;>rfl);(intro w5 hS;(first | (with_reducible refine kp (vA.out _ hS.2.1) ?_ ?_;rfl;exact fun w6 aj=>⟨⟨hS.1.trans (aj.mono hS.1.size),hS.2.1.under aj,hS.2.2.under aj⟩,fun k h=>h.elim fun G5 h=>⟨G5,h.over aj⟩⟩)))));try simp only[Act.put,zA,zZ,zS])
 refine Ord.ch_turn (v:=.bool false) 0 af.o rfl (by decide) (Or.inl rfl) (by rfl) ?_ ?_
 ·rintro w5 aN ⟨G5,au⟩;simp only[if_true] at au;go_simp;rw[kP];simp only[Result.andThen_ok];go_simp;simp only[Ord.LandsIn];have bS:=kO 5 n 6 0 0 0 x 0 false false dQ.out HX.out hm 3 4 (by decide) au rfl rfl;rw[dZ.out] at bS;refine bS.mono ?_;rintro e w6 ⟨rfl,G6,aq⟩;exact⟨rfl,⟨aq.below,aq.get 0 rfl,aq.get 1 rfl⟩,G6,aq⟩
 try simp only[Act.put,zA,zZ,zS]
 repeat ((first
  | (refine Ord.cv ?_ af.o ?_ ?_;rotate_left;(intro w5 hS;skip;go_simp<;>rfl))
  | (refine Ord.co af.o ?_));try simp only[Act.put,zA,zZ,zS])
 refine Ord.InText.nil fun w5 hS=>?_;clear af;obtain⟨aL,ai⟩:=Ord.chain_end hS;clear hS;obtain⟨G9,ai⟩:=ai;simp only[List.length_cons,List.length_nil,Nat.zero_add,Nat.one_ne_zero,if_false] at ai;clear aL hE vA;have dH:=HC.out.1;have bH:=HC.out.2;have sf:=zH (Ay 232 0 HH.out (show (LT { S with G:=G9,f:=swf S.f (5,n,6) 0 x,qc:=dE S.qc false,m:=S.m+1 } R)[0]?=some (dy S.c 3 S.cs S.cb h S.cl S.ce S.cr S.hs 0 S.q) by rw[<- dH,<- bH];rfl) ai);unfold mvL at sf;clear dH bH ai;go_wp2_with fail;refine sf.out.mono ?_;rintro e w2 ⟨rfl,b1,b2,fb,g,az⟩;clear sf;have rT:=zH az;clear az;go_wp2_with fail;go_ret;exact⟨rfl,G9,b1,b2,fb,g,rT.out⟩
theorem My (Q:Ending->World->Prop) {p:Nat} (hc:Calls prog 218 #[zP o,.iface 28 (zP p),zU 1] w fun e w'=>∃ s,e=.returned (zI s)/\Q (.returned (zI s)) w') :
  Calls prog 201 #[zP o,.iface 28 (zP p)] w Q:=by
 have HC:=zH hc;clear hc;go_enter func201,ntmps201;go_wp2_with fail;refine HC.out.mono ?_;rintro e w1 ⟨s,rfl,hq⟩;go_wp2_with fail;exact hq
theorem Mz (Q:Ending->World->Prop) {p:Nat} (hc:Calls prog 218 #[zP o,.iface 28 (zP p),zU 2] w fun e w'=>∃ s,e=.returned (zI s)/\Q (.returned (zI s)) w') :
  Calls prog 234 #[zP o,.iface 28 (zP p)] w Q:=by
 have HC:=zH hc;clear hc;go_enter func234,ntmps234;go_wp2_with fail;refine HC.out.mono ?_;rintro e w1 ⟨s,rfl,hq⟩;go_wp2_with fail;exact hq
theorem MB (u:Int) (hE:Env w0 (ae o (aw c kd key val lv nx 0 fp n l t y an er dn)::M) w) :
  Calls prog 232 #[zP o,zI u] w fun e w'=>e=.returned (zI 0)/\∃ b1 b2 r,Env w0 (ae o (aw c kd key val lv (cvP b1 b2) 0 fp n l t y an er dn)::ae b1 [mvL 241 r]::ae b2 [mvL 231 o]::ae r (dS c (j6 r 0) n 0)::M) w':=by
 have cf:=cg;go_enter func232,ntmps232;go_wp2_with fail;refine Ord3.wp_chain [?_,?_,?_,?_,?_,?_,?_,?_,?_,?_,?_,?_,?_,?_,?_,?_,?_] [11,12,15] (fun w'=>∃ gM,ao 0 w' o (aw c kd key val lv gM 0 fp n l t y an er dn)) (Ord3.Stage fun κs=>[Env w0 (ae o (aw c kd key val lv nx 0 fp n l t y an er dn)::M),fun w'=>∃ r,κs.getD 0 undef=zP r/\Env w0 (ae r (dS c (j6 r 0) n 0)::ae o (aw c kd key val lv nx 0 fp n l t y an er dn)::M) w',fun w'=>∃ r,κs.getD 1 undef=mvL 241 r/\Env w0 (ae r (dS c (j6 r 0) n 0)::ae o (aw c kd key val lv nx 0 fp n l t y an er dn)::M) w',fun w'=>∃ b1 b2 r,Env w0 (ae b1 [mvL 241 r]::ae b2 [mvL 231 o]::ae r (dS c (j6 r 0) n 0)::ae o (aw c kd key val lv (cvP b1 b2) 0 fp n l t y an er dn)::M) w']) (by kernel_rfl) (by kernel_rfl) (by kernel_rfl) ⟨nx,hE.drew.get 0 rfl⟩ ⟨_,rfl,hE.drew⟩ (fun hT=>?_);rotate_left 17;have af:=zH hT;clear hT
 repeat ((first
  | (focus (refine Ord3.in_value (v:=?_) af.o (by decide) ?_ (by rfl) ?_ ?_;rotate_left 2;(intro w5 hS;obtain⟨gM,jJ⟩:=hS;have r1:=ao.rule jJ;unfold aw at r1;go_simp<;>rfl);rotate_right;(focus rfl)))
  | (focus (refine Ord3.in_off af.o (by decide) ?_ (by rfl) ?_;(focus rfl))));try simp only[Act.put,zA,zZ,zS])
 refine Ord3.in_turn (fun u=>∃ q,u=zP q) _ ⟨0,rfl⟩ af.o rfl (by decide) (by rfl) ?_ (Or.inl rfl) (by rfl) ?_ ?_
 ·rfl
 ·rintro w7 eY ⟨P7,dD,bI⟩;cases dD;go_simp;simp only[Ord3.Lands];refine (LZ n bI).mono ?_;rintro o9 w8 ⟨r8,rfl,bn⟩;exact⟨_,rfl,⟨r8,rfl⟩,⟨nx,bn.get 1 rfl⟩,_,rfl,r8,rfl,bn⟩
 rintro _ ⟨r9,rfl⟩
 try simp only[Act.put,zA,zZ,zS]
 refine Ord3.in_turn (fun u=>∃ q,u=mvL 241 q) _ ⟨0,rfl⟩ af.o rfl (by decide) (by rfl) ?_ (Or.inr ⟨_,11,[],rfl,by kernel_rfl,by kernel_rfl,rfl⟩) (by rfl) ?_ ?_
 ·rfl
 ·rintro w7 eY ⟨P7,dD,bI⟩;cases dD;obtain⟨r8,he,bI⟩:=bI;cases he;go_simp;simp only[Ord3.Lands];exact⟨⟨_,rfl⟩,eY,_,rfl,r9,rfl,bI⟩
 rintro _ ⟨r9,rfl⟩
 try simp only[Act.put,zA,zZ,zS]
 repeat ((first
  | (focus (refine Ord3.in_value (v:=?_) af.o (by decide) ?_ (by rfl) ?_ ?_;rotate_left 2;(intro w5 hS;obtain⟨gM,jJ⟩:=hS;have r1:=ao.rule jJ;unfold aw at r1;go_simp<;>rfl);rotate_right;(focus rfl)))
  | (focus (refine Ord3.in_off af.o (by decide) ?_ (by rfl) ?_;(focus rfl))));try simp only[Act.put,zA,zZ,zS])
 refine Ord3.in_turn (fun u=>u=zI 0) _ rfl af.o rfl (by decide) (by rfl) ?_ (Or.inr ⟨_,12,[],rfl,by kernel_rfl,by kernel_rfl,rfl⟩) (by rfl) ?_ ?_
 ·rfl
 ·rintro w7 eY ⟨P7,dD,bI⟩;cases dD;obtain⟨r8,he,bI⟩:=bI;cases he;go_simp;simp only[Ord3.Lands];refine (play_r (o:=5) 1 _ _ _ _ _ _ (by simp[aw]) bI rfl).mono ?_;rintro o9 w8 ⟨rfl,b1,b2,bn⟩;exact⟨_,rfl,rfl,⟨_,bn.get 3 rfl⟩,_,rfl,b1,b2,r9,bn⟩
 rintro _ rfl
 try simp only[Act.put,zA,zZ,zS]
 repeat ((first
  | (focus (refine Ord3.in_value (v:=?_) af.o (by decide) ?_ (by rfl) ?_ ?_;rotate_left 2;(intro w5 hS;skip;go_simp<;>rfl);rotate_right;(focus rfl)))
  | (focus (refine Ord3.in_off af.o (by decide) ?_ (by rfl) ?_;(focus rfl))));try simp only[Act.put,zA,zZ,zS])
 refine Ord3.in_nil rfl ?_;rintro w9 aL ⟨P9,dW,ai⟩;cases dW;obtain⟨b1,b2,r8,ai⟩:=ai;clear af aL hE;go_wp2_with fail;go_ret;exact⟨rfl,b1,b2,r8,ai.perm (List.perm_middle (l₁:=[_,_,_]))⟩
theorem MC (u:Int) (hI:eK F c key L h M) (hE:Env w0 (ae o (aw c kd key val lv nx 0 (zP F.fb) n l t y an er dn)::M) w) :
  Calls prog 221 #[zP o,zI u] w fun e w'=>e=.returned (zI 0)/\Env w0 (ae o (aw c kd key val lv (mvL (if (L 0).C=n then 202 else 201) o) 0 (zP F.fb) n l t y true er dn)::M) w':=by
 have cf:=cg;have sm:=fun (v:World) (hv:Env w0 (ae o (aw c kd key val lv nx 0 (zP F.fb) n l t y true er dn)::M) v)=>Ei (hI.at9 hv (fun a ha=>by simp[ha])) hI.hh;obtain⟨C9,aL⟩:∃ C9,(L 0).C=C9:=⟨_,rfl⟩;rw[aL];simp only[aL] at sm;have xO:=zH sm;have r:=hE.rule 0 rfl;unfold aw at r;have f9:=hE.thaw 0 rfl 17 (by simp[aw]);have hQ:=hE.put 0 rfl (j:=17) (by simp[aw]) (.bool true);replace hQ:Env w0 (ae o (aw c kd key val lv nx 0 (zP F.fb) n l t y true er dn)::M) _:=hQ;clear hE aL sm hI
 by_cases hc:C9=n
 ·subst hc;rw[if_pos rfl];go_enter func221,ntmps221
  go_upto_region 2 with fail
  generalize World.setCell _ _ _=w9 at *;clear r f9;refine cG (S:=(Env w0 (ae o (aw c kd key val lv nx 0 (zP F.fb) C9 l t y true er dn)::M))) (by kernel_rfl) (by kernel_rfl) hQ.drew (fun hT=>?_);have af:=zH hT;clear hT
  repeat ((first
   | (refine cH (v:=?_) af.o (by rfl) ?_ ?_;rotate_left;(intro w5 hS;have r:=hS.rule 0 rfl;unfold aw at r;go_simp<;>rfl))
   | (refine cI af.o (by rfl) ?_)
   | (refine cJ (v:=?_) (f:=?_) (args:=?_) af.o (by rfl) ?_ ?_ ?_;rotate_left 3;(intro w5 hS;have r:=hS.rule 0 rfl;unfold aw at r;go_simp;constructor<;>rfl);(intro w5 hS;(first | (with_reducible refine kp (xO.out _ hS) ?_ ?_;rfl;exact fun w6 dm=>hS.over dm)))));try simp only[Act.put,zA,zZ,zS])
  refine InText.nil fun w5 aK=>?_;clear af;clear hQ;go_wp2_with fail;refine (goOn_r (o:=5) 0 _ _ _ (by simp[aw]) aK rfl).mono ?_;rintro e w7 ⟨rfl,aO⟩;go_wp2_with fail;go_ret;exact⟨rfl,aO⟩
 ·have b1:(C9==n)=false:=by simpa using hc
  have b2:decide (C9=n)=false:=by simpa using hc
  rw[if_neg hc];go_enter func221,ntmps221
  go_upto_region 2 with fail
  generalize World.setCell _ _ _=w9 at *;clear r f9;refine cG (S:=(Env w0 (ae o (aw c kd key val lv nx 0 (zP F.fb) n l t y true er dn)::M))) (by kernel_rfl) (by kernel_rfl) hQ.drew (fun hT=>?_);have af:=zH hT;clear hT
  repeat ((first
   | (refine cH (v:=?_) af.o (by rfl) ?_ ?_;rotate_left;(intro w5 hS;have r:=hS.rule 0 rfl;unfold aw at r;go_simp<;>rfl))
   | (refine cI af.o (by rfl) ?_)
   | (refine cJ (v:=?_) (f:=?_) (args:=?_) af.o (by rfl) ?_ ?_ ?_;rotate_left 3;(intro w5 hS;have r:=hS.rule 0 rfl;unfold aw at r;go_simp;constructor<;>rfl);(intro w5 hS;(first | (with_reducible refine kp (xO.out _ hS) ?_ ?_;rfl;exact fun w6 dm=>hS.over dm)))));try simp only[Act.put,zA,zZ,zS])
  refine InText.nil fun w5 aK=>?_;clear af;clear hQ;go_wp2_with fail;refine (goOn_r (o:=5) 0 _ _ _ (by simp[aw]) aK rfl).mono ?_;rintro e w7 ⟨rfl,aO⟩;go_wp2_with fail;go_ret;exact⟨rfl,aO⟩
theorem MD (hh:1<=h/\h<=1000) (ht:aD t) {k1 s1 b1 l1 e1 r1 jD p6:Int} {q1:Nat} (i:Nat) (hm:M[i]?=some (dy c k1 s1 b1 h l1 e1 r1 jD p6 q1)) (hE:Env w0 (ae o (aw c kd key val lv nx 0 fp n l t y an er dn)::M) w) :
  Calls prog 159 #[zP o] w fun e w'=>e=.returned (zI 0)/\Env w0 (ae o (aw c kd key val lv (mvL 185 o) 0 fp n ((if 1<=t/\t<=(h:Int) then (t - 1).toNat else 0:Nat):Int) t y an er dn)::M) w':=by
 have cf:=cg;have Ll:=Ed;have mh:=zH fun (v:World) (hv:Env w0 (ae o (aw c kd key val lv nx 0 fp n 0 t y an er dn)::M) v)=>nT (hv.get (i+1) hm);have hu:IntKind.u64.wrap (h:Int)=(h:Int):=by rw[IntKind.wrap_u64];omega
 have r:=hE.rule 0 rfl;unfold aw at r;have f9:=hE.thaw 0 rfl 10 (by simp[aw]);have hQ:=hE.put 0 rfl (j:=10) (by simp[aw]) (zI 0);replace hQ:Env w0 (ae o (aw c kd key val lv nx 0 fp n 0 t y an er dn)::M) _:=hQ;have HT:=zH ht;have HH:=zH hh;clear hE hm ht hh
 by_cases h1:1<=t
 ·have c1:decide (t>=1)=true:=by simpa using h1
  have c2:decide (1<=t)=true:=by simpa using h1
  by_cases h2:t<=(h:Int)
  ·have c3:decide (t<=(h:Int))=true:=by simpa using h2
   have hz:((if 1<=t/\t<=(h:Int) then (t - 1).toNat else 0:Nat):Int)=t - 1:=by rw[if_pos ⟨h1,h2⟩];omega
   rw[hz];have ij:wrap64 t=t:=df _ (by have:=HH.out;omega);have gd:wrap64 (t - 1)=t - 1:=df _ (by have:=HH.out;omega);clear hz h1 h2;go_enter func159,ntmps159
   go_upto_region 3 with fail
   generalize World.setCell _ _ _=w9 at *;clear r f9;have r:=hQ.rule 0 rfl;unfold aw at r;go_wp2_with fail;refine (mh.out _ hQ).mono ?_;rintro e w1 ⟨rfl,hb⟩;replace hQ:=hQ.over hb;clear r hb;have r:=hQ.rule 0 rfl;unfold aw at r;have f9:=hQ.thaw 0 rfl 10 (by simp[aw]);have lX:=hQ.put 0 rfl (j:=10) (by simp[aw]) (zI (t - 1));replace lX:Env w0 (ae o (aw c kd key val lv nx 0 fp n (t - 1) t y an er dn)::M) _:=lX;clear hQ;go_wp2_with fail;refine (goOn_r (o:=5) 0 _ _ _ (by simp[aw]) lX rfl).mono ?_;rintro e w7 ⟨rfl,aO⟩;go_wp2_with fail;go_ret;exact⟨rfl,aO⟩
  ·have c3:decide (t<=(h:Int))=false:=by simpa using h2
   have hz:((if 1<=t/\t<=(h:Int) then (t - 1).toNat else 0:Nat):Int)=0:=by rw[if_neg (fun h=>h2 h.2)];rfl
   rw[hz];clear hz h1 h2;go_enter func159,ntmps159
   go_upto_region 3 with fail
   generalize World.setCell _ _ _=w9 at *;clear r f9;have r:=hQ.rule 0 rfl;unfold aw at r;go_wp2_with fail;refine (mh.out _ hQ).mono ?_;rintro e w1 ⟨rfl,hb⟩;replace hQ:=hQ.over hb;clear r hb;have r:=hQ.rule 0 rfl;unfold aw at r;go_wp2_with fail;refine (goOn_r (o:=5) 0 _ _ _ (by simp[aw]) hQ rfl).mono ?_;rintro e w7 ⟨rfl,aO⟩;go_wp2_with fail;go_ret;exact⟨rfl,aO⟩
 ·have c1:decide (t>=1)=false:=by simpa using h1
  have c2:decide (1<=t)=false:=by simpa using h1
  have hz:((if 1<=t/\t<=(h:Int) then (t - 1).toNat else 0:Nat):Int)=0:=by rw[if_neg (fun h=>h1 h.1)];rfl
  rw[hz];clear hz h1;go_enter func159,ntmps159
  go_upto_region 3 with fail
  generalize World.setCell _ _ _=w9 at *;clear r f9;have r:=hQ.rule 0 rfl;unfold aw at r;go_wp2_with fail;refine (goOn_r (o:=5) 0 _ _ _ (by simp[aw]) hQ rfl).mono ?_;rintro e w7 ⟨rfl,aO⟩;go_wp2_with fail;go_ret;exact⟨rfl,aO⟩
theorem ME (hy:aD y) (bA:cO y=false) (hg:bE w0) (hE:Env w0 (ae o (aw c kd key val lv nx 0 fp n l t y an er dn)::M) w) :
  Calls prog 204 #[zP o] w fun e w'=>e=.returned (zI 0)/\Env w0 (ae o (aw c kd key val lv (mvL 222 o) 0 fp n l t y an er dn)::M) w':=by
 have cf:=cg;have fY:=zH (oh y w (hg.keep' hE.below) hy.1 hy.2);rw[bA] at fY;have r:=hE.rule 0 rfl;unfold aw at r;clear hy bA hg;go_enter func204,ntmps204;go_wp2_with fail;refine fY.out.mono ?_;rintro e w1 ⟨rfl,hb⟩;replace hE:=hE.over hb;go_wp2_with fail;refine (goOn_r (o:=5) 0 _ _ _ (by simp[aw]) hE rfl).mono ?_;rintro e w7 ⟨rfl,aO⟩;go_wp2_with fail;go_ret;exact⟨rfl,aO⟩
theorem MF (hy:aD y) (bA:cO y=true) (h0:l8=0) (hg:bE w0) (hh:h<=1000) {s1 b1 l1 e1 r1 jD p6:Int} {q1:Nat} (i:Nat) (hm:M[i]?=some (dy c 3 s1 b1 h l1 e1 r1 jD p6 q1)) (hE:Env w0 (ae o (aw c kd key val lv nx 0 fp n (l8:Int) t y an er dn)::M) w) :
  Calls prog 204 #[zP o] w fun e w'=>e=.returned (zI 0)/\∃ b1 b2 fb g,Env w0 (ae o (aw c kd key val lv (cvP b1 b2) 0 (zP fb) n (l8:Int) t y an er dn)::ae b1 [mvL 109 fb]::ae b2 [mvL 81 o]::ae fb (bq c key (mvL 124 fb) 0 g h 0)::ae g (List.replicate h (.pointer none))::M) w':=by
 have cf:=cg;have fY:=zH (oh y w (hg.keep' hE.below) hy.1 hy.2);rw[bA] at fY;have r:=hE.rule 0 rfl;unfold aw at r;have b0:((l8:Int)==0)=true:=by simp;omega
 have HB:=zH fun (v:World) (hv:Env w0 (ae o (aw c kd key val lv nx 0 fp n (l8:Int) t y an er dn)::M) v)=>sd i hh hm hv;clear hy bA hg h0 hh hm;go_enter func204,ntmps204;go_wp2_with fail;refine fY.out.mono ?_;rintro e w1 ⟨rfl,hb⟩;replace hE:=hE.over hb;clear r hb;have r:=hE.rule 0 rfl;unfold aw at r;go_wp2_with fail;refine (HB.out _ hE).mono ?_;rintro e w2 ⟨rfl,hX⟩;have HX:=zH hX;clear hX HB hE;go_wp2_with fail;go_ret;exact⟨rfl,HX.out⟩
theorem MG (hy:aD y) (bA:cO y=true) (h0:1<=l8) (fX:l8<=1000) (hg:bE w0) (hE:Env w0 (ae o (aw c kd key val lv nx 0 fp n (l8:Int) t y an er dn)::M) w) :
  Calls prog 204 #[zP o] w fun e w'=>e=.returned (zI 0)/\Env w0 (ae o (aw c kd key val lv (mvL 185 o) 0 fp n ((l8 - 1:Nat):Int) t y an er dn)::M) w':=by
 have cf:=cg;have fY:=zH (oh y w (hg.keep' hE.below) hy.1 hy.2);rw[bA] at fY;have r:=hE.rule 0 rfl;unfold aw at r;have b0:((l8:Int)==0)=false:=by simp;omega
 have HB:=zH fun (v:World) (hv:Env w0 (ae o (aw c kd key val lv nx 0 fp n (l8:Int) t y an er dn)::M) v)=>EJ h0 fX hv;clear hy bA hg h0 fX;go_enter func204,ntmps204;go_wp2_with fail;refine fY.out.mono ?_;rintro e w1 ⟨rfl,hb⟩;replace hE:=hE.over hb;clear r hb;have r:=hE.rule 0 rfl;unfold aw at r;go_wp2_with fail;refine (HB.out _ hE).mono ?_;rintro e w2 ⟨rfl,az⟩;go_wp2_with fail;go_ret;exact⟨rfl,az⟩
end
def qM (c:Nat) (kd key val lv:Int) (o ro FF OV:Nat):List Value:=[zP c,zI kd,zU key,zU val,zI lv,.pointer (some ⟨o,ro,none⟩),mvL FF o,mvL OV o]
def ng (c:Nat) (kd key val lv:Int) (o ro FF OV:Nat):Value:=.agg #[zP c,zI kd,zU key,zU val,zI lv,.pointer (some ⟨o,ro,none⟩),mvL FF o,mvL OV o]
def pC (c:Nat) (kd key val lv:Int) (o ro FF OV:Nat):Value:=.func (.func 150) #[ng c kd key val lv o ro FF OV] #[]
section
variable {w0 w:World} {L R:List Item} {c o ro FF OV:Nat} {kd key val lv:Int} {S:ST}
theorem A0 (s:Int) (hs:s=3\/s=4) (hx:∀ (ar:Array Value) (v:World),(callFunc OV ar).run prog v=.ok (.enter OV ar) v) (Q:Int->World->Prop) (hE:Env w0 L w) (ho:∀ v,Env w0 L v->Calls prog OV #[zP o,.agg #[zI (s+3),.bool false,zU 0]] v fun e w'=>∃ s2,e=.returned (zI s2)/\Q s2 w') :
  Calls prog 150 #[ng c kd key val lv o ro FF OV,zI s] w fun e w'=>∃ s2,e=.returned (zI s2)/\Q s2 w':=by
 have ag:=hE.box w.heap.size rfl (qM c kd key val lv o ro FF OV) 204;have r:=ag.rule 0 rfl;have HO:=zH (ho _ (ag.sub (.cons _ (List.Sublist.refl _))));unfold qM at r HO;unfold ng;unfold mvL at r HO ⊢;clear ho hE ag
 rcases hs with rfl | rfl
 all_goals
  go_enter func150,ntmps150;go_wp2_with fail;refine HO.out.mono ?_;rintro e w2 ⟨s2,rfl,hq⟩;go_wp2_with fail;go_ret;exact⟨s2,rfl,hq⟩
theorem EN (s:Int) (hs:s=1\/s=2) (hx:∀ (ar:Array Value) (v:World),(callFunc FF ar).run prog v=.ok (.enter FF ar) v) (Q:Int->World->Prop) (hE:Env w0 L w) (ho:∀ v,Env w0 L v->Calls prog FF #[zP o] v fun e w'=>∃ s2,e=.returned (zI s2)/\Q s2 w') :
  Calls prog 150 #[ng c kd key val lv o ro FF OV,zI s] w fun e w'=>∃ s2,e=.returned (zI s2)/\Q s2 w':=by
 have ag:=hE.box w.heap.size rfl (qM c kd key val lv o ro FF OV) 204;have r:=ag.rule 0 rfl;have HO:=zH (ho _ (ag.sub (.cons _ (List.Sublist.refl _))));unfold qM at r HO;unfold ng;unfold mvL at r HO ⊢;clear ho hE ag
 rcases hs with rfl | rfl
 all_goals
  go_enter func150,ntmps150;go_wp2_with fail;refine HO.out.mono ?_;rintro e w2 ⟨s2,rfl,hq⟩;go_wp2_with fail;go_ret;exact⟨s2,rfl,hq⟩
theorem MH (hx:∀ (ar:Array Value) (v:World),(callFunc OV ar).run prog v=.ok (.enter OV ar) v) (hh:S.hs=0) (hd:bk S.ql S.ce S.cl=0) (Q:Int->World->Prop) (hE:Env w0 (LT S R) w) (ho:∀ v,Env w0 (LT S R) v->Calls prog OV #[zP o,.agg #[zI 7,.bool false,zU 0]] v fun e w'=>∃ s2,e=.returned (zI s2)/\Q s2 w') :
  Calls prog 127 #[ng S.c kd key val lv o ro FF OV] w fun e w'=>∃ s2,e=.returned (zI s2)/\Q s2 w':=by
 have ag:=hE.box w.heap.size rfl (qM S.c kd key val lv o ro FF OV) 204;have r:=ag.rule 0 rfl;have HO:=zH ho;have HH:=zH hh;have HD:=zH hd;have hV:ng S.c kd key val lv o ro FF OV=.agg #[zP S.c,zI kd,zU key,zU val,zI lv,.pointer (some ⟨o,ro,none⟩),mvL FF o,mvL OV o]:=rfl;have HV:=zH hV;rw[hV];unfold qM at r ag;clear ho hE hV hh hd;go_enter func127,ntmps127;go_wp2_with fail;generalize w.alloc _=w1 at *;generalize w.heap.size=Y at *;have az:Env w0 (LT S (ae Y [zP S.c,zI kd,zU key,zU val,zI lv,.pointer (some ⟨o,ro,none⟩),mvL FF o,mvL OV o]::R)) w1:=ag.perm (List.perm_middle (l₁:=[_,_,_,_])).symm;refine (Ev kd key val lv HH.out az).mono ?_;rintro e w6 zY
 rcases zY with ⟨-,rfl,aq⟩ | ⟨h9,-⟩
 rotate_left
 ·exact absurd HD.out h9
 clear ag az r;have r:=aq.rule 4 rfl;have aO:=(aq.perm (List.perm_middle (l₁:=[_,_,_,_]))).sub (.cons _ (List.Sublist.refl _));have HC:=zH (A0 (c:=S.c) (kd:=kd) (key:=key) (val:=val) (lv:=lv) (ro:=ro) (FF:=FF) 4 (.inr rfl) hx Q aO HO.out);rw[HV.out] at HC;go_wp2_with fail;refine HC.out.mono ?_;rintro e w2 ⟨s2,rfl,hq⟩;go_wp2_with fail;go_ret;exact⟨s2,rfl,hq⟩
theorem MI {m:Nat} {vs:List Value} (hm:R[m]?=some (ae o vs)) (hv:ro < vs.length) (hh:S.hs=0) (hd:bk S.ql S.ce S.cl≠0) (hE:Env w0 (LT S R) w) :
  Calls prog 127 #[ng S.c kd key val lv o ro FF OV] w fun e w'=>e=.returned (zI 0)/\∃ b1 b2 l,Env w0 (ae b1 [mvL 151 l]::ae b2 [pC S.c kd key val lv o ro FF OV]::ae l (av S.c { nx:=fa l (bk S.ql S.ce S.cl),left:=.slice none 0 0,k:=kd,key:=key,val:=val,lv:=lv,h:=0,n:=0,r:=0,s:=0 })::LT S (R.set m (ae o (vs.set ro (cvP b1 b2))))) w':=by
 have cf:=cg;have ag:=hE.box w.heap.size rfl (qM S.c kd key val lv o ro FF OV) 204;have r:=ag.rule 0 rfl;have HH:=zH hh;have HD:=zH hd;have HM:=zH hm;have MJ:=zH hv;have hV:ng S.c kd key val lv o ro FF OV=.agg #[zP S.c,zI kd,zU key,zU val,zI lv,.pointer (some ⟨o,ro,none⟩),mvL FF o,mvL OV o]:=rfl;have HV:=zH hV;rw[hV];unfold qM at r ag;clear hE hV hh hd hm hv;go_enter func127,ntmps127;go_wp2_with fail;generalize w.alloc _=w1 at *;generalize w.heap.size=Y at *;have az:Env w0 (LT S (ae Y [zP S.c,zI kd,zU key,zU val,zI lv,.pointer (some ⟨o,ro,none⟩),mvL FF o,mvL OV o]::R)) w1:=ag.perm (List.perm_middle (l₁:=[_,_,_,_])).symm;refine (Ev kd key val lv HH.out az).mono ?_;rintro e w6 (⟨h9,-⟩ | ⟨-,l,rfl,aq⟩)
 ·exact absurd h9 HD.out
 clear ag az r;have r:=aq.rule 5 rfl;have HP:=zH (play_r (a:=o) (o:=ro) (m+6) (.func 151) (.func 150) #[zP l] #[] #[ng S.c kd key val lv o ro FF OV] #[] MJ.out aq HM.out);rw[HV.out] at HP;go_wp2_with fail;refine HP.out.mono ?_;rintro e w2 ⟨rfl,b1,b2,aO⟩;go_wp2_with fail;go_ret;refine⟨rfl,b1,b2,l,?_⟩;rw[<- HV.out] at aO;have bn:Env w0 (ae b1 [mvL 151 l]::ae b2 [pC S.c kd key val lv o ro FF OV]::ae l (av S.c { nx:=fa l (bk S.ql S.ce S.cl),left:=.slice none 0 0,k:=kd,key:=key,val:=val,lv:=lv,h:=0,n:=0,r:=0,s:=0 })::LT S (ae Y [zP S.c,zI kd,zU key,zU val,zI lv,.pointer (some ⟨o,ro,none⟩),mvL FF o,mvL OV o]::R.set m (ae o (vs.set ro (cvP b1 b2))))) w2:=aO;exact bn.sub (.cons_cons _ (.cons_cons _ (.cons_cons _ (.cons_cons _ (.cons_cons _ (.cons_cons _ (.cons_cons _ (.cons _ (List.Sublist.refl _)))))))))
end
end
end Go.Proofs.YtleklonmmlfijaaGreatDoor
