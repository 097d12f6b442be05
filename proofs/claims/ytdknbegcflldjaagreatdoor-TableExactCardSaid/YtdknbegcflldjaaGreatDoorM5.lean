/- What is proved on the way to the statement, part 5: contracts of the functions, among other things in memory. -/
import Derived.Test.YtdknbegcflldjaaGreatDoorM4

open _root_.Go.Proofs.Tryz
set_option maxRecDepth 100000
set_option maxHeartbeats 25600000
namespace Go.Proofs.YtdknbegcflldjaaGreatDoor
section
open Go.RowKit Go.Maps
def noI:Item where
 F:=fun _=>False
 says:=fun _=>True
 loc:=fun _ _ _ _ _=>trivial
section
variable {w0 w:World} {L:List Item} {x:Item}
theorem Env.none1 (h:Env w0 L w):Env w0 (noI::L) w:=h.add noI (Below.refl _ _) trivial fun k hk=>absurd hk (by simp [noI])
theorem Env.none2 (h:Env w0 (x::L) w):Env w0 (x::noI::noI::L) w:=h.none1.none1.perm (List.perm_middle (l₁:=[noI,noI]))
end
section
variable {w0 w:World} {R:List Item} {a:Nat} {S:ST} {lv key:Int} {vs:Bool} {L:Lm}
theorem lane_0 (hpc:L.pc=0) (hL:LmOk L) (hlv:0<=lv/\lv<=1000000) (hwf:Wf L.p) (hg:Glo w0) (hm:S.m < maxLen) (h:LaneR w0 R a lv key vs S 0 L w) :
  Calls prog 169 #[.pointer (some ⟨a,0,none⟩),.iface 26 (.pointer (some ⟨S.p,0,none⟩))] w fun o w'=>o=.returned (.int .i64 (laneM lv key vs S.ce L S.f).1)/\∃ G',LaneR w0 R a lv key vs (laneS lv key vs S L G') (laneM lv key vs S.ce L S.f).1 (laneM lv key vs S.ce L S.f).2.1 w':=by
 obtain ⟨nx,wd,B1,B2,hn,hE⟩:=h;obtain ⟨⟨hnx,-⟩,-,-⟩:=hn rfl;have hnx:=hnx (by rw [hpc]; rfl);rw [hpc] at hnx;have hV:L.V=0:=hL.v (by omega);have hM:laneM lv key vs S.ce L S.f=(0,{ L with W:=S.f L.p,pc:=2 },S.f):=by simp [laneM,hpc]
 have hS:∀ G,laneS lv key vs S L G={ S with G:=G,qc:={ S.qc with l:=wrap64 (S.qc.l+1) } }:=fun G=>by simp [laneS,laneQ,rollM,hM,hpc,isVal]
 rw [hM];have hn4:w.cell? ⟨a,4,none⟩=some (mvL (fnL 0) a):=by rw [hE.rule 0 rfl 4,<- hnx]; rfl
 have hs5:w.cell? ⟨a,5,none⟩=some (.int .i64 0):=hE.rule 0 rfl 5;refine stepMv_l (fnL 0) (enters_fnL 0) _ _ hn4 hs5 ?_;refine (loadInto_l (S.f L.p) rfl hwf (hE.sub (.cons_cons _ (.cons _ (.cons _ (List.Sublist.refl _)))))).mono ?_;rintro o w1 ⟨rfl,b1,b2,hE1⟩;refine ⟨0,rfl,rfl,S.G,?_⟩;rw [hS];exact ⟨cvL b1 b2,wd,_,_,fun _=>⟨⟨fun h=>absurd h (by simp [isVal]),fun _=>⟨b1,b2,rfl,rfl,rfl⟩⟩,fun h=>absurd h (by simp),fun h=>absurd h (by simp)⟩,hE1⟩
theorem lane_3 (hpc:L.pc=3) (hL:LmOk L) (hlv:0<=lv/\lv<=1000000) (hwf:Wf L.p) (hg:Glo w0) (hm:S.m < maxLen) (h:LaneR w0 R a lv key vs S 0 L w) :
  Calls prog 169 #[.pointer (some ⟨a,0,none⟩),.iface 26 (.pointer (some ⟨S.p,0,none⟩))] w fun o w'=>o=.returned (.int .i64 (laneM lv key vs S.ce L S.f).1)/\∃ G',LaneR w0 R a lv key vs (laneS lv key vs S L G') (laneM lv key vs S.ce L S.f).1 (laneM lv key vs S.ce L S.f).2.1 w':=by
 obtain ⟨nx,wd,B1,B2,hn,hE⟩:=h;obtain ⟨⟨hnx,-⟩,-,-⟩:=hn rfl;have hnx:=hnx (by rw [hpc]; rfl);rw [hpc] at hnx;have hV:L.V=0:=hL.v (by omega);have hM:laneM lv key vs S.ce L S.f=(0,{ L with X:=S.f (5,L.C,7+lv),pc:=4 },S.f):=by simp [laneM,hpc]
 have hS:∀ G,laneS lv key vs S L G={ S with G:=G,qc:={ S.qc with l:=wrap64 (S.qc.l+1) } }:=fun G=>by simp [laneS,laneQ,rollM,hM,hpc,isVal]
 rw [hM];have hn4:w.cell? ⟨a,4,none⟩=some (mvL (fnL 3) a):=by rw [hE.rule 0 rfl 4,<- hnx]; rfl
 have hs5:w.cell? ⟨a,5,none⟩=some (.int .i64 0):=hE.rule 0 rfl 5;refine stepMv_l (fnL 3) (enters_fnL 3) _ _ hn4 hs5 ?_;refine (loadOut_l hlv (S.f (5,L.C,7+lv)) rfl (wf_part hL.C (by omega)) (hE.sub (.cons_cons _ (.cons _ (.cons _ (List.Sublist.refl _)))))).mono ?_;rintro o w1 ⟨rfl,b1,b2,hE1⟩;refine ⟨0,rfl,rfl,S.G,?_⟩;rw [hS];exact ⟨cvL b1 b2,wd,_,_,fun _=>⟨⟨fun h=>absurd h (by simp [isVal]),fun _=>⟨b1,b2,rfl,rfl,rfl⟩⟩,fun h=>absurd h (by simp),fun h=>absurd h (by simp)⟩,hE1⟩
theorem lane_6 (hpc:L.pc=6) (hL:LmOk L) (hlv:0<=lv/\lv<=1000000) (hwf:Wf L.p) (hg:Glo w0) (hm:S.m < maxLen) (h:LaneR w0 R a lv key vs S 0 L w) :
  Calls prog 169 #[.pointer (some ⟨a,0,none⟩),.iface 26 (.pointer (some ⟨S.p,0,none⟩))] w fun o w'=>o=.returned (.int .i64 (laneM lv key vs S.ce L S.f).1)/\∃ G',LaneR w0 R a lv key vs (laneS lv key vs S L G') (laneM lv key vs S.ce L S.f).1 (laneM lv key vs S.ce L S.f).2.1 w':=by
 obtain ⟨nx,wd,B1,B2,hn,hE⟩:=h;obtain ⟨⟨hnx,-⟩,-,-⟩:=hn rfl;have hnx:=hnx (by rw [hpc]; rfl);rw [hpc] at hnx;have hV:L.V=0:=hL.v (by omega);have hM:laneM lv key vs S.ce L S.f=(0,{ L with K:=S.f (5,L.C,3),pc:=7 },S.f):=by simp [laneM,hpc]
 have hS:∀ G,laneS lv key vs S L G={ S with G:=G,qc:={ S.qc with l:=wrap64 (S.qc.l+1) } }:=fun G=>by simp [laneS,laneQ,rollM,hM,hpc,isVal]
 rw [hM];have hn4:w.cell? ⟨a,4,none⟩=some (mvL (fnL 6) a):=by rw [hE.rule 0 rfl 4,<- hnx]; rfl
 have hs5:w.cell? ⟨a,5,none⟩=some (.int .i64 0):=hE.rule 0 rfl 5;refine stepMv_l (fnL 6) (enters_fnL 6) _ _ hn4 hs5 ?_;refine (loadKey_l (S.f (5,L.C,3)) rfl (wf_part hL.C (by omega)) (hE.sub (.cons_cons _ (.cons _ (.cons _ (List.Sublist.refl _)))))).mono ?_;rintro o w1 ⟨rfl,b1,b2,hE1⟩;refine ⟨0,rfl,rfl,S.G,?_⟩;rw [hS];exact ⟨cvL b1 b2,S.f (5,L.C,3),_,_,fun _=>⟨⟨fun h=>absurd h (by simp [isVal]),fun _=>⟨b1,b2,rfl,rfl,rfl⟩⟩,fun _=>rfl,fun h=>absurd h (by simp)⟩,hE1⟩
theorem lane_8 (hpc:L.pc=8) (hL:LmOk L) (hlv:0<=lv/\lv<=1000000) (hwf:Wf L.p) (hg:Glo w0) (hm:S.m < maxLen) (h:LaneR w0 R a lv key vs S 0 L w) :
  Calls prog 169 #[.pointer (some ⟨a,0,none⟩),.iface 26 (.pointer (some ⟨S.p,0,none⟩))] w fun o w'=>o=.returned (.int .i64 (laneM lv key vs S.ce L S.f).1)/\∃ G',LaneR w0 R a lv key vs (laneS lv key vs S L G') (laneM lv key vs S.ce L S.f).1 (laneM lv key vs S.ce L S.f).2.1 w':=by
 obtain ⟨nx,wd,B1,B2,hn,hE⟩:=h;obtain ⟨⟨hnx,-⟩,-,-⟩:=hn rfl;have hnx:=hnx (by rw [hpc]; rfl);rw [hpc] at hnx;have hV:L.V=0:=hL.v (by omega);have hM:laneM lv key vs S.ce L S.f=(0,{ L with V:=S.f (5,L.C,4),pc:=9 },S.f):=by simp [laneM,hpc]
 have hS:∀ G,laneS lv key vs S L G={ S with G:=G,qc:={ S.qc with l:=wrap64 (S.qc.l+1) } }:=fun G=>by simp [laneS,laneQ,rollM,hM,hpc,isVal]
 rw [hM];have hn4:w.cell? ⟨a,4,none⟩=some (mvL (fnL 8) a):=by rw [hE.rule 0 rfl 4,<- hnx]; rfl
 have hs5:w.cell? ⟨a,5,none⟩=some (.int .i64 0):=hE.rule 0 rfl 5;refine stepMv_l (fnL 8) (enters_fnL 8) _ _ hn4 hs5 ?_;refine (loadVal_l (S.f (5,L.C,4)) rfl (wf_part hL.C (by omega)) (hE.sub (.cons_cons _ (.cons _ (.cons _ (List.Sublist.refl _)))))).mono ?_;rintro o w1 ⟨rfl,b1,b2,hE1⟩;refine ⟨0,rfl,rfl,S.G,?_⟩;rw [hS];exact ⟨cvL b1 b2,S.f (5,L.C,4),_,_,fun _=>⟨⟨fun h=>absurd h (by simp [isVal]),fun _=>⟨b1,b2,rfl,rfl,rfl⟩⟩,fun h=>absurd h (by simp),fun _=>rfl⟩,hE1⟩
theorem lane_5 (hpc:L.pc=5) (hL:LmOk L) (hlv:0<=lv/\lv<=1000000) (hwf:Wf L.p) (hg:Glo w0) (hm:S.m < maxLen) (h:LaneR w0 R a lv key vs S 0 L w) :
  Calls prog 169 #[.pointer (some ⟨a,0,none⟩),.iface 26 (.pointer (some ⟨S.p,0,none⟩))] w fun o w'=>o=.returned (.int .i64 (laneM lv key vs S.ce L S.f).1)/\∃ G',LaneR w0 R a lv key vs (laneS lv key vs S L G') (laneM lv key vs S.ce L S.f).1 (laneM lv key vs S.ce L S.f).2.1 w':=by
 obtain ⟨nx,wd,B1,B2,hn,hE⟩:=h;obtain ⟨⟨hnx,-⟩,-,-⟩:=hn rfl;have hnx:=hnx (by rw [hpc]; rfl);rw [hpc] at hnx;have hV:L.V=0:=hL.v (by omega);have hfd:L.fd=false:=hL.fd (by omega);have hn4:w.cell? ⟨a,4,none⟩=some (mvL (fnL 5) a):=by rw [hE.rule 0 rfl 4,<- hnx]; rfl
 have hs5:w.cell? ⟨a,5,none⟩=some (.int .i64 0):=hE.rule 0 rfl 5;have hE0:Env w0 (boxI a (laneC S.c lv key vs nx 0 L.p.1 L.p.2.1 L.p.2.2 L.W L.C L.X wd false 0)::LT S R) w:=(hE.sub (.cons_cons _ (.cons _ (.cons _ (List.Sublist.refl _)))))
 by_cases heq:S.f L.p=L.W
 ·have hM:laneM lv key vs S.ce L S.f=(cS (wordI false (slotI L.X) S.ce),{ L with W:=wordI false (slotI L.X) S.ce,X:=0,C:=slotI (wordI false (slotI L.X) S.ce),pc:=3 },swf S.f L.p L.W (wordI false (slotI L.X) S.ce)):=by simp [laneM,hpc,heq,comeM_cS]
  have hS:∀ G,laneS lv key vs S L G={ S with G:=G,f:=swf S.f L.p L.W (wordI false (slotI L.X) S.ce),qc:=swq S.qc true,m:=S.m+1 }:=fun G=>by simp [laneS,laneQ,rollM,hM,hpc,isVal,heq]
  rw [hM];refine stepMv_l (fnL 5) (enters_fnL 5) _ _ hn4 hs5 ?_;refine (cutYes_l heq hwf hL.X hg hm hE0).mono ?_;rintro o w1 ⟨rfl,nx,G',hnx,hE1⟩;refine ⟨_,rfl,rfl,G',?_⟩;rw [hS];exact LaneR.came rfl hfd hV hnx hE1.none2
 ·have hM:laneM lv key vs S.ce L S.f=(2,L,swf S.f L.p L.W (wordI false (slotI L.X) S.ce)):=by simp [laneM,hpc,heq]
  have hS:∀ G,laneS lv key vs S L G={ S with G:=G,f:=swf S.f L.p L.W (wordI false (slotI L.X) S.ce),qc:=swq S.qc false,m:=S.m+1 }:=fun G=>by simp [laneS,laneQ,rollM,hM,hpc,isVal,heq]
  rw [hM];refine stepMv_l (fnL 5) (enters_fnL 5) _ _ hn4 hs5 ?_;refine (cutNo_l heq hwf hL.X hg hm hE0).mono ?_;rintro o w1 ⟨rfl,nx,G',hE1⟩;refine ⟨_,rfl,rfl,G',?_⟩;rw [hS];exact ⟨nx,wd,noI,noI,fun h=>absurd h (by simp),hE1.none2⟩
theorem lane_2 (hpc:L.pc=2) (hL:LmOk L) (hlv:0<=lv/\lv<=1000000) (hwf:Wf L.p) (hg:Glo w0) (hm:S.m < maxLen) (h:LaneR w0 R a lv key vs S 0 L w) :
  Calls prog 169 #[.pointer (some ⟨a,0,none⟩),.iface 26 (.pointer (some ⟨S.p,0,none⟩))] w fun o w'=>o=.returned (.int .i64 (laneM lv key vs S.ce L S.f).1)/\∃ G',LaneR w0 R a lv key vs (laneS lv key vs S L G') (laneM lv key vs S.ce L S.f).1 (laneM lv key vs S.ce L S.f).2.1 w':=by
 obtain ⟨nx,wd,B1,B2,hn,hE⟩:=h;obtain ⟨⟨-,hnx⟩,hw7,hw9⟩:=hn rfl;obtain ⟨b1,b2,rfl,rfl,rfl⟩:=hnx (by rw [hpc]; rfl);rw [hpc] at hE hw7 hw9;have hn4:w.cell? ⟨a,4,none⟩=some (cvL b1 b2):=by rw [hE.rule 0 rfl 4]; rfl
 have hs5:w.cell? ⟨a,5,none⟩=some (.int .i64 0):=hE.rule 0 rfl 5;have hE0:Env w0 (boxI a (laneC S.c lv key vs (cvL b1 b2) 0 L.p.1 L.p.2.1 L.p.2.2 L.W L.C L.X wd false 0)::boxI b1 [.pointer (some ⟨a,0,none⟩)]::boxI b2 [mvL (bhL 2) a]::LT S R) w:=hE
 by_cases hok:okB (S.f (1,0,0)) S.ce=true
 ·have hS:∀ G,laneS lv key vs S L G={ S with G:=G,qc:={ S.qc with l:=wrap64 (S.qc.l+1) } }:=fun G=>by simp [laneS,laneQ,rollM,laneM,hpc,isVal,hok]
  refine stepCv_l b1 b2 _ _ hn4 hs5 ?_;have hgo:∀ (s:Int) (L':Lm),laneM lv key vs S.ce L S.f=(s,L',S.f)->(∀ v,Env w0 (boxI a (laneC S.c lv key vs (cvL b1 b2) 0 L.p.1 L.p.2.1 L.p.2.2 L.W L.C L.X wd false 0)::boxI b1 [.pointer (some ⟨a,0,none⟩)]::boxI b2 [mvL (bhL 2) a]::LT { S with qc:={ S.qc with l:=wrap64 (S.qc.l+1) } } R) v->Calls prog (bhL 2) #[.pointer (some ⟨a,0,none⟩)] v fun o w'=>o=.returned (.int .i64 s)/\LaneR w0 R a lv key vs { S with qc:={ S.qc with l:=wrap64 (S.qc.l+1) } } s L' w') ->
    Calls prog 293 #[.iface 26 (.pointer (some ⟨S.p,0,none⟩)),.pointer (some ⟨b1,0,none⟩),.pointer (some ⟨b2,0,none⟩)] w fun e w'=>∃ s,e=.returned (.int .i64 s)/\((.returned (.int .i64 s):Ending)=.returned (.int .i64 (laneM lv key vs S.ce L S.f).1)/\∃ G',LaneR w0 R a lv key vs (laneS lv key vs S L G') (laneM lv key vs S.ce L S.f).1 (laneM lv key vs S.ce L S.f).2.1 w'):=fun s L' hM hc=>by
   refine (val1Yes_l (bhL 2) (enters_bhL 2) hok hE0 s _ hc).mono ?_;rintro o w1 ⟨rfl,hR⟩;refine ⟨s,rfl,?_,S.G,?_⟩
   ·rw [hM]
   ·rw [hM,hS];exact hR
  clear hE hn;have hV:L.V=0:=hL.v (by omega);have hfd:L.fd=false:=hL.fd (by omega)
  by_cases hmk:markB L.W=true
  ·refine hgo 2 L (by simp [laneM,holdsM,hpc,hok,hmk]) fun v hv=>?_;refine (intoMark_l hmk hL.W hg hv).mono ?_;rintro o w1 ⟨rfl,nx,hE1⟩;exact ⟨rfl,nx,wd,_,_,fun h=>absurd h (by simp),hE1⟩
  ·have hmk:markB L.W=false:=by simpa using hmk
   refine hgo (cS L.W) { L with W:=L.W,X:=0,C:=slotI L.W,pc:=3 } (by simp [laneM,holdsM,hpc,hok,hmk,comeM_cS]) fun v hv=>?_;refine (intoCome_l hmk hL.W hg hv).mono ?_;rintro o w1 ⟨rfl,nx,hnx,hE1⟩;exact ⟨rfl,LaneR.came rfl hfd hV hnx hE1⟩
 ·have hok:okB (S.f (1,0,0)) S.ce=false:=by simpa using hok
  have hM:laneM lv key vs S.ce L S.f=(2,L,S.f):=by simp [laneM,hpc,hok]
  have hS:∀ G,laneS lv key vs S L G={ S with G:=G,qc:={ S.qc with l:=wrap64 (S.qc.l+1) },cr:=wrap64 (S.cr+1) }:=fun G=>by simp [laneS,laneQ,rollM,hM,hpc,isVal,hok]
  rw [hM];refine stepCv_l b1 b2 _ _ hn4 hs5 ?_;refine (val1No_l _ hok hE0).mono ?_;rintro o w1 ⟨rfl,nx,hE1⟩;refine ⟨2,rfl,rfl,S.G,?_⟩;rw [hS];exact ⟨nx,wd,_,_,fun h=>absurd h (by simp),hE1⟩
theorem lane_4 (hpc:L.pc=4) (hL:LmOk L) (hlv:0<=lv/\lv<=1000000) (hwf:Wf L.p) (hg:Glo w0) (hm:S.m < maxLen) (h:LaneR w0 R a lv key vs S 0 L w) :
  Calls prog 169 #[.pointer (some ⟨a,0,none⟩),.iface 26 (.pointer (some ⟨S.p,0,none⟩))] w fun o w'=>o=.returned (.int .i64 (laneM lv key vs S.ce L S.f).1)/\∃ G',LaneR w0 R a lv key vs (laneS lv key vs S L G') (laneM lv key vs S.ce L S.f).1 (laneM lv key vs S.ce L S.f).2.1 w':=by
 obtain ⟨nx,wd,B1,B2,hn,hE⟩:=h;obtain ⟨⟨-,hnx⟩,hw7,hw9⟩:=hn rfl;obtain ⟨b1,b2,rfl,rfl,rfl⟩:=hnx (by rw [hpc]; rfl);rw [hpc] at hE hw7 hw9;have hn4:w.cell? ⟨a,4,none⟩=some (cvL b1 b2):=by rw [hE.rule 0 rfl 4]; rfl
 have hs5:w.cell? ⟨a,5,none⟩=some (.int .i64 0):=hE.rule 0 rfl 5;have hE0:Env w0 (boxI a (laneC S.c lv key vs (cvL b1 b2) 0 L.p.1 L.p.2.1 L.p.2.2 L.W L.C L.X wd false 0)::boxI b1 [.pointer (some ⟨a,0,none⟩)]::boxI b2 [mvL (bhL 4) a]::LT S R) w:=hE
 by_cases hok:okB (S.f (1,0,0)) S.ce=true
 ·have hS:∀ G,laneS lv key vs S L G={ S with G:=G,qc:={ S.qc with l:=wrap64 (S.qc.l+1) } }:=fun G=>by simp [laneS,laneQ,rollM,laneM,hpc,isVal,hok]
  refine stepCv_l b1 b2 _ _ hn4 hs5 ?_;have hgo:∀ (s:Int) (L':Lm),laneM lv key vs S.ce L S.f=(s,L',S.f)->(∀ v,Env w0 (boxI a (laneC S.c lv key vs (cvL b1 b2) 0 L.p.1 L.p.2.1 L.p.2.2 L.W L.C L.X wd false 0)::boxI b1 [.pointer (some ⟨a,0,none⟩)]::boxI b2 [mvL (bhL 4) a]::LT { S with qc:={ S.qc with l:=wrap64 (S.qc.l+1) } } R) v->Calls prog (bhL 4) #[.pointer (some ⟨a,0,none⟩)] v fun o w'=>o=.returned (.int .i64 s)/\LaneR w0 R a lv key vs { S with qc:={ S.qc with l:=wrap64 (S.qc.l+1) } } s L' w') ->
    Calls prog 293 #[.iface 26 (.pointer (some ⟨S.p,0,none⟩)),.pointer (some ⟨b1,0,none⟩),.pointer (some ⟨b2,0,none⟩)] w fun e w'=>∃ s,e=.returned (.int .i64 s)/\((.returned (.int .i64 s):Ending)=.returned (.int .i64 (laneM lv key vs S.ce L S.f).1)/\∃ G',LaneR w0 R a lv key vs (laneS lv key vs S L G') (laneM lv key vs S.ce L S.f).1 (laneM lv key vs S.ce L S.f).2.1 w'):=fun s L' hM hc=>by
   refine (val1Yes_l (bhL 4) (enters_bhL 4) hok hE0 s _ hc).mono ?_;rintro o w1 ⟨rfl,hR⟩;refine ⟨s,rfl,?_,S.G,?_⟩
   ·rw [hM]
   ·rw [hM,hS];exact hR
  clear hE hn;refine hgo 0 { L with pc:=if markB L.X then 5 else 6 } (by simp [laneM,holdsM,hpc,hok]) fun v hv=>?_;refine (out_l hL.X hg hv).mono ?_;rintro o w1 ⟨rfl,hE1⟩;cases hmk:markB L.X
  ·rw [hmk] at hE1;exact ⟨rfl,_,wd,_,_,fun _=>⟨⟨fun _=>rfl,fun h=>absurd h (by simp [isVal])⟩,fun h=>absurd h (by simp),fun h=>absurd h (by simp)⟩,hE1⟩
  ·rw [hmk] at hE1;exact ⟨rfl,_,wd,_,_,fun _=>⟨⟨fun _=>rfl,fun h=>absurd h (by simp [isVal])⟩,fun h=>absurd h (by simp),fun h=>absurd h (by simp)⟩,hE1⟩
 ·have hok:okB (S.f (1,0,0)) S.ce=false:=by simpa using hok
  have hM:laneM lv key vs S.ce L S.f=(2,L,S.f):=by simp [laneM,hpc,hok]
  have hS:∀ G,laneS lv key vs S L G={ S with G:=G,qc:={ S.qc with l:=wrap64 (S.qc.l+1) },cr:=wrap64 (S.cr+1) }:=fun G=>by simp [laneS,laneQ,rollM,hM,hpc,isVal,hok]
  rw [hM];refine stepCv_l b1 b2 _ _ hn4 hs5 ?_;refine (val1No_l _ hok hE0).mono ?_;rintro o w1 ⟨rfl,nx,hE1⟩;refine ⟨2,rfl,rfl,S.G,?_⟩;rw [hS];exact ⟨nx,wd,_,_,fun h=>absurd h (by simp),hE1⟩
theorem lane_7 (hpc:L.pc=7) (hL:LmOk L) (hlv:0<=lv/\lv<=1000000) (hwf:Wf L.p) (hg:Glo w0) (hm:S.m < maxLen) (h:LaneR w0 R a lv key vs S 0 L w) :
  Calls prog 169 #[.pointer (some ⟨a,0,none⟩),.iface 26 (.pointer (some ⟨S.p,0,none⟩))] w fun o w'=>o=.returned (.int .i64 (laneM lv key vs S.ce L S.f).1)/\∃ G',LaneR w0 R a lv key vs (laneS lv key vs S L G') (laneM lv key vs S.ce L S.f).1 (laneM lv key vs S.ce L S.f).2.1 w':=by
 obtain ⟨nx,wd,B1,B2,hn,hE⟩:=h;obtain ⟨⟨-,hnx⟩,hw7,hw9⟩:=hn rfl;obtain ⟨b1,b2,rfl,rfl,rfl⟩:=hnx (by rw [hpc]; rfl);rw [hpc] at hE hw7 hw9;have hn4:w.cell? ⟨a,4,none⟩=some (cvL b1 b2):=by rw [hE.rule 0 rfl 4]; rfl
 have hs5:w.cell? ⟨a,5,none⟩=some (.int .i64 0):=hE.rule 0 rfl 5;have hE0:Env w0 (boxI a (laneC S.c lv key vs (cvL b1 b2) 0 L.p.1 L.p.2.1 L.p.2.2 L.W L.C L.X wd false 0)::boxI b1 [.pointer (some ⟨a,0,none⟩)]::boxI b2 [mvL (bhL 7) a]::LT S R) w:=hE
 by_cases hok:okB (S.f (1,0,0)) S.ce=true
 ·have hS:∀ G,laneS lv key vs S L G={ S with G:=G,qc:={ S.qc with l:=wrap64 (S.qc.l+1) } }:=fun G=>by simp [laneS,laneQ,rollM,laneM,hpc,isVal,hok]
  refine stepCv_l b1 b2 _ _ hn4 hs5 ?_;have hgo:∀ (s:Int) (L':Lm),laneM lv key vs S.ce L S.f=(s,L',S.f)->(∀ v,Env w0 (boxI a (laneC S.c lv key vs (cvL b1 b2) 0 L.p.1 L.p.2.1 L.p.2.2 L.W L.C L.X wd false 0)::boxI b1 [.pointer (some ⟨a,0,none⟩)]::boxI b2 [mvL (bhL 7) a]::LT { S with qc:={ S.qc with l:=wrap64 (S.qc.l+1) } } R) v->Calls prog (bhL 7) #[.pointer (some ⟨a,0,none⟩)] v fun o w'=>o=.returned (.int .i64 s)/\LaneR w0 R a lv key vs { S with qc:={ S.qc with l:=wrap64 (S.qc.l+1) } } s L' w') ->
    Calls prog 293 #[.iface 26 (.pointer (some ⟨S.p,0,none⟩)),.pointer (some ⟨b1,0,none⟩),.pointer (some ⟨b2,0,none⟩)] w fun e w'=>∃ s,e=.returned (.int .i64 s)/\((.returned (.int .i64 s):Ending)=.returned (.int .i64 (laneM lv key vs S.ce L S.f).1)/\∃ G',LaneR w0 R a lv key vs (laneS lv key vs S L G') (laneM lv key vs S.ce L S.f).1 (laneM lv key vs S.ce L S.f).2.1 w'):=fun s L' hM hc=>by
   refine (val1Yes_l (bhL 7) (enters_bhL 7) hok hE0 s _ hc).mono ?_;rintro o w1 ⟨rfl,hR⟩;refine ⟨s,rfl,?_,S.G,?_⟩
   ·rw [hM]
   ·rw [hM,hS];exact hR
  clear hE hn;have hV:L.V=0:=hL.v (by omega);have hfd:L.fd=false:=hL.fd (by omega);have hwd:wd=L.K:=hw7 rfl;subst hwd
  by_cases hlt:L.K < key
  ·refine hgo (cS L.X) { L with p:=(5,L.C,7+lv),W:=L.X,X:=0,C:=slotI L.X,pc:=3 } (by simp [laneM,holdsM,hpc,hok,hlt,comeM_cS]) fun v hv=>?_;refine (keyLess_l hlt hlv hL.X hg hv).mono ?_;rintro o w1 ⟨rfl,nx,hnx,hE1⟩;exact ⟨rfl,LaneR.came (L:={ L with p:=(5,L.C,7+lv) }) rfl hfd hV hnx hE1⟩
  ·by_cases heq:L.K=key
   ·cases vs
    ·refine hgo 1 { L with fd:=true } (by simp [laneM,holdsM,hpc,hok,heq]) fun v hv=>?_;refine (keyFound_l heq hv).mono ?_;rintro o w1 ⟨rfl,nx,hE1⟩;have h2:pvS 1 { L with fd:=true }=0:=hV;refine ⟨rfl,nx,L.K,boxI b1 [.pointer (some ⟨a,0,none⟩)],boxI b2 [mvL (bhL 7) a],fun h=>absurd h (by simp),?_⟩;rw [h2];exact hE1
    ·refine hgo 0 { L with fd:=true,pc:=8 } (by simp [laneM,holdsM,hpc,hok,heq]) fun v hv=>?_;refine (keyVal_l heq hv).mono ?_;rintro o w1 ⟨rfl,hE1⟩;exact ⟨rfl,_,L.K,_,_,fun _=>⟨⟨fun _=>rfl,fun h=>absurd h (by simp [isVal])⟩,fun h=>absurd h (by simp),fun h=>absurd h (by simp)⟩,hE1⟩
   ·refine hgo 1 L (by simp [laneM,holdsM,hpc,hok,hlt,heq]) fun v hv=>?_;refine (keyMore_l (by omega) hv).mono ?_;rintro o w1 ⟨rfl,nx,hE1⟩;have h1:pfS 1 L=false:=hfd;have h2:pvS 1 L=0:=hV;refine ⟨rfl,nx,L.K,boxI b1 [.pointer (some ⟨a,0,none⟩)],boxI b2 [mvL (bhL 7) a],fun h=>absurd h (by simp),?_⟩;rw [h1,h2];exact hE1
 ·have hok:okB (S.f (1,0,0)) S.ce=false:=by simpa using hok
  have hM:laneM lv key vs S.ce L S.f=(2,L,S.f):=by simp [laneM,hpc,hok]
  have hS:∀ G,laneS lv key vs S L G={ S with G:=G,qc:={ S.qc with l:=wrap64 (S.qc.l+1) },cr:=wrap64 (S.cr+1) }:=fun G=>by simp [laneS,laneQ,rollM,hM,hpc,isVal,hok]
  rw [hM];refine stepCv_l b1 b2 _ _ hn4 hs5 ?_;refine (val1No_l _ hok hE0).mono ?_;rintro o w1 ⟨rfl,nx,hE1⟩;refine ⟨2,rfl,rfl,S.G,?_⟩;rw [hS];exact ⟨nx,wd,_,_,fun h=>absurd h (by simp),hE1⟩
theorem lane_9 (hpc:L.pc=9) (hL:LmOk L) (hlv:0<=lv/\lv<=1000000) (hwf:Wf L.p) (hg:Glo w0) (hm:S.m < maxLen) (h:LaneR w0 R a lv key vs S 0 L w) :
  Calls prog 169 #[.pointer (some ⟨a,0,none⟩),.iface 26 (.pointer (some ⟨S.p,0,none⟩))] w fun o w'=>o=.returned (.int .i64 (laneM lv key vs S.ce L S.f).1)/\∃ G',LaneR w0 R a lv key vs (laneS lv key vs S L G') (laneM lv key vs S.ce L S.f).1 (laneM lv key vs S.ce L S.f).2.1 w':=by
 obtain ⟨nx,wd,B1,B2,hn,hE⟩:=h;obtain ⟨⟨-,hnx⟩,hw7,hw9⟩:=hn rfl;obtain ⟨b1,b2,rfl,rfl,rfl⟩:=hnx (by rw [hpc]; rfl);rw [hpc] at hE hw7 hw9;have hn4:w.cell? ⟨a,4,none⟩=some (cvL b1 b2):=by rw [hE.rule 0 rfl 4]; rfl
 have hs5:w.cell? ⟨a,5,none⟩=some (.int .i64 0):=hE.rule 0 rfl 5;have hE0:Env w0 (boxI a (laneC S.c lv key vs (cvL b1 b2) 0 L.p.1 L.p.2.1 L.p.2.2 L.W L.C L.X wd false 0)::boxI b1 [.pointer (some ⟨a,0,none⟩)]::boxI b2 [mvL (bhL 9) a]::LT S R) w:=hE
 by_cases hok:okB (S.f (1,0,0)) S.ce=true
 ·have hS:∀ G,laneS lv key vs S L G={ S with G:=G,qc:={ S.qc with l:=wrap64 (S.qc.l+1) } }:=fun G=>by simp [laneS,laneQ,rollM,laneM,hpc,isVal,hok]
  refine stepCv_l b1 b2 _ _ hn4 hs5 ?_;have hgo:∀ (s:Int) (L':Lm),laneM lv key vs S.ce L S.f=(s,L',S.f)->(∀ v,Env w0 (boxI a (laneC S.c lv key vs (cvL b1 b2) 0 L.p.1 L.p.2.1 L.p.2.2 L.W L.C L.X wd false 0)::boxI b1 [.pointer (some ⟨a,0,none⟩)]::boxI b2 [mvL (bhL 9) a]::LT { S with qc:={ S.qc with l:=wrap64 (S.qc.l+1) } } R) v->Calls prog (bhL 9) #[.pointer (some ⟨a,0,none⟩)] v fun o w'=>o=.returned (.int .i64 s)/\LaneR w0 R a lv key vs { S with qc:={ S.qc with l:=wrap64 (S.qc.l+1) } } s L' w') ->
    Calls prog 293 #[.iface 26 (.pointer (some ⟨S.p,0,none⟩)),.pointer (some ⟨b1,0,none⟩),.pointer (some ⟨b2,0,none⟩)] w fun e w'=>∃ s,e=.returned (.int .i64 s)/\((.returned (.int .i64 s):Ending)=.returned (.int .i64 (laneM lv key vs S.ce L S.f).1)/\∃ G',LaneR w0 R a lv key vs (laneS lv key vs S L G') (laneM lv key vs S.ce L S.f).1 (laneM lv key vs S.ce L S.f).2.1 w'):=fun s L' hM hc=>by
   refine (val1Yes_l (bhL 9) (enters_bhL 9) hok hE0 s _ hc).mono ?_;rintro o w1 ⟨rfl,hR⟩;refine ⟨s,rfl,?_,S.G,?_⟩
   ·rw [hM]
   ·rw [hM,hS];exact hR
  clear hE hn;have hft:L.fd=true:=hL.ft (by omega);have hwd:wd=L.V:=hw9 rfl;subst hwd;refine hgo 1 L (by simp [laneM,holdsM,hpc,hok]) fun v hv=>?_;refine (val_l hv).mono ?_;rintro o w1 ⟨rfl,nx,hE1⟩;have h1:pfS 1 L=true:=hft;refine ⟨rfl,nx,L.V,boxI b1 [.pointer (some ⟨a,0,none⟩)],boxI b2 [mvL (bhL 9) a],fun h=>absurd h (by simp),?_⟩;rw [h1];exact hE1
 ·have hok:okB (S.f (1,0,0)) S.ce=false:=by simpa using hok
  have hM:laneM lv key vs S.ce L S.f=(2,L,S.f):=by simp [laneM,hpc,hok]
  have hS:∀ G,laneS lv key vs S L G={ S with G:=G,qc:={ S.qc with l:=wrap64 (S.qc.l+1) },cr:=wrap64 (S.cr+1) }:=fun G=>by simp [laneS,laneQ,rollM,hM,hpc,isVal,hok]
  rw [hM];refine stepCv_l b1 b2 _ _ hn4 hs5 ?_;refine (val1No_l _ hok hE0).mono ?_;rintro o w1 ⟨rfl,nx,hE1⟩;refine ⟨2,rfl,rfl,S.G,?_⟩;rw [hS];exact ⟨nx,wd,_,_,fun h=>absurd h (by simp),hE1⟩
theorem lane_l (hL:LmOk L) (hlv:0<=lv/\lv<=1000000) (hwf:Wf L.p) (hg:Glo w0) (hm:S.m < maxLen) (h:LaneR w0 R a lv key vs S 0 L w) :
  Calls prog 169 #[.pointer (some ⟨a,0,none⟩),.iface 26 (.pointer (some ⟨S.p,0,none⟩))] w fun o w'=>o=.returned (.int .i64 (laneM lv key vs S.ce L S.f).1)/\∃ G',LaneR w0 R a lv key vs (laneS lv key vs S L G') (laneM lv key vs S.ce L S.f).1 (laneM lv key vs S.ce L S.f).2.1 w':=by
 rcases hL.pc with h0 | h0 | h0 | h0 | h0 | h0 | h0 | h0 | h0
 ·exact lane_0 h0 hL hlv hwf hg hm h
 ·exact lane_2 h0 hL hlv hwf hg hm h
 ·exact lane_3 h0 hL hlv hwf hg hm h
 ·exact lane_4 h0 hL hlv hwf hg hm h
 ·exact lane_5 h0 hL hlv hwf hg hm h
 ·exact lane_6 h0 hL hlv hwf hg hm h
 ·exact lane_7 h0 hL hlv hwf hg hm h
 ·exact lane_8 h0 hL hlv hwf hg hm h
 ·exact lane_9 h0 hL hlv hwf hg hm h
end
def St3 {α:Type} (q:Int × α):Prop:=q.1=0\/q.1=1\/q.1=2
theorem come_state (L:Lm) (v:Int):St3 (comeM L v):=by
 unfold comeM
 by_cases h:slotI v=0
 ·simp [h,St3]
 ·simp [h,St3]
theorem holds_state (lv key:Int) (vs:Bool) (L:Lm):St3 (holdsM lv key vs L):=by
 unfold holdsM
 repeat' split
 all_goals first | exact come_state _ _ | simp [St3]
theorem lane_state (lv key:Int) (vs:Bool) (e:Int) (L:Lm) (f:Plc->Int):(laneM lv key vs e L f).1=0\/(laneM lv key vs e L f).1=1\/(laneM lv key vs e L f).1=2:=by
 show St3 (laneM lv key vs e L f);unfold laneM
 repeat' split
 all_goals first | exact come_state L (wordI false (slotI L.X) e) | exact holds_state lv key vs L | simp [St3]
theorem LmOk.come {L:Lm} (hL:LmOk L) (h7:L.pc<=7) (v:Int) (hv:InU v):LmOk { L with W:=v,X:=0,C:=slotI v,pc:=3 } :=
 ⟨by simp,fun _=>hL.v (by omega),fun _=>hL.fd h7,fun h=>absurd h (by simp),fun _=>rfl,fun h=>absurd h (by simp),hv,by simp [InU],slotI_in v⟩
theorem lane_ok {lv key:Int} {vs:Bool} {e:Int} {L:Lm} {f:Plc->Int} (hL:LmOk L) (hW:∀ x,InU (f x)) (hp:Wf L.p) (hlv:0<=lv/\lv<=1000000) (h0:(laneM lv key vs e L f).1=0):LmOk (laneM lv key vs e L f).2.1/\Wf (laneM lv key vs e L f).2.1.p:=by
 have hpc9:L.pc<=9:=by rcases hL.pc with h | h | h | h | h | h | h | h | h<;>omega
 rcases hL.pc with hpc | hpc | hpc | hpc | hpc | hpc | hpc | hpc | hpc
 ·have hM:laneM lv key vs e L f=(0,{ L with W:=f L.p,pc:=2 },f):=by simp [laneM,hpc]
  rw [hM];exact ⟨⟨by simp,fun _=>hL.v (by omega),fun _=>hL.fd (by omega),fun h=>absurd h (by simp),fun _=>hL.x (by omega),fun _=>hL.c0 (by omega),hW _,hL.X,hL.C⟩,hp⟩
 ·by_cases hok:okB (f (1,0,0)) e=true
  ·by_cases hmk:markB L.W=true
   ·have hM:laneM lv key vs e L f=(2,L,f):=by simp [laneM,holdsM,hpc,hok,hmk]
    rw [hM] at h0;exact absurd h0 (by simp)
   ·have hM:laneM lv key vs e L f=(cS L.W,{ L with W:=L.W,X:=0,C:=slotI L.W,pc:=3 },f):=by simp [laneM,holdsM,hpc,hok,hmk,comeM_cS]
    rw [hM];exact ⟨hL.come (by omega) _ hL.W,hp⟩
  ·have hM:laneM lv key vs e L f=(2,L,f):=by simp [laneM,hpc,hok]
   rw [hM] at h0;exact absurd h0 (by simp)
 ·have hM:laneM lv key vs e L f=(0,{ L with X:=f (5,L.C,7+lv),pc:=4 },f):=by simp [laneM,hpc]
  rw [hM];exact ⟨⟨by simp,fun _=>hL.v (by omega),fun _=>hL.fd (by omega),fun h=>absurd h (by simp),fun h=>absurd h (by simp),fun h=>absurd h (by simp),hL.W,hW _,hL.C⟩,hp⟩
 ·by_cases hok:okB (f (1,0,0)) e=true
  ·have hM:laneM lv key vs e L f=(0,{ L with pc:=if markB L.X then 5 else 6 },f):=by simp [laneM,holdsM,hpc,hok]
   rw [hM];cases markB L.X
   ·exact ⟨⟨by simp,fun _=>hL.v (by omega),fun _=>hL.fd (by omega),fun h=>absurd h (by simp),fun h=>absurd h (by simp),fun h=>absurd h (by simp),hL.W,hL.X,hL.C⟩,hp⟩
   ·exact ⟨⟨by simp,fun _=>hL.v (by omega),fun _=>hL.fd (by omega),fun h=>absurd h (by simp),fun h=>absurd h (by simp),fun h=>absurd h (by simp),hL.W,hL.X,hL.C⟩,hp⟩
  ·have hM:laneM lv key vs e L f=(2,L,f):=by simp [laneM,hpc,hok]
   rw [hM] at h0;exact absurd h0 (by simp)
 ·by_cases heq:f L.p=L.W
  ·have hM:laneM lv key vs e L f=(cS (wordI false (slotI L.X) e),{ L with W:=wordI false (slotI L.X) e,X:=0,C:=slotI (wordI false (slotI L.X) e),pc:=3 },swf f L.p L.W (wordI false (slotI L.X) e)):=by simp [laneM,hpc,heq,comeM_cS]
   rw [hM];exact ⟨hL.come (by omega) _ (wordI_in _ _ _),hp⟩
  ·have hM:laneM lv key vs e L f=(2,L,swf f L.p L.W (wordI false (slotI L.X) e)):=by simp [laneM,hpc,heq]
   rw [hM] at h0;exact absurd h0 (by simp)
 ·have hM:laneM lv key vs e L f=(0,{ L with K:=f (5,L.C,3),pc:=7 },f):=by simp [laneM,hpc]
  rw [hM];exact ⟨⟨by simp,fun _=>hL.v (by omega),fun _=>hL.fd (by omega),fun h=>absurd h (by simp),fun h=>absurd h (by simp),fun h=>absurd h (by simp),hL.W,hL.X,hL.C⟩,hp⟩
 ·by_cases hok:okB (f (1,0,0)) e=true
  ·by_cases hlt:L.K < key
   ·have hM:laneM lv key vs e L f=(cS L.X,{ L with p:=(5,L.C,7+lv),W:=L.X,X:=0,C:=slotI L.X,pc:=3 },f):=by simp [laneM,holdsM,hpc,hok,hlt,comeM_cS]
    rw [hM];have hLp:LmOk { L with p:=(5,L.C,7+lv) }:=⟨hL.pc,hL.v,hL.fd,hL.ft,hL.x,hL.c0,hL.W,hL.X,hL.C⟩;exact ⟨hLp.come (by show L.pc<=7; omega) _ hL.X,wf_part hL.C (by omega)⟩
   ·by_cases heq:L.K=key
    ·cases vs
     ·have hM:laneM lv key false e L f=(1,{ L with fd:=true },f):=by simp [laneM,holdsM,hpc,hok,heq]
      rw [hM] at h0;exact absurd h0 (by simp)
     ·have hM:laneM lv key true e L f=(0,{ L with fd:=true,pc:=8 },f):=by simp [laneM,holdsM,hpc,hok,heq]
      rw [hM];exact ⟨⟨by simp,fun _=>hL.v (by omega),fun h=>absurd h (by simp),fun _=>rfl,fun h=>absurd h (by simp),fun h=>absurd h (by simp),hL.W,hL.X,hL.C⟩,hp⟩
    ·have hM:laneM lv key vs e L f=(1,L,f):=by simp [laneM,holdsM,hpc,hok,hlt,heq]
     rw [hM] at h0;exact absurd h0 (by simp)
  ·have hM:laneM lv key vs e L f=(2,L,f):=by simp [laneM,hpc,hok]
   rw [hM] at h0;exact absurd h0 (by simp)
 ·have hM:laneM lv key vs e L f=(0,{ L with V:=f (5,L.C,4),pc:=9 },f):=by simp [laneM,hpc]
  rw [hM];exact ⟨⟨by simp,fun h=>absurd h (by simp),fun h=>absurd h (by simp),fun _=>hL.ft (by omega),fun h=>absurd h (by simp),fun h=>absurd h (by simp),hL.W,hL.X,hL.C⟩,hp⟩
 ·by_cases hok:okB (f (1,0,0)) e=true
  ·have hM:laneM lv key vs e L f=(1,L,f):=by simp [laneM,holdsM,hpc,hok]
   rw [hM] at h0;exact absurd h0 (by simp)
  ·have hM:laneM lv key vs e L f=(2,L,f):=by simp [laneM,hpc,hok]
   rw [hM] at h0;exact absurd h0 (by simp)
section
variable {w0 w:World} {L:List Item}
theorem new_l (c:Nat) (x y z lv key:Int) (vs:Bool) (hE:Env w0 L w) :
  Calls prog 202 #[.pointer (some ⟨c,0,none⟩),.agg #[.int .i64 x,.int .i64 y,.int .i64 z,.int .i64 0],.int .i64 lv,.int .u64 key,.bool vs] w fun o w'=>∃ a,o=.returned (.pointer (some ⟨a,0,none⟩))/\Env w0 (boxI a (laneC c lv key vs (mvL 242 a) 0 x y z 0 0 0 0 false 0)::L) w':=by
 have hmf:=makeF;have hE1:=hE.box w.heap.size rfl [.int .i64 x,.int .i64 y,.int .i64 z,.int .i64 0] 185;have r0:=hE1.rule 0 rfl;have hE2:=hE1.box (w.heap.size+1) (by simp) (laneC c lv key vs .nilFunc 0 x y z 0 0 0 0 false 0) 263;have HGO:=zH (goOn_l 0 (.func 242) #[.pointer (some ⟨w.heap.size+1,0,none⟩)] #[] (by simp [laneC]) hE2 rfl);clear hE hE1 hE2;go_enter func202,ntmps202;go_wp2_with fail;refine HGO.out.mono ?_;rintro o w1 ⟨rfl,hE3⟩;go_wp2_with fail;go_ret;exact ⟨_,rfl,hE3.sub (.cons_cons _ (.cons _ (List.Sublist.refl _)))⟩
end
section
variable {w:World} {a c:Nat} {lv key:Int} {vs:Bool} {nx:Value} {st x y z W C X wd:Int} {pf:Bool} {pv:Int}
theorem found_g (hb:Blk 0 w a (laneC c lv key vs nx st x y z W C X wd pf pv)):Calls prog 171 #[.pointer (some ⟨a,0,none⟩)] w fun o w'=>o=.returned (.bool pf)/\w'=w:=by
 have r1:=hb.rule;unfold laneC at r1;go_enter func171,ntmps171
 go_wp2
 go_ret;exact ⟨rfl,rfl⟩
theorem who_g (hb:Blk 0 w a (laneC c lv key vs nx st x y z W C X wd pf pv)):Calls prog 256 #[.pointer (some ⟨a,0,none⟩)] w fun o w'=>o=.returned (.agg #[.int .i64 C,.int .i64 0])/\Below w.heap.size w w':=by
 have r1:=cell_more hb.1 hb.rule;unfold laneC at r1;go_enter func256,ntmps256
 go_wp2
 exact bodyPost_ret (v:=.agg #[.int .i64 C,.int .i64 0]) (by simp [results,results256,go_sem]) rfl ⟨rfl,(Below.refl _ _).alloc (Nat.le_refl _) _⟩
theorem at_g (hb:Blk 0 w a (laneC c lv key vs nx st x y z W C X wd pf pv)):Calls prog 274 #[.pointer (some ⟨a,0,none⟩)] w fun o w'=>o=.returned (.agg #[.int .i64 x,.int .i64 y,.int .i64 z,.int .i64 0])/\Below w.heap.size w w':=by
 have r1:=cell_more hb.1 hb.rule;unfold laneC at r1;go_enter func274,ntmps274
 go_wp2
 exact bodyPost_ret (v:=.agg #[.int .i64 x,.int .i64 y,.int .i64 z,.int .i64 0]) (by simp [results,results274,go_sem]) rfl ⟨rfl,(Below.refl _ _).alloc (Nat.le_refl _) _⟩
theorem into_g (hb:Blk 0 w a (laneC c lv key vs nx st x y z W C X wd pf pv)):Calls prog 275 #[.pointer (some ⟨a,0,none⟩)] w fun o w'=>o=.returned (.agg #[.int .u64 W,.int .i64 0,.bool false])/\Below w.heap.size w w':=by
 have r1:=cell_more hb.1 hb.rule;unfold laneC at r1;go_enter func275,ntmps275
 go_wp2
 exact bodyPost_ret (v:=.agg #[.int .u64 W,.int .i64 0,.bool false]) (by simp [results,results275,go_sem]) rfl ⟨rfl,(Below.refl _ _).alloc (Nat.le_refl _) _⟩
theorem out_g (hb:Blk 0 w a (laneC c lv key vs nx st x y z W C X wd pf pv)):Calls prog 206 #[.pointer (some ⟨a,0,none⟩)] w fun o w'=>o=.returned (.agg #[.int .u64 X,.int .i64 0,.bool false])/\Below w.heap.size w w':=by
 have r1:=cell_more hb.1 hb.rule;unfold laneC at r1;go_enter func206,ntmps206
 go_wp2
 exact bodyPost_ret (v:=.agg #[.int .u64 X,.int .i64 0,.bool false]) (by simp [results,results206,go_sem]) rfl ⟨rfl,(Below.refl _ _).alloc (Nat.le_refl _) _⟩
end
def srC (c:Nat) (k key:Int) (vs:Bool) (lp:Value):List Value:=[.pointer (some ⟨c,0,none⟩),.int .i64 k,.int .u64 key,.bool vs,lp]
section
variable {w0 w:World} {L:List Item}
theorem newSearch_l (c:Nat) (k key:Int) (vs:Bool) (hE:Env w0 L w) :
  Calls prog 130 #[.pointer (some ⟨c,0,none⟩),.int .i64 k,.int .u64 key,.bool vs] w fun o w'=>∃ a,o=.returned (.pointer (some ⟨a,0,none⟩))/\Env w0 (boxI a (srC c k key vs (.pointer none))::L) w':=by
 have hE2:=hE.box w.heap.size rfl (srC c k key vs (.pointer none)) 261;clear hE;go_enter func130,ntmps130;go_wp2_with fail;go_ret;exact ⟨_,rfl,hE2⟩
end
section
variable {w:World} {a c:Nat} {lv key:Int} {vs:Bool} {nx:Value} {st x y z W C X wd:Int} {pf:Bool} {pv:Int}
theorem lane_g {k:Int} {lp:Option Addr} (hb:Blk 0 w a (srC c k key vs (.pointer lp))):Calls prog 185 #[.pointer (some ⟨a,0,none⟩)] w fun o w'=>o=.returned (.pointer lp)/\w'=w:=by
 have r1:=hb.rule;unfold srC at r1;go_enter func185,ntmps185
 go_wp2
 go_ret;exact ⟨rfl,rfl⟩
end
section
variable {w0 w:World} {R:List Item} {sb:Nat} {S:ST} {k key:Int} {vs:Bool} {lp:Value}
theorem check_s (hE:Env w0 (boxI sb (srC S.c k key vs lp)::LT S R) w) :
  Calls prog 168 #[.pointer (some ⟨sb,0,none⟩),.iface 26 (.pointer (some ⟨S.p,0,none⟩))] w fun o w'=>o=.returned (.int .i64 0)/\∃ a,Env w0 (boxI a (laneC S.c 0 key vs (mvL 242 a) 0 4 0 k 0 0 0 0 false 0)::boxI sb (srC S.c k key vs (.pointer (some ⟨a,0,none⟩)))::LT { S with ce:=epI (S.f (1,0,0)),qc:={ S.qc with l:=wrap64 (S.qc.l+1) } } R) w':=by
 have hc:=check_w _ (rfl:S.f (1,0,0)=S.f (1,0,0)) 1 3 4 (by decide) (by decide) hE rfl rfl rfl;simp only [zS,zZ] at hc;have HC:=zH hc;clear hc;have r:=hE.rule 0 rfl;unfold srC at r;go_enter func168,ntmps168;go_wp2_with fail;refine HC.out.mono ?_;rintro o w1 ⟨rfl,hE1⟩;replace hE1:Env w0 (boxI sb (srC S.c k key vs lp)::LT { S with ce:=epI (S.f (1,0,0)),qc:={ S.qc with l:=wrap64 (S.qc.l+1) } } R) w1:=hE1;clear HC hE r;generalize hS1:({ S with ce:=epI (S.f (1,0,0)),qc:={ S.qc with l:=wrap64 (S.qc.l+1) } }:ST)=S1 at *;have HS1:=zH hS1;clear hS1;go_wp2_with fail;refine Ord3.wp_chain [?_,?_,?_,?_,?_,?_,?_,?_,?_,?_,?_,?_,?_,?_,?_,?_,?_,?_,?_,?_,?_,?_,?_] [19,22] (fun w'=>∃ l9,Blk 0 w' sb (srC S.c k key vs l9)) (Ord3.Stage fun κs=>[Env w0 (boxI sb (srC S.c k key vs lp)::LT S1 R),fun w'=>∃ a,κs.getD 0 undef=.pointer (some ⟨a,0,none⟩)/\Env w0 (boxI a (laneC S.c 0 key vs (mvL 242 a) 0 4 0 k 0 0 0 0 false 0)::boxI sb (srC S.c k key vs lp)::LT S1 R) w',fun w'=>∃ a,Env w0 (boxI a (laneC S.c 0 key vs (mvL 242 a) 0 4 0 k 0 0 0 0 false 0)::boxI sb (srC S.c k key vs (.pointer (some ⟨a,0,none⟩)))::LT S1 R) w']) (by kernel_rfl) (by kernel_rfl) (by kernel_rfl) ⟨lp,hE1.drew.get 0 rfl⟩ ⟨_,rfl,hE1.drew⟩ (fun hT=>?_);rotate_left 23;have hT9:=zH hT;clear hT
 repeat ((first
  | (focus (refine Ord3.in_value (v:=?_) hT9.o (by decide) ?_ (by rfl) ?_ ?_; rotate_left 2; (intro w5 hS; obtain ⟨l9,hS9⟩:=hS; have r1:=Blk.rule hS9; unfold srC at r1; go_simp<;>rfl); rotate_right; (focus rfl)))
  | (focus (refine Ord3.in_off hT9.o (by decide) ?_ (by rfl) ?_; (focus rfl)))
  | (focus (refine Ord3.in_call (v:=?_) (f:=?_) (args:=?_) hT9.o (by decide) ?_ (by rfl) ?_ ?_ ?_; rotate_left 4; (intro w5 hS; obtain ⟨l9,hS9⟩:=hS; have r1:=Blk.rule hS9; unfold srC at r1; go_simp; constructor<;>rfl); (intro w5 hS; (first | (with_reducible refine kp (root_any _ _) ?_ ?_; rfl; exact fun w6 hb6=>⟨hS.elim fun l9 h=>⟨l9,h.under hb6⟩,fun us h=>Ord3.Stage.three h (fun h=>h.over hb6) (fun h=>h.elim fun a h=>⟨a,h.1,h.2.over hb6⟩) (fun h=>h.elim fun a h=>⟨a,h.over hb6⟩)⟩))); rotate_right; (focus rfl))));try simp only [Act.put,zA,zZ,zS])
 refine Ord3.in_turn (fun u=>∃ q,u=.pointer (some ⟨q,0,none⟩)) _ ⟨0,rfl⟩ hT9.o rfl (by decide) (by rfl) ?_ (Or.inl rfl) (by rfl) ?_ ?_
 ·rfl
 ·rintro w7 hC7 ⟨P7,hP7,hA7⟩;cases hP7;go_simp;simp only [Ord3.Lands];refine (new_l S.c 4 0 k 0 key vs hA7).mono ?_;rintro o w8 ⟨a8,rfl,hE8⟩;exact ⟨_,rfl,⟨a8,rfl⟩,⟨lp,hE8.get 1 rfl⟩,_,rfl,a8,rfl,hE8⟩
 rintro _ ⟨a9,rfl⟩
 try simp only [Act.put,zA,zZ,zS]
 repeat ((first
  | (focus (refine Ord3.in_value (v:=?_) hT9.o (by decide) ?_ (by rfl) ?_ ?_; rotate_left 2; (intro w5 hS; obtain ⟨l9,hS9⟩:=hS; have r1:=Blk.rule hS9; unfold srC at r1; go_simp<;>rfl); rotate_right; (focus rfl)))
  | (focus (refine Ord3.in_off hT9.o (by decide) ?_ (by rfl) ?_; (focus rfl))));try simp only [Act.put,zA,zZ,zS])
 refine Ord3.in_turn (fun u=>u=undef) _ rfl hT9.o rfl (by decide) (by rfl) ?_ (Or.inr ⟨_,19,[],rfl,by kernel_rfl,by kernel_rfl,rfl⟩) (by rfl) ?_ ?_
 ·rfl
 ·rintro w7 hC7 ⟨P7,hP7,hA7⟩;cases hP7;obtain ⟨a8,he,hA7⟩:=hA7;cases he;have r:=hA7.rule 1 rfl;unfold srC at r;have g:=hA7.thaw 1 rfl 4 (by simp [srC]);go_simp;simp only [Ord3.Lands];have h9:=hA7.put 1 rfl (j:=4) (by simp [srC]) (.pointer (some ⟨a9,0,none⟩));exact ⟨trivial,⟨_,h9.get 1 rfl⟩,_,rfl,a9,h9⟩
 rintro _ rfl
 try simp only [Act.put,zA,zZ,zS]
 refine Ord3.in_nil rfl ?_;rintro w9 hC9 ⟨P9,hP9,hA9⟩;cases hP9;obtain ⟨a8,hA9⟩:=hA9;clear hT9 hC9 hE1;go_wp2_with fail;go_ret;have h1:=HS1.out;subst h1;exact ⟨rfl,a8,hA9⟩
end
def SmOk (T:Sm):Prop:=T.on=true->LmOk T.L/\Wf T.L.p
def SrchR (w0:World) (R:List Item) (sb:Nat) (k key:Int) (vs:Bool) (S:ST) (s:Int) (T:Sm) (w:World):Prop :=
 S.ce=T.e/\S.cr=T.r/\((T.on=false/\s=0/\(Env w0 (boxI sb (srC S.c k key vs (.pointer none))::LT S R) w\/∃ a L,LaneR w0 (boxI sb (srC S.c k key vs (.pointer (some ⟨a,0,none⟩)))::R) a 0 key vs S 2 L w))\/(T.on=true/\∃ a,LaneR w0 (boxI sb (srC S.c k key vs (.pointer (some ⟨a,0,none⟩)))::R) a 0 key vs S s T.L w))
def searchS (key:Int) (vs:Bool) (S:ST) (T:Sm) (G:Nat->Prop):ST:=if T.on then laneS 0 key vs S T.L G else { S with ce:=epI (S.f (1,0,0)),qc:={ S.qc with l:=wrap64 (S.qc.l+1) } }
section
variable {w0 w:World} {R:List Item} {sb:Nat} {S:ST} {k key:Int} {vs:Bool} {T:Sm} {lp:Value}
theorem Env.sfront {x:Item} (h:Env w0 (LT S (x::R)) w):Env w0 (x::LT S R) w:=h.perm (List.perm_middle (l₁:=[_,_,_,_]))
theorem check_r (hoff:T.on=false) (he:S.ce=T.e) (hr:S.cr=T.r) (hE:Env w0 (boxI sb (srC S.c k key vs lp)::LT S R) w) :
  Calls prog 168 #[.pointer (some ⟨sb,0,none⟩),.iface 26 (.pointer (some ⟨S.p,0,none⟩))] w fun o w'=>o=.returned (.int .i64 (searchM k key vs T S.f).1)/\∃ G',SrchR w0 R sb k key vs (searchS key vs S T G') (searchM k key vs T S.f).1 (searchM k key vs T S.f).2.1 w':=by
 have hM:searchM k key vs T S.f=(0,{ on:=true,L:=L0 (4,0,k),e:=epI (S.f (1,0,0)),r:=T.r },S.f):=by unfold searchM; rw [hoff]; rfl
 have hS:∀ G,searchS key vs S T G={ S with ce:=epI (S.f (1,0,0)),qc:={ S.qc with l:=wrap64 (S.qc.l+1) } }:=fun G=>by unfold searchS; rw [hoff]; rfl
 refine (check_s hE).mono ?_;rintro o w1 ⟨rfl,a,hE1⟩;rw [hM];refine ⟨rfl,S.G,?_⟩;rw [hS];refine ⟨rfl,hr,.inr ⟨rfl,a,mvL (fnL 0) a,0,noI,noI,fun _=>⟨⟨fun _=>rfl,fun h=>absurd h (by simp [L0,isVal])⟩,fun h=>absurd h (by simp [L0]),fun h=>absurd h (by simp [L0])⟩,?_⟩⟩;have hE2:=hE1.perm (L':=boxI a (laneC S.c 0 key vs (mvL (fnL 0) a) 0 4 0 k 0 0 0 0 false 0)::LT { S with ce:=epI (S.f (1,0,0)),qc:={ S.qc with l:=wrap64 (S.qc.l+1) } } (boxI sb (srC S.c k key vs (.pointer (some ⟨a,0,none⟩)))::R)) (List.Perm.cons _ (List.perm_middle (l₁:=[_,_,_,_])).symm);exact hE2.none2
theorem search_l (hT:SmOk T) (hg:Glo w0) (hm:S.m < maxLen) (h:SrchR w0 R sb k key vs S 0 T w) :
  Calls prog 132 #[.pointer (some ⟨sb,0,none⟩),.iface 26 (.pointer (some ⟨S.p,0,none⟩))] w fun o w'=>o=.returned (.int .i64 (searchM k key vs T S.f).1)/\∃ G',SrchR w0 R sb k key vs (searchS key vs S T G') (searchM k key vs T S.f).1 (searchM k key vs T S.f).2.1 w':=by
 obtain ⟨he,hr,⟨hoff,-,hE | ⟨a,L,nx,wd,B1,B2,-,hE⟩⟩ | ⟨hon,a,hR⟩⟩:=h
 ·have HC:=zH (check_r hoff he hr hE);have r:=hE.rule 0 rfl;unfold srC at r;clear hE;go_enter func132,ntmps132;go_wp2_with fail;refine HC.out.mono ?_;rintro o w1 ⟨rfl,hP⟩;go_wp2_with fail;go_ret;exact ⟨rfl,hP⟩
 ·have hE1:Env w0 (boxI sb (srC S.c k key vs (.pointer (some ⟨a,0,none⟩)))::LT S R) w:=(hE.sub (.cons _ (.cons _ (.cons _ (List.Sublist.refl _))))).sfront;have HC:=zH (check_r hoff he hr hE1);have r:=hE1.rule 0 rfl;unfold srC at r;have ra:=hE.rule 0 rfl;have RA:=zH ra;unfold laneV laneC at ra;clear hE hE1;go_enter func132,ntmps132;go_wp2_with fail;refine (state_r (o:=4) (s:=2) (show w.cell? ⟨a,5,none⟩=some (.int .i64 2) from RA.out 5)).mono ?_;rintro o w0' ⟨rfl,rfl⟩;go_wp2_with fail;refine HC.out.mono ?_;rintro o w1 ⟨rfl,hP⟩;go_wp2_with fail;go_ret;exact ⟨rfl,hP⟩
 ·obtain ⟨hL,hp⟩:=hT hon;have hst:=lane_l hL (show (0:Int)<=0/\(0:Int)<=1000000 by omega) hp hg hm hR;have hM:searchM k key vs T S.f=(if (laneM 0 key vs T.e T.L S.f).1=1 then 1 else 0,{ on:=decide ((laneM 0 key vs T.e T.L S.f).1≠2),L:=(laneM 0 key vs T.e T.L S.f).2.1,e:=T.e,r:=rollM T.e T.L S.f T.r },(laneM 0 key vs T.e T.L S.f).2.2):=by unfold searchM; rw [if_pos hon]
  have hS:∀ G,searchS key vs S T G=laneS 0 key vs S T.L G:=fun G=>by unfold searchS; rw [if_pos hon]
  have hsl:=lane_state 0 key vs S.ce T.L S.f;obtain ⟨nx,wd,B1,B2,-,hE⟩:=hR;have r:∀ i,w.cell? ⟨sb,i,none⟩=_:=hE.rule 7 rfl;unfold srC at r;have ra:=hE.rule 0 rfl;have RA:=zH ra;unfold laneV laneC at ra;clear hE;rw [hM];simp only [hS];rw [<- he,<- hr];clear he hr;have hce:∀ G,(laneS 0 key vs S T.L G).ce=S.ce/\(laneS 0 key vs S T.L G).cr=rollM S.ce T.L S.f S.cr/\(laneS 0 key vs S T.L G).c=S.c:=fun G=>⟨rfl,rfl,rfl⟩;generalize hq:laneM 0 key vs S.ce T.L S.f=q at *;obtain ⟨q1,q2,q3⟩:=q;have HST:=zH hst;have HSL:=zH hsl;have HCE:=zH hce;clear hst hsl hq hM hS hce;go_enter func132,ntmps132;go_wp2_with fail;refine (state_r (o:=4) (s:=0) (show w.cell? ⟨a,5,none⟩=some (.int .i64 0) from RA.out 5)).mono ?_;rintro o w0' ⟨rfl,rfl⟩;go_wp2_with fail;refine HST.out.mono ?_;rintro o w1 ⟨rfl,G',hR'⟩;have HR':=zH hR';clear hR' HST r ra
  rcases HSL.out with h1 | h1 | h1
  ·have h1':q1=0:=h1;subst h1';go_wp2_with fail;go_ret;refine ⟨rfl,G',(HCE.out G').1,(HCE.out G').2.1,.inr ⟨rfl,a,?_⟩⟩;exact HR'.out
  ·have h1':q1=1:=h1;subst h1';go_wp2_with fail;go_ret;refine ⟨rfl,G',(HCE.out G').1,(HCE.out G').2.1,.inr ⟨rfl,a,?_⟩⟩;exact HR'.out
  ·have h1':q1=2:=h1;subst h1';go_wp2_with fail;go_ret;refine ⟨rfl,G',(HCE.out G').1,(HCE.out G').2.1,.inl ⟨rfl,rfl,.inr ⟨a,q2,?_⟩⟩⟩;exact HR'.out
end
section
variable {w:World} {c q:Nat} {k s b h l e r hs hi:Int}
theorem rolls_c (hb:Blk 0 w c (crv k s b h l e r hs hi q)):Calls prog 76 #[.pointer (some ⟨c,0,none⟩)] w fun o w'=>o=.returned (.int .i64 r)/\w'=w:=by
 have r1:=hb.rule;unfold crv at r1;go_enter func76,ntmps76
 go_wp2
 go_ret;exact ⟨rfl,rfl⟩
end
end
section
open Go.RowKit
theorem marked_any (x s v:Int) (w:World) (hg:Glo w) (h0:0<=x) (h1:x<=18446744073709551615) :
  Calls prog 304 #[.int .u64 x,.int .i64 s,.int .i64 v] w fun e w'=>e=.returned (.int .u64 (markedW x s v))/\Below w.heap.size w w':=by
 cases h:markB x
 ·have hm:markedW x s v=wordI true s v:=by simp [markedW,h]
  have H:=zH h;have HM:=zH hm;clear h hm;go_enter func304,ntmps304;go_wp2_with fail;refine (isMarked_any x _ hg h0 h1).mono ?_;rintro e w1 ⟨rfl,hb⟩;rw [H.out];go_wp2_with fail;refine (word_any true s v _ (hg.keep' hb)).mono ?_;rintro e w2 ⟨rfl,hb2⟩;go_wp2_with fail;go_ret;exact ⟨ret_int HM.out.symm,hb.trans (hb2.mono (by have:=hb.size; omega))⟩
 ·have hm:markedW x s v=x:=by simp [markedW,h]
  have H:=zH h;have HM:=zH hm;clear h hm;go_enter func304,ntmps304;go_wp2_with fail;refine (isMarked_any x _ hg h0 h1).mono ?_;rintro e w1 ⟨rfl,hb⟩;rw [H.out];go_wp2_with fail;go_ret;exact ⟨ret_int HM.out.symm,hb⟩
end
section
open Go.RowKit Go.Maps
section
variable {w:World} {c q:Nat} {k s b h l e r hs hi:Int}
theorem markNew_c (v d2:Int) (t:Bool) (a d:Int) (hv:InU v) (hm:markB v=false) (hg:Glo w) (hb:Blk 0 w c (crv k s b h l e r hs hi q)) :
  Calls prog 286 #[.pointer (some ⟨c,0,none⟩),.agg #[.int .u64 v,.int .i64 d2,.bool t],.agg #[.int .i64 a,.int .i64 d]] w fun o w'=>o=.returned (.agg #[.int .u64 (wordI true a e),.int .i64 d,.bool false])/\Below w.heap.size w w':=by
 unfold InU at hv;have hmw:markedW v a e=wordI true a e:=by simp [markedW,hm]
 have HGB:Hid (∀ (x:World) (hx:Below w.heap.size w x),Calls prog 304 #[.int .u64 v,.int .i64 a,.int .i64 e] x fun o w'=>o=.returned (.int .u64 (wordI true a e))/\Below x.heap.size x w'):=zH fun x hx=>by
  rw [<- hmw]; exact marked_any v a e x (hg.keep' hx) hv.1 hv.2
 have HM:=zH hm;clear hm hmw;have hF:=(((Fr.start w).push w.heap.size rfl [.int .u64 v,.int .i64 d2,.bool t] 180).push (w.heap.size+1) (by simp) [.int .i64 a,.int .i64 d] 136).push (w.heap.size+1+1) (by simp) [.int .u64 0,.int .i64 0,.bool false] 180;have r:=hF.rule 2 rfl;have hg1:=hg.keep' hF.below;have hcl:=hb.1;have hb1:=hb.under hF.below;clear hb hg;go_enter func286,ntmps286;go_wp2_with fail;refine (isMarked_any v _ hg1 hv.1 hv.2).mono ?_;rintro o w1 ⟨rfl,hb⟩;rw [HM.out];replace hF:=hF.over hb;replace hb1:=hb1.under hb;clear hb r hg1;unfold crv at hb1;go_wp2_with fail;have hX:=hF.blk 2 rfl (by omega);have hY:=hF.blk 1 rfl (by omega);have hZ:=hF.blk 0 rfl (by omega);have hE:=hF.below;clear hF;refine Ord.wc [12] (fun w'=>Below w.heap.size w w'/\Blk 0 w' c [.int .i64 k,.int .i64 s,.int .i64 b,.int .i64 h,.int .i64 l,.int .i64 e,.int .i64 r,.int .i64 hs,.int .i64 hi,.pointer (some ⟨q,0,none⟩)]/\Blk 0 w' w.heap.size [.int .u64 v,.int .i64 d2,.bool t]/\Blk 0 w' (w.heap.size+1) [.int .i64 a,.int .i64 d]) (fun j w'=>Blk 0 w' (w.heap.size+1+1) (if j=0 then [.int .u64 0,.int .i64 0,.bool false] else [.int .u64 (wordI true a e),.int .i64 d,.bool false])) ⟨hE.drew,hb1.drew,hX.drew,hY.drew⟩ hZ.drew fun hT9=>?_
 repeat ((first
  | (refine Ord.cv ?_ hT9.o ?_ ?_; rotate_left; (intro w5 hS; have r1:=Blk.rule hS.2.1; have r2:=Blk.rule hS.2.2.1; have r3:=Blk.rule hS.2.2.2; go_simp<;>rfl))
  | (refine Ord.co hT9.o ?_)
  | (refine Ord.cc ?_ ?_ ?_ hT9.o ?_ ?_ ?_; rotate_left 3; (intro w5 hS; have r1:=Blk.rule hS.2.1; have r2:=Blk.rule hS.2.2.1; have r3:=Blk.rule hS.2.2.2; go_simp; constructor<;>rfl); (intro w5 hS; (first | (with_reducible refine kp (HGB.out _ hS.1) ?_ ?_; rfl; exact fun w6 hb6=>⟨⟨hS.1.trans (hb6.mono hS.1.size),hS.2.1.under hb6,hS.2.2.1.under hb6,hS.2.2.2.under hb6⟩,fun _ h=>h.under hb6⟩)))));try simp only [Act.put,zA,zZ,zS])
 refine Ord.ch_turn (v:=undef) 0 hT9.o rfl (by decide) (Or.inl rfl) (by rfl) ?_ ?_
 ·rintro w5 hS hA2;simp only [if_true] at hA2;have r:=hA2.rule;have f0:=hA2.thaw 0 (by simp);have f1:=hA2.thaw 1 (by simp);have f2:=hA2.thaw 2 (by simp);have hz:=hS.1.size;go_simp;refine ⟨rfl,⟨?_,?_,?_,?_⟩,?_⟩
  ·exact below_set (below_set (below_set hS.1 hz (by omega) _) (by simp; omega) (by omega) _) (by simp; omega) (by omega) _
  ·exact ((hS.2.1.off (by omega) _).off (by omega) _).off (by omega) _
  ·exact ((hS.2.2.1.off (by omega) _).off (by omega) _).off (by omega) _
  ·exact ((hS.2.2.2.off (by omega) _).off (by omega) _).off (by omega) _
  ·exact Blk.put3 hA2 _ _ _
 try simp only [Act.put,zA,zZ,zS]
 repeat ((first
  | (refine Ord.cv ?_ hT9.o ?_ ?_; rotate_left; (intro w5 hS; skip; go_simp<;>rfl))
  | (refine Ord.co hT9.o ?_));try simp only [Act.put,zA,zZ,zS])
 refine Ord.InText.nil fun w5 hS=>?_;clear hT9;obtain ⟨hC9,hA9⟩:=Ord.chain_end hS;clear hS;have q:=hA9.rule;simp only [show ¬ [12].length=0 by decide,if_false] at q
 go_wp2
 exact bodyPost_ret (v:=.agg #[.int .u64 (wordI true a e),.int .i64 d,.bool false]) (by simp [results,results286,go_sem,q]) rfl ⟨rfl,hC9.1⟩
end
def opT (c:Nat) (kd key val lv rt:Int) (nx:Value) (st:Int) (sp:Value) (er:Int) (dn:Bool) (vl:Int):List Value :=
 [.pointer (some ⟨c,0,none⟩),.int .i64 kd,.int .u64 key,.int .u64 val,.int .i64 lv,.int .i64 rt,nx,.int .i64 st,sp,.int .i64 er,.bool dn,.int .u64 vl]
def OpAny (c:Nat) (kd key val lv rt:Int) (o:Nat) (sp:Value) (v:World):Prop:=∃ nx9 st9 er9 dn9 vl9,Blk 0 v o (opT c kd key val lv rt nx9 st9 sp er9 dn9 vl9)
section
variable {w0 w:World} {L:List Item} {o c:Nat} {kd key val lv rt:Int} {nx sp:Value} {er st vl:Int} {dn:Bool}
theorem find_t (hE:Env w0 (boxI o (opT c kd key val lv rt nx 0 sp er dn vl)::L) w) :
  Calls prog 84 #[.pointer (some ⟨o,0,none⟩)] w fun r w'=>r=.returned (.int .i64 0)/\∃ b1 b2 sb,Env w0 (boxI o (opT c kd key val lv rt (cvP b1 b2) 0 (.pointer (some ⟨sb,0,none⟩)) er dn vl)::boxI b1 [mvL 132 sb]::boxI b2 [mvL 133 o]::boxI sb (srC c rt key true (.pointer none))::L) w':=by
 have hmf:=makeF;go_enter func84,ntmps84;go_wp2_with fail;refine Ord3.wp_chain [?_,?_,?_,?_,?_,?_,?_,?_,?_,?_,?_,?_,?_,?_,?_,?_,?_,?_] [14,17] (fun w'=>∃ sp9,Blk 0 w' o (opT c kd key val lv rt nx 0 sp9 er dn vl)) (Ord3.Stage fun κs=>[Env w0 (boxI o (opT c kd key val lv rt nx 0 sp er dn vl)::L),fun w'=>∃ r,κs.getD 0 undef=.pointer (some ⟨r,0,none⟩)/\Env w0 (boxI r (srC c rt key true (.pointer none))::boxI o (opT c kd key val lv rt nx 0 sp er dn vl)::L) w',fun w'=>∃ r,Env w0 (boxI r (srC c rt key true (.pointer none))::boxI o (opT c kd key val lv rt nx 0 (.pointer (some ⟨r,0,none⟩)) er dn vl)::L) w']) (by kernel_rfl) (by kernel_rfl) (by kernel_rfl) ⟨sp,hE.drew.get 0 rfl⟩ ⟨_,rfl,hE.drew⟩ (fun hT=>?_);rotate_left 18;have hT9:=zH hT;clear hT
 repeat ((first
  | (focus (refine Ord3.in_value (v:=?_) hT9.o (by decide) ?_ (by rfl) ?_ ?_; rotate_left 2; (intro w5 hS; obtain ⟨sp9,hS9⟩:=hS; have r1:=Blk.rule hS9; unfold opT at r1; go_simp<;>rfl); rotate_right; (focus rfl)))
  | (focus (refine Ord3.in_off hT9.o (by decide) ?_ (by rfl) ?_; (focus rfl))));try simp only [Act.put,zA,zZ,zS])
 refine Ord3.in_turn (fun u=>∃ q,u=.pointer (some ⟨q,0,none⟩)) _ ⟨0,rfl⟩ hT9.o rfl (by decide) (by rfl) ?_ (Or.inl rfl) (by rfl) ?_ ?_
 ·rfl
 ·rintro w7 hC7 ⟨P7,hP7,hA7⟩;cases hP7;go_simp;simp only [Ord3.Lands];refine (newSearch_l c rt key true hA7).mono ?_;rintro o8 w8 ⟨r8,rfl,hE8⟩;exact ⟨_,rfl,⟨r8,rfl⟩,⟨sp,hE8.get 1 rfl⟩,_,rfl,r8,rfl,hE8⟩
 rintro _ ⟨r9,rfl⟩
 try simp only [Act.put,zA,zZ,zS]
 repeat ((first
  | (focus (refine Ord3.in_value (v:=?_) hT9.o (by decide) ?_ (by rfl) ?_ ?_; rotate_left 2; (intro w5 hS; obtain ⟨sp9,hS9⟩:=hS; have r1:=Blk.rule hS9; unfold opT at r1; go_simp<;>rfl); rotate_right; (focus rfl)))
  | (focus (refine Ord3.in_off hT9.o (by decide) ?_ (by rfl) ?_; (focus rfl))));try simp only [Act.put,zA,zZ,zS])
 refine Ord3.in_turn (fun u=>u=undef) _ rfl hT9.o rfl (by decide) (by rfl) ?_ (Or.inr ⟨_,14,[],rfl,by kernel_rfl,by kernel_rfl,rfl⟩) (by rfl) ?_ ?_
 ·rfl
 ·rintro w7 hC7 ⟨P7,hP7,hA7⟩;cases hP7;obtain ⟨a8,he,hA7⟩:=hA7;cases he;have r:=hA7.rule 1 rfl;unfold opT at r;have g:=hA7.thaw 1 rfl 8 (by simp [opT]);go_simp;simp only [Ord3.Lands];have h9:=hA7.put 1 rfl (j:=8) (by simp [opT]) (.pointer (some ⟨r9,0,none⟩));exact ⟨trivial,⟨_,h9.get 1 rfl⟩,_,rfl,r9,h9⟩
 rintro _ rfl
 try simp only [Act.put,zA,zZ,zS]
 refine Ord3.in_nil rfl ?_;rintro w9 hC9 ⟨P9,hP9,hA9⟩;cases hP9;obtain ⟨sb,hA9⟩:=hA9;clear hT9 hC9 hE;go_wp2_with fail;refine Ord3.wp_chain [?_,?_,?_,?_,?_,?_,?_,?_,?_,?_,?_,?_] [10] (fun w'=>∃ nx9,Blk 0 w' o (opT c kd key val lv rt nx9 0 (.pointer (some ⟨sb,0,none⟩)) er dn vl)) (Ord3.Stage fun κs=>[Env w0 (boxI sb (srC c rt key true (.pointer none))::boxI o (opT c kd key val lv rt nx 0 (.pointer (some ⟨sb,0,none⟩)) er dn vl)::L),fun w'=>∃ b1 b2,Env w0 (boxI b1 [mvL 132 sb]::boxI b2 [mvL 133 o]::boxI sb (srC c rt key true (.pointer none))::boxI o (opT c kd key val lv rt (cvP b1 b2) 0 (.pointer (some ⟨sb,0,none⟩)) er dn vl)::L) w']) (by kernel_rfl) (by kernel_rfl) (by kernel_rfl) ⟨nx,hA9.drew.get 1 rfl⟩ ⟨_,rfl,hA9.drew⟩ (fun hT=>?_);rotate_left 12;have hT9:=zH hT;clear hT
 repeat ((first
  | (focus (refine Ord3.in_value (v:=?_) hT9.o (by decide) ?_ (by rfl) ?_ ?_; rotate_left 2; (intro w5 hS; obtain ⟨nx9,hS9⟩:=hS; have r1:=Blk.rule hS9; unfold opT at r1; go_simp<;>rfl); rotate_right; (focus rfl)))
  | (focus (refine Ord3.in_off hT9.o (by decide) ?_ (by rfl) ?_; (focus rfl))));try simp only [Act.put,zA,zZ,zS])
 refine Ord3.in_turn (fun u=>u=.int .i64 0) _ rfl hT9.o rfl (by decide) (by rfl) ?_ (Or.inl rfl) (by rfl) ?_ ?_
 ·rfl
 ·rintro w7 hC7 ⟨P7,hP7,hA7⟩;cases hP7;go_simp;simp only [Ord3.Lands];refine (play_r (o:=6) 1 _ _ _ _ _ _ (by simp [opT]) hA7 rfl).mono ?_;rintro o8 w8 ⟨rfl,b1,b2,hE8⟩;exact ⟨_,rfl,rfl,⟨_,hE8.get 3 rfl⟩,_,rfl,b1,b2,hE8⟩
 rintro _ rfl
 try simp only [Act.put,zA,zZ,zS]
 repeat ((first
  | (focus (refine Ord3.in_value (v:=?_) hT9.o (by decide) ?_ (by rfl) ?_ ?_; rotate_left 2; (intro w5 hS; skip; go_simp<;>rfl); rotate_right; (focus rfl)))
  | (focus (refine Ord3.in_off hT9.o (by decide) ?_ (by rfl) ?_; (focus rfl))));try simp only [Act.put,zA,zZ,zS])
 refine Ord3.in_nil rfl ?_;rintro w9 hC9 ⟨P9,hP9,hA9⟩;cases hP9;obtain ⟨b1,b2,hA9⟩:=hA9;clear hT9 hC9;go_wp2_with fail;go_ret;exact ⟨rfl,b1,b2,sb,hA9.perm (List.perm_middle (l₁:=[_,_,_]))⟩
theorem over_t (e2:Int) (d2:Bool) (v2:Int) (hE:Env w0 (boxI o (opT c kd key val lv rt nx st sp er dn vl)::L) w) :
  Calls prog 208 #[.pointer (some ⟨o,0,none⟩),.agg #[.int .i64 e2,.bool d2,.int .u64 v2]] w fun r w'=>r=.returned (.int .i64 1)/\Env w0 (boxI o (opT c kd key val lv rt nx 1 sp e2 d2 v2)::L) w':=by
 have hE1:=hE.box w.heap.size rfl [.int .i64 e2,.bool d2,.int .u64 v2] 54;have r0:=hE1.rule 0 rfl;have r:=hE1.rule 1 rfl;unfold opT at r;have f:=hE1.thaw 1 rfl;have f0:=f 9 (by simp [opT]);have f1:=f 10 (by simp [opT]);have f2:=f 11 (by simp [opT]);clear f;have hP:=((hE1.put 1 rfl (j:=9) (by simp [opT]) (.int .i64 e2)).put 1 rfl (j:=10) (by simp [opT]) (.bool d2)).put 1 rfl (j:=11) (by simp [opT]) (.int .u64 v2);have HEN:=zH (end_r (o:=6) 1 1 (by simp [opT]) hP rfl);clear hE hE1 hP;go_enter func208,ntmps208;go_wp2_with fail;refine HEN.out.mono ?_;rintro e w1 ⟨rfl,hE2⟩;go_wp2_with fail;go_ret;exact ⟨rfl,hE2.sub (.cons _ (List.Sublist.refl _))⟩
theorem linkedDone_t (hE:Env w0 (boxI o (opT c kd key val lv rt nx 0 sp er dn vl)::L) w) :
  Calls prog 214 #[.pointer (some ⟨o,0,none⟩),.int .i64 1] w fun r w'=>r=.returned (.int .i64 1)/\Env w0 (boxI o (opT c kd key val lv rt nx 1 sp 0 (decide (kd=5)) 0)::L) w':=by
 have HO:=zH (over_t 0 (decide (kd=5)) 0 hE);have r:=hE.rule 0 rfl;unfold opT at r;have hk:(kd==5)=decide (kd=5):=by by_cases h:kd=5<;>simp [h]
 clear hE;go_enter func214,ntmps214;go_wp2_with fail;refine HO.out.mono ?_;rintro e w1 ⟨rfl,hE2⟩;go_wp2_with fail;go_ret;exact ⟨rfl,hE2⟩
theorem linkedFind_t (hE:Env w0 (boxI o (opT c kd key val lv rt nx 0 sp er dn vl)::L) w) :
  Calls prog 214 #[.pointer (some ⟨o,0,none⟩),.int .i64 2] w fun r w'=>r=.returned (.int .i64 0)/\∃ b1 b2 sb,Env w0 (boxI o (opT c kd key val lv rt (cvP b1 b2) 0 (.pointer (some ⟨sb,0,none⟩)) er dn vl)::boxI b1 [mvL 132 sb]::boxI b2 [mvL 133 o]::boxI sb (srC c rt key true (.pointer none))::L) w':=by
 have HF:=zH (find_t hE);clear hE;go_enter func214,ntmps214;go_wp2_with fail;refine HF.out.mono ?_;rintro e w1 ⟨rfl,b1,b2,sb,hE2⟩;go_wp2_with fail;go_ret;exact ⟨rfl,b1,b2,sb,hE2⟩
end
def lkC (c:Nat) (x y z W C X:Int) (nx:Value) (st:Int):List Value :=
 [.pointer (some ⟨c,0,none⟩),.int .i64 x,.int .i64 y,.int .i64 z,.int .i64 0,.int .u64 W,.int .i64 0,.bool false,.int .i64 C,.int .i64 0,.int .u64 X,.int .i64 0,.bool false,nx,.int .i64 st]
def ukC (c:Nat) (x y z W C X k key to:Int) (nx:Value) (st:Int):List Value :=
 [.pointer (some ⟨c,0,none⟩),.int .i64 x,.int .i64 y,.int .i64 z,.int .i64 0,.int .u64 W,.int .i64 0,.bool false,.int .i64 C,.int .i64 0,.int .u64 X,.int .i64 0,.bool false,.int .i64 k,.int .u64 key,.int .i64 to,.int .i64 0,nx,.int .i64 st]
theorem linkOf_any (s d:Int) (w:World):Calls prog 276 #[.agg #[.int .i64 s,.int .i64 d]] w fun e w'=>e=.returned (.agg #[.int .i64 5,.int .i64 s,.int .i64 7,.int .i64 d])/\Below w.heap.size w w':=by
 have hF:=((Fr.start w).push w.heap.size rfl [.int .i64 s,.int .i64 d] 136).push (w.heap.size+1) (by simp) [.int .i64 0,.int .i64 0,.int .i64 0,.int .i64 0] 185;have hX:=hF.blk 1 rfl (by omega);have hZ:=hF.blk 0 rfl (by omega);have hE:=hF.below;clear hF;have HLK:Hid (∀ v,Calls prog 55 #[.int .i64 s,.int .i64 0] v fun e w'=>e=.returned (.agg #[.int .i64 5,.int .i64 s,.int .i64 7])/\Below v.heap.size v w'):=zH fun v=>by
  have:=link_any s 0 v
  rwa [show wrap64 (7+0)=7 by rw [w64 _ (by omega)]; rfl] at this
 go_enter func276,ntmps276;go_wp2_with fail;refine Ord.wc [6] (fun w'=>Below w.heap.size w w'/\Blk 0 w' w.heap.size [.int .i64 s,.int .i64 d]) (fun j w'=>Blk 0 w' (w.heap.size+1) (if j=0 then [.int .i64 0,.int .i64 0,.int .i64 0,.int .i64 0] else [.int .i64 5,.int .i64 s,.int .i64 7,.int .i64 d])) ⟨hE.drew,hX.drew⟩ hZ.drew fun hT9=>?_
 repeat ((first
  | (refine Ord.cv ?_ hT9.o ?_ ?_; rotate_left; (intro w5 hS; have r:=Blk.rule hS.2; go_simp<;>rfl))
  | (refine Ord.co hT9.o ?_)
  | (refine Ord.cc ?_ ?_ ?_ hT9.o ?_ ?_ ?_; rotate_left 3; (intro w5 hS; have r:=Blk.rule hS.2; go_simp; constructor<;>rfl); (intro w5 hS; (first | (with_reducible refine kp (HLK.out _) ?_ ?_; rfl; exact fun w6 hb6=>⟨⟨hS.1.trans (hb6.mono hS.1.size),hS.2.under hb6⟩,fun _ h=>h.under hb6⟩)))));try simp only [Act.put,zA,zZ,zS])
 refine Ord.ch_turn (v:=undef) 0 hT9.o rfl (by decide) (Or.inl rfl) (by rfl) ?_ ?_
 ·rintro w5 hS hA2;simp only [if_true] at hA2;have r:=hA2.rule;have f0:=hA2.thaw 0 (by simp);have f1:=hA2.thaw 1 (by simp);have f2:=hA2.thaw 2 (by simp);have f3:=hA2.thaw 3 (by simp);have hz:=hS.1.size;go_simp;refine ⟨rfl,⟨?_,?_⟩,?_⟩
  ·exact below_set (below_set (below_set (below_set hS.1 hz (by omega) _) (by simp; omega) (by omega) _) (by simp; omega) (by omega) _) (by simp; omega) (by omega) _
  ·exact (((hS.2.off (by omega) _).off (by omega) _).off (by omega) _).off (by omega) _
  ·exact (((hA2.set (i:=0) (by simp) _).set (i:=1) (by simp) _).set (i:=2) (by simp) _).set (i:=3) (by simp) _
 try simp only [Act.put,zA,zZ,zS]
 repeat ((first
  | (refine Ord.cv ?_ hT9.o ?_ ?_; rotate_left; (intro w5 hS; skip; go_simp<;>rfl))
  | (refine Ord.co hT9.o ?_));try simp only [Act.put,zA,zZ,zS])
 refine Ord.InText.nil fun w5 hS=>?_;clear hT9;obtain ⟨hC9,hA9⟩:=Ord.chain_end hS;clear hS;have q:=hA9.rule;simp only [show ¬ [6].length=0 by decide,if_false] at q
 go_wp2
 exact bodyPost_ret (v:=.agg #[.int .i64 5,.int .i64 s,.int .i64 7,.int .i64 d]) (by simp [results,results276,go_sem,q]) rfl ⟨rfl,hC9.1⟩
section
variable {w0 w:World} {L:List Item} {a c:Nat} {lv key:Int} {vs:Bool} {nx:Value} {st x y z W C X wd:Int} {pf:Bool} {pv:Int}
theorem spotOf_l (hb:Blk 0 w a (laneC c lv key vs nx st x y z W C X wd pf pv)):Calls prog 246 #[.pointer (some ⟨a,0,none⟩)] w fun e w'=>e=.returned (.agg #[.int .i64 x,.int .i64 y,.int .i64 z,.int .i64 0,.int .u64 W,.int .i64 0,.bool false,.int .i64 C,.int .i64 0,.int .u64 X,.int .i64 0,.bool false])/\Below w.heap.size w w':=by
 have hZ:=(Env.start w).box w.heap.size rfl [.int .i64 0,.int .i64 0,.int .i64 0,.int .i64 0,.int .u64 0,.int .i64 0,.bool false,.int .i64 0,.int .i64 0,.int .u64 0,.int .i64 0,.bool false] 306;have hL:=hb.under hZ.below;clear hb;go_enter func246,ntmps246;go_wp2_with fail;refine (at_g hL).mono ?_;rintro o w1 ⟨rfl,hb1⟩;replace hZ:=hZ.over hb1;replace hL:=hL.under hb1;clear hb1;go_wp2_with fail;refine (into_g hL).mono ?_;rintro o w1 ⟨rfl,hb1⟩;replace hZ:=hZ.over hb1;replace hL:=hL.under hb1;clear hb1;go_wp2_with fail;refine (who_g hL).mono ?_;rintro o w1 ⟨rfl,hb1⟩;replace hZ:=hZ.over hb1;replace hL:=hL.under hb1;clear hb1;go_wp2_with fail;refine (out_g hL).mono ?_;rintro o w1 ⟨rfl,hb1⟩;replace hZ:=hZ.over hb1;clear hb1 hL;have r:=hZ.rule 0 rfl;have f:=hZ.thaw 0 rfl;have f0:=f 0 (by simp);have f1:=f 1 (by simp);have f2:=f 2 (by simp);have f3:=f 3 (by simp);have f4:=f 4 (by simp);have f5:=f 5 (by simp);have f6:=f 6 (by simp);have f7:=f 7 (by simp);have f8:=f 8 (by simp);have f9:=f 9 (by simp);have f10:=f 10 (by simp);have f11:=f 11 (by simp);clear f;have hP:=(((((((((((hZ.put 0 rfl (j:=0) (by simp) (.int .i64 x)).put 0 rfl (j:=1) (by simp) (.int .i64 y)).put 0 rfl (j:=2) (by simp) (.int .i64 z)).put 0 rfl (j:=3) (by simp) (.int .i64 0)).put 0 rfl (j:=4) (by simp) (.int .u64 W)).put 0 rfl (j:=5) (by simp) (.int .i64 0)).put 0 rfl (j:=6) (by simp) (.bool false)).put 0 rfl (j:=7) (by simp) (.int .i64 C)).put 0 rfl (j:=8) (by simp) (.int .i64 0)).put 0 rfl (j:=9) (by simp) (.int .u64 X)).put 0 rfl (j:=10) (by simp) (.int .i64 0)).put 0 rfl (j:=11) (by simp) (.bool false);go_wp2_with fail;have q:=hP.rule 0 rfl;exact bodyPost_ret (v:=.agg #[.int .i64 x,.int .i64 y,.int .i64 z,.int .i64 0,.int .u64 W,.int .i64 0,.bool false,.int .i64 C,.int .i64 0,.int .u64 X,.int .i64 0,.bool false]) (by simp [results,results246,go_sem,q]) rfl ⟨rfl,hP.below⟩
theorem newLink_k (i:Nat) (hi:L[i]?=some (boxI a (laneC c lv key vs nx st x y z W C X wd pf pv))) (hE:Env w0 L w) :
  Calls prog 212 #[.pointer (some ⟨c,0,none⟩),.pointer (some ⟨a,0,none⟩)] w fun o w'=>∃ l,o=.returned (.pointer (some ⟨l,0,none⟩))/\Env w0 (boxI l (lkC c x y z W C X (mvL 247 l) 0)::L) w':=by
 have hmf:=makeF;go_enter func212,ntmps212;go_wp2_with fail;refine (spotOf_l (hE.get i hi)).mono ?_;rintro o w1 ⟨rfl,hb1⟩;replace hE:=hE.over hb1;clear hb1;have hE2:=hE.box w1.heap.size rfl (lkC c x y z W C X .nilFunc 0) 309;have HGO:=zH (goOn_r (o:=13) 0 (.func 247) #[.pointer (some ⟨w1.heap.size,0,none⟩)] #[] (by simp [lkC]) hE2 rfl);clear hE2 hE hi;go_wp2_with fail;refine HGO.out.mono ?_;rintro o w2 ⟨rfl,hE3⟩;go_wp2_with fail;go_ret;exact ⟨_,rfl,hE3⟩
theorem newUnlink_k (k ky to:Int) (i:Nat) (hi:L[i]?=some (boxI a (laneC c lv key vs nx st x y z W C X wd pf pv))) (hE:Env w0 L w) :
  Calls prog 223 #[.pointer (some ⟨c,0,none⟩),.pointer (some ⟨a,0,none⟩),.int .i64 k,.int .u64 ky,.agg #[.int .i64 to,.int .i64 0]] w fun o w'=>∃ l,o=.returned (.pointer (some ⟨l,0,none⟩))/\Env w0 (boxI l (ukC c x y z W C X k ky to (mvL 260 l) 0)::L) w':=by
 have hmf:=makeF;have hE1:=hE.box w.heap.size rfl [.int .i64 to,.int .i64 0] 136;have hi1:(boxI w.heap.size [.int .i64 to,.int .i64 0]::L)[i+1]?=some (boxI a (laneC c lv key vs nx st x y z W C X wd pf pv)):=hi;clear hE;go_enter func223,ntmps223;go_wp2_with fail;generalize w.alloc _=w2 at *;generalize w.heap.size=Y at *;refine Ord3.wp_chain [?_,?_,?_,?_,?_,?_,?_,?_,?_] [7,8] (fun w'=>Blk 0 w' a (laneC c lv key vs nx st x y z W C X wd pf pv)/\Blk 0 w' Y [.int .i64 to,.int .i64 0]) (Ord3.Stage fun κs=>[Env w0 (boxI Y [.int .i64 to,.int .i64 0]::L),fun w'=>∃ q,κs.getD 0 undef=.pointer (some ⟨q,0,none⟩)/\Env w0 (boxI q (ukC c x y z W C X k ky to .nilFunc 0)::boxI Y [.int .i64 to,.int .i64 0]::L) w',fun w'=>∃ q,κs.getD 1 undef=.pointer (some ⟨q,0,none⟩)/\Env w0 (boxI q (ukC c x y z W C X k ky to .nilFunc 0)::boxI Y [.int .i64 to,.int .i64 0]::L) w']) (by kernel_rfl) (by kernel_rfl) (by kernel_rfl) ⟨hE1.drew.get (i+1) hi1,hE1.drew.get 0 rfl⟩ ⟨_,rfl,hE1.drew⟩ (fun hT=>?_);rotate_left 9;have hT9:=zH hT;clear hT
 repeat ((first
  | (focus (refine Ord3.in_value (v:=?_) hT9.o (by decide) ?_ (by rfl) ?_ ?_; rotate_left 2; (intro w5 hS; have r1:=Blk.rule hS.2; go_simp<;>rfl); rotate_right; (focus rfl)))
  | (focus (refine Ord3.in_off hT9.o (by decide) ?_ (by rfl) ?_; (focus rfl)))
  | (focus (refine Ord3.in_call (v:=?_) (f:=?_) (args:=?_) hT9.o (by decide) ?_ (by rfl) ?_ ?_ ?_; rotate_left 4; (intro w5 hS; have r1:=Blk.rule hS.2; go_simp; constructor<;>rfl); (intro w5 hS; (first | (with_reducible refine kp (spotOf_l hS.1) ?_ ?_; rfl; exact fun w6 hb6=>⟨⟨hS.1.under hb6,hS.2.under hb6⟩,fun us h=>Ord3.Stage.three h (fun h=>h.over hb6) (fun h=>h.elim fun q h=>⟨q,h.1,h.2.over hb6⟩) (fun h=>h.elim fun q h=>⟨q,h.1,h.2.over hb6⟩)⟩))); rotate_right; (focus rfl))));try simp only [Act.put,zA,zZ,zS])
 refine Ord3.in_turn (fun u=>∃ q,u=.pointer (some ⟨q,0,none⟩)) _ ⟨0,rfl⟩ hT9.o rfl (by decide) (by rfl) ?_ (Or.inl rfl) (by rfl) ?_ ?_
 ·rfl
 ·rintro w7 hC7 ⟨P7,hP7,hA7⟩;cases hP7;go_simp;simp only [Ord3.Lands];have hE8:=hA7.box w7.heap.size rfl (ukC c x y z W C X k ky to .nilFunc 0) 319;exact ⟨⟨_,rfl⟩,⟨hE8.get (i+2) hi,hE8.get 1 rfl⟩,_,rfl,w7.heap.size,rfl,hE8⟩
 rintro _ ⟨q9,rfl⟩
 try simp only [Act.put,zA,zZ,zS]
 refine Ord3.in_turn (fun u=>∃ q,u=.pointer (some ⟨q,0,none⟩)) _ ⟨0,rfl⟩ hT9.o rfl (by decide) (by rfl) ?_ (Or.inr ⟨_,7,[],rfl,by kernel_rfl,by kernel_rfl,rfl⟩) (by rfl) ?_ ?_
 ·rfl
 ·rintro w7 hC7 ⟨P7,hP7,hA7⟩;cases hP7;obtain ⟨q8,he,hA7⟩:=hA7;cases he;go_simp;simp only [Ord3.Lands];exact ⟨⟨_,rfl⟩,hC7,_,rfl,q9,rfl,hA7⟩
 rintro _ ⟨q9,rfl⟩
 try simp only [Act.put,zA,zZ,zS]
 refine Ord3.in_nil rfl ?_;rintro w9 hC9 ⟨P9,hP9,hA9⟩;cases hP9;obtain ⟨q8,he,hA9⟩:=hA9;cases he;clear hT9 hC9 hE1;have HGO:=zH (goOn_r (o:=17) 0 (.func 260) #[.pointer (some ⟨q9,0,none⟩)] #[] (by simp [ukC]) hA9 rfl);clear hA9;go_wp2_with fail;refine HGO.out.mono ?_;rintro o w8 ⟨rfl,hE3⟩;go_wp2_with fail;go_ret;exact ⟨_,rfl,hE3.sub (.cons_cons _ (.cons _ (List.Sublist.refl _)))⟩
end
section
variable {w0 w:World} {L:List Item} {c q kq:Nat} {F:Nat->Prop} {ql:List Trip} {k s b h l e r hs hi:Int}
theorem takeNo_c (hh:hs=0) (hb:Blk 0 w c (crv k s b h l e r hs hi q)) :
  Calls prog 245 #[.pointer (some ⟨c,0,none⟩)] w fun o w'=>o=.returned (.tuple #[.agg #[.int .i64 hs,.int .i64 hi],.bool false])/\Below w.heap.size w w':=by
 have hF:=(Fr.start w).push w.heap.size rfl [.int .i64 0,.int .i64 0] 136;have hb1:=hb.under hF.below;have hn:(hs != 0)=false:=by simpa using hh
 clear hb hh;go_enter func245,ntmps245;go_wp2_with fail;refine (held_c hb1).mono ?_;rintro o w1 ⟨rfl,hb⟩;rw [hn];replace hF:=hF.over hb;clear hb hb1;replace hF:=hF.push w1.heap.size rfl [.int .i64 hs,.int .i64 hi] 136;have hlt:=hF.lt 1 rfl;have hX:=hF.blk 1 rfl (by omega);have hZ:=hF.blk 0 rfl (by have:=hF.below.size; have:=hF.lt 1 rfl; simp at this; omega);have hE:=hF.below;clear hF
 go_upto_region 2 with fail
 generalize w1.alloc _=w2 at *;generalize w1.heap.size=Y at *;have r0:=hX.rule;have r1:=hZ.rule;have f0:=hX.thaw 0 (by simp);have f1:=hX.thaw 1 (by simp);go_wp2_with fail;have q:=((hX.set (i:=0) (by simp) (.int .i64 hs)).set (i:=1) (by simp) (.int .i64 hi)).rule;exact bodyPost_ret (v:=.tuple #[.agg #[.int .i64 hs,.int .i64 hi],.bool false]) (by simp [results,results245,go_sem,q]) rfl ⟨rfl,below_set (below_set hE (by omega) (Nat.le_refl _) _) (by simp; omega) (Nat.le_refl _) _⟩
theorem takeYes_c (hh:hs≠0) (m:Nat) (hE:Env w0 L w) (hm:L[m]?=some (coreI c k s b h l e r hs hi q)) :
  Calls prog 245 #[.pointer (some ⟨c,0,none⟩)] w fun o w'=>o=.returned (.tuple #[.agg #[.int .i64 hs,.int .i64 hi],.bool true])/\Env w0 (L.set m (coreI c k s b h l e r 0 0 q)) w':=by
 have hn:(hs != 0)=true:=by simpa using hh
 have hml:m < L.length:=(List.getElem?_eq_some_iff.1 hm).1;have hE1:=hE.box w.heap.size rfl [.int .i64 0,.int .i64 0] 136;have hm1:(boxI w.heap.size [.int .i64 0,.int .i64 0]::L)[m+1]?=some (coreI c k s b h l e r hs hi q):=hm;clear hE hh;go_enter func245,ntmps245;go_wp2_with fail;refine (held_c (hE1.get (m+1) hm1)).mono ?_;rintro o w1 ⟨rfl,hb⟩;rw [hn];replace hE1:=(hE1.over hb).box w1.heap.size rfl [.int .i64 hs,.int .i64 hi] 136;clear hb;generalize w.heap.size=X at *
 go_upto_region 2 with fail
 generalize w1.alloc _=w2 at *;generalize w1.heap.size=Y at *;have hm2:(boxI Y [.int .i64 hs,.int .i64 hi]::boxI X [.int .i64 0,.int .i64 0]::L)[m+2]?=some (coreI c k s b h l e r hs hi q):=hm;have rc:=hE1.rule (m+2) hm2;unfold crv at rc;have ff:=hE1.thaw (m+2) hm2;have f7:=ff 7 (by simp [crv]);have f8:=ff 8 (by simp [crv]);clear ff
 go_upto_region 4 with fail
 have hE2:=hE1.put (m+2) hm2 (j:=7) (by simp [crv]) (.int .i64 0);have hE3:=hE2.put (m+2) (by rw [List.getElem?_set_self (by simpa using hml)]) (j:=8) (by simp [crv]) (.int .i64 0);rw [List.set_set] at hE3;generalize World.setCell (World.setCell w2 ⟨c,7,none⟩ _) ⟨c,8,none⟩ _=w3 at *;replace hE3:Env w0 (boxI Y [.int .i64 hs,.int .i64 hi]::boxI X [.int .i64 0,.int .i64 0]::L.set m (coreI c k s b h l e r 0 0 q)) w3:=hE3;have r0:=hE3.rule 0 rfl;have r1:=hE3.rule 1 rfl;have ff:=hE3.thaw 1 rfl;have f0:=ff 0 (by simp);have f1:=ff 1 (by simp);clear ff;clear rc f7 f8;go_wp2_with fail;have hE4:=(hE3.put 1 rfl (j:=0) (by simp) (.int .i64 hs)).put 1 rfl (j:=1) (by simp) (.int .i64 hi);have q:=hE4.rule 1 rfl;exact bodyPost_ret (v:=.tuple #[.agg #[.int .i64 hs,.int .i64 hi],.bool true]) (by simp [results,results245,go_sem,q]) rfl ⟨rfl,hE4.sub (.cons _ (.cons _ (List.Sublist.refl _)))⟩
theorem dropNo_c (hh:hs=0) (hb:Blk 0 w c (crv k s b h l e r hs hi q)) :
  Calls prog 207 #[.pointer (some ⟨c,0,none⟩)] w fun o w'=>o=.returned (.tuple #[])/\Below w.heap.size w w':=by
 go_enter func207,ntmps207;go_wp2_with fail;refine (takeNo_c hh hb).mono ?_;rintro o w1 ⟨rfl,hb1⟩;clear hh hb;go_wp2_with fail
 go_end0
 exact ⟨rfl,hb1.alloc hb1.size _⟩
theorem dropYes_c (hh:hs≠0) (m n:Nat) (hnm:n≠m) (hE:Env w0 L w) (hm:L[m]?=some (coreI c k s b h l e r hs hi q)) (hn:L[n]?=some (queueI q F ql kq)) (hl:ql.length+1<=1048576) :
  Calls prog 207 #[.pointer (some ⟨c,0,none⟩)] w fun o w'=>o=.returned (.tuple #[])/\∃ k' F',Rm kq (ql.length+1) k'/\Env w0 ((L.set m (coreI c k s b h l e r 0 0 q)).set n (queueI q F' (ql++[(hs,0,hi)]) k')) w':=by
 have hml:m < L.length:=(List.getElem?_eq_some_iff.1 hm).1;have hn1:=wset (b:=coreI c k s b h l e r 0 0 q) hnm.symm hn;have hm1:(L.set m (coreI c k s b h l e r 0 0 q))[m]?=some (coreI c k s b h l e r 0 0 q):=by rw [List.getElem?_set_self hml]
 have HT:=zH (takeYes_c hh m hE hm);clear hh hE hm hn;generalize L.set m (coreI c k s b h l e r 0 0 q)=M at *;go_enter func207,ntmps207;go_wp2_with fail;refine HT.out.mono ?_;rintro o w1 ⟨rfl,hE1⟩;clear HT;replace hE1:=hE1.box w1.heap.size rfl [.int .i64 hs,.int .i64 hi] 136;go_wp2_with fail;generalize w1.alloc _=w2 at *;generalize w1.heap.size=Y at *;have hn2:(boxI Y [.int .i64 hs,.int .i64 hi]::M)[n+1]?=some (queueI q F ql kq):=hn1;have hm2:(boxI Y [.int .i64 hs,.int .i64 hi]::M)[m+1]?=some (coreI c k s b h l e r 0 0 q):=hm1;refine Ord3.wp_chain [?_,?_,?_,?_,?_,?_,?_,?_,?_,?_,?_] [9,10] (fun w'=>Blk 0 w' c [.int .i64 k,.int .i64 s,.int .i64 b,.int .i64 h,.int .i64 l,.int .i64 e,.int .i64 r,.int .i64 0,.int .i64 0,.pointer (some ⟨q,0,none⟩)]/\Blk 0 w' Y [.int .i64 hs,.int .i64 hi]) (Ord3.Stage fun κs=>[Env w0 (boxI Y [.int .i64 hs,.int .i64 hi]::M),fun w'=>∃ z,κs.getD 0 undef=.slice (some ⟨z,0,none⟩) 1 1/\Env w0 (boxI z [.int .i64 hs,.int .i64 0,.int .i64 hi]::boxI Y [.int .i64 hs,.int .i64 hi]::M) w',fun w'=>∃ k',Rm kq (ql.length+1) k'/\∃ F' z,Env w0 (boxI z [.int .i64 hs,.int .i64 0,.int .i64 hi]::boxI Y [.int .i64 hs,.int .i64 hi]::M.set n (queueI q F' (ql++[(hs,0,hi)]) k')) w']) (by kernel_rfl) (by kernel_rfl) (by kernel_rfl) ⟨hE1.drew.get (m+1) hm2,hE1.drew.get 0 rfl⟩ ⟨_,rfl,hE1.drew⟩ (fun hT=>?_);rotate_left 11;have hT9:=zH hT;clear hT
 repeat ((first
  | (focus (refine Ord3.in_value (v:=?_) hT9.o (by decide) ?_ (by rfl) ?_ ?_; rotate_left 2; (intro w5 hS; have r1:=Blk.rule hS.1; have r2:=Blk.rule hS.2; go_simp<;>rfl); rotate_right; (focus rfl)))
  | (focus (refine Ord3.in_off hT9.o (by decide) ?_ (by rfl) ?_; (focus rfl))));try simp only [Act.put,zA,zZ,zS])
 refine Ord3.in_turn (fun u=>∃ z,u=.slice (some ⟨z,0,none⟩) 1 1) _ ⟨0,rfl⟩ hT9.o rfl (by decide) (by rfl) ?_ (Or.inl rfl) (by rfl) ?_ ?_
 ·rfl
 ·rintro w7 hC7 ⟨P7,hP7,hA7⟩;cases hP7;go_simp;simp only [Ord3.Lands];have hE8:=hA7.box w7.heap.size rfl [.int .i64 hs,.int .i64 0,.int .i64 hi] 158;exact ⟨⟨_,rfl⟩,⟨hE8.get (m+2) hm1,hE8.get 1 rfl⟩,_,rfl,w7.heap.size,rfl,hE8⟩
 rintro _ ⟨z9,rfl⟩
 try simp only [Act.put,zA,zZ,zS]
 refine Ord3.in_turn (fun u=>u=.int .i64 0) _ rfl hT9.o rfl (by decide) (by rfl) ?_ (Or.inr ⟨_,9,[],rfl,by kernel_rfl,by kernel_rfl,rfl⟩) (by rfl) ?_ ?_
 ·rfl
 ·rintro w7 hC7 ⟨P7,hP7,hA7⟩;cases hP7;obtain ⟨z8,he,hA7⟩:=hA7;cases he;go_simp;simp only [Ord3.Lands];have hA:Row3 w7 (some ⟨z9,0,none⟩) [(hs,0,hi)]:=Blk.row3 (l:=[(hs,0,hi)]) (hA7.get 0 rfl);refine (push_any (l:=ql) (xs:=[(hs,0,hi)]) (A:=some ⟨z9,0,none⟩) (cap:=1) (by simp; omega) hA (fun _ b hb hFb=>?_) (hA7.queue (n+2) hn1)).mono ?_
  ·obtain ⟨off,he⟩:=hb;cases he;exact (hA7.off (i:=0) (j:=n+2) rfl hn1 (by omega)) z9 rfl hFb
  rintro o w8 ⟨rfl,k8,F8,hrm,hQ8,hs8⟩;have hE8:=hA7.turnQ (n+2) hn1 hQ8 hs8;simp only [zS,zZ] at hE8;have hm8:=wset (b:=queueI q F8 (ql++[(hs,0,hi)]) k8) hnm hm1;exact ⟨_,rfl,rfl,⟨hE8.get (m+2) hm8,hE8.get 1 rfl⟩,_,rfl,k8,by simpa using hrm,F8,z9,hE8⟩
 rintro _ rfl
 try simp only [Act.put,zA,zZ,zS]
 refine Ord3.in_nil rfl ?_;rintro w9 hC9 ⟨P9,hP9,hA9⟩;cases hP9;obtain ⟨k8,hrm,F8,z8,hA9⟩:=hA9;clear hT9 hC9;go_wp2_with fail
 go_end0
 exact ⟨rfl,k8,F8,hrm,hA9.sub (.cons _ (.cons _ (List.Sublist.refl _)))⟩
end
theorem method_add (k p:Nat) (w:World):(method (k+1) 26 (.pointer (some ⟨p,0,none⟩)) "Add").run prog w=.ok (357,.pointer (some ⟨p,0,none⟩)) w:=by kernel_rfl
theorem ahead_add (k p:Nat) (w:World):(nilAhead (k+1) 26 (.pointer (some ⟨p,0,none⟩)) "Add").run prog w=.ok (some false) w:=by kernel_rfl
theorem ahead_store (k p:Nat) (w:World):(nilAhead (k+1) 26 (.pointer (some ⟨p,0,none⟩)) "Store").run prog w=.ok (some false) w:=by kernel_rfl
section
variable {w0 w:World} {R:List Item} {a:Nat} {S:ST} {M:MA}
theorem advance_a (he:0<=S.ce/\S.ce<=9223372036854775807) (hm:S.m < maxLen) (hE:Env w0 (boxI a (av S.c M)::LT S R) w) :
  Calls prog 298 #[.pointer (some ⟨a,0,none⟩),.iface 26 (.pointer (some ⟨S.p,0,none⟩))] w fun o w'=>o=.returned (.int .i64 2)/\∃ nx G',Env w0 (boxI a (av S.c { M with nx:=nx })::LT { S with G:=G',f:=swf S.f (1,0,0) S.ce (S.ce+1),qc:=swq S.qc (decide (S.f (1,0,0)=S.ce)),m:=S.m+1 } R) w':=by
 have hmf:=makeF;have hah:=ahead_swap;have hw1:IntKind.u64.wrap S.ce=S.ce:=wrapU _ (by omega) (by omega);have hw2:IntKind.u64.wrap (S.ce+1)=S.ce+1:=wrapU _ (by omega) (by omega);have HW2:=zH hw2;clear hw2;have hiv:InU (S.ce+1):=by unfold InU; omega
 have HIV:=zH hiv;clear hiv he;have r:=hE.rule 0 rfl;unfold av at r;go_enter func298,ntmps298;go_wp2_with (first | (refine (epoch_c (hE.get 1 rfl)).mono ?_; rintro o w1 ⟨rfl,rfl⟩));clear r;refine Ord.wc [11] (fun _=>True) (fun k w'=>∃ G',Env w0 (if k=0 then (boxI a (av S.c M)::LT S R) else (boxI a (av S.c M)::LT { S with G:=G',f:=swf S.f (1,0,0) S.ce (S.ce+1),qc:=swq S.qc (decide (S.f (1,0,0)=S.ce)),m:=S.m+1 } R)) w') trivial ⟨S.G,hE.drew⟩ fun hT9=>?_
 repeat ((first
  | (refine Ord.cv ?_ hT9.o ?_ ?_; rotate_left; (intro w5 hS; skip; go_simp<;>rfl))
  | (refine Ord.co hT9.o ?_)
  | (refine Ord.cc ?_ ?_ ?_ hT9.o ?_ ?_ ?_; rotate_left 3; (intro w5 hS; skip; go_simp; constructor<;>rfl); (intro w5 hS; (first | (with_reducible refine kp (epoch_any _) ?_ ?_; rfl; exact fun w6 hb6=>⟨trivial,fun k h=>h.elim fun G' h=>⟨G',h.over hb6⟩⟩) | (with_reducible refine kp (shared_any _ _ _ _) ?_ ?_; rfl; exact fun w6 hb6=>⟨trivial,fun k h=>h.elim fun G' h=>⟨G',h.over hb6⟩⟩)))));try simp only [Act.put,zA,zZ,zS])
 refine Ord.ch_turn (v:=.bool (decide (S.f (1,0,0)=S.ce))) 0 hT9.o rfl (by decide) (Or.inl rfl) (by rfl) ?_ ?_
 ·rintro w5 hC5 ⟨G5,hA5⟩;simp only [if_true] at hA5;go_simp;rw [method_swap];simp only [Result.andThen_ok];go_simp;simp only [Ord.LandsIn];rw [HW2.out];refine (swap_w 1 0 0 0 S.ce 0 (S.ce+1) 0 false false (by unfold Wf In64; simp) HIV.out hm 3 4 (by decide) hA5 rfl rfl).mono ?_;rintro e w6 ⟨rfl,G6,hE6⟩;exact ⟨rfl,G6,hE6⟩
 try simp only [Act.put,zA,zZ,zS]
 repeat ((first
  | (refine Ord.cv ?_ hT9.o ?_ ?_; rotate_left; (intro w5 hS; skip; go_simp<;>rfl))
  | (refine Ord.co hT9.o ?_));try simp only [Act.put,zA,zZ,zS])
 refine Ord.InText.nil fun w5 hS=>?_;clear hT9;obtain ⟨hC9,hA9⟩:=Ord.chain_end hS;clear hS;obtain ⟨G9,hA9⟩:=hA9;simp only [List.length_cons,List.length_nil,Nat.zero_add,Nat.one_ne_zero,if_false] at hA9;go_wp2_with fail;refine (end_m 0 2 (by simp [av]) hA9 rfl).mono ?_;rintro o w5 ⟨rfl,nx,hE5⟩;go_wp2_with fail;go_ret;exact ⟨rfl,nx,G9,hE5⟩
end
section
variable {w0 w:World} {R:List Item} {l:Nat} {S:ST} {nx:Value} {x y z W C X:Int}
theorem store_k (hh:S.hs≠0) (hhs:In64 S.hs) (hW:InU W) (hg:Glo w0) (hm:S.m < maxLen) (hE:Env w0 (boxI l (lkC S.c x y z W C X nx 0)::LT S R) w) :
  Calls prog 247 #[.pointer (some ⟨l,0,none⟩),.iface 26 (.pointer (some ⟨S.p,0,none⟩))] w fun o w'=>o=.returned (.int .i64 0)/\∃ G',Env w0 (boxI l (lkC S.c x y z W C X (mvL 277 l) 0)::LT { S with G:=G',f:=upd S.f (5,S.hs,7) (wordI false (slotI W) S.ce),qc:={ S.qc with s:=wrap64 (S.qc.s+1) },m:=S.m+1 } R) w':=by
 have hmf:=makeF;have hah:=ahead_store;have hb:(S.hs != 0)=true:=by simpa using hh
 have HWF:Hid (Wf (5,S.hs,7)):=zH (by unfold Wf; exact ⟨by show In64 5; unfold In64; omega,hhs,by show In64 7; unfold In64; omega⟩);have HLE:=zH fun (v:World) (hv:Below w0.heap.size w0 v)=>lead_c W 0 false v hW (hg.keep' hv);have hqi:InU (wordI false (slotI W) S.ce):=wordI_in _ _ _;have hto:=fun (v:World) (hv:Below w0.heap.size w0 v) (hb:Blk 0 v S.c (crv S.ck S.cs S.cb S.ch S.cl S.ce S.cr S.hs 0 S.q))=>to_c (slotI W) 0 (hg.keep' hv) hb;obtain ⟨s,hs⟩:∃ s,slotI W=s:=⟨_,rfl⟩;rw [hs] at hqi ⊢;simp only [hs] at HLE hto;clear hs;obtain ⟨q,hq⟩:∃ q,wordI false s S.ce=q:=⟨_,rfl⟩;rw [hq] at hqi ⊢;simp only [hq] at hto;have HQI:=zH hqi;have HTO:=zH hto;have r:=hE.rule 0 rfl;unfold lkC at r;clear hq hqi hto hhs hW hg hh;go_enter func247,ntmps247;go_wp2_with fail;refine (held_c (hE.get 1 rfl)).mono ?_;rintro o w1 ⟨rfl,hb1⟩;rw [hb];have hE2:=(hE.over hb1).box w1.heap.size rfl [.int .i64 S.hs,.int .i64 0] 136;clear hb1 hE r hb;go_wp2_with fail;generalize w1.alloc _=w2 at *;generalize w1.heap.size=Y at *;refine Ord.wc [17] (fun v=>Below w0.heap.size w0 v/\Blk 0 v l (lkC S.c x y z W C X nx 0)/\Blk 0 v S.c (crv S.ck S.cs S.cb S.ch S.cl S.ce S.cr S.hs 0 S.q)/\Blk 0 v Y [.int .i64 S.hs,.int .i64 0]) (fun k w'=>∃ G5,Env w0 (boxI Y [.int .i64 S.hs,.int .i64 0]::boxI l (lkC S.c x y z W C X nx 0)::LT (if k=0 then S else { S with G:=G5,f:=upd S.f (5,S.hs,7) q,qc:={ S.qc with s:=wrap64 (S.qc.s+1) },m:=S.m+1 }) R) w') ⟨hE2.drew.below,hE2.drew.get 1 rfl,hE2.drew.get 2 rfl,hE2.drew.get 0 rfl⟩ ⟨S.G,hE2.drew⟩ fun hT9=>?_
 repeat ((first
  | (refine Ord.cv ?_ hT9.o ?_ ?_; rotate_left; (intro w5 hS; have r:=hS.2.1.rule; have r1:=hS.2.2.2.rule; unfold lkC at r; go_simp<;>rfl))
  | (refine Ord.co hT9.o ?_)
  | (refine Ord.cc ?_ ?_ ?_ hT9.o ?_ ?_ ?_; rotate_left 3; (intro w5 hS; have r:=hS.2.1.rule; have r1:=hS.2.2.2.rule; unfold lkC at r; go_simp; constructor<;>rfl); (intro w5 hS; (first | (with_reducible refine kp (linkOf_any _ _ _) ?_ ?_; rfl; exact fun w6 hb6=>⟨⟨hS.1.trans (hb6.mono hS.1.size),hS.2.1.under hb6,hS.2.2.1.under hb6,hS.2.2.2.under hb6⟩,fun k h=>h.elim fun G5 h=>⟨G5,h.over hb6⟩⟩) | (with_reducible refine kp (HLE.out _ hS.1) ?_ ?_; rfl; exact fun w6 hb6=>⟨⟨hS.1.trans (hb6.mono hS.1.size),hS.2.1.under hb6,hS.2.2.1.under hb6,hS.2.2.2.under hb6⟩,fun k h=>h.elim fun G5 h=>⟨G5,h.over hb6⟩⟩) | (with_reducible refine kp (HTO.out _ hS.1 hS.2.2.1) ?_ ?_; rfl; exact fun w6 hb6=>⟨⟨hS.1.trans (hb6.mono hS.1.size),hS.2.1.under hb6,hS.2.2.1.under hb6,hS.2.2.2.under hb6⟩,fun k h=>h.elim fun G5 h=>⟨G5,h.over hb6⟩⟩)))));try simp only [Act.put,zA,zZ,zS])
 refine Ord.ch_turn (v:=.tuple #[]) 0 hT9.o rfl (by decide) (Or.inl rfl) (by rfl) ?_ ?_
 ·rintro w5 hC5 ⟨G5,hA5⟩;simp only [if_true] at hA5;go_simp;rw [method_store];simp only [Result.andThen_ok];go_simp;simp only [Ord.LandsIn];refine (store_w 5 S.hs 7 0 q 0 false HWF.out HQI.out hm 4 5 (by decide) hA5 rfl rfl).mono ?_;rintro e w6 ⟨rfl,G6,hE6⟩;exact ⟨rfl,⟨hE6.below,hE6.get 1 rfl,hE6.get 2 rfl,hE6.get 0 rfl⟩,G6,hE6⟩
 try simp only [Act.put,zA,zZ,zS]
 repeat ((first
  | (refine Ord.cv ?_ hT9.o ?_ ?_; rotate_left; (intro w5 hS; skip; go_simp<;>rfl))
  | (refine Ord.co hT9.o ?_));try simp only [Act.put,zA,zZ,zS])
 refine Ord.InText.nil fun w5 hS=>?_;clear hT9;obtain ⟨hC9,hA9⟩:=Ord.chain_end hS;clear hS;obtain ⟨G9,hA9⟩:=hA9;simp only [List.length_cons,List.length_nil,Nat.zero_add,Nat.one_ne_zero,if_false] at hA9;clear hC9 hE2 HTO HLE;go_wp2_with fail;refine (goOn_r (o:=13) 1 _ _ _ (by simp [lkC]) hA9 rfl).mono ?_;rintro o w5 ⟨rfl,hE5⟩;go_wp2_with fail;go_ret;exact ⟨rfl,G9,hE5.sub (.cons _ (List.Sublist.refl _))⟩
theorem put_k (hh:S.hs≠0) (hwf:Wf (x,y,z)) (hg:Glo w0) (hm:S.m < maxLen) (hE:Env w0 (boxI l (lkC S.c x y z W C X nx 0)::LT S R) w) :
  Calls prog 277 #[.pointer (some ⟨l,0,none⟩),.iface 26 (.pointer (some ⟨S.p,0,none⟩))] w fun o w'=>o=.returned (.int .i64 (if S.f (x,y,z)=W then 1 else 2))/\∃ G',Env w0 (LT { S with G:=G',f:=swf S.f (x,y,z) W (wordI false S.hs S.ce),qc:=swq S.qc (decide (S.f (x,y,z)=W)),m:=S.m+1,hs:=if S.f (x,y,z)=W then 0 else S.hs } R) w':=by
 have hmf:=makeF;have hah:=ahead_swap;have hb:(S.hs != 0)=true:=by simpa using hh
 have HWF:=zH hwf;have hqi:InU (wordI false S.hs S.ce):=wordI_in _ _ _;have hto:=fun (v:World) (hv:Below w0.heap.size w0 v) (hb:Blk 0 v S.c (crv S.ck S.cs S.cb S.ch S.cl S.ce S.cr S.hs 0 S.q))=>to_c S.hs 0 (hg.keep' hv) hb;obtain ⟨q,hq⟩:∃ q,wordI false S.hs S.ce=q:=⟨_,rfl⟩;rw [hq] at hqi ⊢;simp only [hq] at hto;have HQI:=zH hqi;have HTO:=zH hto;have HH:=zH hh;have r:=hE.rule 0 rfl;unfold lkC at r;clear hq hqi hto hwf hg hh;obtain ⟨dd,hdd⟩:∃ dd,decide (S.f (x,y,z)=W)=dd:=⟨_,rfl⟩;have hds:(if S.f (x,y,z)=W then (1:Int) else 2)=if dd then 1 else 2:=by rw [<- hdd]; by_cases h:S.f (x,y,z)=W<;>simp [h]
 have hdh:(if S.f (x,y,z)=W then (0:Int) else S.hs)=if dd then 0 else S.hs:=by rw [<- hdd]; by_cases h:S.f (x,y,z)=W<;>simp [h]
 rw [hds,hdd];simp only [hdh];clear hds hdh;have HDD:=zH hdd;clear hdd;go_enter func277,ntmps277;go_wp2_with fail;refine (held_c (hE.get 1 rfl)).mono ?_;rintro o w1 ⟨rfl,hb1⟩;rw [hb];have hE2:=(hE.over hb1).box w1.heap.size rfl [.int .i64 S.hs,.int .i64 0] 136;clear hb1 hE r hb;go_wp2_with fail;generalize w1.alloc _=w2 at *;generalize w1.heap.size=Y at *;refine Ord.wc [20] (fun v=>Below w0.heap.size w0 v/\Blk 0 v l (lkC S.c x y z W C X nx 0)/\Blk 0 v S.c (crv S.ck S.cs S.cb S.ch S.cl S.ce S.cr S.hs 0 S.q)/\Blk 0 v Y [.int .i64 S.hs,.int .i64 0]) (fun k w'=>∃ G5,Env w0 (boxI Y [.int .i64 S.hs,.int .i64 0]::boxI l (lkC S.c x y z W C X nx 0)::LT (if k=0 then S else { S with G:=G5,f:=swf S.f (x,y,z) W q,qc:=swq S.qc dd,m:=S.m+1 }) R) w') ⟨hE2.drew.below,hE2.drew.get 1 rfl,hE2.drew.get 2 rfl,hE2.drew.get 0 rfl⟩ ⟨S.G,hE2.drew⟩ fun hT9=>?_
 repeat ((first
  | (refine Ord.cv ?_ hT9.o ?_ ?_; rotate_left; (intro w5 hS; have r:=hS.2.1.rule; have r1:=hS.2.2.2.rule; unfold lkC at r; go_simp<;>rfl))
  | (refine Ord.co hT9.o ?_)
  | (refine Ord.cc ?_ ?_ ?_ hT9.o ?_ ?_ ?_; rotate_left 3; (intro w5 hS; have r:=hS.2.1.rule; have r1:=hS.2.2.2.rule; unfold lkC at r; go_simp; constructor<;>rfl); (intro w5 hS; (first | (with_reducible refine kp (HTO.out _ hS.1 hS.2.2.1) ?_ ?_; rfl; exact fun w6 hb6=>⟨⟨hS.1.trans (hb6.mono hS.1.size),hS.2.1.under hb6,hS.2.2.1.under hb6,hS.2.2.2.under hb6⟩,fun k h=>h.elim fun G5 h=>⟨G5,h.over hb6⟩⟩)))));try simp only [Act.put,zA,zZ,zS])
 refine Ord.ch_turn (v:=.bool dd) 0 hT9.o rfl (by decide) (Or.inl rfl) (by rfl) ?_ ?_
 ·rintro w5 hC5 ⟨G5,hA5⟩;simp only [if_true] at hA5;go_simp;rw [method_swap];simp only [Result.andThen_ok];go_simp;simp only [Ord.LandsIn];have hsw:=swap_w x y z 0 W 0 q 0 false false HWF.out HQI.out hm 4 5 (by decide) hA5 rfl rfl;rw [HDD.out] at hsw;refine hsw.mono ?_;rintro e w6 ⟨rfl,G6,hE6⟩;exact ⟨rfl,⟨hE6.below,hE6.get 1 rfl,hE6.get 2 rfl,hE6.get 0 rfl⟩,G6,hE6⟩
 try simp only [Act.put,zA,zZ,zS]
 repeat ((first
  | (refine Ord.cv ?_ hT9.o ?_ ?_; rotate_left; (intro w5 hS; skip; go_simp<;>rfl))
  | (refine Ord.co hT9.o ?_));try simp only [Act.put,zA,zZ,zS])
 refine Ord.InText.nil fun w5 hS=>?_;clear hT9;obtain ⟨hC9,hA9⟩:=Ord.chain_end hS;clear hS;obtain ⟨G9,hA9⟩:=hA9;simp only [List.length_cons,List.length_nil,Nat.zero_add,Nat.one_ne_zero,if_false] at hA9;replace hA9:=hA9.sub (.cons _ (List.Sublist.refl _));clear hC9 hE2 HTO HDD;have r:=hA9.rule 0 rfl;unfold lkC at r;cases dd
 ·go_wp2_with fail;refine (end_r (o:=13) 0 2 (by simp [lkC]) hA9 rfl).mono ?_;rintro o w5 ⟨rfl,hE5⟩;go_wp2_with fail;go_ret;exact ⟨rfl,G9,hE5.sub (.cons _ (List.Sublist.refl _))⟩
 ·go_wp2_with fail;refine (takeYes_c HH.out 1 hA9 rfl).mono ?_;rintro o w4 ⟨rfl,hE4⟩;simp only [zZ,zS] at hE4;clear hA9 r;have r:=hE4.rule 0 rfl;unfold lkC at r;go_wp2_with fail;refine (end_r (o:=13) 0 1 (by simp [lkC]) hE4 rfl).mono ?_;rintro o w5 ⟨rfl,hE5⟩;go_wp2_with fail;go_ret;exact ⟨rfl,G9,hE5.sub (.cons _ (List.Sublist.refl _))⟩
end
end
end Go.Proofs.YtdknbegcflldjaaGreatDoor
