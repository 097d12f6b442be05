/- SkipExact: of up to 4 threads' rows of ops, and every row of picks, each step's access and state, each answer, the memory and all threads' own slots are the document's: so the law answers true, for every input, where package link's three variables hold what the program's text lays in them (tied). -/
import Derived.Test.YtleklonmmlfijaaGreatDoorQ19
import Derived.Test.YtleklonmmlfijaaGreatDoorCards
import Derived.SevenTiedAt

open _root_.Go.Proofs.Tryz
set_option maxRecDepth 100000
set_option maxHeartbeats 25600000
namespace Go.Proofs.YtleklonmmlfijaaGreatDoor.skipExact
section
open Go.ChangeShapes Go.WideShapes Go.ChangeAt Go.RowKit Go.Joins Go.Maps
theorem cellsInt:prog.cellsOf 3=1:=by kernel_rfl
theorem own:ownKnob prog.godebug=none:=by kernel_rfl
theorem laidOut:laidOutB prog=true:=by kernel_rfl
set_option maxRecDepth 100000 in
theorem lifted (os:Os) (started:os.Started) (H:Type) (enc:TypeId × Value->H) :
  ReturnsInHanded {} Tryz.checked os 3 .any (fun w args=>(Rows.skipExactSpec.pre enc prog Tryz.f3 [] false w args/\laidMetH prog wi w)/\sizedMet enc prog Tryz.f3 (OpenSpec.ofChange Rows.skipExactSpec) false w args)
   (Rows.skipExactSpec.post enc prog Tryz.f3 false true false false):=by
 refine returnsInHanded_of_change_and (C:=Tryz.checked) (X:=fun w _=>laidMetH prog wi w) (fun _ _ _ hh h=>h.of_heap hh) own started (by kernel_rfl) func3
  (ChangeSpec.witness_shaped (enc:=enc) (C:=Tryz.checked) (os:=os) (X:=fun w _=>laidMetH prog wi w) false (World.doorLaid prog 24 os) #[.agg #[zI 0,zI 0,zI 0,zI 0,zI 0],.slice none 0 0,.slice none 0 0] 8 rfl (World.shaped_of_RefB (by kernel_rfl) (by kernel_rfl)) (by kernel_rfl) (by kernel_rfl) (by kernel_rfl) (Sc os _)) ?_
 intro W base args ds gs before GY hW _ _ hL _;have yE:∀ (j:Nat) t v,Tryz.f3.params[j]?=some t->args[j]?=some v->Value.okWide prog W .any base t v:=GY;have Cz:=hW;obtain⟨p,q,iz,hV,rfl,T6,ef⟩:=hW;have hA:DataW.TrodAll enc prog W 0 (fun _=>true) true Tryz.f3.params.toList args.toList ds p:=iz;rw[Tryz.params3] at hA yE;obtain⟨v0,T7,d0,ds0,p0,q0,T8,rfl,rfl,g0,r0⟩:=trodAll_cons hA;obtain⟨v1,fy,d1,T9,p1,q1,rfl,rfl,rfl,g1,r1⟩:=trodAll_cons r0;obtain⟨v2,Ua,d2,Ub,p2,q2,rfl,rfl,rfl,g2,r2⟩:=trodAll_cons r1;obtain⟨rfl,rfl,rfl⟩:=trodAll_nil r2;obtain rfl:args=#[v0,v1,v2]:=by cases args;simp_all
 obtain⟨rfl,rfl⟩:=trodVars_none hV;obtain⟨Ud,rfl,z0,H0⟩:=Hl (ss:=[.num .i64,.num .i64,.num .i64,.num .i64,.num .i64]) Tryz.underlying23 (by kernel_rfl) (by kernel_rfl) ⟨Tryz.underlying3,Tryz.underlying3,Tryz.underlying3,Tryz.underlying3,Tryz.underlying3,trivial⟩ (yE 0 23 v0 rfl rfl) g0;obtain⟨l0,rfl,z0⟩:=Hp z0;obtain⟨Sp,Sq,Sr,Ss,Sv,rfl⟩:=Hq z0;obtain⟨_,e,GZ,rfl,Sw⟩:=H0 0 _ rfl;obtain rfl:Sp=zI GZ:=by simpa using e
 clear e;have Ue:=i64_in Sw;obtain⟨_,e,G0,rfl,Sx⟩:=H0 1 _ rfl;obtain rfl:Sq=zI G0:=by simpa using e
 clear e;have Uf:=i64_in Sx;obtain⟨_,e,G2,rfl,Sy⟩:=H0 2 _ rfl;obtain rfl:Sr=zI G2:=by simpa using e
 clear e;have Ug:=i64_in Sy;obtain⟨_,e,G3,rfl,Sz⟩:=H0 3 _ rfl;obtain rfl:Ss=zI G3:=by simpa using e
 clear e;have Uh:=i64_in Sz;obtain⟨_,e,G4,rfl,SA⟩:=H0 4 _ rfl;obtain rfl:Sv=zI G4:=by simpa using e
 clear e;have Ui:=i64_in SA;clear H0;obtain⟨A1,n1,GH,rfl⟩:=okWide_slice Tryz.underlying24 (yE 1 24 v1 rfl rfl);obtain⟨SB,rfl,h1,w1,SC⟩:=Rb g1 (fun x hx=>Cz.lt x (by simp[hx]));unfold maxLen at h1;obtain⟨A2,n2,wh,rfl⟩:=okWide_slice Tryz.underlying25 (yE 2 25 v2 rfl rfl);obtain⟨SD,rfl,h2,w2,SE⟩:=Sd Tryz.underlying25 Tryz.underlying3 cellsInt g2 (fun x hx=>Cz.lt x (by simp[hx]));unfold maxLen at h2;clear iz GY;have hG:=Sb hL;refine (walk GZ G0 G2 G3 G4 SB A1 GH h1 SD A2 wh h2 W w1 SC SE hG).mono fun e W' ⟨he,hg⟩=>?_;subst he;exact⟨_,rfl,IJ laidOut (by kernel_rfl) (by kernel_rfl) Tryz.underlying4 rfl rfl Cz hg⟩
theorem closedR:joinedFacts Tryz.pinned.checked.prog 3 Tryz.f3 Rows.skipExactSpec Rows.skipExactRow=true:=by
 unfold joinedFacts;simp only[Bool.and_eq_true]
 repeat' (refine And.intro ?_ ?_)
 all_goals (as_aux_lemma=>kernel_rfl)
theorem over:Rows.skipExactRow.holds Tryz.pinned (OpenSpec.ofChange Rows.skipExactSpec) :=
 OpenClaim.holds_of_wide 3 Tryz.f3 rfl rfl rfl rfl rfl rfl rfl ⟨rfl,rfl,rfl,rfl,rfl⟩ rfl rfl rfl rfl rfl (by kernel_rfl) func3 closedR
  (of_decide_eq_true (by kernel_rfl)) (by unfold Func.isWrapper;first | (rw[if_pos (by decide +kernel)];kernel_rfl) | (rw[if_neg (by decide +kernel)];exact⟨rfl,rfl⟩))
  (fun os started H enc _=>lifted os started H enc)
theorem proved:Rows.SkipExactCardSaid :=
 Claim7.holds_tied_plain_at .later [] [.wider,.wider,.wider] true _ true
  over (fun _ h=>by cases h) (by as_aux_lemma=>kernel_rfl) (fun _ h=>by cases h) skipExact_row_tie rfl ⟨rfl,rfl⟩ (by as_aux_lemma=>kernel_rfl) rfl
  (fun f fn hf nS=>by
    obtain rfl:f=3:=Option.some.inj ((show prog.funcNamed "revenant/revenantlaw19.SkipExact"=some 3 by as_aux_lemma=>kernel_rfl).symm.trans hf) |>.symm;obtain rfl:fn=Tryz.f3:=(Option.some.inj (func3.symm.trans nS)).symm;exact⟨(by as_aux_lemma=>kernel_rfl),fun j t ht=>by
     rw[Tryz.params3] at ht;have hm:t∈[23,24,25]:=by simpa using Array.mem_of_getElem? ht
     have eE:([23,24,25].all fun u=>!prog.wantsStandIn u)=true:=by as_aux_lemma=>kernel_rfl
     exact (show prog.wantsStandIn t=false by simpa using List.all_eq_true.1 eE t hm)⟩)
  (by as_aux_lemma=>kernel_rfl)
#print axioms proved
end
end Go.Proofs.YtleklonmmlfijaaGreatDoor.skipExact
