/- TableExact: of up to 4 threads' rows of ops, and every row of picks, each step's access and state, each answer, the memory and all threads' own slots are the document's: so the law answers true, for every input, where package link's three variables hold what the program's text lays in them (tied). -/
import Derived.Test.YtdknbegcflldjaaGreatDoorM17
import Derived.Test.YtdknbegcflldjaaGreatDoorCards
import Derived.SevenTiedAt

open _root_.Go.Proofs.Tryz
set_option maxRecDepth 100000
set_option maxHeartbeats 25600000
namespace Go.Proofs.YtdknbegcflldjaaGreatDoor.tableExact
section
open Go.ChangeShapes Go.WideShapes Go.ChangeAt Go.RowKit Go.Joins Go.Maps
theorem cellsInt:prog.cellsOf 3=1:=by kernel_rfl
theorem own:ownKnob prog.godebug=none:=by kernel_rfl
theorem laidOut:laidOutB prog=true:=by kernel_rfl
set_option maxRecDepth 100000 in
theorem lifted (os:Os) (started:os.Started) (H:Type) (enc:TypeId × Value->H) :
  ReturnsInHanded {} Tryz.checked os 5 .any (fun w args=>(Rows.tableExactSpec.pre enc prog Tryz.f5 [] false w args/\laidMetH prog laid3 w)/\sizedMet enc prog Tryz.f5 (OpenSpec.ofChange Rows.tableExactSpec) false w args)
   (Rows.tableExactSpec.post enc prog Tryz.f5 false true false false):=by
 refine returnsInHanded_of_change_and (C:=Tryz.checked) (X:=fun w _=>laidMetH prog laid3 w) (fun _ _ _ hh h=>h.of_heap hh) own started (by kernel_rfl) func5
  (ChangeSpec.witness_shaped (enc:=enc) (C:=Tryz.checked) (os:=os) (X:=fun w _=>laidMetH prog laid3 w) false (World.doorLaid prog 24 os) #[.agg #[.int .i64 0,.int .i64 0,.int .i64 0,.int .i64 0,.int .i64 0],.slice none 0 0,.slice none 0 0] 8 rfl (World.shaped_of_RefB (by kernel_rfl) (by kernel_rfl)) (by kernel_rfl) (by kernel_rfl) (by kernel_rfl) (door_met os _)) ?_
 intro W base args ds gs before hval0 hW _ _ hL _;have hval:∀ (j:Nat) t v,Tryz.f5.params[j]?=some t->args[j]?=some v->Value.okWide prog W .any base t v:=hval0;have hW':=hW;obtain ⟨p,q,hA0,hV,rfl,hfz,hnd⟩:=hW;have hA:DataW.TrodAll enc prog W 0 (fun _=>true) true Tryz.f5.params.toList args.toList ds p:=hA0;rw [Tryz.params5] at hA hval;obtain ⟨v0,vs0,d0,ds0,p0,q0,hargs,rfl,rfl,g0,r0⟩:=trodAll_cons hA;obtain ⟨v1,vs1,d1,ds1,p1,q1,rfl,rfl,rfl,g1,r1⟩:=trodAll_cons r0;obtain ⟨v2,vs2,d2,ds2,p2,q2,rfl,rfl,rfl,g2,r2⟩:=trodAll_cons r1;obtain ⟨rfl,rfl,rfl⟩:=trodAll_nil r2;obtain rfl:args=#[v0,v1,v2]:=by cases args; simp_all
 obtain ⟨rfl,rfl⟩:=trodVars_none hV;obtain ⟨cs0,rfl,z0,H0⟩:=open_flat (ss:=[.num .i64,.num .i64,.num .i64,.num .i64,.num .i64]) Tryz.underlying58 (by kernel_rfl) (by kernel_rfl) ⟨Tryz.underlying3,Tryz.underlying3,Tryz.underlying3,Tryz.underlying3,Tryz.underlying3,trivial⟩ (hval 0 58 v0 rfl rfl) g0;obtain ⟨l0,rfl,z0⟩:=list_of z0;obtain ⟨x0_0,x0_1,x0_2,x0_3,x0_4,rfl⟩:=list5 z0;obtain ⟨_,e,a0_0,rfl,w0_0⟩:=H0 0 _ rfl;obtain rfl:x0_0=.int .i64 a0_0:=by simpa using e
 clear e;have h0_0:=i64_in w0_0;obtain ⟨_,e,a0_1,rfl,w0_1⟩:=H0 1 _ rfl;obtain rfl:x0_1=.int .i64 a0_1:=by simpa using e
 clear e;have h0_1:=i64_in w0_1;obtain ⟨_,e,a0_2,rfl,w0_2⟩:=H0 2 _ rfl;obtain rfl:x0_2=.int .i64 a0_2:=by simpa using e
 clear e;have h0_2:=i64_in w0_2;obtain ⟨_,e,a0_3,rfl,w0_3⟩:=H0 3 _ rfl;obtain rfl:x0_3=.int .i64 a0_3:=by simpa using e
 clear e;have h0_3:=i64_in w0_3;obtain ⟨_,e,a0_4,rfl,w0_4⟩:=H0 4 _ rfl;obtain rfl:x0_4=.int .i64 a0_4:=by simpa using e
 clear e;have h0_4:=i64_in w0_4;clear H0;obtain ⟨A1,n1,cap1,rfl⟩:=okWide_slice Tryz.underlying22 (hval 1 22 v1 rfl rfl);obtain ⟨zs1,rfl,h1,w1,row1⟩:=open_Rws g1 (fun x hx=>hW'.lt x (by simp [hx]));unfold maxLen at h1;obtain ⟨A2,n2,cap2,rfl⟩:=okWide_slice Tryz.underlying23 (hval 2 23 v2 rfl rfl);obtain ⟨zs2,rfl,h2,w2,row2⟩:=open_num_row Tryz.underlying23 Tryz.underlying3 cellsInt g2 (fun x hx=>hW'.lt x (by simp [hx]));unfold maxLen at h2;clear hA0 hval0;have hG:=glo_of_laid hL;refine (walk a0_0 a0_1 a0_2 a0_3 a0_4 zs1 A1 cap1 h1 zs2 A2 cap2 h2 W w1 row1 row2 hG).mono fun e W' ⟨he,hg⟩=>?_;subst he;exact ⟨_,rfl,law_post laidOut (by kernel_rfl) (by kernel_rfl) Tryz.underlying4 rfl rfl hW' hg⟩
theorem closedR:joinedFacts Tryz.pinned.checked.prog 5 Tryz.f5 Rows.tableExactSpec Rows.tableExactRow=true:=by
 unfold joinedFacts;simp only [Bool.and_eq_true]
 repeat' (refine And.intro ?_ ?_)
 all_goals (as_aux_lemma=>kernel_rfl)
theorem over:Rows.tableExactRow.holds Tryz.pinned (OpenSpec.ofChange Rows.tableExactSpec) :=
 OpenClaim.holds_of_wide 5 Tryz.f5 rfl rfl rfl rfl rfl rfl rfl ⟨rfl,rfl,rfl,rfl,rfl⟩ rfl rfl rfl rfl rfl (by kernel_rfl) func5 closedR
  (of_decide_eq_true (by kernel_rfl)) (by unfold Func.isWrapper; first | (rw [if_pos (by decide +kernel)]; kernel_rfl) | (rw [if_neg (by decide +kernel)]; exact ⟨rfl,rfl⟩))
  (fun os started H enc _=>lifted os started H enc)
theorem proved:Rows.TableExactCardSaid :=
 Claim7.holds_tied_plain_at .later [] [.wider,.wider,.wider] true _ true
  over (fun _ h=>by cases h) (by as_aux_lemma=>kernel_rfl) (fun _ h=>by cases h) tableExact_row_tie rfl ⟨rfl,rfl⟩ (by as_aux_lemma=>kernel_rfl) rfl
  (fun f fn hf hfn=>by
    obtain rfl:f=5:=Option.some.inj ((show prog.funcNamed "revenant/revenantlaw17.TableExact"=some 5 by as_aux_lemma=>kernel_rfl).symm.trans hf) |>.symm;obtain rfl:fn=Tryz.f5:=(Option.some.inj (func5.symm.trans hfn)).symm;exact ⟨(by as_aux_lemma=>kernel_rfl),fun j t ht=>by
     rw [Tryz.params5] at ht;have hm:t∈[58,22,23]:=by simpa using Array.mem_of_getElem? ht
     have hall:([58,22,23].all fun u=>!prog.wantsStandIn u)=true:=by as_aux_lemma=>kernel_rfl
     exact (show prog.wantsStandIn t=false by simpa using List.all_eq_true.1 hall t hm)⟩)
  (by as_aux_lemma=>kernel_rfl)
#print axioms proved
end
end Go.Proofs.YtdknbegcflldjaaGreatDoor.tableExact
