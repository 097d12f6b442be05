/- OrderBytes: of every op and answer the bytes, and of all bytes the op and the answer, are the document's; of nil there is nothing: so the law answers true, for every input, where package link's three variables hold what the program's text lays in them (tied). -/
import Derived.Test.YtffncfmciockmaaGreatDoorO9
import Derived.Test.YtffncfmciockmaaGreatDoorCards
import Derived.SevenTiedAt
import Derived.ChangeMaps5
import Derived.Deep.CutBlock
import Derived.Deep.CutRange

open _root_.Go.Proofs.Tryz
set_option maxRecDepth 100000
set_option maxHeartbeats 25600000
namespace Go.Proofs.YtffncfmciockmaaGreatDoor.orderBytes
section
open Go.ChangeShapes Go.WideShapes Go.ChangeAt Go.RowKit Go.Joins Go.Maps
theorem walk (kd key val lv er:Int) (dn:Bool) (v:Int) (S:ByteArray) (hk:InU key) (hv:InU val) (ha:InU v) (hl:S.size<=maxLen) (w:World) (hg:Glo w) :
  Calls prog 5 #[.agg #[.int .i64 kd,.int .u64 key,.int .u64 val,.int .i64 lv],.agg #[.int .i64 er,.bool dn,.int .u64 v],.string S] w fun e w'=>e=.returned (.bool true)/\Below w.heap.size w w':=by
 have h:=walkL kd key val lv er dn v S.data.toList hk hv ha (by unfold maxLen at hl; simp only [Array.length_toList]; exact hl) w hg
 simpa using h
theorem own:ownKnob prog.godebug=none:=by kernel_rfl
theorem laidOut:laidOutB prog=true:=by kernel_rfl
set_option maxRecDepth 100000 in
theorem lifted (os:Os) (started:os.Started) (H:Type) (enc:TypeId × Value->H) :
  ReturnsInHanded {} Tryz.checked os 5 .any (fun w args=>(Rows.orderBytesSpec.pre enc prog Tryz.f5 [] false w args/\laidMetH prog laid3 w)/\sizedMet enc prog Tryz.f5 (OpenSpec.ofChange Rows.orderBytesSpec) false w args)
   (Rows.orderBytesSpec.post enc prog Tryz.f5 false true false false):=by
 refine returnsInHanded_of_change_and (C:=Tryz.checked) (X:=fun w _=>laidMetH prog laid3 w) (fun _ _ _ hh h=>h.of_heap hh) own started (by kernel_rfl) func5
  (ChangeSpec.witness_shaped (enc:=enc) (C:=Tryz.checked) (os:=os) (X:=fun w _=>laidMetH prog laid3 w) false (World.doorLaid prog 24 os) #[.agg #[.int .i64 0,.int .u64 0,.int .u64 0,.int .i64 0],.agg #[.int .i64 0,.bool false,.int .u64 0],.string ⟨#[]⟩] 8 rfl (World.shaped_of_RefB (by kernel_rfl) (by kernel_rfl)) (by kernel_rfl) (by kernel_rfl) (by kernel_rfl) (door_met os _)) ?_
 intro W base args ds gs before hval0 hW _ _ hL _;have hval:∀ (j:Nat) t v,Tryz.f5.params[j]?=some t->args[j]?=some v->Value.okWide prog W .any base t v:=hval0;have hW':=hW;obtain ⟨p,q,hA0,hV,rfl,hfz,hnd⟩:=hW;have hA:DataW.TrodAll enc prog W 0 (fun _=>true) true Tryz.f5.params.toList args.toList ds p:=hA0;rw [Tryz.params5] at hA hval;obtain ⟨v0,vs0,d0,ds0,p0,q0,hargs,rfl,rfl,g0,r0⟩:=trodAll_cons hA;obtain ⟨v1,vs1,d1,ds1,p1,q1,rfl,rfl,rfl,g1,r1⟩:=trodAll_cons r0;obtain ⟨v2,vs2,d2,ds2,p2,q2,rfl,rfl,rfl,g2,r2⟩:=trodAll_cons r1;obtain ⟨rfl,rfl,rfl⟩:=trodAll_nil r2;obtain rfl:args=#[v0,v1,v2]:=by cases args; simp_all
 obtain ⟨rfl,rfl⟩:=trodVars_none hV;obtain ⟨a2,rfl,rfl,rfl,h2⟩:=Go.ChangeMaps.open_string Tryz.underlying9 (hval 2 9 v2 rfl rfl) g2;obtain ⟨cs0,rfl,z0,H0⟩:=open_flat (ss:=[.num .i64,.num .u64,.num .u64,.num .i64]) Tryz.underlying51 (by kernel_rfl) (by kernel_rfl) ⟨Tryz.underlying3,Tryz.underlying49,Tryz.underlying49,Tryz.underlying3,trivial⟩ (hval 0 51 v0 rfl rfl) g0;obtain ⟨l0,rfl,z0⟩:=list_of z0;obtain ⟨x0_0,x0_1,x0_2,x0_3,rfl⟩:=list4 z0;obtain ⟨_,e,a0_0,rfl,w0_0⟩:=H0 0 _ rfl;obtain rfl:x0_0=.int .i64 a0_0:=by simpa using e
 clear e;have h0_0:=i64_in w0_0;obtain ⟨_,e,a0_1,rfl,w0_1⟩:=H0 1 _ rfl;obtain rfl:x0_1=.int .u64 a0_1:=by simpa using e
 clear e;have h0_1:=u64_in w0_1;obtain ⟨_,e,a0_2,rfl,w0_2⟩:=H0 2 _ rfl;obtain rfl:x0_2=.int .u64 a0_2:=by simpa using e
 clear e;have h0_2:=u64_in w0_2;obtain ⟨_,e,a0_3,rfl,w0_3⟩:=H0 3 _ rfl;obtain rfl:x0_3=.int .i64 a0_3:=by simpa using e
 clear e;have h0_3:=i64_in w0_3;clear H0;obtain ⟨cs1,rfl,z1,H1⟩:=open_flat (ss:=[.num .i64,.boo,.num .u64]) Tryz.underlying57 (by kernel_rfl) (by kernel_rfl) ⟨Tryz.underlying3,Tryz.underlying4,Tryz.underlying49,trivial⟩ (hval 1 57 v1 rfl rfl) g1;obtain ⟨l1,rfl,z1⟩:=list_of z1;obtain ⟨x1_0,x1_1,x1_2,rfl⟩:=list3 z1;obtain ⟨_,e,a1_0,rfl,w1_0⟩:=H1 0 _ rfl;obtain rfl:x1_0=.int .i64 a1_0:=by simpa using e
 clear e;have h1_0:=i64_in w1_0;obtain ⟨_,e,a1_1,rfl⟩:=H1 1 _ rfl;obtain rfl:x1_1=.bool a1_1:=by simpa using e
 clear e;obtain ⟨_,e,a1_2,rfl,w1_2⟩:=H1 2 _ rfl;obtain rfl:x1_2=.int .u64 a1_2:=by simpa using e
 clear e;have h1_2:=u64_in w1_2;clear H1;clear hA0 hval0;have hG:=glo_of_laid hL;refine (walk a0_0 a0_1 a0_2 a0_3 a1_0 a1_1 a1_2 a2 h0_1 h0_2 h1_2 h2 W hG).mono fun e W' ⟨he,hg⟩=>?_;subst he;exact ⟨_,rfl,law_post laidOut (by kernel_rfl) (by kernel_rfl) Tryz.underlying4 rfl rfl hW' hg⟩
theorem closedR:joinedFacts Tryz.pinned.checked.prog 5 Tryz.f5 Rows.orderBytesSpec Rows.orderBytesRow=true:=by
 unfold joinedFacts;simp only [Bool.and_eq_true]
 repeat' (refine And.intro ?_ ?_)
 all_goals (as_aux_lemma=>kernel_rfl)
theorem over:Rows.orderBytesRow.holds Tryz.pinned (OpenSpec.ofChange Rows.orderBytesSpec) :=
 OpenClaim.holds_of_wide 5 Tryz.f5 rfl rfl rfl rfl rfl rfl rfl ⟨rfl,rfl,rfl,rfl,rfl⟩ rfl rfl rfl rfl rfl (by kernel_rfl) func5 closedR
  (of_decide_eq_true (by kernel_rfl)) (by unfold Func.isWrapper; first | (rw [if_pos (by decide +kernel)]; kernel_rfl) | (rw [if_neg (by decide +kernel)]; exact ⟨rfl,rfl⟩))
  (fun os started H enc _=>lifted os started H enc)
theorem proved:Rows.OrderBytesCardSaid :=
 Claim7.holds_tied_plain_at .later [] [.wider,.wider,.wider] true _ true
  over (fun _ h=>by cases h) (by as_aux_lemma=>kernel_rfl) (fun _ h=>by cases h) orderBytes_row_tie rfl ⟨rfl,rfl⟩ (by as_aux_lemma=>kernel_rfl) rfl
  (fun f fn hf hfn=>by
    obtain rfl:f=5:=Option.some.inj ((show prog.funcNamed "revenant/revenantlaw20.OrderBytes"=some 5 by as_aux_lemma=>kernel_rfl).symm.trans hf) |>.symm;obtain rfl:fn=Tryz.f5:=(Option.some.inj (func5.symm.trans hfn)).symm;exact ⟨(by as_aux_lemma=>kernel_rfl),fun j t ht=>by
     rw [Tryz.params5] at ht;have hm:t∈[51,57,9]:=by simpa using Array.mem_of_getElem? ht
     have hall:([51,57,9].all fun u=>!prog.wantsStandIn u)=true:=by as_aux_lemma=>kernel_rfl
     exact (show prog.wantsStandIn t=false by simpa using List.all_eq_true.1 hall t hm)⟩)
  (by as_aux_lemma=>kernel_rfl)
#print axioms proved
end
end Go.Proofs.YtffncfmciockmaaGreatDoor.orderBytes
