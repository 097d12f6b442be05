/- OrderBack: what was told is read as it was; unlike ops, and unlike answers, have unlike bytes: so the law answers true, for every input, where package link's three variables hold what the program's text lays in them (tied). -/
import Derived.Test.YtffncfmciockmaaGreatDoorN9
import Derived.Test.YtffncfmciockmaaGreatDoorCards
import Derived.SevenTiedAt
import Derived.Deep.CutBlock
import Derived.Deep.CutRange

open _root_.Go.Proofs.Tryz
set_option maxRecDepth 100000
set_option maxHeartbeats 25600000
namespace Go.Proofs.YtffncfmciockmaaGreatDoor.orderBack
section
open Go.ChangeShapes Go.WideShapes Go.ChangeAt Go.RowKit Go.Joins Go.Maps
def okB (kd lv:Int):Bool:=byB kd && byB lv
def obL (kd key val lv:Int):List UInt8:=if okB kd lv then opL kd key val lv else []
def obE (kd lv:Int):Int:=if okB kd lv then 0 else 3
def abL (er:Int) (dn:Bool) (val:Int):List UInt8:=if byB er then ansL er dn val else []
def abE (er:Int):Int:=if byB er then 0 else 3
theorem by_of {x:Int} (h:byB x=true):ByB x:=by
 have h:0<=x/\x<=255:=by simpa [byB] using h
 exact h
theorem ok_of {x y:Int} (h:okB x y=true):byB x=true/\byB y=true:=by simpa [okB] using h
theorem bytes_o (kd key val lv:Int) (hk:InU key) (hv:InU val) (w:World) :
  Calls prog 21 #[.agg #[.int .i64 kd,.int .u64 key,.int .u64 val,.int .i64 lv]] w fun e w'=>e=.returned (.tuple #[.string ⟨(obL kd key val lv).toArray⟩,.int .i64 (obE kd lv)])/\Below w.heap.size w w':=by
 unfold obL obE okB
 by_cases h1:byB kd=true
 ·by_cases h2:byB lv=true
  ·rw [h1,h2]; exact bytesYes_o kd key val lv h1 h2 hk hv w
  ·have h2:byB lv=false:=by simpa using h2
   rw [h1,h2]; exact bytesNo_o kd key val lv (.inr h2) w
 ·have h1:byB kd=false:=by simpa using h1
  rw [h1]; exact bytesNo_o kd key val lv (.inl h1) w
theorem ans_o (er val:Int) (dn:Bool) (hv:InU val) (w:World) :
  Calls prog 23 #[.agg #[.int .i64 er,.bool dn,.int .u64 val]] w fun e w'=>e=.returned (.tuple #[.string ⟨(abL er dn val).toArray⟩,.int .i64 (abE er)])/\Below w.heap.size w w':=by
 unfold abL abE
 by_cases h1:byB er=true
 ·rw [h1]; exact ansYes_o er val dn h1 hv w
 ·have h1:byB er=false:=by simpa using h1
  rw [h1]; exact ansNo_o er val dn h1 w
theorem parse_o (kd key val lv:Int) (h1:byB kd=true) (h2:byB lv=true) (hk:InU key) (hv:InU val) (w:World) :
  Calls prog 25 #[.string ⟨(opL kd key val lv).toArray⟩] w fun e w'=>e=.returned (.tuple #[.agg #[.int .i64 kd,.int .u64 key,.int .u64 val,.int .i64 lv],.int .i64 0])/\Below w.heap.size w w':=by
 have h:=parseYes_o (opL kd key val lv) (opL_length _ _ _ _) w;obtain ⟨e1,e2,e3,e4⟩:=parse_opL (by_of h1) hk hv (by_of h2);rw [e1,e2,e3,e4] at h;exact h
theorem parseA_o (er val:Int) (dn:Bool) (h1:byB er=true) (hv:InU val) (w:World) :
  Calls prog 26 #[.string ⟨(ansL er dn val).toArray⟩] w fun e w'=>e=.returned (.tuple #[.agg #[.int .i64 er,.bool dn,.int .u64 val],.int .i64 0])/\Below w.heap.size w w':=by
 obtain ⟨e1,e2,e3⟩:=parse_ansL (d:=dn) (by_of h1) hv;have h:=parseAYes_o (ansL er dn val) (ansL_length _ _ _) (by rw [e2]; cases dn<;>decide) w;have e4:decide ((((ansL er dn val).getD 1 0).toNat:Int)=1)=dn:=by rw [e2]; cases dn<;>decide
 rw [e1,e3,e4] at h;exact h
theorem walk (k1 key1 val1 lv1 k2 key2 val2 lv2 er1:Int) (dn1:Bool) (v1 er2:Int) (dn2:Bool) (v2:Int) (hk1:InU key1) (hv1:InU val1) (hk2:InU key2) (hv2:InU val2) (ha1:InU v1) (ha2:InU v2) (w:World) (hg:Glo w) :
  Calls prog 6 #[.agg #[.int .i64 k1,.int .u64 key1,.int .u64 val1,.int .i64 lv1],.agg #[.int .i64 k2,.int .u64 key2,.int .u64 val2,.int .i64 lv2],.agg #[.int .i64 er1,.bool dn1,.int .u64 v1],.agg #[.int .i64 er2,.bool dn2,.int .u64 v2]] w fun e w'=>e=.returned (.bool true)/\Below w.heap.size w w':=by
 have hE:=((((Env.start w).box w.heap.size rfl [.int .i64 k1,.int .u64 key1,.int .u64 val1,.int .i64 lv1] 51).box (w.heap.size+1) (by simp) [.int .i64 k2,.int .u64 key2,.int .u64 val2,.int .i64 lv2] 51).box (w.heap.size+1+1) (by simp) [.int .i64 er1,.bool dn1,.int .u64 v1] 57).box (w.heap.size+1+1+1) (by simp) [.int .i64 er2,.bool dn2,.int .u64 v2] 57;have HG:=zH hg;have HB1:=zH fun v=>bytes_o k1 key1 val1 lv1 hk1 hv1 v;have HB2:=zH fun v=>bytes_o k2 key2 val2 lv2 hk2 hv2 v;have HA1:=zH fun v=>ans_o er1 v1 dn1 ha1 v;have HA2:=zH fun v=>ans_o er2 v2 dn2 ha2 v;have HIN:=zH (⟨hk1,hv1,hk2,hv2,ha1,ha2⟩:_/\_/\_/\_/\_/\_);clear hg hk1 hv1 hk2 hv2 ha1 ha2;go_enter func6,ntmps6;go_wp2_with fail;refine (awake_m _ (HG.out.keep' hE.below)).mono ?_;rintro o w1 ⟨rfl,hb⟩;replace hE:=hE.over hb;clear hb;generalize w.heap.size+1+1+1=X3 at *;generalize w.heap.size+1+1=X2 at *;generalize w.heap.size+1=X1 at *;generalize w.heap.size=X0 at *;have r0:=hE.rule 0 rfl;have r1:=hE.rule 1 rfl;have r2:=hE.rule 2 rfl;have r3:=hE.rule 3 rfl;go_wp2_with fail;refine (HB1.out _).mono ?_;rintro o w2 ⟨rfl,hb⟩;replace hE:=hE.over hb;clear hb r0 r1 r2 r3 HB1;have r0:=hE.rule 0 rfl;have r1:=hE.rule 1 rfl;have r2:=hE.rule 2 rfl;have r3:=hE.rule 3 rfl;go_wp2_with fail;refine (HB2.out _).mono ?_;rintro o w3 ⟨rfl,hb⟩;replace hE:=hE.over hb;clear hb r0 r1 r2 r3 HB2;obtain ⟨l1,hl1⟩:∃ l,obL k1 key1 val1 lv1=l:=⟨_,rfl⟩;obtain ⟨l2,hl2⟩:∃ l,obL k2 key2 val2 lv2=l:=⟨_,rfl⟩;obtain ⟨c1,hc1⟩:∃ c,okB k1 lv1=c:=⟨_,rfl⟩;obtain ⟨c2,hc2⟩:∃ c,okB k2 lv2=c:=⟨_,rfl⟩;have HE1:Hid (obE k1 lv1=if c1 then 0 else 3):=zH (by unfold obE; rw [hc1]);have HE2:Hid (obE k2 lv2=if c2 then 0 else 3):=zH (by unfold obE; rw [hc2]);have HL1:Hid (l1=if c1 then opL k1 key1 val1 lv1 else []):=zH (by rw [<- hl1]; unfold obL; rw [hc1]);have HL2:Hid (l2=if c2 then opL k2 key2 val2 lv2 else []):=zH (by rw [<- hl2]; unfold obL; rw [hc2]);obtain ⟨E1,hE1⟩:∃ E,obE k1 lv1=E:=⟨_,rfl⟩;obtain ⟨E2,hE2⟩:∃ E,obE k2 lv2=E:=⟨_,rfl⟩;rw [hl1,hl2,hE1,hE2];rw [hE1] at HE1;rw [hE2] at HE2;have HC1:=zH hc1;have HC2:=zH hc2;clear hl1 hl2 hc1 hc2 hE1 hE2;have r0:=hE.rule 0 rfl;have r1:=hE.rule 1 rfl;have r2:=hE.rule 2 rfl;have r3:=hE.rule 3 rfl
 go_upto_if 34 with fail
 go_cut [13,14,34] from 35 to 60 (fun _ _ _ wx=>Env w [boxI X3 [.int .i64 er2,.bool dn2,.int .u64 v2],boxI X2 [.int .i64 er1,.bool dn1,.int .u64 v1],boxI X1 [.int .i64 k2,.int .u64 key2,.int .u64 val2,.int .i64 lv2],boxI X0 [.int .i64 k1,.int .u64 key1,.int .u64 val1,.int .i64 lv1]] wx)
 case first =>
  cases c1
  ·have hb0:(E1==0)=false:=by rw [HE1.out]; rfl
   clear r0 r1 r2 r3;go_wp2_with fail
   go_meet
   case rel=>exact hE
  ·have h1:=ok_of HC1.out;have hp:=parse_o k1 key1 val1 lv1 h1.1 h1.2 HIN.out.1 HIN.out.2.1 w3;rw [if_pos rfl] at HL1;rw [<- HL1.out] at hp;have HP:=zH hp;have hb0:(E1==0)=true:=by rw [HE1.out]; rfl
   clear hp h1;go_wp2_with fail;refine HP.out.mono ?_;rintro o w4 ⟨rfl,hb⟩;replace hE:=hE.over hb;clear hb r0 r1 r2 r3 HP
   go_upto_region 7 with fail
   have hE9:=hE.box w4.heap.size rfl [.int .i64 k1,.int .u64 key1,.int .u64 val1,.int .i64 lv1] 51;generalize w4.alloc _=w5 at *;generalize w4.heap.size=Z at *;clear hE;have rZ:=hE9.rule 0 rfl;have r0:=hE9.rule 4 rfl;have r1:=hE9.rule 3 rfl;have hE:=hE9.sub (.cons _ (List.Sublist.refl _));clear hE9;cases c2
   ·have hb2:(E2==0)=false:=by rw [HE2.out]; rfl
    clear r1;go_wp2_with fail
    go_meet
    case rel=>exact hE
   ·have hb2:(E2==0)=true:=by rw [HE2.out]; rfl
    have h2:=ok_of HC2.out;have h1:=ok_of HC1.out;rw [if_pos rfl] at HL2
    by_cases heq:k1=k2/\key1=key2/\val1=val2/\lv1=lv2
    ·obtain ⟨rfl,rfl,rfl,rfl⟩:=heq;have hll:l2=l1:=by rw [HL1.out,HL2.out]
     subst hll;clear h1 h2 HL1 HL2 HIN HC1 HC2;go_wp2_with fail
     all_goals
      go_meet
      case rel=>exact hE
    ·have hlq:(l1==l2)=false:=by
      rw [HL1.out,HL2.out];simp only [beq_eq_false_iff_ne,ne_eq];exact fun h=>heq (opL_inj (by_of h1.1) HIN.out.1 HIN.out.2.1 (by_of h1.2) (by_of h2.1) HIN.out.2.2.1 HIN.out.2.2.2.1 (by_of h2.2) h)
     have HQ:=zH heq;clear h1 h2 HL1 HL2 HIN HC1 HC2 heq
     by_cases e1:k1=k2
     ·subst e1
      by_cases e2:key1=key2
      ·subst e2
       by_cases e3:val1=val2
       ·subst e3;have e4:lv1≠lv2:=fun h=>HQ.out ⟨rfl,rfl,rfl,h⟩;go_wp2_with fail
        go_meet
        case rel=>exact hE
       ·go_wp2_with fail
        go_meet
        case rel=>exact hE
      ·go_wp2_with fail
       go_meet
       case rel=>exact hE
     ·go_wp2_with fail
      go_meet
      case rel=>exact hE
 case rest =>
  clear hE r0 r1 r2 r3;have hE:=hcut;clear hcut HL1 HL2 HC1 HC2 HE1 HE2;have r2:=hE.rule 1 rfl;have r3:=hE.rule 0 rfl;go_wp2_with fail;refine (HA1.out _).mono ?_;rintro o w4 ⟨rfl,hb⟩;replace hE:=hE.over hb;clear hb r2 r3 HA1;have r2:=hE.rule 1 rfl;have r3:=hE.rule 0 rfl;go_wp2_with fail;refine (HA2.out _).mono ?_;rintro o w5 ⟨rfl,hb⟩;replace hE:=hE.over hb;clear hb r2 r3 HA2;obtain ⟨m1,hm1⟩:∃ l,abL er1 dn1 v1=l:=⟨_,rfl⟩;obtain ⟨m2,hm2⟩:∃ l,abL er2 dn2 v2=l:=⟨_,rfl⟩;obtain ⟨b1,hc1⟩:∃ c,byB er1=c:=⟨_,rfl⟩;obtain ⟨b2,hc2⟩:∃ c,byB er2=c:=⟨_,rfl⟩;have HE1:Hid (abE er1=if b1 then 0 else 3):=zH (by unfold abE; rw [hc1]);have HE2:Hid (abE er2=if b2 then 0 else 3):=zH (by unfold abE; rw [hc2]);have HL1:Hid (m1=if b1 then ansL er1 dn1 v1 else []):=zH (by rw [<- hm1]; unfold abL; rw [hc1]);have HL2:Hid (m2=if b2 then ansL er2 dn2 v2 else []):=zH (by rw [<- hm2]; unfold abL; rw [hc2]);obtain ⟨N1,hN1⟩:∃ E,abE er1=E:=⟨_,rfl⟩;obtain ⟨N2,hN2⟩:∃ E,abE er2=E:=⟨_,rfl⟩;rw [hm1,hm2,hN1,hN2];rw [hN1] at HE1;rw [hN2] at HE2;have HC1:=zH hc1;have HC2:=zH hc2;clear hm1 hm2 hc1 hc2 hN1 hN2;have hb9:=hE.below;cases b1
  ·have hb0:(N1==0)=false:=by rw [HE1.out]; rfl
   clear hE;go_wp2_with fail;go_ret;exact ⟨rfl,hb9⟩
  ·have hp:=parseA_o er1 v1 dn1 HC1.out HIN.out.2.2.2.2.1 w5;rw [if_pos rfl] at HL1;rw [<- HL1.out] at hp;have HP:=zH hp;have hb0:(N1==0)=true:=by rw [HE1.out]; rfl
   clear hp;go_wp2_with fail;refine HP.out.mono ?_;rintro o w6 ⟨rfl,hb⟩;replace hE:=hE.over hb;clear hb HP hb9
   go_upto_region 13 with fail
   have hE9:=hE.box w6.heap.size rfl [.int .i64 er1,.bool dn1,.int .u64 v1] 57;generalize w6.alloc _=w7 at *;generalize w6.heap.size=Z at *;clear hE;have rZ:=hE9.rule 0 rfl;have r2:=hE9.rule 2 rfl;have r3:=hE9.rule 1 rfl;have hb9:=hE9.below;clear hE9;cases b2
   ·have hb2:(N2==0)=false:=by rw [HE2.out]; rfl
    clear r3;go_wp2_with fail;go_ret;exact ⟨rfl,hb9⟩
   ·have hb2:(N2==0)=true:=by rw [HE2.out]; rfl
    rw [if_pos rfl] at HL2
    by_cases heq:er1=er2/\dn1=dn2/\v1=v2
    ·obtain ⟨rfl,rfl,rfl⟩:=heq;have hll:m2=m1:=by rw [HL1.out,HL2.out]
     subst hll;clear HL1 HL2 HIN HC1 HC2;go_wp2_with fail
     all_goals
      go_ret;exact ⟨rfl,hb9⟩
    ·have hlq:(m1==m2)=false:=by
      rw [HL1.out,HL2.out];simp only [beq_eq_false_iff_ne,ne_eq];exact fun h=>heq (ansL_inj (by_of HC1.out) HIN.out.2.2.2.2.1 (by_of HC2.out) HIN.out.2.2.2.2.2 h)
     have HQ:=zH heq;clear HL1 HL2 HIN HC1 HC2 heq
     by_cases e1:er1=er2
     ·subst e1
      by_cases e2:dn1=dn2
      ·subst e2;have e3:v1≠v2:=fun h=>HQ.out ⟨rfl,rfl,h⟩;go_wp2_with fail;go_ret;exact ⟨rfl,hb9⟩
      ·go_wp2_with fail;go_ret;exact ⟨rfl,hb9⟩
     ·go_wp2_with fail;go_ret;exact ⟨rfl,hb9⟩
theorem own:ownKnob prog.godebug=none:=by kernel_rfl
theorem laidOut:laidOutB prog=true:=by kernel_rfl
set_option maxRecDepth 100000 in
theorem lifted (os:Os) (started:os.Started) (H:Type) (enc:TypeId × Value->H) :
  ReturnsInHanded {} Tryz.checked os 6 .any (fun w args=>(Rows.orderBackSpec.pre enc prog Tryz.f6 [] false w args/\laidMetH prog laid3 w)/\sizedMet enc prog Tryz.f6 (OpenSpec.ofChange Rows.orderBackSpec) false w args)
   (Rows.orderBackSpec.post enc prog Tryz.f6 false true false false):=by
 refine returnsInHanded_of_change_and (C:=Tryz.checked) (X:=fun w _=>laidMetH prog laid3 w) (fun _ _ _ hh h=>h.of_heap hh) own started (by kernel_rfl) func6
  (ChangeSpec.witness_shaped (enc:=enc) (C:=Tryz.checked) (os:=os) (X:=fun w _=>laidMetH prog laid3 w) false (World.doorLaid prog 24 os) #[.agg #[.int .i64 0,.int .u64 0,.int .u64 0,.int .i64 0],.agg #[.int .i64 0,.int .u64 0,.int .u64 0,.int .i64 0],.agg #[.int .i64 0,.bool false,.int .u64 0],.agg #[.int .i64 0,.bool false,.int .u64 0]] 8 rfl (World.shaped_of_RefB (by kernel_rfl) (by kernel_rfl)) (by kernel_rfl) (by kernel_rfl) (by kernel_rfl) (door_met os _)) ?_
 intro W base args ds gs before hval0 hW _ _ hL _;have hval:∀ (j:Nat) t v,Tryz.f6.params[j]?=some t->args[j]?=some v->Value.okWide prog W .any base t v:=hval0;have hW':=hW;obtain ⟨p,q,hA0,hV,rfl,hfz,hnd⟩:=hW;have hA:DataW.TrodAll enc prog W 0 (fun _=>true) true Tryz.f6.params.toList args.toList ds p:=hA0;rw [Tryz.params6] at hA hval;obtain ⟨v0,vs0,d0,ds0,p0,q0,hargs,rfl,rfl,g0,r0⟩:=trodAll_cons hA;obtain ⟨v1,vs1,d1,ds1,p1,q1,rfl,rfl,rfl,g1,r1⟩:=trodAll_cons r0;obtain ⟨v2,vs2,d2,ds2,p2,q2,rfl,rfl,rfl,g2,r2⟩:=trodAll_cons r1;obtain ⟨v3,vs3,d3,ds3,p3,q3,rfl,rfl,rfl,g3,r3⟩:=trodAll_cons r2;obtain ⟨rfl,rfl,rfl⟩:=trodAll_nil r3;obtain rfl:args=#[v0,v1,v2,v3]:=by cases args; simp_all
 obtain ⟨rfl,rfl⟩:=trodVars_none hV;obtain ⟨cs0,rfl,z0,H0⟩:=open_flat (ss:=[.num .i64,.num .u64,.num .u64,.num .i64]) Tryz.underlying51 (by kernel_rfl) (by kernel_rfl) ⟨Tryz.underlying3,Tryz.underlying49,Tryz.underlying49,Tryz.underlying3,trivial⟩ (hval 0 51 v0 rfl rfl) g0;obtain ⟨l0,rfl,z0⟩:=list_of z0;obtain ⟨x0_0,x0_1,x0_2,x0_3,rfl⟩:=list4 z0;obtain ⟨_,e,a0_0,rfl,w0_0⟩:=H0 0 _ rfl;obtain rfl:x0_0=.int .i64 a0_0:=by simpa using e
 clear e;have h0_0:=i64_in w0_0;obtain ⟨_,e,a0_1,rfl,w0_1⟩:=H0 1 _ rfl;obtain rfl:x0_1=.int .u64 a0_1:=by simpa using e
 clear e;have h0_1:=u64_in w0_1;obtain ⟨_,e,a0_2,rfl,w0_2⟩:=H0 2 _ rfl;obtain rfl:x0_2=.int .u64 a0_2:=by simpa using e
 clear e;have h0_2:=u64_in w0_2;obtain ⟨_,e,a0_3,rfl,w0_3⟩:=H0 3 _ rfl;obtain rfl:x0_3=.int .i64 a0_3:=by simpa using e
 clear e;have h0_3:=i64_in w0_3;clear H0;obtain ⟨cs1,rfl,z1,H1⟩:=open_flat (ss:=[.num .i64,.num .u64,.num .u64,.num .i64]) Tryz.underlying51 (by kernel_rfl) (by kernel_rfl) ⟨Tryz.underlying3,Tryz.underlying49,Tryz.underlying49,Tryz.underlying3,trivial⟩ (hval 1 51 v1 rfl rfl) g1;obtain ⟨l1,rfl,z1⟩:=list_of z1;obtain ⟨x1_0,x1_1,x1_2,x1_3,rfl⟩:=list4 z1;obtain ⟨_,e,a1_0,rfl,w1_0⟩:=H1 0 _ rfl;obtain rfl:x1_0=.int .i64 a1_0:=by simpa using e
 clear e;have h1_0:=i64_in w1_0;obtain ⟨_,e,a1_1,rfl,w1_1⟩:=H1 1 _ rfl;obtain rfl:x1_1=.int .u64 a1_1:=by simpa using e
 clear e;have h1_1:=u64_in w1_1;obtain ⟨_,e,a1_2,rfl,w1_2⟩:=H1 2 _ rfl;obtain rfl:x1_2=.int .u64 a1_2:=by simpa using e
 clear e;have h1_2:=u64_in w1_2;obtain ⟨_,e,a1_3,rfl,w1_3⟩:=H1 3 _ rfl;obtain rfl:x1_3=.int .i64 a1_3:=by simpa using e
 clear e;have h1_3:=i64_in w1_3;clear H1;obtain ⟨cs2,rfl,z2,H2⟩:=open_flat (ss:=[.num .i64,.boo,.num .u64]) Tryz.underlying57 (by kernel_rfl) (by kernel_rfl) ⟨Tryz.underlying3,Tryz.underlying4,Tryz.underlying49,trivial⟩ (hval 2 57 v2 rfl rfl) g2;obtain ⟨l2,rfl,z2⟩:=list_of z2;obtain ⟨x2_0,x2_1,x2_2,rfl⟩:=list3 z2;obtain ⟨_,e,a2_0,rfl,w2_0⟩:=H2 0 _ rfl;obtain rfl:x2_0=.int .i64 a2_0:=by simpa using e
 clear e;have h2_0:=i64_in w2_0;obtain ⟨_,e,a2_1,rfl⟩:=H2 1 _ rfl;obtain rfl:x2_1=.bool a2_1:=by simpa using e
 clear e;obtain ⟨_,e,a2_2,rfl,w2_2⟩:=H2 2 _ rfl;obtain rfl:x2_2=.int .u64 a2_2:=by simpa using e
 clear e;have h2_2:=u64_in w2_2;clear H2;obtain ⟨cs3,rfl,z3,H3⟩:=open_flat (ss:=[.num .i64,.boo,.num .u64]) Tryz.underlying57 (by kernel_rfl) (by kernel_rfl) ⟨Tryz.underlying3,Tryz.underlying4,Tryz.underlying49,trivial⟩ (hval 3 57 v3 rfl rfl) g3;obtain ⟨l3,rfl,z3⟩:=list_of z3;obtain ⟨x3_0,x3_1,x3_2,rfl⟩:=list3 z3;obtain ⟨_,e,a3_0,rfl,w3_0⟩:=H3 0 _ rfl;obtain rfl:x3_0=.int .i64 a3_0:=by simpa using e
 clear e;have h3_0:=i64_in w3_0;obtain ⟨_,e,a3_1,rfl⟩:=H3 1 _ rfl;obtain rfl:x3_1=.bool a3_1:=by simpa using e
 clear e;obtain ⟨_,e,a3_2,rfl,w3_2⟩:=H3 2 _ rfl;obtain rfl:x3_2=.int .u64 a3_2:=by simpa using e
 clear e;have h3_2:=u64_in w3_2;clear H3;clear hA0 hval0;have hG:=glo_of_laid hL;refine (walk a0_0 a0_1 a0_2 a0_3 a1_0 a1_1 a1_2 a1_3 a2_0 a2_1 a2_2 a3_0 a3_1 a3_2 h0_1 h0_2 h1_1 h1_2 h2_2 h3_2 W hG).mono fun e W' ⟨he,hg⟩=>?_;subst he;exact ⟨_,rfl,law_post laidOut (by kernel_rfl) (by kernel_rfl) Tryz.underlying4 rfl rfl hW' hg⟩
theorem closedR:joinedFacts Tryz.pinned.checked.prog 6 Tryz.f6 Rows.orderBackSpec Rows.orderBackRow=true:=by
 unfold joinedFacts;simp only [Bool.and_eq_true]
 repeat' (refine And.intro ?_ ?_)
 all_goals (as_aux_lemma=>kernel_rfl)
theorem over:Rows.orderBackRow.holds Tryz.pinned (OpenSpec.ofChange Rows.orderBackSpec) :=
 OpenClaim.holds_of_wide 6 Tryz.f6 rfl rfl rfl rfl rfl rfl rfl ⟨rfl,rfl,rfl,rfl,rfl⟩ rfl rfl rfl rfl rfl (by kernel_rfl) func6 closedR
  (of_decide_eq_true (by kernel_rfl)) (by unfold Func.isWrapper; first | (rw [if_pos (by decide +kernel)]; kernel_rfl) | (rw [if_neg (by decide +kernel)]; exact ⟨rfl,rfl⟩))
  (fun os started H enc _=>lifted os started H enc)
theorem proved:Rows.OrderBackCardSaid :=
 Claim7.holds_tied_plain_at .later [] [.wider,.wider,.wider] true _ true
  over (fun _ h=>by cases h) (by as_aux_lemma=>kernel_rfl) (fun _ h=>by cases h) orderBack_row_tie rfl ⟨rfl,rfl⟩ (by as_aux_lemma=>kernel_rfl) rfl
  (fun f fn hf hfn=>by
    obtain rfl:f=6:=Option.some.inj ((show prog.funcNamed "revenant/revenantlaw20.OrderBack"=some 6 by as_aux_lemma=>kernel_rfl).symm.trans hf) |>.symm;obtain rfl:fn=Tryz.f6:=(Option.some.inj (func6.symm.trans hfn)).symm;exact ⟨(by as_aux_lemma=>kernel_rfl),fun j t ht=>by
     rw [Tryz.params6] at ht;have hm:t∈[51,51,57,57]:=by simpa using Array.mem_of_getElem? ht
     have hall:([51,51,57,57].all fun u=>!prog.wantsStandIn u)=true:=by as_aux_lemma=>kernel_rfl
     exact (show prog.wantsStandIn t=false by simpa using List.all_eq_true.1 hall t hm)⟩)
  (by as_aux_lemma=>kernel_rfl)
#print axioms proved
end
end Go.Proofs.YtffncfmciockmaaGreatDoor.orderBack
