/- CoreExact: of every structure, and row of deeds, a thread's epoch, what it holds and has queued, how often it rolled back, how many loads it made, and each answer, are the document's: so the law answers true, for every input, where package link's three variables hold what the program's text lays in them (tied). -/
import Derived.Test.YtlhhnaccigamjaaDoorE5
import Derived.Test.YtlhhnaccigamjaaDoorTie
import Derived.LaidMore
import Derived.Stop.Joined
import Derived.Test.YtlhhnaccigamjaaDoorChecked
import Derived.Test.YtlhhnaccigamjaaDoorCards
import Derived.SevenTiedAt

/- A thread and the reference's beside it: what they keep; a checkpoint, a look, and the epoch's cell written, of both. -/
namespace Go.Proofs.YtlhhnaccigamjaaDoor
open Go.RowKit Go.Maps
set_option maxRecDepth 100000

/-- What turns in a row of deeds. -/
structure SX where
  e : Int
  r : Int
  hs : Int
  hi : Int
  idv : Int
  N : Int
  ql : List Trip
  kq : Nat
  nn : Nat
  cp : Nat
  FQ : Nat → Prop
  F : Nat → Prop
  G : Nat → Prop
  f : Plc → Int
  q : Cnt
  ml : List OneR
  A : Option Addr
/-- The reference's queue. -/
def rl (l : List Trip) : List Trip := l.map fun t => (t.1, 0, 0)
theorem rl_length (l : List Trip) : (rl l).length = l.length := by simp [rl]
/-- The things. -/
def LX (I m u p cc c qq X : Nat) (k s b h l : Int) (S : SX) : List Item :=
  [boxI I [.int .i64 S.idv], refI m S.G S.ml, boxI u (urv k s b h l S.e S.A (rl S.ql).length S.cp S.N S.hs S.r), rrI S.A S.cp (rl S.ql), wbox p cc, cellI cc S.F S.f S.q S.nn, coreI c k s b h l S.e S.r S.hs S.hi qq, queueI qq S.FQ S.ql S.kq, boxI X [.int .i64 k, .int .i64 s, .int .i64 b, .int .i64 h, .int .i64 l]]
/-- What is true of them behind j deeds, with n loads. -/
structure OkX (s : Int) (S : SX) (j n : Nat) : Prop where
  ql : S.ql.length ≤ j
  ml : S.ml.length ≤ j
  nn : S.nn ≤ j
  loads : S.q.l = n
  loadsLe : n ≤ j
  room : 0 ≤ S.N ∧ S.N ≤ 2 * S.ql.length + 4
  ep : 0 ≤ S.e ∧ S.e ≤ 9223372036854775807
  held : (S.hs = 0 ∧ S.hi = 0) ∨ (1 ≤ S.hs ∧ S.hs ≤ s ∧ S.idv = S.hi)
  same : getL S.ml (1, 0, 0) = S.f (1, 0, 0)
  ret : ∀ t ∈ S.ql, t.2.1 = 0

def enc7 (kd x a d v i : Int) (t : Bool) : List Value := [.int .i64 kd, .int .u64 x, .int .i64 a, .int .i64 d, .int .u64 v, .int .i64 i, .bool t]

section
variable {W w : World} {I m u p cc c qq X : Nat} {k s b h l : Int} {S : SX} {j n : Nat}
theorem LX.word (hE : Env W (LX I m u p cc c qq X k s b h l S) w) : InU (S.f (1, 0, 0)) := (hE.cell 5 rfl).words.1 _

theorem OkX.step (h : OkX s S j n) : OkX s S (j + 1) n :=
  ⟨by have := h.ql; omega, by have := h.ml; omega, by have := h.nn; omega, h.loads, by have := h.loadsLe; omega, h.room, h.ep, h.held, h.same, h.ret⟩
theorem OkX.count (h : OkX s S j n) (hj : j ≤ 100) : wrap64 (S.q.l + 1) = ((n + 1 : Nat) : Int) := by
  have h1 := h.loads
  have h2 := h.loadsLe
  rw [h1]
  exact w64 ((n : Int) + 1) (by omega)
/-- Behind a checkpoint; behind a look. -/
theorem OkX.check (h : OkX s S j n) (hj : j ≤ 100) {e r : Int} (he : 0 ≤ e ∧ e ≤ 9223372036854775807) : OkX s { S with e := e, r := r, q := { S.q with l := wrap64 (S.q.l + 1) } } (j + 1) (n + 1) :=
  ⟨Nat.le_succ_of_le h.ql, Nat.le_succ_of_le h.ml, Nat.le_succ_of_le h.nn, h.count hj, by have := h.loadsLe; omega, h.room, he, h.held, h.same, h.ret⟩
/-- Behind a write of the epoch's cell. -/
theorem OkX.write (h : OkX s S j n) {y : Int} {F G : Nat → Prop} {q : Cnt} (hq : q.l = S.q.l) : OkX s { S with f := upd S.f (1, 0, 0) y, F := F, q := q, nn := S.nn + 1, ml := setL S.ml (1, 0, 0) y, G := G } (j + 1) n :=
  ⟨Nat.le_succ_of_le h.ql, by have := setL_length (1, 0, 0) y S.ml; have := h.ml; show (setL S.ml (1, 0, 0) y).length ≤ j + 1; omega, by have := h.nn; show S.nn + 1 ≤ j + 1; omega, hq.trans h.loads, by have := h.loadsLe; omega, h.room, h.ep, h.held, by
    show getL (setL S.ml (1, 0, 0) y) (1, 0, 0) = upd S.f (1, 0, 0) y (1, 0, 0)
    rw [getL_set, upd_same, upd_same], h.ret⟩

set_option maxRecDepth 100000 in
set_option maxHeartbeats 3200000 in
theorem does_check (kd x a d v i : Int) (t : Bool) (hkd : kd = 1 ∨ kd = 2) (hO : OkX s S j n) (hj : j ≤ 100) (hE : Env W (LX I m u p cc c qq X k s b h l S) w) :
    Calls Tryd.prog 11 #[.pointer (some ⟨c, 0, none⟩), .pointer (some ⟨u, 0, none⟩), .pointer (some ⟨p, 0, none⟩), .pointer (some ⟨m, 0, none⟩), .pointer (some ⟨I, 0, none⟩), .agg #[.int .i64 kd, .int .u64 x, .int .i64 a, .int .i64 d, .int .u64 v, .int .i64 i, .bool t]] w fun o w' => o = .returned (.bool true) ∧ ∃ S', OkX s S' (j + 1) (n + 1) ∧ Env W (LX I m u p cc c qq X k s b h l S') w' := by
  have hxu := LX.word hE
  have hml := hO.ml
  obtain ⟨y, hy⟩ : ∃ y, y = S.f (1, 0, 0) := ⟨_, rfl⟩
  rw [← hy] at hxu
  have HO := Lib.hid (hO.check (r := S.r) hj (epI_in hxu))
  have HSAME := Lib.hid (hO.same.trans hy.symm)
  have HXU := Lib.hid hxu
  have HY := Lib.hid hy.symm
  have HML := Lib.hid (show S.ml.length ≤ 1000000 by omega)
  clear hO hy hxu hml
  have hE1 := hE.box w.heap.size rfl [.int .i64 kd, .int .u64 x, .int .i64 a, .int .i64 d, .int .u64 v, .int .i64 i, .bool t] 47
  clear hE
  have r0 := hE1.rule 0 rfl
  go_enter Tryd.func11, Tryd.ntmps11
  rcases hkd with rfl | rfl
  all_goals
    go_wp2_with fail
    clear r0
    generalize w.alloc _ = w1 at *
    generalize w.heap.size = B at *
    generalize hV : ([.int .i64 _, .int .u64 x, .int .i64 a, .int .i64 d, .int .u64 v, .int .i64 i, .bool t] : List Value) = V at hE1
    clear hV
    unfold LX at hE1
    refine (check_w y HY.out 7 5 6 (by decide) (by decide) hE1 rfl rfl rfl).mono ?_
    rintro o w2 ⟨rfl, hE2⟩
    simp only [List.set_cons_succ, List.set_cons_zero] at hE2
    clear hE1
    go_wp2_with fail
    refine (rcheck_w y HSAME.out HXU.out HML.out 3 2 hE2 rfl rfl).mono ?_
    rintro o w3 ⟨rfl, hE3⟩
    simp only [List.set_cons_succ, List.set_cons_zero] at hE3
    clear hE2
    generalize epI y = z at *
    generalize hS : ({ S with e := z, r := S.r, q := { S.q with l := wrap64 (S.q.l + 1) } } : SX) = S1 at HO
    have hE9 : Env W (boxI B V :: LX I m u p cc c qq X k s b h l S1) w3 := by rw [← hS]; exact hE3
    have hze : S1.e = z := by rw [← hS]
    have HZ := Lib.hid hze
    clear hE3 hS hze
    go_wp2_with fail
    have HEP : Hid (∀ x, Env W (boxI B V :: LX I m u p cc c qq X k s b h l S1) x → Calls Tryd.prog 23 #[.pointer (some ⟨c, 0, none⟩)] x fun o w' => o = .returned (.int .i64 z) ∧ w' = x) := Lib.hid fun x hx => by
      rw [← HZ.out]; exact epoch_c (hx.get 7 rfl)
    have HCU : Hid (∀ x, Env W (boxI B V :: LX I m u p cc c qq X k s b h l S1) x → x.cell? ⟨u, 5, none⟩ = some (.int .i64 z)) := Lib.hid fun x hx => by rw [hx.rule 3 rfl 5, ← HZ.out]; rfl
    refine wp_text (S := (Env W (boxI B V :: LX I m u p cc c qq X k s b h l S1))) (by kernel_rfl) (by kernel_rfl) hE9.drew (fun hT => ?_)
    have hT9 := Lib.hid hT
    clear hT
    repeat (first
      | (refine text_value (v := ?_) hT9.out (by rfl) ?_ ?_; rotate_left; (focus (intro w5 hS; have r1 := HCU.out _ hS; go_simp <;> with_reducible rfl)); (try simp only [Act.put, List.setIfInBounds_toArray, List.set_cons_zero, List.set_cons_succ]))
      | (refine text_off hT9.out (by rfl) ?_; (try simp only [Act.put, List.setIfInBounds_toArray, List.set_cons_zero, List.set_cons_succ]))
      | (refine text_call (v := ?_) (f := ?_) (args := ?_) hT9.out (by rfl) ?_ ?_ ?_; rotate_left 3; (focus (intro w5 hS; have r1 := HCU.out _ hS; go_simp; constructor <;> with_reducible rfl)); (focus (intro w5 hS; (first | (with_reducible refine (HEP.out _ hS).mono ?_; rintro o w6 ⟨rfl, rfl⟩; constructor; with_reducible rfl; exact hS)))); (try simp only [Act.put, List.setIfInBounds_toArray, List.set_cons_zero, List.set_cons_succ])))
    refine InText.nil fun w5 hS5 => ?_
    clear hT9
    clear hE9
    have hE9 := hS5
    clear hS5
    go_wp2_with fail
    go_ret
    exact ⟨ret_bool (by simp), _, HO.out, hE9.sub (.cons _ (List.Sublist.refl _))⟩
set_option maxRecDepth 100000 in
set_option maxHeartbeats 3200000 in
theorem does_valid (kd x a d v i : Int) (t : Bool) (hkd : kd = 3 ∨ kd = 4) (hO : OkX s S j n) (hj : j ≤ 100) (hE : Env W (LX I m u p cc c qq X k s b h l S) w) :
    Calls Tryd.prog 11 #[.pointer (some ⟨c, 0, none⟩), .pointer (some ⟨u, 0, none⟩), .pointer (some ⟨p, 0, none⟩), .pointer (some ⟨m, 0, none⟩), .pointer (some ⟨I, 0, none⟩), .agg #[.int .i64 kd, .int .u64 x, .int .i64 a, .int .i64 d, .int .u64 v, .int .i64 i, .bool t]] w fun o w' => o = .returned (.bool true) ∧ ∃ S', OkX s S' (j + 1) (n + 1) ∧ Env W (LX I m u p cc c qq X k s b h l S') w' := by
  have hxu := LX.word hE
  have hml := hO.ml
  have hnn := hO.nn
  obtain ⟨y, hy⟩ : ∃ y, y = S.f (1, 0, 0) := ⟨_, rfl⟩
  rw [← hy] at hxu
  have HSAME := Lib.hid (hO.same.trans hy.symm)
  have HXU := Lib.hid hxu
  have HY := Lib.hid hy.symm
  have HML := Lib.hid (show S.ml.length ≤ 1000000 by omega)
  have HNN := Lib.hid (show S.nn < maxLen by unfold maxLen; omega)
  have HX1 := Lib.hid (show Wf (1, 0, 0) by unfold Wf In64; simp)
  obtain ⟨z, hz⟩ : ∃ z, z = okB y S.e := ⟨_, rfl⟩
  obtain ⟨R, hR⟩ : ∃ R, R = (if okB y S.e then S.r else wrap64 (S.r + 1)) := ⟨_, rfl⟩
  have HO := Lib.hid (hO.check (r := R) hj hO.ep)
  have HZ := Lib.hid hz
  have HR := Lib.hid hR
  have HEP := Lib.hid hO.ep
  clear hO hy hxu hml hz hR hnn
  have hE1 := hE.box w.heap.size rfl [.int .i64 kd, .int .u64 x, .int .i64 a, .int .i64 d, .int .u64 v, .int .i64 i, .bool t] 47
  clear hE
  have r0 := hE1.rule 0 rfl
  go_enter Tryd.func11, Tryd.ntmps11
  rcases hkd with rfl | rfl
  all_goals
    go_wp2_with fail
    clear r0
    generalize w.alloc _ = w1 at *
    generalize w.heap.size = B at *
    generalize hV : ([.int .i64 _, .int .u64 x, .int .i64 a, .int .i64 d, .int .u64 v, .int .i64 i, .bool t] : List Value) = V at hE1
    clear hV
    unfold LX at hE1
    have h1 := valid_w y HY.out 7 5 6 (by decide) (by decide) hE1 rfl rfl rfl
    rw [← HR.out, ← HZ.out] at h1
    refine h1.mono ?_
    rintro o w2 ⟨rfl, hE2⟩
    simp only [List.set_cons_succ, List.set_cons_zero] at hE2
    clear hE1 h1
    go_wp2_with fail
    have h2 := rvalid_w y HSAME.out HXU.out HEP.out.1 HEP.out.2 HML.out 3 2 hE2 rfl rfl
    rw [← HR.out, ← HZ.out] at h2
    refine h2.mono ?_
    rintro o w3 ⟨rfl, hE3⟩
    simp only [List.set_cons_succ, List.set_cons_zero] at hE3
    clear hE2 h2
    generalize hS : ({ S with e := S.e, r := R, q := { S.q with l := wrap64 (S.q.l + 1) } } : SX) = S1 at HO
    have hE9 : Env W (boxI B V :: LX I m u p cc c qq X k s b h l S1) w3 := by rw [← hS]; exact hE3
    clear hE3 hS
    go_wp2_with fail
    go_ret
    exact ⟨ret_bool (by simp), _, HO.out, hE9.sub (.cons _ (List.Sublist.refl _))⟩
set_option maxRecDepth 100000 in
set_option maxHeartbeats 3200000 in
theorem does_add (x a d v i : Int) (t : Bool) (hO : OkX s S j n) (hj : j ≤ 100) (hE : Env W (LX I m u p cc c qq X k s b h l S) w) :
    Calls Tryd.prog 11 #[.pointer (some ⟨c, 0, none⟩), .pointer (some ⟨u, 0, none⟩), .pointer (some ⟨p, 0, none⟩), .pointer (some ⟨m, 0, none⟩), .pointer (some ⟨I, 0, none⟩), .agg #[.int .i64 6, .int .u64 x, .int .i64 a, .int .i64 d, .int .u64 v, .int .i64 i, .bool t]] w fun o w' => o = .returned (.bool true) ∧ ∃ S', OkX s S' (j + 1) n ∧ Env W (LX I m u p cc c qq X k s b h l S') w' := by
  have hxu := LX.word hE
  have hml := hO.ml
  have hnn := hO.nn
  obtain ⟨y, hy⟩ : ∃ y, y = S.f (1, 0, 0) := ⟨_, rfl⟩
  rw [← hy] at hxu
  have HSAME := Lib.hid (hO.same.trans hy.symm)
  have HXU := Lib.hid hxu
  have HY := Lib.hid hy.symm
  have HML := Lib.hid (show S.ml.length ≤ 1000000 by omega)
  have HNN := Lib.hid (show S.nn < maxLen by unfold maxLen; omega)
  have HX1 := Lib.hid (show Wf (1, 0, 0) by unfold Wf In64; simp)
  have HO := fun (F G : Nat → Prop) => Lib.hid (hO.write (y := IntKind.u64.wrap (y + 1)) (F := F) (G := G) (q := { S.q with a := wrap64 (S.q.a + 1) }) rfl)
  have HO' := Lib.hid HO
  clear hO hy hxu hml HO hnn
  have hE1 := hE.box w.heap.size rfl [.int .i64 6, .int .u64 x, .int .i64 a, .int .i64 d, .int .u64 v, .int .i64 i, .bool t] 47
  clear hE
  have r0 := hE1.rule 0 rfl
  go_enter Tryd.func11, Tryd.ntmps11
  go_wp2_with fail
  clear r0
  generalize w.alloc _ = w1 at *
  generalize w.heap.size = B at *
  unfold LX at hE1
  refine (epoch_any _).mono ?_
  rintro o w2 ⟨rfl, hb⟩
  replace hE1 := hE1.over hb
  clear hb
  go_wp2_with fail
  have h1 := add_w 1 0 0 0 1 HX1.out HNN.out 5 6 (by decide) hE1 rfl rfl
  rw [HY.out] at h1
  refine h1.mono ?_
  rintro o w3 ⟨rfl, F3, hE3⟩
  simp only [List.set_cons_succ, List.set_cons_zero] at hE3
  clear hE1 h1
  generalize hYY : IntKind.u64.wrap (y + 1) = yy at *
  have HYY := Lib.hid hYY
  clear hYY
  go_wp2_with fail
  refine (epoch13_any _).mono ?_
  rintro o w4 ⟨rfl, hb⟩
  replace hE3 := hE3.over hb
  clear hb
  go_wp2_with fail
  refine (epoch13_any _).mono ?_
  rintro o w5 ⟨rfl, hb⟩
  replace hE3 := hE3.over hb
  clear hb
  go_wp2_with fail
  refine (refGet_any 1 0 0 HML.out (hE3.ref 2 rfl)).mono ?_
  rintro o w6 ⟨rfl, hb⟩
  rw [HSAME.out]
  replace hE3 := hE3.over hb
  clear hb
  go_wp2_with fail
  try rw [HYY.out]
  refine (refSet_any 1 0 0 yy HML.out (hE3.ref 2 rfl)).mono ?_
  rintro o w7 ⟨rfl, G7, hU, hs⟩
  have hE9 := hE3.turnU 2 rfl hU hs
  simp only [List.set_cons_succ, List.set_cons_zero] at hE9
  have HO := HO'.out F3 G7
  clear hE3 hU hs HO'
  go_wp2_with fail
  go_ret
  exact ⟨ret_bool (by simp), _, HO.out, hE9.sub (.cons _ (List.Sublist.refl _))⟩
set_option maxRecDepth 100000 in
set_option maxHeartbeats 3200000 in
theorem does_store (x a d v i : Int) (t : Bool) (hx : InU x) (hO : OkX s S j n) (hj : j ≤ 100) (hE : Env W (LX I m u p cc c qq X k s b h l S) w) :
    Calls Tryd.prog 11 #[.pointer (some ⟨c, 0, none⟩), .pointer (some ⟨u, 0, none⟩), .pointer (some ⟨p, 0, none⟩), .pointer (some ⟨m, 0, none⟩), .pointer (some ⟨I, 0, none⟩), .agg #[.int .i64 5, .int .u64 x, .int .i64 a, .int .i64 d, .int .u64 v, .int .i64 i, .bool t]] w fun o w' => o = .returned (.bool true) ∧ ∃ S', OkX s S' (j + 1) n ∧ Env W (LX I m u p cc c qq X k s b h l S') w' := by
  have hxu := LX.word hE
  have hml := hO.ml
  have hnn := hO.nn
  obtain ⟨y, hy⟩ : ∃ y, y = S.f (1, 0, 0) := ⟨_, rfl⟩
  rw [← hy] at hxu
  have HSAME := Lib.hid (hO.same.trans hy.symm)
  have HXU := Lib.hid hxu
  have HY := Lib.hid hy.symm
  have HML := Lib.hid (show S.ml.length ≤ 1000000 by omega)
  have HNN := Lib.hid (show S.nn < maxLen by unfold maxLen; omega)
  have HX1 := Lib.hid (show Wf (1, 0, 0) by unfold Wf In64; simp)
  have HO := fun (F G : Nat → Prop) => Lib.hid (hO.write (y := x) (F := F) (G := G) (q := { S.q with s := wrap64 (S.q.s + 1) }) rfl)
  have HO' := Lib.hid HO
  have HX := Lib.hid hx
  clear hO hy hxu hml hx HO hnn
  have hE1 := hE.box w.heap.size rfl [.int .i64 5, .int .u64 x, .int .i64 a, .int .i64 d, .int .u64 v, .int .i64 i, .bool t] 47
  clear hE
  have r0 := hE1.rule 0 rfl
  go_enter Tryd.func11, Tryd.ntmps11
  go_wp2_with fail
  clear r0
  generalize w.alloc _ = w1 at *
  generalize w.heap.size = B at *
  refine Ord.wp_chain [6] (fun w' => Blk 0 w' B [.int .i64 5, .int .u64 x, .int .i64 a, .int .i64 d, .int .u64 v, .int .i64 i, .bool t]) (fun g w' => ∃ F, Env W (boxI B [.int .i64 5, .int .u64 x, .int .i64 a, .int .i64 d, .int .u64 v, .int .i64 i, .bool t] :: LX I m u p cc c qq X k s b h l (if g = 0 then S else { S with f := upd S.f (1, 0, 0) x, F := F, q := { S.q with s := wrap64 (S.q.s + 1) }, nn := S.nn + 1 })) w') (by kernel_rfl) (by kernel_rfl) (by kernel_rfl) (hE1.drew.get 0 rfl) ⟨S.F, hE1.drew⟩ (fun hT => ?_)
  have hT9 := Lib.hid hT
  clear hT
  repeat (first
    | (refine Ord.ch_value (v := ?_) hT9.out (by decide) (by rfl) ?_ ?_; rotate_left; (focus (intro w5 hS; have r := Blk.rule hS; go_simp <;> with_reducible rfl)); (try simp only [Act.put, List.setIfInBounds_toArray, List.set_cons_zero, List.set_cons_succ]))
    | (refine Ord.ch_off hT9.out (by decide) (by rfl) ?_; (try simp only [Act.put, List.setIfInBounds_toArray, List.set_cons_zero, List.set_cons_succ]))
    | (refine Ord.ch_call (v := ?_) (f := ?_) (args := ?_) hT9.out (by decide) (by rfl) ?_ ?_ ?_; rotate_left 3; (focus (intro w5 hS; have r := Blk.rule hS; go_simp; constructor <;> with_reducible rfl)); (focus (intro w5 hS; (first | (with_reducible refine (epoch_any _).mono ?_; rintro o w6 ⟨rfl, hb6⟩; constructor; with_reducible rfl; exact ⟨hS.under hb6, fun _ h => h.elim fun F h => ⟨F, h.over hb6⟩⟩)))); (try simp only [Act.put, List.setIfInBounds_toArray, List.set_cons_zero, List.set_cons_succ])))
  refine Ord.ch_turn (v := .tuple #[]) 0 hT9.out rfl (by decide) (Or.inl rfl) (by rfl) ?_ ?_
  · rintro w5 hC5 ⟨F5, hA5⟩
    simp only [if_true] at hA5
    go_simp
    simp only [Ord.LandsIn]
    refine (store_w 1 0 0 0 x 0 false HX1.out HX.out HNN.out 5 6 (by decide) hA5 rfl rfl).mono ?_
    rintro o w6 ⟨rfl, F6, hE6⟩
    exact ⟨rfl, hE6.get 0 rfl, F6, hE6⟩
  (try simp only [Act.put, List.setIfInBounds_toArray, List.set_cons_zero, List.set_cons_succ])
  refine Ord.InText.nil fun w5 hS => ?_
  clear hT9
  obtain ⟨hC9, hA9⟩ := Ord.chain_end hS
  clear hS
  obtain ⟨F1, hE2⟩ := hA9
  simp only [List.length_cons, List.length_nil, Nat.zero_add, Nat.one_ne_zero, if_false] at hE2
  clear hE1 hC9
  go_wp2_with fail
  refine Ord.wp_chain [4] (fun w' => Blk 0 w' B [.int .i64 5, .int .u64 x, .int .i64 a, .int .i64 d, .int .u64 v, .int .i64 i, .bool t]) (fun g w' => ∃ G, Env W (boxI B [.int .i64 5, .int .u64 x, .int .i64 a, .int .i64 d, .int .u64 v, .int .i64 i, .bool t] :: LX I m u p cc c qq X k s b h l (if g = 0 then { S with f := upd S.f (1, 0, 0) x, F := F1, q := { S.q with s := wrap64 (S.q.s + 1) }, nn := S.nn + 1 } else { S with f := upd S.f (1, 0, 0) x, F := F1, q := { S.q with s := wrap64 (S.q.s + 1) }, nn := S.nn + 1, ml := setL S.ml (1, 0, 0) x, G := G })) w') (by kernel_rfl) (by kernel_rfl) (by kernel_rfl) (hE2.drew.get 0 rfl) ⟨S.G, hE2.drew⟩ (fun hT => ?_)
  have hT9 := Lib.hid hT
  clear hT
  repeat (first
    | (refine Ord.ch_value (v := ?_) hT9.out (by decide) (by rfl) ?_ ?_; rotate_left; (focus (intro w5 hS; have r := Blk.rule hS; go_simp <;> with_reducible rfl)); (try simp only [Act.put, List.setIfInBounds_toArray, List.set_cons_zero, List.set_cons_succ]))
    | (refine Ord.ch_off hT9.out (by decide) (by rfl) ?_; (try simp only [Act.put, List.setIfInBounds_toArray, List.set_cons_zero, List.set_cons_succ]))
    | (refine Ord.ch_call (v := ?_) (f := ?_) (args := ?_) hT9.out (by decide) (by rfl) ?_ ?_ ?_; rotate_left 3; (focus (intro w5 hS; have r := Blk.rule hS; go_simp; constructor <;> with_reducible rfl)); (focus (intro w5 hS; (first | (with_reducible refine (epoch13_any _).mono ?_; rintro o w6 ⟨rfl, hb6⟩; constructor; with_reducible rfl; exact ⟨hS.under hb6, fun _ h => h.elim fun F h => ⟨F, h.over hb6⟩⟩)))); (try simp only [Act.put, List.setIfInBounds_toArray, List.set_cons_zero, List.set_cons_succ])))
  refine Ord.ch_turn (v := .tuple #[]) 0 hT9.out rfl (by decide) (Or.inl rfl) (by rfl) ?_ ?_
  · rintro w5 hC5 ⟨F5, hA5⟩
    simp only [if_true] at hA5
    go_simp
    simp only [Ord.LandsIn]
    refine (refSet_any 1 0 0 x HML.out (hA5.ref 2 rfl)).mono ?_
    rintro o w6 ⟨rfl, G6, hU, hs⟩
    have hE6 := hA5.turnU 2 rfl hU hs
    exact ⟨rfl, hE6.get 0 rfl, G6, hE6⟩
  (try simp only [Act.put, List.setIfInBounds_toArray, List.set_cons_zero, List.set_cons_succ])
  refine Ord.InText.nil fun w5 hS => ?_
  clear hT9
  obtain ⟨hC9, hA9⟩ := Ord.chain_end hS
  clear hS
  obtain ⟨G1, hE9⟩ := hA9
  simp only [List.length_cons, List.length_nil, Nat.zero_add, Nat.one_ne_zero, if_false] at hE9
  have HO := HO'.out F1 G1
  clear hE2 hC9 HO'
  go_wp2_with fail
  go_ret
  exact ⟨ret_bool (by simp), _, HO.out, hE9.sub (.cons _ (List.Sublist.refl _))⟩
end
end Go.Proofs.YtlhhnaccigamjaaDoor

/- A thread and the reference's beside it: the links of both. -/
namespace Go.Proofs.YtlhhnaccigamjaaDoor
open Go.RowKit Go.Maps
set_option maxRecDepth 100000

section
variable {W w : World} {I m u p cc c qq X : Nat} {k s b h l : Int} {S : SX} {j n : Nat}
set_option maxRecDepth 100000 in
set_option maxHeartbeats 3200000 in
theorem does_to (x a d v i : Int) (t : Bool) (hg : Glo W) (hO : OkX s S j n) (hE : Env W (LX I m u p cc c qq X k s b h l S) w) :
    Calls Tryd.prog 11 #[.pointer (some ⟨c, 0, none⟩), .pointer (some ⟨u, 0, none⟩), .pointer (some ⟨p, 0, none⟩), .pointer (some ⟨m, 0, none⟩), .pointer (some ⟨I, 0, none⟩), .agg #[.int .i64 7, .int .u64 x, .int .i64 a, .int .i64 d, .int .u64 v, .int .i64 i, .bool t]] w fun o w' => o = .returned (.bool true) ∧ ∃ S', OkX s S' (j + 1) n ∧ Env W (LX I m u p cc c qq X k s b h l S') w' := by
  have HO := Lib.hid hO.step
  have HG := Lib.hid hg
  clear hO hg
  have hE1 := hE.box w.heap.size rfl [.int .i64 7, .int .u64 x, .int .i64 a, .int .i64 d, .int .u64 v, .int .i64 i, .bool t] 47
  clear hE
  have r0 := hE1.rule 0 rfl
  go_enter Tryd.func11, Tryd.ntmps11
  go_wp2_with fail
  clear r0
  generalize w.alloc _ = w1 at *
  generalize w.heap.size = B at *
  obtain ⟨z, hz⟩ : ∃ z, z = wordI false a S.e := ⟨_, rfl⟩
  have HTO : Hid (∀ y, Env W (boxI B [.int .i64 7, .int .u64 x, .int .i64 a, .int .i64 d, .int .u64 v, .int .i64 i, .bool t] :: LX I m u p cc c qq X k s b h l S) y → Calls Tryd.prog 24 #[.pointer (some ⟨c, 0, none⟩), .agg #[.int .i64 a, .int .i64 d]] y fun o w' => o = .returned (.agg #[.int .u64 z, .int .i64 d, .bool false]) ∧ Below y.heap.size y w') := Lib.hid fun y hy => by
    rw [hz]; exact to_c a d (HG.out.keep' hy.below) (hy.get 7 rfl)
  have HRT : Hid (∀ y, Env W (boxI B [.int .i64 7, .int .u64 x, .int .i64 a, .int .i64 d, .int .u64 v, .int .i64 i, .bool t] :: LX I m u p cc c qq X k s b h l S) y → Calls Tryd.prog 45 #[.pointer (some ⟨u, 0, none⟩), .int .i64 a] y fun o w' => o = .returned (.int .u64 z) ∧ Below y.heap.size y w') := Lib.hid fun y hy => by
    rw [hz]; exact rto_c a (hy.get 3 rfl)
  clear hz
  refine wp_text (S := (Env W (boxI B [.int .i64 7, .int .u64 x, .int .i64 a, .int .i64 d, .int .u64 v, .int .i64 i, .bool t] :: LX I m u p cc c qq X k s b h l S))) (by kernel_rfl) (by kernel_rfl) hE1.drew (fun hT => ?_)
  have hT9 := Lib.hid hT
  clear hT
  repeat (first
    | (refine text_value (v := ?_) hT9.out (by rfl) ?_ ?_; rotate_left; (focus (intro w5 hS; have r1 := hS.rule 0 rfl; go_simp <;> with_reducible rfl)); (try simp only [Act.put, List.setIfInBounds_toArray, List.set_cons_zero, List.set_cons_succ]))
    | (refine text_off hT9.out (by rfl) ?_; (try simp only [Act.put, List.setIfInBounds_toArray, List.set_cons_zero, List.set_cons_succ]))
    | (refine text_call (v := ?_) (f := ?_) (args := ?_) hT9.out (by rfl) ?_ ?_ ?_; rotate_left 3; (focus (intro w5 hS; have r1 := hS.rule 0 rfl; go_simp; constructor <;> with_reducible rfl)); (focus (intro w5 hS; (first | (with_reducible refine (HTO.out _ hS).mono ?_; rintro o w6 ⟨rfl, hb5⟩; constructor; with_reducible rfl; exact hS.over hb5) | (with_reducible refine (HRT.out _ hS).mono ?_; rintro o w6 ⟨rfl, hb5⟩; constructor; with_reducible rfl; exact hS.over hb5)))); (try simp only [Act.put, List.setIfInBounds_toArray, List.set_cons_zero, List.set_cons_succ])))
  refine InText.nil fun w5 hS5 => ?_
  clear hT9
  clear hE1
  have hE9 := hS5
  clear hS5
  go_wp2_with fail
  go_ret
  exact ⟨ret_bool (by simp), _, HO.out, hE9.sub (.cons _ (List.Sublist.refl _))⟩
theorem OrdF.AF.over {w0 w w' : World} {z0 : List Value} {St : List Value → List Item → List Value → Prop} {κs : List Value} {fo : Option Value} (h : OrdF.AF w0 z0 St κs fo w) (hb : Below w.heap.size w w') : OrdF.AF w0 z0 St κs fo w' := by
  obtain ⟨L, zs, hst, ⟨h1, h2, hE⟩ | ⟨n, h1, hE⟩⟩ := h
  · exact ⟨L, zs, hst, .inl ⟨h1, h2, hE.over hb⟩⟩
  · exact ⟨L, zs, hst, .inr ⟨n, h1, hE.over hb⟩⟩
set_option maxRecDepth 100000 in
set_option maxHeartbeats 3200000 in
theorem does_mark (x a d v i : Int) (t : Bool) (hv : InU v) (hg : Glo W) (hO : OkX s S j n) (hE : Env W (LX I m u p cc c qq X k s b h l S) w) :
    Calls Tryd.prog 11 #[.pointer (some ⟨c, 0, none⟩), .pointer (some ⟨u, 0, none⟩), .pointer (some ⟨p, 0, none⟩), .pointer (some ⟨m, 0, none⟩), .pointer (some ⟨I, 0, none⟩), .agg #[.int .i64 8, .int .u64 x, .int .i64 a, .int .i64 d, .int .u64 v, .int .i64 i, .bool t]] w fun o w' => o = .returned (.bool true) ∧ ∃ S', OkX s S' (j + 1) n ∧ Env W (LX I m u p cc c qq X k s b h l S') w' := by
  have HO := Lib.hid hO.step
  have HG := Lib.hid hg
  have HV := Lib.hid hv
  clear hO hg hv
  have hE1 := hE.box w.heap.size rfl [.int .i64 8, .int .u64 x, .int .i64 a, .int .i64 d, .int .u64 v, .int .i64 i, .bool t] 47
  clear hE
  have r0 := hE1.rule 0 rfl
  go_enter Tryd.func11, Tryd.ntmps11
  go_wp2_with fail
  clear r0
  generalize w.alloc _ = w1 at *
  generalize w.heap.size = B at *
  obtain ⟨z, hz⟩ : ∃ z, z = markedW v a S.e := ⟨_, rfl⟩
  have HRM : Hid (∀ y, Blk 0 y u (urv k s b h l S.e S.A (rl S.ql).length S.cp S.N S.hs S.r) → Calls Tryd.prog 46 #[.pointer (some ⟨u, 0, none⟩), .int .u64 v, .int .i64 a] y fun o w' => o = .returned (.int .u64 z) ∧ Below y.heap.size y w') := Lib.hid fun y hy => by
    rw [hz]; exact rmark_c v a HV.out hy
  have HZ := Lib.hid hz
  clear hz
  refine OrdF.wp_float [?_, ?_, ?_, ?_, ?_, ?_, ?_, ?_, ?_, ?_, ?_, ?_, OrdF.Ptr, ?_] [13] 12 (fun w' => Blk 0 w' B [.int .i64 8, .int .u64 x, .int .i64 a, .int .i64 d, .int .u64 v, .int .i64 i, .bool t] ∧ Blk 0 w' u (urv k s b h l S.e S.A (rl S.ql).length S.cp S.N S.hs S.r)) (OrdF.AF W [.int .u64 0, .int .i64 0, .bool false] (OrdF.Sta [fun M zs => M = boxI B [.int .i64 8, .int .u64 x, .int .i64 a, .int .i64 d, .int .u64 v, .int .i64 i, .bool t] :: LX I m u p cc c qq X k s b h l S ∧ zs = [.int .u64 0, .int .i64 0, .bool false], fun M zs => M = boxI B [.int .i64 8, .int .u64 x, .int .i64 a, .int .i64 d, .int .u64 v, .int .i64 i, .bool t] :: LX I m u p cc c qq X k s b h l S ∧ zs = [.int .u64 z, .int .i64 d, .bool false]])) (by kernel_rfl) (by kernel_rfl) (by kernel_rfl) ⟨hE1.drew.get 0 rfl, hE1.drew.get 3 rfl⟩ ⟨_, _, ⟨_, rfl, rfl, rfl⟩, .inl ⟨rfl, rfl, hE1.drew⟩⟩ (fun hT => ?_)
  rotate_left 13
  have hT9 := Lib.hid hT
  clear hT
  repeat (first
    | (focus (refine OrdF.in_value (v := ?_) hT9.out (by decide) (by decide) ?_ (by rfl) ?_ ?_; rotate_left 2; (focus (intro w5 hS; have r := hS.1.rule; go_simp <;> with_reducible rfl)); rotate_right; (focus rfl); (try simp only [Act.put, List.setIfInBounds_toArray, List.set_cons_zero, List.set_cons_succ])))
    | (focus (refine OrdF.in_off hT9.out (by decide) (by decide) ?_ (by rfl) ?_; (focus rfl); (try simp only [Act.put, List.setIfInBounds_toArray, List.set_cons_zero, List.set_cons_succ]))))
  focus (refine OrdF.in_call (v := .int .u64 z) (f := ?_) (args := ?_) hT9.out (by decide) (by decide) ?_ (by rfl) ?_ ?_ ?_; rotate_left 2; (focus rfl); (focus (intro w5 hS; have r := hS.1.rule; go_simp; constructor <;> with_reducible rfl)); (focus (intro w5 hS; refine (HRM.out _ hS.2).mono ?_; rintro o w6 ⟨rfl, hb6⟩; exact ⟨rfl, ⟨hS.1.under hb6, hS.2.under hb6⟩, fun _ _ h => h.over hb6⟩)); (try simp only [Act.put, List.setIfInBounds_toArray, List.set_cons_zero, List.set_cons_succ]))
  repeat (first
    | (focus (refine OrdF.in_value (v := ?_) hT9.out (by decide) (by decide) ?_ (by rfl) ?_ ?_; rotate_left 2; (focus (intro w5 hS; have r := hS.1.rule; go_simp <;> with_reducible rfl)); rotate_right; (focus rfl); (try simp only [Act.put, List.setIfInBounds_toArray, List.set_cons_zero, List.set_cons_succ])))
    | (focus (refine OrdF.in_off hT9.out (by decide) (by decide) ?_ (by rfl) ?_; (focus rfl); (try simp only [Act.put, List.setIfInBounds_toArray, List.set_cons_zero, List.set_cons_succ]))))
  refine OrdF.in_float OrdF.Ptr (.pointer (some ⟨0, 0, none⟩)) ⟨0, rfl⟩ hT9.out rfl (by decide) ?_ (by rfl) ?_ ?_
  · rfl
  · intro w5 κs5 hC5 hA5
    go_simp
    simp only [Ord3.Lands]
    exact ⟨⟨_, rfl⟩, ⟨hC5.1.more _, hC5.2.more _⟩, hA5.up _⟩
  rintro _ ⟨Z, rfl⟩
  (try simp only [Act.put, List.setIfInBounds_toArray, List.set_cons_zero, List.set_cons_succ])
  refine OrdF.in_turn_late (by kernel_rfl) (by decide) (by decide) (fun u => u = undef) (undef) rfl hT9.out rfl (by decide) (by rfl) ?_ (.inl rfl) (by rfl) ?_ ?_
  · rfl
  · rintro w5 hC5 ⟨M5, z5, ⟨P5, hP5, hM5⟩, ⟨hn5, _⟩ | ⟨n5, hn5, hE5⟩⟩
    · cases hn5
    cases hn5
    cases hP5
    obtain ⟨rfl, rfl⟩ := hM5
    have r := hE5.rule 0 rfl; have ff := hE5.thaw 0 rfl; have f0 := ff 0 (by simp); have f1 := ff 1 (by simp); have f2 := ff 2 (by simp); clear ff
    go_simp
    have hE6 := hE5.put3 0 rfl (.int .u64 z) (.int .i64 d) (.bool false); exact ⟨rfl, ⟨hE6.get 1 rfl, hE6.get 4 rfl⟩, _, _, ⟨_, rfl, rfl, rfl⟩, .inr ⟨_, rfl, hE6⟩⟩
  rintro _ rfl
  (try simp only [Act.put, List.setIfInBounds_toArray, List.set_cons_zero, List.set_cons_succ])
  refine OrdF.in_nil rfl (by decide) (by decide) ?_
  rintro w5 hC5 ⟨M5, z5, ⟨P5, hP5, hM5⟩, ⟨hn5, _⟩ | ⟨n5, hn5, hE5⟩⟩
  · cases hn5
  cases hn5
  cases hP5
  obtain ⟨rfl, rfl⟩ := hM5
  clear hT9
  clear hE1 hC5 HRM
  have r0 := hE5.rule 1 rfl
  go_wp2_with fail
  refine (refOf_any v _ HV.out.1 HV.out.2).mono ?_
  rintro o w6 ⟨rfl, hb⟩
  replace hE5 := hE5.over hb
  clear hb r0
  have hfm : ∀ (v : World) (m : Bool) (s b : Int), (Instr.field 73 (.agg #[.bool m, .int .i64 s, .int .i64 b]) 0).run Tryd.prog v = .ok (.bool m) v := fun v m s b => by kernel_rfl
  have r0 := hE5.rule 1 rfl
  have rz := hE5.rule 0 rfl
  have ff := hE5.thaw 0 rfl
  have f0 := ff 0 (by simp)
  have f1 := ff 1 (by simp)
  have f2 := ff 2 (by simp)
  clear ff
  cases hm : markB v
  · have hz2 : z = wordI true a S.e := by rw [HZ.out]; simp [markedW, hm]
    have HC : Hid (∀ y, Env W (boxI Z [.int .u64 z, .int .i64 d, .bool false] :: boxI B [.int .i64 8, .int .u64 x, .int .i64 a, .int .i64 d, .int .u64 v, .int .i64 i, .bool t] :: LX I m u p cc c qq X k s b h l S) y → Calls Tryd.prog 25 #[.pointer (some ⟨c, 0, none⟩), .agg #[.int .u64 v, .int .i64 i, .bool t], .agg #[.int .i64 a, .int .i64 d]] y fun o w' => o = .returned (.agg #[.int .u64 z, .int .i64 d, .bool false]) ∧ Below y.heap.size y w') := Lib.hid fun y hy => by
      rw [hz2]; exact markNew_c v i t a d HV.out hm (HG.out.keep' hy.below) (hy.get 8 rfl)
    clear hm hz2
    go_wp2_with fail
    clear r0 rz f0 f1 f2 hfm
    refine wp_text (S := (Env W (boxI Z [.int .u64 z, .int .i64 d, .bool false] :: boxI B [.int .i64 8, .int .u64 x, .int .i64 a, .int .i64 d, .int .u64 v, .int .i64 i, .bool t] :: LX I m u p cc c qq X k s b h l S))) (by kernel_rfl) (by kernel_rfl) hE5.drew (fun hT => ?_)
    have hT9 := Lib.hid hT
    clear hT
    repeat (first
      | (refine text_value (v := ?_) hT9.out (by rfl) ?_ ?_; rotate_left; (focus (intro w5 hS; have r1 := hS.rule 1 rfl; have r2 := hS.rule 0 rfl; go_simp <;> with_reducible rfl)); (try simp only [Act.put, List.setIfInBounds_toArray, List.set_cons_zero, List.set_cons_succ]))
      | (refine text_off hT9.out (by rfl) ?_; (try simp only [Act.put, List.setIfInBounds_toArray, List.set_cons_zero, List.set_cons_succ]))
      | (refine text_call (v := ?_) (f := ?_) (args := ?_) hT9.out (by rfl) ?_ ?_ ?_; rotate_left 3; (focus (intro w5 hS; have r1 := hS.rule 1 rfl; have r2 := hS.rule 0 rfl; go_simp; constructor <;> with_reducible rfl)); (focus (intro w5 hS; (first | (with_reducible refine (HC.out _ hS).mono ?_; rintro o w6 ⟨rfl, hb5⟩; constructor; with_reducible rfl; exact hS.over hb5)))); (try simp only [Act.put, List.setIfInBounds_toArray, List.set_cons_zero, List.set_cons_succ])))
    refine InText.nil fun w5 hS5 => ?_
    clear hT9
    clear hE5 HC
    have hE9 := hS5.sub (L' := boxI B [.int .i64 8, .int .u64 x, .int .i64 a, .int .i64 d, .int .u64 v, .int .i64 i, .bool t] :: LX I m u p cc c qq X k s b h l S) (.cons _ (List.Sublist.refl _))
    clear hS5
    go_wp2_with fail
    go_ret
    exact ⟨ret_bool (by simp), _, HO.out, hE9.sub (.cons _ (List.Sublist.refl _))⟩
  · have HC : Hid (∀ y, Env W (boxI Z [.int .u64 v, .int .i64 i, .bool t] :: boxI B [.int .i64 8, .int .u64 x, .int .i64 a, .int .i64 d, .int .u64 v, .int .i64 i, .bool t] :: LX I m u p cc c qq X k s b h l S) y → Calls Tryd.prog 25 #[.pointer (some ⟨c, 0, none⟩), .agg #[.int .u64 v, .int .i64 i, .bool t], .agg #[.int .i64 a, .int .i64 d]] y fun o w' => o = .returned (.agg #[.int .u64 v, .int .i64 i, .bool t]) ∧ Below y.heap.size y w') := Lib.hid fun y hy =>
      markStays_c v i t a d HV.out hm (HG.out.keep' hy.below) (hy.get 8 rfl)
    clear hm
    go_upto_region 22 with fail
    clear r0 rz f0 f1 f2 hfm
    have hE6 := hE5.put3 0 rfl (.int .u64 v) (.int .i64 i) (.bool t)
    simp only [List.set_cons_zero] at hE6
    clear hE5
    refine wp_text (S := (Env W (boxI Z [.int .u64 v, .int .i64 i, .bool t] :: boxI B [.int .i64 8, .int .u64 x, .int .i64 a, .int .i64 d, .int .u64 v, .int .i64 i, .bool t] :: LX I m u p cc c qq X k s b h l S))) (by kernel_rfl) (by kernel_rfl) hE6.drew (fun hT => ?_)
    have hT9 := Lib.hid hT
    clear hT
    repeat (first
      | (refine text_value (v := ?_) hT9.out (by rfl) ?_ ?_; rotate_left; (focus (intro w5 hS; have r1 := hS.rule 1 rfl; have r2 := hS.rule 0 rfl; go_simp <;> with_reducible rfl)); (try simp only [Act.put, List.setIfInBounds_toArray, List.set_cons_zero, List.set_cons_succ]))
      | (refine text_off hT9.out (by rfl) ?_; (try simp only [Act.put, List.setIfInBounds_toArray, List.set_cons_zero, List.set_cons_succ]))
      | (refine text_call (v := ?_) (f := ?_) (args := ?_) hT9.out (by rfl) ?_ ?_ ?_; rotate_left 3; (focus (intro w5 hS; have r1 := hS.rule 1 rfl; have r2 := hS.rule 0 rfl; go_simp; constructor <;> with_reducible rfl)); (focus (intro w5 hS; (first | (with_reducible refine (HC.out _ hS).mono ?_; rintro o w6 ⟨rfl, hb5⟩; constructor; with_reducible rfl; exact hS.over hb5)))); (try simp only [Act.put, List.setIfInBounds_toArray, List.set_cons_zero, List.set_cons_succ])))
    refine InText.nil fun w5 hS5 => ?_
    clear hT9
    clear hE6 HC
    have hE9 := hS5.sub (L' := boxI B [.int .i64 8, .int .u64 x, .int .i64 a, .int .i64 d, .int .u64 v, .int .i64 i, .bool t] :: LX I m u p cc c qq X k s b h l S) (.cons _ (List.Sublist.refl _))
    clear hS5
    go_wp2_with fail
    go_ret
    exact ⟨ret_bool (by simp), _, HO.out, hE9.sub (.cons _ (List.Sublist.refl _))⟩
end
end Go.Proofs.YtlhhnaccigamjaaDoor

/- A thread and the reference's beside it: what both hold. -/
namespace Go.Proofs.YtlhhnaccigamjaaDoor
open Go.RowKit Go.Maps
set_option maxRecDepth 100000

section
variable {W w : World} {I m u p cc c qq X : Nat} {k s b h l : Int} {S : SX} {j n : Nat}
set_option maxRecDepth 100000 in
set_option maxHeartbeats 3200000 in
theorem does_else (kd x a d v i : Int) (t : Bool) (hkd : kd < 1 ∨ 11 < kd) (hO : OkX s S j n) (hE : Env W (LX I m u p cc c qq X k s b h l S) w) :
    Calls Tryd.prog 11 #[.pointer (some ⟨c, 0, none⟩), .pointer (some ⟨u, 0, none⟩), .pointer (some ⟨p, 0, none⟩), .pointer (some ⟨m, 0, none⟩), .pointer (some ⟨I, 0, none⟩), .agg #[.int .i64 kd, .int .u64 x, .int .i64 a, .int .i64 d, .int .u64 v, .int .i64 i, .bool t]] w fun o w' => o = .returned (.bool true) ∧ ∃ S', OkX s S' (j + 1) n ∧ Env W (LX I m u p cc c qq X k s b h l S') w' := by
  have HO := Lib.hid hO.step
  have h1 : (kd == 1) = false := by simp; omega
  have h2 : (kd == 2) = false := by simp; omega
  have h3 : (kd == 3) = false := by simp; omega
  have h4 : (kd == 4) = false := by simp; omega
  have h5 : (kd == 5) = false := by simp; omega
  have h6 : (kd == 6) = false := by simp; omega
  have h7 : (kd == 7) = false := by simp; omega
  have h8 : (kd == 8) = false := by simp; omega
  have h9 : (kd == 9) = false := by simp; omega
  have h10 : (kd == 10) = false := by simp; omega
  have h11 : (kd == 11) = false := by simp; omega
  clear hkd hO
  have hE1 := hE.box w.heap.size rfl [.int .i64 kd, .int .u64 x, .int .i64 a, .int .i64 d, .int .u64 v, .int .i64 i, .bool t] 47
  clear hE
  have r0 := hE1.rule 0 rfl
  go_enter Tryd.func11, Tryd.ntmps11
  go_wp2_with fail
  have hE9 := hE1
  go_ret
  exact ⟨ret_bool (by simp), _, HO.out, hE9.sub (.cons _ (List.Sublist.refl _))⟩
set_option maxRecDepth 100000 in
set_option maxHeartbeats 3200000 in
theorem does_hold (x a d v i : Int) (t : Bool) (hO : OkX s S j n) (hE : Env W (LX I m u p cc c qq X k s b h l S) w) :
    Calls Tryd.prog 11 #[.pointer (some ⟨c, 0, none⟩), .pointer (some ⟨u, 0, none⟩), .pointer (some ⟨p, 0, none⟩), .pointer (some ⟨m, 0, none⟩), .pointer (some ⟨I, 0, none⟩), .agg #[.int .i64 9, .int .u64 x, .int .i64 a, .int .i64 d, .int .u64 v, .int .i64 i, .bool t]] w fun o w' => o = .returned (.bool true) ∧ ∃ S', OkX s S' (j + 1) n ∧ Env W (LX I m u p cc c qq X k s b h l S') w' := by
  have hE1 := hE.box w.heap.size rfl [.int .i64 9, .int .u64 x, .int .i64 a, .int .i64 d, .int .u64 v, .int .i64 i, .bool t] 47
  clear hE
  have r0 := hE1.rule 0 rfl
  go_enter Tryd.func11, Tryd.ntmps11
  go_wp2_with fail
  clear r0
  generalize w.alloc _ = w1 at *
  generalize w.heap.size = B at *
  by_cases hh : S.hs = 0
  · by_cases ha : 1 ≤ a ∧ a ≤ s
    · have HO : Hid (OkX s { S with hs := a, hi := d, idv := d } (j + 1) n) := Lib.hid ⟨Nat.le_succ_of_le hO.ql, Nat.le_succ_of_le hO.ml, Nat.le_succ_of_le hO.nn, hO.loads, by have := hO.loadsLe; omega, hO.room, hO.ep, .inr ⟨ha.1, ha.2, rfl⟩, hO.same, hO.ret⟩
      have h1 := holdYes_c a d hh ha 7 hE1 rfl
      have hd1 : decide (a < 1) = false := by simp; omega
      have hd2 : decide (s < a) = false := by simp; omega
      have hn0 : (S.hs != 0) = false := by simp [hh]
      have HH := Lib.hid hh
      clear hO hh ha
      refine h1.mono ?_
      rintro o w2 ⟨rfl, hE2⟩
      clear hE1 h1
      unfold LX at hE2
      simp only [List.set_cons_succ, List.set_cons_zero] at hE2
      have HCU : Hid (∀ y, Env W [boxI B [.int .i64 9, .int .u64 x, .int .i64 a, .int .i64 d, .int .u64 v, .int .i64 i, .bool t], boxI I [.int .i64 S.idv], refI m S.G S.ml, boxI u (urv k s b h l S.e S.A (rl S.ql).length S.cp S.N S.hs S.r), rrI S.A S.cp (rl S.ql), wbox p cc, cellI cc S.F S.f S.q S.nn, coreI c k s b h l S.e S.r a d qq, queueI qq S.FQ S.ql S.kq, boxI X [.int .i64 k, .int .i64 s, .int .i64 b, .int .i64 h, .int .i64 l]] y → y.cell? ⟨u, 1, none⟩ = some (.int .i64 s)) := Lib.hid fun y hy => hy.rule 3 rfl 1
      have ru := hE2.rule 3 rfl
      unfold urv at ru
      go_wp2_with fail
      clear ru
      refine wp_text (S := (Env W [boxI B [.int .i64 9, .int .u64 x, .int .i64 a, .int .i64 d, .int .u64 v, .int .i64 i, .bool t], boxI I [.int .i64 S.idv], refI m S.G S.ml, boxI u (urv k s b h l S.e S.A (rl S.ql).length S.cp S.N S.hs S.r), rrI S.A S.cp (rl S.ql), wbox p cc, cellI cc S.F S.f S.q S.nn, coreI c k s b h l S.e S.r a d qq, queueI qq S.FQ S.ql S.kq, boxI X [.int .i64 k, .int .i64 s, .int .i64 b, .int .i64 h, .int .i64 l]])) (by kernel_rfl) (by kernel_rfl) hE2.drew (fun hT => ?_)
      have hT9 := Lib.hid hT
      clear hT
      repeat (first
        | (refine text_value (v := ?_) hT9.out (by rfl) ?_ ?_; rotate_left; (focus (intro w5 hS; have r1 := HCU.out _ hS; have r2 := hS.rule 0 rfl; go_simp <;> with_reducible rfl)); (try simp only [Act.put, List.setIfInBounds_toArray, List.set_cons_zero, List.set_cons_succ]))
        | (refine text_off hT9.out (by rfl) ?_; (try simp only [Act.put, List.setIfInBounds_toArray, List.set_cons_zero, List.set_cons_succ]))
        | (refine text_call (v := ?_) (f := ?_) (args := ?_) hT9.out (by rfl) ?_ ?_ ?_; rotate_left 3; (focus (intro w5 hS; have r1 := HCU.out _ hS; have r2 := hS.rule 0 rfl; go_simp; constructor <;> with_reducible rfl)); (focus (intro w5 hS; (first | fail))); (try simp only [Act.put, List.setIfInBounds_toArray, List.set_cons_zero, List.set_cons_succ])))
      refine InText.nil fun w5 hS5 => ?_
      clear hT9
      clear hE2 HCU
      have hE2 := hS5
      clear hS5
      have r0 := hE2.rule 0 rfl
      have ru := hE2.rule 3 rfl
      unfold urv at ru
      have f8 := hE2.thaw 3 rfl 8 (by simp [urv])
      have ri := hE2.rule 1 rfl
      have fi := hE2.thaw 1 rfl 0 (by simp)
      have hne : I ≠ u := fun e => (hE2.off (i := 1) (j := 3) rfl rfl (by omega)) I rfl e
      have hne1 : B ≠ u := fun e => (hE2.off (i := 0) (j := 3) rfl rfl (by omega)) B rfl e
      have hne2 : B ≠ I := fun e => (hE2.off (i := 0) (j := 1) rfl rfl (by omega)) B rfl e
      go_wp2_with fail
      have hE3 := hE2.put 3 rfl (j := 8) (by simp [urv]) (.int .i64 a)
      have hE4 := hE3.put 1 rfl (j := 0) (by simp) (.int .i64 d)
      have hE9 : Env W (boxI B [.int .i64 9, .int .u64 x, .int .i64 a, .int .i64 d, .int .u64 v, .int .i64 i, .bool t] :: LX I m u p cc c qq X k s b h l { S with hs := a, hi := d, idv := d }) _ := hE4
      clear hE2 hE3 hE4
      go_ret
      exact ⟨ret_bool (by simp), _, HO.out, hE9.sub (.cons _ (List.Sublist.refl _))⟩
    · have HO := Lib.hid hO.step
      have h1 := holdArg_c a d hh (by omega) (hE1.get 7 rfl)
      have hn0 : (S.hs != 0) = false := by simp [hh]
      have hdd : (decide (a < 1) = true) ∨ (decide (a < 1) = false ∧ decide (s < a) = true) := by
        simp only [decide_eq_true_eq, decide_eq_false_iff_not]; omega
      clear hO hh ha
      refine h1.mono ?_
      rintro o w2 ⟨rfl, hb⟩
      replace hE1 := hE1.over hb
      clear hb h1
      have HCU : Hid (∀ y, Env W (boxI B [.int .i64 9, .int .u64 x, .int .i64 a, .int .i64 d, .int .u64 v, .int .i64 i, .bool t] :: LX I m u p cc c qq X k s b h l S) y → y.cell? ⟨u, 1, none⟩ = some (.int .i64 s)) := Lib.hid fun y hy => hy.rule 3 rfl 1
      have ru := hE1.rule 3 rfl
      unfold urv at ru
      go_wp2_with fail
      clear ru
      rcases hdd with hd1 | ⟨hd1, hd2⟩
      all_goals
        refine wp_text (S := (Env W (boxI B [.int .i64 9, .int .u64 x, .int .i64 a, .int .i64 d, .int .u64 v, .int .i64 i, .bool t] :: LX I m u p cc c qq X k s b h l S))) (by kernel_rfl) (by kernel_rfl) hE1.drew (fun hT => ?_)
        have hT9 := Lib.hid hT
        clear hT
        repeat (first
          | (refine text_value (v := ?_) hT9.out (by rfl) ?_ ?_; rotate_left; (focus (intro w5 hS; have r1 := HCU.out _ hS; have r2 := hS.rule 0 rfl; go_simp <;> with_reducible rfl)); (try simp only [Act.put, List.setIfInBounds_toArray, List.set_cons_zero, List.set_cons_succ]))
          | (refine text_off hT9.out (by rfl) ?_; (try simp only [Act.put, List.setIfInBounds_toArray, List.set_cons_zero, List.set_cons_succ]))
          | (refine text_call (v := ?_) (f := ?_) (args := ?_) hT9.out (by rfl) ?_ ?_ ?_; rotate_left 3; (focus (intro w5 hS; have r1 := HCU.out _ hS; have r2 := hS.rule 0 rfl; go_simp; constructor <;> with_reducible rfl)); (focus (intro w5 hS; (first | fail))); (try simp only [Act.put, List.setIfInBounds_toArray, List.set_cons_zero, List.set_cons_succ])))
        refine InText.nil fun w5 hS5 => ?_
        clear hT9
        clear hE1 HCU
        have hE9 := hS5
        clear hS5
        go_wp2_with fail
        go_ret
        exact ⟨ret_bool (by simp), _, HO.out, hE9.sub (.cons _ (List.Sublist.refl _))⟩
  · have HO := Lib.hid hO.step
    have h1 := holdState_c a d hh (hE1.get 7 rfl)
    have hn0 : (S.hs != 0) = true := by simp [hh]
    clear hO hh
    refine h1.mono ?_
    rintro o w2 ⟨rfl, hb⟩
    replace hE1 := hE1.over hb
    clear hb h1
    have ru := hE1.rule 3 rfl
    unfold urv at ru
    go_wp2_with fail
    have hE9 := hE1
    clear hE1
    go_ret
    exact ⟨ret_bool (by simp), _, HO.out, hE9.sub (.cons _ (List.Sublist.refl _))⟩
end
end Go.Proofs.YtlhhnaccigamjaaDoor

/- A thread and the reference's beside it: what both hold. -/
namespace Go.Proofs.YtlhhnaccigamjaaDoor
open Go.RowKit Go.Maps
set_option maxRecDepth 100000

section
variable {W w : World} {I m u p cc c qq X : Nat} {k s b h l : Int} {S : SX} {j n : Nat}
theorem roomN_in {N : Int} {n : Nat} (h0 : 0 ≤ N) (h1 : N ≤ 2 * n + 4) : 0 ≤ roomN (room0 N) (n + 1) ∧ roomN (room0 N) (n + 1) ≤ 2 * (n + 1) + 4 := by
  unfold roomN room0
  split <;> split <;> omega
set_option maxRecDepth 100000 in
set_option maxHeartbeats 3200000 in
theorem does_take (x a d v i : Int) (t : Bool) (hO : OkX s S j n) (hE : Env W (LX I m u p cc c qq X k s b h l S) w) :
    Calls Tryd.prog 11 #[.pointer (some ⟨c, 0, none⟩), .pointer (some ⟨u, 0, none⟩), .pointer (some ⟨p, 0, none⟩), .pointer (some ⟨m, 0, none⟩), .pointer (some ⟨I, 0, none⟩), .agg #[.int .i64 10, .int .u64 x, .int .i64 a, .int .i64 d, .int .u64 v, .int .i64 i, .bool t]] w fun o w' => o = .returned (.bool true) ∧ ∃ S', OkX s S' (j + 1) n ∧ Env W (LX I m u p cc c qq X k s b h l S') w' := by
  have hE1 := hE.box w.heap.size rfl [.int .i64 10, .int .u64 x, .int .i64 a, .int .i64 d, .int .u64 v, .int .i64 i, .bool t] 47
  clear hE
  have r0 := hE1.rule 0 rfl
  go_enter Tryd.func11, Tryd.ntmps11
  go_wp2_with fail
  clear r0
  generalize w.alloc _ = w1 at *
  generalize w.heap.size = B at *
  have HO : ∀ iv, Hid (OkX s { S with hs := 0, hi := 0, idv := iv } (j + 1) n) := fun iv => Lib.hid ⟨Nat.le_succ_of_le hO.ql, Nat.le_succ_of_le hO.ml, Nat.le_succ_of_le hO.nn, hO.loads, by have := hO.loadsLe; omega, hO.room, hO.ep, .inl ⟨rfl, rfl⟩, hO.same, hO.ret⟩
  by_cases hh : S.hs = 0
  · have hi0 : S.hi = 0 := by
      rcases hO.held with h | h
      · exact h.2
      · omega
    have h1 := takeNo_c hh (hE1.get 7 rfl)
    have HE2 : Hid (∀ y, Env W (boxI B [.int .i64 10, .int .u64 x, .int .i64 a, .int .i64 d, .int .u64 v, .int .i64 i, .bool t] :: LX I m u p cc c qq X k s b h l S) y → Env W [boxI B [.int .i64 10, .int .u64 x, .int .i64 a, .int .i64 d, .int .u64 v, .int .i64 i, .bool t], boxI I [.int .i64 S.idv], refI m S.G S.ml, boxI u (urv k s b h l S.e S.A (rl S.ql).length S.cp S.N 0 S.r), rrI S.A S.cp (rl S.ql), wbox p cc, cellI cc S.F S.f S.q S.nn, coreI c k s b h l S.e S.r 0 0 qq, queueI qq S.FQ S.ql S.kq, boxI X [.int .i64 k, .int .i64 s, .int .i64 b, .int .i64 h, .int .i64 l]] y) := Lib.hid fun y hy => by
      unfold LX at hy
      rw [hh, hi0] at hy
      exact hy
    rw [hh, hi0] at h1
    clear hO hh hi0
    refine h1.mono ?_
    rintro o w2 ⟨rfl, hb⟩
    have hE2 := HE2.out _ (hE1.over hb)
    clear hE1 h1 hb HE2
    replace hE2 := hE2.box w2.heap.size rfl [.int .i64 0, .int .i64 0] 43
    go_upto_region 34 with fail
    generalize w2.alloc _ = w3 at *
    generalize w2.heap.size = Z at *
    have ru := hE2.rule 4 rfl
    unfold urv at ru
    have f8 := hE2.thaw 4 rfl 8 (by simp [urv])
    go_upto_region 36 with fail
    have hE3 := hE2.put 4 rfl (j := 8) (by simp [urv]) (.int .i64 0)
    generalize World.setCell _ _ _ = w4 at *
    have hE4 : Env W (boxI Z [.int .i64 0, .int .i64 0] :: [boxI B [.int .i64 10, .int .u64 x, .int .i64 a, .int .i64 d, .int .u64 v, .int .i64 i, .bool t], boxI I [.int .i64 S.idv], refI m S.G S.ml, boxI u (urv k s b h l S.e S.A (rl S.ql).length S.cp S.N 0 S.r), rrI S.A S.cp (rl S.ql), wbox p cc, cellI cc S.F S.f S.q S.nn, coreI c k s b h l S.e S.r 0 0 qq, queueI qq S.FQ S.ql S.kq, boxI X [.int .i64 k, .int .i64 s, .int .i64 b, .int .i64 h, .int .i64 l]]) w4 := hE3
    clear hE2 hE3 ru f8
    refine wp_text (S := (Env W (boxI Z [.int .i64 0, .int .i64 0] :: [boxI B [.int .i64 10, .int .u64 x, .int .i64 a, .int .i64 d, .int .u64 v, .int .i64 i, .bool t], boxI I [.int .i64 S.idv], refI m S.G S.ml, boxI u (urv k s b h l S.e S.A (rl S.ql).length S.cp S.N 0 S.r), rrI S.A S.cp (rl S.ql), wbox p cc, cellI cc S.F S.f S.q S.nn, coreI c k s b h l S.e S.r 0 0 qq, queueI qq S.FQ S.ql S.kq, boxI X [.int .i64 k, .int .i64 s, .int .i64 b, .int .i64 h, .int .i64 l]]))) (by kernel_rfl) (by kernel_rfl) hE4.drew (fun hT => ?_)
    have hT9 := Lib.hid hT
    clear hT
    repeat (first
      | (refine text_value (v := ?_) hT9.out (by rfl) ?_ ?_; rotate_left; (focus (intro w5 hS; have r1 := hS.rule 0 rfl; have r2 := hS.rule 2 rfl; go_simp <;> with_reducible rfl)); (try simp only [Act.put, List.setIfInBounds_toArray, List.set_cons_zero, List.set_cons_succ]))
      | (refine text_off hT9.out (by rfl) ?_; (try simp only [Act.put, List.setIfInBounds_toArray, List.set_cons_zero, List.set_cons_succ]))
      | (refine text_call (v := ?_) (f := ?_) (args := ?_) hT9.out (by rfl) ?_ ?_ ?_; rotate_left 3; (focus (intro w5 hS; have r1 := hS.rule 0 rfl; have r2 := hS.rule 2 rfl; go_simp; constructor <;> with_reducible rfl)); (focus (intro w5 hS; (first | fail))); (try simp only [Act.put, List.setIfInBounds_toArray, List.set_cons_zero, List.set_cons_succ])))
    refine InText.nil fun w5 hS5 => ?_
    clear hT9
    clear hE4
    have hE9 := hS5.sub (L' := boxI B [.int .i64 10, .int .u64 x, .int .i64 a, .int .i64 d, .int .u64 v, .int .i64 i, .bool t] :: LX I m u p cc c qq X k s b h l { S with hs := 0, hi := 0, idv := S.idv }) (.cons _ (List.Sublist.refl _))
    clear hS5
    replace HO := HO S.idv
    go_wp2_with fail
    go_ret
    exact ⟨ret_bool (by simp), _, HO.out, hE9.sub (.cons _ (List.Sublist.refl _))⟩
  · have hid : S.idv = S.hi := by
      rcases hO.held with h | h
      · exact absurd h.1 hh
      · exact h.2.2
    have h1 := takeYes_c hh 7 hE1 rfl
    have hn0 : (S.hs != 0) = true := by simp [hh]
    obtain ⟨hv, hhv⟩ : ∃ hv, hv = S.hs := ⟨_, rfl⟩
    obtain ⟨iv, hiv⟩ : ∃ iv, iv = S.hi := ⟨_, rfl⟩
    have HE2 : Hid (∀ y, Env W ((boxI B [.int .i64 10, .int .u64 x, .int .i64 a, .int .i64 d, .int .u64 v, .int .i64 i, .bool t] :: LX I m u p cc c qq X k s b h l S).set 7 (coreI c k s b h l S.e S.r 0 0 qq)) y → Env W [boxI B [.int .i64 10, .int .u64 x, .int .i64 a, .int .i64 d, .int .u64 v, .int .i64 i, .bool t], boxI I [.int .i64 iv], refI m S.G S.ml, boxI u (urv k s b h l S.e S.A (rl S.ql).length S.cp S.N hv S.r), rrI S.A S.cp (rl S.ql), wbox p cc, cellI cc S.F S.f S.q S.nn, coreI c k s b h l S.e S.r 0 0 qq, queueI qq S.FQ S.ql S.kq, boxI X [.int .i64 k, .int .i64 s, .int .i64 b, .int .i64 h, .int .i64 l]] y) := Lib.hid fun y hy => by
      unfold LX at hy
      simp only [List.set_cons_succ, List.set_cons_zero] at hy
      rw [hid, ← hhv, ← hiv] at hy
      exact hy
    rw [← hhv, ← hiv] at h1
    rw [← hhv] at hn0
    clear hO hh hid hhv hiv
    refine h1.mono ?_
    rintro o w2 ⟨rfl, hE1b⟩
    have hE2 := HE2.out _ hE1b
    clear hE1 h1 hE1b HE2
    replace hE2 := hE2.box w2.heap.size rfl [.int .i64 hv, .int .i64 iv] 43
    go_upto_region 34 with fail
    generalize w2.alloc _ = w3 at *
    generalize w2.heap.size = Z at *
    have ru := hE2.rule 4 rfl
    unfold urv at ru
    have f8 := hE2.thaw 4 rfl 8 (by simp [urv])
    go_upto_region 36 with fail
    have hE3 := hE2.put 4 rfl (j := 8) (by simp [urv]) (.int .i64 0)
    generalize World.setCell _ _ _ = w4 at *
    have hE4 : Env W [boxI Z [.int .i64 hv, .int .i64 iv], boxI B [.int .i64 10, .int .u64 x, .int .i64 a, .int .i64 d, .int .u64 v, .int .i64 i, .bool t], boxI I [.int .i64 iv], refI m S.G S.ml, boxI u (urv k s b h l S.e S.A (rl S.ql).length S.cp S.N 0 S.r), rrI S.A S.cp (rl S.ql), wbox p cc, cellI cc S.F S.f S.q S.nn, coreI c k s b h l S.e S.r 0 0 qq, queueI qq S.FQ S.ql S.kq, boxI X [.int .i64 k, .int .i64 s, .int .i64 b, .int .i64 h, .int .i64 l]] w4 := hE3
    clear hE2 hE3 ru f8
    refine wp_text (S := (Env W [boxI Z [.int .i64 hv, .int .i64 iv], boxI B [.int .i64 10, .int .u64 x, .int .i64 a, .int .i64 d, .int .u64 v, .int .i64 i, .bool t], boxI I [.int .i64 iv], refI m S.G S.ml, boxI u (urv k s b h l S.e S.A (rl S.ql).length S.cp S.N 0 S.r), rrI S.A S.cp (rl S.ql), wbox p cc, cellI cc S.F S.f S.q S.nn, coreI c k s b h l S.e S.r 0 0 qq, queueI qq S.FQ S.ql S.kq, boxI X [.int .i64 k, .int .i64 s, .int .i64 b, .int .i64 h, .int .i64 l]])) (by kernel_rfl) (by kernel_rfl) hE4.drew (fun hT => ?_)
    have hT9 := Lib.hid hT
    clear hT
    repeat (first
      | (refine text_value (v := ?_) hT9.out (by rfl) ?_ ?_; rotate_left; (focus (intro w5 hS; have r1 := hS.rule 0 rfl; have r2 := hS.rule 2 rfl; go_simp <;> with_reducible rfl)); (try simp only [Act.put, List.setIfInBounds_toArray, List.set_cons_zero, List.set_cons_succ]))
      | (refine text_off hT9.out (by rfl) ?_; (try simp only [Act.put, List.setIfInBounds_toArray, List.set_cons_zero, List.set_cons_succ]))
      | (refine text_call (v := ?_) (f := ?_) (args := ?_) hT9.out (by rfl) ?_ ?_ ?_; rotate_left 3; (focus (intro w5 hS; have r1 := hS.rule 0 rfl; have r2 := hS.rule 2 rfl; go_simp; constructor <;> with_reducible rfl)); (focus (intro w5 hS; (first | fail))); (try simp only [Act.put, List.setIfInBounds_toArray, List.set_cons_zero, List.set_cons_succ])))
    refine InText.nil fun w5 hS5 => ?_
    clear hT9
    clear hE4
    have hE9 : Env W (boxI B [.int .i64 10, .int .u64 x, .int .i64 a, .int .i64 d, .int .u64 v, .int .i64 i, .bool t] :: LX I m u p cc c qq X k s b h l { S with hs := 0, hi := 0, idv := iv }) w5 := hS5.sub (.cons _ (List.Sublist.refl _))
    clear hS5
    replace HO := HO iv
    go_wp2_with fail
    go_ret
    exact ⟨ret_bool (by simp), _, HO.out, hE9.sub (.cons _ (List.Sublist.refl _))⟩
set_option maxRecDepth 100000 in
set_option maxHeartbeats 3200000 in
theorem does_drop (x a d v i : Int) (t : Bool) (hj : j ≤ 100) (hO : OkX s S j n) (hE : Env W (LX I m u p cc c qq X k s b h l S) w) :
    Calls Tryd.prog 11 #[.pointer (some ⟨c, 0, none⟩), .pointer (some ⟨u, 0, none⟩), .pointer (some ⟨p, 0, none⟩), .pointer (some ⟨m, 0, none⟩), .pointer (some ⟨I, 0, none⟩), .agg #[.int .i64 11, .int .u64 x, .int .i64 a, .int .i64 d, .int .u64 v, .int .i64 i, .bool t]] w fun o w' => o = .returned (.bool true) ∧ ∃ S', OkX s S' (j + 1) n ∧ Env W (LX I m u p cc c qq X k s b h l S') w' := by
  have hE1 := hE.box w.heap.size rfl [.int .i64 11, .int .u64 x, .int .i64 a, .int .i64 d, .int .u64 v, .int .i64 i, .bool t] 47
  clear hE
  have r0 := hE1.rule 0 rfl
  go_enter Tryd.func11, Tryd.ntmps11
  go_wp2_with fail
  clear r0
  generalize w.alloc _ = w1 at *
  generalize w.heap.size = B at *
  by_cases hh : S.hs = 0
  · have HO := Lib.hid hO.step
    have h1 := dropNo_c hh (hE1.get 7 rfl)
    refine h1.mono ?_
    rintro o w2 ⟨rfl, hb⟩
    replace hE1 := hE1.over hb
    clear hb h1
    have h2 := rdropNo_c (by omega) (hE1.get 3 rfl)
    clear hO hh
    go_wp2_with fail
    refine h2.mono ?_
    rintro o w3 ⟨rfl, rfl⟩
    clear h2
    go_wp2_with fail
    have hE9 := hE1
    clear hE1
    go_ret
    exact ⟨ret_bool (by simp), _, HO.out, hE9.sub (.cons _ (List.Sublist.refl _))⟩
  · have hpos : 0 < S.hs := by rcases hO.held with h | h <;> omega
    have hql := hO.ql
    have hroom := hO.room
    have hrl := rl_length S.ql
    have hN := roomN_in (n := S.ql.length) hroom.1 hroom.2
    have HO := fun (kq : Nat) (FQ : Nat → Prop) (A : Option Addr) (cp : Nat) => Lib.hid (show OkX s { S with hs := 0, hi := 0, ql := S.ql ++ [(S.hs, 0, S.hi)], kq := kq, FQ := FQ, A := A, cp := cp, N := roomN (room0 S.N) (S.ql.length + 1) } (j + 1) n from
      ⟨by show (S.ql ++ [(S.hs, 0, S.hi)]).length ≤ j + 1; simp; omega, Nat.le_succ_of_le hO.ml, Nat.le_succ_of_le hO.nn, hO.loads, by have := hO.loadsLe; omega, by
        show 0 ≤ roomN (room0 S.N) (S.ql.length + 1) ∧ roomN (room0 S.N) (S.ql.length + 1) ≤ 2 * ((S.ql ++ [(S.hs, 0, S.hi)]).length : Int) + 4
        simp only [List.length_append, List.length_cons, List.length_nil]
        omega, hO.ep, .inl ⟨rfl, rfl⟩, hO.same, fun y hy => by
        rcases List.mem_append.1 hy with hy | hy
        · exact hO.ret y hy
        · simp at hy; subst hy; rfl⟩)
    have h1 := dropYes_c hh 7 8 (by decide) hE1 rfl rfl (by omega)
    clear hE1
    refine h1.mono ?_
    rintro o w2 ⟨rfl, k2, F2, hrm, hE2⟩
    clear h1
    unfold LX at hE2
    simp only [List.set_cons_succ, List.set_cons_zero] at hE2
    have h2 := rdropYes_c hpos 3 (by omega) (by omega) hE2 rfl rfl
    have HO' := Lib.hid HO
    have HRL := Lib.hid hrl
    clear hO HO hh hpos hql hroom hrl hN hrm
    go_wp2_with fail
    refine h2.mono ?_
    rintro o w3 ⟨rfl, A3, c3, hE3⟩
    simp only [List.set_cons_succ, List.set_cons_zero] at hE3
    clear h2 hE2
    have HO := HO'.out k2 F2 A3 c3
    rw [HRL.out] at hE3
    have e1 : rl (S.ql ++ [(S.hs, 0, S.hi)]) = rl S.ql ++ [(S.hs, 0, 0)] := by simp [rl]
    have e2 : (rl (S.ql ++ [(S.hs, 0, S.hi)])).length = S.ql.length + 1 := by rw [rl_length]; simp
    have hE9 : Env W (boxI B [.int .i64 11, .int .u64 x, .int .i64 a, .int .i64 d, .int .u64 v, .int .i64 i, .bool t] :: LX I m u p cc c qq X k s b h l { S with hs := 0, hi := 0, ql := S.ql ++ [(S.hs, 0, S.hi)], kq := k2, FQ := F2, A := A3, cp := c3, N := roomN (room0 S.N) (S.ql.length + 1) }) w3 := by
      unfold LX
      show Env W [boxI B [.int .i64 11, .int .u64 x, .int .i64 a, .int .i64 d, .int .u64 v, .int .i64 i, .bool t], boxI I [.int .i64 S.idv], refI m S.G S.ml, boxI u (urv k s b h l S.e A3 (rl (S.ql ++ [(S.hs, 0, S.hi)])).length c3 (roomN (room0 S.N) (S.ql.length + 1)) 0 S.r), rrI A3 c3 (rl (S.ql ++ [(S.hs, 0, S.hi)])), wbox p cc, cellI cc S.F S.f S.q S.nn, coreI c k s b h l S.e S.r 0 0 qq, queueI qq F2 (S.ql ++ [(S.hs, 0, S.hi)]) k2, boxI X [.int .i64 k, .int .i64 s, .int .i64 b, .int .i64 h, .int .i64 l]] w3
      rw [e2, e1]
      exact hE3
    clear hE3 HO' HRL e1 e2
    go_wp2_with fail
    go_ret
    exact ⟨ret_bool (by simp), _, HO.out, hE9.sub (.cons _ (List.Sublist.refl _))⟩
end
end Go.Proofs.YtlhhnaccigamjaaDoor

/- A thread and the reference's beside it: every deed. -/
namespace Go.Proofs.YtlhhnaccigamjaaDoor
open Go.RowKit Go.Maps
set_option maxRecDepth 100000

/-- How many loads a deed makes. -/
def dn (kd : Int) : Nat := if 1 ≤ kd ∧ kd ≤ 4 then 1 else 0
section
variable {W w : World} {I m u p cc c qq X : Nat} {k s b h l : Int} {S : SX} {j n : Nat}
theorem does_any (kd x a d v i : Int) (t : Bool) (hx : InU x) (hv : InU v) (hg : Glo W) (hO : OkX s S j n) (hj : j ≤ 100) (hE : Env W (LX I m u p cc c qq X k s b h l S) w) :
    Calls Tryd.prog 11 #[.pointer (some ⟨c, 0, none⟩), .pointer (some ⟨u, 0, none⟩), .pointer (some ⟨p, 0, none⟩), .pointer (some ⟨m, 0, none⟩), .pointer (some ⟨I, 0, none⟩), .agg #[.int .i64 kd, .int .u64 x, .int .i64 a, .int .i64 d, .int .u64 v, .int .i64 i, .bool t]] w fun o w' => o = .returned (.bool true) ∧ ∃ S', OkX s S' (j + 1) (n + dn kd) ∧ Env W (LX I m u p cc c qq X k s b h l S') w' := by
  rcases (show kd < 1 ∨ 1 ≤ kd by omega) with h0 | h0
  · rw [show n + dn kd = n by unfold dn; rw [if_neg (by omega)]; rfl]
    exact does_else kd x a d v i t (.inl h0) hO hE
  rcases (show 11 < kd ∨ kd ≤ 11 by omega) with h1 | h1
  · rw [show n + dn kd = n by unfold dn; rw [if_neg (by omega)]; rfl]
    exact does_else kd x a d v i t (.inr h1) hO hE
  have hk : kd = 1 ∨ kd = 2 ∨ kd = 3 ∨ kd = 4 ∨ kd = 5 ∨ kd = 6 ∨ kd = 7 ∨ kd = 8 ∨ kd = 9 ∨ kd = 10 ∨ kd = 11 := by omega
  rcases hk with h | h | h | h | h | h | h | h | h | h | h
  · rw [show n + dn kd = n + 1 by unfold dn; rw [if_pos (by omega)]]
    exact does_check kd x a d v i t (.inl h) hO hj hE
  · rw [show n + dn kd = n + 1 by unfold dn; rw [if_pos (by omega)]]
    exact does_check kd x a d v i t (.inr h) hO hj hE
  · rw [show n + dn kd = n + 1 by unfold dn; rw [if_pos (by omega)]]
    exact does_valid kd x a d v i t (.inl h) hO hj hE
  · rw [show n + dn kd = n + 1 by unfold dn; rw [if_pos (by omega)]]
    exact does_valid kd x a d v i t (.inr h) hO hj hE
  · subst h; exact does_store x a d v i t hx hO hj hE
  · subst h; exact does_add x a d v i t hO hj hE
  · subst h; exact does_to x a d v i t hg hO hE
  · subst h; exact does_mark x a d v i t hv hg hO hE
  · subst h; exact does_hold x a d v i t hO hE
  · subst h; exact does_take x a d v i t hO hE
  · subst h; exact does_drop x a d v i t hj hO hE
end
end Go.Proofs.YtlhhnaccigamjaaDoor

/- Threads: the program is awake. -/
namespace Go.Proofs.YtlhhnaccigamjaaDoor
open Go.RowKit Go.Maps
set_option maxRecDepth 100000

theorem list_c (s : Int) (w : World) : Calls Tryd.prog 29 #[.int .i64 s] w fun o w' => o = .returned (.agg #[.int .i64 1, .int .i64 s, .int .i64 0, .int .i64 1, .int .i64 100]) ∧ Below w.heap.size w w' := by
  go_enter Tryd.func29, Tryd.ntmps29
  go_wp2
  exact bodyPost_ret (v := .agg #[.int .i64 1, .int .i64 s, .int .i64 0, .int .i64 1, .int .i64 100]) (by simp [results, Tryd.results29, go_sem]) rfl ⟨rfl, (Below.refl _ _).alloc (Nat.le_refl _) _⟩

set_option maxHeartbeats 3200000 in
theorem awake13 (w : World) (hg : Glo w) : Calls Tryd.prog 7 #[] w fun o w' => o = .returned (.bool true) ∧ Below w.heap.size w w' := by
  have hE := Env.start w
  have hx1 : Wf (1, 0, 0) := by unfold Wf In64; simp
  have HX1 := Lib.hid hx1
  have hM : ∀ k : Nat, k ≤ 100 → k < maxLen := fun k hk => by unfold maxLen; omega
  have HM := Lib.hid hM
  have HC4 := Lib.hid (show chkI 1 4 0 1 100 = 0 by decide)
  have HC0 := Lib.hid (show chkI 0 0 0 0 0 ≠ 0 by decide)
  have HG := Lib.hid hg
  clear hM hx1 hg
  go_enter Tryd.func7, Tryd.ntmps7
  go_wp2_with fail
  refine (list_c 4 _).mono ?_
  rintro o w1 ⟨rfl, hb⟩
  replace hE := hE.over hb
  clear hb
  go_wp2_with fail
  refine (newYes_c 1 4 0 1 100 HC4.out hE).mono ?_
  rintro o w2 ⟨c, q, F, rfl, hE2⟩
  clear hE
  go_wp2_with fail
  refine (new_w hE2).mono ?_
  rintro o w3 ⟨p, cc, rfl, hE, hb⟩
  clear hb hE2
  go_wp2_with fail
  refine (start_w 0 1 (by decide) (HM.out _ (by omega)) hE rfl rfl).mono ?_
  rintro o w4 ⟨rfl, F4, hE⟩
  simp only [List.set_cons_succ, List.set_cons_zero] at hE
  go_wp2_with fail
  refine (check_w 1 (upd_same _ _ _) 2 0 1 (by decide) (by decide) hE rfl rfl rfl).mono ?_
  rintro o w5 ⟨rfl, hE⟩
  simp only [List.set_cons_succ, List.set_cons_zero] at hE
  go_wp2_with fail
  refine (valid_w 1 (upd_same _ _ _) 2 0 1 (by decide) (by decide) hE rfl rfl rfl).mono ?_
  rintro o w6 ⟨rfl, hE⟩
  simp only [List.set_cons_succ, List.set_cons_zero] at hE
  rw [show okB 1 (epI 1) = true by decide] at hE ⊢
  simp only [if_true] at hE
  go_wp2_with fail
  refine (epoch_any _).mono ?_
  rintro o w7 ⟨rfl, hb⟩
  replace hE := hE.over hb
  clear hb
  go_wp2_with fail
  refine (add_w 1 0 0 0 1 HX1.out (HM.out _ (by omega)) 0 1 (by decide) hE rfl rfl).mono ?_
  rintro o w8 ⟨rfl, F8, hE⟩
  simp only [List.set_cons_succ, List.set_cons_zero] at hE
  go_wp2_with fail
  refine (valid_w 2 (by rw [upd_same, upd_same]; decide) 2 0 1 (by decide) (by decide) hE rfl rfl rfl).mono ?_
  rintro o w9 ⟨rfl, hE⟩
  simp only [List.set_cons_succ, List.set_cons_zero] at hE
  rw [show okB 2 (epI 1) = false by decide, show epI 1 = 1 by decide] at hE
  rw [show okB 2 (epI 1) = false by decide]
  simp only [Bool.false_eq_true, if_false] at hE
  rw [show wrap64 (0 + 1) = 1 from w64 _ (by decide)] at hE
  go_wp2_with fail
  refine (holdYes_c 3 7 rfl (by decide) 2 hE rfl).mono ?_
  rintro o w10 ⟨rfl, hE⟩
  simp only [List.set_cons_succ, List.set_cons_zero] at hE
  go_wp2_with fail
  refine (holdState_c 1 0 (by decide) (hE.get 2 rfl)).mono ?_
  rintro o w11 ⟨rfl, hb⟩
  replace hE := hE.over hb
  clear hb
  go_wp2_with fail
  refine (dropYes_c (by decide) 2 3 (by decide) hE rfl rfl (by decide)).mono ?_
  rintro o w12 ⟨rfl, k12, F12, hrm, hE⟩
  simp only [List.set_cons_succ, List.set_cons_zero] at hE
  go_wp2_with fail
  refine (queue_c (hE.get 2 rfl)).mono ?_
  rintro o w13 ⟨rfl, rfl⟩
  go_wp2_with fail
  refine (head_any 3 0 7 (hE.queue 3 rfl)).mono ?_
  rintro o w14 ⟨rfl, hb⟩
  replace hE := (hE.over hb).box w14.heap.size rfl [.int .i64 3, .int .i64 0, .int .i64 7] 62
  clear hb hrm
  simp only [tv]
  have r0 := hE.rule 0 rfl
  go_wp2_with fail
  refine (newNo_c 0 0 0 0 0 HC0.out _).mono ?_
  rintro o w15 ⟨rfl, hb⟩
  replace hE := hE.over hb
  clear hb r0
  generalize w14.heap.size = Y at *
  have r0 := hE.rule 0 rfl
  go_wp2_with fail
  refine (epoch_c (hE.get 3 rfl)).mono ?_
  rintro o w16 ⟨rfl, rfl⟩
  go_wp2_with fail
  refine (rolls_c (hE.get 3 rfl)).mono ?_
  rintro o w17 ⟨rfl, rfl⟩
  go_wp2_with fail
  refine (to_c 2 5 (HG.out.keep' hE.below) (hE.get 3 rfl)).mono ?_
  rintro o w18 ⟨rfl, hb⟩
  replace hE := hE.over hb
  clear hb r0
  go_wp2_with fail
  refine (to_any 2 1 _ (HG.out.keep' hE.below)).mono ?_
  rintro o w19 ⟨rfl, hb⟩
  replace hE := hE.over hb
  clear hb
  generalize wordI false 2 1 = W9 at *
  go_wp2_with fail
  go_ret
  exact ⟨ret_bool (by simp), hE.below⟩
end Go.Proofs.YtlhhnaccigamjaaDoor

/- Contracts of layer 3: the reference's functions that later layers call. -/
namespace Go.Proofs.YtlhhnaccigamjaaDoor
open Go.RowKit
set_option maxRecDepth 100000

set_option maxHeartbeats 800000 in
theorem refCheck_any (k s b h l : Int) (w : World) : Calls Tryd.prog 9 #[.agg #[.int .i64 k, .int .i64 s, .int .i64 b, .int .i64 h, .int .i64 l]] w fun e w' => e = .returned (.int .i64 (chkI k s b h l)) ∧ Below w.heap.size w w' := by
  have hF := (Fr.start w).push w.heap.size rfl [.int .i64 k, .int .i64 s, .int .i64 b, .int .i64 h, .int .i64 l] 23
  go_enter Tryd.func9, Tryd.ntmps9
  go_wp2
  all_goals
    go_ret
    (try go_light)
    (try simp only [bne_iff_ne, ne_eq, bne_eq_false_iff_eq, beq_iff_eq, beq_eq_false_iff_ne, Bool.or_eq_true, Bool.and_eq_true, decide_eq_true_eq, decide_eq_false_iff_not, Bool.or_eq_false_iff, Bool.not_eq_true', Bool.not_eq_false'] at *)
    (try subst_vars)
    refine ⟨ret_int ?_, hF.below⟩
    first
      | exact (chk_eight (by omega)).symm
      | exact (chk_zero (by omega) (by unfold Cfg; omega)).symm
      | exact (chk_three (by omega) (by unfold Cfg; omega)).symm
end Go.Proofs.YtlhhnaccigamjaaDoor

/- What the condition on the package's variables gives: the three fields stand in them; and that the program's own start meets it. -/
namespace Go.Proofs.YtlhhnaccigamjaaDoor
open Go.ChangeShapes Go.WideShapes Go.ChangeAt Go.RowKit
set_option maxRecDepth 100000

section
variable {P : Program} {w : World}
theorem cell_lt {b o : Nat} {v : Value} (h : w.cell? ⟨b, o, none⟩ = some v) : b < w.heap.size := by
  rcases Nat.lt_or_ge b w.heap.size with h' | h'
  · exact h'
  · simp [World.cell?, Array.getElem?_eq_none h'] at h
/-- The head of a list of laid variables: a struct of two ints. -/
theorem laid_pair {n : String} {g : Nat} {t k : TypeId} {f0 f1 : Field} {a b : Int} {r : List (String × DataW Unit)} {ps : List MemPlace}
    (h : DataW.LaidVars P w ((n, .agg [.lit (.int .i64 a), .lit (.int .i64 b)]) :: r) ps) (hg : P.globalNamed n = some g) (ht : (P.globals[g]?).map (·.type) = some t)
    (hs : P.underlying t = some (.struct #[f0, f1])) (hc : P.cellsOf t = 2) (h0 : f0.offset = 0) (h1 : f1.offset = 1) (hk0 : f0.type = k) (hk1 : f1.type = k) (hk : P.cellsOf k = 1) (hi : P.underlying k = some (.int .i64)) :
    w.cell? ⟨g, 0, none⟩ = some (.int .i64 a) ∧ w.cell? ⟨g, 1, none⟩ = some (.int .i64 b) ∧ ∃ q, DataW.LaidVars P w r q := by
  obtain ⟨g', t', cs, fuel, p, q, hg', ht', hv, hd, hr, -⟩ := h
  obtain rfl := Option.some.inj (hg.symm.trans hg')
  obtain rfl := Option.some.inj (ht.symm.trans ht')
  obtain ⟨xs, m, -, hx, hl, hn, hel⟩ := DataW.trod_struct hs hd
  have e0 := hel 0 f0 rfl
  have e1 := hel 1 f1 rfl
  rw [h0, hk0, hk] at e0
  rw [h1, hk1, hk] at e1
  obtain ⟨l⟩ := cs
  rw [hc] at hl
  match l, hl, xs, hn, hx, e0, e1, hv with
  | [c0, c1], _, [x0, x1], _, hx, e0, e1, hv =>
    simp only [Prod.mk.injEq, List.map_cons, List.map_nil, DataW.agg.injEq, List.cons.injEq] at hx
    obtain ⟨n0, s0, y0, -⟩ := DataW.trod_int hi (show DataW.trod _ P w 0 _ false m k [c0] = some x0 from e0)
    obtain ⟨n1, s1, y1, -⟩ := DataW.trod_int hi (show DataW.trod _ P w 0 _ false m k [c1] = some x1 from e1)
    simp at s0 s1
    subst s0 s1
    have k0 := hx.1.1
    have k1 := hx.1.2.1
    rw [y0] at k0
    rw [y1] at k1
    simp at k0 k1
    subst k0 k1
    exact ⟨by rw [World.var?_cell hg hv 0]; rfl, by rw [World.var?_cell hg hv 1]; rfl, q, hr⟩
end

def laid3 : List (String × DataW Unit) := [("revenant/link.versionPart", Rows.laid_revenant_link_versionPart), ("revenant/link.slotPart", Rows.laid_revenant_link_slotPart), ("revenant/link.markPart", Rows.laid_revenant_link_markPart)]

/-- What the condition gives the walks. -/
theorem glo_of_laid {W : World} (h : laidMetH Tryd.prog laid3 W) : Glo W := by
  rw [MakeChecks.laidMetH_plain _ _ _ (by kernel_rfl)] at h
  obtain ⟨ps, h, -, -⟩ := h
  obtain ⟨a0, a1, q1, h⟩ := laid_pair (g := 1) (t := 121) (k := 3) h (by kernel_rfl) (by kernel_rfl) Tryd.underlying121 (by kernel_rfl) rfl rfl rfl rfl (by kernel_rfl) Tryd.underlying3
  obtain ⟨b0, b1, q2, h⟩ := laid_pair (g := 2) (t := 121) (k := 3) h (by kernel_rfl) (by kernel_rfl) Tryd.underlying121 (by kernel_rfl) rfl rfl rfl rfl (by kernel_rfl) Tryd.underlying3
  obtain ⟨c0, c1, q3, h⟩ := laid_pair (g := 0) (t := 121) (k := 3) h (by kernel_rfl) (by kernel_rfl) Tryd.underlying121 (by kernel_rfl) rfl rfl rfl rfl (by kernel_rfl) Tryd.underlying3
  exact ⟨⟨a0, a1⟩, ⟨b0, b1⟩, ⟨c0, c1⟩, cell_lt a0, cell_lt b0, cell_lt c0⟩

/-- The program's own start meets the condition. -/
theorem door_met (os : Os) (args : Array Value) : laidMetH Tryd.prog laid3 ((World.doorLaid Tryd.prog 24 os).forCall (fun _ _ => 0) ⟨#[], args, []⟩).memory :=
  laidMetH_of_parts3 (fuel := 8) (laidMet_of_run' 8 (by kernel_rfl) (by kernel_rfl)) (by kernel_rfl) (by kernel_rfl)
end Go.Proofs.YtlhhnaccigamjaaDoor

/- Rows of a thread's deeds that came in. -/
namespace Go.Proofs.YtlhhnaccigamjaaDoor
open Go.RowKit Go.Maps Go.Deep
set_option maxRecDepth 100000

structure ActC where
  kd : Int
  x : Int
  a : Int
  d : Int
  v : Int
  i : Int
  t : Bool
instance : Inhabited ActC := ⟨⟨0, 0, 0, 0, 0, 0, false⟩⟩
def encActC (r : ActC) : List Value := [.int .i64 r.kd, .int .u64 r.x, .int .i64 r.a, .int .i64 r.d, .int .u64 r.v, .int .i64 r.i, .bool r.t]
def OkActC (r : ActC) : Prop := In64 r.kd ∧ InU r.x ∧ In64 r.a ∧ In64 r.d ∧ InU r.v ∧ In64 r.i
theorem flatActC : flatT Tryd.prog 6 47 = some [.num .i64, .num .u64, .num .i64, .num .i64, .num .u64, .num .i64, .boo] := by kernel_rfl
theorem cellsActC : Tryd.prog.cellsOf 47 = 7 := by kernel_rfl
theorem open_ActC {H : Type} {en : TypeId × Value → H} {W : World} {A : Option Addr} {len cap : Nat} {d : DataW H} {p : List MemPlace}
    (h : DataW.Trod en Tryd.prog W 0 (fun _ => true) true 24 (.slice A len cap) d p) (hlt : ∀ x ∈ p, x.block < W.heap.size) :
    ∃ xs : List ActC, xs.length = len ∧ len ≤ maxLen ∧ (∀ r ∈ xs, OkActC r) ∧ RowX encActC 7 W A xs := by
  refine open_rowX Tryd.underlying24 flatActC cellsActC (by simp) (fun w b o hall => ?_) h hlt
  obtain ⟨_, c0, x0, rfl, w0⟩ := hall 0 _ rfl
  obtain ⟨_, c1, x1, rfl, w1⟩ := hall 1 _ rfl
  obtain ⟨_, c2, x2, rfl, w2⟩ := hall 2 _ rfl
  obtain ⟨_, c3, x3, rfl, w3⟩ := hall 3 _ rfl
  obtain ⟨_, c4, x4, rfl, w4⟩ := hall 4 _ rfl
  obtain ⟨_, c5, x5, rfl, w5⟩ := hall 5 _ rfl
  obtain ⟨_, c6, x6, rfl⟩ := hall 6 _ rfl
  refine ⟨⟨x0, x1, x2, x3, x4, x5, x6⟩, fun j v e => ?_, wf_i.1 w0, wf_u.1 w1, wf_i.1 w2, wf_i.1 w3, wf_u.1 w4, wf_i.1 w5⟩
  match j with
  | 0 => simp [encActC] at e; subst e; exact c0
  | 1 => simp [encActC] at e; subst e; exact c1
  | 2 => simp [encActC] at e; subst e; exact c2
  | 3 => simp [encActC] at e; subst e; exact c3
  | 4 => simp [encActC] at e; subst e; exact c4
  | 5 => simp [encActC] at e; subst e; exact c5
  | 6 => simp [encActC] at e; subst e; exact c6
  | j + 7 => simp [encActC] at e
theorem at_ActC {w : World} {b o : Nat} {kd x a d v i : Int} {t : Bool} (h : CellsAt w b o (encActC ⟨kd, x, a, d, v, i, t⟩)) :
    w.cell? ⟨b, o, none⟩ = some (.int .i64 kd) ∧ w.cell? ⟨b, o + 1, none⟩ = some (.int .u64 x) ∧ w.cell? ⟨b, o + 2, none⟩ = some (.int .i64 a) ∧ w.cell? ⟨b, o + 3, none⟩ = some (.int .i64 d) ∧ w.cell? ⟨b, o + 4, none⟩ = some (.int .u64 v) ∧ w.cell? ⟨b, o + 5, none⟩ = some (.int .i64 i) ∧ w.cell? ⟨b, o + 6, none⟩ = some (.bool t) :=
  ⟨h 0 _ rfl, h 1 _ rfl, h 2 _ rfl, h 3 _ rfl, h 4 _ rfl, h 5 _ rfl, h 6 _ rfl⟩
end Go.Proofs.YtlhhnaccigamjaaDoor

namespace Go.Proofs.YtlhhnaccigamjaaDoor.coreExact
open Go.ChangeShapes Go.WideShapes Go.ChangeAt Go.RowKit Go.Joins Go.Maps
set_option maxRecDepth 100000

theorem perm22 {α : Type _} (a b c d e f : α) (r : List α) : (a :: b :: c :: d :: e :: f :: r).Perm (a :: b :: e :: f :: c :: d :: r) :=
  .cons _ (.cons _ (List.Perm.append_right r (List.perm_append_comm (l₁ := [c, d]) (l₂ := [e, f]))))
theorem loads (v : World) (a b c d e : Int) : (Instr.field 59 (.agg #[.int .i64 a, .int .i64 b, .int .i64 c, .int .i64 d, .int .i64 e]) 0).run Tryd.prog v = .ok (.int .i64 a) v := by kernel_rfl

set_option maxRecDepth 100000 in
set_option maxHeartbeats 6400000 in
theorem walk (k s b h l : Int) (xs : List ActC) (A : Option Addr) (cap : Nat) (hl0 : xs.length ≤ 2 ^ 63 - 1) (W : World) (hok : ∀ r ∈ xs, OkActC r) (hrow : RowX encActC 7 W A xs) (hg : Glo W) :
    Calls Tryd.prog 3 #[.agg #[.int .i64 k, .int .i64 s, .int .i64 b, .int .i64 h, .int .i64 l], .slice A xs.length cap] W fun e w' => e = .returned (.bool true) ∧ Below W.heap.size W w' := by
  have hl : xs.length ≤ 9223372036854775807 := by omega
  clear hl0
  have HG := Lib.hid hg
  have HROW := Lib.hid hrow
  have HOK := Lib.hid hok
  clear hg hrow hok
  have hE := (Env.start W).box W.heap.size rfl [.int .i64 k, .int .i64 s, .int .i64 b, .int .i64 h, .int .i64 l] 23
  by_cases hc : chkI k s b h l = 0
  · have HC := Lib.hid hc
    clear hc
    go_enter Tryd.func3, Tryd.ntmps3
    go_wp2_with fail
    refine (awake13 _ (HG.out.keep' hE.below)).mono ?_
    rintro o w1 ⟨rfl, hb⟩
    replace hE := hE.over hb
    clear hb
    generalize W.heap.size = X at *
    have r0 := hE.rule 0 rfl
    go_wp2_with fail
    refine (newYes_c k s b h l HC.out hE).mono ?_
    rintro o w2 ⟨c, qq, FQ, rfl, hE2⟩
    clear r0 hE
    have r0 := hE2.rule 2 rfl
    go_wp2_with fail
    refine (refCheck_any k s b h l _).mono ?_
    rintro o w3 ⟨rfl, hb⟩
    rw [HC.out]
    replace hE2 := hE2.over hb
    clear hb r0
    have r0 := hE2.rule 2 rfl
    replace hE2 := ((hE2.addNone3 63).box w3.heap.size rfl (urv k s b h l 0 none 0 0 0 0 0) 34)
    go_wp2_with fail
    generalize hu : w3.heap.size = u at *
    clear hu
    refine (new_w hE2).mono ?_
    rintro o w4 ⟨p, cc, rfl, hE4, hb⟩
    clear hb hE2 r0
    replace hE4 := hE4.newU w4.heap.size rfl 40
    replace hE4 := hE4.box (w4.heap.size + 1) (by simp) [.int .i64 0] 3
    replace hE4 := hE4.perm (perm22 _ _ _ _ _ _ _)
    go_wp2_with fail
    generalize w4.heap.size + 1 = I at *
    generalize w4.heap.size = m at *
    have hO0 : OkX s ⟨0, 0, 0, 0, 0, 0, [], 2, 0, 0, FQ, fun k => k = cc, fun k => k = m, fun _ => 0, ⟨0, 0, 0, 0, 0⟩, [], none⟩ 0 0 :=
      ⟨Nat.zero_le _, Nat.zero_le _, Nat.zero_le _, rfl, Nat.le_refl _, by simp, by simp, .inl ⟨rfl, rfl⟩, rfl, by simp⟩
    have HO0 := Lib.hid hO0
    clear hO0
    go_loopw [10, 11] (fun nv iv wr => ∃ (j n : Nat) (S : SX), j ≤ xs.length ∧ j ≤ 100 ∧ iv = .int .i64 j ∧ nv = .int .i64 n ∧ OkX s S j n ∧ Env W (LX I m u p cc c qq X k s b h l S) wr) (fun _ iv _ => xs.length - (intOf iv).toNat)
    case atStart => exact ⟨0, 0, _, by omega, by omega, rfl, rfl, HO0.out, hE4⟩
    case round =>
      clear hE4 HO0
      obtain ⟨j, n, S, hj, hj100, rfl, rfl, hO, hE⟩ := hrel
      by_cases hlt : j < xs.length ∧ j < 100
      · obtain ⟨hlt1, hlt2⟩ := hlt
        have hb1 : decide ((j : Int) < xs.length) = true := by simp; omega
        have hb2 : decide ((j : Int) < 100) = true := by simp; omega
        rcases HROW.out with h0 | ⟨bb, off, rfl, hbl, hc⟩
        · rw [h0] at hlt1; simp at hlt1
        have hokj := HOK.out _ (show xs.getD j default ∈ xs by rw [show xs.getD j default = xs[j] by simp [hlt1]]; exact List.getElem_mem _)
        have hcj := (hc j hlt1).below hE.below hbl
        obtain ⟨kd, x, a, d, v, i, t, hr⟩ : ∃ kd x a d v i t, xs.getD j default = ⟨kd, x, a, d, v, i, t⟩ := ⟨_, _, _, _, _, _, _, rfl⟩
        rw [hr] at hokj hcj
        obtain ⟨c0, c1, c2, c3, c4, c5, c6⟩ := at_ActC hcj
        clear hc hcj hr
        obtain ⟨n', hn'⟩ : ∃ n', n' = n + dn kd := ⟨_, rfl⟩
        have HD := Lib.hid (does_any kd x a d v i t hokj.2.1 hokj.2.2.2.2.1 HG.out hO hj100 hE)
        rw [← hn'] at HD
        have hn1 : n ≤ 100 := by have := hO.loadsLe; omega
        have hnn' : n' ≤ 101 := by rw [hn']; unfold dn; split <;> omega
        clear hO
        go_upto_region 16 with fail
        have hk : (1 ≤ kd ∧ kd ≤ 4) ∨ kd < 1 ∨ (1 ≤ kd ∧ 4 < kd) := by omega
        rcases hk with hk | hk | hk
        case' inl =>
          have hq1 : decide (1 ≤ kd) = true := by simp; omega
          have hq2 : decide (kd ≤ 4) = true := by simp; omega
          have hnw : ((n : Int) + 1) = (n' : Int) := by rw [hn']; unfold dn; rw [if_pos hk]; omega
          clear hk hn'
          go_upto_region 18 with fail
          try rw [hnw]
          clear hq1 hq2 hnw
        case' inr.inl =>
          have hq1 : decide (1 ≤ kd) = false := by simp; omega
          have hnw : (n : Int) = (n' : Int) := by rw [hn']; unfold dn; rw [if_neg (by omega)]; omega
          clear hk hn'
          go_upto_region 18 with fail
          try rw [hnw]
          clear hq1 hnw
        case' inr.inr =>
          have hq1 : decide (1 ≤ kd) = true := by simp; omega
          have hq2 : decide (kd ≤ 4) = false := by simp; omega
          have hnw : (n : Int) = (n' : Int) := by rw [hn']; unfold dn; rw [if_neg (by omega)]; omega
          clear hk hn'
          go_upto_region 18 with fail
          try rw [hnw]
          clear hq1 hq2 hnw
        all_goals
          go_wp2_with fail
          refine HD.out.mono ?_
          rintro o w5 ⟨rfl, S', hO', hE'⟩
          clear HD hE c0 c1 c2 c3 c4 c5 c6
          go_wp2_with fail
          refine (held_c (hE'.get 6 rfl)).mono ?_
          rintro o w6 ⟨rfl, hb⟩
          replace hE' := (hE'.over hb).box w6.heap.size rfl [.int .i64 S'.hs, .int .i64 S'.hi] 43
          clear hb
          go_wp2_with fail
          generalize w6.alloc _ = w7 at *
          generalize w6.heap.size = Z at *
          refine (queue_c (hE'.get 7 rfl)).mono ?_
          rintro o w8 ⟨rfl, rfl⟩
          go_wp2_with fail
          refine (list_any (hE'.queue 8 rfl)).mono ?_
          rintro o w9 ⟨bL, rfl, hL, hbL, hb⟩
          replace hE' := hE'.add (boxI bL (flat3 S'.ql)) hb hL (fun y hy => by cases hy; exact ⟨hbL, hL.1⟩)
          clear hb hL hbL
          go_wp2_with fail
          have HQL := Lib.hid hO'.loads
          have HCU : Hid (∀ y, Env W (boxI bL (flat3 S'.ql) :: boxI Z [.int .i64 S'.hs, .int .i64 S'.hi] :: LX I m u p cc c qq X k s b h l S') y → y.cell? ⟨u, 6, none⟩ = some (.slice S'.A (rl S'.ql).length S'.cp) ∧ y.cell? ⟨u, 8, none⟩ = some (.int .i64 S'.hs) ∧ y.cell? ⟨u, 9, none⟩ = some (.int .i64 S'.r)) := Lib.hid fun y hy => ⟨hy.rule 4 rfl 6, hy.rule 4 rfl 8, hy.rule 4 rfl 9⟩
          have HCF : Hid (∀ y, Env W (boxI bL (flat3 S'.ql) :: boxI Z [.int .i64 S'.hs, .int .i64 S'.hi] :: LX I m u p cc c qq X k s b h l S') y → Calls Tryd.prog 15 #[.pointer (some ⟨c, 0, none⟩)] y fun o w' => o = .returned (.agg #[.int .i64 k, .int .i64 s, .int .i64 b, .int .i64 h, .int .i64 l]) ∧ Below y.heap.size y w') := Lib.hid fun y hy => conf_c (hy.get 8 rfl)
          have HRO : Hid (∀ y, Env W (boxI bL (flat3 S'.ql) :: boxI Z [.int .i64 S'.hs, .int .i64 S'.hi] :: LX I m u p cc c qq X k s b h l S') y → Calls Tryd.prog 16 #[.pointer (some ⟨c, 0, none⟩)] y fun o w' => o = .returned (.int .i64 S'.r) ∧ w' = y) := Lib.hid fun y hy => rolls_c (hy.get 8 rfl)
          have HCN : Hid (∀ y, Env W (boxI bL (flat3 S'.ql) :: boxI Z [.int .i64 S'.hs, .int .i64 S'.hi] :: LX I m u p cc c qq X k s b h l S') y → Calls Tryd.prog 17 #[.pointer (some ⟨p, 0, none⟩)] y fun o w' => o = .returned (.agg #[.int .i64 (n' : Int), .int .i64 S'.q.s, .int .i64 S'.q.w, .int .i64 S'.q.f, .int .i64 S'.q.a]) ∧ Below y.heap.size y w') := Lib.hid fun y hy => by
            have := count_w 6 7 hy rfl rfl
            rw [HQL.out] at this
            exact this
          have hrl : (((rl S'.ql).length : Nat) : Int) = (S'.ql.length : Int) := by rw [rl_length]
          have hld := loads
          refine wp_text (S := (Env W (boxI bL (flat3 S'.ql) :: boxI Z [.int .i64 S'.hs, .int .i64 S'.hi] :: LX I m u p cc c qq X k s b h l S'))) (by kernel_rfl) (by kernel_rfl) hE'.drew (fun hT => ?_)
          have hT9 := Lib.hid hT
          clear hT
          repeat (first
            | (refine text_value (v := ?_) hT9.out (by rfl) ?_ ?_; rotate_left; (focus (intro w5 hS; obtain ⟨q6, q8, q9⟩ := HCU.out _ hS; have r1 := hS.rule 1 rfl; have r2 := hS.rule 10 rfl; go_simp <;> with_reducible rfl)); (try simp only [Act.put, List.setIfInBounds_toArray, List.set_cons_zero, List.set_cons_succ]))
            | (refine text_off hT9.out (by rfl) ?_; (try simp only [Act.put, List.setIfInBounds_toArray, List.set_cons_zero, List.set_cons_succ]))
            | (refine text_call (v := ?_) (f := ?_) (args := ?_) hT9.out (by rfl) ?_ ?_ ?_; rotate_left 3; (focus (intro w5 hS; obtain ⟨q6, q8, q9⟩ := HCU.out _ hS; have r1 := hS.rule 1 rfl; have r2 := hS.rule 10 rfl; go_simp; constructor <;> with_reducible rfl)); (focus (intro w5 hS; (first | (with_reducible refine (HCF.out _ hS).mono ?_; rintro o w6 ⟨rfl, hb5⟩; constructor; with_reducible rfl; exact hS.over hb5) | (with_reducible refine (HRO.out _ hS).mono ?_; rintro o w6 ⟨rfl, rfl⟩; constructor; with_reducible rfl; exact hS) | (with_reducible refine (HCN.out _ hS).mono ?_; rintro o w6 ⟨rfl, hb5⟩; constructor; with_reducible rfl; exact hS.over hb5)))); (try simp only [Act.put, List.setIfInBounds_toArray, List.set_cons_zero, List.set_cons_succ])))
          refine InText.nil fun w5 hS5 => ?_
          clear hT9
          clear hE' HCF HRO HCN hld
          go_wp2_with fail
          generalize (S'.hs != 0) = bh at *
          have hE5 := hS5
          clear hS5
          have HRET := Lib.hid hO'.ret
          have hqn : S'.ql.length ≤ 101 := by have := hO'.ql; omega
          go_loopw [15] (fun kv v => ∃ z : Nat, z ≤ S'.ql.length ∧ kv = .int .i64 z ∧ Env W (boxI bL (flat3 S'.ql) :: boxI Z [.int .i64 S'.hs, .int .i64 S'.hi] :: LX I m u p cc c qq X k s b h l S') v) (fun kv _ => S'.ql.length - (intOf kv).toNat)
          case atStart => exact ⟨0, Nat.zero_le _, rfl, hE5⟩
          case round =>
            clear hE5
            obtain ⟨z, hz, rfl, hE5⟩ := hrel
            by_cases hzl : z < S'.ql.length
            · have hb3 : decide ((z : Int) < S'.ql.length) = true := by simp; omega
              have hz1 : (z : Int) < (S'.ql.length : Int) := by omega
              have hz2 : (z : Int) < ((rl S'.ql).length : Int) := by rw [rl_length]; omega
              rcases hE5.cells3 5 rfl rfl with h0 | ⟨g, off2, hA, -, -⟩
              · rw [← rl_length, h0] at hzl; simp at hzl
              obtain ⟨e0, he0⟩ : ∃ e0, e0 = (S'.ql.getD z t0).1 := ⟨_, rfl⟩
              have HC2 : Hid (∀ y, Env W (boxI bL (flat3 S'.ql) :: boxI Z [.int .i64 S'.hs, .int .i64 S'.hi] :: LX I m u p cc c qq X k s b h l S') y → y.cell? ⟨u, 6, none⟩ = some (.slice (some ⟨g, off2, none⟩) (rl S'.ql).length S'.cp) ∧ y.cell? ⟨g, off2 + z * 3, none⟩ = some (.int .i64 e0) ∧ y.cell? ⟨bL, z * 3, none⟩ = some (.int .i64 e0) ∧ y.cell? ⟨bL, z * 3 + 1, none⟩ = some (.int .i64 0)) := Lib.hid fun y hy => by
                refine ⟨by rw [← hA]; exact hy.rule 4 rfl 6, ?_, ?_, ?_⟩
                · rcases hy.cells3 5 rfl rfl with h0 | ⟨g', off', hA', -, hc⟩
                  · rw [← rl_length, h0] at hzl; simp at hzl
                  · rw [hA] at hA'
                    cases hA'
                    have := hc z (by rw [rl_length]; exact hzl) 0 (.int .i64 e0) (by rw [he0]; simp [rl, enc3, hzl])
                    simpa using this
                · have := (hy.rule 0 rfl (z * 3 + 0)).trans (flat3_get S'.ql z 0 hzl (by omega))
                  rw [he0]; simpa [enc3] using this
                · have := (hy.rule 0 rfl (z * 3 + 1)).trans (flat3_get S'.ql z 1 hzl (by omega))
                  have hr := HRET.out (S'.ql.getD z t0) (by rw [show S'.ql.getD z t0 = S'.ql[z] by simp [hzl]]; exact List.getElem_mem _)
                  rw [this]
                  simp only [enc3, hr]
                  rfl
              clear hA he0
              go_wp2_with fail
              refine wp_text (S := (Env W (boxI bL (flat3 S'.ql) :: boxI Z [.int .i64 S'.hs, .int .i64 S'.hi] :: LX I m u p cc c qq X k s b h l S'))) (by kernel_rfl) (by kernel_rfl) hE5.drew (fun hT => ?_)
              have hT9 := Lib.hid hT
              clear hT
              repeat (first
                | (refine text_value (v := ?_) hT9.out (by rfl) ?_ ?_; rotate_left; (focus (intro w5 hS; obtain ⟨q6, q7, q8, q9⟩ := HC2.out _ hS; go_simp <;> with_reducible rfl)); (try simp only [Act.put, List.setIfInBounds_toArray, List.set_cons_zero, List.set_cons_succ]))
                | (refine text_off hT9.out (by rfl) ?_; (try simp only [Act.put, List.setIfInBounds_toArray, List.set_cons_zero, List.set_cons_succ]))
                | (refine text_call (v := ?_) (f := ?_) (args := ?_) hT9.out (by rfl) ?_ ?_ ?_; rotate_left 3; (focus (intro w5 hS; obtain ⟨q6, q7, q8, q9⟩ := HC2.out _ hS; go_simp; constructor <;> with_reducible rfl)); (focus (intro w5 hS; (first | fail))); (try simp only [Act.put, List.setIfInBounds_toArray, List.set_cons_zero, List.set_cons_succ])))
              refine InText.nil fun w5 hS5 => ?_
              clear hT9
              clear hE5 HC2
              go_wp2_with fail
              exact ⟨⟨z + 1, by omega, by simp, hS5⟩, by simp [intOf]; omega⟩
            · have hb3 : decide ((z : Int) < S'.ql.length) = false := by simp; omega
              go_wp2_with fail
              exact ⟨⟨j + 1, n', S', by omega, by omega, by simp, rfl, hO', hE5.sub (.cons _ (.cons _ (List.Sublist.refl _)))⟩, by simp [intOf]; omega⟩
      · by_cases hl1 : j < xs.length
        · have hl2 : ¬ j < 100 := fun h => hlt ⟨hl1, h⟩
          have hb1 : decide ((j : Int) < xs.length) = true := by simp; omega
          have hb2 : decide ((j : Int) < 100) = false := by simp; omega
          go_wp2_with fail
          go_ret
          exact ⟨rfl, hE.below⟩
        · have hb1 : decide ((j : Int) < xs.length) = false := by simp; omega
          go_wp2_with fail
          go_ret
          exact ⟨rfl, hE.below⟩
  · have HC := Lib.hid hc
    have hz : (chkI k s b h l == 0) = false := by simpa using hc
    clear hc
    go_enter Tryd.func3, Tryd.ntmps3
    go_wp2_with fail
    refine (awake13 _ (HG.out.keep' hE.below)).mono ?_
    rintro o w1 ⟨rfl, hb⟩
    replace hE := hE.over hb
    clear hb
    have r0 := hE.rule 0 rfl
    go_wp2_with fail
    refine (newNo_c k s b h l HC.out _).mono ?_
    rintro o w2 ⟨rfl, hb⟩
    replace hE := hE.over hb
    clear hb r0
    have r0 := hE.rule 0 rfl
    go_wp2_with fail
    refine (refCheck_any k s b h l _).mono ?_
    rintro o w3 ⟨rfl, hb⟩
    replace hE := hE.over hb
    clear hb r0
    go_wp2_with fail
    go_ret
    exact ⟨rfl, hE.below⟩

theorem own : ownKnob Tryd.prog.godebug = none := by kernel_rfl
theorem laidOut : laidOutB Tryd.prog = true := by kernel_rfl

set_option maxRecDepth 100000 in
theorem lifted (os : Os) (started : os.Started) (H : Type) (enc : TypeId × Value → H) :
    ReturnsInHanded {} Tryd.checked os 3 .any (fun w args => (Rows.coreExactSpec.pre enc Tryd.prog Tryd.f3 [] false w args ∧ laidMetH Tryd.prog laid3 w) ∧ sizedMet enc Tryd.prog Tryd.f3 (OpenSpec.ofChange Rows.coreExactSpec) false w args)
      (Rows.coreExactSpec.post enc Tryd.prog Tryd.f3 false true false false) := by
  refine returnsInHanded_of_change_and (C := Tryd.checked) (X := fun w _ => laidMetH Tryd.prog laid3 w) (fun _ _ _ hh h => h.of_heap hh) own started (by kernel_rfl) Tryd.func3
    (ChangeSpec.witness_shaped (enc := enc) (C := Tryd.checked) (os := os) (X := fun w _ => laidMetH Tryd.prog laid3 w) false (World.doorLaid Tryd.prog 24 os) #[.agg #[.int .i64 0, .int .i64 0, .int .i64 0, .int .i64 0, .int .i64 0], .slice none 0 0] 8 rfl (World.shaped_of_RefB (by kernel_rfl) (by kernel_rfl)) (by kernel_rfl) (by kernel_rfl) (by kernel_rfl) (door_met os _)) ?_
  intro W base args ds gs before hval0 hW _ _ hL _
  have hval : ∀ (j : Nat) t v, Tryd.f3.params[j]? = some t → args[j]? = some v → Value.okWide Tryd.prog W .any base t v := hval0
  have hW' := hW
  obtain ⟨p, q, hA0, hV, rfl, hfz, hnd⟩ := hW
  have hA : DataW.TrodAll enc Tryd.prog W 0 (fun _ => true) true Tryd.f3.params.toList args.toList ds p := hA0
  rw [Tryd.params3] at hA hval
  obtain ⟨v0, vs0, d0, ds0, p0, q0, hargs, rfl, rfl, g0, r0⟩ := trodAll_cons hA
  obtain ⟨v1, vs1, d1, ds1, p1, q1, rfl, rfl, rfl, g1, r1⟩ := trodAll_cons r0
  obtain ⟨rfl, rfl, rfl⟩ := trodAll_nil r1
  obtain rfl : args = #[v0, v1] := by cases args; simp_all
  obtain ⟨rfl, rfl⟩ := trodVars_none hV
  obtain ⟨cs0, rfl, z0, H0⟩ := open_flat (ss := [.num .i64, .num .i64, .num .i64, .num .i64, .num .i64]) Tryd.underlying23 (by kernel_rfl) (by kernel_rfl) ⟨Tryd.underlying3, Tryd.underlying3, Tryd.underlying3, Tryd.underlying3, Tryd.underlying3, trivial⟩ (hval 0 23 v0 rfl rfl) g0
  obtain ⟨l0, rfl, z0⟩ := list_of z0
  obtain ⟨x0_0, x0_1, x0_2, x0_3, x0_4, rfl⟩ := list5 z0
  obtain ⟨_, e, a0_0, rfl, w0_0⟩ := H0 0 _ rfl
  obtain rfl : x0_0 = .int .i64 a0_0 := by simpa using e
  clear e
  have h0_0 := i64_in w0_0
  obtain ⟨_, e, a0_1, rfl, w0_1⟩ := H0 1 _ rfl
  obtain rfl : x0_1 = .int .i64 a0_1 := by simpa using e
  clear e
  have h0_1 := i64_in w0_1
  obtain ⟨_, e, a0_2, rfl, w0_2⟩ := H0 2 _ rfl
  obtain rfl : x0_2 = .int .i64 a0_2 := by simpa using e
  clear e
  have h0_2 := i64_in w0_2
  obtain ⟨_, e, a0_3, rfl, w0_3⟩ := H0 3 _ rfl
  obtain rfl : x0_3 = .int .i64 a0_3 := by simpa using e
  clear e
  have h0_3 := i64_in w0_3
  obtain ⟨_, e, a0_4, rfl, w0_4⟩ := H0 4 _ rfl
  obtain rfl : x0_4 = .int .i64 a0_4 := by simpa using e
  clear e
  have h0_4 := i64_in w0_4
  clear H0
  obtain ⟨A1, n1, cap1, rfl⟩ := okWide_slice Tryd.underlying24 (hval 1 24 v1 rfl rfl)
  obtain ⟨zs1, rfl, h1, w1, row1⟩ := open_ActC g1 (fun x hx => hW'.lt x (by simp [hx]))
  unfold maxLen at h1
  clear hA0 hval0
  have hG := glo_of_laid hL
  refine (walk a0_0 a0_1 a0_2 a0_3 a0_4 zs1 A1 cap1 h1 W w1 row1 hG).mono fun e W' ⟨he, hg⟩ => ?_
  subst he
  exact ⟨_, rfl, law_post laidOut (by kernel_rfl) (by kernel_rfl) Tryd.underlying4 rfl rfl hW' hg⟩

theorem over : Rows.coreExactRow.holds Tryd.pinned (OpenSpec.ofChange Rows.coreExactSpec) :=
  OpenClaim.holds_of_wide 3 Tryd.f3 rfl rfl rfl rfl rfl rfl rfl ⟨rfl, rfl, rfl, rfl, rfl⟩ rfl rfl rfl rfl rfl (by kernel_rfl) Tryd.func3 (by kernel_rfl)
    (of_decide_eq_true (by kernel_rfl)) (by unfold Func.isWrapper; first | (rw [if_pos (by decide +kernel)]; kernel_rfl) | (rw [if_neg (by decide +kernel)]; exact ⟨rfl, rfl⟩))
    (fun os started H enc _ => lifted os started H enc)

/-- THE STATEMENT. -/
theorem proved : Rows.CoreExactCardSaid :=
  Claim7.holds_tied_plain_at .later [] [.wider, .wider, .wider] true _ false
    over (fun _ h => by cases h) (by kernel_rfl) (fun _ h => by cases h) coreExact_row_tie rfl ⟨rfl, rfl⟩ (by kernel_rfl) rfl
    (fun f fn hf hfn => by
      obtain rfl : f = 3 := Option.some.inj ((show Tryd.prog.funcNamed "revenant/revenantlaw13.CoreExact" = some 3 by kernel_rfl).symm.trans hf) |>.symm
      obtain rfl : fn = Tryd.f3 := (Option.some.inj (Tryd.func3.symm.trans hfn)).symm
      exact ⟨by kernel_rfl, fun j t ht => by
        rw [Tryd.params3] at ht
        have hm : t ∈ [23, 24] := by simpa using Array.mem_of_getElem? ht
        have hall : ([23, 24].all fun u => !Tryd.prog.wantsStandIn u) = true := by kernel_rfl
        exact (show Tryd.prog.wantsStandIn t = false by simpa using List.all_eq_true.1 hall t hm)⟩)
    (by kernel_rfl)
#print axioms proved
end Go.Proofs.YtlhhnaccigamjaaDoor.coreExact
