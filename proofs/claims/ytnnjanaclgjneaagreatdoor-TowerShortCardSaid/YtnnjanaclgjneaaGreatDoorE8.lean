/- What is proved on the way to the statement, part 8 of 10: contracts of the functions, among other things in memory. -/
import Derived.Test.YtnnjanaclgjneaaGreatDoorE7
import Derived.Test.YtnnjanaclgjneaaGreatDoorChecked
import Derived.Deep.MidRow
import Derived.LoopIn

/- A skip list that is laid: both memories. -/
namespace Go.Proofs.YtnnjanaclgjneaaGreatDoor
open Go.RowKit Go.Maps
set_option maxRecDepth 100000

section
variable {w0 w : World} {L : List Item}
theorem layH_succ (l : List Nt) (k : Nat) : layH l (k + 1) = layL k 5 (lvT l k) (4, 0, k) false (setL (layH l k) (1, 0, 0) 5) := rfl
theorem laidA {m H : Nat} {ns : List Nt} {g : Option Addr} {c : Nat} {ROW : Item} (hH : H ≤ 16) (hn : ns.length ≤ 30) (hok : ∀ n ∈ ns, NtOk H n) (hROW : rowKI encT 4 (.slice g ns.length c) 128 ns = ROW) (k : Nat) (hk : k < H) (F : Nat → Prop) (ml : List OneR) (v : World) (hv : Env w0 (refI m F ml :: ROW :: L) v) :
    Calls Tryz.prog 57 #[.slice g ns.length c, .int .i64 (k : Int)] v fun o w' => ∃ (g' : Option Addr) (c' : Nat), o = .returned (.slice g' (lvT ns k).length c') ∧ Env w0 (refI m F ml :: rowKI encN 4 (.slice g' (lvT ns k).length c') 132 (lvT ns k) :: ROW :: L) w' := by
  subst hROW
  refine (level_t k (by omega) ns g c hn (fun n h => (hok n h).2.2.2) (hv.perm (List.Perm.swap _ _ _))).mono ?_
  rintro o w1 ⟨g', c', rfl, h⟩
  exact ⟨g', c', rfl, h.perm (perm_of fun z => by simp only [List.count_cons]; omega)⟩
theorem laidB {m H : Nat} {ns : List Nt} {ROW : Item} (hH : H ≤ 16) (hn : ns.length ≤ 30) (k : Nat) (hk : k < H) (F : Nat → Prop) (g' : Option Addr) (c' : Nat) (v : World) (hv : Env w0 (refI m F (layH ns k) :: rowKI encN 4 (.slice g' (lvT ns k).length c') 132 (lvT ns k) :: ROW :: L) v) :
    Calls Tryz.prog 93 #[.pointer (some ⟨m, 0, none⟩), .int .i64 (k : Int), .int .i64 (k : Int), .int .i64 5, .slice g' (lvT ns k).length c'] v fun o w' => o = .returned (.tuple #[]) ∧ ∃ F', Env w0 (refI m F' (layH ns (k + 1)) :: ROW :: L) w' := by
  have h1 := lvT_length ns k
  have h2 := layH_length ns hn k
  have h3 : ((0 : Int) ≤ (k : Int) ∧ (k : Int) ≤ 1000) := by omega
  refine (lay_t k k 5 g' c' (lvT ns k) h3 (by omega) (by omega) (by omega) (fun F l v hv => hv.cellsK encN_len 1 rfl rfl) hv).mono ?_
  rintro o w1 ⟨rfl, F', h⟩
  rw [layH_succ]
  exact ⟨rfl, F', h.sub (.cons_cons _ (.cons _ (List.Sublist.refl _)))⟩
set_option maxHeartbeats 6400000 in
theorem laid18_t (H : Nat) (hH : 1 ≤ H ∧ H ≤ 16) (ns : List Nt) (g : Option Addr) (c : Nat) (hn : ns.length ≤ 30) (hok : ∀ n ∈ ns, NtOk H n) (hE : Env w0 (rowKI encT 4 (.slice g ns.length c) 128 ns :: L) w) :
    Calls Tryz.prog 40 #[.slice g ns.length c, .int .i64 (H : Int)] w fun o w' => ∃ (p cc n m : Nat) (G FU : Nat → Prop), o = .returned (.tuple #[.pointer (some ⟨p, 0, none⟩), .pointer (some ⟨m, 0, none⟩)]) ∧ n ≤ 1500 ∧ Env w0 (wbox p cc :: cellI cc G (getL (layH ns H)) ⟨0, (n : Int), 0, 0, 0⟩ n :: refI m FU (layH ns H) :: rowKI encT 4 (.slice g ns.length c) 128 ns :: L) w' := by
  obtain ⟨ROW, hROW⟩ : ∃ x, rowKI encT 4 (.slice g ns.length c) 128 ns = x := ⟨_, rfl⟩
  have hE1 := hE.newU w.heap.size rfl 139
  rw [hROW] at hE1 ⊢
  have HLV := Lib.hid fun (k : Nat) (hk : k < H) (F : Nat → Prop) (v : World) (hv : Env w0 (refI w.heap.size F (layH ns k) :: ROW :: L) v) => laidA hH.2 hn hok hROW k hk F _ v hv
  have HLY := Lib.hid fun (k : Nat) (hk : k < H) (F : Nat → Prop) (g' : Option Addr) (c' : Nat) (v : World) (hv : Env w0 (refI w.heap.size F (layH ns k) :: rowKI encN 4 (.slice g' (lvT ns k).length c') 132 (lvT ns k) :: ROW :: L) v) => laidB hH.2 hn k hk F g' c' v hv
  have hW := layH_words hok H (by omega)
  have hl := layH_length ns hn H
  have HML : Hid ((layH ns H).length ≤ 1500) := Lib.hid (by omega)
  have HW := Lib.hid hW
  have HH : Hid (H ≤ 16) := Lib.hid hH.2
  obtain ⟨ml, hml⟩ : ∃ ml, layH ns H = ml := ⟨_, rfl⟩
  rw [hml] at HML HW ⊢
  have HM := Lib.hid hml
  clear hE hW hl hok hH hml
  go_enter Tryz.func40, Tryz.ntmps40
  go_wp2_with fail
  generalize w.alloc _ = w1 at *
  generalize w.heap.size = m at *
  go_loopw [7] (fun iv wr => ∃ (k : Nat) (F : Nat → Prop), iv = .int .i64 k ∧ k ≤ H ∧ Env w0 (refI m F (layH ns k) :: ROW :: L) wr) (fun iv _ => H - (intOf iv).toNat)
  case atStart => exact ⟨0, _, rfl, Nat.zero_le _, hE1⟩
  case round =>
    clear hE1
    obtain ⟨k, F, rfl, hk, hE⟩ := hrel
    by_cases hlt : k < H
    · have hb1 : decide ((k : Int) < (H : Int)) = true := by simp; omega
      have hw1 : wrap64 ((k : Int) + 1) = (k : Int) + 1 := w64 _ (by have := HH.out; omega)
      go_wp2_with fail
      refine (HLV.out k hlt _ _ hE).mono ?_
      rintro o w2 ⟨g', c', rfl, hE2⟩
      go_wp2_with fail
      refine (HLY.out k hlt _ _ _ _ hE2).mono ?_
      rintro o w3 ⟨rfl, F3, hE3⟩
      go_wp2_with fail
      rw [hw1]
      clear hw1
      exact ⟨⟨k + 1, F3, by simp, by omega, hE3⟩, by simp [intOf]; omega⟩
    · have hkH : k = H := by omega
      subst hkH
      have hb1 : decide ((k : Int) < (k : Int)) = false := by simp
      clear HLV HLY hlt hk HH
      rw [HM.out] at hE
      obtain ⟨FU, hFU⟩ : ∃ FU, F = FU := ⟨_, rfl⟩
      rw [hFU] at hE
      clear hFU
      go_wp2_with fail
      refine (new_w hE).mono ?_
      rintro o w1 ⟨p, cc, rfl, hE1, -⟩
      clear hE
      go_wp2_with fail
      refine (refPlaces_any (by have := HML.out; omega) (hE1.ref 2 rfl).nodup (hE1.ref 2 rfl)).mono ?_
      rintro o w2 ⟨pl, v2, rfl, hpl, hpn, ho, hb⟩
      obtain ⟨A, cap, rfl⟩ := ownsRow_slice ho
      have hE2 := hE1.addPl ho hb
      have HPL := Lib.hid hpl
      have hpl1 : pl.length ≤ 10000 := by have := HML.out; omega
      have HPN := Lib.hid hpn
      clear hb ho hE1 hpl hpn
      rw [← laidF_nil (getL ml)] at hE2
      go_wp2_with fail
      go_loopw [10] (fun iv wr => ∃ (j : Nat) (G : Nat → Prop), j ≤ pl.length ∧ iv = .int .i64 j ∧ Env w0 (rowKI encP 3 (.slice A pl.length cap) 105 pl :: wbox p cc :: cellI cc G (laidF (getL ml) (pl.take j)) ⟨0, (j : Int), 0, 0, 0⟩ j :: refI m FU ml :: ROW :: L) wr) (fun iv _ => pl.length - (intOf iv).toNat)
      case atStart => exact ⟨0, _, Nat.zero_le _, rfl, hE2⟩
      case round =>
        clear hE2
        obtain ⟨j, G, hj, rfl, hE⟩ := hrel
        by_cases hlt : j < pl.length
        · have hb1 : decide ((j : Int) < (pl.length : Int)) = true := by simp; omega
          have hlt1 : (j : Int) < (pl.length : Int) := by omega
          obtain ⟨⟨x, y, z⟩, hx⟩ : ∃ x, pl.getD j z3 = x := ⟨_, rfl⟩
          obtain ⟨g, off, rfl⟩ : ∃ g off, A = some ⟨g, off, none⟩ := by
            rcases hE.cellsK encP_len 0 rfl rfl with h0 | ⟨g, off, h, -⟩
            · rw [h0] at hlt; simp at hlt
            · exact ⟨g, off, h⟩
          have HC : Hid (∀ G f q n v, Env w0 (rowKI encP 3 (.slice (some ⟨g, off, none⟩) pl.length cap) 105 pl :: wbox p cc :: cellI cc G f q n :: refI m FU ml :: ROW :: L) v → v.cell? ⟨g, off + j * 3, none⟩ = some (.int .i64 x) ∧ v.cell? ⟨g, off + j * 3 + 1, none⟩ = some (.int .i64 y) ∧ v.cell? ⟨g, off + j * 3 + 2, none⟩ = some (.int .i64 z)) := Lib.hid fun G f q n v hv => by
            rcases hv.cellsK encP_len 0 rfl rfl with h0 | ⟨g', off', h, -, hc⟩
            · rw [h0] at hlt; simp at hlt
            · cases h
              have h9 := hc j hlt
              rw [show pl.getD j default = (x, y, z) from hx] at h9
              exact ⟨h9 0 _ rfl, h9 1 _ rfl, h9 2 _ rfl⟩
          obtain ⟨u, hu⟩ : ∃ u, getL ml (x, y, z) = u := ⟨_, rfl⟩
          have HGT : Hid (∀ G f q n v, Env w0 (rowKI encP 3 (.slice (some ⟨g, off, none⟩) pl.length cap) 105 pl :: wbox p cc :: cellI cc G f q n :: refI m FU ml :: ROW :: L) v → Calls Tryz.prog 88 #[.pointer (some ⟨m, 0, none⟩), .agg #[.int .i64 x, .int .i64 y, .int .i64 z]] v fun e v' => e = .returned (.int .u64 u) ∧ Below v.heap.size v v') := Lib.hid fun G f q n v hv => by
            rw [← hu]
            exact refGet_any x y z (by have := HML.out; omega) (hv.ref 3 rfl)
          have hmem : (x, y, z) ∈ pl := by
            rw [← hx, List.getD_eq_getElem?_getD, List.getElem?_eq_getElem hlt]
            exact List.getElem_mem hlt
          have hwf : Wf (x, y, z) := Classical.byContradiction fun h => ((HPL.out.2 _).1 hmem) (HW.out.out _ h)
          have hui : InU u := by rw [← hu]; exact HW.out.u _
          have hstep : laidF (getL ml) (pl.take (j + 1)) = upd (laidF (getL ml) (pl.take j)) (x, y, z) u := by rw [laidF_step hlt hx, hu]
          have hwj : wrap64 ((j : Int) + 1) = (j : Int) + 1 := w64 _ (by omega)
          have HWF := Lib.hid hwf
          have HUI := Lib.hid hui
          have HSTEP := Lib.hid hstep
          have HWJ := Lib.hid hwj
          clear hmem hwf hui hstep hwj hu hx
          obtain ⟨c0, c1, c2⟩ := HC.out _ _ _ _ _ hE
          go_wp2_with fail
          clear c0 c1 c2
          refine Ord.wp_chain [13] (fun v => ∃ G f q n, Env w0 (rowKI encP 3 (.slice (some ⟨g, off, none⟩) pl.length cap) 105 pl :: wbox p cc :: cellI cc G f q n :: refI m FU ml :: ROW :: L) v) (fun k w' => ∃ G, Env w0 (rowKI encP 3 (.slice (some ⟨g, off, none⟩) pl.length cap) 105 pl :: wbox p cc :: (if k = 0 then cellI cc G (laidF (getL ml) (pl.take j)) ⟨0, (j : Int), 0, 0, 0⟩ j else cellI cc G (upd (laidF (getL ml) (pl.take j)) (x, y, z) u) ⟨0, wrap64 ((j : Int) + 1), 0, 0, 0⟩ (j + 1)) :: refI m FU ml :: ROW :: L) w') (by kernel_rfl) (by kernel_rfl) (by kernel_rfl) ⟨_, _, _, _, hE.drew⟩ ⟨_, hE.drew⟩ (fun hT => ?_)
          have hT9 := Lib.hid hT
          clear hT
          repeat (first
            | (refine Ord.ch_value (v := ?_) hT9.out (by decide) (by rfl) ?_ ?_; rotate_left; (focus (intro w5 hS; obtain ⟨G8, f8, q8, n8, hS8⟩ := hS; obtain ⟨c0, c1, c2⟩ := HC.out _ _ _ _ _ hS8; go_simp <;> with_reducible rfl)); (try simp only [Act.put, List.setIfInBounds_toArray, List.set_cons_zero, List.set_cons_succ]))
            | (refine Ord.ch_off hT9.out (by decide) (by rfl) ?_; (try simp only [Act.put, List.setIfInBounds_toArray, List.set_cons_zero, List.set_cons_succ]))
            | (refine Ord.ch_call (v := ?_) (f := ?_) (args := ?_) hT9.out (by decide) (by rfl) ?_ ?_ ?_; rotate_left 3; (focus (intro w5 hS; obtain ⟨G8, f8, q8, n8, hS8⟩ := hS; obtain ⟨c0, c1, c2⟩ := HC.out _ _ _ _ _ hS8; go_simp; constructor <;> with_reducible rfl)); (focus (intro w5 hS; (first | (obtain ⟨G8, f8, q8, n8, hS8⟩ := hS; with_reducible refine (HGT.out _ _ _ _ _ hS8).mono ?_; rintro o w6 ⟨rfl, hb6⟩; constructor; with_reducible rfl; exact ⟨⟨G8, f8, q8, n8, hS8.over hb6⟩, fun k h => h.elim fun G h => ⟨G, h.over hb6⟩⟩)))); (try simp only [Act.put, List.setIfInBounds_toArray, List.set_cons_zero, List.set_cons_succ])))
          refine Ord.ch_turn (v := .tuple #[]) 0 hT9.out rfl (by decide) (Or.inl rfl) (by rfl) ?_ ?_
          · rintro w5 hC5 ⟨G5, hA5⟩
            simp only [if_true] at hA5
            go_simp
            simp only [Ord.LandsIn]
            refine (store_w x y z 0 u 0 false HWF.out HUI.out (by unfold maxLen; omega) 1 2 (by decide) hA5 rfl rfl).mono ?_
            rintro e w6 ⟨rfl, G6, hE6⟩
            exact ⟨rfl, ⟨_, _, _, _, hE6⟩, G6, hE6⟩
          (try simp only [Act.put, List.setIfInBounds_toArray, List.set_cons_zero, List.set_cons_succ])
          refine Ord.InText.nil fun w5 hS => ?_
          clear hT9
          obtain ⟨hC9, hA9⟩ := Ord.chain_end hS
          clear hS
          obtain ⟨G9, hA9⟩ := hA9
          simp only [List.length_cons, List.length_nil, Nat.zero_add, Nat.one_ne_zero, if_false] at hA9
          rw [← HSTEP.out, HWJ.out] at hA9
          clear hC9 hE
          go_wp2_with fail
          exact ⟨⟨j + 1, G9, by omega, by simp, by simpa using hA9⟩, by simp [intOf]; omega⟩
        · have hb1 : decide ((j : Int) < (pl.length : Int)) = false := by simp; omega
          have hjl : j = pl.length := by omega
          have HJL := Lib.hid hjl
          clear hjl
          go_wp2_with fail
          refine bodyPost_ret (v := .tuple #[.pointer (some ⟨p, 0, none⟩), .pointer (some ⟨m, 0, none⟩)]) (by simp [results, Tryz.results40, go_sem]) rfl ⟨p, cc, j, m, G, FU, rfl, by have := HPN.out; have := HML.out; omega, ?_⟩
          have h9 : laidF (getL ml) (pl.take j) = getL ml := by rw [HJL.out, List.take_length]; exact laidF_all HPL.out
          rw [h9] at hE
          exact hE.sub (.cons _ (List.Sublist.refl _))
end
end Go.Proofs.YtnnjanaclgjneaaGreatDoor

/- A skip list's nodes and deeds that came in: rows of structs. -/
namespace Go.Proofs.YtnnjanaclgjneaaGreatDoor
open Go.RowKit Go.Maps
set_option maxRecDepth 100000

structure NtI where
  s : Int
  key : Int
  top : Int
  marks : Int
instance : Inhabited NtI := ⟨⟨0, 0, 0, 0⟩⟩
def encNtI (r : NtI) : List Value := [.int .i64 r.s, .int .u64 r.key, .int .i64 r.top, .int .i64 r.marks]
def OkNtI (r : NtI) : Prop := In64 r.s ∧ InU r.key ∧ In64 r.top ∧ In64 r.marks
theorem flatNtI : flatT Tryz.prog 6 128 = some [.num .i64, .num .u64, .num .i64, .num .i64] := by kernel_rfl
theorem cellsNtI : Tryz.prog.cellsOf 128 = 4 := by kernel_rfl
theorem open_NtI {H : Type} {en : TypeId × Value → H} {W : World} {A : Option Addr} {len cap : Nat} {d : DataW H} {p : List MemPlace}
    (h : DataW.Trod en Tryz.prog W 0 (fun _ => true) true 88 (.slice A len cap) d p) (hlt : ∀ x ∈ p, x.block < W.heap.size) :
    ∃ xs : List NtI, xs.length = len ∧ len ≤ maxLen ∧ (∀ r ∈ xs, OkNtI r) ∧ RowX encNtI 4 W A xs := by
  refine open_rowX Tryz.underlying88 flatNtI cellsNtI (by simp) (fun w b o hall => ?_) h hlt
  obtain ⟨_, c0, x0, rfl, w0⟩ := hall 0 _ rfl
  obtain ⟨_, c1, x1, rfl, w1⟩ := hall 1 _ rfl
  obtain ⟨_, c2, x2, rfl, w2⟩ := hall 2 _ rfl
  obtain ⟨_, c3, x3, rfl, w3⟩ := hall 3 _ rfl
  refine ⟨⟨x0, x1, x2, x3⟩, fun j v e => ?_, wf_i.1 w0, wf_u.1 w1, wf_i.1 w2, wf_i.1 w3⟩
  match j with
  | 0 => simp [encNtI] at e; subst e; exact c0
  | 1 => simp [encNtI] at e; subst e; exact c1
  | 2 => simp [encNtI] at e; subst e; exact c2
  | 3 => simp [encNtI] at e; subst e; exact c3
  | j + 4 => simp [encNtI] at e
theorem at_NtI {w : World} {b o : Nat} {s key top marks : Int} (h : CellsAt w b o (encNtI ⟨s, key, top, marks⟩)) :
    w.cell? ⟨b, o, none⟩ = some (.int .i64 s) ∧ w.cell? ⟨b, o + 1, none⟩ = some (.int .u64 key) ∧ w.cell? ⟨b, o + 2, none⟩ = some (.int .i64 top) ∧ w.cell? ⟨b, o + 3, none⟩ = some (.int .i64 marks) :=
  ⟨h 0 _ rfl, h 1 _ rfl, h 2 _ rfl, h 3 _ rfl⟩
end Go.Proofs.YtnnjanaclgjneaaGreatDoor

/- An array of 1001 marks in a block of the call's own. -/
namespace Go.Proofs.YtnnjanaclgjneaaGreatDoor
open Go.RowKit
set_option maxRecDepth 100000

/-- 1001 marks, none set. -/
def zero1001 : Array Value := Array.replicate 1001 (.bool false)
theorem build1001 (w : World) : (Instr.build 198 #[]).run Tryz.prog w = .ok (.agg zero1001) w := by kernel_rfl
theorem one1001 : zero1001.all (·.oneCell') = true := Array.all_eq_true_iff_forall_mem.2 fun v hv => by
  have h := Array.eq_of_mem_replicate (show v ∈ Array.replicate 1001 (Value.bool false) from hv)
  rw [h]
  rfl
theorem size1001 : (Tryz.prog.info? 198).map (·.size) = some zero1001.size := by kernel_rfl

/-- The marks of a block, as a function. -/
def UsedM (h : Nat) (w wr : World) (T : Nat → Bool) : Prop := (∀ i, i < 1001 → wr.cell? ⟨h, i, none⟩ = some (.bool (T i)) ∧ wr.frozen? ⟨h, i, none⟩ = false) ∧ Below h w wr ∧ h < wr.heap.size
theorem UsedM.below {h : Nat} {w wr w1 : World} {T : Nat → Bool} (u : UsedM h w wr T) (hb : Below wr.heap.size wr w1) : UsedM h w w1 T := by
  obtain ⟨u1, u2, u3⟩ := u
  refine ⟨fun i hi => ?_, u2.trans (hb.mono (by omega)), by have := hb.size; omega⟩
  rw [hb.cell (p := ⟨h, i, none⟩) u3, hb.frozen (p := ⟨h, i, none⟩) u3]
  exact u1 i hi
theorem UsedM.store {h : Nat} {w wr : World} {T : Nat → Bool} (u : UsedM h w wr T) {j : Nat} (hj : j < 1001) : UsedM h w (wr.setCell ⟨h, j, none⟩ (.bool true)) (fun i => T i || decide (i = j)) := by
  obtain ⟨u1, u2, u3⟩ := u
  refine ⟨fun i hi => ?_, u2.setCell (Nat.le_refl _) _, by simpa using u3⟩
  rw [World.frozen?_setCell]
  refine ⟨?_, (u1 i hi).2⟩
  by_cases hij : i = j
  · subst hij
    rw [World.cell?_setCell_same _ _ _ (u1 i hi).1]
    simp
  · rw [World.cell?_setCell_other _ _ _ _ (by first | (simp; done) | (simp; omega)), (u1 i hi).1]
    simp [hij]
theorem below_setCellsM {B : Nat} {a : World} {b : Nat} (hb : B ≤ b) : ∀ (vs : List Value) (o : Nat) (w : World), Below B a w → Below B a (w.setCells b o vs)
  | [], _, _, h => h
  | _ :: r, o, _, h => below_setCellsM hb r (o + 1) _ (h.setCell hb _)
theorem size_setCellsM (b : Nat) : ∀ (vs : List Value) (o : Nat) (w : World), (w.setCells b o vs).heap.size = w.heap.size
  | [], _, _ => rfl
  | _ :: r, o, w => by rw [World.setCells, size_setCellsM b r]; simp
theorem usedM_new (w : World) : UsedM w.heap.size w ((w.alloc (.cells zero1001 198)).setCells w.heap.size 0 zero1001.toList) (fun _ => false) := by
  have hg : (w.alloc (.cells zero1001 198)).heap[w.heap.size]? = some (.cells zero1001 198 (0, 0)) := heap_alloc_new w _
  have ht : (w.alloc (.cells zero1001 198)).there w.heap.size 0 zero1001.toList.length := fun j hj => by
    rw [Nat.zero_add]
    refine ⟨?_, frozen_of_row _ _ _ _ _ hg⟩
    rw [cell_of_row _ _ _ _ _ _ hg]
    have : j < zero1001.size := by simpa using hj
    simp [this]
  refine ⟨fun i hi => ?_, below_setCellsM (Nat.le_refl _) _ _ _ ((Below.refl _ _).alloc (Nat.le_refl _) _), by rw [size_setCellsM]; simp⟩
  have h1 := World.rangeAt_setCells_same (w.alloc (.cells zero1001 198)) w.heap.size 0 zero1001.toList ht i (.bool false) (by unfold zero1001; rw [Array.toList_replicate, List.getElem?_replicate]; simp only [hi, if_true])
  rw [Nat.zero_add] at h1
  refine ⟨h1, ?_⟩
  rw [World.frozen?_setCells]
  exact frozen_of_row _ _ _ _ _ hg

set_option maxHeartbeats 3200000 in
/-- 'used := [1001]bool{}': one step of the walk. -/
theorem list_usedM {ops : Array Oper} {rest : List Oper} {o1 o2 o3 : Oper} {a : Act} {w : World} {Q : Exit → Act → World → Prop} (g1 : o1.guard = none) (g2 : o2.guard = none) (g3 : o3.guard = none)
    (h1 : o1.op = .build 198 #[]) (h2 : o2.op = .alloc 198) (x y : Operand) (h3 : o3.op = .store 198 x y)
    (hx : ((a.put o1.dst (.agg zero1001)).put o2.dst (.pointer (some ⟨w.heap.size, 0, none⟩))).eval x = .pointer (some ⟨w.heap.size, 0, none⟩)) (hy : ((a.put o1.dst (.agg zero1001)).put o2.dst (.pointer (some ⟨w.heap.size, 0, none⟩))).eval y = .agg zero1001)
    (h : ∀ w2, UsedM w.heap.size w w2 (fun _ => false) → wpList Tryz.prog ops Q rest (((a.put o1.dst (.agg zero1001)).put o2.dst (.pointer (some ⟨w.heap.size, 0, none⟩))).put o3.dst undef) w2) : wpList Tryz.prog ops Q (o1 :: o2 :: o3 :: rest) a w := by
  refine wpList_plain g1 fun K1 hK1 => ?_
  unfold Oper.wp
  have e1 : (execOp a.eval o1).run Tryz.prog w = .ok (.value (.agg zero1001)) w := by
    have hb := build1001 w
    unfold execOp
    simp only [h1]
    rw [Array.map_empty]
    simp [hb]
  rw [e1]
  refine hK1 _ _ ?_
  refine wpList_plain g2 fun K2 hK2 => ?_
  unfold Oper.wp
  have e2 : (execOp (a.put o1.dst (.agg zero1001)).eval o2).run Tryz.prog w = .ok (.value (.pointer (some ⟨w.heap.size, 0, none⟩))) (w.alloc (.cells zero1001 198)) := by
    unfold execOp
    simp only [h2]
    kernel_rfl
  rw [e2]
  refine hK2 _ _ ?_
  exact wpList_store_mid g3 198 x y h3 w.heap.size 0 zero1001 hx hy (fun j hj => by
    have hg : (w.alloc (.cells zero1001 198)).heap[w.heap.size]? = some (.cells zero1001 198 (0, 0)) := heap_alloc_new w _
    rw [Nat.zero_add]
    refine ⟨?_, frozen_of_row _ _ _ _ _ hg⟩
    rw [cell_of_row _ _ _ _ _ _ hg]
    simp [hj]) size1001 one1001 (h _ (usedM_new w))

/-- The marks as a thing. -/
def usedMI (B : Nat) (T : Nat → Bool) : Item where
  F := fun k => k = B
  says := fun w => B < w.heap.size ∧ ∀ i, i < 1001 → w.cell? ⟨B, i, none⟩ = some (.bool (T i)) ∧ w.frozen? ⟨B, i, none⟩ = false
  loc := fun w1 w2 h hk hs => ⟨Nat.lt_of_lt_of_le h.1 hs, fun i hi => by
    have hb := hk B rfl
    obtain ⟨h1, h2⟩ := h.2 i hi
    exact ⟨by rw [World.cell?_of_block (w := w1) hb]; exact h1, by rw [World.frozen?_of_block (w := w1) hb]; exact h2⟩⟩
theorem Env.usedM {w0 w w' : World} {L : List Item} {T : Nat → Bool} (h : Env w0 L w) {B : Nat} (hB : w.heap.size = B) (hu : UsedM B w w' T) : Env w0 (usedMI B T :: L) w' := by
  subst hB
  exact h.add (usedMI w.heap.size T) hu.2.1 ⟨hu.2.2, hu.1⟩ fun k hk => by cases hk; exact ⟨Nat.le_refl _, hu.2.2⟩
theorem Env.markM {w0 w : World} {L : List Item} {B : Nat} {T : Nat → Bool} (h : Env w0 L w) (i : Nat) (hi : L[i]? = some (usedMI B T)) {j : Nat} (hj : j < 1001) : Env w0 (L.set i (usedMI B (fun k => T k || decide (k = j)))) (w.setCell ⟨B, j, none⟩ (.bool true)) := by
  have hs : (usedMI B T).says w := h.get i hi
  refine h.step i (usedMI B (fun k => T k || decide (k = j))) hi ⟨(Turn.refl (fun k => k = B) w).setCell (p := ⟨B, j, none⟩) (fun _ => rfl) _, fun k hk => .inl hk⟩ ⟨by simpa using hs.1, fun k hk => ?_⟩ fun k hk => by
    have := h.lt i hi k hk
    simpa using this
  rw [World.frozen?_setCell]
  refine ⟨?_, (hs.2 k hk).2⟩
  by_cases hkj : k = j
  · subst hkj
    rw [World.cell?_setCell_same _ _ _ (hs.2 k hk).1]
    simp
  · rw [World.cell?_setCell_other _ _ _ _ (by first | (simp; done) | (simp; omega)), (hs.2 k hk).1]
    simp [hkj]
end Go.Proofs.YtnnjanaclgjneaaGreatDoor

/- The contract of law 18's nodes: slots that can be, each once, by rising keys. -/
namespace Go.Proofs.YtnnjanaclgjneaaGreatDoor
open Go.RowKit Go.Maps
set_option maxRecDepth 100000

theorem infoNt : (Tryz.prog.info? 128).map (fun i => (i.zero, i.size, i.bytes)) = some (some (.agg #[.int .i64 0, .int .u64 0, .int .i64 0, .int .i64 0]), 4, 32) := by kernel_rfl
/-- Whether a key is there, of so many. -/
def twT (key : Int) (ns : List Nt) (k : Nat) : Bool := (ns.take k).any fun n => n.key == key
theorem twT_step {key : Int} {ns : List Nt} {k : Nat} (hk : k < ns.length) : twT key ns (k + 1) = (twT key ns k || (ns.getD k default).key == key) := by
  unfold twT
  rw [List.take_succ_eq_append_getElem hk, List.any_append]
  have : ns.getD k default = ns[k] := by simp [hk]
  rw [this]
  simp
theorem twT_no {key : Int} {ns : List Nt} (h : twT key ns ns.length = false) : ∀ n ∈ ns, n.key ≠ key := by
  intro n hn e
  unfold twT at h
  rw [List.take_length, List.any_eq_false] at h
  exact h n hn (by simpa using e)
theorem SortT.ins {H : Nat} {ns ms : List Nt} {x : Nt} (h : SortT H ns) (hx : NtOk H x) (hs : ∀ n ∈ ns, n.s ≠ x.s) (hp : ms.Perm (ns ++ [x])) (hu : ms.Pairwise fun a b => a.key < b.key) : SortT H ms := by
  refine ⟨fun n hn => ?_, ?_, hu⟩
  · rcases List.mem_append.1 (hp.mem_iff.1 hn) with h1 | h1
    · exact h.ok n h1
    · rw [List.mem_singleton.1 h1]; exact hx
  · rw [(hp.map (·.s)).nodup_iff, List.map_append, List.nodup_append]
    refine ⟨h.nd, by simp, ?_⟩
    intro a ha b hb hab
    simp only [List.map_cons, List.map_nil, List.mem_singleton] at hb
    subst hab hb
    obtain ⟨n, hn, he⟩ := List.mem_map.1 ha
    exact hs n hn he

section
variable {w0 w : World} {L : List Item}
set_option maxHeartbeats 12800000 in
theorem nodes18_t (A : Option Addr) (cap : Nat) (xs : List NtI) (hxl : xs.length ≤ 9223372036854775807) (H : Nat) (hH : 1 ≤ H ∧ H ≤ 16) (hok : ∀ r ∈ xs, OkNtI r) (hrow : RowX encNtI 4 w0 A xs) (hE : Env w0 L w) :
    Calls Tryz.prog 41 #[.slice A xs.length cap, .int .i64 (H : Int)] w fun o w' => ∃ (g : Option Addr) (c : Nat) (ns : List Nt), o = .returned (.slice g ns.length c) ∧ ns.length ≤ 30 ∧ SortT H ns ∧ Env w0 (rowKI encT 4 (.slice g ns.length c) 128 ns :: L) w' := by
  have hE1 := hE.addEmptyK (enc := encT) (k := 4) w.heap.size rfl 128
  have HROW := Lib.hid hrow
  have HOK := Lib.hid hok
  have hwu : IntKind.u64.wrap (H : Int) = (H : Int) := by rw [IntKind.wrap_u64]; omega
  have hh0 : ((H : Int) == 0) = false := by simp; omega
  have hh1 : ¬ (H : Int) = 0 := by omega
  clear hrow hok hE
  go_enter Tryz.func41, Tryz.ntmps41
  go_wp2_with (first | (refine list_usedM rfl rfl rfl rfl rfl _ _ rfl rfl rfl ?_; intro w2 hu))
  have hs1 : (w.alloc (.cells #[] 128)).heap.size = w.heap.size + 1 := by simp
  rw [hs1] at hu
  have hE := hE1.usedM hs1 hu
  clear hu hE1 hs1
  generalize w.heap.size = B0 at *
  go_loopw [5, 7] (fun ov iv wr => ∃ (j : Nat) (ns : List Nt) (g : Option Addr) (c : Nat) (T : Nat → Bool), ov = .slice g ns.length c ∧ iv = .int .i64 j ∧ j ≤ xs.length ∧ j ≤ 30 ∧ ns.length ≤ j ∧ Hid (SortT H ns ∧ ∀ n ∈ ns, T n.s.toNat = true) ∧ Env w0 (usedMI (B0 + 1) T :: rowKI encT 4 (.slice g ns.length c) 128 ns :: L) wr) (fun _ iv _ => 30 - (intOf iv).toNat)
  case atStart => exact ⟨0, [], _, 0, _, rfl, rfl, Nat.zero_le _, by omega, Nat.le_refl _, Lib.hid ⟨⟨by simp, by simp, List.Pairwise.nil⟩, by simp⟩, hE⟩
  case round =>
    clear hE
    obtain ⟨j, ns, g, c, T, rfl, rfl, hj, hj4, hnl, hinv, hE⟩ := hrel
    by_cases hlt : j < xs.length
    · by_cases hlt4 : j < 30
      · have hb1 : decide ((j : Int) < (xs.length : Int)) = true := by simp; omega
        have hb2 : decide ((j : Int) < 30) = true := by simp; omega
        have hlt1 : (j : Int) < (xs.length : Int) := by omega
        rcases HROW.out with h0 | ⟨g0, off, rfl, hgl, hc⟩
        · rw [h0] at hlt; simp at hlt
        obtain ⟨x, hx⟩ : ∃ x, xs.getD j default = x := ⟨_, rfl⟩
        have hxo : OkNtI x := HOK.out x (by rw [← hx, List.getD_eq_getElem?_getD, List.getElem?_eq_getElem hlt]; exact List.getElem_mem hlt)
        have hcj := (hc j hlt).below hE.below hgl
        rw [hx] at hcj
        obtain ⟨s, key, tp, mks⟩ := x
        obtain ⟨c0, c1, c2, c3⟩ := at_NtI hcj
        obtain ⟨r, hr, hr0, hr1⟩ := cut_u1 s 1000 (by decide) (by decide)
        obtain ⟨t, rfl⟩ : ∃ t : Nat, r = (t : Int) := ⟨r.toNat, by omega⟩
        obtain ⟨tq, htq, tq0, tq1⟩ := cut_u1 tp (H : Int) (by omega) (by omega)
        obtain ⟨mq, hmq, mq0, mq1⟩ := cut_u mks 65536 (by decide) (by decide)
        have htl : t < 1001 := by omega
        have ht2 : (t : Int) < 1001 := by omega
        have hk : InU key := by have := hxo; unfold OkNtI at this; exact this.2.1
        have HOKN : Hid (NtOk H ⟨(t : Int), key, tq, mq⟩) := Lib.hid ⟨⟨hr0, hr1⟩, hk, ⟨tq0, tq1⟩, mq0, by show mq ≤ 65535; omega⟩
        have hE6 := hE.box wr.heap.size rfl [.int .i64 t, .int .u64 key, .int .i64 tq, .int .i64 mq] 128
        clear hx hcj hc hk hr0 hr1 tq0 tq1 mq0 mq1 hxo
        go_upto_region 10 with fail
        generalize wr.alloc _ = w3 at *
        generalize wr.heap.size = X at *
        clear c0 c1 c2 c3 hE hr htq hmq
        have hE := hE6
        clear hE6
        go_wp2_with fail
        go_loopw [9, 10] (fun tv kv wq => ∃ k : Nat, k ≤ ns.length ∧ tv = .bool (twT key ns k) ∧ kv = .int .i64 k ∧ Env w0 (boxI X [.int .i64 t, .int .u64 key, .int .i64 tq, .int .i64 mq] :: usedMI (B0 + 1) T :: rowKI encT 4 (.slice g ns.length c) 128 ns :: L) wq) (fun _ kv _ => ns.length - (intOf kv).toNat)
        case atStart => exact ⟨0, Nat.zero_le _, rfl, rfl, hE⟩
        case round =>
          clear hE
          obtain ⟨k, hk, rfl, rfl, hE⟩ := hrel
          by_cases hkl : k < ns.length
          · have hb3 : decide ((k : Int) < (ns.length : Int)) = true := by simp; omega
            have hk3 : (k : Int) < (ns.length : Int) := by omega
            obtain ⟨b, rfl⟩ := hE.atT 2 rfl rfl (by omega)
            obtain ⟨y, hy⟩ : ∃ y, ns.getD k default = y := ⟨_, rfl⟩
            have HA : Hid (∀ v, Env w0 (boxI X [.int .i64 t, .int .u64 key, .int .i64 tq, .int .i64 mq] :: usedMI (B0 + 1) T :: rowKI encT 4 (.slice (some ⟨b, 0, none⟩) ns.length c) 128 ns :: L) v → v.cell? ⟨b, k * 4, none⟩ = some (.int .i64 y.s) ∧ v.cell? ⟨b, k * 4 + 1, none⟩ = some (.int .u64 y.key) ∧ v.cell? ⟨b, k * 4 + 2, none⟩ = some (.int .i64 y.top) ∧ v.cell? ⟨b, k * 4 + 3, none⟩ = some (.int .i64 y.marks)) := Lib.hid fun v hv => hv.cellT 2 rfl rfl hkl hy
            have hst := twT_step (key := key) hkl
            rw [hy] at hst
            have HST := Lib.hid hst
            clear hy hst
            obtain ⟨ys, yk, yt, ym⟩ := y
            dsimp only at HA HST
            generalize twT key ns k = tb at *
            cases tb
            · go_wp2_with fail
              refine wp_text (S := (Env w0 (boxI X [.int .i64 t, .int .u64 key, .int .i64 tq, .int .i64 mq] :: usedMI (B0 + 1) T :: rowKI encT 4 (.slice (some ⟨b, 0, none⟩) ns.length c) 128 ns :: L))) (by kernel_rfl) (by kernel_rfl) hE.drew (fun hT => ?_)
              have hT9 := Lib.hid hT
              clear hT
              repeat (first
                | (refine text_value (v := ?_) hT9.out (by rfl) ?_ ?_; rotate_left; (focus (intro w5 hS; obtain ⟨a0, a1, a2, a3⟩ := HA.out _ hS; have r0 := hS.rule 0 rfl; go_simp <;> with_reducible rfl)); (try simp only [Act.put, List.setIfInBounds_toArray, List.set_cons_zero, List.set_cons_succ]))
                | (refine text_off hT9.out (by rfl) ?_; (try simp only [Act.put, List.setIfInBounds_toArray, List.set_cons_zero, List.set_cons_succ]))
                | (refine text_call (v := ?_) (f := ?_) (args := ?_) hT9.out (by rfl) ?_ ?_ ?_; rotate_left 3; (focus (intro w5 hS; obtain ⟨a0, a1, a2, a3⟩ := HA.out _ hS; have r0 := hS.rule 0 rfl; go_simp; constructor <;> with_reducible rfl)); (focus (intro w5 hS; (first | fail))); (try simp only [Act.put, List.setIfInBounds_toArray, List.set_cons_zero, List.set_cons_succ])))
              refine InText.nil fun w5 hS5 => ?_
              clear hT9
              go_wp2_with fail
              exact ⟨⟨k + 1, by omega, by rw [HST.out]; simp, by simp, hS5⟩, by simp [intOf]; omega⟩
            · go_wp2_with fail
              refine wp_text (S := (Env w0 (boxI X [.int .i64 t, .int .u64 key, .int .i64 tq, .int .i64 mq] :: usedMI (B0 + 1) T :: rowKI encT 4 (.slice (some ⟨b, 0, none⟩) ns.length c) 128 ns :: L))) (by kernel_rfl) (by kernel_rfl) hE.drew (fun hT => ?_)
              have hT9 := Lib.hid hT
              clear hT
              repeat (first
                | (refine text_value (v := ?_) hT9.out (by rfl) ?_ ?_; rotate_left; (focus (intro w5 hS; skip; go_simp <;> with_reducible rfl)); (try simp only [Act.put, List.setIfInBounds_toArray, List.set_cons_zero, List.set_cons_succ]))
                | (refine text_off hT9.out (by rfl) ?_; (try simp only [Act.put, List.setIfInBounds_toArray, List.set_cons_zero, List.set_cons_succ]))
                | (refine text_call (v := ?_) (f := ?_) (args := ?_) hT9.out (by rfl) ?_ ?_ ?_; rotate_left 3; (focus (intro w5 hS; skip; go_simp; constructor <;> with_reducible rfl)); (focus (intro w5 hS; (first | fail))); (try simp only [Act.put, List.setIfInBounds_toArray, List.set_cons_zero, List.set_cons_succ])))
              refine InText.nil fun w5 hS5 => ?_
              clear hT9
              go_wp2_with fail
              exact ⟨⟨k + 1, by omega, by rw [HST.out]; simp, by simp, hS5⟩, by simp [intOf]; omega⟩
          · have hkn : k = ns.length := by omega
            subst hkn
            have hb3 : decide ((ns.length : Int) < (ns.length : Int)) = false := by simp
            obtain ⟨tb, htb⟩ : ∃ tb, twT key ns ns.length = tb := ⟨_, rfl⟩
            rw [htb]
            have HTB := Lib.hid htb
            clear htb hk hkl
            have hus := ((show (usedMI (B0 + 1) T).says _ from hE.get 1 rfl).2 t htl)
            obtain ⟨hus1, hus2⟩ := hus
            have r0 := hE.rule 0 rfl
            cases hT : T t
            · rw [hT] at hus1
              cases tb
              · have hE8 := hE.markM 1 rfl htl
                simp only [List.set_cons_succ, List.set_cons_zero] at hE8
                have r8 := hE8.rule 0 rfl
                have hE9 := hE8.box wr.heap.size (by simp) (encT ⟨(t : Int), key, tq, mq⟩) 128
                obtain ⟨A9, c9, w9, hrun, hE10⟩ := hE9.appendK (xs := [(⟨(t : Int), key, tq, mq⟩ : Nt)]) encT_len (by decide) encT_one 3 rfl 88 88 Tryz.underlying88 rfl infoNt 1 (Blk.rowK (enc := encT) (k := 4) encT_len (l := [(⟨(t : Int), key, tq, mq⟩ : Nt)]) (show Blk 0 _ _ (flatK encT [(⟨(t : Int), key, tq, mq⟩ : Nt)]) from hE9.get 0 rfl)) (fun h => by cases h) (by unfold maxLen; simp; omega) (by simp; omega)
                have HRUN := Lib.hid hrun
                have HSL : Hid (∀ n ∈ ns, n.s ≠ (t : Int)) := Lib.hid fun n hn e => by
                  have h3 := hinv.out.2 n hn
                  rw [e, show ((t : Int)).toNat = t from by simp, hT] at h3
                  exact absurd h3 (by simp)
                have HIN : Hid (InsT ⟨(t : Int), key, tq, mq⟩ ns.length (ns ++ [⟨(t : Int), key, tq, mq⟩])) := Lib.hid (InsT.start hinv.out.1.up fun n hn => twT_no HTB.out n hn)
                have HT2 : Hid (∀ n ∈ ns ++ [(⟨(t : Int), key, tq, mq⟩ : Nt)], (fun k => T k || decide (k = t)) n.s.toNat = true) := Lib.hid fun n hn => by
                  rcases List.mem_append.1 hn with hn | hn
                  · simp [hinv.out.2 n hn]
                  · simp only [List.mem_singleton] at hn
                    subst hn
                    simp
                clear hrun hE9 hE
                go_upto_region 18 with (first | (at_builtin; refine wpList_append_run rfl _ _ 88 rfl HRUN.out rfl rfl ?_))
                have hEn : Env w0 (boxI X [.int .i64 t, .int .u64 key, .int .i64 tq, .int .i64 mq] :: usedMI (B0 + 1) (fun k => T k || decide (k = t)) :: rowKI encT 4 (.slice A9 (ns.length + 1) c9) 128 (ns ++ [⟨(t : Int), key, tq, mq⟩]) :: L) w9 := by
                  have h9 := hE10.sub (.cons _ (List.Sublist.refl _))
                  simpa using h9
                clear hE10 hE8 r8 hus1 hus2 r0
                obtain ⟨b, rfl⟩ := hEn.atT 2 (by simp) rfl (by omega)
                have HNL : Hid (ns.length + 1 ≤ j + 1) := Lib.hid (by omega)
                obtain ⟨x, hx⟩ : ∃ x : Nt, (⟨(t : Int), key, tq, mq⟩ : Nt) = x := ⟨_, rfl⟩
                rw [hx] at hEn HIN HT2 HOKN
                have HXS : Hid (x.s = (t : Int)) := Lib.hid (by rw [← hx])
                have HPM : Hid ((ns ++ [x]).Perm (ns ++ [x]) ∧ (ns ++ [x]).length = ns.length + 1) := Lib.hid ⟨List.Perm.refl _, by simp⟩
                clear hx
                obtain ⟨NS, hNS⟩ : ∃ NS, ns ++ [x] = NS := ⟨_, rfl⟩
                rw [hNS] at hEn HT2
                rw [hNS] at HIN HPM
                have HNS := Lib.hid hNS
                clear hNS
                obtain ⟨T2, hT2⟩ : ∃ T2, (fun k => T k || decide (k = t)) = T2 := ⟨_, rfl⟩
                rw [hT2] at hEn HT2
                clear hT2
                generalize hn0 : ns.length = n0 at *
                have HN0 := Lib.hid hn0
                clear hn0
                have hw1 : wrap64 ((n0 : Int) + 1 - 1) = (n0 : Int) := by rw [w64 _ (by omega)]; omega
                have hw2 : wrap64 (((n0 + 1 : Nat) : Int) - 1) = (n0 : Int) := by rw [w64 _ (by omega)]; omega
                have hw3 : wrap64 (n0 : Int) = (n0 : Int) := w64 _ (by omega)
                go_wp2_with fail
                go_loopw [11] (fun kv wq => ∃ (t1 : Nat) (ms : List Nt), kv = .int .i64 t1 ∧ t1 < n0 + 1 ∧ Hid (ms.length = n0 + 1) ∧ Hid (InsT x t1 ms ∧ ms.Perm NS) ∧ Env w0 (boxI X [.int .i64 t, .int .u64 key, .int .i64 tq, .int .i64 mq] :: usedMI (B0 + 1) T2 :: rowKI encT 4 (.slice (some ⟨b, 0, none⟩) (n0 + 1) c9) 128 ms :: L) wq) (fun kv _ => (intOf kv).toNat)
                case atStart => exact ⟨n0, NS, by rw [hw3], by omega, Lib.hid HPM.out.2, Lib.hid ⟨HIN.out, List.Perm.refl _⟩, hEn⟩
                case round =>
                  clear hEn hw1 hw2 hw3
                  obtain ⟨t1, ms, rfl, ht1, hms, hin, hE⟩ := hrel
                  rcases Nat.eq_zero_or_pos t1 with rfl | ht0
                  · have hb3 : decide (((0 : Nat) : Int) > 0) = false := rfl
                    have hb4 : decide ((0 : Int) > 0) = false := rfl
                    go_wp2_with fail
                    refine wp_text (S := (Env w0 (boxI X [.int .i64 t, .int .u64 key, .int .i64 tq, .int .i64 mq] :: usedMI (B0 + 1) T2 :: rowKI encT 4 (.slice (some ⟨b, 0, none⟩) (n0 + 1) c9) 128 ms :: L))) (by kernel_rfl) (by kernel_rfl) hE.drew (fun hT => ?_)
                    have hT9 := Lib.hid hT
                    clear hT
                    repeat (first
                      | (refine text_value (v := ?_) hT9.out (by rfl) ?_ ?_; rotate_left; (focus (intro w5 hS; skip; go_simp <;> with_reducible rfl)); (try simp only [Act.put, List.setIfInBounds_toArray, List.set_cons_zero, List.set_cons_succ]))
                      | (refine text_off hT9.out (by rfl) ?_; (try simp only [Act.put, List.setIfInBounds_toArray, List.set_cons_zero, List.set_cons_succ]))
                      | (refine text_call (v := ?_) (f := ?_) (args := ?_) hT9.out (by rfl) ?_ ?_ ?_; rotate_left 3; (focus (intro w5 hS; skip; go_simp; constructor <;> with_reducible rfl)); (focus (intro w5 hS; (first | fail))); (try simp only [Act.put, List.setIfInBounds_toArray, List.set_cons_zero, List.set_cons_succ])))
                    refine InText.nil fun w5 hS5 => ?_
                    clear hT9
                    go_wp2_with fail
                    exact ⟨⟨j + 1, ms, some ⟨b, 0, none⟩, c9, T2, by rw [hms.out], by simp, by omega, by omega, by rw [hms.out]; exact HNL.out, Lib.hid ⟨hinv.out.1.ins HOKN.out (fun n hn => by rw [HXS.out]; exact HSL.out n hn) (by rw [HNS.out]; exact hin.out.2) hin.out.1.done0, fun n hn => HT2.out n (hin.out.2.mem_iff.1 hn)⟩, by rw [hms.out]; exact hS5.sub (.cons _ (List.Sublist.refl _))⟩, by simp [intOf]; omega⟩
                  · obtain ⟨s1, rfl⟩ : ∃ s1, t1 = s1 + 1 := ⟨t1 - 1, by omega⟩
                    have hb3 : decide (((s1 : Int) + 1) > 0) = true := by rw [decide_eq_true_iff]; omega
                    have hsN : s1 < n0 + 1 := by omega
                    have hs1 : (s1 : Int) < ((n0 + 1 : Nat) : Int) := by omega
                    have hs1' : (s1 : Int) < (n0 : Int) + 1 := by omega
                    have hs2 : (s1 : Int) + 1 < ((n0 + 1 : Nat) : Int) := by omega
                    have hs2' : (s1 : Int) + 1 < (n0 : Int) + 1 := by omega
                    have hq2 : (0 : Int) ≤ (s1 : Int) + 1 := by omega
                    have hq3 : s1 + 1 < n0 + 1 := ht1
                    have hx1 : ms.getD (s1 + 1) default = x := hin.out.1.at
                    obtain ⟨y, hy⟩ : ∃ y, ms.getD s1 default = y := ⟨_, rfl⟩
                    have HA : Hid (∀ v, Env w0 (boxI X [.int .i64 t, .int .u64 key, .int .i64 tq, .int .i64 mq] :: usedMI (B0 + 1) T2 :: rowKI encT 4 (.slice (some ⟨b, 0, none⟩) (n0 + 1) c9) 128 ms :: L) v → v.cell? ⟨b, (s1 + 1) * 4, none⟩ = some (.int .i64 x.s) ∧ v.cell? ⟨b, (s1 + 1) * 4 + 1, none⟩ = some (.int .u64 x.key) ∧ v.cell? ⟨b, (s1 + 1) * 4 + 2, none⟩ = some (.int .i64 x.top) ∧ v.cell? ⟨b, (s1 + 1) * 4 + 3, none⟩ = some (.int .i64 x.marks)) := Lib.hid fun v hv => hv.cellT 2 hms.out.symm rfl (by rw [hms.out]; exact ht1) hx1
                    have HB : Hid (∀ v, Env w0 (boxI X [.int .i64 t, .int .u64 key, .int .i64 tq, .int .i64 mq] :: usedMI (B0 + 1) T2 :: rowKI encT 4 (.slice (some ⟨b, 0, none⟩) (n0 + 1) c9) 128 ms :: L) v → v.cell? ⟨b, s1 * 4, none⟩ = some (.int .i64 y.s) ∧ v.cell? ⟨b, s1 * 4 + 1, none⟩ = some (.int .u64 y.key) ∧ v.cell? ⟨b, s1 * 4 + 2, none⟩ = some (.int .i64 y.top) ∧ v.cell? ⟨b, s1 * 4 + 3, none⟩ = some (.int .i64 y.marks)) := Lib.hid fun v hv => hv.cellT 2 hms.out.symm rfl (by rw [hms.out]; exact hsN) hy
                    have HX := Lib.hid hx1
                    have HY := Lib.hid hy
                    have hwk : IntKind.i64.wrap (s1 : Int) = (s1 : Int) := by rw [IntKind.wrap_i64]; omega
                    have hwj : wrap64 (s1 : Int) = (s1 : Int) := w64 _ (by omega)
                    clear hx1 hy
                    obtain ⟨xs9, xk, xv, xm⟩ := x
                    obtain ⟨ys9, yk, yv, ym⟩ := y
                    dsimp only at HA HB
                    obtain ⟨q, hq⟩ : ∃ q, decide (xk < yk) = q := ⟨_, rfl⟩
                    go_wp2_with fail
                    refine wp_text (S := (Env w0 (boxI X [.int .i64 t, .int .u64 key, .int .i64 tq, .int .i64 mq] :: usedMI (B0 + 1) T2 :: rowKI encT 4 (.slice (some ⟨b, 0, none⟩) (n0 + 1) c9) 128 ms :: L))) (by kernel_rfl) (by kernel_rfl) hE.drew (fun hT => ?_)
                    have hT9 := Lib.hid hT
                    clear hT
                    repeat (first
                      | (refine text_value (v := ?_) hT9.out (by rfl) ?_ ?_; rotate_left; (focus (intro w5 hS; obtain ⟨a0, a1, a2, a3⟩ := HA.out _ hS; obtain ⟨b0, b1, b2, b3⟩ := HB.out _ hS; go_simp <;> with_reducible rfl)); (try simp only [Act.put, List.setIfInBounds_toArray, List.set_cons_zero, List.set_cons_succ]))
                      | (refine text_off hT9.out (by rfl) ?_; (try simp only [Act.put, List.setIfInBounds_toArray, List.set_cons_zero, List.set_cons_succ]))
                      | (refine text_call (v := ?_) (f := ?_) (args := ?_) hT9.out (by rfl) ?_ ?_ ?_; rotate_left 3; (focus (intro w5 hS; obtain ⟨a0, a1, a2, a3⟩ := HA.out _ hS; obtain ⟨b0, b1, b2, b3⟩ := HB.out _ hS; go_simp; constructor <;> with_reducible rfl)); (focus (intro w5 hS; (first | fail))); (try simp only [Act.put, List.setIfInBounds_toArray, List.set_cons_zero, List.set_cons_succ])))
                    refine InText.nil fun w5 hS5 => ?_
                    clear hT9
                    obtain ⟨a0, a1, a2, a3⟩ := HA.out _ hS5
                    obtain ⟨b0, b1, b2, b3⟩ := HB.out _ hS5
                    cases q
                    · go_wp2_with fail
                      have hupd := hin.out.1.done (by rw [HY.out]; simpa using hq)
                      exact ⟨⟨j + 1, ms, some ⟨b, 0, none⟩, c9, T2, by rw [hms.out], by simp, by omega, by omega, by rw [hms.out]; exact HNL.out, Lib.hid ⟨hinv.out.1.ins HOKN.out (fun n hn => by rw [HXS.out]; exact HSL.out n hn) (by rw [HNS.out]; exact hin.out.2) hupd, fun n hn => HT2.out n (hin.out.2.mem_iff.1 hn)⟩, by rw [hms.out]; exact hS5.sub (.cons _ (List.Sublist.refl _))⟩, by simp [intOf]; omega⟩
                    · have hown := hS5.rowK 2 rfl
                      rw [hms.out] at hown
                      have hb5 : b < w5.heap.size := (hown.lt b rfl).2
                      have zW : ∀ i, w5.frozen? ⟨b, i, none⟩ = false := fun i => hown.frozenAt i
                      clear hown
                      go_wp2_with fail
                      have h1 := hS5.setT 2 hms.out.symm rfl (j := s1 + 1) (by rw [hms.out]; exact ht1) ⟨ys9, yk, yv, ym⟩
                      have h2 := h1.setT 2 (by simp [hms.out]) rfl (j := s1) (by rw [List.length_set, hms.out]; exact hsN) ⟨xs9, xk, xv, xm⟩
                      have h3 := h2.over ((Below.refl _ _).alloc (Nat.le_refl _) (.cells #[.int .i64 xs9, .int .u64 xk, .int .i64 xv, .int .i64 xm] 128))
                      have hsw : swpT ms s1 = (ms.set (s1 + 1) ⟨ys9, yk, yv, ym⟩).set s1 ⟨xs9, xk, xv, xm⟩ := by unfold swpT; rw [HX.out, HY.out]
                      refine ⟨⟨s1, swpT ms s1, rfl, hsN, Lib.hid (by rw [swpT_length]; exact hms.out), Lib.hid ⟨hin.out.1.swap (by rw [HY.out]; simpa using hq), (swpT_perm ms s1 (by rw [hms.out]; exact ht1)).trans hin.out.2⟩, ?_⟩, by simp [intOf]⟩
                      rw [hsw]
                      exact h3
              · go_wp2_with fail
                exact ⟨⟨j + 1, ns, g, c, T, rfl, by simp, by omega, by omega, by omega, hinv, hE.sub (.cons _ (List.Sublist.refl _))⟩, by simp [intOf]; omega⟩
            · rw [hT] at hus1
              go_wp2_with fail
              exact ⟨⟨j + 1, ns, g, c, T, rfl, by simp, by omega, by omega, by omega, hinv, hE.sub (.cons _ (List.Sublist.refl _))⟩, by simp [intOf]; omega⟩
      · have hb1 : decide ((j : Int) < (xs.length : Int)) = true := by simp; omega
        have hb2 : decide ((j : Int) < 30) = false := by simp; omega
        go_wp2_with fail
        go_ret
        exact ⟨g, c, ns, rfl, by omega, hinv.out.1, hE.sub (.cons _ (List.Sublist.refl _))⟩
    · have hb1 : decide ((j : Int) < (xs.length : Int)) = false := by simp; omega
      go_wp2_with fail
      go_ret
      exact ⟨g, c, ns, rfl, by omega, hinv.out.1, hE.sub (.cons _ (List.Sublist.refl _))⟩
end
end Go.Proofs.YtnnjanaclgjneaaGreatDoor

/- Machines' rows: what is played. -/
namespace Go.Proofs.YtnnjanaclgjneaaGreatDoor
open Go.RowKit Go.Maps
set_option maxRecDepth 100000

/-- The closure that plays another machine. -/
def cvP (b1 b2 : Nat) : Value := .func (.func 178) #[] #[.pointer (some ⟨b1, 0, none⟩), .pointer (some ⟨b2, 0, none⟩)]
section
variable {w0 w : World} {L : List Item} {a o : Nat} {vs : List Value}
set_option maxHeartbeats 1600000 in
theorem play_r (m : Nat) (fn1 fn2 : Fn) (fs1 cs1 fs2 cs2 : Array Value) (hv : o < vs.length) (hE : Env w0 L w) (hm : L[m]? = some (boxI a vs)) :
    Calls Tryz.prog 146 #[.pointer (some ⟨a, o, none⟩), .func fn1 fs1 cs1, .func fn2 fs2 cs2] w fun r w' => r = .returned (.int .i64 0) ∧ ∃ b1 b2, Env w0 (boxI b1 [.func fn1 fs1 cs1] :: boxI b2 [.func fn2 fs2 cs2] :: L.set m (boxI a (vs.set o (cvP b1 b2)))) w' := by
  have hmf := makeF
  have hE1 := (hE.box w.heap.size rfl [.func fn1 fs1 cs1] 153).box (w.heap.size + 1) (by simp) [.func fn2 fs2 cs2] 254
  have HGO := Lib.hid (goOn_r (o := o) (m + 2) (.func 178) #[] #[.pointer (some ⟨w.heap.size, 0, none⟩), .pointer (some ⟨w.heap.size + 1, 0, none⟩)] hv hE1 hm)
  clear hE hE1 hv hm
  go_enter Tryz.func146, Tryz.ntmps146
  go_wp2_with fail
  refine HGO.out.mono ?_
  rintro e w1 ⟨rfl, hE2⟩
  go_wp2_with fail
  go_ret
  exact ⟨rfl, _, _, hE2.perm (List.Perm.swap _ _ _)⟩
set_option maxHeartbeats 800000 in
/-- The step of what is played: it goes on, or its end is handed on. -/
theorem play1_r (X : Nat) (hx : ∀ (ar : Array Value) (v : World), (callFunc X ar).run Tryz.prog v = .ok (.enter X ar) v) (p u q : Value) (Y : Nat) (hy : ∀ (ar : Array Value) (v : World), (callFunc Y ar).run Tryz.prog v = .ok (.enter Y ar) v) (b1 b2 : Nat) (Q : Int → World → Prop) (h1 : w.cell? ⟨b1, 0, none⟩ = some (.func (.func X) #[p] #[]))
    (hc : Calls Tryz.prog X #[p, u] w fun e w1 => ∃ s, e = .returned (.int .i64 s) ∧ (s = 0 → Q 0 w1) ∧ (s ≠ 0 → w1.cell? ⟨b2, 0, none⟩ = some (.func (.func Y) #[q] #[]) ∧ Calls Tryz.prog Y #[q, .int .i64 s] w1 fun e2 w2 => ∃ s2, e2 = .returned (.int .i64 s2) ∧ Q s2 w2)) :
    Calls Tryz.prog 178 #[u, .pointer (some ⟨b1, 0, none⟩), .pointer (some ⟨b2, 0, none⟩)] w fun e w' => ∃ s, e = .returned (.int .i64 s) ∧ Q s w' := by
  have HC := Lib.hid hc
  clear hc
  go_enter Tryz.func178, Tryz.ntmps178
  go_wp2_with fail
  refine HC.out.mono ?_
  rintro e w1 ⟨s, rfl, h0, hn⟩
  by_cases hs : s = 0
  · subst hs
    have hq := h0 rfl
    clear h0 hn HC
    go_wp2_with fail
    go_ret
    exact ⟨0, rfl, hq⟩
  · obtain ⟨hb2, hcc⟩ := hn hs
    have hsb : (s == 0) = false := by simpa using hs
    have HCC := Lib.hid hcc
    clear h0 hn HC hcc
    go_wp2_with fail
    refine HCC.out.mono ?_
    rintro e2 w2 ⟨s2, rfl, hq⟩
    go_wp2_with fail
    go_ret
    exact ⟨s2, rfl, hq⟩
/-- A step of a machine that plays another one. -/
theorem stepP_r (X : Nat) (hx : ∀ (ar : Array Value) (v : World), (callFunc X ar).run Tryz.prog v = .ok (.enter X ar) v) (p u q : Value) (Y : Nat) (hy : ∀ (ar : Array Value) (v : World), (callFunc Y ar).run Tryz.prog v = .ok (.enter Y ar) v) (b1 b2 : Nat) (Q : Int → World → Prop) (hn : w.cell? ⟨a, o, none⟩ = some (cvP b1 b2)) (hs : w.cell? ⟨a, o + 1, none⟩ = some (.int .i64 0)) (h1 : w.cell? ⟨b1, 0, none⟩ = some (.func (.func X) #[p] #[]))
    (hc : Calls Tryz.prog X #[p, u] w fun e w1 => ∃ s, e = .returned (.int .i64 s) ∧ (s = 0 → Q 0 w1) ∧ (s ≠ 0 → w1.cell? ⟨b2, 0, none⟩ = some (.func (.func Y) #[q] #[]) ∧ Calls Tryz.prog Y #[q, .int .i64 s] w1 fun e2 w2 => ∃ s2, e2 = .returned (.int .i64 s2) ∧ Q s2 w2)) :
    Calls Tryz.prog 77 #[.pointer (some ⟨a, o, none⟩), u] w fun e w' => ∃ s, e = .returned (.int .i64 s) ∧ Q s w' :=
  stepCv_r 178 b1 b2 (fun _ _ => by kernel_rfl) u _ hn hs ((play1_r X hx p u q Y hy b1 b2 Q h1 hc).mono fun e w' ⟨s, he, hq⟩ => ⟨s, he, s, rfl, hq⟩)
end
end Go.Proofs.YtnnjanaclgjneaaGreatDoor

/- Finds: a Find's block and its row of lanes; a lane of a level begins; where the next one begins. -/
namespace Go.Proofs.YtnnjanaclgjneaaGreatDoor
open Go.RowKit Go.Maps
set_option maxRecDepth 100000

/-- A Find's cells. -/
def fdC (c : Nat) (key : Int) (nx : Value) (st : Int) (g h : Nat) (lv : Int) : List Value := [.pointer (some ⟨c, 0, none⟩), .int .u64 key, nx, .int .i64 st, .slice (some ⟨g, 0, none⟩) h h, .int .i64 lv]

section
variable {w0 w : World} {L : List Item} {fb g h c : Nat} {key : Int} {nx : Value} {st : Int} {ps : List Value} {l0 : Int}
set_option maxHeartbeats 3200000 in
theorem along_f (lv : Nat) (hlt : lv < h) (hh : h ≤ 1000) (hps : ps.length = h) (x y z : Int) (hE : Env w0 (boxI fb (fdC c key nx st g h l0) :: boxI g ps :: L) w) :
    Calls Tryz.prog 152 #[.pointer (some ⟨fb, 0, none⟩), .int .i64 (lv : Int), .agg #[.int .i64 x, .int .i64 y, .int .i64 z, .int .i64 0]] w fun o w' => o = .returned (.int .i64 0) ∧ ∃ b1 b2 a, Env w0 (boxI b1 [mvL 181 a] :: boxI b2 [mvL 189 fb] :: boxI a (laneC c lv key false (mvL 216 a) 0 x y z 0 0 0 0 false 0) :: boxI fb (fdC c key (cvP b1 b2) st g h lv) :: boxI g (ps.set lv (.pointer (some ⟨a, 0, none⟩))) :: L) w' := by
  have hmf := makeF
  have hE1 := hE.box w.heap.size rfl [.int .i64 x, .int .i64 y, .int .i64 z, .int .i64 0] 122
  have r := hE1.rule 1 rfl
  unfold fdC at r
  have f5 := hE1.thaw 1 rfl 5 (by simp [fdC])
  have hP := hE1.put 1 rfl (j := 5) (by simp [fdC]) (.int .i64 lv)
  replace hP : Env w0 (boxI w.heap.size [.int .i64 x, .int .i64 y, .int .i64 z, .int .i64 0] :: boxI fb (fdC c key nx st g h lv) :: boxI g ps :: L) _ := hP
  have hlti : (lv : Int) < (h : Int) := by omega
  have hhi : (h : Int) ≤ 1000 := by omega
  have hge : ∃ u, ps[lv]? = some u := ⟨_, List.getElem?_eq_getElem (by omega)⟩
  obtain ⟨u, hu⟩ := hge
  have HU := Lib.hid hu
  have HPS : Hid (lv < ps.length) := Lib.hid (by omega)
  clear hE hE1 hps hu
  go_enter Tryz.func152, Tryz.ntmps152
  go_wp2_with fail
  generalize World.setCell _ _ _ = w2 at *
  generalize w.heap.size = Y at *
  clear r f5
  refine Ord3.wp_chain [?_, ?_, ?_, ?_, ?_, ?_, ?_, ?_, ?_, ?_, ?_, ?_, ?_, ?_, ?_, ?_, ?_, ?_] [15, 17] (fun w' => Blk 0 w' Y [.int .i64 x, .int .i64 y, .int .i64 z, .int .i64 0] ∧ Blk 0 w' fb (fdC c key nx st g h lv)) (Ord3.Stage fun κs => [Env w0 (boxI Y [.int .i64 x, .int .i64 y, .int .i64 z, .int .i64 0] :: boxI fb (fdC c key nx st g h lv) :: boxI g ps :: L), fun w' => ∃ a, κs.getD 0 undef = .pointer (some ⟨a, 0, none⟩) ∧ Env w0 (boxI a (laneC c lv key false (mvL 216 a) 0 x y z 0 0 0 0 false 0) :: boxI Y [.int .i64 x, .int .i64 y, .int .i64 z, .int .i64 0] :: boxI fb (fdC c key nx st g h lv) :: boxI g ps :: L) w', fun w' => ∃ a, Env w0 (boxI a (laneC c lv key false (mvL 216 a) 0 x y z 0 0 0 0 false 0) :: boxI Y [.int .i64 x, .int .i64 y, .int .i64 z, .int .i64 0] :: boxI fb (fdC c key nx st g h lv) :: boxI g (ps.set lv (.pointer (some ⟨a, 0, none⟩))) :: L) w']) (by kernel_rfl) (by kernel_rfl) (by kernel_rfl) ⟨hP.drew.get 0 rfl, hP.drew.get 1 rfl⟩ ⟨_, rfl, hP.drew⟩ (fun hT => ?_)
  rotate_left 18
  have hT9 := Lib.hid hT
  clear hT
  repeat (first
    | (focus (refine Ord3.in_value (v := ?_) hT9.out (by decide) ?_ (by rfl) ?_ ?_; rotate_left 2; (focus (intro w5 hS; have r0 := Blk.rule hS.1; have r1 := Blk.rule hS.2; unfold fdC at r1; go_simp <;> with_reducible rfl)); rotate_right; (focus rfl); (try simp only [Act.put, List.setIfInBounds_toArray, List.set_cons_zero, List.set_cons_succ])))
    | (focus (refine Ord3.in_off hT9.out (by decide) ?_ (by rfl) ?_; (focus rfl); (try simp only [Act.put, List.setIfInBounds_toArray, List.set_cons_zero, List.set_cons_succ]))))
  refine Ord3.in_turn (fun u => ∃ q, u = .pointer (some ⟨q, 0, none⟩)) _ ⟨0, rfl⟩ hT9.out rfl (by decide) (by rfl) ?_ (Or.inl rfl) (by rfl) ?_ ?_
  · rfl
  · rintro w7 hC7 ⟨P7, hP7, hA7⟩
    cases hP7
    go_simp
    simp only [Ord3.Lands]
    refine (new_l c x y z lv key false hA7).mono ?_
    rintro o8 w8 ⟨r8, rfl, hE8⟩
    exact ⟨_, rfl, ⟨r8, rfl⟩, ⟨hE8.get 1 rfl, hE8.get 2 rfl⟩, _, rfl, r8, rfl, hE8⟩
  rintro _ ⟨r9, rfl⟩
  (try simp only [Act.put, List.setIfInBounds_toArray, List.set_cons_zero, List.set_cons_succ])
  repeat (first
    | (focus (refine Ord3.in_value (v := ?_) hT9.out (by decide) ?_ (by rfl) ?_ ?_; rotate_left 2; (focus (intro w5 hS; have r0 := Blk.rule hS.1; have r1 := Blk.rule hS.2; unfold fdC at r1; go_simp <;> with_reducible rfl)); rotate_right; (focus rfl); (try simp only [Act.put, List.setIfInBounds_toArray, List.set_cons_zero, List.set_cons_succ])))
    | (focus (refine Ord3.in_off hT9.out (by decide) ?_ (by rfl) ?_; (focus rfl); (try simp only [Act.put, List.setIfInBounds_toArray, List.set_cons_zero, List.set_cons_succ]))))
  refine Ord3.in_turn (fun u => u = undef) _ rfl hT9.out rfl (by decide) (by rfl) ?_ (Or.inr ⟨_, 15, [], rfl, by kernel_rfl, by kernel_rfl, rfl⟩) (by rfl) ?_ ?_
  · rfl
  · rintro w7 hC7 ⟨P7, hP7, hA7⟩
    cases hP7
    obtain ⟨a8, he, hA7⟩ := hA7
    cases he
    have r := (hA7.rule 3 rfl lv).trans HU.out
    have g3 := hA7.thaw 3 rfl lv HPS.out
    go_simp
    simp only [Ord3.Lands]
    have h9 := hA7.put 3 rfl (j := lv) HPS.out (.pointer (some ⟨r9, 0, none⟩))
    exact ⟨trivial, ⟨h9.get 1 rfl, h9.get 2 rfl⟩, _, rfl, r9, h9⟩
  rintro _ rfl
  (try simp only [Act.put, List.setIfInBounds_toArray, List.set_cons_zero, List.set_cons_succ])
  refine Ord3.in_nil rfl ?_
  rintro w9 hC9 ⟨P9, hP9, hA9⟩
  cases hP9
  obtain ⟨a, hA9⟩ := hA9
  clear hT9 hC9 hP
  have HGT : Hid (∀ v, Blk 0 v g (ps.set lv (.pointer (some ⟨a, 0, none⟩))) → v.cell? ⟨g, lv, none⟩ = some (.pointer (some ⟨a, 0, none⟩))) := Lib.hid fun v hv => by
    rw [hv.rule lv, List.getElem?_set_self HPS.out]
  have hA9 := hA9.sub (L' := boxI a (laneC c lv key false (mvL 216 a) 0 x y z 0 0 0 0 false 0) :: boxI fb (fdC c key nx st g h lv) :: boxI g (ps.set lv (.pointer (some ⟨a, 0, none⟩))) :: L) (.cons_cons _ (.cons _ (List.Sublist.refl _)))
  go_wp2_with fail
  refine Ord3.wp_chain [?_, ?_, ?_, ?_, ?_, ?_, ?_, ?_, ?_, ?_, ?_, ?_, ?_, ?_, ?_] [13] (fun w' => (∃ nx9, Blk 0 w' fb (fdC c key nx9 st g h lv)) ∧ Blk 0 w' g (ps.set lv (.pointer (some ⟨a, 0, none⟩)))) (Ord3.Stage fun κs => [Env w0 (boxI a (laneC c lv key false (mvL 216 a) 0 x y z 0 0 0 0 false 0) :: boxI fb (fdC c key nx st g h lv) :: boxI g (ps.set lv (.pointer (some ⟨a, 0, none⟩))) :: L), fun w' => ∃ b1 b2, Env w0 (boxI b1 [mvL 181 a] :: boxI b2 [mvL 189 fb] :: boxI a (laneC c lv key false (mvL 216 a) 0 x y z 0 0 0 0 false 0) :: boxI fb (fdC c key (cvP b1 b2) st g h lv) :: boxI g (ps.set lv (.pointer (some ⟨a, 0, none⟩))) :: L) w']) (by kernel_rfl) (by kernel_rfl) (by kernel_rfl) ⟨⟨nx, hA9.drew.get 1 rfl⟩, hA9.drew.get 2 rfl⟩ ⟨_, rfl, hA9.drew⟩ (fun hT => ?_)
  rotate_left 15
  have hT9 := Lib.hid hT
  clear hT
  repeat (first
    | (focus (refine Ord3.in_value (v := ?_) hT9.out (by decide) ?_ (by rfl) ?_ ?_; rotate_left 2; (focus (intro w5 hS; obtain ⟨⟨nx9, hS9⟩, hS8⟩ := hS; have r1 := Blk.rule hS9; have r2 := HGT.out _ hS8; unfold fdC at r1; go_simp <;> with_reducible rfl)); rotate_right; (focus rfl); (try simp only [Act.put, List.setIfInBounds_toArray, List.set_cons_zero, List.set_cons_succ])))
    | (focus (refine Ord3.in_off hT9.out (by decide) ?_ (by rfl) ?_; (focus rfl); (try simp only [Act.put, List.setIfInBounds_toArray, List.set_cons_zero, List.set_cons_succ]))))
  refine Ord3.in_turn (fun u => u = .int .i64 0) _ rfl hT9.out rfl (by decide) (by rfl) ?_ (Or.inl rfl) (by rfl) ?_ ?_
  · rfl
  · rintro w7 hC7 ⟨P7, hP7, hA7⟩
    cases hP7
    go_simp
    simp only [Ord3.Lands]
    refine (play_r (o := 2) 1 _ _ _ _ _ _ (by simp [fdC]) hA7 rfl).mono ?_
    rintro o8 w8 ⟨rfl, b1, b2, hE8⟩
    exact ⟨_, rfl, rfl, ⟨⟨_, hE8.get 3 rfl⟩, hE8.get 4 rfl⟩, _, rfl, b1, b2, hE8⟩
  rintro _ rfl
  (try simp only [Act.put, List.setIfInBounds_toArray, List.set_cons_zero, List.set_cons_succ])
  repeat (first
    | (focus (refine Ord3.in_value (v := ?_) hT9.out (by decide) ?_ (by rfl) ?_ ?_; rotate_left 2; (focus (intro w5 hS; skip; go_simp <;> with_reducible rfl)); rotate_right; (focus rfl); (try simp only [Act.put, List.setIfInBounds_toArray, List.set_cons_zero, List.set_cons_succ])))
    | (focus (refine Ord3.in_off hT9.out (by decide) ?_ (by rfl) ?_; (focus rfl); (try simp only [Act.put, List.setIfInBounds_toArray, List.set_cons_zero, List.set_cons_succ]))))
  refine Ord3.in_nil rfl ?_
  rintro w9 hC9 ⟨P9, hP9, hA9⟩
  cases hP9
  obtain ⟨b1, b2, hA9⟩ := hA9
  clear hT9 hC9
  go_wp2_with fail
  go_ret
  exact ⟨rfl, b1, b2, a, hA9⟩
end

section
variable {w0 w : World} {L : List Item} {fb g h c a : Nat} {key : Int} {nx lx : Value} {st s W C X wd pv x y z : Int} {pf : Bool} {ps : List Value}
set_option maxHeartbeats 3200000 in
theorem belowRoot_f (lv : Nat) (h1 : 1 ≤ lv) (hlt : lv < h) (hh : h ≤ 1000) (hga : ps[lv]? = some (.pointer (some ⟨a, 0, none⟩))) (i : Nat) (hi : L[i]? = some (boxI a (laneC c lv key false lx s 4 0 lv W C X wd pf pv))) (hE : Env w0 (boxI fb (fdC c key nx st g h lv) :: boxI g ps :: L) w) :
    Calls Tryz.prog 217 #[.pointer (some ⟨fb, 0, none⟩)] w fun o w' => o = .returned (.agg #[.int .i64 4, .int .i64 0, .int .i64 ((lv : Int) - 1), .int .i64 0]) ∧ Env w0 (boxI fb (fdC c key nx st g h lv) :: boxI g ps :: L) w' := by
  have hE1 := hE.box w.heap.size rfl [.int .i64 0, .int .i64 0, .int .i64 0, .int .i64 0] 122
  obtain ⟨LL, hLL⟩ : ∃ LL, boxI w.heap.size [.int .i64 0, .int .i64 0, .int .i64 0, .int .i64 0] :: boxI fb (fdC c key nx st g h lv) :: boxI g ps :: L = LL := ⟨_, rfl⟩
  have hl3 : LL[i + 3]? = some (boxI a (laneC c lv key false lx s 4 0 lv W C X wd pf pv)) := by rw [← hLL]; exact hi
  have HC : Hid (∀ v, Env w0 LL v → Blk 0 v fb (fdC c key nx st g h lv) ∧ v.cell? ⟨g, lv, none⟩ = some (.pointer (some ⟨a, 0, none⟩))) := Lib.hid fun v hv => by
    subst hLL
    exact ⟨hv.get 1 rfl, (hv.rule 2 rfl lv).trans hga⟩
  have HAT := Lib.hid fun (v : World) (hv : Env w0 LL v) => at_g (hv.get (i + 3) hl3)
  have hlti : (lv : Int) < (h : Int) := by omega
  have hhi : (h : Int) ≤ 1000 := by omega
  have hw1 : wrap64 ((lv : Int) - 1) = (lv : Int) - 1 := w64 _ (by omega)
  have hw2 : IntKind.i64.wrap ((lv : Int) - 1) = (lv : Int) - 1 := by rw [wrap_i]; exact hw1
  have HLL := Lib.hid hLL
  rw [hLL] at hE1
  clear hE hl3 hi hga hLL
  go_enter Tryz.func217, Tryz.ntmps217
  go_wp2_with fail
  generalize w.alloc _ = w2 at *
  generalize w.heap.size = Y at *
  refine OrdF.wp_float [?_, ?_, ?_, ?_, ?_, ?_, ?_, ?_, ?_, ?_, ?_, OrdF.Ptr, ?_] [12] 11 (fun v => Env w0 LL v) (OrdF.AF w0 [.int .i64 0, .int .i64 0, .int .i64 0, .int .i64 0] (OrdF.Sta [fun N zs => N = LL ∧ zs = [.int .i64 0, .int .i64 0, .int .i64 0, .int .i64 0], fun N zs => N = LL ∧ zs = [.int .i64 4, .int .i64 0, .int .i64 lv, .int .i64 0]])) (by kernel_rfl) (by kernel_rfl) (by kernel_rfl) hE1.drew ⟨_, _, ⟨_, rfl, rfl, rfl⟩, .inl ⟨rfl, rfl, hE1.drew⟩⟩ (fun hT => ?_)
  rotate_left 12
  have hT9 := Lib.hid hT
  clear hT
  repeat (first
    | (focus (refine OrdF.in_value (v := ?_) hT9.out (by decide) (by decide) ?_ (by rfl) ?_ ?_; rotate_left 2; (focus (intro w5 hS; obtain ⟨q1, r2⟩ := HC.out _ hS; have r1 := q1.rule; unfold fdC at r1; go_simp <;> with_reducible rfl)); rotate_right; (focus rfl); (try simp only [Act.put, List.setIfInBounds_toArray, List.set_cons_zero, List.set_cons_succ])))
    | (focus (refine OrdF.in_off hT9.out (by decide) (by decide) ?_ (by rfl) ?_; (focus rfl); (try simp only [Act.put, List.setIfInBounds_toArray, List.set_cons_zero, List.set_cons_succ]))))
  focus (refine OrdF.in_call (v := .agg #[.int .i64 4, .int .i64 0, .int .i64 lv, .int .i64 0]) (f := ?_) (args := ?_) hT9.out (by decide) (by decide) ?_ (by rfl) ?_ ?_ ?_; rotate_left 2; (focus rfl); (focus (intro w5 hS; skip; go_simp; constructor <;> with_reducible rfl)); (focus (intro w5 hS; refine (HAT.out _ hS).mono ?_; rintro e w6 ⟨rfl, hb6⟩; exact ⟨rfl, hS.over hb6, fun _ _ h => AF_over h hb6⟩)); (try simp only [Act.put, List.setIfInBounds_toArray, List.set_cons_zero, List.set_cons_succ]))
  repeat (first
    | (focus (refine OrdF.in_value (v := ?_) hT9.out (by decide) (by decide) ?_ (by rfl) ?_ ?_; rotate_left 2; (focus (intro w5 hS; skip; go_simp <;> with_reducible rfl)); rotate_right; (focus rfl); (try simp only [Act.put, List.setIfInBounds_toArray, List.set_cons_zero, List.set_cons_succ])))
    | (focus (refine OrdF.in_off hT9.out (by decide) (by decide) ?_ (by rfl) ?_; (focus rfl); (try simp only [Act.put, List.setIfInBounds_toArray, List.set_cons_zero, List.set_cons_succ]))))
  refine OrdF.in_float OrdF.Ptr (.pointer (some ⟨0, 0, none⟩)) ⟨0, rfl⟩ hT9.out rfl (by decide) ?_ (by rfl) ?_ ?_
  · rfl
  · intro w5 κs5 hC5 hA5
    go_simp
    simp only [Ord3.Lands]
    exact ⟨⟨_, rfl⟩, hC5.over ((Below.refl _ _).alloc (Nat.le_refl _) _), hA5.up _⟩
  rintro _ ⟨V, rfl⟩
  (try simp only [Act.put, List.setIfInBounds_toArray, List.set_cons_zero, List.set_cons_succ])
  refine OrdF.in_turn_late (by kernel_rfl) (by decide) (by decide) (fun u => u = undef) (undef) rfl hT9.out rfl (by decide) (by rfl) ?_ (.inl rfl) (by rfl) ?_ ?_
  · rfl
  · rintro w5 hC5 ⟨M5, z5, ⟨P5, hP5, hM5⟩, ⟨hn5, _⟩ | ⟨n5, hn5, hE5⟩⟩
    · cases hn5
    cases hn5
    cases hP5
    obtain ⟨rfl, rfl⟩ := hM5
    have r := hE5.rule 0 rfl; have ff := hE5.thaw 0 rfl; have f0 := ff 0 (by simp); have f1 := ff 1 (by simp); have f2 := ff 2 (by simp); have f3 := ff 3 (by simp); clear ff
    go_simp
    have hE6 := (((hE5.put 0 rfl (j := 0) (by simp) (.int .i64 4)).put 0 rfl (j := 1) (by simp) (.int .i64 0)).put 0 rfl (j := 2) (by simp) (.int .i64 lv)).put 0 rfl (j := 3) (by simp) (.int .i64 0); exact ⟨rfl, hE6.sub (.cons _ (List.Sublist.refl _)), _, _, ⟨_, rfl, rfl, rfl⟩, .inr ⟨_, rfl, hE6⟩⟩
  rintro _ rfl
  (try simp only [Act.put, List.setIfInBounds_toArray, List.set_cons_zero, List.set_cons_succ])
  refine OrdF.in_nil rfl (by decide) (by decide) ?_
  rintro w5 hC5 ⟨M5, z5, ⟨P5, hP5, hM5⟩, ⟨hn5, _⟩ | ⟨n5, hn5, hE5⟩⟩
  · cases hn5
  cases hn5
  cases hP5
  obtain ⟨rfl, rfl⟩ := hM5
  clear hT9
  have h9 := HLL.out
  subst h9
  clear HAT hE1 hC5 HLL
  go_wp2_with fail
  refine wp_text (S := (Env w0 (boxI V [.int .i64 4, .int .i64 0, .int .i64 lv, .int .i64 0] :: boxI Y [.int .i64 0, .int .i64 0, .int .i64 0, .int .i64 0] :: boxI fb (fdC c key nx st g h lv) :: boxI g ps :: L))) (by kernel_rfl) (by kernel_rfl) hE5.drew (fun hT => ?_)
  have hT9 := Lib.hid hT
  clear hT
  repeat (first
    | (refine text_value (v := ?_) hT9.out (by rfl) ?_ ?_; rotate_left; (focus (intro w5 hS; have r0 := hS.rule 0 rfl; have r1 := hS.rule 2 rfl; unfold fdC at r1; go_simp <;> with_reducible rfl)); (try simp only [Act.put, List.setIfInBounds_toArray, List.set_cons_zero, List.set_cons_succ]))
    | (refine text_off hT9.out (by rfl) ?_; (try simp only [Act.put, List.setIfInBounds_toArray, List.set_cons_zero, List.set_cons_succ]))
    | (refine text_call (v := ?_) (f := ?_) (args := ?_) hT9.out (by rfl) ?_ ?_ ?_; rotate_left 3; (focus (intro w5 hS; have r0 := hS.rule 0 rfl; have r1 := hS.rule 2 rfl; unfold fdC at r1; go_simp; constructor <;> with_reducible rfl)); (focus (intro w5 hS; (first | (with_reducible refine (root_any _ _).mono ?_; rintro e9 w6 ⟨rfl, hb5⟩; constructor; with_reducible rfl; exact hS.over hb5)))); (try simp only [Act.put, List.setIfInBounds_toArray, List.set_cons_zero, List.set_cons_succ])))
  refine InText.nil fun w5 hS5 => ?_
  clear hT9
  clear hE5
  have hE6 := hS5.sub (L' := boxI Y [.int .i64 0, .int .i64 0, .int .i64 0, .int .i64 0] :: boxI fb (fdC c key nx st g h lv) :: boxI g ps :: L) (.cons _ (List.Sublist.refl _))
  clear hS5
  have r1 := hE6.rule 1 rfl
  unfold fdC at r1
  go_wp2_with fail
  refine (root_any _ _).mono ?_
  rintro o w7 ⟨rfl, hb⟩
  replace hE6 := hE6.over hb
  clear hb r1
  have r0 := hE6.rule 0 rfl
  have ff := hE6.thaw 0 rfl
  have f0 := ff 0 (by simp)
  have f1 := ff 1 (by simp)
  have f2 := ff 2 (by simp)
  have f3 := ff 3 (by simp)
  clear ff
  have hE7 := (((hE6.put 0 rfl (j := 0) (by simp) (.int .i64 4)).put 0 rfl (j := 1) (by simp) (.int .i64 0)).put 0 rfl (j := 2) (by simp) (.int .i64 ((lv : Int) - 1))).put 0 rfl (j := 3) (by simp) (.int .i64 0)
  have q := hE7.rule 0 rfl
  go_wp2_with fail
  exact bodyPost_ret (v := .agg #[.int .i64 4, .int .i64 0, .int .i64 ((lv : Int) - 1), .int .i64 0]) (by simp [results, Tryz.results217, go_sem, q]) rfl ⟨rfl, hE7.sub (.cons _ (List.Sublist.refl _))⟩
set_option maxHeartbeats 3200000 in
theorem belowLink_f (lv : Nat) (h1 : 1 ≤ lv) (hlt : lv < h) (hh : h ≤ 1000) (sl : Int) (hga : ps[lv]? = some (.pointer (some ⟨a, 0, none⟩))) (i : Nat) (hi : L[i]? = some (boxI a (laneC c lv key false lx s 5 sl (7 + (lv : Int)) W C X wd pf pv))) (hE : Env w0 (boxI fb (fdC c key nx st g h lv) :: boxI g ps :: L) w) :
    Calls Tryz.prog 217 #[.pointer (some ⟨fb, 0, none⟩)] w fun o w' => o = .returned (.agg #[.int .i64 5, .int .i64 sl, .int .i64 (7 + (lv : Int) - 1), .int .i64 0]) ∧ Env w0 (boxI fb (fdC c key nx st g h lv) :: boxI g ps :: L) w' := by
  have hE1 := hE.box w.heap.size rfl [.int .i64 0, .int .i64 0, .int .i64 0, .int .i64 0] 122
  obtain ⟨LL, hLL⟩ : ∃ LL, boxI w.heap.size [.int .i64 0, .int .i64 0, .int .i64 0, .int .i64 0] :: boxI fb (fdC c key nx st g h lv) :: boxI g ps :: L = LL := ⟨_, rfl⟩
  have hl3 : LL[i + 3]? = some (boxI a (laneC c lv key false lx s 5 sl (7 + (lv : Int)) W C X wd pf pv)) := by rw [← hLL]; exact hi
  have HC : Hid (∀ v, Env w0 LL v → Blk 0 v fb (fdC c key nx st g h lv) ∧ v.cell? ⟨g, lv, none⟩ = some (.pointer (some ⟨a, 0, none⟩))) := Lib.hid fun v hv => by
    subst hLL
    exact ⟨hv.get 1 rfl, (hv.rule 2 rfl lv).trans hga⟩
  have HAT := Lib.hid fun (v : World) (hv : Env w0 LL v) => at_g (hv.get (i + 3) hl3)
  have hlti : (lv : Int) < (h : Int) := by omega
  have hhi : (h : Int) ≤ 1000 := by omega
  have hw1 : wrap64 ((lv : Int) - 1) = (lv : Int) - 1 := w64 _ (by omega)
  have hw2 : IntKind.i64.wrap ((lv : Int) - 1) = (lv : Int) - 1 := by rw [wrap_i]; exact hw1
  have HLK := Lib.hid fun (v : World) => (show Calls Tryz.prog 65 #[.int .i64 sl, .int .i64 ((lv : Int) - 1)] v fun e w' => e = .returned (.agg #[.int .i64 5, .int .i64 sl, .int .i64 (7 + (lv : Int) - 1)]) ∧ Below v.heap.size v w' by
    have h9 := link_any sl ((lv : Int) - 1) v
    rwa [show wrap64 (7 + ((lv : Int) - 1)) = 7 + (lv : Int) - 1 by rw [w64 _ (by omega)]; omega] at h9)
  obtain ⟨zz, hzz⟩ : ∃ zz, 7 + (lv : Int) - 1 = zz := ⟨_, rfl⟩
  obtain ⟨zt, hzt⟩ : ∃ zt, 7 + (lv : Int) = zt := ⟨_, rfl⟩
  rw [hzz] at HLK ⊢
  rw [hzt] at HAT
  have HLL := Lib.hid hLL
  rw [hLL] at hE1
  clear hE hl3 hi hga hLL hzz hzt
  go_enter Tryz.func217, Tryz.ntmps217
  go_wp2_with fail
  generalize w.alloc _ = w2 at *
  generalize w.heap.size = Y at *
  refine OrdF.wp_float [?_, ?_, ?_, ?_, ?_, ?_, ?_, ?_, ?_, ?_, ?_, OrdF.Ptr, ?_] [12] 11 (fun v => Env w0 LL v) (OrdF.AF w0 [.int .i64 0, .int .i64 0, .int .i64 0, .int .i64 0] (OrdF.Sta [fun N zs => N = LL ∧ zs = [.int .i64 0, .int .i64 0, .int .i64 0, .int .i64 0], fun N zs => N = LL ∧ zs = [.int .i64 5, .int .i64 sl, .int .i64 zt, .int .i64 0]])) (by kernel_rfl) (by kernel_rfl) (by kernel_rfl) hE1.drew ⟨_, _, ⟨_, rfl, rfl, rfl⟩, .inl ⟨rfl, rfl, hE1.drew⟩⟩ (fun hT => ?_)
  rotate_left 12
  have hT9 := Lib.hid hT
  clear hT
  repeat (first
    | (focus (refine OrdF.in_value (v := ?_) hT9.out (by decide) (by decide) ?_ (by rfl) ?_ ?_; rotate_left 2; (focus (intro w5 hS; obtain ⟨q1, r2⟩ := HC.out _ hS; have r1 := q1.rule; unfold fdC at r1; go_simp <;> with_reducible rfl)); rotate_right; (focus rfl); (try simp only [Act.put, List.setIfInBounds_toArray, List.set_cons_zero, List.set_cons_succ])))
    | (focus (refine OrdF.in_off hT9.out (by decide) (by decide) ?_ (by rfl) ?_; (focus rfl); (try simp only [Act.put, List.setIfInBounds_toArray, List.set_cons_zero, List.set_cons_succ]))))
  focus (refine OrdF.in_call (v := .agg #[.int .i64 5, .int .i64 sl, .int .i64 zt, .int .i64 0]) (f := ?_) (args := ?_) hT9.out (by decide) (by decide) ?_ (by rfl) ?_ ?_ ?_; rotate_left 2; (focus rfl); (focus (intro w5 hS; skip; go_simp; constructor <;> with_reducible rfl)); (focus (intro w5 hS; refine (HAT.out _ hS).mono ?_; rintro e w6 ⟨rfl, hb6⟩; exact ⟨rfl, hS.over hb6, fun _ _ h => AF_over h hb6⟩)); (try simp only [Act.put, List.setIfInBounds_toArray, List.set_cons_zero, List.set_cons_succ]))
  repeat (first
    | (focus (refine OrdF.in_value (v := ?_) hT9.out (by decide) (by decide) ?_ (by rfl) ?_ ?_; rotate_left 2; (focus (intro w5 hS; skip; go_simp <;> with_reducible rfl)); rotate_right; (focus rfl); (try simp only [Act.put, List.setIfInBounds_toArray, List.set_cons_zero, List.set_cons_succ])))
    | (focus (refine OrdF.in_off hT9.out (by decide) (by decide) ?_ (by rfl) ?_; (focus rfl); (try simp only [Act.put, List.setIfInBounds_toArray, List.set_cons_zero, List.set_cons_succ]))))
  refine OrdF.in_float OrdF.Ptr (.pointer (some ⟨0, 0, none⟩)) ⟨0, rfl⟩ hT9.out rfl (by decide) ?_ (by rfl) ?_ ?_
  · rfl
  · intro w5 κs5 hC5 hA5
    go_simp
    simp only [Ord3.Lands]
    exact ⟨⟨_, rfl⟩, hC5.over ((Below.refl _ _).alloc (Nat.le_refl _) _), hA5.up _⟩
  rintro _ ⟨V, rfl⟩
  (try simp only [Act.put, List.setIfInBounds_toArray, List.set_cons_zero, List.set_cons_succ])
  refine OrdF.in_turn_late (by kernel_rfl) (by decide) (by decide) (fun u => u = undef) (undef) rfl hT9.out rfl (by decide) (by rfl) ?_ (.inl rfl) (by rfl) ?_ ?_
  · rfl
  · rintro w5 hC5 ⟨M5, z5, ⟨P5, hP5, hM5⟩, ⟨hn5, _⟩ | ⟨n5, hn5, hE5⟩⟩
    · cases hn5
    cases hn5
    cases hP5
    obtain ⟨rfl, rfl⟩ := hM5
    have r := hE5.rule 0 rfl; have ff := hE5.thaw 0 rfl; have f0 := ff 0 (by simp); have f1 := ff 1 (by simp); have f2 := ff 2 (by simp); have f3 := ff 3 (by simp); clear ff
    go_simp
    have hE6 := (((hE5.put 0 rfl (j := 0) (by simp) (.int .i64 5)).put 0 rfl (j := 1) (by simp) (.int .i64 sl)).put 0 rfl (j := 2) (by simp) (.int .i64 zt)).put 0 rfl (j := 3) (by simp) (.int .i64 0); exact ⟨rfl, hE6.sub (.cons _ (List.Sublist.refl _)), _, _, ⟨_, rfl, rfl, rfl⟩, .inr ⟨_, rfl, hE6⟩⟩
  rintro _ rfl
  (try simp only [Act.put, List.setIfInBounds_toArray, List.set_cons_zero, List.set_cons_succ])
  refine OrdF.in_nil rfl (by decide) (by decide) ?_
  rintro w5 hC5 ⟨M5, z5, ⟨P5, hP5, hM5⟩, ⟨hn5, _⟩ | ⟨n5, hn5, hE5⟩⟩
  · cases hn5
  cases hn5
  cases hP5
  obtain ⟨rfl, rfl⟩ := hM5
  clear hT9
  have h9 := HLL.out
  subst h9
  clear HAT hE1 hC5 HLL
  go_wp2_with fail
  refine wp_text (S := (Env w0 (boxI V [.int .i64 5, .int .i64 sl, .int .i64 zt, .int .i64 0] :: boxI Y [.int .i64 0, .int .i64 0, .int .i64 0, .int .i64 0] :: boxI fb (fdC c key nx st g h lv) :: boxI g ps :: L))) (by kernel_rfl) (by kernel_rfl) hE5.drew (fun hT => ?_)
  have hT9 := Lib.hid hT
  clear hT
  repeat (first
    | (refine text_value (v := ?_) hT9.out (by rfl) ?_ ?_; rotate_left; (focus (intro w5 hS; have r0 := hS.rule 0 rfl; have r1 := hS.rule 2 rfl; unfold fdC at r1; go_simp <;> with_reducible rfl)); (try simp only [Act.put, List.setIfInBounds_toArray, List.set_cons_zero, List.set_cons_succ]))
    | (refine text_off hT9.out (by rfl) ?_; (try simp only [Act.put, List.setIfInBounds_toArray, List.set_cons_zero, List.set_cons_succ]))
    | (refine text_call (v := ?_) (f := ?_) (args := ?_) hT9.out (by rfl) ?_ ?_ ?_; rotate_left 3; (focus (intro w5 hS; have r0 := hS.rule 0 rfl; have r1 := hS.rule 2 rfl; unfold fdC at r1; go_simp; constructor <;> with_reducible rfl)); (focus (intro w5 hS; (first | (with_reducible refine (root_any _ _).mono ?_; rintro e9 w6 ⟨rfl, hb5⟩; constructor; with_reducible rfl; exact hS.over hb5)))); (try simp only [Act.put, List.setIfInBounds_toArray, List.set_cons_zero, List.set_cons_succ])))
  refine InText.nil fun w5 hS5 => ?_
  clear hT9
  clear hE5
  go_wp2_with fail
  refine Ord.wp_chain [12] (fun v => Env w0 (boxI V [.int .i64 5, .int .i64 sl, .int .i64 zt, .int .i64 0] :: boxI fb (fdC c key nx st g h lv) :: boxI g ps :: L) v) (fun k w' => Env w0 (boxI Y (if k = 0 then [.int .i64 0, .int .i64 0, .int .i64 0, .int .i64 0] else [.int .i64 5, .int .i64 sl, .int .i64 zz, .int .i64 0]) :: boxI V [.int .i64 5, .int .i64 sl, .int .i64 zt, .int .i64 0] :: boxI fb (fdC c key nx st g h lv) :: boxI g ps :: L) w') (by kernel_rfl) (by kernel_rfl) (by kernel_rfl) (hS5.drew.sub (.cons_cons _ (.cons _ (List.Sublist.refl _)))) (hS5.drew.perm (List.Perm.swap _ _ _)) (fun hT => ?_)
  have hT9 := Lib.hid hT
  clear hT
  repeat (first
    | (refine Ord.ch_value (v := ?_) hT9.out (by decide) (by rfl) ?_ ?_; rotate_left; (focus (intro w5 hS; have r0 := hS.rule 0 rfl; have r1 := hS.rule 1 rfl; unfold fdC at r1; go_simp <;> with_reducible rfl)); (try simp only [Act.put, List.setIfInBounds_toArray, List.set_cons_zero, List.set_cons_succ]))
    | (refine Ord.ch_off hT9.out (by decide) (by rfl) ?_; (try simp only [Act.put, List.setIfInBounds_toArray, List.set_cons_zero, List.set_cons_succ]))
    | (refine Ord.ch_call (v := ?_) (f := ?_) (args := ?_) hT9.out (by decide) (by rfl) ?_ ?_ ?_; rotate_left 3; (focus (intro w5 hS; have r0 := hS.rule 0 rfl; have r1 := hS.rule 1 rfl; unfold fdC at r1; go_simp; constructor <;> with_reducible rfl)); (focus (intro w5 hS; (first | (with_reducible refine (HLK.out _).mono ?_; rintro e w6 ⟨rfl, hb6⟩; constructor; with_reducible rfl; exact ⟨hS.over hb6, fun _ h => h.over hb6⟩)))); (try simp only [Act.put, List.setIfInBounds_toArray, List.set_cons_zero, List.set_cons_succ])))
  refine Ord.ch_turn (v := undef) 0 hT9.out rfl (by decide) (Or.inl rfl) (by rfl) ?_ ?_
  · rintro w5 hC5 hA5
    simp only [if_true] at hA5
    have r0 := hA5.rule 0 rfl
    have ff := hA5.thaw 0 rfl
    have f0 := ff 0 (by simp)
    have f1 := ff 1 (by simp)
    have f2 := ff 2 (by simp)
    have f3 := ff 3 (by simp)
    clear ff
    go_simp
    have hE7 := (((hA5.put 0 rfl (j := 0) (by simp) (.int .i64 5)).put 0 rfl (j := 1) (by simp) (.int .i64 sl)).put 0 rfl (j := 2) (by simp) (.int .i64 zz)).put 0 rfl (j := 3) (by simp) (.int .i64 0)
    exact ⟨rfl, hE7.sub (.cons _ (List.Sublist.refl _)), hE7⟩
  (try simp only [Act.put, List.setIfInBounds_toArray, List.set_cons_zero, List.set_cons_succ])
  repeat (first
    | (refine Ord.ch_value (v := ?_) hT9.out (by decide) (by rfl) ?_ ?_; rotate_left; (focus (intro w5 hS; skip; go_simp <;> with_reducible rfl)); (try simp only [Act.put, List.setIfInBounds_toArray, List.set_cons_zero, List.set_cons_succ]))
    | (refine Ord.ch_off hT9.out (by decide) (by rfl) ?_; (try simp only [Act.put, List.setIfInBounds_toArray, List.set_cons_zero, List.set_cons_succ])))
  refine Ord.InText.nil fun w5 hS => ?_
  clear hT9
  obtain ⟨hC9, hA9⟩ := Ord.chain_end hS
  clear hS
  simp only [List.length_cons, List.length_nil, Nat.zero_add, Nat.one_ne_zero, if_false] at hA9
  have q := hA9.rule 0 rfl
  go_wp2
  exact bodyPost_ret (v := .agg #[.int .i64 5, .int .i64 sl, .int .i64 zz, .int .i64 0]) (by simp [results, Tryz.results217, go_sem, q]) rfl ⟨rfl, hA9.sub (.cons _ (.cons _ (List.Sublist.refl _)))⟩
end
end Go.Proofs.YtnnjanaclgjneaaGreatDoor

/- A drawn region: a read which a turn hangs on, by way of others. -/
namespace Go.Proofs.YtnnjanaclgjneaaGreatDoor.Ord
open Go
set_option maxRecDepth 100000

section
variable {P : Program} {ops : Array Oper} {Q : Exit → Act → World → Prop} {md : Region.Mode} {C : World → Prop} {A : Nat → World → Prop} {ps : List Nat}
theorem ch2_earlyp (m : Nat) (path : List Nat) {p : Nat} {k : Nat} {o : Oper} {rest : List Oper} {a : Act} {v : Value} (hf : textFits md ops = true) (hk : k ∉ ps) (hp : ps[m]? = some p) (hpath : hangsPath md ops (p :: path) = true) (hlast : (p :: path).getLast? = some k) (hkn : k < ops.size) (hw : Region.wanted o (yielded ops a.tmps) = true)
    (hv : ∀ w j, j ≤ m → C w → A j w → (execOp a.eval o).run P w = .ok (.value v) w)
    (h : InText P md ops Q (Chain2 md ops ps C A) (k + 1) rest (a.put o.dst v)) : InText P md ops Q (Chain2 md ops ps C A) k (o :: rest) a :=
  InText.cons hf (Or.inl ⟨hw, fun l w hr hS => by
    obtain ⟨hc, hS⟩ := hS
    have hS' := hS
    obtain ⟨hs, hC, j, hj, hl, hA⟩ := hS
    have hjm : j ≤ m := by
      rcases Nat.lt_or_ge m j with hlt | hge
      · exfalso
        have h1 := hl m p hp
        have h2 : l.getD p false = true := by rw [h1.2]; simpa using hlt
        have h0 : l.getD k true = false := (mem_ready.1 hr).1
        have h4 := hc.path path p hpath h2 k hlast
        rw [Array.getD_eq_getD_getElem?] at h4 h0
        have hkl : k < l.size := by rw [hs]; exact hkn
        simp [hkl] at h4 h0
        rw [h0] at h4
        cases h4
      · exact hge
    rw [hv w j hjm hC hA]
    exact ⟨rfl, hc.set hr, chain_set hk hS' hC fun _ h => h⟩⟩) h
end
end Go.Proofs.YtnnjanaclgjneaaGreatDoor.Ord
