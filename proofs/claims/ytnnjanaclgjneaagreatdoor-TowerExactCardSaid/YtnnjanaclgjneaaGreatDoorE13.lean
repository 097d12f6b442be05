/- TowerExact: of every skip list, with marks at any levels, and whatever happens to the memory between, each step's access and state of a Find, and how it ends at each level, are the document's, step by step: so the law answers true, for every input, where package link's three variables hold what the program's text lays in them (tied). -/
import Derived.Test.YtnnjanaclgjneaaGreatDoorE12
import Derived.Deep.CutBlock
import Derived.Deep.CutRange
import Derived.Test.YtnnjanaclgjneaaGreatDoorTie
import Derived.LaidMore
import Derived.Stop.Joined
import Derived.Test.YtnnjanaclgjneaaGreatDoorCards
import Derived.SevenTiedAt

/- A skip list that is laid: both memories. -/
namespace Go.Proofs.YtnnjanaclgjneaaGreatDoor
open Go.RowKit Go.Maps
set_option maxRecDepth 100000

section
variable {w0 w : World} {L : List Item}
theorem layH_succ (l : List Nt) (k : Nat) : layH l (k + 1) = layL k 5 (lvT l k) (4, 0, k) false (setL (layH l k) (1, 0, 0) 5) := rfl
theorem laidA {m H : Nat} {ns : List Nt} {g : Option Addr} {c : Nat} {ROW : Item} (hH : H ≤ 16) (hn : ns.length ≤ 30) (hok : ∀ n ∈ ns, NtOk H n) (hROW : rowKI encT 4 (.slice g ns.length c) 128 ns = ROW) (k : Nat) (hk : k < H) (F : Nat → Prop) (ml : List OneR) (v : World) (hv : Env w0 (refI m F ml :: ROW :: L) v) :
    Calls Tryz.prog 57 #[.slice g ns.length c, .int .i64 (k : Int)] v fun o w' => ∃ (g' : Option Addr) (c' : Nat), o = .returned (.slice g' (lvT ns k).length c') ∧ Env w0 (refI m F ml :: rowKI encN 4 (.slice g' (lvT ns k).length c') 132 (lvT ns k) :: ROW :: L) w' := by
  subst hROW
  refine (level_t k (by omega) ns g c hn (fun n h => (hok n h).2.2.2) (hv.perm (List.Perm.swap _ _ _))).mono ?_
  rintro o w1 ⟨g', c', rfl, h⟩
  exact ⟨g', c', rfl, h.perm (perm_of fun z => by simp only [List.count_cons]; omega)⟩
theorem laidB {m H : Nat} {ns : List Nt} {ROW : Item} (hH : H ≤ 16) (hn : ns.length ≤ 30) (k : Nat) (hk : k < H) (F : Nat → Prop) (g' : Option Addr) (c' : Nat) (v : World) (hv : Env w0 (refI m F (layH ns k) :: rowKI encN 4 (.slice g' (lvT ns k).length c') 132 (lvT ns k) :: ROW :: L) v) :
    Calls Tryz.prog 93 #[.pointer (some ⟨m, 0, none⟩), .int .i64 (k : Int), .int .i64 (k : Int), .int .i64 5, .slice g' (lvT ns k).length c'] v fun o w' => o = .returned (.tuple #[]) ∧ ∃ F', Env w0 (refI m F' (layH ns (k + 1)) :: ROW :: L) w' := by
  have h1 := lvT_length ns k
  have h2 := layH_length ns hn k
  have h3 : ((0 : Int) ≤ (k : Int) ∧ (k : Int) ≤ 1000) := by omega
  refine (lay_t k k 5 g' c' (lvT ns k) h3 (by omega) (by omega) (by omega) (fun F l v hv => hv.cellsK encN_len 1 rfl rfl) hv).mono ?_
  rintro o w1 ⟨rfl, F', h⟩
  rw [layH_succ]
  exact ⟨rfl, F', h.sub (.cons_cons _ (.cons _ (List.Sublist.refl _)))⟩
set_option maxHeartbeats 6400000 in
theorem laid18_t (H : Nat) (hH : 1 ≤ H ∧ H ≤ 16) (ns : List Nt) (g : Option Addr) (c : Nat) (hn : ns.length ≤ 30) (hok : ∀ n ∈ ns, NtOk H n) (hE : Env w0 (rowKI encT 4 (.slice g ns.length c) 128 ns :: L) w) :
    Calls Tryz.prog 40 #[.slice g ns.length c, .int .i64 (H : Int)] w fun o w' => ∃ (p cc n m : Nat) (G FU : Nat → Prop), o = .returned (.tuple #[.pointer (some ⟨p, 0, none⟩), .pointer (some ⟨m, 0, none⟩)]) ∧ n ≤ 1500 ∧ Env w0 (wbox p cc :: cellI cc G (getL (layH ns H)) ⟨0, (n : Int), 0, 0, 0⟩ n :: refI m FU (layH ns H) :: rowKI encT 4 (.slice g ns.length c) 128 ns :: L) w' := by
  obtain ⟨ROW, hROW⟩ : ∃ x, rowKI encT 4 (.slice g ns.length c) 128 ns = x := ⟨_, rfl⟩
  have hE1 := hE.newU w.heap.size rfl 139
  rw [hROW] at hE1 ⊢
  have HLV := Lib.hid fun (k : Nat) (hk : k < H) (F : Nat → Prop) (v : World) (hv : Env w0 (refI w.heap.size F (layH ns k) :: ROW :: L) v) => laidA hH.2 hn hok hROW k hk F _ v hv
  have HLY := Lib.hid fun (k : Nat) (hk : k < H) (F : Nat → Prop) (g' : Option Addr) (c' : Nat) (v : World) (hv : Env w0 (refI w.heap.size F (layH ns k) :: rowKI encN 4 (.slice g' (lvT ns k).length c') 132 (lvT ns k) :: ROW :: L) v) => laidB hH.2 hn k hk F g' c' v hv
  have hW := layH_words hok H (by omega)
  have hl := layH_length ns hn H
  have HML : Hid ((layH ns H).length ≤ 1500) := Lib.hid (by omega)
  have HW := Lib.hid hW
  have HH : Hid (H ≤ 16) := Lib.hid hH.2
  obtain ⟨ml, hml⟩ : ∃ ml, layH ns H = ml := ⟨_, rfl⟩
  rw [hml] at HML HW ⊢
  have HM := Lib.hid hml
  clear hE hW hl hok hH hml
  go_enter Tryz.func40, Tryz.ntmps40
  go_wp2_with fail
  generalize w.alloc _ = w1 at *
  generalize w.heap.size = m at *
  go_loopw [7] (fun iv wr => ∃ (k : Nat) (F : Nat → Prop), iv = .int .i64 k ∧ k ≤ H ∧ Env w0 (refI m F (layH ns k) :: ROW :: L) wr) (fun iv _ => H - (intOf iv).toNat)
  case atStart => exact ⟨0, _, rfl, Nat.zero_le _, hE1⟩
  case round =>
    clear hE1
    obtain ⟨k, F, rfl, hk, hE⟩ := hrel
    by_cases hlt : k < H
    · have hb1 : decide ((k : Int) < (H : Int)) = true := by simp; omega
      have hw1 : wrap64 ((k : Int) + 1) = (k : Int) + 1 := w64 _ (by have := HH.out; omega)
      go_wp2_with fail
      refine (HLV.out k hlt _ _ hE).mono ?_
      rintro o w2 ⟨g', c', rfl, hE2⟩
      go_wp2_with fail
      refine (HLY.out k hlt _ _ _ _ hE2).mono ?_
      rintro o w3 ⟨rfl, F3, hE3⟩
      go_wp2_with fail
      rw [hw1]
      clear hw1
      exact ⟨⟨k + 1, F3, by simp, by omega, hE3⟩, by simp [intOf]; omega⟩
    · have hkH : k = H := by omega
      subst hkH
      have hb1 : decide ((k : Int) < (k : Int)) = false := by simp
      clear HLV HLY hlt hk HH
      rw [HM.out] at hE
      obtain ⟨FU, hFU⟩ : ∃ FU, F = FU := ⟨_, rfl⟩
      rw [hFU] at hE
      clear hFU
      go_wp2_with fail
      refine (new_w hE).mono ?_
      rintro o w1 ⟨p, cc, rfl, hE1, -⟩
      clear hE
      go_wp2_with fail
      refine (refPlaces_any (by have := HML.out; omega) (hE1.ref 2 rfl).nodup (hE1.ref 2 rfl)).mono ?_
      rintro o w2 ⟨pl, v2, rfl, hpl, hpn, ho, hb⟩
      obtain ⟨A, cap, rfl⟩ := ownsRow_slice ho
      have hE2 := hE1.addPl ho hb
      have HPL := Lib.hid hpl
      have hpl1 : pl.length ≤ 10000 := by have := HML.out; omega
      have HPN := Lib.hid hpn
      clear hb ho hE1 hpl hpn
      rw [← laidF_nil (getL ml)] at hE2
      go_wp2_with fail
      go_loopw [10] (fun iv wr => ∃ (j : Nat) (G : Nat → Prop), j ≤ pl.length ∧ iv = .int .i64 j ∧ Env w0 (rowKI encP 3 (.slice A pl.length cap) 105 pl :: wbox p cc :: cellI cc G (laidF (getL ml) (pl.take j)) ⟨0, (j : Int), 0, 0, 0⟩ j :: refI m FU ml :: ROW :: L) wr) (fun iv _ => pl.length - (intOf iv).toNat)
      case atStart => exact ⟨0, _, Nat.zero_le _, rfl, hE2⟩
      case round =>
        clear hE2
        obtain ⟨j, G, hj, rfl, hE⟩ := hrel
        by_cases hlt : j < pl.length
        · have hb1 : decide ((j : Int) < (pl.length : Int)) = true := by simp; omega
          have hlt1 : (j : Int) < (pl.length : Int) := by omega
          obtain ⟨⟨x, y, z⟩, hx⟩ : ∃ x, pl.getD j z3 = x := ⟨_, rfl⟩
          obtain ⟨g, off, rfl⟩ : ∃ g off, A = some ⟨g, off, none⟩ := by
            rcases hE.cellsK encP_len 0 rfl rfl with h0 | ⟨g, off, h, -⟩
            · rw [h0] at hlt; simp at hlt
            · exact ⟨g, off, h⟩
          have HC : Hid (∀ G f q n v, Env w0 (rowKI encP 3 (.slice (some ⟨g, off, none⟩) pl.length cap) 105 pl :: wbox p cc :: cellI cc G f q n :: refI m FU ml :: ROW :: L) v → v.cell? ⟨g, off + j * 3, none⟩ = some (.int .i64 x) ∧ v.cell? ⟨g, off + j * 3 + 1, none⟩ = some (.int .i64 y) ∧ v.cell? ⟨g, off + j * 3 + 2, none⟩ = some (.int .i64 z)) := Lib.hid fun G f q n v hv => by
            rcases hv.cellsK encP_len 0 rfl rfl with h0 | ⟨g', off', h, -, hc⟩
            · rw [h0] at hlt; simp at hlt
            · cases h
              have h9 := hc j hlt
              rw [show pl.getD j default = (x, y, z) from hx] at h9
              exact ⟨h9 0 _ rfl, h9 1 _ rfl, h9 2 _ rfl⟩
          obtain ⟨u, hu⟩ : ∃ u, getL ml (x, y, z) = u := ⟨_, rfl⟩
          have HGT : Hid (∀ G f q n v, Env w0 (rowKI encP 3 (.slice (some ⟨g, off, none⟩) pl.length cap) 105 pl :: wbox p cc :: cellI cc G f q n :: refI m FU ml :: ROW :: L) v → Calls Tryz.prog 88 #[.pointer (some ⟨m, 0, none⟩), .agg #[.int .i64 x, .int .i64 y, .int .i64 z]] v fun e v' => e = .returned (.int .u64 u) ∧ Below v.heap.size v v') := Lib.hid fun G f q n v hv => by
            rw [← hu]
            exact refGet_any x y z (by have := HML.out; omega) (hv.ref 3 rfl)
          have hmem : (x, y, z) ∈ pl := by
            rw [← hx, List.getD_eq_getElem?_getD, List.getElem?_eq_getElem hlt]
            exact List.getElem_mem hlt
          have hwf : Wf (x, y, z) := Classical.byContradiction fun h => ((HPL.out.2 _).1 hmem) (HW.out.out _ h)
          have hui : InU u := by rw [← hu]; exact HW.out.u _
          have hstep : laidF (getL ml) (pl.take (j + 1)) = upd (laidF (getL ml) (pl.take j)) (x, y, z) u := by rw [laidF_step hlt hx, hu]
          have hwj : wrap64 ((j : Int) + 1) = (j : Int) + 1 := w64 _ (by omega)
          have HWF := Lib.hid hwf
          have HUI := Lib.hid hui
          have HSTEP := Lib.hid hstep
          have HWJ := Lib.hid hwj
          clear hmem hwf hui hstep hwj hu hx
          obtain ⟨c0, c1, c2⟩ := HC.out _ _ _ _ _ hE
          go_wp2_with fail
          clear c0 c1 c2
          refine Ord.wp_chain [13] (fun v => ∃ G f q n, Env w0 (rowKI encP 3 (.slice (some ⟨g, off, none⟩) pl.length cap) 105 pl :: wbox p cc :: cellI cc G f q n :: refI m FU ml :: ROW :: L) v) (fun k w' => ∃ G, Env w0 (rowKI encP 3 (.slice (some ⟨g, off, none⟩) pl.length cap) 105 pl :: wbox p cc :: (if k = 0 then cellI cc G (laidF (getL ml) (pl.take j)) ⟨0, (j : Int), 0, 0, 0⟩ j else cellI cc G (upd (laidF (getL ml) (pl.take j)) (x, y, z) u) ⟨0, wrap64 ((j : Int) + 1), 0, 0, 0⟩ (j + 1)) :: refI m FU ml :: ROW :: L) w') (by kernel_rfl) (by kernel_rfl) (by kernel_rfl) ⟨_, _, _, _, hE.drew⟩ ⟨_, hE.drew⟩ (fun hT => ?_)
          have hT9 := Lib.hid hT
          clear hT
          repeat (first
            | (refine Ord.ch_value (v := ?_) hT9.out (by decide) (by rfl) ?_ ?_; rotate_left; (focus (intro w5 hS; obtain ⟨G8, f8, q8, n8, hS8⟩ := hS; obtain ⟨c0, c1, c2⟩ := HC.out _ _ _ _ _ hS8; go_simp <;> with_reducible rfl)); (try simp only [Act.put, List.setIfInBounds_toArray, List.set_cons_zero, List.set_cons_succ]))
            | (refine Ord.ch_off hT9.out (by decide) (by rfl) ?_; (try simp only [Act.put, List.setIfInBounds_toArray, List.set_cons_zero, List.set_cons_succ]))
            | (refine Ord.ch_call (v := ?_) (f := ?_) (args := ?_) hT9.out (by decide) (by rfl) ?_ ?_ ?_; rotate_left 3; (focus (intro w5 hS; obtain ⟨G8, f8, q8, n8, hS8⟩ := hS; obtain ⟨c0, c1, c2⟩ := HC.out _ _ _ _ _ hS8; go_simp; constructor <;> with_reducible rfl)); (focus (intro w5 hS; (first | (obtain ⟨G8, f8, q8, n8, hS8⟩ := hS; with_reducible refine (HGT.out _ _ _ _ _ hS8).mono ?_; rintro o w6 ⟨rfl, hb6⟩; constructor; with_reducible rfl; exact ⟨⟨G8, f8, q8, n8, hS8.over hb6⟩, fun k h => h.elim fun G h => ⟨G, h.over hb6⟩⟩)))); (try simp only [Act.put, List.setIfInBounds_toArray, List.set_cons_zero, List.set_cons_succ])))
          refine Ord.ch_turn (v := .tuple #[]) 0 hT9.out rfl (by decide) (Or.inl rfl) (by rfl) ?_ ?_
          · rintro w5 hC5 ⟨G5, hA5⟩
            simp only [if_true] at hA5
            go_simp
            simp only [Ord.LandsIn]
            refine (store_w x y z 0 u 0 false HWF.out HUI.out (by unfold maxLen; omega) 1 2 (by decide) hA5 rfl rfl).mono ?_
            rintro e w6 ⟨rfl, G6, hE6⟩
            exact ⟨rfl, ⟨_, _, _, _, hE6⟩, G6, hE6⟩
          (try simp only [Act.put, List.setIfInBounds_toArray, List.set_cons_zero, List.set_cons_succ])
          refine Ord.InText.nil fun w5 hS => ?_
          clear hT9
          obtain ⟨hC9, hA9⟩ := Ord.chain_end hS
          clear hS
          obtain ⟨G9, hA9⟩ := hA9
          simp only [List.length_cons, List.length_nil, Nat.zero_add, Nat.one_ne_zero, if_false] at hA9
          rw [← HSTEP.out, HWJ.out] at hA9
          clear hC9 hE
          go_wp2_with fail
          exact ⟨⟨j + 1, G9, by omega, by simp, by simpa using hA9⟩, by simp [intOf]; omega⟩
        · have hb1 : decide ((j : Int) < (pl.length : Int)) = false := by simp; omega
          have hjl : j = pl.length := by omega
          have HJL := Lib.hid hjl
          clear hjl
          go_wp2_with fail
          refine bodyPost_ret (v := .tuple #[.pointer (some ⟨p, 0, none⟩), .pointer (some ⟨m, 0, none⟩)]) (by simp [results, Tryz.results40, go_sem]) rfl ⟨p, cc, j, m, G, FU, rfl, by have := HPN.out; have := HML.out; omega, ?_⟩
          have h9 : laidF (getL ml) (pl.take j) = getL ml := by rw [HJL.out, List.take_length]; exact laidF_all HPL.out
          rw [h9] at hE
          exact hE.sub (.cons _ (List.Sublist.refl _))
end
end Go.Proofs.YtnnjanaclgjneaaGreatDoor

/- The reference's New; TowerExact: both, step by step. -/
namespace Go.Proofs.YtnnjanaclgjneaaGreatDoor
open Go.RowKit Go.Maps
set_option maxRecDepth 100000

def V0 : Nat → List Value := fun _ => rlC 0 0 false 0 0 0 0 0 0 0 0 0 false
set_option maxHeartbeats 3200000 in
theorem rnew_f {w0 w : World} {L : List Item} (key : Int) (hE : Env w0 L w) :
    Calls Tryz.prog 44 #[.int .u64 key] w fun o w' => ∃ q, o = .returned (.pointer (some ⟨q, 0, none⟩)) ∧ Env w0 (boxI q (blkF key (-1) V0) :: L) w' := by
  have hE1 := hE.box w.heap.size rfl (blkF key (-1) V0) 114
  clear hE
  go_enter Tryz.func44, Tryz.ntmps44
  go_wp2_with fail
  go_ret
  exact ⟨_, rfl, hE1⟩
end Go.Proofs.YtnnjanaclgjneaaGreatDoor

/- TowerExact: both, step by step. -/
namespace Go.Proofs.YtnnjanaclgjneaaGreatDoor
open Go.RowKit Go.Maps
set_option maxRecDepth 100000

theorem who_slotF (v : World) (a b : Int) : (Instr.field 116 (.agg #[.int .i64 a, .int .i64 b]) 0).run Tryz.prog v = .ok (.int .i64 a) v := by kernel_rfl
theorem val_wordF (v : World) (a b : Int) (c : Bool) : (Instr.field 119 (.agg #[.int .u64 a, .int .i64 b, .bool c]) 0).run Tryz.prog v = .ok (.int .u64 a) v := by kernel_rfl
theorem chk18' : ∀ H : Nat, H < 17 → 1 ≤ H → chkI 3 1000 0 (H : Int) 1073741824 = 0 := by decide
set_option maxHeartbeats 12800000 in
theorem exact_t (W : World) (hg : Glo W) (xs : List NtI) (A : Option Addr) (cap : Nat) (hl0 : xs.length ≤ 2 ^ 63 - 1) (h0 key : Int) (zs : List ActU) (A2 : Option Addr) (cap2 : Nat) (hz0 : zs.length ≤ 2 ^ 63 - 1)
    (hok : ∀ r ∈ xs, OkNtI r) (hrow : RowX encNtI 4 W A xs) (hok2 : ∀ r ∈ zs, OkActU r) (hrow2 : RowX encActU 5 W A2 zs) :
    Calls Tryz.prog 9 #[.slice A xs.length cap, .int .i64 h0, .int .u64 key, .slice A2 zs.length cap2] W fun e w' => e = .returned (.bool true) ∧ Below W.heap.size W w' := by
  have HG := Lib.hid hg
  have HOK := Lib.hid hok
  have HROW := Lib.hid hrow
  have HOK2 := Lib.hid hok2
  have HROW2 := Lib.hid hrow2
  have hl : xs.length ≤ 9223372036854775807 := by omega
  have hz : zs.length ≤ 9223372036854775807 := by omega
  obtain ⟨hq, hh, hh0, hh1⟩ := cut_u1 h0 16 (by decide) (by decide)
  obtain ⟨H, rfl⟩ : ∃ H : Nat, hq = (H : Int) := ⟨hq.toNat, by omega⟩
  have hH : 1 ≤ H ∧ H ≤ 16 := by omega
  have HH := Lib.hid hH
  have hE := Env.start W
  clear hg hok hrow hok2 hrow2 hl0 hz0 hh0 hh1 hH
  go_enter Tryz.func9, Tryz.ntmps9
  go_wp2_with fail
  refine (awake18 _ HG.out).mono ?_
  rintro o w1 ⟨rfl, hb⟩
  replace hE := hE.over hb
  clear hb
  go_wp2_with fail
  refine (nodes18_t A cap xs hl H HH.out HOK.out HROW.out hE).mono ?_
  rintro o w2 ⟨g, c, ns, rfl, hn30, hsrt, hE2⟩
  have HN30 := Lib.hid hn30
  have HSRT := Lib.hid hsrt
  clear hE hsrt hn30 hl
  go_wp2_with fail
  refine (laid18_t H HH.out ns g c HN30.out HSRT.out.ok hE2).mono ?_
  rintro o w3 ⟨p, cc, n, m, G, FU, rfl, hn, hE3⟩
  have HW := Lib.hid (layH_words HSRT.out.ok H (by have := HH.out; omega))
  have HLL := Lib.hid (layH_length ns HN30.out H)
  have HN := Lib.hid hn
  obtain ⟨ml, hml⟩ : ∃ ml, layH ns H = ml := ⟨_, rfl⟩
  obtain ⟨ROW, hROW⟩ : ∃ x, rowKI encT 4 (.slice g ns.length c) 128 ns = x := ⟨_, rfl⟩
  rw [hml] at HW HLL hE3
  rw [hROW] at hE3
  clear hE2 hn hml hROW
  go_wp2_with fail
  refine (skip_t H _).mono ?_
  rintro o w4 ⟨rfl, hb⟩
  replace hE3 := hE3.over hb
  clear hb
  go_wp2_with fail
  refine (newYes_c 3 1000 0 H 1073741824 (chk18' H (by have := HH.out; omega) HH.out.1) hE3).mono ?_
  rintro o w5 ⟨cr, qq, F, rfl, hE5⟩
  clear hE3
  go_wp2_with fail
  refine (skip_t H _).mono ?_
  rintro o w6 ⟨rfl, hb⟩
  replace hE5 := (hE5.over hb).box w6.heap.size rfl (ruC (U18 H) 0 0) 98
  clear hb
  go_wp2_with fail
  generalize w6.heap.size = U at *
  refine (newYes_f (h := H) 1 key (by have := HH.out; omega) rfl hE5).mono ?_
  rintro o w7 ⟨fb, gb, rfl, hE7⟩
  clear hE5
  go_wp2_with fail
  refine (rnew_f key hE7).mono ?_
  rintro o w8 ⟨q, rfl, hE8⟩
  clear hE7
  go_wp2_with fail
  have hB : BothD W [ROW] (⟨⟨cr, qq, p, cc, F, 2⟩, fb, q, U, m, H, key⟩ : Jd) G (getL ml) ⟨0, (n : Int), 0, 0, 0⟩ n 0 (F0m 0 0) (F0m 0 0) (getL ml) 1500 w8 :=
    ⟨[boxI fb (fdC cr key (mvL 96 fb) 0 gb H 0), boxI gb (List.replicate H (.pointer none)), coreI cr 3 1000 0 H 1073741824 0 0 0 0 qq, queueI qq F [] 2], [boxI q (blkF key (-1) V0), boxI U (ruC (U18 H) 0 0)], FU, ml,
      ⟨fun G f qc n R w h => ⟨rfl, rfl, .inl ⟨rfl, rfl, gb, _, 0, List.length_replicate, h⟩⟩, List.mem_cons_of_mem _ (List.mem_cons_of_mem _ (List.mem_cons_self ..))⟩,
      ⟨fun G ml N R w h1 h2 => ⟨V0, fun _ => rfl, fun h => absurd h (by simp [F0m]), ml, rfl, h1, G, h2⟩, List.mem_cons_of_mem _ (List.mem_cons_self ..)⟩, rfl, by have := HLL.out; have := HH.out; omega, hE8.perm (perm_of fun z => by
        simp only [List.count_cons, List.count_append, List.cons_append, List.nil_append, List.count_nil]
        omega)⟩
  clear hE8
  go_loopw [16] (fun iv wr => ∃ (j n N : Nat) (G : Nat → Prop) (f : Plc → Int) (qc : Cnt) (T : Fm), iv = .int .i64 j ∧ j ≤ 400 ∧ n ≤ 1600 + 2 * j ∧ N ≤ 1600 + 2 * j ∧ Hid (FmOk H T) ∧ Hid (0 ≤ T.e ∧ T.e ≤ 9223372036854775807) ∧ BothD W [ROW] (⟨⟨cr, qq, p, cc, F, 2⟩, fb, q, U, m, H, key⟩ : Jd) G f qc n 0 T T f N wr) (fun iv _ => 400 - (intOf iv).toNat)
  case atStart => exact ⟨0, n, 1500, G, getL ml, _, F0m 0 0, rfl, by omega, by have := HN.out; omega, by omega, Lib.hid (F0m_ok _ _ _), Lib.hid (by show (0 : Int) ≤ 0 ∧ (0 : Int) ≤ 9223372036854775807; omega), hB⟩
  case round =>
    clear hB
    obtain ⟨j, n, N, G, f, qc, T, rfl, hj, hn, hN, hT, hTe, hB⟩ := hrel
    by_cases hlt : j < 400
    · have hb1 : decide ((j : Int) < 400) = true := by simp; omega
      go_upto_if 53 with fail
      go_cut [53] from 54 to 60 (fun _ wx => ∃ (n N : Nat) (G : Nat → Prop) (f : Plc → Int) (qc : Cnt), n ≤ 1601 + 2 * j ∧ N ≤ 1601 + 2 * j ∧ BothD W [ROW] (⟨⟨cr, qq, p, cc, F, 2⟩, fb, q, U, m, H, key⟩ : Jd) G f qc n 0 T T f N wx)
      case first =>
        by_cases hjz : j < zs.length
        · have hb2 : decide ((j : Int) < (zs.length : Int)) = true := by simp; omega
          have hjz1 : (j : Int) < (zs.length : Int) := by omega
          rcases HROW2.out with h0 | ⟨g0, off, rfl, hgl, hc⟩
          · rw [h0] at hjz; simp at hjz
          obtain ⟨a9, ha⟩ : ∃ a, zs.getD j default = a := ⟨_, rfl⟩
          have hao : OkActU a9 := HOK2.out a9 (by rw [← ha, List.getD_eq_getElem?_getD, List.getElem?_eq_getElem hjz]; exact List.getElem_mem hjz)
          have hcj : CellsAt wr g0 (off + j * 5) (encActU a9) := by rw [← ha]; exact (hc j hjz).below hB.below hgl
          obtain ⟨kd, ax, ay, az, av⟩ := a9
          obtain ⟨-, hx, hy, hz9, hv9⟩ := hao
          dsimp only at hx hy hz9 hv9
          have HWF : Hid (Wf (ax, ay, az)) := Lib.hid ⟨hx, hy, hz9⟩
          have HAV := Lib.hid hv9
          obtain ⟨c0, c1, c2', c3, c4⟩ := at_ActU hcj
          have hds := Lib.hid (bd_disturb kd ax ay az av HWF.out HAV.out (by unfold maxLen; omega) (by omega) hB)
          clear hc hcj hx hy hz9 hv9 ha
          go_wp2_with fail
          refine hds.out.mono ?_
          rintro o w14 ⟨rfl, G', f', n', hn', hB'⟩
          go_wp2_with fail
          go_meet
          case rel => exact ⟨n', N + 1, G', f', _, by omega, by omega, hB'⟩
        · have hb2 : decide ((j : Int) < (zs.length : Int)) = false := by simp; omega
          go_wp2_with fail
          go_meet
          case rel => exact ⟨n, N, G, f, qc, by omega, by omega, hB⟩
      case rest =>
        clear hB hn hN
        obtain ⟨n, N, G, f, qc, hn, hN, hB⟩ := hcut
        have hW := hB.words
        have hst := bd_prog (J := (⟨⟨cr, qq, p, cc, F, 2⟩, fb, q, U, m, H, key⟩ : Jd)) HH.out.1 (show H ≤ 1000 by have := HH.out; omega) hT.out HG.out (by unfold maxLen; omega) hB
        obtain ⟨s2, T2, f2, hq⟩ : ∃ a b c, downM H key T f = (a, b, c) := ⟨_, _, _, rfl⟩
        have hstate : s2 = 0 ∨ s2 = 1 := by
          have := down_state H key T f
          rw [hq] at this
          exact this
        have HOK9 : Hid (s2 = 0 → FmOk H T2) := Lib.hid (by
          have := down_ok (key := key) HH.out.1 (by have := HH.out; omega) hT.out hW.u
          rw [hq] at this
          exact this)
        have HEE : Hid (0 ≤ T2.e ∧ T2.e ≤ 9223372036854775807) := Lib.hid (by
          have := down_e (h := H) (key := key) hTe.out hW.u
          rw [hq] at this
          exact this)
        have HON : Hid (s2 = 1 → T2.on = true ∧ T2.lv = 0) := Lib.hid (by
          have := @down_end H key T f
          rw [hq] at this
          exact this)
        have hn2 := mD_le T n
        have HST : Hid (Calls Tryz.prog 46 #[.pointer (some ⟨fb, 0, none⟩), .iface 26 (.pointer (some ⟨p, 0, none⟩))] wc fun o w' => o = .returned (.int .i64 s2) ∧ ∃ G', BothD W [ROW] (⟨⟨cr, qq, p, cc, F, 2⟩, fb, q, U, m, H, key⟩ : Jd) G' f2 (qcD T f qc) (mD T n) s2 T2 T f N w') := Lib.hid (by
          have h9 := hst
          rw [show downM (⟨⟨cr, qq, p, cc, F, 2⟩, fb, q, U, m, H, key⟩ : Jd).h (⟨⟨cr, qq, p, cc, F, 2⟩, fb, q, U, m, H, key⟩ : Jd).key T f = (s2, T2, f2) from hq] at h9
          exact h9)
        have HREF : Hid (∀ G qd n v, BothD W [ROW] (⟨⟨cr, qq, p, cc, F, 2⟩, fb, q, U, m, H, key⟩ : Jd) G f2 qd n s2 T2 T f N v → Calls Tryz.prog 47 #[.pointer (some ⟨q, 0, none⟩), .pointer (some ⟨U, 0, none⟩), .pointer (some ⟨m, 0, none⟩)] v fun o w' => o = .returned (.int .i64 s2) ∧ BothD W [ROW] (⟨⟨cr, qq, p, cc, F, 2⟩, fb, q, U, m, H, key⟩ : Jd) G f2 qd n s2 T2 T2 f2 (N + 1) w') := Lib.hid fun G qd n v hv => by
          have h9 := bd_ref (J := (⟨⟨cr, qq, p, cc, F, 2⟩, fb, q, U, m, H, key⟩ : Jd)) HH.out hT.out hTe.out hW.u (by omega) hv
          rw [show downM (⟨⟨cr, qq, p, cc, F, 2⟩, fb, q, U, m, H, key⟩ : Jd).h (⟨⟨cr, qq, p, cc, F, 2⟩, fb, q, U, m, H, key⟩ : Jd).key T f = (s2, T2, f2) from hq] at h9
          exact h9
        generalize qcD T f qc = qc2 at *
        generalize mD T n = n2 at *
        clear hst hB hW hq
        go_wp2_with fail
        refine HST.out.mono ?_
        rintro o w14 ⟨rfl, G2, hB2⟩
        clear HST
        go_wp2_with fail
        refine Ord.wp_chain2 [4] (fun _ => True) (fun jj v => pick3 (BothD W [ROW] (⟨⟨cr, qq, p, cc, F, 2⟩, fb, q, U, m, H, key⟩ : Jd) G2 f2 qc2 n2 s2 T2 T f N) (BothD W [ROW] (⟨⟨cr, qq, p, cc, F, 2⟩, fb, q, U, m, H, key⟩ : Jd) G2 f2 qc2 n2 s2 T2 T2 f2 (N + 1)) (BothD W [ROW] (⟨⟨cr, qq, p, cc, F, 2⟩, fb, q, U, m, H, key⟩ : Jd) G2 f2 qc2 n2 s2 T2 T2 f2 (N + 1)) jj v) (by kernel_rfl) (by kernel_rfl) (by kernel_rfl) trivial (hB2.over (Below.refl _ _).drew) (fun hT => ?_)
        have hT9 := Lib.hid hT
        clear hT
        repeat (refine Ord.ch2_value (v := ?_) hT9.out (by decide) (by rfl) ?_ ?_; rotate_left; (focus (intro w5 hS; skip; go_simp <;> with_reducible rfl)); (try simp only [Act.put, List.setIfInBounds_toArray, List.set_cons_zero, List.set_cons_succ]))
        refine Ord.ch2_turn 0 hT9.out (by rfl) (by decide) (Or.inl rfl) (by rfl) (v := .int .i64 s2) ?_ ?_
        · rintro w5 - hA5
          replace hA5 : BothD W [ROW] (⟨⟨cr, qq, p, cc, F, 2⟩, fb, q, U, m, H, key⟩ : Jd) G2 f2 qc2 n2 s2 T2 T f N w5 := hA5
          go_simp
          simp only [Ord.LandsIn]
          refine (HREF.out _ _ _ _ hA5).mono ?_
          rintro e w6 ⟨rfl, hA6⟩
          first | exact ⟨rfl, trivial, hA6⟩ | exact ⟨rfl, hA6⟩
        (try simp only [Act.put, List.setIfInBounds_toArray, List.set_cons_zero, List.set_cons_succ])
        repeat (refine Ord.ch2_value (v := ?_) hT9.out (by decide) (by rfl) ?_ ?_; rotate_left; (focus (intro w5 hS; skip; go_simp <;> with_reducible rfl)); (try simp only [Act.put, List.setIfInBounds_toArray, List.set_cons_zero, List.set_cons_succ]))
        refine Ord.ch2_late_call 0 6 [5, 4] hT9.out (by decide) (by kernel_rfl) (by kernel_rfl) rfl rfl (by rfl) (v := .int .i64 T2.r) ?_ ?_
        · rintro w5 jj hj0 hj1 - hA5
          obtain rfl : jj = 1 := by simp at hj1; omega
          replace hA5 : BothD W [ROW] (⟨⟨cr, qq, p, cc, F, 2⟩, fb, q, U, m, H, key⟩ : Jd) G2 f2 qc2 n2 s2 T2 T2 f2 (N + 1) w5 := hA5
          go_simp
          simp only [Ord.LandsIn]
          refine (bd_rolls hA5).mono ?_
          rintro e w6 ⟨rfl, rfl⟩
          first | exact ⟨rfl, trivial, hA5⟩ | exact ⟨rfl, hA5⟩
        (try simp only [Act.put, List.setIfInBounds_toArray, List.set_cons_zero, List.set_cons_succ])
        repeat (refine Ord.ch2_value (v := ?_) hT9.out (by decide) (by rfl) ?_ ?_; rotate_left; (focus (intro w5 hS; skip; go_simp <;> with_reducible rfl)); (try simp only [Act.put, List.setIfInBounds_toArray, List.set_cons_zero, List.set_cons_succ]))
        refine Ord.ch2_late 0 6 [5, 4] hT9.out (by decide) (by kernel_rfl) (by kernel_rfl) rfl rfl (by rfl) (v := .int .i64 T2.r) ?_ ?_
        · rintro w5 jj hj0 hj1 - hA5
          obtain rfl : jj = 1 := by simp at hj1; omega
          replace hA5 : BothD W [ROW] (⟨⟨cr, qq, p, cc, F, 2⟩, fb, q, U, m, H, key⟩ : Jd) G2 f2 qc2 n2 s2 T2 T2 f2 (N + 1) w5 := hA5
          obtain ⟨r5, r9⟩ := bd_ucell hA5
          go_simp
        (try simp only [Act.put, List.setIfInBounds_toArray, List.set_cons_zero, List.set_cons_succ])
        repeat (refine Ord.ch2_value (v := ?_) hT9.out (by decide) (by rfl) ?_ ?_; rotate_left; (focus (intro w5 hS; skip; go_simp <;> with_reducible rfl)); (try simp only [Act.put, List.setIfInBounds_toArray, List.set_cons_zero, List.set_cons_succ]))
        refine Ord.ch2_late_call 0 15 [14, 6, 5, 4] hT9.out (by decide) (by kernel_rfl) (by kernel_rfl) rfl rfl (by rfl) (v := .int .i64 T2.e) ?_ ?_
        · rintro w5 jj hj0 hj1 - hA5
          obtain rfl : jj = 1 := by simp at hj1; omega
          replace hA5 : BothD W [ROW] (⟨⟨cr, qq, p, cc, F, 2⟩, fb, q, U, m, H, key⟩ : Jd) G2 f2 qc2 n2 s2 T2 T2 f2 (N + 1) w5 := hA5
          go_simp
          simp only [Ord.LandsIn]
          refine (bd_epoch hA5).mono ?_
          rintro e w6 ⟨rfl, rfl⟩
          first | exact ⟨rfl, trivial, hA5⟩ | exact ⟨rfl, hA5⟩
        (try simp only [Act.put, List.setIfInBounds_toArray, List.set_cons_zero, List.set_cons_succ])
        repeat (refine Ord.ch2_value (v := ?_) hT9.out (by decide) (by rfl) ?_ ?_; rotate_left; (focus (intro w5 hS; skip; go_simp <;> with_reducible rfl)); (try simp only [Act.put, List.setIfInBounds_toArray, List.set_cons_zero, List.set_cons_succ]))
        refine Ord.ch2_late 0 15 [14, 6, 5, 4] hT9.out (by decide) (by kernel_rfl) (by kernel_rfl) rfl rfl (by rfl) (v := .int .i64 T2.e) ?_ ?_
        · rintro w5 jj hj0 hj1 - hA5
          obtain rfl : jj = 1 := by simp at hj1; omega
          replace hA5 : BothD W [ROW] (⟨⟨cr, qq, p, cc, F, 2⟩, fb, q, U, m, H, key⟩ : Jd) G2 f2 qc2 n2 s2 T2 T2 f2 (N + 1) w5 := hA5
          obtain ⟨r5, r9⟩ := bd_ucell hA5
          go_simp
        (try simp only [Act.put, List.setIfInBounds_toArray, List.set_cons_zero, List.set_cons_succ])
        repeat (refine Ord.ch2_value (v := ?_) hT9.out (by decide) (by rfl) ?_ ?_; rotate_left; (focus (intro w5 hS; skip; go_simp <;> with_reducible rfl)); (try simp only [Act.put, List.setIfInBounds_toArray, List.set_cons_zero, List.set_cons_succ]))
        refine Ord.InText.nil fun w5 hS => ?_
        clear hT9
        obtain ⟨hC9, hA9⟩ := Ord.chain2_end hS
        clear hS
        replace hA9 : BothD W [ROW] (⟨⟨cr, qq, p, cc, F, 2⟩, fb, q, U, m, H, key⟩ : Jd) G2 f2 qc2 n2 s2 T2 T2 f2 (N + 1) w5 := hA9
        clear hC9 hB2 HREF
        rcases hstate with hs | hs
        · have HLO := Lib.hid (HOK9.out hs)
          clear HOK9 HON
          subst hs
          go_wp2_with fail
          exact ⟨⟨j + 1, n2, N + 1, G2, f2, qc2, T2, by simp, by omega, by omega, by omega, HLO, HEE, hA9⟩, by simp [intOf]; omega⟩
        · have HLV := Lib.hid (HON.out hs)
          clear HOK9 HON HEE
          subst hs
          as_aux_lemma =>
            obtain ⟨M, Q, G3, ml3, hM3, hQ3, hf3, hl3, hE3⟩ := hA9
            obtain ⟨LS, hLS⟩ : ∃ LS, M ++ (Q ++ (wbox p cc :: cellI cc G2 f2 qc2 n2 :: refI m G3 ml3 :: [ROW])) = LS := ⟨_, rfl⟩
            have hE : Env W LS w5 := by rw [← hLS]; exact hE3
            have HBD : Hid (∀ v, Env W LS v → (BothD W [ROW] (⟨⟨cr, qq, p, cc, F, 2⟩, fb, q, U, m, H, key⟩ : Jd) G2 f2 qc2 n2 1 T2 T2 f2 (N + 1)) v) := Lib.hid fun v hv => by
              rw [← hLS] at hv
              exact ⟨M, Q, G3, ml3, hM3, hQ3, hf3, hl3, hv⟩
            have HMEM : Hid (∀ v, Env W LS v → Calls Tryz.prog 56 #[.pointer (some ⟨p, 0, none⟩), .pointer (some ⟨m, 0, none⟩)] v fun o w' => o = .returned (.bool true) ∧ Env W LS w') := Lib.hid fun v hv => by
              rw [← hLS] at hv ⊢
              rw [← hf3] at hv ⊢
              refine (memory18 (by omega) (by omega) (hv.perm (perm_memD M Q [ROW] _ _ _))).mono ?_
              rintro o w1 ⟨rfl, hE'⟩
              exact ⟨rfl, hE'.perm (perm_memD M Q [ROW] _ _ _).symm⟩
            clear hM3 hQ3 hf3 hl3 hE3 hLS
            have hHH := HH.out
            have HFO : Hid (∀ v, Env W LS v → Calls Tryz.prog 50 #[.pointer (some ⟨fb, 0, none⟩)] v fun o w' => o = .returned (.bool (T2.L 0).fd) ∧ w' = v) := Lib.hid fun v hv => by
              obtain ⟨g1, ps, D, nx, X, hps, hE1⟩ := bd_end HLV.out.2 (HBD.out _ hv)
              exact endFound0 (show H ≤ 1000 by omega) HH.out.1 hps hE1
            have HWO : Hid (∀ v, Env W LS v → Calls Tryz.prog 51 #[.pointer (some ⟨fb, 0, none⟩)] v fun o w' => o = .returned (.agg #[.int .i64 (T2.L 0).C, .int .i64 0]) ∧ Below v.heap.size v w') := Lib.hid fun v hv => by
              obtain ⟨g1, ps, D, nx, X, hps, hE1⟩ := bd_end HLV.out.2 (HBD.out _ hv)
              exact endWho (show H ≤ 1000 by omega) HH.out.1 hps hE1
            have HOU : Hid (∀ v, Env W LS v → Calls Tryz.prog 52 #[.pointer (some ⟨fb, 0, none⟩)] v fun o w' => o = .returned (.agg #[.int .u64 (T2.L 0).X, .int .i64 0, .bool false]) ∧ Below v.heap.size v w') := Lib.hid fun v hv => by
              obtain ⟨g1, ps, D, nx, X, hps, hE1⟩ := bd_end HLV.out.2 (HBD.out _ hv)
              exact endOut (show H ≤ 1000 by omega) HH.out.1 hps hE1
            have HAT : Hid (∀ (l : Nat), l < H → ∀ v, Env W LS v → Calls Tryz.prog 53 #[.pointer (some ⟨fb, 0, none⟩), .int .i64 (l : Int)] v fun o w' => o = .returned (.agg #[.int .i64 (T2.L l).p.1, .int .i64 (T2.L l).p.2.1, .int .i64 (T2.L l).p.2.2, .int .i64 0]) ∧ Below v.heap.size v w') := Lib.hid fun l hl v hv => by
              obtain ⟨g1, ps, D, nx, X, hps, hE1⟩ := bd_end HLV.out.2 (HBD.out _ hv)
              exact endAt (show H ≤ 1000 by omega) hps hE1 hl
            have HIN : Hid (∀ (l : Nat), l < H → ∀ v, Env W LS v → Calls Tryz.prog 54 #[.pointer (some ⟨fb, 0, none⟩), .int .i64 (l : Int)] v fun o w' => o = .returned (.agg #[.int .u64 (T2.L l).W, .int .i64 0, .bool false]) ∧ Below v.heap.size v w') := Lib.hid fun l hl v hv => by
              obtain ⟨g1, ps, D, nx, X, hps, hE1⟩ := bd_end HLV.out.2 (HBD.out _ hv)
              exact endInto (show H ≤ 1000 by omega) hps hE1 hl
            have HFA : Hid (∀ (l : Nat), l < H → ∀ v, Env W LS v → Calls Tryz.prog 55 #[.pointer (some ⟨fb, 0, none⟩), .int .i64 (l : Int)] v fun o w' => o = .returned (.bool (T2.L l).fd) ∧ w' = v) := Lib.hid fun l hl v hv => by
              obtain ⟨g1, ps, D, nx, X, hps, hE1⟩ := bd_end HLV.out.2 (HBD.out _ hv)
              exact endFound (show H ≤ 1000 by omega) hps hE1 hl
            have HATN : Hid (∀ (k : Int), (k < 0 ∨ (H : Int) ≤ k) → ∀ v, Env W LS v → Calls Tryz.prog 53 #[.pointer (some ⟨fb, 0, none⟩), .int .i64 k] v fun o w' => o = .returned (.agg #[.int .i64 0, .int .i64 0, .int .i64 0, .int .i64 0]) ∧ Below v.heap.size v w') := Lib.hid fun k hk v hv => by
              obtain ⟨g1, ps, D, nx, X, hps, hE1⟩ := bd_end HLV.out.2 (HBD.out _ hv)
              exact endAtNo k hk hE1
            have HINN : Hid (∀ (k : Int), (k < 0 ∨ (H : Int) ≤ k) → ∀ v, Env W LS v → Calls Tryz.prog 54 #[.pointer (some ⟨fb, 0, none⟩), .int .i64 k] v fun o w' => o = .returned (.agg #[.int .u64 0, .int .i64 0, .bool false]) ∧ Below v.heap.size v w') := Lib.hid fun k hk v hv => by
              obtain ⟨g1, ps, D, nx, X, hps, hE1⟩ := bd_end HLV.out.2 (HBD.out _ hv)
              exact endIntoNo k hk hE1
            have HFAN : Hid (∀ (k : Int), (k < 0 ∨ (H : Int) ≤ k) → ∀ v, Env W LS v → Calls Tryz.prog 55 #[.pointer (some ⟨fb, 0, none⟩), .int .i64 k] v fun o w' => o = .returned (.bool false) ∧ w' = v) := Lib.hid fun k hk v hv => by
              obtain ⟨g1, ps, D, nx, X, hps, hE1⟩ := bd_end HLV.out.2 (HBD.out _ hv)
              exact endFoundNo k hk hE1
            have HQC : Hid (∀ (l : Nat), l < H → ∀ v, Env W LS v → _) := Lib.hid fun l hl v hv => bd_q HLV.out.1 HLV.out.2 HH.out.2 (HBD.out _ hv) l hl
            obtain ⟨LT2, hLT⟩ : ∃ LT2, T2.L = LT2 := ⟨_, rfl⟩
            rw [hLT] at HFO HWO HOU HAT HIN HFA HQC
            have HQ0 : Hid (∀ v, Env W LS v → v.cell? ⟨q, 14, none⟩ = some (.bool (LT2 0).fd) ∧ v.cell? ⟨q, 13, none⟩ = some (.int .i64 (LT2 0).C) ∧ v.cell? ⟨q, 10, none⟩ = some (.int .u64 (LT2 0).X)) := Lib.hid fun v hv => by
              obtain ⟨-, -, -, -, d8, d11, d12⟩ := HQC.out 0 HH.out.1 v hv
              exact ⟨d12, d11, d8⟩
            clear hLT HBD HLV hHH hT hTe
            have hap := at_placeF
            have hws := who_slotF
            have hvw := val_wordF
            obtain ⟨fd0, hfd0⟩ : ∃ x, (LT2 0).fd = x := ⟨_, rfl⟩
            obtain ⟨C0, hC0⟩ : ∃ x, (LT2 0).C = x := ⟨_, rfl⟩
            obtain ⟨X0, hX0⟩ : ∃ x, (LT2 0).X = x := ⟨_, rfl⟩
            rw [hfd0] at HFO HQ0
            rw [hC0] at HWO HQ0
            rw [hX0] at HOU HQ0
            clear hfd0 hC0 hX0
            have h11 : (fd0 != fd0) = false := by simp
            have h12 : (C0 != C0) = false := by simp
            have h13 : (X0 != X0) = false := by simp
            go_wp2_with fail
            refine wp_text (S := (Env W LS)) (by kernel_rfl) (by kernel_rfl) hE.drew (fun hT => ?_)
            have hT9 := Lib.hid hT
            clear hT
            repeat (first
              | (refine text_value (v := ?_) hT9.out (by rfl) ?_ ?_; rotate_left; (focus (intro w5 hS; obtain ⟨d0, d1, d2⟩ := HQ0.out _ hS; go_simp <;> with_reducible rfl)); (try simp only [Act.put, List.setIfInBounds_toArray, List.set_cons_zero, List.set_cons_succ]))
              | (refine text_off hT9.out (by rfl) ?_; (try simp only [Act.put, List.setIfInBounds_toArray, List.set_cons_zero, List.set_cons_succ]))
              | (refine text_call (v := ?_) (f := ?_) (args := ?_) hT9.out (by rfl) ?_ ?_ ?_; rotate_left 3; (focus (intro w5 hS; obtain ⟨d0, d1, d2⟩ := HQ0.out _ hS; go_simp; constructor <;> with_reducible rfl)); (focus (intro w5 hS; (first | (with_reducible refine (HFO.out _ hS).mono ?_; rintro o w6 ⟨rfl, rfl⟩; constructor; with_reducible rfl; exact hS) | (with_reducible refine (HWO.out _ hS).mono ?_; rintro o w6 ⟨rfl, hb⟩; constructor; with_reducible rfl; exact hS.over hb) | (with_reducible refine (HOU.out _ hS).mono ?_; rintro o w6 ⟨rfl, hb⟩; constructor; with_reducible rfl; exact hS.over hb)))); (try simp only [Act.put, List.setIfInBounds_toArray, List.set_cons_zero, List.set_cons_succ])))
            refine InText.nil fun w5 hS5 => ?_
            clear hT9
            clear hE HFO HWO HOU HQ0 h11 h12 h13
            go_wp2_with fail
            go_loopw [18] (fun lv wr => ∃ l : Nat, lv = .int .i64 l ∧ l ≤ H ∧ Env W LS wr) (fun lv _ => H - (intOf lv).toNat)
            case atStart => exact ⟨0, rfl, Nat.zero_le _, hS5⟩
            case round =>
              clear hS5
              obtain ⟨l, rfl, hl, hE⟩ := hrel
              by_cases hlH : l < H
              · have hb3 : decide ((l : Int) < (H : Int)) = true := by simp; omega
                have hl16 : (l : Int) < 16 := by have := HH.out; omega
                have hl16' : l ≤ 16 := by have := HH.out; omega
                have HAT1 := Lib.hid (HAT.out l hlH)
                have HIN1 := Lib.hid (HIN.out l hlH)
                have HFA1 := Lib.hid (HFA.out l hlH)
                have HQ1 := Lib.hid (HQC.out l hlH)
                obtain ⟨Lx, hLx⟩ : ∃ Lx, LT2 l = Lx := ⟨_, rfl⟩
                rw [hLx] at HAT1 HIN1 HFA1 HQ1
                clear hLx
                obtain ⟨⟨x, y, z⟩, pc9, W9, X9, K9, V9, C9, fd9⟩ := Lx
                dsimp only at HAT1 HIN1 HFA1 HQ1
                have h11 : (fd9 != fd9) = false := by simp
                have h12 : (W9 != W9) = false := by simp
                go_wp2_with fail
                refine wp_text (S := (Env W LS)) (by kernel_rfl) (by kernel_rfl) hE.drew (fun hT => ?_)
                have hT9 := Lib.hid hT
                clear hT
                repeat (first
                  | (refine text_value (v := ?_) hT9.out (by rfl) ?_ ?_; rotate_left; (focus (intro w5 hS; obtain ⟨d0, d1, d2, d7, d8, d11, d12⟩ := HQ1.out _ hS; go_simp <;> with_reducible rfl)); (try simp only [Act.put, List.setIfInBounds_toArray, List.set_cons_zero, List.set_cons_succ]))
                  | (refine text_off hT9.out (by rfl) ?_; (try simp only [Act.put, List.setIfInBounds_toArray, List.set_cons_zero, List.set_cons_succ]))
                  | (refine text_call (v := ?_) (f := ?_) (args := ?_) hT9.out (by rfl) ?_ ?_ ?_; rotate_left 3; (focus (intro w5 hS; obtain ⟨d0, d1, d2, d7, d8, d11, d12⟩ := HQ1.out _ hS; go_simp; constructor <;> with_reducible rfl)); (focus (intro w5 hS; (first | (with_reducible refine (HAT1.out _ hS).mono ?_; rintro o w6 ⟨rfl, hb⟩; constructor; with_reducible rfl; exact hS.over hb) | (with_reducible refine (HIN1.out _ hS).mono ?_; rintro o w6 ⟨rfl, hb⟩; constructor; with_reducible rfl; exact hS.over hb) | (with_reducible refine (HFA1.out _ hS).mono ?_; rintro o w6 ⟨rfl, rfl⟩; constructor; with_reducible rfl; exact hS)))); (try simp only [Act.put, List.setIfInBounds_toArray, List.set_cons_zero, List.set_cons_succ])))
                refine InText.nil fun w5 hS5 => ?_
                clear hT9
                clear hE
                go_wp2_with fail
                exact ⟨⟨l + 1, by simp, by omega, hS5⟩, by simp [intOf]; omega⟩
              · have hlq : l = H := by omega
                subst hlq
                have hb3 : decide ((l : Int) < (l : Int)) = false := by simp
                have HA1 := Lib.hid (HATN.out (l : Int) (.inr (Int.le_refl _)))
                have HA2 := Lib.hid (HATN.out (-1) (.inl (by decide)))
                have HI1 := Lib.hid (HINN.out (l : Int) (.inr (Int.le_refl _)))
                have HF1 := Lib.hid (HFAN.out (l : Int) (.inr (Int.le_refl _)))
                have HF2 := Lib.hid (HFAN.out (-1) (.inl (by decide)))
                clear HATN HINN HFAN HAT HIN HFA HQC
                go_wp2_with (first
                  | (with_reducible refine (HA1.out _ hE).mono ?_; rintro o w8 ⟨rfl, hb⟩; replace hE := hE.over hb; clear hb)
                  | (with_reducible refine (HA2.out _ hE).mono ?_; rintro o w8 ⟨rfl, hb⟩; replace hE := hE.over hb; clear hb)
                  | (with_reducible refine (HI1.out _ hE).mono ?_; rintro o w8 ⟨rfl, hb⟩; replace hE := hE.over hb; clear hb)
                  | (with_reducible refine (HF1.out _ hE).mono ?_; rintro o w8 ⟨rfl, rfl⟩)
                  | (with_reducible refine (HF2.out _ hE).mono ?_; rintro o w8 ⟨rfl, rfl⟩)
                  | (with_reducible refine (HMEM.out _ hE).mono ?_; rintro o w8 ⟨rfl, hE9⟩; replace hE := hE9; clear hE9))
                go_ret
                exact ⟨rfl, hE.below⟩
    · have hb1 : decide ((j : Int) < 400) = false := by simp; omega
      have hme := Lib.hid (bd_memory (by omega) (by omega) hB)
      go_wp2_with fail
      refine hme.out.mono ?_
      rintro o w13 ⟨rfl, hB2⟩
      go_wp2_with fail
      go_ret
      exact ⟨rfl, hB2.below⟩
end Go.Proofs.YtnnjanaclgjneaaGreatDoor

/- What the condition on the package's variables gives: the three fields stand in them; and that the program's own start meets it. -/
namespace Go.Proofs.YtnnjanaclgjneaaGreatDoor
open Go.ChangeShapes Go.WideShapes Go.ChangeAt Go.RowKit
set_option maxRecDepth 100000

section
variable {P : Program} {w : World}
theorem cell_lt {b o : Nat} {v : Value} (h : w.cell? ⟨b, o, none⟩ = some v) : b < w.heap.size := by
  rcases Nat.lt_or_ge b w.heap.size with h' | h'
  · exact h'
  · simp [World.cell?, Array.getElem?_eq_none h'] at h
/-- The head of a list of laid variables: a struct of two ints. -/
theorem laid_pair {n : String} {g : Nat} {t k : TypeId} {f0 f1 : Field} {a b : Int} {r : List (String × DataW Unit)} {ps : List MemPlace}
    (h : DataW.LaidVars P w ((n, .agg [.lit (.int .i64 a), .lit (.int .i64 b)]) :: r) ps) (hg : P.globalNamed n = some g) (ht : (P.globals[g]?).map (·.type) = some t)
    (hs : P.underlying t = some (.struct #[f0, f1])) (hc : P.cellsOf t = 2) (h0 : f0.offset = 0) (h1 : f1.offset = 1) (hk0 : f0.type = k) (hk1 : f1.type = k) (hk : P.cellsOf k = 1) (hi : P.underlying k = some (.int .i64)) :
    w.cell? ⟨g, 0, none⟩ = some (.int .i64 a) ∧ w.cell? ⟨g, 1, none⟩ = some (.int .i64 b) ∧ ∃ q, DataW.LaidVars P w r q := by
  obtain ⟨g', t', cs, fuel, p, q, hg', ht', hv, hd, hr, -⟩ := h
  obtain rfl := Option.some.inj (hg.symm.trans hg')
  obtain rfl := Option.some.inj (ht.symm.trans ht')
  obtain ⟨xs, m, -, hx, hl, hn, hel⟩ := DataW.trod_struct hs hd
  have e0 := hel 0 f0 rfl
  have e1 := hel 1 f1 rfl
  rw [h0, hk0, hk] at e0
  rw [h1, hk1, hk] at e1
  obtain ⟨l⟩ := cs
  rw [hc] at hl
  match l, hl, xs, hn, hx, e0, e1, hv with
  | [c0, c1], _, [x0, x1], _, hx, e0, e1, hv =>
    simp only [Prod.mk.injEq, List.map_cons, List.map_nil, DataW.agg.injEq, List.cons.injEq] at hx
    obtain ⟨n0, s0, y0, -⟩ := DataW.trod_int hi (show DataW.trod _ P w 0 _ false m k [c0] = some x0 from e0)
    obtain ⟨n1, s1, y1, -⟩ := DataW.trod_int hi (show DataW.trod _ P w 0 _ false m k [c1] = some x1 from e1)
    simp at s0 s1
    subst s0 s1
    have k0 := hx.1.1
    have k1 := hx.1.2.1
    rw [y0] at k0
    rw [y1] at k1
    simp at k0 k1
    subst k0 k1
    exact ⟨by rw [World.var?_cell hg hv 0]; rfl, by rw [World.var?_cell hg hv 1]; rfl, q, hr⟩
end

def laid3 : List (String × DataW Unit) := [("revenant/link.versionPart", Rows.laid_revenant_link_versionPart), ("revenant/link.slotPart", Rows.laid_revenant_link_slotPart), ("revenant/link.markPart", Rows.laid_revenant_link_markPart)]

/-- What the condition gives the walks. -/
theorem glo_of_laid {W : World} (h : laidMetH Tryz.prog laid3 W) : Glo W := by
  rw [MakeChecks.laidMetH_plain _ _ _ (by kernel_rfl)] at h
  obtain ⟨ps, h, -, -⟩ := h
  obtain ⟨a0, a1, q1, h⟩ := laid_pair (g := 2) (t := 210) (k := 3) h (by kernel_rfl) (by kernel_rfl) Tryz.underlying210 (by kernel_rfl) rfl rfl rfl rfl (by kernel_rfl) Tryz.underlying3
  obtain ⟨b0, b1, q2, h⟩ := laid_pair (g := 0) (t := 210) (k := 3) h (by kernel_rfl) (by kernel_rfl) Tryz.underlying210 (by kernel_rfl) rfl rfl rfl rfl (by kernel_rfl) Tryz.underlying3
  obtain ⟨c0, c1, q3, h⟩ := laid_pair (g := 1) (t := 210) (k := 3) h (by kernel_rfl) (by kernel_rfl) Tryz.underlying210 (by kernel_rfl) rfl rfl rfl rfl (by kernel_rfl) Tryz.underlying3
  exact ⟨⟨a0, a1⟩, ⟨b0, b1⟩, ⟨c0, c1⟩, cell_lt a0, cell_lt b0, cell_lt c0⟩

/-- The program's own start meets the condition. -/
theorem door_met (os : Os) (args : Array Value) : laidMetH Tryz.prog laid3 ((World.doorLaid Tryz.prog 24 os).forCall (fun _ _ => 0) ⟨#[], args, []⟩).memory :=
  laidMetH_of_parts3 (fuel := 8) (laidMet_of_run' 8 (by kernel_rfl) (by kernel_rfl)) (by kernel_rfl) (by kernel_rfl)
end Go.Proofs.YtnnjanaclgjneaaGreatDoor

namespace Go.Proofs.YtnnjanaclgjneaaGreatDoor.towerExact
open Go.ChangeShapes Go.WideShapes Go.ChangeAt Go.RowKit Go.Joins Go.Maps
set_option maxRecDepth 100000

theorem walk (xs : List NtI) (A : Option Addr) (cap : Nat) (hl0 : xs.length ≤ 2 ^ 63 - 1) (h0 key : Int) (zs : List ActU) (A2 : Option Addr) (cap2 : Nat) (hz0 : zs.length ≤ 2 ^ 63 - 1) (W : World) (hok : ∀ r ∈ xs, OkNtI r) (hrow : RowX encNtI 4 W A xs) (hok2 : ∀ r ∈ zs, OkActU r) (hrow2 : RowX encActU 5 W A2 zs) (hg : Glo W) :
    Calls Tryz.prog 9 #[.slice A xs.length cap, .int .i64 h0, .int .u64 key, .slice A2 zs.length cap2] W fun e w' => e = .returned (.bool true) ∧ Below W.heap.size W w' := exact_t W hg xs A cap hl0 h0 key zs A2 cap2 hz0 hok hrow hok2 hrow2

theorem own : ownKnob Tryz.prog.godebug = none := by kernel_rfl
theorem laidOut : laidOutB Tryz.prog = true := by kernel_rfl

set_option maxRecDepth 100000 in
theorem lifted (os : Os) (started : os.Started) (H : Type) (enc : TypeId × Value → H) :
    ReturnsInHanded {} Tryz.checked os 9 .any (fun w args => (Rows.towerExactSpec.pre enc Tryz.prog Tryz.f9 [] false w args ∧ laidMetH Tryz.prog laid3 w) ∧ sizedMet enc Tryz.prog Tryz.f9 (OpenSpec.ofChange Rows.towerExactSpec) false w args)
      (Rows.towerExactSpec.post enc Tryz.prog Tryz.f9 false true false false) := by
  refine returnsInHanded_of_change_and (C := Tryz.checked) (X := fun w _ => laidMetH Tryz.prog laid3 w) (fun _ _ _ hh h => h.of_heap hh) own started (by kernel_rfl) Tryz.func9
    (ChangeSpec.witness_shaped (enc := enc) (C := Tryz.checked) (os := os) (X := fun w _ => laidMetH Tryz.prog laid3 w) false (World.doorLaid Tryz.prog 24 os) #[.slice none 0 0, .int .i64 0, .int .u64 0, .slice none 0 0] 8 rfl (World.shaped_of_RefB (by kernel_rfl) (by kernel_rfl)) (by kernel_rfl) (by kernel_rfl) (by kernel_rfl) (door_met os _)) ?_
  intro W base args ds gs before hval0 hW _ _ hL _
  have hval : ∀ (j : Nat) t v, Tryz.f9.params[j]? = some t → args[j]? = some v → Value.okWide Tryz.prog W .any base t v := hval0
  have hW' := hW
  obtain ⟨p, q, hA0, hV, rfl, hfz, hnd⟩ := hW
  have hA : DataW.TrodAll enc Tryz.prog W 0 (fun _ => true) true Tryz.f9.params.toList args.toList ds p := hA0
  rw [Tryz.params9] at hA hval
  obtain ⟨v0, vs0, d0, ds0, p0, q0, hargs, rfl, rfl, g0, r0⟩ := trodAll_cons hA
  obtain ⟨v1, vs1, d1, ds1, p1, q1, rfl, rfl, rfl, g1, r1⟩ := trodAll_cons r0
  obtain ⟨v2, vs2, d2, ds2, p2, q2, rfl, rfl, rfl, g2, r2⟩ := trodAll_cons r1
  obtain ⟨v3, vs3, d3, ds3, p3, q3, rfl, rfl, rfl, g3, r3⟩ := trodAll_cons r2
  obtain ⟨rfl, rfl, rfl⟩ := trodAll_nil r3
  obtain rfl : args = #[v0, v1, v2, v3] := by cases args; simp_all
  obtain ⟨rfl, rfl⟩ := trodVars_none hV
  obtain ⟨a1, rfl, rfl, rfl, w1⟩ := open_int Tryz.underlying3 (hval 1 3 v1 rfl rfl) g1
  have h1 := i64_in w1
  obtain ⟨a2, rfl, rfl, rfl, w2⟩ := open_int Tryz.underlying48 (hval 2 48 v2 rfl rfl) g2
  have h2 := u64_in w2
  obtain ⟨A0, n0, cap0, rfl⟩ := okWide_slice Tryz.underlying88 (hval 0 88 v0 rfl rfl)
  obtain ⟨zs0, rfl, h0, w0, row0⟩ := open_NtI g0 (fun x hx => hW'.lt x (by simp [hx]))
  unfold maxLen at h0
  obtain ⟨A3, n3, cap3, rfl⟩ := okWide_slice Tryz.underlying89 (hval 3 89 v3 rfl rfl)
  obtain ⟨zs3, rfl, h3, w3, row3⟩ := open_ActU g3 (fun x hx => hW'.lt x (by simp [hx]))
  unfold maxLen at h3
  clear hA0 hval0
  have hG := glo_of_laid hL
  refine (walk zs0 A0 cap0 h0 a1 a2 zs3 A3 cap3 h3 W w0 row0 w3 row3 hG).mono fun e W' ⟨he, hg⟩ => ?_
  subst he
  exact ⟨_, rfl, law_post laidOut (by kernel_rfl) (by kernel_rfl) Tryz.underlying4 rfl rfl hW' hg⟩

set_option maxHeartbeats 25600000 in
theorem closedR : joinedFacts Tryz.pinned.checked.prog 9 Tryz.f9 Rows.towerExactSpec Rows.towerExactRow = true := by
  unfold joinedFacts
  simp only [Bool.and_eq_true]
  repeat' (refine And.intro ?_ ?_)
  all_goals (as_aux_lemma => kernel_rfl)


theorem over : Rows.towerExactRow.holds Tryz.pinned (OpenSpec.ofChange Rows.towerExactSpec) :=
  OpenClaim.holds_of_wide 9 Tryz.f9 rfl rfl rfl rfl rfl rfl rfl ⟨rfl, rfl, rfl, rfl, rfl⟩ rfl rfl rfl rfl rfl (by kernel_rfl) Tryz.func9 closedR
    (of_decide_eq_true (by kernel_rfl)) (by unfold Func.isWrapper; first | (rw [if_pos (by decide +kernel)]; kernel_rfl) | (rw [if_neg (by decide +kernel)]; exact ⟨rfl, rfl⟩))
    (fun os started H enc _ => lifted os started H enc)

/-- THE STATEMENT. -/
theorem proved : Rows.TowerExactCardSaid :=
  Claim7.holds_tied_plain_at .later [] [.wider, .wider, .wider] true _ true
    over (fun _ h => by cases h) (by kernel_rfl) (fun _ h => by cases h) towerExact_row_tie rfl ⟨rfl, rfl⟩ (by kernel_rfl) rfl
    (fun f fn hf hfn => by
      obtain rfl : f = 9 := Option.some.inj ((show Tryz.prog.funcNamed "revenant/revenantlaw18.TowerExact" = some 9 by kernel_rfl).symm.trans hf) |>.symm
      obtain rfl : fn = Tryz.f9 := (Option.some.inj (Tryz.func9.symm.trans hfn)).symm
      exact ⟨by kernel_rfl, fun j t ht => by
        rw [Tryz.params9] at ht
        have hm : t ∈ [88, 3, 48, 89] := by simpa using Array.mem_of_getElem? ht
        have hall : ([88, 3, 48, 89].all fun u => !Tryz.prog.wantsStandIn u) = true := by kernel_rfl
        exact (show Tryz.prog.wantsStandIn t = false by simpa using List.all_eq_true.1 hall t hm)⟩)
    (by kernel_rfl)
#print axioms proved
end Go.Proofs.YtnnjanaclgjneaaGreatDoor.towerExact
