/- Souls: Slots: a map's keys, sorted. -/
import Derived.Test.YtlefhcaoblenaaaSoulC
import Derived.Test.YtlefhcaoblenaaaShelfS
namespace Go.Proofs.Ytlefhcaoblenaaa
open Go.RowKit Go.Maps Go.Sort Go.Shelf

theorem sortsA (m : Nat) : AnyZI.SortsIn Try.prog Try.sortedA_ren Fence.wide m :=
  ⟨fun blk off cap ss W hH hblk hsz => callsIn_wide.2 (AnyM.slices_Sort_int Try.sortA blk off cap ss W hH hblk hsz),
   fun p cap W => callsIn_wide.2 (AnyM.slices_Sort_int_none Try.sortA p cap W)⟩

theorem keys_any (mb : Option Nat) (W : World) : Calls Try.prog 21 #[.map mb] W fun e w' => e = .returned (.func (.func 24) #[] #[.pointer (some ⟨W.heap.size, 0, none⟩)]) ∧ w' = W.alloc (.cells #[.map mb] 38) :=
  (callsIn_wide (n := 6)).1 (AnyZI.keys_in Try.keysA Fence.wide 6 trivial rfl mb W)

/-- The map's keys, out of what its datum says. -/
theorem keys_slots {P : Program} {k : TypeId} {R : Value → Option (DataW Unit × List MemPlace)} {w : World} {b n : Nat} {D : DataW Unit} {l ss : List Int} (hown : w.ownsMap P k R b n D) (K : Keyed P k) (hk : P.underlying k = some (.int .i64)) (hr : ReadsG D l) (hp : ss.Perm (intKeys D)) :
    SlotsOf l (ss.mergeSort fun x y => decide (x ≤ y)) := by
  obtain ⟨es, hD, hpw, _⟩ := hown.entries K
  obtain ⟨es', hD', hko⟩ := hown.keysOf
  obtain rfl : es = es' := by rw [hD] at hD'; simpa using hD'
  subst hD
  have h1 := perm_intKeys hpw (fun p hp => by obtain ⟨v, hv⟩ := hko p hp; obtain ⟨x, _, hx, _⟩ := Maps.keyOf_i64 hk hv; exact ⟨x, hx⟩) (ss := each l) (each_spec l).1 (fun x => by rw [hr.has' x, (each_spec l).2 x]; simp)
  have h2 : (ss.mergeSort fun x y => decide (x ≤ y)).Perm (each l) := (List.mergeSort_perm _ _).trans (hp.trans h1.symm)
  refine ⟨?_, fun x => (h2.mem_iff).trans ((each_spec l).2 x)⟩
  have hnd : (ss.mergeSort fun x y => decide (x ≤ y)).Nodup := h2.nodup_iff.2 (each_spec l).1
  have hs : (ss.mergeSort fun x y => decide (x ≤ y)).Pairwise fun a b => decide (a ≤ b) = true := List.pairwise_mergeSort (fun a b c h1 h2 => by simp only [decide_eq_true_eq] at *; omega) (fun a b => by simp only [Bool.or_eq_true, decide_eq_true_eq]; omega) ss
  refine (hs.and hnd).imp fun {a b} h => ?_
  obtain ⟨h1, h2⟩ := h
  simp only [decide_eq_true_eq] at h1
  omega

set_option maxHeartbeats 1600000 in
theorem slots_any {s : Nat} {F : Nat → Prop} {l : List Int} {w : World} (hl : l.length ≤ 1000000) (hS : IsS w s F l) :
    Calls Try.prog 17 #[.pointer (some ⟨s, 0, none⟩)] w fun e w' => ∃ A cap m, e = .returned (.slice A m.length cap) ∧ SlotsOf l m ∧ w'.ownsRow w.heap.size 3 1 (.slice A m.length cap) m.length (ints m) ∧ Below w.heap.size w w' := by
  obtain ⟨v, mp, G, hb, ho, hm, _⟩ := hS
  have r := hb.rule
  have hsl := hb.1
  have cS : Calls Try.prog 20 #[.func (.func 24) #[] #[.pointer (some ⟨w.heap.size, 0, none⟩)]] (w.alloc (.cells #[.map mp] 38)) fun e w' => ∃ (v : Value) (ss : List Int), e = .returned v ∧ SlotsOf l (ss.mergeSort fun x y => decide (x ≤ y)) ∧
      w'.ownsRow (w.alloc (.cells #[.map mp] 38)).heap.size 3 1 v ss.length ((ss.mergeSort (fun x y => decide (x ≤ y))).map encZ) ∧ (v = .slice none 0 0 ↔ ss = []) ∧ Below (w.alloc (.cells #[.map mp] 38)).heap.size (w.alloc (.cells #[.map mp] 38)) w' := by
    refine (callsIn_wide (n := 6)).1 ?_
    rcases hm with ⟨rfl, rfl, _⟩ | ⟨b, rfl, D, hown, hr, _⟩
    · have hseq : SeqGives Fence.wide 3 Try.prog 24 #[.pointer (some ⟨w.heap.size, 0, none⟩)] encZ (fun ss : List Int => ss = []) 0 (w.alloc (.cells #[.map none] 38)) :=
        AnyZI.keys_gives_nil (ρ := Try.keysA_ren) { Try.keysA with } Fence.wide _ trivial rfl w.heap.size _ (by simp) (by simp)
      have c := AnyZI.sorted_in Try.sortedA Fence.wide 6 trivial trivial trivial trivial rfl (by omega) (sortsA _) (enters_of Try.func23 (by kernel_rfl) rfl) 24 #[.pointer (some ⟨w.heap.size, 0, none⟩)] trivial (enters_of Try.func24 (by kernel_rfl) rfl) _ 0 (Nat.zero_le _) (by omega) _ hseq
      refine CallsIn.mono c fun e w' ⟨v, ss, h1, h2, h3⟩ => ⟨v, ss, h1, ?_, h3⟩
      subst h2
      rw [show ([] : List Int).mergeSort (fun x y => decide (x ≤ y)) = [] by simp]
      exact ⟨List.Pairwise.nil, fun x => Iff.rfl⟩
    · have hM : w.ownsMap Try.prog 3 (rowElem (H := Unit) w (b + 1) 3 .i64) b l.length D := by
        obtain ⟨es, clock, hb, F, hs, hD, _⟩ := hown
        exact ⟨es, clock, hb, F, hs, hD⟩
      have hsz := hM.size_le
      have hseq : SeqGives Fence.wide 3 Try.prog 24 #[.pointer (some ⟨w.heap.size, 0, none⟩)] encZ (fun ss => ss.Perm (intKeys D)) (Maps.size D) (w.alloc (.cells #[.map (some b)] 38)) :=
        AnyZI.keys_gives (ρ := Try.keysA_ren) { Try.keysA with } Fence.wide _ trivial rfl (by omega) w.heap.size b l.length D _ (by simp) (by simp) (hM.alloc _)
      have c := AnyZI.sorted_in Try.sortedA Fence.wide 6 trivial trivial trivial trivial rfl (by omega) (sortsA _) (enters_of Try.func23 (by kernel_rfl) rfl) 24 #[.pointer (some ⟨w.heap.size, 0, none⟩)] trivial (enters_of Try.func24 (by kernel_rfl) rfl) _ (Maps.size D) (by unfold maxLen; omega) (by omega) _ hseq
      exact CallsIn.mono c fun e w' ⟨v, ss, h1, h2, h3⟩ => ⟨v, ss, h1, keys_slots hM keyedI Try.underlying3 hr h2, h3⟩
  clear hm ho hb
  go_enter Try.func17, Try.ntmps17
  go_wp2_with fail
  refine (keys_any mp w).mono ?_
  rintro e w1 ⟨rfl, rfl⟩
  go_wp2_with fail
  refine cS.mono ?_
  rintro e w2 ⟨v, ss, rfl, h1, h2, _, h4⟩
  clear cS
  go_wp2
  go_ret
  have hlen : (ss.mergeSort fun x y => decide (x ≤ y)).length = ss.length := (List.mergeSort_perm _ _).length_eq
  rw [← hlen] at h2
  obtain ⟨A, cap, rfl⟩ := ownsRow_slice h2
  exact ⟨A, cap, _, rfl, h1, ownsRow_base h2 (by simp), ((Below.refl _ _).alloc (Nat.le_refl _) _).trans (h4.mono (by simp))⟩
end Go.Proofs.Ytlefhcaoblenaaa
