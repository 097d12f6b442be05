/- What is proved on the way to the statement, part 10 of 11: contracts of the functions, among other things in memory. -/
import Derived.Test.YtchcdfoncebemaaGreatDoorH9
import Derived.LoopIn
import Derived.Test.YtchcdfoncebemaaGreatDoorTie
import Derived.LaidMore
import Derived.Stop.Joined

/- A search alone, by plain mathematics: each step. -/
namespace Go.Proofs.YtchcdfoncebemaaGreatDoor
open Go.RowKit Go.Maps
set_option maxRecDepth 100000

/-- It comes to a link. -/
theorem come_al {k key : Int} {vs : Bool} {L : Lm} {f : Plc → Int} {ds ns : List Nd} {W : Int} (hl : Lies f k L.p ds ns) (hW : W = f L.p) (hfd : L.fd = false) :
    ((comeM L W).1 = 0 ∧ La k key (comeM L W).2 f ds ns (5 * ns.length + 3)) ∨ ((comeM L W).1 = 1 ∧ AlEnd k key vs (comeM L W).2 f (Left key ds ns)) := by
  match ns, hl with
  | [], hl =>
    right
    have h0 : slotI W = 0 := by rw [hW]; exact hl.ch
    unfold comeM
    rw [if_pos h0]
    exact ⟨rfl, hl.seg.sl hl.ch.sl, hfd, fun _ h => absurd (h.symm.trans hfd) (by simp)⟩
  | n :: r, hl =>
    left
    have h1 : slotI W = n.s := by rw [hW]; exact hl.ch.1
    have h2 := (hl.rg n (List.mem_append_right _ (List.mem_cons_self ..))).1
    unfold comeM
    rw [if_neg (by rw [h1]; omega)]
    exact ⟨rfl, hl, .inr (.inr ⟨hW, n, r, rfl, h1, .inl ⟨rfl, rfl⟩⟩)⟩
theorem Left.marked {key : Int} {ds r : List Nd} {n : Nd} (h : n.mb = true) : Left key ds (n :: r) = Left key ds r := by simp [Left, wantN, hitN, h]
theorem Left.passed {key : Int} {ds r : List Nd} {n : Nd} (h : n.mb = false) (hk : n.key < key) : Left key ds (n :: r) = Left key (ds ++ [n]) r := by simp [Left, wantN, hitN, h, hk]
theorem Left.hit {key : Int} {ds r : List Nd} {n : Nd} (h : n.mb = false) (hk : ¬ n.key < key) : Left key ds (n :: r) = (ds ++ n :: r, some n) := by simp [Left, wantN, hitN, h, hk]
theorem okB_of {f : Plc → Int} (h : f (1, 0, 0) = 9) : okB (f (1, 0, 0)) 9 = true := by rw [h]; decide

theorem la_step {k key : Int} {vs : Bool} {L : Lm} {f : Plc → Int} {ds ns : List Nd} {mu : Nat} (hL : LmOk L) (h : La k key L f ds ns mu) :
    ((laneM 0 key vs 9 L f).1 = 0 ∧ ∃ ds' ns' mu', La k key (laneM 0 key vs 9 L f).2.1 (laneM 0 key vs 9 L f).2.2 ds' ns' mu' ∧ mu' < mu ∧ Left key ds' ns' = Left key ds ns) ∨
    ((laneM 0 key vs 9 L f).1 = 1 ∧ AlEnd k key vs (laneM 0 key vs 9 L f).2.1 (laneM 0 key vs 9 L f).2.2 (Left key ds ns)) := by
  obtain ⟨hl, h⟩ := h
  have hok := okB_of hl.ep
  rcases h with ⟨hpc, hds, hmk, hmu⟩ | ⟨hpc, hds, hmk, hW, hmu⟩ | ⟨hW, n, r, hns, hC, h⟩
  · have hM : laneM 0 key vs 9 L f = (0, { L with W := f L.p, pc := 2 }, f) := by simp [laneM, hpc]
    rw [hM]
    exact .inl ⟨rfl, ds, ns, 5 * ns.length + 4, ⟨hl, .inr (.inl ⟨rfl, hds, hmk, rfl, rfl⟩)⟩, by omega, rfl⟩
  · have hM : laneM 0 key vs 9 L f = ((comeM L L.W).1, (comeM L L.W).2, f) := by
      have : markB L.W = false := by rw [hW]; exact hmk
      simp [laneM, holdsM, hpc, hok, this]
    rw [hM]
    rcases come_al (key := key) (vs := vs) hl hW (hL.fd (by omega)) with ⟨h1, h2⟩ | ⟨h1, h2⟩
    · exact .inl ⟨h1, ds, ns, _, h2, by omega, rfl⟩
    · exact .inr ⟨h1, h2⟩
  · subst hns
    have hch := hl.ch
    obtain ⟨c1, c2, c3, c4, c5⟩ := hch
    have hlk : ((5, L.C, 7 + 0) : Plc) = lkP n.s := by rw [hC]; rfl
    rcases h with ⟨hpc, hmu⟩ | ⟨hpc, hX, hmu⟩ | ⟨hpc, hX, hmb, hmu⟩ | ⟨hpc, hX, hmb, hmu⟩ | ⟨hpc, hX, hmb, hK, hmu⟩ | ⟨hpc, hmb, hk, hmu⟩ | ⟨hpc, hmb, hk, hV, hmu⟩
    · have hM : laneM 0 key vs 9 L f = (0, { L with X := f (lkP n.s), pc := 4 }, f) := by rw [← hlk]; simp [laneM, hpc]
      rw [hM]
      exact .inl ⟨rfl, ds, n :: r, _, ⟨hl, .inr (.inr ⟨hW, n, r, rfl, hC, .inr (.inl ⟨rfl, rfl, rfl⟩)⟩)⟩, by omega, rfl⟩
    · have hM : laneM 0 key vs 9 L f = (0, { L with pc := if markB L.X then 5 else 6 }, f) := by simp [laneM, holdsM, hpc, hok]
      rw [hM]
      have hm2 : markB L.X = n.mb := by rw [hX]; exact c4
      rw [hm2]
      cases hmb : n.mb
      · exact .inl ⟨rfl, ds, n :: r, 5 * (n :: r).length + 1, ⟨hl, .inr (.inr ⟨hW, n, r, rfl, hC, .inr (.inr (.inr (.inl ⟨by simp, hX, hmb, rfl⟩)))⟩)⟩, by omega, rfl⟩
      · exact .inl ⟨rfl, ds, n :: r, 5 * (n :: r).length + 1, ⟨hl, .inr (.inr ⟨hW, n, r, rfl, hC, .inr (.inr (.inl ⟨by simp, hX, hmb, rfl⟩))⟩)⟩, by omega, rfl⟩
    · obtain ⟨v, hv⟩ : ∃ v, wordI false (slotI L.X) 9 = v := ⟨_, rfl⟩
      have hM : laneM 0 key vs 9 L f = ((comeM L v).1, (comeM L v).2, upd f L.p v) := by
        rw [← hv]
        simp [laneM, hpc, hW, swf]
      rw [hM]
      have hsv : slotI v = slotI (f (lkP n.s)) := by
        rw [← hv, hX]
        exact slot_word (isL_mk (slotI_in _).1 (slotI_in _).2 (by decide) (by decide))
      have hl2 := hl.cut hsv
      have hlen : (n :: r).length = r.length + 1 := rfl
      rcases come_al (key := key) (vs := vs) hl2 (upd_same f L.p v).symm (hL.fd (by omega)) with ⟨h1, h2⟩ | ⟨h1, h2⟩
      · exact .inl ⟨h1, ds, r, _, h2, by omega, (Left.marked hmb).symm⟩
      · exact .inr ⟨h1, by rw [Left.marked hmb]; exact h2⟩
    · have hM : laneM 0 key vs 9 L f = (0, { L with K := n.key, pc := 7 }, f) := by rw [← c2, ← hC]; simp [laneM, hpc]
      rw [hM]
      exact .inl ⟨rfl, ds, n :: r, _, ⟨hl, .inr (.inr ⟨hW, n, r, rfl, hC, .inr (.inr (.inr (.inr (.inl ⟨rfl, hX, hmb, rfl, rfl⟩))))⟩)⟩, by omega, rfl⟩
    · have hlen : (n :: r).length = r.length + 1 := rfl
      by_cases hlt : n.key < key
      · have hM : laneM 0 key vs 9 L f = ((comeM { L with p := lkP n.s } L.X).1, (comeM { L with p := lkP n.s } L.X).2, f) := by
          rw [← hlk]
          simp [laneM, holdsM, hpc, hok, hK, hlt]
        rw [hM]
        have hl2 : Lies f k ({ L with p := lkP n.s } : Lm).p (ds ++ [n]) r := hl.pass
        rcases come_al (key := key) (vs := vs) (L := { L with p := lkP n.s }) hl2 hX (hL.fd (by omega)) with ⟨h1, h2⟩ | ⟨h1, h2⟩
        · exact .inl ⟨h1, ds ++ [n], r, _, h2, by omega, (Left.passed hmb hlt).symm⟩
        · exact .inr ⟨h1, by rw [Left.passed hmb hlt]; exact h2⟩
      · have hsl : Sl f (4, 0, k) (ds ++ n :: r) := hl.seg.sl hl.ch.sl
        by_cases heq : n.key = key
        · cases vs
          · have hM : laneM 0 key false 9 L f = (1, { L with fd := true }, f) := by simp [laneM, holdsM, hpc, hok, hK, heq]
            rw [hM, Left.hit hmb hlt]
            exact .inr ⟨rfl, hsl, by simp [fdN, heq], fun h => absurd h (by simp)⟩
          · have hM : laneM 0 key true 9 L f = (0, { L with fd := true, pc := 8 }, f) := by simp [laneM, holdsM, hpc, hok, hK, heq]
            rw [hM]
            exact .inl ⟨rfl, ds, n :: r, _, ⟨hl, .inr (.inr ⟨hW, n, r, rfl, hC, .inr (.inr (.inr (.inr (.inr (.inl ⟨rfl, hmb, heq, rfl⟩)))))⟩)⟩, by omega, rfl⟩
        · have hM : laneM 0 key vs 9 L f = (1, L, f) := by simp [laneM, holdsM, hpc, hok, hK, hlt, heq]
          rw [hM, Left.hit hmb hlt]
          have hf := hL.fd (by omega)
          exact .inr ⟨rfl, hsl, by simp [fdN, heq, hf], fun _ h => absurd (h.symm.trans hf) (by simp)⟩
    · have hlen : (n :: r).length = r.length + 1 := rfl
      have hM : laneM 0 key vs 9 L f = (0, { L with V := n.val, pc := 9 }, f) := by rw [← c3, ← hC]; simp [laneM, hpc]
      rw [hM]
      exact .inl ⟨rfl, ds, n :: r, _, ⟨hl, .inr (.inr ⟨hW, n, r, rfl, hC, .inr (.inr (.inr (.inr (.inr (.inr ⟨rfl, hmb, hk, rfl, rfl⟩)))))⟩)⟩, by omega, rfl⟩
    · have hM : laneM 0 key vs 9 L f = (1, L, f) := by simp [laneM, holdsM, hpc, hok]
      rw [hM, Left.hit hmb (by omega)]
      have hf := hL.ft (by omega)
      exact .inr ⟨rfl, hl.seg.sl hl.ch.sl, by simp [fdN, hk, hf], fun _ _ => hV⟩

/-- Each step of a search that is alone: fewer are left, or it ends as it should. -/
theorem al_step {k key : Int} {vs : Bool} {T : Sm} {f : Plc → Int} {ds ns : List Nd} {mu : Nat} (hT : SmOk T) (h : Al k key T f ds ns mu) :
    ((searchM k key vs T f).1 = 0 ∧ ∃ ds' ns' mu', Al k key (searchM k key vs T f).2.1 (searchM k key vs T f).2.2 ds' ns' mu' ∧ mu' < mu ∧ Left key ds' ns' = Left key ds ns) ∨
    ((searchM k key vs T f).1 = 1 ∧ (searchM k key vs T f).2.1.on = true ∧ AlEnd k key vs (searchM k key vs T f).2.1.L (searchM k key vs T f).2.2 (Left key ds ns)) := by
  rcases h with ⟨hon, hds, hl, hmk, hmu⟩ | ⟨hon, he, h⟩
  · have hM : searchM k key vs T f = (0, { on := true, L := L0 (4, 0, k), e := epI (f (1, 0, 0)), r := T.r }, f) := by unfold searchM; rw [hon]; rfl
    rw [hM]
    exact .inl ⟨rfl, ds, ns, 5 * ns.length + 5, .inr ⟨rfl, by show epI _ = 9; rw [hl.ep]; decide, hl, .inl ⟨rfl, hds, hmk, rfl⟩⟩, by omega, rfl⟩
  · have hM : searchM k key vs T f = (if (laneM 0 key vs 9 T.L f).1 = 1 then 1 else 0, { on := decide ((laneM 0 key vs 9 T.L f).1 ≠ 2), L := (laneM 0 key vs 9 T.L f).2.1, e := T.e, r := rollM T.e T.L f T.r }, (laneM 0 key vs 9 T.L f).2.2) := by unfold searchM; rw [if_pos hon, he]
    rw [hM]
    rcases la_step (vs := vs) (hT hon).1 h with ⟨h1, ds', ns', mu', h2, h3, h4⟩ | ⟨h1, h2⟩
    · exact .inl ⟨by rw [h1]; rfl, ds', ns', mu', .inr ⟨by simp [h1], he, h2⟩, h3, h4⟩
    · exact .inr ⟨by rw [h1]; rfl, by simp [h1], h2⟩

/-- The list as it is laid. -/
theorem setL_at (l : List OneR) (p : Plc) (v : Int) (x : Plc) : getL (setL l p v) x = if x = p then v else getL l x := by rw [getL_set]; rfl
theorem lnk_slot (mk : Bool) {s : Int} (h : 0 ≤ s ∧ s ≤ 1000) : slotI (lnk mk s 9) = s ∧ markB (lnk mk s 9) = mk := by
  have hL : isL s 9 = true := isL_mk h.1 (by omega) (by decide) (by decide)
  unfold lnk markedW
  cases mk
  · exact ⟨slot_word hL, mark_word hL⟩
  · rw [if_pos rfl, if_neg (by rw [mark_word hL]; simp)]
    exact ⟨slot_word hL, mark_word hL⟩
theorem lay_ch : ∀ (ns : List Nd) (p : Plc) (mk : Bool) (l : List OneR), (ns.map (·.s)).Nodup → (∀ n ∈ ns, 1 ≤ n.s ∧ n.s ≤ 1000) → NoKV p → (∀ n ∈ ns, p ≠ lkP n.s) →
    (∀ x, x ≠ p → (∀ n ∈ ns, x ≠ (5, n.s, 3) ∧ x ≠ (5, n.s, 4) ∧ x ≠ lkP n.s) → getL (layL 0 9 ns p mk l) x = getL l x) ∧ Ch (getL (layL 0 9 ns p mk l)) p ns ∧ markB (getL (layL 0 9 ns p mk l) p) = mk
  | [], p, mk, l, _, _, _, _ => by
    have h := lnk_slot mk (s := 0) (by omega)
    refine ⟨fun x hx _ => by show getL (setL _ _ _) x = _; rw [setL_at, if_neg hx], ?_, ?_⟩
    · show slotI (getL (setL _ _ _) p) = 0; rw [setL_at, if_pos rfl]; exact h.1
    · show markB (getL (setL _ _ _) p) = mk; rw [setL_at, if_pos rfl]; exact h.2
  | n :: r, p, mk, l, hn, hr, hp, ho => by
    rw [List.map_cons, List.nodup_cons] at hn
    obtain ⟨hn1, hn2⟩ := hn
    have hnr : ∀ m ∈ r, n.s ≠ m.s := fun m hm e => hn1 (by rw [e]; exact List.mem_map.2 ⟨m, hm, rfl⟩)
    have hnm := hr n (List.mem_cons_self ..)
    have h := lnk_slot mk (s := n.s) (by omega)
    obtain ⟨l3, hl3⟩ : ∃ l3, setL (setL (setL l p (lnk mk n.s 9)) (5, n.s, 3) n.key) (5, n.s, 4) n.val = l3 := ⟨_, rfl⟩
    obtain ⟨i1, i2, i3⟩ := lay_ch r (lkP n.s) n.mb l3 hn2 (fun m hm => hr m (List.mem_cons_of_mem _ hm)) (noKV_lk _) (fun m hm => lkP_inj (hnr m hm))
    have hgo : layL 0 9 (n :: r) p mk l = layL 0 9 r (lkP n.s) n.mb l3 := by rw [← hl3]; rfl
    rw [hgo]
    have h3 : ∀ x, getL l3 x = if x = (5, n.s, 4) then n.val else if x = (5, n.s, 3) then n.key else if x = p then lnk mk n.s 9 else getL l x := fun x => by rw [← hl3, setL_at, setL_at, setL_at]
    have hpp : getL (layL 0 9 r (lkP n.s) n.mb l3) p = lnk mk n.s 9 := by
      rw [i1 p (ho n (List.mem_cons_self ..)) fun m hm => ⟨(hp m.s).1.symm, (hp m.s).2.symm, ho m (List.mem_cons_of_mem _ hm)⟩, h3, if_neg (hp n.s).2.symm, if_neg (hp n.s).1.symm, if_pos rfl]
    have hkk : getL (layL 0 9 r (lkP n.s) n.mb l3) (5, n.s, 3) = n.key := by
      rw [i1 _ (lkP_key _ _) fun m hm => ⟨by simpa using hnr m hm, by simp, lkP_key _ _⟩, h3, if_neg (by simp), if_pos rfl]
    have hvv : getL (layL 0 9 r (lkP n.s) n.mb l3) (5, n.s, 4) = n.val := by
      rw [i1 _ (lkP_val _ _) fun m hm => ⟨by simp, by simpa using hnr m hm, lkP_val _ _⟩, h3, if_pos rfl]
    refine ⟨fun x hx hxo => ?_, ⟨by rw [hpp]; exact h.1, hkk, hvv, i3, i2⟩, by rw [hpp]; exact h.2⟩
    obtain ⟨a1, a2, a3⟩ := hxo n (List.mem_cons_self ..)
    rw [i1 x a3 fun m hm => hxo m (List.mem_cons_of_mem _ hm), h3, if_neg a2, if_neg a1, if_neg hx]
/-- So a search begins. -/
theorem lay_al {k key : Int} {ns : List Nd} (hn : (ns.map (·.s)).Nodup) (hr : ∀ n ∈ ns, NdOk n) : Al k key T0s (getL (layL 0 9 ns (4, 0, k) false (setL [] (1, 0, 0) 9))) [] ns (5 * ns.length + 6) := by
  obtain ⟨h1, h2, h3⟩ := lay_ch ns (4, 0, k) false (setL [] (1, 0, 0) 9) hn (fun n h => (hr n h).1) (noKV_root k) (fun n _ => by simp [lkP])
  refine .inl ⟨rfl, rfl, ⟨?_, rfl, h2, hn, fun n h => (hr n h).1⟩, h3, rfl⟩
  rw [h1 _ (by simp) fun n _ => ⟨by simp, by simp, by simp [lkP]⟩, setL_at, if_pos rfl]
end Go.Proofs.YtchcdfoncebemaaGreatDoor

/- A search that was disturbed, by plain mathematics: it ends all the same, as its twin does. -/
namespace Go.Proofs.YtchcdfoncebemaaGreatDoor
open Go.RowKit Go.Maps
set_option maxRecDepth 100000

theorem Sl.other {f g : Plc → Int} : ∀ {ns : List Nd} {p : Plc}, Sl f p ns → g p = f p → (∀ n ∈ ns, g (lkP n.s) = f (lkP n.s)) → Sl g p ns
  | [], _, h, hp, _ => by show slotI _ = 0; rw [hp]; exact h
  | n :: r, _, ⟨h1, h5⟩, hp, ha => ⟨by rw [hp]; exact h1, h5.other (ha n (List.mem_cons_self ..)) fun m hm => ha m (List.mem_cons_of_mem _ hm)⟩
theorem Sl.cut {f : Plc → Int} {q : Plc} {n : Nd} {r : List Nd} {v : Int} (h : Sl f q (n :: r)) (hv : slotI v = slotI (f (lkP n.s))) (hr : ∀ m ∈ r, lkP m.s ≠ q) : Sl (upd f q v) q r := by
  obtain ⟨-, h5⟩ := h
  match r, h5, hr with
  | [], h5, _ =>
    show slotI _ = 0
    rw [upd_same, hv]
    exact h5
  | m :: t, ⟨g1, g5⟩, hr => exact ⟨by rw [upd_same, hv]; exact g1, g5.other (upd_other f v (hr m (List.mem_cons_self ..))) fun x hx => upd_other f v (hr x (List.mem_cons_of_mem _ hx))⟩

/-- How a list's links lie that is gone along, in an epoch. -/
structure Lk (e : Int) (f : Plc → Int) (k : Int) (q : Plc) (ds ns : List Nd) : Prop where
  ep : f (1, 0, 0) = e
  e0 : 0 ≤ e ∧ e ≤ 1000000
  rt : markB (f (4, 0, k)) = false
  seg : Seg f (4, 0, k) ds q
  ch : Sl f q ns
  nd : ((ds ++ ns).map (·.s)).Nodup
  rg : ∀ n ∈ ds ++ ns, 1 ≤ n.s ∧ n.s ≤ 1000
  ln : (ds ++ ns).length ≤ 40
theorem Lk.okB {e : Int} {f : Plc → Int} {k : Int} {q : Plc} {ds ns : List Nd} (h : Lk e f k q ds ns) : okB (f (1, 0, 0)) e = true := by
  have := h.e0
  rw [h.ep]
  unfold Go.Proofs.YtchcdfoncebemaaGreatDoor.okB epB epI
  rw [if_pos (by omega)]
  simp
  omega
theorem Lk.root {e : Int} {f : Plc → Int} {k : Int} {q : Plc} {ds ns : List Nd} (h : Lk e f k q ds ns) : Lk e f k (4, 0, k) [] (ds ++ ns) := ⟨h.ep, h.e0, h.rt, rfl, h.seg.sl h.ch, h.nd, h.rg, h.ln⟩
theorem Lk.noep {e : Int} {f : Plc → Int} {k : Int} {q : Plc} {ds ns : List Nd} (h : Lk e f k q ds ns) : ((1, 0, 0) : Plc) ≠ q := by
  rcases h.seg.ends with e | ⟨d, -, e⟩
  · rw [e]; simp
  · rw [e]; simp [lkP]
theorem Lk.cut {e : Int} {f : Plc → Int} {k : Int} {q : Plc} {ds r : List Nd} {n : Nd} {v : Int} (h : Lk e f k q ds (n :: r)) (hv : slotI v = slotI (f (lkP n.s))) (hm : markB v = false) : Lk e (upd f q v) k q ds r := by
  have hnd := h.nd
  rw [List.map_append, List.nodup_append, List.map_cons, List.nodup_cons] at hnd
  obtain ⟨n1, ⟨n2, n3⟩, n4⟩ := hnd
  refine ⟨by rw [upd_other f v h.noep]; exact h.ep, h.e0, ?_, h.seg.upd n1 fun d _ => by simp [lkP], h.ch.cut hv fun m hm e => ?_, ?_, fun m hm => h.rg m ?_, by have := h.ln; simp at this ⊢; omega⟩
  · by_cases hq : (4, 0, k) = q
    · rw [hq, upd_same]; exact hm
    · rw [upd_other f v hq]; exact h.rt
  · rcases h.seg.ends with e1 | ⟨d, hd, e1⟩
    · rw [e1] at e; simp [lkP] at e
    · rw [e1] at e
      refine n4 d.s (List.mem_map.2 ⟨d, hd, rfl⟩) m.s (List.mem_cons_of_mem _ (List.mem_map.2 ⟨m, hm, rfl⟩)) ?_
      exact Classical.byContradiction fun h9 => lkP_inj h9 e.symm
  · rw [List.map_append, List.nodup_append]
    exact ⟨n1, n3, fun a ha b hb => n4 a ha b (List.mem_cons_of_mem _ hb)⟩
  · rcases List.mem_append.1 hm with hm | hm
    · exact List.mem_append_left _ hm
    · exact List.mem_append_right _ (List.mem_cons_of_mem _ hm)
theorem Lk.pass {e : Int} {f : Plc → Int} {k : Int} {q : Plc} {ds r : List Nd} {n : Nd} (h : Lk e f k q ds (n :: r)) : Lk e f k (lkP n.s) (ds ++ [n]) r :=
  ⟨h.ep, h.e0, h.rt, h.seg.snoc h.ch.1, h.ch.2, by rw [List.append_assoc]; exact h.nd, by rw [List.append_assoc]; exact h.rg, by rw [List.append_assoc]; exact h.ln⟩
/-- The place that a lane is at is none of the head's. -/
theorem Lk.apart {e : Int} {f : Plc → Int} {k : Int} {q : Plc} {ds r : List Nd} {n : Nd} (h : Lk e f k q ds (n :: r)) : q ≠ lkP n.s ∧ q ≠ (5, n.s, 3) := by
  have hnd := h.nd
  rw [List.map_append, List.nodup_append, List.map_cons, List.nodup_cons] at hnd
  rcases h.seg.ends with e | ⟨d, hd, e⟩
  · rw [e]; exact ⟨by simp [lkP], by simp⟩
  · rw [e]
    exact ⟨lkP_inj fun h9 => hnd.2.2 d.s (List.mem_map.2 ⟨d, hd, rfl⟩) n.s (List.mem_cons_self ..) h9, (lkP_key _ _).symm⟩

/-- How a lane stands; how many steps it has at most. -/
def Lq (e k : Int) (L : Lm) (f : Plc → Int) (ds ns : List Nd) (mu : Nat) : Prop :=
  Lk e f k L.p ds ns ∧ (
    (L.pc = 0 ∧ ds = [] ∧ L.p = (4, 0, k) ∧ mu = 5 * ns.length + 5) ∨
    (L.pc = 2 ∧ ds = [] ∧ L.p = (4, 0, k) ∧ L.W = f L.p ∧ mu = 5 * ns.length + 4) ∨
    (L.W = f L.p ∧ ∃ n r, ns = n :: r ∧ L.C = n.s ∧ (
      (L.pc = 3 ∧ mu = 5 * ns.length + 3) ∨
      (L.pc = 4 ∧ L.X = f (lkP n.s) ∧ mu = 5 * ns.length + 2) ∨
      (L.pc = 5 ∧ L.X = f (lkP n.s) ∧ mu = 5 * ns.length + 1) ∨
      (L.pc = 6 ∧ L.X = f (lkP n.s) ∧ mu = 5 * ns.length + 1) ∨
      (L.pc = 7 ∧ L.X = f (lkP n.s) ∧ mu = 5 * ns.length))))
theorem come_lq {e k : Int} {L : Lm} {f : Plc → Int} {ds ns : List Nd} {W : Int} (hl : Lk e f k L.p ds ns) (hW : W = f L.p) :
    ((comeM L W).1 = 0 ∧ Lq e k (comeM L W).2 f ds ns (5 * ns.length + 3)) ∨ (comeM L W).1 = 1 := by
  match ns, hl with
  | [], hl =>
    right
    have h0 : slotI W = 0 := by rw [hW]; exact hl.ch
    unfold comeM
    rw [if_pos h0]
  | n :: r, hl =>
    left
    have h1 : slotI W = n.s := by rw [hW]; exact hl.ch.1
    have h2 := (hl.rg n (List.mem_append_right _ (List.mem_cons_self ..))).1
    unfold comeM
    rw [if_neg (by rw [h1]; omega)]
    exact ⟨rfl, hl, .inr (.inr ⟨hW, n, r, rfl, h1, .inl ⟨rfl, rfl⟩⟩)⟩
theorem lq_step {e k key : Int} {L : Lm} {f : Plc → Int} {ds ns : List Nd} {mu : Nat} (h : Lq e k L f ds ns mu) :
    ((laneM 0 key false e L f).1 = 0 ∧ ∃ ds' ns' mu', Lq e k (laneM 0 key false e L f).2.1 (laneM 0 key false e L f).2.2 ds' ns' mu' ∧ mu' < mu) ∨ (laneM 0 key false e L f).1 = 1 := by
  obtain ⟨hl, h⟩ := h
  have hok := hl.okB
  rcases h with ⟨hpc, hds, hp, hmu⟩ | ⟨hpc, hds, hp, hW, hmu⟩ | ⟨hW, n, r, hns, hC, h⟩
  · have hM : laneM 0 key false e L f = (0, { L with W := f L.p, pc := 2 }, f) := by simp [laneM, hpc]
    rw [hM]
    exact .inl ⟨rfl, ds, ns, 5 * ns.length + 4, ⟨hl, .inr (.inl ⟨rfl, hds, hp, rfl, rfl⟩)⟩, by omega⟩
  · have hM : laneM 0 key false e L f = ((comeM L L.W).1, (comeM L L.W).2, f) := by
      have : markB L.W = false := by rw [hW, hp]; exact hl.rt
      simp [laneM, holdsM, hpc, hok, this]
    rw [hM]
    rcases come_lq hl hW with ⟨h1, h2⟩ | h1
    · exact .inl ⟨h1, ds, ns, _, h2, by omega⟩
    · exact .inr h1
  · subst hns
    have hlk : ((5, L.C, 7 + 0) : Plc) = lkP n.s := by rw [hC]; rfl
    have hlen : (n :: r).length = r.length + 1 := rfl
    rcases h with ⟨hpc, hmu⟩ | ⟨hpc, hX, hmu⟩ | ⟨hpc, hX, hmu⟩ | ⟨hpc, hX, hmu⟩ | ⟨hpc, hX, hmu⟩
    · have hM : laneM 0 key false e L f = (0, { L with X := f (lkP n.s), pc := 4 }, f) := by rw [← hlk]; simp [laneM, hpc]
      rw [hM]
      exact .inl ⟨rfl, ds, n :: r, _, ⟨hl, .inr (.inr ⟨hW, n, r, rfl, hC, .inr (.inl ⟨rfl, rfl, rfl⟩)⟩)⟩, by omega⟩
    · have hM : laneM 0 key false e L f = (0, { L with pc := if markB L.X then 5 else 6 }, f) := by simp [laneM, holdsM, hpc, hok]
      rw [hM]
      cases markB L.X
      · exact .inl ⟨rfl, ds, n :: r, 5 * (n :: r).length + 1, ⟨hl, .inr (.inr ⟨hW, n, r, rfl, hC, .inr (.inr (.inr (.inl ⟨by simp, hX, rfl⟩)))⟩)⟩, by omega⟩
      · exact .inl ⟨rfl, ds, n :: r, 5 * (n :: r).length + 1, ⟨hl, .inr (.inr ⟨hW, n, r, rfl, hC, .inr (.inr (.inl ⟨by simp, hX, rfl⟩))⟩)⟩, by omega⟩
    · obtain ⟨v, hv⟩ : ∃ v, wordI false (slotI L.X) e = v := ⟨_, rfl⟩
      have hM : laneM 0 key false e L f = ((comeM L v).1, (comeM L v).2, upd f L.p v) := by
        rw [← hv]
        simp [laneM, hpc, hW, swf]
      rw [hM]
      have he := hl.e0
      have hiL : isL (slotI L.X) e = true := isL_mk (slotI_in _).1 (slotI_in _).2 he.1 (by omega)
      have hsv : slotI v = slotI (f (lkP n.s)) := by
        rw [← hv, ← hX]
        exact slot_word hiL
      have hl2 := hl.cut hsv (by rw [← hv]; exact mark_word hiL)
      rcases come_lq hl2 (upd_same f L.p v).symm with ⟨h1, h2⟩ | h1
      · exact .inl ⟨h1, ds, r, _, h2, by omega⟩
      · exact .inr h1
    · have hM : laneM 0 key false e L f = (0, { L with K := f (5, L.C, 3), pc := 7 }, f) := by simp [laneM, hpc]
      rw [hM]
      exact .inl ⟨rfl, ds, n :: r, _, ⟨hl, .inr (.inr ⟨hW, n, r, rfl, hC, .inr (.inr (.inr (.inr ⟨rfl, hX, rfl⟩)))⟩)⟩, by omega⟩
    · by_cases hlt : L.K < key
      · have hM : laneM 0 key false e L f = ((comeM { L with p := lkP n.s } L.X).1, (comeM { L with p := lkP n.s } L.X).2, f) := by
          rw [← hlk]
          simp [laneM, holdsM, hpc, hok, hlt]
        rw [hM]
        have hl2 : Lk e f k ({ L with p := lkP n.s } : Lm).p (ds ++ [n]) r := hl.pass
        rcases come_lq (L := { L with p := lkP n.s }) hl2 hX with ⟨h1, h2⟩ | h1
        · exact .inl ⟨h1, ds ++ [n], r, _, h2, by omega⟩
        · exact .inr h1
      · right
        by_cases heq : L.K = key
        · simp [laneM, holdsM, hpc, hok, heq]
        · simp [laneM, holdsM, hpc, hok, hlt, heq]

/-- How a search stands: on its way, or bound to begin anew. -/
def Aq (k : Int) (T : Sm) (f : Plc → Int) (mu : Nat) : Prop :=
  (T.on = false ∧ ∃ e ns, Lk e f k (4, 0, k) [] ns ∧ mu = 5 * ns.length + 6) ∨ (T.on = true ∧ ∃ ds ns, Lq T.e k T.L f ds ns mu) ∨
  (T.on = true ∧ okB (f (1, 0, 0)) T.e = false ∧ ∃ e ns, Lk e f k (4, 0, k) [] ns ∧ ((T.L.pc = 3 ∧ mu = 5 * ns.length + 8) ∨ (isVal T.L.pc = true ∧ mu = 5 * ns.length + 7)))
theorem lane_again {lv key e : Int} {vs : Bool} {L : Lm} {f : Plc → Int} (hv : isVal L.pc = true) (hok : okB (f (1, 0, 0)) e = false) : laneM lv key vs e L f = (2, L, f) := by
  unfold isVal at hv
  simp only [Bool.or_eq_true, beq_iff_eq] at hv
  rcases hv with ((h | h) | h) | h <;> simp [laneM, h, hok]
theorem search_on {k key : Int} {vs : Bool} {T : Sm} {f : Plc → Int} (hon : T.on = true) : searchM k key vs T f = (if (laneM 0 key vs T.e T.L f).1 = 1 then 1 else 0, { on := decide ((laneM 0 key vs T.e T.L f).1 ≠ 2), L := (laneM 0 key vs T.e T.L f).2.1, e := T.e, r := rollM T.e T.L f T.r }, (laneM 0 key vs T.e T.L f).2.2) := by unfold searchM; rw [if_pos hon]
theorem search_off {k key : Int} {vs : Bool} {T : Sm} {f : Plc → Int} (hoff : T.on = false) : searchM k key vs T f = (0, { on := true, L := L0 (4, 0, k), e := epI (f (1, 0, 0)), r := T.r }, f) := by unfold searchM; rw [hoff]; rfl
theorem aq_step {k key : Int} {T : Sm} {f : Plc → Int} {mu : Nat} (h : Aq k T f mu) :
    ((searchM k key false T f).1 = 0 ∧ ∃ mu', Aq k (searchM k key false T f).2.1 (searchM k key false T f).2.2 mu' ∧ mu' < mu) ∨ (searchM k key false T f).1 = 1 := by
  rcases h with ⟨hoff, e, ns, hl, hmu⟩ | ⟨hon, ds, ns, h⟩ | ⟨hon, hok, e, ns, hl, ⟨hpc, hmu⟩ | ⟨hpc, hmu⟩⟩
  · rw [search_off hoff]
    have he : epI (f (1, 0, 0)) = e := by have := hl.e0; rw [hl.ep]; unfold epI; rw [if_pos (by omega)]
    rw [he]
    exact .inl ⟨rfl, 5 * ns.length + 5, .inr (.inl ⟨rfl, [], ns, hl, .inl ⟨rfl, rfl, rfl, rfl⟩⟩), by omega⟩
  · rw [search_on hon]
    rcases lq_step (key := key) h with ⟨h1, ds', ns', mu', h2, h3⟩ | h1
    · exact .inl ⟨by rw [h1]; rfl, mu', .inr (.inl ⟨by simp [h1], ds', ns', h2⟩), h3⟩
    · exact .inr (by rw [h1]; rfl)
  · have hM : laneM 0 key false T.e T.L f = (0, { T.L with X := f (5, T.L.C, 7 + 0), pc := 4 }, f) := by simp [laneM, hpc]
    rw [search_on hon, hM]
    exact .inl ⟨rfl, _, .inr (.inr ⟨rfl, hok, e, ns, hl, .inr ⟨rfl, rfl⟩⟩), by omega⟩
  · rw [search_on hon, lane_again hpc hok]
    exact .inl ⟨rfl, _, .inl ⟨rfl, e, ns, hl, rfl⟩, by omega⟩

/-- Two searches that do the same from now on. -/
def Tw (T U : Sm) (f : Plc → Int) : Prop := T = U ∨ (T.e = U.e ∧ T.r = U.r ∧ ((T.on = false ∧ U.on = false) ∨ (T.on = true ∧ U.on = true ∧ okB (f (1, 0, 0)) T.e = false ∧ isVal T.L.pc = true ∧ isVal U.L.pc = true)))
theorem tw_step {k key : Int} {vs : Bool} {T U : Sm} {f : Plc → Int} (h : Tw T U f) :
    (searchM k key vs T f).1 = (searchM k key vs U f).1 ∧ (searchM k key vs T f).2.2 = (searchM k key vs U f).2.2 ∧ Tw (searchM k key vs T f).2.1 (searchM k key vs U f).2.1 (searchM k key vs T f).2.2 ∧ ((searchM k key vs T f).1 = 1 → T = U) := by
  rcases h with rfl | ⟨he, hr, ⟨h1, h2⟩ | ⟨h1, h2, hok, hp1, hp2⟩⟩
  · exact ⟨rfl, rfl, .inl rfl, fun _ => rfl⟩
  · rw [search_off h1, search_off h2, hr]
    exact ⟨rfl, rfl, .inl rfl, fun h => absurd h (show ¬ ((0 : Int) = 1) by decide)⟩
  · have hok2 : okB (f (1, 0, 0)) U.e = false := by rw [← he]; exact hok
    rw [search_on h1, search_on h2, lane_again hp1 hok, lane_again hp2 hok2]
    refine ⟨rfl, rfl, .inr ⟨he, ?_, .inl ⟨rfl, rfl⟩⟩, fun h => absurd h (show ¬ ((0 : Int) = 1) by decide)⟩
    show rollM T.e T.L f T.r = rollM U.e U.L f U.r
    unfold rollM
    rw [hp1, hp2, hok, hok2, hr]

theorem upd_back {g : Plc → Int} {a b : Plc} {u v x y : Int} (hx : g a = x) (hy : g b = y) : upd (upd (upd (upd g a u) b v) a x) b y = g := by
  funext z
  unfold upd
  by_cases h1 : z = b
  · rw [if_pos h1, h1, hy]
  · by_cases h2 : z = a
    · rw [if_neg h1, if_pos h2, h2, hx]
    · rw [if_neg h1, if_neg h2, if_neg h1, if_neg h2]
theorem upd_comm {g : Plc → Int} {a b : Plc} {u v : Int} (h : a ≠ b) : upd (upd g a u) b v = upd (upd g b v) a u := by
  funext z
  unfold upd
  by_cases h1 : z = b
  · rw [if_pos h1, if_neg (by rw [h1]; exact h.symm), if_pos h1]
  · by_cases h2 : z = a
    · rw [if_neg h1, if_pos h2, if_pos h2]
    · rw [if_neg h1, if_neg h2, if_neg h2, if_neg h1]
theorem Lk.epoch {e : Int} {f : Plc → Int} {k : Int} {ns : List Nd} (h : Lk e f k (4, 0, k) [] ns) (e' : Int) (he : 0 ≤ e' ∧ e' ≤ 1000000) : Lk e' (upd f (1, 0, 0) e') k (4, 0, k) [] ns :=
  ⟨upd_same _ _ _, he, by rw [upd_other f e' (by simp)]; exact h.rt, rfl, h.ch.other (upd_other f e' (by simp)) fun n _ => upd_other f e' (by simp [lkP]), h.nd, h.rg, h.ln⟩
/-- The slot's cells while it is disturbed; and put back. -/
def dsF (f : Plc → Int) (C u v : Int) : Plc → Int := upd (upd (upd f (1, 0, 0) 10) (5, C, 3) u) (5, C, 7) v
def bkF (f g : Plc → Int) (C : Int) : Plc → Int := upd (upd g (5, C, 3) (f (5, C, 3))) (5, C, 7) (f (5, C, 7))
theorem bk_ds (f : Plc → Int) (C u v : Int) : bkF f (dsF f C u v) C = upd f (1, 0, 0) 10 := upd_back (upd_other f 10 (by simp)) (upd_other f 10 (by simp))
theorem bk_cut {f : Plc → Int} {C u v w : Int} {p : Plc} (h1 : p ≠ (5, C, 3)) (h2 : p ≠ (5, C, 7)) (h3 : (1, 0, 0) ≠ p) : bkF f (upd (dsF f C u v) p w) C = upd (upd f p w) (1, 0, 0) 10 := by
  unfold bkF dsF
  rw [← upd_comm h2, ← upd_comm h1]
  rw [upd_back (by rw [upd_other _ w h1.symm, upd_other f 10 (by simp)]) (by rw [upd_other _ w h2.symm, upd_other f 10 (by simp)])]
  exact upd_comm h3
theorem ok_ds : okB 10 9 = false := by decide
/-- The step that is disturbed. -/
theorem dist {k key : Int} {T : Sm} {f : Plc → Int} {ds ns : List Nd} {mu : Nat} (hT : SmOk T) (hon : T.on = true) (he : T.e = 9) (h : Lq 9 k T.L f ds ns mu) (hC : T.L.C ≠ 0) (a a' b b' : Int) :
    (searchM k key false T (dsF f T.L.C a a')).1 = (searchM k key false T (dsF f T.L.C b b')).1 ∧
    bkF f (searchM k key false T (dsF f T.L.C a a')).2.2 T.L.C = bkF f (searchM k key false T (dsF f T.L.C b b')).2.2 T.L.C ∧
    Tw (searchM k key false T (dsF f T.L.C a a')).2.1 (searchM k key false T (dsF f T.L.C b b')).2.1 (bkF f (searchM k key false T (dsF f T.L.C a a')).2.2 T.L.C) ∧
    (((searchM k key false T (dsF f T.L.C a a')).1 = 1 ∧ (searchM k key false T (dsF f T.L.C a a')).2.1 = (searchM k key false T (dsF f T.L.C b b')).2.1) ∨
      ((searchM k key false T (dsF f T.L.C a a')).1 = 0 ∧ ∃ mu', Aq k (searchM k key false T (dsF f T.L.C a a')).2.1 (bkF f (searchM k key false T (dsF f T.L.C a a')).2.2 T.L.C) mu' ∧ mu' ≤ 208)) := by
  have hL := (hT hon).1
  have hep : ∀ u v, dsF f T.L.C u v (1, 0, 0) = 10 := fun u v => by unfold dsF; rw [upd_other _ v (by simp), upd_other _ u (by simp), upd_same]
  have hok : ∀ u v, okB (dsF f T.L.C u v (1, 0, 0)) T.e = false := fun u v => by rw [hep, he]; exact ok_ds
  have hok2 : okB (upd f (1, 0, 0) 10 (1, 0, 0)) T.e = false := by rw [upd_same, he]; exact ok_ds
  obtain ⟨hl, h⟩ := h
  have hl2 := hl.root.epoch 10 (by decide)
  have hval : ∀ pc : Nat, isVal pc = true → T.L.pc = pc →
      (searchM k key false T (dsF f T.L.C a a')).1 = (searchM k key false T (dsF f T.L.C b b')).1 ∧
      bkF f (searchM k key false T (dsF f T.L.C a a')).2.2 T.L.C = bkF f (searchM k key false T (dsF f T.L.C b b')).2.2 T.L.C ∧
      Tw (searchM k key false T (dsF f T.L.C a a')).2.1 (searchM k key false T (dsF f T.L.C b b')).2.1 (bkF f (searchM k key false T (dsF f T.L.C a a')).2.2 T.L.C) ∧
      (((searchM k key false T (dsF f T.L.C a a')).1 = 1 ∧ (searchM k key false T (dsF f T.L.C a a')).2.1 = (searchM k key false T (dsF f T.L.C b b')).2.1) ∨
        ((searchM k key false T (dsF f T.L.C a a')).1 = 0 ∧ ∃ mu', Aq k (searchM k key false T (dsF f T.L.C a a')).2.1 (bkF f (searchM k key false T (dsF f T.L.C a a')).2.2 T.L.C) mu' ∧ mu' ≤ 208)) := fun pc hv hpc => by
    subst hpc
    rw [search_on hon, search_on hon, lane_again hv (hok a a'), lane_again hv (hok b b')]
    have hr : rollM T.e T.L (dsF f T.L.C a a') T.r = rollM T.e T.L (dsF f T.L.C b b') T.r := by unfold rollM; rw [hok, hok]
    dsimp only
    rw [hr, bk_ds, bk_ds]
    exact ⟨rfl, rfl, .inl rfl, .inr ⟨rfl, _, .inl ⟨rfl, 10, ds ++ ns, hl2, rfl⟩, by have := hl.ln; omega⟩⟩
  rcases h with ⟨hpc, -⟩ | ⟨hpc, -⟩ | ⟨hW, n, r, hns, hCn, h⟩
  · exact absurd (hL.c0 (by omega)) hC
  · exact absurd (hL.c0 (by omega)) hC
  rcases h with ⟨hpc, hmu⟩ | ⟨hpc, hX, hmu⟩ | ⟨hpc, hX, hmu⟩ | ⟨hpc, hX, hmu⟩ | ⟨hpc, hX, hmu⟩
  · have hM : ∀ u v, laneM 0 key false T.e T.L (dsF f T.L.C u v) = (0, { T.L with X := dsF f T.L.C u v (5, T.L.C, 7 + 0), pc := 4 }, dsF f T.L.C u v) := fun u v => by simp [laneM, hpc]
    have hr : ∀ u v, rollM T.e T.L (dsF f T.L.C u v) T.r = T.r := fun u v => by unfold rollM; rw [hpc]; rfl
    rw [search_on hon, search_on hon, hM, hM, hr, hr]
    dsimp only
    rw [bk_ds, bk_ds]
    exact ⟨rfl, rfl, .inr ⟨rfl, rfl, .inr ⟨rfl, rfl, hok2, rfl, rfl⟩⟩, .inr ⟨rfl, _, .inr (.inr ⟨rfl, hok2, 10, ds ++ ns, hl2, .inr ⟨rfl, rfl⟩⟩), by have := hl.ln; omega⟩⟩
  · exact hval 4 rfl hpc
  · subst hns
    obtain ⟨p1, p2⟩ := hl.apart
    rw [← hCn] at p2
    have p3 : T.L.p ≠ (5, T.L.C, 7) := by rw [hCn]; exact p1
    have p4 := hl.noep
    obtain ⟨w, hw⟩ : ∃ w, wordI false (slotI T.L.X) T.e = w := ⟨_, rfl⟩
    have hat : ∀ u v, dsF f T.L.C u v T.L.p = T.L.W := fun u v => by unfold dsF; rw [upd_other _ v p3, upd_other _ u p2, upd_other f 10 p4.symm, hW]
    have hM : ∀ u v, laneM 0 key false T.e T.L (dsF f T.L.C u v) = ((comeM T.L w).1, (comeM T.L w).2, upd (dsF f T.L.C u v) T.L.p w) := fun u v => by
      rw [← hw]
      simp [laneM, hpc, hat, swf]
    have hr : ∀ u v, rollM T.e T.L (dsF f T.L.C u v) T.r = T.r := fun u v => by unfold rollM; rw [hpc]; rfl
    rw [search_on hon, search_on hon, hM, hM, hr, hr]
    dsimp only
    rw [bk_cut p2 p3 p4, bk_cut p2 p3 p4]
    refine ⟨rfl, rfl, .inl rfl, ?_⟩
    have hiL : isL (slotI T.L.X) T.e = true := by rw [he]; exact isL_mk (slotI_in _).1 (slotI_in _).2 (by decide) (by decide)
    have hsv : slotI w = slotI (f (lkP n.s)) := by
      rw [← hw, ← hX]
      exact slot_word hiL
    have hl3 := (hl.cut hsv (by rw [← hw]; exact mark_word hiL)).root.epoch 10 (by decide)
    rcases come_lq (e := 9) (k := k) (hl.cut hsv (by rw [← hw]; exact mark_word hiL)) (upd_same f T.L.p w).symm with ⟨h1, h2⟩ | h1
    · right
      refine ⟨by rw [h1]; rfl, 5 * (ds ++ r).length + 8, .inr (.inr ⟨by simp [h1], ?_, 10, ds ++ r, hl3, .inl ⟨?_, rfl⟩⟩), by have := hl.ln; simp at this ⊢; omega⟩
      · rw [upd_same, he]; exact ok_ds
      · rfl
    · exact .inl ⟨by rw [h1]; rfl, rfl⟩
  · have hM : ∀ u v, laneM 0 key false T.e T.L (dsF f T.L.C u v) = (0, { T.L with K := dsF f T.L.C u v (5, T.L.C, 3), pc := 7 }, dsF f T.L.C u v) := fun u v => by simp [laneM, hpc]
    have hr : ∀ u v, rollM T.e T.L (dsF f T.L.C u v) T.r = T.r := fun u v => by unfold rollM; rw [hpc]; rfl
    rw [search_on hon, search_on hon, hM, hM, hr, hr]
    dsimp only
    rw [bk_ds, bk_ds]
    exact ⟨rfl, rfl, .inr ⟨rfl, rfl, .inr ⟨rfl, rfl, hok2, rfl, rfl⟩⟩, .inr ⟨rfl, _, .inr (.inr ⟨rfl, hok2, 10, ds ++ ns, hl2, .inr ⟨rfl, rfl⟩⟩), by have := hl.ln; omega⟩⟩
  · exact hval 7 rfl hpc
/-- A list as laid. -/
theorem lay_lk {k : Int} {ns : List Nd} (hl : ns.length ≤ 40) (hn : (ns.map (·.s)).Nodup) (hr : ∀ n ∈ ns, NdOk n) : Lk 9 (getL (layL 0 9 ns (4, 0, k) false (setL [] (1, 0, 0) 9))) k (4, 0, k) [] ns := by
  obtain ⟨h1, h2, h3⟩ := lay_ch ns (4, 0, k) false (setL [] (1, 0, 0) 9) hn (fun n h => (hr n h).1) (noKV_root k) (fun n _ => by simp [lkP])
  refine ⟨?_, by decide, h3, rfl, h2.sl, hn, fun n h => (hr n h).1, hl⟩
  rw [h1 _ (by simp) fun n _ => ⟨by simp, by simp, by simp [lkP]⟩, setL_at, if_pos rfl]
end Go.Proofs.YtchcdfoncebemaaGreatDoor

/- Two searches of the program, of a world each. -/
namespace Go.Proofs.YtchcdfoncebemaaGreatDoor
open Go.RowKit Go.Maps
set_option maxRecDepth 100000

/-- A search, its world: words, counts, entries. -/
structure Sd where
  J : Js
  G : Nat → Prop
  f : Plc → Int
  q : Cnt
  n : Nat
  s : Int
  T : Sm
def Sd.its (a : Sd) : List Item := [wbox a.J.B.p a.J.B.cc, cellI a.J.B.cc a.G a.f a.q a.n]
/-- Two of them, among other things. -/
def TwoE (w0 : World) (R : List Item) (a b : Sd) (w : World) : Prop :=
  ∃ M N, PConv w0 a.J a.s a.T M ∧ PConv w0 b.J b.s b.T N ∧ Env w0 (M ++ (wbox a.J.B.p a.J.B.cc :: cellI a.J.B.cc a.G a.f a.q a.n :: (N ++ (wbox b.J.B.p b.J.B.cc :: cellI b.J.B.cc b.G b.f b.q b.n :: R)))) w
section
variable {w0 w w' : World} {R : List Item} {a b : Sd}
theorem perm_two (M N R : List Item) (x y u v : Item) : (M ++ (x :: y :: (N ++ (u :: v :: R)))).Perm (N ++ (u :: v :: (M ++ (x :: y :: R)))) := perm_of fun z => by simp only [List.count_append, List.count_cons]; omega
theorem perm_wld (M N R : List Item) (x y u v : Item) : (M ++ (x :: y :: (N ++ (u :: v :: R)))).Perm (x :: y :: (M ++ (N ++ (u :: v :: R)))) := perm_of fun z => by simp only [List.count_append, List.count_cons]; omega
theorem perm_bx (M N R : List Item) (x y u v z : Item) : (z :: (M ++ (x :: y :: (N ++ (u :: v :: R))))).Perm (M ++ (x :: y :: (N ++ (u :: v :: z :: R)))) := perm_of fun c => by simp only [List.count_append, List.count_cons]; omega
theorem TwoE.symm (h : TwoE w0 R a b w) : TwoE w0 R b a w := by
  obtain ⟨M, N, h1, h2, hE⟩ := h
  exact ⟨N, M, h2, h1, hE.perm (perm_two M N R _ _ _ _)⟩
theorem TwoE.over (h : TwoE w0 R a b w) (hb : Below w.heap.size w w') : TwoE w0 R a b w' := by
  obtain ⟨M, N, h1, h2, hE⟩ := h
  exact ⟨M, N, h1, h2, hE.over hb⟩
theorem TwoE.below (h : TwoE w0 R a b w) : Below w0.heap.size w0 w := by
  obtain ⟨M, N, h1, h2, hE⟩ := h
  exact hE.below
theorem TwoE.box (h : TwoE w0 R a b w) (n : Nat) (hn : w.heap.size = n) (vs : List Value) (t : TypeId) : TwoE w0 (boxI n vs :: R) a b (w.alloc (.cells vs.toArray t)) := by
  obtain ⟨M, N, h1, h2, hE⟩ := h
  exact ⟨M, N, h1, h2, (hE.box n hn vs t).perm (perm_bx M N R _ _ _ _ _)⟩
/-- What lies with them. -/
theorem TwoE.blk (h : TwoE w0 R a b w) {i B : Nat} {vs : List Value} (hi : R[i]? = some (boxI B vs)) : Blk 0 w B vs := by
  obtain ⟨M, N, h1, h2, hE⟩ := h
  have hm : boxI B vs ∈ M ++ (wbox a.J.B.p a.J.B.cc :: cellI a.J.B.cc a.G a.f a.q a.n :: (N ++ (wbox b.J.B.p b.J.B.cc :: cellI b.J.B.cc b.G b.f b.q b.n :: R))) := by
    have := List.mem_of_getElem? hi
    simp [this]
  obtain ⟨k, hk⟩ := List.getElem?_of_mem hm
  exact hE.get k hk
theorem TwoE.words (h : TwoE w0 R a b w) : Words a.f := by
  obtain ⟨M, N, h1, h2, hE⟩ := h
  exact ((hE.perm (perm_wld M N R _ _ _ _)).cell 1 rfl).words

/-- A search's step, of the one. -/
def Sd.step (a : Sd) (G' : Nat → Prop) : Sd := { a with G := G', f := (searchM a.J.k a.J.key a.J.vs a.T a.f).2.2, q := qcM a.T a.f a.q, n := mM a.T a.n, s := (searchM a.J.k a.J.key a.J.vs a.T a.f).1, T := (searchM a.J.k a.J.key a.J.vs a.T a.f).2.1 }
theorem two_step (hT : SmOk a.T) (hg : Glo w0) (hn : a.n < maxLen) (hs : a.s = 0) (h : TwoE w0 R a b w) :
    Calls Tryz.prog 17 #[.pointer (some ⟨a.J.sb, 0, none⟩), .iface 33 (.pointer (some ⟨a.J.B.p, 0, none⟩))] w fun o w' => o = .returned (.int .i64 (searchM a.J.k a.J.key a.J.vs a.T a.f).1) ∧ ∃ G', TwoE w0 R (a.step G') b w' := by
  obtain ⟨M, N, h1, h2, hE⟩ := h
  rw [hs] at h1
  refine (search_k hT hg hn (h1.1 _ _ _ _ _ _ hE)).mono ?_
  rintro o w1 ⟨rfl, G', hR⟩
  obtain ⟨M', hM', hE'⟩ := hR.out
  exact ⟨rfl, G', M', N, hM', h2, hE'⟩
/-- A store into the one's world; an addition. -/
def Sd.put (a : Sd) (G' : Nat → Prop) (x : Plc) (v : Int) : Sd := { a with G := G', f := upd a.f x v, q := { a.q with s := wrap64 (a.q.s + 1) }, n := a.n + 1 }
def Sd.add (a : Sd) (G' : Nat → Prop) (x : Plc) (v : Int) : Sd := { a with G := G', f := upd a.f x (IntKind.u64.wrap (a.f x + v)), q := { a.q with a := wrap64 (a.q.a + 1) }, n := a.n + 1 }
theorem two_store (x y z d v e : Int) (t : Bool) (hx : Wf (x, y, z)) (hv : InU v) (hn : a.n < maxLen) (h : TwoE w0 R a b w) :
    Calls Tryz.prog 42 #[.pointer (some ⟨a.J.B.p, 0, none⟩), .agg #[.int .i64 x, .int .i64 y, .int .i64 z, .int .i64 d], .agg #[.int .u64 v, .int .i64 e, .bool t]] w fun o w' => o = .returned (.tuple #[]) ∧ ∃ G', TwoE w0 R (a.put G' (x, y, z) v) b w' := by
  obtain ⟨M, N, h1, h2, hE⟩ := h
  refine (store_w x y z d v e t hx hv hn 0 1 (by decide) (hE.perm (perm_wld M N R _ _ _ _)) rfl rfl).mono ?_
  rintro o w1 ⟨rfl, G', hE'⟩
  exact ⟨rfl, G', M, N, h1, h2, hE'.perm (perm_wld M N R _ _ _ _).symm⟩
theorem two_add (x y z d v : Int) (hx : Wf (x, y, z)) (hn : a.n < maxLen) (h : TwoE w0 R a b w) :
    Calls Tryz.prog 40 #[.pointer (some ⟨a.J.B.p, 0, none⟩), .agg #[.int .i64 x, .int .i64 y, .int .i64 z, .int .i64 d], .int .u64 v] w fun o w' => o = .returned (.int .u64 (a.f (x, y, z))) ∧ ∃ G', TwoE w0 R (a.add G' (x, y, z) v) b w' := by
  obtain ⟨M, N, h1, h2, hE⟩ := h
  refine (add_w x y z d v hx hn 0 1 (by decide) (hE.perm (perm_wld M N R _ _ _ _)) rfl rfl).mono ?_
  rintro o w1 ⟨rfl, G', hE'⟩
  exact ⟨rfl, G', M, N, h1, h2, hE'.perm (perm_wld M N R _ _ _ _).symm⟩
theorem two_peek (x y z : Int) (hx : Wf (x, y, z)) (h : TwoE w0 R a b w) :
    Calls Tryz.prog 36 #[.pointer (some ⟨a.J.B.p, 0, none⟩), .agg #[.int .i64 x, .int .i64 y, .int .i64 z]] w fun o w' => o = .returned (.int .u64 (a.f (x, y, z))) ∧ Below w.heap.size w w' := by
  obtain ⟨M, N, h1, h2, hE⟩ := h
  exact peek_w x y z hx 0 1 (hE.perm (perm_wld M N R _ _ _ _)) rfl rfl
/-- The one's lane, in its block. -/
theorem two_lane (hon : a.T.on = true) (h : TwoE w0 R a b w) : ∃ l nx wd, Blk 0 w l (laneV a.J.B.c 0 a.J.key a.J.vs nx a.s wd (pfS a.s a.T.L) (pvS a.s a.T.L) a.T.L) ∧ Blk 0 w a.J.sb (srC a.J.B.c a.J.k a.J.key a.J.vs (.pointer (some ⟨l, 0, none⟩))) := by
  obtain ⟨M, N, h1, h2, hE⟩ := h
  obtain ⟨l, nx, wd, m1, m2⟩ := h1.2.2 hon
  obtain ⟨k1, e1⟩ := List.getElem?_of_mem (List.mem_append_left (wbox a.J.B.p a.J.B.cc :: cellI a.J.B.cc a.G a.f a.q a.n :: (N ++ (wbox b.J.B.p b.J.B.cc :: cellI b.J.B.cc b.G b.f b.q b.n :: R))) m1)
  obtain ⟨k2, e2⟩ := List.getElem?_of_mem (List.mem_append_left (wbox a.J.B.p a.J.B.cc :: cellI a.J.B.cc a.G a.f a.q a.n :: (N ++ (wbox b.J.B.p b.J.B.cc :: cellI b.J.B.cc b.G b.f b.q b.n :: R))) m2)
  exact ⟨l, nx, wd, hE.get k1 e1, hE.get k2 e2⟩
end
end Go.Proofs.YtchcdfoncebemaaGreatDoor

/- The structure of the statements' lists; a program's memory with the words of the reference's. -/
namespace Go.Proofs.YtchcdfoncebemaaGreatDoor
open Go.RowKit Go.Maps
set_option maxRecDepth 100000

theorem conf15 (w : World) : Calls Tryz.prog 12 #[] w fun o w' => o = .returned (.agg #[.int .i64 2, .int .i64 1000, .int .i64 3, .int .i64 1, .int .i64 1073741824]) ∧ Below w.heap.size w w' := by
  go_enter Tryz.func12, Tryz.ntmps12
  go_wp2
  exact bodyPost_ret (v := .agg #[.int .i64 2, .int .i64 1000, .int .i64 3, .int .i64 1, .int .i64 1073741824]) (by simp [results, Tryz.results12, go_sem]) rfl ⟨rfl, (Below.refl _ _).alloc (Nat.le_refl _) _⟩

/-- A row of places, as a thing. -/
theorem Env.addPl {w0 w w' : World} {L : List Item} {v : Value} {l : List Plc} (h : Env w0 L w) (ho : w'.ownsRow w.heap.size 58 3 v l.length (flatP l)) (hb : Below w.heap.size w w') : Env w0 (rowKI encP 3 v 58 l :: L) w' :=
  h.add (rowKI encP 3 v 58 l) hb (ownsRow_base ho (Nat.zero_le _)) fun k hk => ho.lt k hk
theorem encP_len (x : Plc) : (encP x).length = 3 := rfl
/-- What is laid so far. -/
def laidF (f : Plc → Int) (l : List Plc) : Plc → Int := fun x => if x ∈ l then f x else 0
theorem laidF_nil (f : Plc → Int) : laidF f [] = fun _ => 0 := by funext x; simp [laidF]
theorem laidF_step {f : Plc → Int} {l : List Plc} {j : Nat} (hj : j < l.length) {x : Plc} (hx : l.getD j z3 = x) : laidF f (l.take (j + 1)) = upd (laidF f (l.take j)) x (f x) := by
  have e : l.take (j + 1) = l.take j ++ [x] := by
    rw [List.take_succ_eq_append_getElem hj, ← hx]
    simp [hj]
  funext y
  rw [e]
  unfold laidF upd
  by_cases hy : y = x
  · subst hy; simp
  · simp [hy]
theorem laidF_all {f : Plc → Int} {l : List Plc} (h : PlacesOf f l) : laidF f l = f := by
  funext y
  unfold laidF
  by_cases hy : y ∈ l
  · rw [if_pos hy]
  · rw [if_neg hy]
    exact (Classical.byContradiction fun h0 => hy ((h.2 y).2 (fun e => h0 e.symm)))

section
variable {w0 w : World} {R : List Item} {m : Nat} {FU : Nat → Prop} {ml : List OneR}
set_option maxHeartbeats 6400000 in
theorem laid_t (hml : ml.length ≤ 10000) (hW : Words (getL ml)) (hE : Env w0 (refI m FU ml :: R) w) :
    Calls Tryz.prog 10 #[.pointer (some ⟨m, 0, none⟩)] w fun o w' => ∃ (p cc n : Nat) (G : Nat → Prop), o = .returned (.pointer (some ⟨p, 0, none⟩)) ∧ n ≤ ml.length ∧ Env w0 (wbox p cc :: cellI cc G (getL ml) ⟨0, (n : Int), 0, 0, 0⟩ n :: refI m FU ml :: R) w' := by
  have HW := Lib.hid hW
  have HML := Lib.hid hml
  clear hW hml
  go_enter Tryz.func10, Tryz.ntmps10
  go_wp2_with fail
  refine (new_w hE).mono ?_
  rintro o w1 ⟨p, cc, rfl, hE1, -⟩
  clear hE
  go_wp2_with fail
  refine (refPlaces_any (by have := HML.out; omega) (hE1.ref 2 rfl).nodup (hE1.ref 2 rfl)).mono ?_
  rintro o w2 ⟨pl, v2, rfl, hpl, hpn, ho, hb⟩
  obtain ⟨A, cap, rfl⟩ := ownsRow_slice ho
  have hE2 := hE1.addPl ho hb
  have HPL := Lib.hid hpl
  have hpl1 : pl.length ≤ 10000 := by have := HML.out; omega
  have HPN := Lib.hid hpn
  clear hb ho hE1 hpl hpn
  rw [← laidF_nil (getL ml)] at hE2
  go_wp2_with fail
  go_loopw [5] (fun iv wr => ∃ (j : Nat) (G : Nat → Prop), j ≤ pl.length ∧ iv = .int .i64 j ∧ Env w0 (rowKI encP 3 (.slice A pl.length cap) 58 pl :: wbox p cc :: cellI cc G (laidF (getL ml) (pl.take j)) ⟨0, (j : Int), 0, 0, 0⟩ j :: refI m FU ml :: R) wr) (fun iv _ => pl.length - (intOf iv).toNat)
  case atStart => exact ⟨0, _, Nat.zero_le _, rfl, hE2⟩
  case round =>
    clear hE2
    obtain ⟨j, G, hj, rfl, hE⟩ := hrel
    by_cases hlt : j < pl.length
    · have hb1 : decide ((j : Int) < (pl.length : Int)) = true := by simp; omega
      have hlt1 : (j : Int) < (pl.length : Int) := by omega
      obtain ⟨⟨x, y, z⟩, hx⟩ : ∃ x, pl.getD j z3 = x := ⟨_, rfl⟩
      obtain ⟨g, off, rfl⟩ : ∃ g off, A = some ⟨g, off, none⟩ := by
        rcases hE.cellsK encP_len 0 rfl rfl with h0 | ⟨g, off, h, -⟩
        · rw [h0] at hlt; simp at hlt
        · exact ⟨g, off, h⟩
      have HC : Hid (∀ G f q n v, Env w0 (rowKI encP 3 (.slice (some ⟨g, off, none⟩) pl.length cap) 58 pl :: wbox p cc :: cellI cc G f q n :: refI m FU ml :: R) v → v.cell? ⟨g, off + j * 3, none⟩ = some (.int .i64 x) ∧ v.cell? ⟨g, off + j * 3 + 1, none⟩ = some (.int .i64 y) ∧ v.cell? ⟨g, off + j * 3 + 2, none⟩ = some (.int .i64 z)) := Lib.hid fun G f q n v hv => by
        rcases hv.cellsK encP_len 0 rfl rfl with h0 | ⟨g', off', h, -, hc⟩
        · rw [h0] at hlt; simp at hlt
        · cases h
          have h9 := hc j hlt
          rw [show pl.getD j default = (x, y, z) from hx] at h9
          exact ⟨h9 0 _ rfl, h9 1 _ rfl, h9 2 _ rfl⟩
      obtain ⟨u, hu⟩ : ∃ u, getL ml (x, y, z) = u := ⟨_, rfl⟩
      have HGT : Hid (∀ G f q n v, Env w0 (rowKI encP 3 (.slice (some ⟨g, off, none⟩) pl.length cap) 58 pl :: wbox p cc :: cellI cc G f q n :: refI m FU ml :: R) v → Calls Tryz.prog 50 #[.pointer (some ⟨m, 0, none⟩), .agg #[.int .i64 x, .int .i64 y, .int .i64 z]] v fun e v' => e = .returned (.int .u64 u) ∧ Below v.heap.size v v') := Lib.hid fun G f q n v hv => by
        rw [← hu]
        exact refGet_any x y z (by have := HML.out; omega) (hv.ref 3 rfl)
      have hmem : (x, y, z) ∈ pl := by
        rw [← hx, List.getD_eq_getElem?_getD, List.getElem?_eq_getElem hlt]
        exact List.getElem_mem hlt
      have hwf : Wf (x, y, z) := Classical.byContradiction fun h => ((HPL.out.2 _).1 hmem) (HW.out.out _ h)
      have hui : InU u := by rw [← hu]; exact HW.out.u _
      have hstep : laidF (getL ml) (pl.take (j + 1)) = upd (laidF (getL ml) (pl.take j)) (x, y, z) u := by rw [laidF_step hlt hx, hu]
      have hwj : wrap64 ((j : Int) + 1) = (j : Int) + 1 := w64 _ (by omega)
      have HWF := Lib.hid hwf
      have HUI := Lib.hid hui
      have HSTEP := Lib.hid hstep
      have HWJ := Lib.hid hwj
      clear hmem hwf hui hstep hwj hu hx
      obtain ⟨c0, c1, c2⟩ := HC.out _ _ _ _ _ hE
      go_wp2_with fail
      clear c0 c1 c2
      refine Ord.wp_chain [13] (fun v => ∃ G f q n, Env w0 (rowKI encP 3 (.slice (some ⟨g, off, none⟩) pl.length cap) 58 pl :: wbox p cc :: cellI cc G f q n :: refI m FU ml :: R) v) (fun k w' => ∃ G, Env w0 (rowKI encP 3 (.slice (some ⟨g, off, none⟩) pl.length cap) 58 pl :: wbox p cc :: (if k = 0 then cellI cc G (laidF (getL ml) (pl.take j)) ⟨0, (j : Int), 0, 0, 0⟩ j else cellI cc G (upd (laidF (getL ml) (pl.take j)) (x, y, z) u) ⟨0, wrap64 ((j : Int) + 1), 0, 0, 0⟩ (j + 1)) :: refI m FU ml :: R) w') (by kernel_rfl) (by kernel_rfl) (by kernel_rfl) ⟨_, _, _, _, hE.drew⟩ ⟨_, hE.drew⟩ (fun hT => ?_)
      have hT9 := Lib.hid hT
      clear hT
      repeat (first
        | (refine Ord.ch_value (v := ?_) hT9.out (by decide) (by rfl) ?_ ?_; rotate_left; (focus (intro w5 hS; obtain ⟨G8, f8, q8, n8, hS8⟩ := hS; obtain ⟨c0, c1, c2⟩ := HC.out _ _ _ _ _ hS8; go_simp <;> with_reducible rfl)); (try simp only [Act.put, List.setIfInBounds_toArray, List.set_cons_zero, List.set_cons_succ]))
        | (refine Ord.ch_off hT9.out (by decide) (by rfl) ?_; (try simp only [Act.put, List.setIfInBounds_toArray, List.set_cons_zero, List.set_cons_succ]))
        | (refine Ord.ch_call (v := ?_) (f := ?_) (args := ?_) hT9.out (by decide) (by rfl) ?_ ?_ ?_; rotate_left 3; (focus (intro w5 hS; obtain ⟨G8, f8, q8, n8, hS8⟩ := hS; obtain ⟨c0, c1, c2⟩ := HC.out _ _ _ _ _ hS8; go_simp; constructor <;> with_reducible rfl)); (focus (intro w5 hS; (first | (obtain ⟨G8, f8, q8, n8, hS8⟩ := hS; with_reducible refine (HGT.out _ _ _ _ _ hS8).mono ?_; rintro o w6 ⟨rfl, hb6⟩; constructor; with_reducible rfl; exact ⟨⟨G8, f8, q8, n8, hS8.over hb6⟩, fun k h => h.elim fun G h => ⟨G, h.over hb6⟩⟩)))); (try simp only [Act.put, List.setIfInBounds_toArray, List.set_cons_zero, List.set_cons_succ])))
      refine Ord.ch_turn (v := .tuple #[]) 0 hT9.out rfl (by decide) (Or.inl rfl) (by rfl) ?_ ?_
      · rintro w5 hC5 ⟨G5, hA5⟩
        simp only [if_true] at hA5
        go_simp
        simp only [Ord.LandsIn]
        refine (store_w x y z 0 u 0 false HWF.out HUI.out (by unfold maxLen; omega) 1 2 (by decide) hA5 rfl rfl).mono ?_
        rintro e w6 ⟨rfl, G6, hE6⟩
        exact ⟨rfl, ⟨_, _, _, _, hE6⟩, G6, hE6⟩
      (try simp only [Act.put, List.setIfInBounds_toArray, List.set_cons_zero, List.set_cons_succ])
      refine Ord.InText.nil fun w5 hS => ?_
      clear hT9
      obtain ⟨hC9, hA9⟩ := Ord.chain_end hS
      clear hS
      obtain ⟨G9, hA9⟩ := hA9
      simp only [List.length_cons, List.length_nil, Nat.zero_add, Nat.one_ne_zero, if_false] at hA9
      rw [← HSTEP.out, HWJ.out] at hA9
      clear hC9 hE
      go_wp2_with fail
      exact ⟨⟨j + 1, G9, by omega, by simp, by simpa using hA9⟩, by simp [intOf]; omega⟩
    · have hb1 : decide ((j : Int) < (pl.length : Int)) = false := by simp; omega
      have hjl : j = pl.length := by omega
      have HJL := Lib.hid hjl
      clear hjl
      go_wp2_with fail
      go_ret
      refine ⟨p, cc, j, G, rfl, by have := HPN.out; omega, ?_⟩
      have h9 : laidF (getL ml) (pl.take j) = getL ml := by rw [HJL.out, List.take_length]; exact laidF_all HPL.out
      rw [h9] at hE
      exact hE.sub (.cons _ (List.Sublist.refl _))
end
end Go.Proofs.YtchcdfoncebemaaGreatDoor

/- Searches: the program is awake. -/
namespace Go.Proofs.YtchcdfoncebemaaGreatDoor
open Go.RowKit Go.Maps
set_option maxRecDepth 100000

/-- The list that awake lays. -/
def ns15 : List Nd := [⟨2, 3, 30, false⟩, ⟨1, 4, 0, true⟩, ⟨3, 7, 70, false⟩]
def ml15 : List OneR := layL 0 5 ns15 (4, 0, 0) false (setL [] (1, 0, 0) 5)
/-- So many steps of a search alone. -/
def runS (k key : Int) (vs : Bool) (f : Plc → Int) : Nat → Int × Sm × (Plc → Int)
  | 0 => (0, T0s, f)
  | n + 1 => searchM k key vs (runS k key vs f n).2.1 (runS k key vs f n).2.2
theorem ok15 : ∀ n ∈ ns15, NdOk n := by
  intro n hn
  simp only [ns15, List.mem_cons, List.not_mem_nil, or_false] at hn
  rcases hn with rfl | rfl | rfl <;> simp [NdOk, InU]
theorem words15 : Words (getL ml15) := words_lay (by omega) ns15 _ _ _ ok15 (by unfold Wf In64; simp) ((show Words (getL []) from Words.zero).setL (by unfold Wf In64; simp) (by simp [InU]))
theorem busy15 : ∀ n, n < 16 → (runS 0 7 true (getL ml15) n).1 = 0 := by decide +kernel
theorem done15 : (runS 0 7 true (getL ml15) 16).1 = 1 := by decide +kernel
theorem fin15 : (runS 0 7 true (getL ml15) 16).2.1.L.fd = true ∧ (runS 0 7 true (getL ml15) 16).2.1.L.C = 3 ∧ (runS 0 7 true (getL ml15) 16).2.1.L.V = 70 ∧ (runS 0 7 true (getL ml15) 16).2.1.L.p = (5, 2, 7) := by decide +kernel
theorem runS_ok {k key : Int} {vs : Bool} {f : Plc → Int} {N : Nat} (hk : In64 k) (hw : ∀ n, n ≤ N → ∀ x, InU ((runS k key vs f n).2.2 x)) (h0 : ∀ n, n < N → (runS k key vs f n).1 = 0) : ∀ n, n < N → SmOk (runS k key vs f n).2.1
  | 0, _ => T0s_ok
  | n + 1, hn => search_ok hk (runS_ok hk hw h0 n (by omega)) (hw n (by omega)) (h0 (n + 1) hn)

theorem at_place (v : World) (x y z d : Int) : (Instr.field 72 (.agg #[.int .i64 x, .int .i64 y, .int .i64 z, .int .i64 d]) 0).run Tryz.prog v = .ok (.agg #[.int .i64 x, .int .i64 y, .int .i64 z]) v := by kernel_rfl
set_option maxHeartbeats 6400000 in
theorem awake15 (w : World) (hg : Glo w) : Calls Tryz.prog 7 #[] w fun o w' => o = .returned (.bool true) ∧ Below w.heap.size w w' := by
  have hE := (Env.start w).newU w.heap.size rfl 29
  have hE1 := hE.box (w.heap.size + 1) (by simp) (flatK encN ns15) 87
  have HG := Lib.hid hg
  have HC := Lib.hid (show chkI 2 1000 3 1 1073741824 = 0 by decide)
  clear hg hE
  go_enter Tryz.func7, Tryz.ntmps7
  go_wp2_with fail
  refine (lay_t (R := [boxI (w.heap.size + 1) (flatK encN ns15)]) 0 0 5 (some ⟨w.heap.size + 1, 0, none⟩) 3 ns15 (by omega) (by omega) (by decide) (by decide) (fun F l v hv => Blk.rowK (enc := encN) (k := 4) (fun _ => rfl) (show Blk 0 v (w.heap.size + 1) (flatK encN ns15) from hv.get 1 rfl)) (hE1.perm (List.Perm.swap _ _ _))).mono ?_
  rintro o w1 ⟨rfl, F1, hE2⟩
  replace hE2 : Env w (refI w.heap.size F1 ml15 :: [boxI (w.heap.size + 1) (flatK encN ns15)]) w1 := hE2
  clear hE1
  generalize w.heap.size = m at *
  go_wp2_with fail
  refine (laid_t (by decide) words15 hE2).mono ?_
  rintro o w2 ⟨p, cc, n2, G2, rfl, hn2, hE3⟩
  replace hn2 : n2 ≤ 12 := Nat.le_trans hn2 (by decide)
  have HN2 := Lib.hid hn2
  clear hE2 hn2
  go_wp2_with fail
  refine (conf15 _).mono ?_
  rintro o w3 ⟨rfl, hb⟩
  replace hE3 := hE3.over hb
  clear hb
  go_wp2_with fail
  refine (newYes_c 2 1000 3 1 1073741824 HC.out hE3).mono ?_
  rintro o w4 ⟨c, q, F, rfl, hE4⟩
  clear hE3
  go_wp2_with fail
  refine (newSearch_l c 0 7 true hE4).mono ?_
  rintro o w5 ⟨sb, rfl, hE5⟩
  clear hE4
  have hR : SrchR w [refI m F1 ml15, boxI (m + 1) (flatK encN ns15)] sb 0 7 true (mkS ⟨c, q, p, cc, F, 2⟩ G2 (getL ml15) ⟨0, (n2 : Int), 0, 0, 0⟩ n2 0 0) 0 T0s w5 := SrchR.start hE5
  clear hE5
  go_wp2_with fail
  go_loopw [4, 5, 6] (fun nv sv iv wr => ∃ (j mm : Nat) (G : Nat → Prop) (qc : Cnt) (s : Int) (T : Sm) (f : Plc → Int), nv = .int .i64 j ∧ iv = .int .i64 j ∧ sv = .int .i64 s ∧ j ≤ 16 ∧ mm ≤ 20 + j ∧ Hid (runS 0 7 true (getL ml15) j = (s, T, f)) ∧ Hid (s = 0 → SmOk T) ∧ SrchR w [refI m F1 ml15, boxI (m + 1) (flatK encN ns15)] sb 0 7 true (mkS ⟨c, q, p, cc, F, 2⟩ G f qc mm T.e T.r) s T wr) (fun nv _ _ _ => 40 - (intOf nv).toNat)
  case atStart => exact ⟨0, n2, G2, _, 0, T0s, _, rfl, rfl, rfl, by omega, by have := HN2.out; omega, Lib.hid rfl, Lib.hid (fun _ => T0s_ok), hR⟩
  case round =>
    clear hR
    obtain ⟨j, mm, G, qc, s, T, f, rfl, rfl, rfl, hj, hmm, hrun, hok, hR⟩ := hrel
    by_cases hlt : j < 16
    · have hs : s = 0 := by
        have h1 := busy15 j hlt
        rw [hrun.out] at h1
        exact h1
      subst hs
      have hb1 : decide ((j : Int) < 40) = true := by simp; omega
      have hW := hR.words
      have hT := hok.out rfl
      have hst := search_k hT HG.out (by unfold maxLen; omega) hR
      have HNX : Hid (runS 0 7 true (getL ml15) (j + 1) = searchM 0 7 true T f) := Lib.hid (by show searchM 0 7 true (runS 0 7 true (getL ml15) j).2.1 (runS 0 7 true (getL ml15) j).2.2 = _; rw [hrun.out])
      have HOK : Hid ((searchM 0 7 true T f).1 = 0 → SmOk (searchM 0 7 true T f).2.1) := Lib.hid (search_ok (by unfold In64; omega) hT hW.u)
      have HM : Hid (mM T mm ≤ 20 + (j + 1)) := Lib.hid (by have := mM_le T mm; omega)
      generalize searchM 0 7 true T f = q9 at *
      generalize qcM T f qc = qc9 at *
      generalize mM T mm = mm9 at *
      obtain ⟨s9, T9, f9⟩ := q9
      have HST := Lib.hid hst
      clear hst hR hW hT hok hrun
      go_wp2_with fail
      refine HST.out.mono ?_
      rintro o w6 ⟨rfl, G9, hR9⟩
      go_wp2_with fail
      exact ⟨⟨j + 1, mm9, G9, qc9, s9, T9, f9, by simp, by simp, rfl, by omega, HM.out, HNX, HOK, hR9⟩, by simp [intOf]; omega⟩
    · have hj16 : j = 16 := by omega
      subst hj16
      have hs : s = 1 := by
        have h1 := done15
        rw [hrun.out] at h1
        exact h1
      have hfin := fin15
      rw [hrun.out] at hfin
      subst hs
      obtain ⟨on, ⟨p0, pc, W, X, K, V, C, fd⟩, e, r⟩ := T
      obtain ⟨h1, h2, h3, h4⟩ := hfin
      dsimp only at h1 h2 h3 h4
      subst h1 h2 h3 h4
      obtain ⟨-, -, ⟨-, h0, -⟩ | ⟨-, a, nx, wd, B1, B2, -, hE⟩⟩ := hR
      · exact absurd h0 (by decide)
      clear hok hrun
      have hap := at_place
      have HLK : Hid (∀ v, Calls Tryz.prog 38 #[.int .i64 2, .int .i64 0] v fun e w' => e = .returned (.agg #[.int .i64 5, .int .i64 2, .int .i64 7]) ∧ Below v.heap.size v w') := Lib.hid fun v => by
        have := link_any 2 0 v
        rwa [show wrap64 (7 + 0) = 7 from w64 _ (by omega)] at this
      replace hE : Env w (boxI a (laneC c 0 7 true nx 1 5 2 7 W 3 X wd true 70) :: B1 :: B2 :: LT (mkS ⟨c, q, p, cc, F, 2⟩ G f qc mm e r) [boxI sb (srC c 0 7 true (.pointer (some ⟨a, 0, none⟩))), refI m F1 ml15, boxI (m + 1) (flatK encN ns15)]) wr := hE
      go_wp2_with fail
      refine (lane_g (hE.get 7 rfl)).mono ?_
      rintro o w6 ⟨rfl, rfl⟩
      go_wp2_with (first
        | (with_reducible refine (found_g (hE.get 0 rfl)).mono ?_; rintro o w7 ⟨rfl, rfl⟩)
        | (with_reducible refine (val_g (hE.get 0 rfl)).mono ?_; rintro o w7 ⟨rfl, rfl⟩)
        | (with_reducible refine (who_g (hE.get 0 rfl)).mono ?_; rintro o w7 ⟨rfl, hb⟩; replace hE := hE.over hb; clear hb)
        | (with_reducible refine (at_g (hE.get 0 rfl)).mono ?_; rintro o w7 ⟨rfl, hb⟩; replace hE := hE.over hb; clear hb)
        | (with_reducible refine (HLK.out _).mono ?_; rintro o w7 ⟨rfl, hb⟩; replace hE := hE.over hb; clear hb))
      go_ret
      exact ⟨rfl, hE.below⟩
end Go.Proofs.YtchcdfoncebemaaGreatDoor

/- Both searches: boxes beside them; bounds; the end. -/
namespace Go.Proofs.YtchcdfoncebemaaGreatDoor
open Go.RowKit Go.Maps
set_option maxRecDepth 100000

section
variable {w0 w w' : World} {R R' : List Item} {J : Js} {G : Nat → Prop} {f f2 : Plc → Int} {qc : Cnt} {n N X : Nat} {s : Int} {T T2 : Sm} {vs : List Value}
theorem perm_rest (M Q R : List Item) (a b c : Item) : (M ++ (Q ++ (a :: b :: c :: R))).Perm (R ++ (M ++ (Q ++ [a, b, c]))) := perm_of fun z => by simp only [List.count_append, List.count_cons, List.count_nil]; omega
theorem BothE.perm (h : BothE w0 R J G f qc n s T T2 f2 N w) (hp : R.Perm R') : BothE w0 R' J G f qc n s T T2 f2 N w := by
  obtain ⟨M, Q, F, ml, h1, h2, h3, h4, hE⟩ := h
  exact ⟨M, Q, F, ml, h1, h2, h3, h4, hE.perm (((((hp.cons _).cons _).cons _).append_left Q).append_left M)⟩
theorem BothE.box (h : BothE w0 R J G f qc n s T T2 f2 N w) (X : Nat) (hX : w.heap.size = X) (vs : List Value) (t : TypeId) : BothE w0 (boxI X vs :: R) J G f qc n s T T2 f2 N (w.alloc (.cells vs.toArray t)) := by
  obtain ⟨M, Q, F, ml, h1, h2, h3, h4, hE⟩ := h
  refine ⟨M, Q, F, ml, h1, h2, h3, h4, (hE.box X hX vs t).perm (perm_of fun z => ?_)⟩
  simp only [List.count_append, List.count_cons]
  omega
theorem BothE.tail {x : Item} (h : BothE w0 (x :: R) J G f qc n s T T2 f2 N w) : BothE w0 R J G f qc n s T T2 f2 N w := by
  obtain ⟨M, Q, F, ml, h1, h2, h3, h4, hE⟩ := h
  refine ⟨M, Q, F, ml, h1, h2, h3, h4, hE.sub ?_⟩
  exact (((((List.sublist_cons_self x R).cons_cons _).cons_cons _).cons_cons _).append_left Q).append_left M
theorem BothE.put (h : BothE w0 (boxI X vs :: R) J G f qc n s T T2 f2 N w) {j : Nat} (hj : j < vs.length) (v : Value) : BothE w0 (boxI X (vs.set j v) :: R) J G f qc n s T T2 f2 N (w.setCell ⟨X, j, none⟩ v) := by
  obtain ⟨M, Q, F, ml, h1, h2, h3, h4, hE⟩ := h
  have h9 := (hE.perm (perm_rest M Q _ _ _ _)).put 0 rfl hj v
  exact ⟨M, Q, F, ml, h1, h2, h3, h4, h9.perm (perm_rest M Q (boxI X (vs.set j v) :: R) _ _ _).symm⟩
theorem BothE.blk (h : BothE w0 (boxI X vs :: R) J G f qc n s T T2 f2 N w) : Blk 0 w X vs := h.rest (List.mem_cons_self ..)
/-- At its end. -/
theorem BothE.done (hn : n ≤ 900000) (hN : N ≤ 900000) (h : BothE w0 R J G f qc n s T T2 f N w) (h1 : T.on = true) (h2 : T2.on = true) : ∃ (E : World → Prop) (a b : Nat) (nx : Value) (wd : Int), E w ∧ (∀ v v', E v → Below v.heap.size v v' → E v') ∧ (∀ v, E v → Calls Tryz.prog 27 #[.pointer (some ⟨J.B.p, 0, none⟩), .pointer (some ⟨J.m, 0, none⟩)] v fun o w' => o = .returned (.bool true) ∧ E w') ∧ ∀ v, E v → Below w0.heap.size w0 v ∧ Blk 0 v a (laneV J.B.c 0 J.key J.vs nx s wd (pfS s T.L) (pvS s T.L) T.L) ∧ Blk 0 v J.sb (srC J.B.c J.k J.key J.vs (.pointer (some ⟨a, 0, none⟩))) ∧ Blk 0 v b (rlV 0 J.key J.vs T2.L) ∧ Blk 0 v J.qb (rsC J.k J.key J.vs true (some ⟨b, 0, none⟩)) := by
  obtain ⟨M, Q, F, ml, hM, hQ, rfl, h4, hE⟩ := h
  obtain ⟨a, nx, wd, m1, m2⟩ := hM.2.2 h1
  obtain ⟨b, m3, m4⟩ := hQ.2.2 h2
  refine ⟨fun v => Env w0 (M ++ (Q ++ (wbox J.B.p J.B.cc :: cellI J.B.cc G (getL ml) qc n :: refI J.m F ml :: R))) v, a, b, nx, wd, hE, fun v v' h hb => h.over hb, fun v hv => ?_, fun v hv => ⟨hv.below, hv.mem (List.mem_append_left _ m1), hv.mem (List.mem_append_left _ m2), hv.mem (List.mem_append_right _ (List.mem_append_left _ m3)), hv.mem (List.mem_append_right _ (List.mem_append_left _ m4))⟩⟩
  refine (memory15 (by omega) hn (hv.perm (perm_mem M Q R _ _ _))).mono ?_
  rintro o w1 ⟨rfl, hE'⟩
  exact ⟨rfl, hE'.perm (perm_mem M Q R _ _ _).symm⟩
end
/-- Counts that are small. -/
def QB (q : Cnt) (K : Nat) : Prop := (0 ≤ q.l ∧ q.l ≤ K) ∧ (0 ≤ q.s ∧ q.s ≤ K) ∧ (0 ≤ q.w ∧ q.w ≤ K) ∧ (0 ≤ q.a ∧ q.a ≤ K)
theorem QB.d {q : Cnt} {K : Nat} (h : QB q K) (hK : K ≤ 1000000) (kd : Int) : QB (dQ kd q) (K + 1) := by
  obtain ⟨h1, h2, h3, h4⟩ := h
  unfold dQ
  split
  · refine ⟨?_, ?_, ?_, ?_⟩ <;> dsimp only <;> first | omega | (rw [w64 _ (by omega)]; omega)
  · refine ⟨?_, ?_, ?_, ?_⟩ <;> omega
/-- One access more, no store more. -/
theorem QB.step {q : Cnt} {K : Nat} (h : QB q K) (hK : K ≤ 1000000) (T : Sm) (f : Plc → Int) : QB (qcM T f q) (K + 1) ∧ (qcM T f q).l + (qcM T f q).w + (qcM T f q).s + (qcM T f q).a = q.l + q.w + q.s + q.a + 1 ∧ (qcM T f q).s = q.s := by
  obtain ⟨h1, h2, h3, h4⟩ := h
  have hl : wrap64 (q.l + 1) = q.l + 1 := w64 _ (by omega)
  have hw : wrap64 (q.w + 1) = q.w + 1 := w64 _ (by omega)
  unfold qcM laneQ swq
  by_cases c1 : T.on = true
  · by_cases c2 : T.L.pc = 5
    · rw [if_pos c1, if_pos c2]
      refine ⟨⟨?_, ?_, ?_, ?_⟩, ?_, ?_⟩ <;> dsimp only <;> omega
    · rw [if_pos c1, if_neg c2]
      refine ⟨⟨?_, ?_, ?_, ?_⟩, ?_, ?_⟩ <;> dsimp only <;> omega
  · rw [if_neg c1]
    refine ⟨⟨?_, ?_, ?_, ?_⟩, ?_, ?_⟩ <;> dsimp only <;> omega
def eR (T : Sm) : Prop := 0 ≤ T.e ∧ T.e ≤ 9223372036854775807
theorem search_e {k key : Int} {vs : Bool} {T : Sm} {f : Plc → Int} (h : eR T) (hu : ∀ x, InU (f x)) : eR (searchM k key vs T f).2.1 := by
  unfold searchM
  by_cases c : T.on = true
  · rw [if_pos c]; exact h
  · rw [if_neg c]; exact epI_in (hu _)
theorem search_one {k key : Int} {vs : Bool} {T : Sm} {f : Plc → Int} (h : (searchM k key vs T f).1 = 1) : (searchM k key vs T f).2.1.on = true := by
  unfold searchM at h ⊢
  by_cases c : T.on = true
  · rw [if_pos c] at h ⊢
    by_cases c2 : (laneM 0 key vs T.e T.L f).1 = 1
    · simp [c2]
    · simp [c2] at h
  · rw [if_neg c] at h
    simp at h
theorem search_state {k key : Int} {vs : Bool} {T : Sm} {f : Plc → Int} : (searchM k key vs T f).1 = 0 ∨ (searchM k key vs T f).1 = 1 := by
  unfold searchM
  by_cases c : T.on = true
  · rw [if_pos c]
    by_cases c2 : (laneM 0 key vs T.e T.L f).1 = 1
    · right; simp [c2]
    · left; simp [c2]
  · rw [if_neg c]; left; rfl
end Go.Proofs.YtchcdfoncebemaaGreatDoor

/- What the condition on the package's variables gives: the three fields stand in them; and that the program's own start meets it. -/
namespace Go.Proofs.YtchcdfoncebemaaGreatDoor
open Go.ChangeShapes Go.WideShapes Go.ChangeAt Go.RowKit
set_option maxRecDepth 100000

section
variable {P : Program} {w : World}
theorem cell_lt {b o : Nat} {v : Value} (h : w.cell? ⟨b, o, none⟩ = some v) : b < w.heap.size := by
  rcases Nat.lt_or_ge b w.heap.size with h' | h'
  · exact h'
  · simp [World.cell?, Array.getElem?_eq_none h'] at h
/-- The head of a list of laid variables: a struct of two ints. -/
theorem laid_pair {n : String} {g : Nat} {t k : TypeId} {f0 f1 : Field} {a b : Int} {r : List (String × DataW Unit)} {ps : List MemPlace}
    (h : DataW.LaidVars P w ((n, .agg [.lit (.int .i64 a), .lit (.int .i64 b)]) :: r) ps) (hg : P.globalNamed n = some g) (ht : (P.globals[g]?).map (·.type) = some t)
    (hs : P.underlying t = some (.struct #[f0, f1])) (hc : P.cellsOf t = 2) (h0 : f0.offset = 0) (h1 : f1.offset = 1) (hk0 : f0.type = k) (hk1 : f1.type = k) (hk : P.cellsOf k = 1) (hi : P.underlying k = some (.int .i64)) :
    w.cell? ⟨g, 0, none⟩ = some (.int .i64 a) ∧ w.cell? ⟨g, 1, none⟩ = some (.int .i64 b) ∧ ∃ q, DataW.LaidVars P w r q := by
  obtain ⟨g', t', cs, fuel, p, q, hg', ht', hv, hd, hr, -⟩ := h
  obtain rfl := Option.some.inj (hg.symm.trans hg')
  obtain rfl := Option.some.inj (ht.symm.trans ht')
  obtain ⟨xs, m, -, hx, hl, hn, hel⟩ := DataW.trod_struct hs hd
  have e0 := hel 0 f0 rfl
  have e1 := hel 1 f1 rfl
  rw [h0, hk0, hk] at e0
  rw [h1, hk1, hk] at e1
  obtain ⟨l⟩ := cs
  rw [hc] at hl
  match l, hl, xs, hn, hx, e0, e1, hv with
  | [c0, c1], _, [x0, x1], _, hx, e0, e1, hv =>
    simp only [Prod.mk.injEq, List.map_cons, List.map_nil, DataW.agg.injEq, List.cons.injEq] at hx
    obtain ⟨n0, s0, y0, -⟩ := DataW.trod_int hi (show DataW.trod _ P w 0 _ false m k [c0] = some x0 from e0)
    obtain ⟨n1, s1, y1, -⟩ := DataW.trod_int hi (show DataW.trod _ P w 0 _ false m k [c1] = some x1 from e1)
    simp at s0 s1
    subst s0 s1
    have k0 := hx.1.1
    have k1 := hx.1.2.1
    rw [y0] at k0
    rw [y1] at k1
    simp at k0 k1
    subst k0 k1
    exact ⟨by rw [World.var?_cell hg hv 0]; rfl, by rw [World.var?_cell hg hv 1]; rfl, q, hr⟩
end

def laid3 : List (String × DataW Unit) := [("revenant/link.versionPart", Rows.laid_revenant_link_versionPart), ("revenant/link.slotPart", Rows.laid_revenant_link_slotPart), ("revenant/link.markPart", Rows.laid_revenant_link_markPart)]

/-- What the condition gives the walks. -/
theorem glo_of_laid {W : World} (h : laidMetH Tryz.prog laid3 W) : Glo W := by
  rw [MakeChecks.laidMetH_plain _ _ _ (by kernel_rfl)] at h
  obtain ⟨ps, h, -, -⟩ := h
  obtain ⟨a0, a1, q1, h⟩ := laid_pair (g := 2) (t := 124) (k := 3) h (by kernel_rfl) (by kernel_rfl) Tryz.underlying124 (by kernel_rfl) rfl rfl rfl rfl (by kernel_rfl) Tryz.underlying3
  obtain ⟨b0, b1, q2, h⟩ := laid_pair (g := 0) (t := 124) (k := 3) h (by kernel_rfl) (by kernel_rfl) Tryz.underlying124 (by kernel_rfl) rfl rfl rfl rfl (by kernel_rfl) Tryz.underlying3
  obtain ⟨c0, c1, q3, h⟩ := laid_pair (g := 1) (t := 124) (k := 3) h (by kernel_rfl) (by kernel_rfl) Tryz.underlying124 (by kernel_rfl) rfl rfl rfl rfl (by kernel_rfl) Tryz.underlying3
  exact ⟨⟨a0, a1⟩, ⟨b0, b1⟩, ⟨c0, c1⟩, cell_lt a0, cell_lt b0, cell_lt c0⟩

/-- The program's own start meets the condition. -/
theorem door_met (os : Os) (args : Array Value) : laidMetH Tryz.prog laid3 ((World.doorLaid Tryz.prog 24 os).forCall (fun _ _ => 0) ⟨#[], args, []⟩).memory :=
  laidMetH_of_parts3 (fuel := 8) (laidMet_of_run' 8 (by kernel_rfl) (by kernel_rfl)) (by kernel_rfl) (by kernel_rfl)
end Go.Proofs.YtchcdfoncebemaaGreatDoor
